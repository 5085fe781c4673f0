import PyProof.Rows.All
import Wide.All
import OpenK.AllK
import Wide.FinOn
import Lean
import PyProof.EqAt
import PyProof.EqKinds
import PyProof.TupleCall
import PyProof.EnumMake
import PyProof.Draws
import PyProof.InstStoreFacts
import PyProof.ExcArgs
import PyProof.ExcBaseAll.ValueError
import KE.KDictLaws
import OpenK.KOwn
import PyProof.ListRange
import PyProof.AttrMissHeap
import PyProof.MinMaxWalk
import PyProof.WalksMore
import PyProof.NeKinds
import KE.KDictList
import KE.KDictSum
import KE.KEqDict
import PySem.Challenge.RW_spoolhall_k13_a_printer_made_and_filled
set_option Elab.async false
set_option linter.all false
set_option maxRecDepth 100000
/-! THE HAND LAYER, for ints, bools, texts, own classes, LISTS and tuples (index, slices, in, append, pop ..), calls, loops. Paste it whole ahead of your own text; what your proof does not reach may be deleted. -/
namespace L2
open PySem PySem.Spec PyProof.Rows

/-- a key: an int or a str -/
abbrev Key := Sum Int Str
def keyIs : Key → Value → Bool
  | .inl k, v => Value.isInt k v
  | .inr x, v => Value.isStrOf x v
def keyH (w : World) : Key → Int
  | .inl k => hashInt k
  | .inr x => hashStr w x
theorem keyIs_shape : ∀ {k : Key} {v : Value}, keyIs k v = true → (∃ i t, k = Sum.inl i ∧ v = Value.int i t) ∨ (∃ x t, k = Sum.inr x ∧ v = Value.str x t)
  | .inl i, v, h => by
    obtain ⟨t, e⟩ := Value.isInt_shape (k := i) (v := v) h
    exact .inl ⟨i, t, rfl, e⟩
  | .inr x, v, h => by
    obtain ⟨t, e⟩ := Value.isStrOf_shape (x := x) (v := v) h
    exact .inr ⟨x, t, rfl, e⟩
theorem keyIs_int (i : Int) (t : Tok) : keyIs (.inl i) (.int i t) = true := by simp [keyIs, Value.isInt]
theorem keyIs_str (x : Str) (t : Tok) : keyIs (.inr x) (.str x t) = true := by simp [keyIs, Value.isStrOf]
theorem key_ll (a b : Int) : decide ((Sum.inl a : Key) = Sum.inl b) = (a == b) := by
  by_cases e : a = b
  · subst e; simp
  · have h : ¬ (Sum.inl a : Key) = Sum.inl b := fun q => e (Sum.inl.inj q)
    rw [decide_eq_false h]
    exact (beq_eq_false_iff_ne.mpr e).symm
theorem key_rr (a b : Str) : decide ((Sum.inr a : Key) = Sum.inr b) = decide (a = b) := by
  by_cases e : a = b
  · subst e; simp
  · have h : ¬ (Sum.inr a : Key) = Sum.inr b := fun q => e (Sum.inr.inj q)
    rw [decide_eq_false h, decide_eq_false e]
theorem key_lr (a : Int) (b : Str) : decide ((Sum.inl a : Key) = Sum.inr b) = false := decide_eq_false (fun q => nomatch q)
theorem key_rl (a : Str) (b : Int) : decide ((Sum.inr a : Key) = Sum.inl b) = false := decide_eq_false (fun q => nomatch q)

def mixKind (prog : Program) (w : World) : PySem.KeyKind prog w Key where
  is := keyIs
  hash := keyH w
  inj := fun v a b ha hb => by
    rcases keyIs_shape ha with ⟨i, t, rfl, rfl⟩ | ⟨x, t, rfl, rfl⟩
    · rcases keyIs_shape hb with ⟨j, u, rfl, e⟩ | ⟨y, u, rfl, e⟩
      · injection e with e1 _; rw [e1]
      · exact nomatch e
    · rcases keyIs_shape hb with ⟨j, u, rfl, e⟩ | ⟨y, u, rfl, e⟩
      · exact nomatch e
      · injection e with e1 _; rw [e1]
  byValue := fun k v h => by
    rcases keyIs_shape h with ⟨i, t, rfl, rfl⟩ | ⟨x, t, rfl, rfl⟩ <;> rfl
  pyHash := fun hv h => by
    rcases keyIs_shape hv with ⟨i, t, rfl, rfl⟩ | ⟨x, t, rfl, rfl⟩
    · exact wpAny_pyHash_int h
    · exact wpAny_pyHash_str h
  eqBool := fun hu hv h => by
    rcases keyIs_shape hu with ⟨i, t, rfl, rfl⟩ | ⟨x, t, rfl, rfl⟩
    · rcases keyIs_shape hv with ⟨j, u, rfl, rfl⟩ | ⟨y, u, rfl, rfl⟩
      · rw [key_ll] at h; exact wpAny_eqBool_int h
      · rw [key_lr] at h; exact SeqAt.EqAt.int_str i t y u _ _ _ _ h
    · rcases keyIs_shape hv with ⟨j, u, rfl, rfl⟩ | ⟨y, u, rfl, rfl⟩
      · rw [key_rl] at h; exact SeqAt.EqAt.str_int x t j u _ _ _ _ h
      · rw [key_rr] at h; exact wpAny_eqBool_str h
  «strs» := fun k x t v h => by
    rcases keyIs_shape h with ⟨i, u, rfl, e⟩ | ⟨y, u, rfl, e⟩
    · exact nomatch e
    · injection e with e1 _
      subst e1
      cases v <;> rfl

theorem mixKind_int (prog : Program) (w : World) (i : Int) (t : Tok) : (mixKind prog w).is (.inl i) (.int i t) = true := keyIs_int i t
theorem mixKind_str (prog : Program) (w : World) (x : Str) (t : Tok) : (mixKind prog w).is (.inr x) (.str x t) = true := keyIs_str x t
end L2

namespace L2
open PySem PySem.Spec PyProof.Rows

/-- a value, without the heap -/
inductive V where
  | non | bl (b : Bool) | int (i : Int) | str (x : Str) | byt (b : Array UInt8) | flt (b : UInt64) | ref (a : Addr) | ty (n : String)
  deriving DecidableEq

def RelV : V → Value → Prop
  | .non, u => u = Value.none
  | .bl b, u => u = Value.bool b
  | .int i, u => ∃ t, u = Value.int i t
  | .str x, u => ∃ t, u = Value.str x t
  | .byt b, u => ∃ t, u = Value.bytes b t
  | .flt b, u => ∃ t, u = Value.float b t
  | .ref a, u => u = Value.ref a
  | .ty n, u => u = Value.type n

abbrev Vals : List V → List Value → Prop := Paired RelV
theorem Vals.length {xs : List V} {us : List Value} (r : Vals xs us) : xs.length = us.length := Paired.length r
theorem Vals.get : ∀ {xs : List V} {us : List Value} {i : Nat} {x : V}, Vals xs us → xs[i]? = some x → ∃ u, us[i]? = some u ∧ RelV x u
  | _, _, _, _, .nil, e => by simp at e
  | _, _, 0, _, .cons r _, e => by simp at e; subst e; exact ⟨_, rfl, r⟩
  | _, _, i + 1, x, .cons _ t, e => by
    obtain ⟨u, h1, h2⟩ := Vals.get (i := i) (x := x) t (by simpa using e)
    exact ⟨u, by simpa using h1, h2⟩
theorem Vals.set {x : V} {u : Value} (r : RelV x u) : ∀ {xs : List V} {us : List Value} (i : Nat), Vals xs us → Vals (xs.set i x) (us.set i u)
  | _, _, _, .nil => .nil
  | _, _, 0, .cons _ t => .cons r t
  | _, _, i + 1, .cons q t => .cons q (Vals.set r i t)
theorem Vals.append : ∀ {xs ys : List V} {us ws : List Value}, Vals xs us → Vals ys ws → Vals (xs ++ ys) (us ++ ws)
  | _, _, _, _, .nil, s => s
  | _, _, _, _, .cons r t, s => .cons r (Vals.append t s)
theorem Vals.take : ∀ {xs : List V} {us : List Value} (n : Nat), Vals xs us → Vals (xs.take n) (us.take n)
  | _, _, 0, _ => .nil
  | _, _, _ + 1, .nil => .nil
  | _, _, n + 1, .cons r t => .cons r (Vals.take n t)
theorem Vals.drop : ∀ {xs : List V} {us : List Value} (n : Nat), Vals xs us → Vals (xs.drop n) (us.drop n)
  | _, _, 0, r => r
  | _, _, _ + 1, .nil => .nil
  | _, _, n + 1, .cons _ t => Vals.drop n t
theorem Vals.none_of : ∀ {xs : List V} {us : List Value} {i : Nat}, Vals xs us → xs[i]? = none → us[i]? = none := fun {xs us i} r e => by
  have h1 := r.length
  have h2 : xs.length ≤ i := List.getElem?_eq_none_iff.mp e
  exact List.getElem?_eq_none_iff.mpr (by omega)

def RelO : Option V → Option Value → Prop
  | some v, some u => RelV v u
  | none, none => True
  | _, _ => False
def KV {κ : Type} : List (κ × V) → List (κ × Value) → Prop := Paired fun (p : κ × V) (q : κ × Value) => p.1 = q.1 ∧ RelV p.2 q.2

/-- a key of a dict (00_mix): an int or a text -/
def kV : Key → V
  | .inl i => .int i
  | .inr x => .str x

/-- what stands at a tracked address -/
inductive HO where
  /-- a list -/
  | lst (xs : List V)
  /-- a tuple (never changes) -/
  | tup (xs : List V)
  /-- a dict whose keys are ints and texts; one whose keys are tuples of ints and texts (the empty one is both) -/
  | dK (kvs : List (Key × V)) | dT (kvs : List (List Key × V))
  /-- a set of ints: its members, its size -/
  | set (S : Int → Bool) (n : Nat)
  /-- an instance of the class at C, its dict at dx, its attributes -/
  | ins (C dx : Addr) (fs : List (Str × V))
  /-- the dict of the instance at x -/
  | own (x : Addr)
  /-- the dict of an exception -/
  | xd (fs : List (Str × V))
  /-- a bound method, f of x -/
  | met (f x : Addr)
  /-- a range object lo, lo + 1, .. below hi -/
  | rng (lo hi : Int)
  /-- a thing that is known to the object (the script; a dict while a loop walks it): read, never written while it is so -/
  | frz (o : Obj) (u : HO)
  /-- a code object's table -/
  | tbl (ps : Array Value)
  /-- any other thing, by what is true of its one object (a def of one's own: SetO a S n := HO.ext fun h => ..) -/
  | ext (φ : Heap → Prop)

abbrev Hp := Addr → Option HO
def upd (H : Hp) (a : Addr) (o : HO) : Hp := fun b => if b = a then some o else H b
theorem upd_same {H : Hp} {a : Addr} {o : HO} : upd H a o a = some o := by unfold upd; rw [if_pos rfl]
theorem upd_ne {H : Hp} {a b : Addr} {o : HO} (h : b ≠ a) : upd H a o b = H b := by unfold upd; rw [if_neg h]
theorem upd_upd {H : Hp} {a : Addr} {o u : HO} : upd (upd H a o) a u = upd H a u := by
  funext b; unfold upd; split <;> rfl
/-- two objects of different content stand apart -/
theorem ne_of {H : Hp} {a b : Addr} {o u : HO} (h : H a = some o) (h' : H b = some u) (d : o ≠ u) : a ≠ b := by
  intro e; subst e; rw [h] at h'; exact d (Option.some.inj h')
theorem ne_of_none {H : Hp} {a b : Addr} {o : HO} (h : H a = some o) (h' : H b = none) : a ≠ b := by
  intro e; subst e; rw [h] at h'; cases h'

section
variable (P : Program) (w : World)
def ObjOk (H : Hp) (h : Heap) (a : Addr) : HO → Prop
  | .lst xs => xs.length ≤ sizeLine ∧ ∃ (its : List Value) (n : Nat), Vals xs its ∧ h.get? a = some { cls := .type "list", data := .seq its.toArray n }
  | .tup xs => xs.length ≤ sizeLine ∧ ∃ its : List Value, Vals xs its ∧ IsTup h a its.toArray
  | .dK kvs => kvs.length ≤ sizeLine ∧ (a == sysModules) = false ∧ ∃ vs, KV kvs vs ∧ h.DictOf (mixKind P w) a vs
  | .dT kvs => kvs.length ≤ sizeLine ∧ (a == sysModules) = false ∧ ∃ xs : List (List Key × Addr × Value),
      Paired (fun (p : List Key × V) (q : List Key × Addr × Value) => p.1 = q.1 ∧ H q.2.1 = some (.tup (p.1.map kV)) ∧ RelV p.2 q.2.2) kvs xs ∧
      ∃ o es ep, h.get? a = some o ∧ o.ExactDict ∧ o.data = .dict es ep ∧ es.toList = xs.map (entryOfKey (tupleKind (mixKind P w))) ∧ (xs.map (·.1)).Nodup
  | .set S n => h.SetOf (intKind P w) a S n
  | .ins C dx fs => H dx = some (.own a) ∧ fs.length ≤ 1000 ∧ dx ≠ a ∧ h.get? a = some (PySem.W.instObj C dx) ∧
      ∃ mA, h.Ns1 dx mA ∧ (∀ f, RelO (fs.lookup f) (mA f)) ∧ PySem.Within mA (fs.map (·.1))
  | .own _ => ∃ o, h.get? a = some o
  | .xd fs => ∃ mA, h.Ns1 a mA ∧ ∀ f, RelO (fs.lookup f) (mA f)
  | .rng lo hi => ∃ t u v, h.get? a = some { cls := .type "range", data := .fields #[.int lo t, .int hi u, .int 1 v] }
  | .frz o u => h.get? a = some o ∧ ObjOk H h a u
  | .tbl ps => h.get? a = some { cls := .none, data := .fields ps }
  | .met f x => h.get? a = some (PySem.W.methodObj (.ref f) (.ref x))
  | .ext φ => φ h ∧ (∃ o, h.get? a = some o) ∧ ∀ h1 h2 : Heap, φ h1 → (∀ o, h1.get? a = some o → h2.get? a = some o) → φ h2
/-- the abstract heap is held -/
def HOk (H : Hp) (h : Heap) : Prop := ∀ a o, H a = some o → ObjOk P w H h a o
end

section
variable {P : Program} {w : World} {H H' : Hp} {h h' : Heap} {a : Addr} {o : HO}
theorem ObjOk.lt (x : ObjOk P w H h a o) : a < h.objs.size := by
  cases o with
  | lst xs => obtain ⟨_, _, _, _, e⟩ := x; exact Heap.lt_size e
  | tup xs => obtain ⟨_, _, _, p⟩ := x; exact p.lt
  | dK kvs => obtain ⟨_, _, _, _, o, _, _, e, _⟩ := x; exact Heap.lt_size e
  | dT kvs => obtain ⟨_, _, _, _, o, _, _, e, _⟩ := x; exact Heap.lt_size e
  | set S n => obtain ⟨o, _, _, _, e, _⟩ := x; exact Heap.lt_size e
  | ins C dx fs => obtain ⟨_, _, _, e, _⟩ := x; exact Heap.lt_size e
  | own y => obtain ⟨_, e⟩ := x; exact Heap.lt_size e
  | xd fs => obtain ⟨_, ⟨_, _, _, e, _⟩, _⟩ := x; exact Heap.lt_size e
  | rng lo hi => obtain ⟨_, _, _, e⟩ := x; exact Heap.lt_size e
  | frz ob u => obtain ⟨e, _⟩ := x; exact Heap.lt_size e
  | tbl ps => exact Heap.lt_size (show h.get? a = some _ from x)
  | met f y => exact Heap.lt_size (show h.get? a = some _ from x)
  | ext φ => obtain ⟨_, ⟨_, e⟩, _⟩ := x; exact Heap.lt_size e
theorem Paired.mapP {α β : Type} {F G : α → β → Prop} : ∀ {l₁ : List α} {l₂ : List β}, Paired F l₁ l₂ → (∀ a b, F a b → G a b) → Paired G l₁ l₂
  | _, _, .nil, _ => .nil
  | _, _, .cons r t, f => .cons (f _ _ r) (Paired.mapP t f)
/-- what an object's description leans on: its own object, its own dict, the tuples -/
theorem ObjOk.stay (x : ObjOk P w H h a o) (k : ∀ b u, (b = a ∨ H b = some (.own a)) → h.get? b = some u → h'.get? b = some u)
    (ho : ∀ b, H b = some (.own a) → H' b = some (.own a)) (ht : ∀ b xs, H b = some (.tup xs) → H' b = some (.tup xs)) : ObjOk P w H' h' a o := by
  induction o with
  | lst xs => obtain ⟨z, its, n, r, e⟩ := x; exact ⟨z, its, n, r, k _ _ (.inl rfl) e⟩
  | tup xs => obtain ⟨z, its, r, ob, e, c⟩ := x; exact ⟨z, its, r, ob, k _ _ (.inl rfl) e, c⟩
  | dK kvs => obtain ⟨z, y, vs, r, ob, es, ep, e, c⟩ := x; exact ⟨z, y, vs, r, ob, es, ep, k _ _ (.inl rfl) e, c⟩
  | dT kvs =>
    obtain ⟨z, y, xs, r, ob, es, ep, e, c⟩ := x
    exact ⟨z, y, xs, Paired.mapP r fun p q z => ⟨z.1, ht _ _ z.2.1, z.2.2⟩, ob, es, ep, k _ _ (.inl rfl) e, c⟩
  | set S n => obtain ⟨ob, es, ep, t, e, c⟩ := x; exact ⟨ob, es, ep, t, k _ _ (.inl rfl) e, c⟩
  | ins C dx fs =>
    obtain ⟨d, z, ne, e, mA, ⟨od, es, ep, e2, c⟩, r⟩ := x
    exact ⟨ho _ d, z, ne, k _ _ (.inl rfl) e, mA, ⟨od, es, ep, k _ _ (.inr d) e2, c⟩, r⟩
  | own y => obtain ⟨ob, e⟩ := x; exact ⟨ob, k _ _ (.inl rfl) e⟩
  | xd fs => obtain ⟨mA, ⟨od, es, ep, e, c⟩, r⟩ := x; exact ⟨mA, ⟨od, es, ep, k _ _ (.inl rfl) e, c⟩, r⟩
  | rng lo hi => obtain ⟨t, u, v, e⟩ := x; exact ⟨t, u, v, k _ _ (.inl rfl) e⟩
  | frz ob u ih => obtain ⟨e, q⟩ := x; exact ⟨k _ _ (.inl rfl) e, ih q⟩
  | tbl ps =>
    have e : h.get? a = some { cls := .none, data := .fields ps } := x
    show h'.get? a = some { cls := .none, data := .fields ps }
    exact k a _ (.inl rfl) e
  | met f y =>
    have e : h.get? a = some (PySem.W.methodObj (.ref f) (.ref y)) := x
    show h'.get? a = some (PySem.W.methodObj (.ref f) (.ref y))
    exact k a _ (.inl rfl) e
  | ext φ => obtain ⟨p, ⟨o, e⟩, st⟩ := x; exact ⟨st _ _ p fun o q => k _ _ (.inl rfl) q, ⟨o, k _ _ (.inl rfl) e⟩, st⟩
theorem HOk.lt (x : HOk P w H h) (e : H a = some o) : a < h.objs.size := (x a o e).lt
theorem HOk.fresh (x : HOk P w H h) (e : h.objs.size ≤ a) : H a = none := by
  cases q : H a with
  | none => rfl
  | some u => exact absurd (Nat.lt_of_lt_of_le (x.lt q) e) (Nat.lt_irrefl _)
/-- every object of the heap is kept -/
theorem HOk.kept (x : HOk P w H h) (k : ∀ b u, h.get? b = some u → h'.get? b = some u) : HOk P w H h' := fun a o e =>
  (x a o e).stay (fun b u _ q => k b u q) (fun _ q => q) fun _ _ q => q
/-- a new object is laid and tracked -/
theorem HOk.laid (x : HOk P w H h) (k : ∀ b u, h.get? b = some u → h'.get? b = some u) (hp : h.objs.size ≤ a) (new : ObjOk P w (upd H a o) h' a o) : HOk P w (upd H a o) h' := fun b u e => by
  have hn := x.fresh hp
  by_cases hb : b = a
  · subst hb; rw [upd_same] at e; cases e; exact new
  · rw [upd_ne hb] at e
    exact (x b u e).stay (fun c v _ q => k c v q) (fun c q => by rw [upd_ne (ne_of_none q hn)]; exact q) fun c xs q => by rw [upd_ne (ne_of_none q hn)]; exact q
end

/-- what may be read as u: it is u, or a known u -/
def Rd (H : Hp) (a : Addr) (u : HO) : Prop := H a = some u ∨ ∃ o, H a = some (.frz o u)
theorem Rd.of {H : Hp} {a : Addr} {u : HO} (h : H a = some u) : Rd H a u := .inl h
theorem Rd.ok {P : Program} {w : World} {H : Hp} {h : Heap} {a : Addr} {u : HO} (r : Rd H a u) (x : HOk P w H h) : ObjOk P w H h a u := by
  rcases r with r | ⟨o, r⟩
  · exact x a u r
  · obtain ⟨_, q⟩ := x a _ r
    exact q
/-- what may be written -/
def Mut : Option HO → Prop
  | some (.lst _) => True
  | some (.dK _) => True
  | some (.dT _) => True
  | some (.set _ _) => True
  | some (.ins _ _ _) => True
  | some (.ext _) => True
  | _ => False
section
variable {P : Program} {w : World} {H : Hp} {h h' : Heap} {x e : Addr} {o' : HO}
/-- the object at e is changed: x itself, or the dict of the instance x -/
theorem HOk.write (ok : HOk P w H h) (mu : Mut (H x)) (he : e = x ∨ H e = some (.own x)) (k : ∀ b u, b ≠ e → h.get? b = some u → h'.get? b = some u) (heo : ∃ u, h'.get? e = some u)
    (new : ObjOk P w (upd H x o') h' x o') : HOk P w (upd H x o') h' := fun b u q => by
  have nown : ∀ c y, H c = some (.own y) → c ≠ x := fun c y r z => by subst z; rw [r] at mu; exact mu
  have ntup : ∀ c xs, H c = some (.tup xs) → c ≠ x := fun c xs r z => by subst z; rw [r] at mu; exact mu
  by_cases hb : b = x
  · subst hb; rw [upd_same] at q; cases q; exact new
  · rw [upd_ne hb] at q
    by_cases hbe : b = e
    · have q' : H b = some (.own x) := by
        rcases he with z | z
        · exact absurd (hbe.trans z) hb
        · rw [hbe]; exact z
      rw [q] at q'; cases q'
      obtain ⟨v, hv⟩ := heo
      exact ⟨v, by rw [hbe]; exact hv⟩
    · refine (ok b u q).stay (fun c v hc r => k c v ?_ r) (fun c r => by rw [upd_ne (nown c b r)]; exact r) fun c xs r => by rw [upd_ne (ntup c xs r)]; exact r
      rcases hc with rfl | hc
      · exact hbe
      · rintro rfl
        rcases he with z | z
        · exact nown c b hc z
        · rw [hc] at z; cases z; exact hb rfl
end

/-! ### kept unless tracked; of the frames at fs (the callers') the slots may change (an exception that passes writes there); of the records at ex (iterators) nothing is said -/
structure Un (fs ex : List Addr) (H H' : Hp) (h h' : Heap) : Prop where
  keep : ∀ b o, h.get? b = some o → H b = none → b ∉ fs → b ∉ ex → h'.get? b = some o
  slot : ∀ b o, h.get? b = some o → H b = none → b ∈ fs → b ∉ ex → ∃ sl, h'.get? b = some { o with slots := sl }
  free : ∀ b o, h.get? b = some o → H b = none → b ∉ ex → H' b = none
  there : ∀ b o, h.get? b = some o → b ∉ ex → ∃ o', h'.get? b = some o'
  tups : ∀ b xs, H b = some (.tup xs) → H' b = some (.tup xs)
  frzs : ∀ b o u, H b = some (.frz o u) → H' b = some (.frz o u)
  tbls : ∀ b ps, H b = some (.tbl ps) → ∃ more, H' b = some (.tbl (ps ++ more))
section
variable {fs fs' ex ex' : List Addr} {H H1 H2 : Hp} {h h1 h2 h' : Heap} {a x e : Addr} {o : HO}
theorem Un.any (u : Un fs ex H H1 h h1) {b : Addr} {ob : Obj} (q : h.get? b = some ob) (n : H b = none) (hx : b ∉ ex) : ∃ sl, h1.get? b = some { ob with slots := sl } := by
  by_cases hb : b ∈ fs
  · exact u.slot b ob q n hb hx
  · exact ⟨ob.slots, u.keep b ob q n hb hx⟩
theorem Un.trans (a : Un fs ex H H1 h h1) (b : Un fs ex H1 H2 h1 h2) : Un fs ex H H2 h h2 where
  keep := fun c ob q n hc hx => b.keep c ob (a.keep c ob q n hc hx) (a.free c ob q n hx) hc hx
  slot := fun c ob q n hc hx => by
    obtain ⟨sl, e1⟩ := a.slot c ob q n hc hx
    obtain ⟨sl', e2⟩ := b.slot c _ e1 (a.free c ob q n hx) hc hx
    exact ⟨sl', e2⟩
  free := fun c ob q n hx => by
    obtain ⟨o', e1⟩ := a.there c ob q hx
    exact b.free c o' e1 (a.free c ob q n hx) hx
  there := fun c ob q hx => by
    obtain ⟨o', e1⟩ := a.there c ob q hx
    exact b.there c o' e1 hx
  tups := fun c xs q => b.tups c xs (a.tups c xs q)
  frzs := fun c ob xs q => b.frzs c ob xs (a.frzs c ob xs q)
  tbls := fun c ps q => by
    obtain ⟨m1, e1⟩ := a.tbls c ps q
    obtain ⟨m2, e2⟩ := b.tbls c _ e1
    exact ⟨m1 ++ m2, by rw [e2, Array.append_assoc]⟩
theorem Un.kept (k : ∀ b u, h.get? b = some u → h'.get? b = some u) : Un fs ex H H h h' :=
  ⟨fun b ob q _ _ _ => k b ob q, fun b ob q _ _ _ => ⟨ob.slots, k b ob q⟩, fun _ _ _ n _ => n, fun b ob q _ => ⟨ob, k b ob q⟩, fun _ _ q => q, fun _ _ _ q => q, fun _ ps q => ⟨#[], by rw [q]; simp⟩⟩
theorem Un.refl : Un fs ex H H h h := Un.kept fun _ _ q => q
theorem Un.laid (k : ∀ b u, h.get? b = some u → h'.get? b = some u) (hp : h.objs.size ≤ a) (hn : H a = none) : Un fs ex H (upd H a o) h h' where
  keep := fun b u q _ _ _ => k b u q
  slot := fun b u q _ _ _ => ⟨u.slots, k b u q⟩
  free := fun b u q n _ => by rw [upd_ne (Nat.ne_of_lt (Nat.lt_of_lt_of_le (Heap.lt_size q) hp))]; exact n
  there := fun b u q _ => ⟨u, k b u q⟩
  tups := fun b xs q => by rw [upd_ne (ne_of_none q hn)]; exact q
  frzs := fun b u xs q => by rw [upd_ne (ne_of_none q hn)]; exact q
  tbls := fun b ps q => ⟨#[], by rw [upd_ne (ne_of_none q hn), q]; simp⟩
theorem Un.write (mu : Mut (H x)) (he : e = x ∨ H e = some (.own x)) (k : ∀ b u, b ≠ e → h.get? b = some u → h'.get? b = some u) (heo : ∃ u, h'.get? e = some u) : Un fs ex H (upd H x o) h h' := by
  have hx : ∀ b, H b = none → b ≠ x := fun b n z => by subst z; rw [n] at mu; exact mu
  have hb : ∀ b, H b = none → b ≠ e := fun b n z => by
    subst z
    rcases he with r | r
    · exact hx b n r
    · rw [n] at r; cases r
  have hm : ∀ b u, H b = some u → ¬ Mut (some u) → b ≠ x := fun b u q nm z => by subst z; rw [q] at mu; exact nm mu
  refine ⟨fun b u q n _ _ => k b u (hb b n) q, fun b u q n _ _ => ⟨u.slots, k b u (hb b n) q⟩, fun b u q n _ => by rw [upd_ne (hx b n)]; exact n, fun b u q _ => ?_,
    fun b xs q => by rw [upd_ne (hm b _ q fun z => z)]; exact q, fun b u xs q => by rw [upd_ne (hm b _ q fun z => z)]; exact q, fun b ps q => ⟨#[], by rw [upd_ne (hm b _ q fun z => z), q]; simp⟩⟩
  by_cases hbe : b = e
  · subst hbe; exact heo
  · exact ⟨u, k b u hbe q⟩
theorem Un.mono (u : Un fs ex H H1 h h1) (hs : ∀ b ∈ fs, b ∈ fs') (hx : ∀ b ∈ ex, b ∈ ex') : Un fs' ex' H H1 h h1 :=
  ⟨fun b ob q n hb he => u.keep b ob q n (fun z => hb (hs b z)) fun z => he (hx b z), fun _ _ q n _ he => u.any q n fun z => he (hx _ z), fun b ob q n he => u.free b ob q n fun z => he (hx b z), fun b ob q he => u.there b ob q fun z => he (hx b z), u.tups, u.frzs, u.tbls⟩
end

/-! ### the heap without what is tracked -/
def trk (h : Heap) (H : Hp) : List Addr := (List.range h.objs.size).filter fun a => (H a).isSome
def hidT (h : Heap) (H : Hp) : Heap := PySem.W.hideAll h (trk h H)
theorem hidT_size (h : Heap) (H : Hp) : (hidT h H).objs.size = h.objs.size := PySem.W.hideAll_size _ _
theorem hidT_get {h : Heap} {H : Hp} {b : Addr} {o : Obj} (e : h.get? b = some o) (n : H b = none) : (hidT h H).get? b = some o :=
  PySem.W.hideAll_get _ e fun hm => by
    have q : (H b).isSome = true := (List.mem_filter.mp hm).2
    rw [n] at q; simp at q
theorem of_hidT {h : Heap} {H : Hp} {b : Addr} {o : Obj} (e : (hidT h H).get? b = some o) : h.get? b = some o ∧ H b = none := by
  have e' : h.get? b = some o := PySem.W.of_hideAll (trk h H) e
  refine ⟨e', ?_⟩
  cases q : H b with
  | none => rfl
  | some x =>
    have hm : b ∈ trk h H := List.mem_filter.mpr ⟨List.mem_range.mpr (Heap.lt_size e'), by simp [q]⟩
    have z : (hidT h H).get? b = none := PySem.W.hideAll_none (trk h H) hm
    rw [z] at e; cases e

/-! ### OpenK's ledger, filled with every new object but one -/
def allNews (g h : Heap) (L : Addr) : List (Addr × Obj) := (List.range h.objs.size).filterMap fun a => if a = L ∨ (g.get? a).isSome = true then none else (h.get? a).map fun o => (a, o)
def rest (g h : Heap) (L d : Addr) : List (Addr × Obj) := (allNews g h L).filter fun p => decide (p.1 ≠ d)
end L2

namespace L2
open PySem PySem.Spec PyProof.Rows

/-- the module's facts, over the base: the heap at the law's entry without what is tracked there -/
structure Mod (K : PySem.W.Frag) (mg : Str → Option Value) (base : Heap) : Prop where
  kin : K.In base
  glob : base.Ns mainGlobals mg
  blt : ∃ mb, base.Ns builtinsNs mb ∧ ∀ x : Str, x ≠ "__name__" → mb x = bootBuiltins x
  nolimit : base.NoLimit

/-- the context: a def's body (or a comprehension's block) running. base: fixed through the whole law; s₀, H₀: the entry; outer: the frames whose slots others may change (a def's callers); stack: all frames that run;
   ex: iterators that were made ahead of the entry and are walked here (a comprehension's); fn: the names whose cells were made at the entry (a def: all; a comprehension's block: its own); calm: not within an except suite; pn: pins that every state bears; xe: what is wanted of an exception that leaves the code -/
structure Cx where
  prog : Program
  w : World
  K : PySem.W.Frag
  mg : Str → Option Value
  base : Heap
  A : Around
  N : List Str
  s₀ : Shared
  H₀ : Hp
  env : Env
  outer : List Env
  stack : List Env
  ex : List Addr
  fn : Str → Bool
  calm : Bool
  pn : List (Addr × Obj)
  xe : Value → Shared → Prop
/-- the callers' frames -/
def frs (l : List Env) : List Addr := l.filterMap (·.frame)
abbrev Cx.fs (X : Cx) : List Addr := frs X.outer

def Vis (sc : Scope) (x : Str) : Prop := sc.names.lookup x = some .local ∨ sc.names.lookup x = some .cell ∨ sc.names.lookup x = some .free
def Loc (sc : Scope) (x : Str) : Prop := sc.names.lookup x = some .local ∨ sc.names.lookup x = some .cell
def Look (env : Env) (h : Heap) (m : Str → Option Value) (x : Str) (u : Value) : Prop :=
  (env.kindOf x = some .local ∧ m x = some u) ∨ ((env.kindOf x = some .cell ∨ env.kindOf x = some .free) ∧ ∃ c, env.cells.lookup x = some c ∧ h.IsCell c (some u))

structure Cx.Ok (X : Cx) : Prop where
  mod : Mod X.K X.mg X.base
  kind : X.env.scope.kind = .function
  glob : X.env.globals = mainGlobals
  blt : X.env.builtins = builtinsNs
  above : X.s₀.heap.objs.size ≤ X.env.locals
  inj : ∀ x y c, X.env.cells.lookup x = some c → X.env.cells.lookup y = some c → x = y
  has : ∀ x, (X.env.kindOf x = some .cell ∨ X.env.kindOf x = some .free) → ∃ c, X.env.cells.lookup x = some c
  cab : ∀ x c, X.fn x = true → X.env.cells.lookup x = some c → X.s₀.heap.objs.size ≤ c
  hd : X.calm = true → X.A.handled = none
  frames : X.A.frames = some X.stack
  stk : X.stack = X.outer ∨ (X.stack = X.env :: X.outer ∧ X.env.frame = some X.env.locals)
  exf : ∀ b ∈ X.ex, b ≠ X.env.locals ∧ ∀ x c, X.env.cells.lookup x = some c → c ≠ b
  bs : ∀ b o, X.base.get? b = some o → X.s₀.heap.get? b = some o ∧ X.H₀ b = none
  bsz : X.base.objs.size ≤ X.s₀.heap.objs.size
  noex : ∀ b o, X.base.get? b = some o → b ∉ X.ex
  exfs : ∀ b ∈ X.ex, b ∉ X.fs
  funs : X.s₀.heap.FunFrames X.base X.outer
  frf : ∀ b ∈ X.fs, X.H₀ b = none

structure Inv (X : Cx) (pins : List (Addr × Obj)) (σ : List (Option V)) (H : Hp) (s : Shared) : Prop where
  ok : X.Ok
  os : s.os = X.s₀.os
  bare : AllBare s.gens
  base : Un X.fs X.ex X.H₀ H X.s₀.heap s.heap
  loc : ∃ m, s.heap.Ns X.env.locals m ∧ ∀ (i : Nat) (x : Str) (v : V), X.N[i]? = some x → σ[i]? = some (some v) → Vis X.env.scope x → ∃ u, RelV v u ∧ Look X.env s.heap m x u
  cell : ∀ x c, X.env.cells.lookup x = some c → ∃ v, s.heap.IsCell c v
  free : H X.env.locals = none
  freeC : ∀ x c, X.env.cells.lookup x = some c → H c = none
  pin : ∀ p ∈ X.pn ++ pins, s.heap.get? p.1 = some p.2 ∧ H p.1 = none ∧ p.1 ≠ X.env.locals ∧ p.1 ∉ X.fs ∧ ∀ v, p.2.data ≠ .cell v
  hok : HOk X.prog X.w H s.heap
  len : σ.length = X.N.length

section
variable {X : Cx} {pins : List (Addr × Obj)} {σ : List (Option V)} {H H' : Hp} {s : Shared} {h' : Heap}

theorem Cx.Ok.nofr (ok : X.Ok) {b : Addr} {o : Obj} (e : X.base.get? b = some o) : b ∉ X.fs := fun hb => by
  have := (ok.funs.mem hb).1
  rw [e] at this; cases this
theorem Inv.bs (I : Inv X pins σ H s) : ∀ b o, X.base.get? b = some o → s.heap.get? b = some o ∧ H b = none := fun b o e =>
  ⟨I.base.keep b o (I.ok.bs b o e).1 (I.ok.bs b o e).2 (I.ok.nofr e) (I.ok.noex b o e), I.base.free b o (I.ok.bs b o e).1 (I.ok.bs b o e).2 (I.ok.noex b o e)⟩
theorem Inv.bk (I : Inv X pins σ H s) : ∀ b o, X.base.get? b = some o → s.heap.get? b = some o := fun b o e => (I.bs b o e).1
theorem Inv.mod (I : Inv X pins σ H s) : Mod X.K X.mg X.base := I.ok.mod
theorem Inv.kIn (I : Inv X pins σ H s) : X.K.In s.heap := I.ok.mod.kin.keeps I.bk
theorem Inv.nolimit (I : Inv X pins σ H s) : s.heap.NoLimit := I.ok.mod.nolimit.keeps I.bk
/-- the frame over the base: for OpenK's rules (K.In X.base is I.mod.kin) -/
theorem Inv.fr (I : Inv X pins σ H s) : ∃ m, Fr X.base X.env.locals s.heap m :=
  let ⟨m, hn, _⟩ := I.loc
  ⟨m, hn, I.bk, Nat.le_trans I.ok.bsz I.ok.above⟩
theorem Inv.lt (I : Inv X pins σ H s) : X.env.locals < s.heap.objs.size := let ⟨_, hn, _⟩ := I.loc; hn.lt
theorem Inv.sz (I : Inv X pins σ H s) : X.s₀.heap.objs.size ≤ s.heap.objs.size := Nat.le_trans I.ok.above (Nat.le_of_lt I.lt)
theorem Inv.nofs (I : Inv X pins σ H s) {a : Addr} (h : s.heap.objs.size ≤ a) : a ∉ X.fs := fun hb => by
  obtain ⟨_, o, ho, _⟩ := I.ok.funs.mem hb
  exact absurd (Nat.lt_of_lt_of_le (Heap.lt_size ho) (Nat.le_trans I.sz h)) (Nat.lt_irrefl _)
theorem Inv.cne (I : Inv X pins σ H s) : ∀ x c, X.env.cells.lookup x = some c → c ≠ X.env.locals := fun x c e z => by
  obtain ⟨v, o, ho, hd⟩ := I.cell x c e
  obtain ⟨m, ⟨o', es, ep, ho', hd', _⟩, _⟩ := I.loc
  rw [z, ho'] at ho; cases ho; rw [hd'] at hd; cases hd
theorem Inv.funs (I : Inv X pins σ H s) : s.heap.FunFrames X.base X.outer := by
  have all : ∀ (l : List Env), (∀ b ∈ frs l, b ∈ X.fs) → X.s₀.heap.FunFrames X.base l → s.heap.FunFrames X.base l := by
    intro l
    induction l with
    | nil => intro _ _; trivial
    | cons env r ih =>
      intro hs hl
      obtain ⟨hk, ⟨L, o, hf, hn, ho, hd⟩, hr⟩ := hl
      have hL : L ∈ X.fs := hs L (by unfold frs; rw [List.filterMap_cons, hf]; exact List.mem_cons_self)
      obtain ⟨sl, e⟩ := I.base.slot L o ho (I.ok.frf L hL) hL fun z => I.ok.exfs L z hL
      exact ⟨hk, ⟨L, _, hf, hn, e, hd⟩, ih (fun b hb => hs b (by unfold frs; rw [List.filterMap_cons, hf]; exact List.mem_cons_of_mem _ hb)) hr⟩
  exact all X.outer (fun _ hb => hb) I.ok.funs

/-- the frames that run, for a call -/
theorem Inv.stack (I : Inv X pins σ H s) : s.heap.FunFrames X.base X.stack := by
  rcases I.ok.stk with e | ⟨e, hf⟩
  · rw [e]; exact I.funs
  · rw [e]
    obtain ⟨m, hn, _⟩ := I.loc
    refine .cons (by rw [I.ok.kind]; decide) hf hn ?_ I.funs
    exact Heap.get?_none_of_le (Nat.le_trans I.ok.bsz I.ok.above)
theorem Inv.stkSub (I : Inv X pins σ H s) : ∀ b ∈ frs X.stack, b ∈ X.env.locals :: X.fs := fun b hb => by
  rcases I.ok.stk with e | ⟨e, hf⟩
  · rw [e] at hb; exact List.mem_cons_of_mem _ hb
  · rw [e] at hb
    unfold frs at hb
    rw [List.filterMap_cons, hf] at hb
    exact hb
theorem Inv.stkFree (I : Inv X pins σ H s) : ∀ b ∈ frs X.stack, H b = none := fun b hb => by
  rcases List.mem_cons.mp (I.stkSub b hb) with e | hb
  · rw [e]; exact I.free
  · obtain ⟨_, o, ho, _⟩ := I.ok.funs.mem hb
    exact I.base.free b o ho (I.ok.frf b hb) fun z => I.ok.exfs b z hb

/-- THE STEP: the untracked objects but the frame and the records at ch are kept (the callers' frames up to slots), the frame's map is kept, the new abstract heap is held -/
theorem Inv.step {g' : Array GenState} {t' : Nat} {d' : Drawn} {ch : List Addr} (I : Inv X pins σ H s)
    (hch : ∀ b ∈ ch, (b ∈ X.ex ∨ X.s₀.heap.objs.size ≤ b) ∧ b ≠ X.env.locals ∧ (∀ x c, X.env.cells.lookup x = some c → c ≠ b) ∧ ∀ p ∈ X.pn ++ pins, p.1 ≠ b)
    (keep : ∀ b o, b ≠ X.env.locals → b ∉ X.fs → b ∉ ch → s.heap.get? b = some o → H b = none → h'.get? b = some o)
    (slot : ∀ b o, b ≠ X.env.locals → b ∈ X.fs → b ∉ ch → s.heap.get? b = some o → H b = none → ∃ sl, h'.get? b = some { o with slots := sl }) (free : ∀ b o, b ∉ ch → s.heap.get? b = some o → H b = none → H' b = none)
    (there : ∀ b o, b ∉ ch → s.heap.get? b = some o → ∃ o', h'.get? b = some o')
    (tups : ∀ b xs, H b = some (.tup xs) → H' b = some (.tup xs)) (frzs : ∀ b o u, H b = some (.frz o u) → H' b = some (.frz o u)) (tbls : ∀ b ps, H b = some (.tbl ps) → ∃ more, H' b = some (.tbl (ps ++ more)))
    (ns : ∀ m, s.heap.Ns X.env.locals m → h'.Ns X.env.locals m) (hok : HOk X.prog X.w H' h') (hg : AllBare g') :
    Inv X pins σ H' { s with heap := h', gens := g', drawn := d', toks := t' } := by
  have neL : ∀ b o, X.s₀.heap.get? b = some o → b ≠ X.env.locals := fun b o e => Nat.ne_of_lt (Nat.lt_of_lt_of_le (Heap.lt_size e) I.ok.above)
  have neC : ∀ b o, X.s₀.heap.get? b = some o → b ∉ X.ex → b ∉ ch := fun b o e hx hb => by
    rcases (hch b hb).1 with z | z
    · exact hx z
    · exact absurd (Nat.lt_of_lt_of_le (Heap.lt_size e) z) (Nat.lt_irrefl _)
  have cellK : ∀ x c, X.env.cells.lookup x = some c → ∀ v, s.heap.IsCell c v → h'.IsCell c v := fun x c e v ⟨o, ho, hd⟩ => by
    have nch : c ∉ ch := fun z => (hch c z).2.2.1 x c e rfl
    by_cases hc : c ∈ X.fs
    · obtain ⟨sl, q⟩ := slot c o (I.cne x c e) hc nch ho (I.freeC x c e)
      exact ⟨_, q, hd⟩
    · exact ⟨o, keep c o (I.cne x c e) hc nch ho (I.freeC x c e), hd⟩
  refine ⟨I.ok, I.os, hg, ⟨fun b o e n hb hx => ?_, fun b o e n hb hx => ?_, fun b o e n hx => ?_, fun b o e hx => ?_, fun b xs e => tups b xs (I.base.tups b xs e), fun b o xs e => frzs b o xs (I.base.frzs b o xs e), fun b ps e => ?_⟩, ?_, fun x c e => ?_, ?_, fun x c e => ?_, fun p hp => ?_, hok, I.len⟩
  · exact keep b o (neL b o e) hb (neC b o e hx) (I.base.keep b o e n hb hx) (I.base.free b o e n hx)
  · obtain ⟨sl, e1⟩ := I.base.slot b o e n hb hx
    obtain ⟨sl', e2⟩ := slot b _ (neL b o e) hb (neC b o e hx) e1 (I.base.free b o e n hx)
    exact ⟨sl', e2⟩
  · obtain ⟨o', e1⟩ := I.base.there b o e hx
    exact free b o' (neC b o e hx) e1 (I.base.free b o e n hx)
  · obtain ⟨o', e1⟩ := I.base.there b o e hx
    exact there b o' (neC b o e hx) e1
  · obtain ⟨m1, e1⟩ := I.base.tbls b ps e
    obtain ⟨m2, e2⟩ := tbls b _ e1
    exact ⟨m1 ++ m2, by rw [e2, Array.append_assoc]⟩
  · obtain ⟨m, hn, hl⟩ := I.loc
    refine ⟨m, ns m hn, fun i x v e1 e2 e3 => ?_⟩
    obtain ⟨u, r, l⟩ := hl i x v e1 e2 e3
    refine ⟨u, r, ?_⟩
    rcases l with l | ⟨k, c, e, z⟩
    · exact .inl l
    · exact .inr ⟨k, c, e, cellK x c e _ z⟩
  · obtain ⟨v, z⟩ := I.cell x c e
    exact ⟨v, cellK x c e v z⟩
  · obtain ⟨m, ⟨o, _, _, ho, _⟩, _⟩ := I.loc
    exact free _ o (fun z => (hch _ z).2.1 rfl) ho I.free
  · obtain ⟨v, o, ho, hd⟩ := I.cell x c e
    exact free c o (fun z => (hch c z).2.2.1 x c e rfl) ho (I.freeC x c e)
  · obtain ⟨e, n, ne, nf, d⟩ := I.pin p hp
    have nch : p.1 ∉ ch := fun z => (hch p.1 z).2.2.2 p hp rfl
    exact ⟨keep p.1 p.2 ne nf nch e n, free p.1 p.2 nch e n, ne, nf, d⟩
/-- .. where the frame's own object is kept too -/
theorem Inv.un {t' : Nat} (I : Inv X pins σ H s) (u : Un X.fs [] H H' s.heap h') (hok : HOk X.prog X.w H' h') : Inv X pins σ H' { s with heap := h', toks := t' } := by
  obtain ⟨m, ⟨o, es, ep, ho, r⟩, _⟩ := id I.loc
  obtain ⟨sl, hL⟩ := u.any ho I.free (by simp)
  exact I.step (g' := s.gens) (d' := s.drawn) (ch := []) (fun _ z => nomatch z) (fun b o _ hb _ e n => u.keep b o e n hb (by simp)) (fun b o _ hb _ e n => u.slot b o e n hb (by simp)) (fun b o _ e n => u.free b o e n (by simp)) (fun b o _ e => u.there b o e (by simp)) u.tups u.frzs u.tbls (fun m' hm => by
    obtain ⟨o', es', ep', ho', r'⟩ := hm
    rw [ho] at ho'; cases ho'
    exact ⟨_, es', ep', hL, r'⟩) hok I.bare
/-- behind a call (or a comprehension's block): the slots of this frame may have changed too, the records at ch may have turned -/
theorem Inv.call {g' : Array GenState} {t' : Nat} {d' : Drawn} {ch : List Addr} (I : Inv X pins σ H s) (u : Un (frs X.stack) ch H H' s.heap h') (hok : HOk X.prog X.w H' h') (hg : AllBare g')
    (hch : ∀ b ∈ ch, (b ∈ X.ex ∨ X.s₀.heap.objs.size ≤ b) ∧ b ≠ X.env.locals ∧ (∀ x c, X.env.cells.lookup x = some c → c ≠ b) ∧ ∀ p ∈ X.pn ++ pins, p.1 ≠ b) :
    Inv X pins σ H' { s with heap := h', gens := g', drawn := d', toks := t' } := by
  obtain ⟨m, ⟨o, es, ep, ho, r⟩, _⟩ := id I.loc
  obtain ⟨sl, hL⟩ := u.any ho I.free fun z => (hch _ z).2.1 rfl
  exact I.step (ch := ch) hch (fun b o hL hb hc e n => u.keep b o e n (fun z => (List.mem_cons.mp (I.stkSub b z)).elim hL hb) hc) (fun b o _ _ hc e n => u.any e n hc) (fun b o hc e n => u.free b o e n hc) (fun b o hc e => u.there b o e hc) u.tups u.frzs u.tbls (fun m' hm => by
    obtain ⟨o', es', ep', ho', r'⟩ := hm
    rw [ho] at ho'; cases ho'
    exact ⟨_, es', ep', hL, r'⟩) hok hg
/-- an untracked record of ours (an iterator) has turned -/
theorem Inv.turned {t' : Nat} {it : Addr} (I : Inv X pins σ H s) (k : ∀ b o, b ≠ it → s.heap.get? b = some o → h'.get? b = some o) (hn : H it = none) (hL : it ≠ X.env.locals)
    (h1 : it ∈ X.ex ∨ X.s₀.heap.objs.size ≤ it) (h2 : ∀ x c, X.env.cells.lookup x = some c → c ≠ it) (h3 : ∀ p ∈ X.pn ++ pins, p.1 ≠ it) : Inv X pins σ H { s with heap := h', toks := t' } := by
  have nit : ∀ b u, H b = some u → b ≠ it := fun b u e z => by rw [z, hn] at e; cases e
  refine I.step (g' := s.gens) (d' := s.drawn) (ch := [it]) (fun b hb => ?_) (fun b o _ _ hc e _ => k b o (fun z => hc (by simp [z])) e) (fun b o _ _ hc e _ => ⟨o.slots, k b o (fun z => hc (by simp [z])) e⟩) (fun _ _ _ _ n => n)
    (fun b o hc e => ⟨o, k b o (fun z => hc (by simp [z])) e⟩) (fun _ _ e => e) (fun _ _ _ e => e) (fun b ps e => ⟨#[], by rw [e]; simp⟩) (fun m hm => ?_) (fun b u e => ?_) I.bare
  · have e : b = it := by simpa using hb
    subst e
    exact ⟨h1, hL, h2, h3⟩
  · obtain ⟨o, es, ep, ho, r⟩ := hm
    exact ⟨o, es, ep, k _ o (Ne.symm hL) ho, r⟩
  · refine (I.hok b u e).stay (fun c v hc q => k c v ?_ q) (fun _ q => q) fun _ _ q => q
    rcases hc with z | z
    · rw [z]; exact nit b u e
    · exact nit c _ z
theorem Inv.tok (I : Inv X pins σ H s) (t : Nat) : Inv X pins σ H { s with toks := t } := I.un (h' := s.heap) (t' := t) Un.refl I.hok
/-- all objects kept -/
theorem Inv.kept {t' : Nat} (I : Inv X pins σ H s) (k : ∀ b u, s.heap.get? b = some u → h'.get? b = some u) : Inv X pins σ H { s with heap := h', toks := t' } := I.un (Un.kept k) (I.hok.kept k)
/-- a new object laid and tracked -/
theorem Inv.laid {a : Addr} {o : HO} {t' : Nat} (I : Inv X pins σ H s) (k : ∀ b u, s.heap.get? b = some u → h'.get? b = some u) (hp : s.heap.objs.size ≤ a) (new : ObjOk X.prog X.w (upd H a o) h' a o) :
    Inv X pins σ (upd H a o) { s with heap := h', toks := t' } := I.un (Un.laid k hp (I.hok.fresh hp)) (I.hok.laid k hp new)
/-- an object written -/
theorem Inv.write {x e : Addr} {o : HO} {t' : Nat} (I : Inv X pins σ H s) (mu : Mut (H x)) (he : e = x ∨ H e = some (.own x)) (k : ∀ b u, b ≠ e → s.heap.get? b = some u → h'.get? b = some u) (heo : ∃ u, h'.get? e = some u)
    (new : ObjOk X.prog X.w (upd H x o) h' x o) : Inv X pins σ (upd H x o) { s with heap := h', toks := t' } := I.un (Un.write mu he k heo) (I.hok.write mu he k heo new)
theorem Inv.pins_of {pins' : List (Addr × Obj)} (I : Inv X pins σ H s) (h : ∀ p ∈ pins', s.heap.get? p.1 = some p.2 ∧ H p.1 = none ∧ p.1 ≠ X.env.locals ∧ p.1 ∉ X.fs ∧ ∀ v, p.2.data ≠ .cell v) : Inv X pins' σ H s :=
  ⟨I.ok, I.os, I.bare, I.base, I.loc, I.cell, I.free, I.freeC, fun p hp => (List.mem_append.mp hp).elim (fun z => I.pin p (List.mem_append_left _ z)) (h p), I.hok, I.len⟩

theorem nodup_ix {N : List Str} (hN : N.Nodup) {i j : Nat} {x : Str} (a : N[i]? = some x) (b : N[j]? = some x) : i = j := by
  obtain ⟨h1, e1⟩ := List.getElem?_eq_some_iff.mp a
  obtain ⟨h2, e2⟩ := List.getElem?_eq_some_iff.mp b
  exact (List.getElem_inj hN).mp (e1.trans e2.symm)

/-- a name is stored; what changed -/
theorem store_ok2 {M : Model} {A : Around} {E : Value → Shared → Prop} {i : Nat} {x : Str} {v : V} {u : Value} {Q : Unit → Shared → Prop} (I : Inv X pins σ H s) (hN : X.N.Nodup) (hi : X.N[i]? = some x) (hx : Loc X.env.scope x) (r : RelV v u)
    (h : ∀ s', Inv X pins (σ.set i (some v)) H s' → (∃ a, Heap.SameBut a s.heap s'.heap ∧ (a = X.env.locals ∨ X.env.cells.lookup x = some a)) → Q () s') (hf : X.fn x = true ∨ X.env.scope.names.lookup x = some .local := by first | exact .inl rfl | exact .inr rfl | assumption) : wpAny M A (storeName X.env x u) Q E s := by
  obtain ⟨m, hn, hl⟩ := id I.loc
  have hcls : (X.env.scope.kind == .class || (X.env.scope.kind == .module && X.env.locals != X.env.globals)) = false := by rw [I.ok.kind]; rfl
  have hiσ : i < σ.length := by rw [I.len]; exact (List.getElem?_eq_some_iff.mp hi).1
  have cne := I.cne
  have tracked : ∀ {a : Addr} {h' : Heap}, (∃ o, s.heap.get? a = some o ∧ H a = none) → Heap.SameBut a s.heap h' → HOk X.prog X.w H h' := fun {a h'} ha hs b ob e => by
    obtain ⟨_, _, hfree⟩ := ha
    refine (I.hok b ob e).stay (fun c w' hc q => (hs.2 c ?_).trans q) (fun _ q => q) fun _ _ q => q
    rintro rfl
    rcases hc with rfl | hc
    · rw [hfree] at e; cases e
    · rw [hfree] at hc; cases hc
  rcases hx with hk | hk
  · refine wpAny_storeName_local hk hn (fun h' hn' hs => ?_) hcls
    obtain ⟨oL, _, _, hoL, _⟩ := id hn
    refine h _ ⟨I.ok, I.os, I.bare, ⟨fun b o e n hb hx => ?_, fun b o e n hb hx => ?_, I.base.free, fun b o e hx => ?_, I.base.tups, I.base.frzs, I.base.tbls⟩, ⟨_, hn', fun j y v' e1 e2 e3 => ?_⟩, fun y c e => ?_, I.free, I.freeC, fun p hp => ?_, tracked ⟨oL, hoL, I.free⟩ hs, by simpa using I.len⟩ ⟨_, hs, .inl rfl⟩
    · exact (hs.2 b (Nat.ne_of_lt (Nat.lt_of_lt_of_le (Heap.lt_size e) I.ok.above))).trans (I.base.keep b o e n hb hx)
    · obtain ⟨sl, e1⟩ := I.base.slot b o e n hb hx
      exact ⟨sl, (hs.2 b (Nat.ne_of_lt (Nat.lt_of_lt_of_le (Heap.lt_size e) I.ok.above))).trans e1⟩
    · obtain ⟨o', e1⟩ := I.base.there b o e hx
      exact ⟨o', (hs.2 b (Nat.ne_of_lt (Nat.lt_of_lt_of_le (Heap.lt_size e) I.ok.above))).trans e1⟩
    · by_cases hj : j = i
      · subst hj
        rw [hi] at e1; cases e1
        rw [List.getElem?_set_self hiσ] at e2
        cases e2
        exact ⟨u, r, .inl ⟨hk, by simp⟩⟩
      · rw [List.getElem?_set_ne (Ne.symm hj)] at e2
        obtain ⟨u', r', q⟩ := hl j y v' e1 e2 e3
        refine ⟨u', r', ?_⟩
        rcases q with ⟨k, e⟩ | ⟨k, c, e, z⟩
        · refine .inl ⟨k, ?_⟩
          have : y ≠ x := fun e => hj (nodup_ix hN e1 (e ▸ hi))
          simp [this, e]
        · exact .inr ⟨k, c, e, z.sameBut hs (cne y c e)⟩
    · obtain ⟨w', z⟩ := I.cell y c e
      exact ⟨w', z.sameBut hs (cne y c e)⟩
    · obtain ⟨e, n, ne, nf, d⟩ := I.pin p hp
      exact ⟨(hs.2 p.1 ne).trans e, n, ne, nf, d⟩
  · have hfn : X.fn x = true := by
      rcases hf with z | z
      · exact z
      · rw [z] at hk; cases hk
    obtain ⟨c, hc⟩ := I.ok.has x (.inl hk)
    obtain ⟨w', z⟩ := I.cell x c hc
    refine wpAny_storeName_cell I.ok.kind hk hc z (fun h' hc' hs => ?_)
    obtain ⟨oc, hoc, hocd⟩ := id z
    refine h { s with heap := h' } ⟨I.ok, I.os, I.bare, ⟨fun b o e n hb hx => ?_, fun b o e n hb hx => ?_, I.base.free, fun b o e hx => ?_, I.base.tups, I.base.frzs, I.base.tbls⟩, ⟨m, hn.sameBut hs (Ne.symm (cne x c hc)), fun j y v' e1 e2 e3 => ?_⟩, fun y c' e => ?_, I.free, I.freeC, fun p hp => ?_, tracked ⟨oc, hoc, I.freeC x c hc⟩ hs, by simpa using I.len⟩ ⟨c, hs, .inr hc⟩
    · exact (hs.2 b (Nat.ne_of_lt (Nat.lt_of_lt_of_le (Heap.lt_size e) (I.ok.cab x c hfn hc)))).trans (I.base.keep b o e n hb hx)
    · obtain ⟨sl, e1⟩ := I.base.slot b o e n hb hx
      exact ⟨sl, (hs.2 b (Nat.ne_of_lt (Nat.lt_of_lt_of_le (Heap.lt_size e) (I.ok.cab x c hfn hc)))).trans e1⟩
    · obtain ⟨o', e1⟩ := I.base.there b o e hx
      exact ⟨o', (hs.2 b (Nat.ne_of_lt (Nat.lt_of_lt_of_le (Heap.lt_size e) (I.ok.cab x c hfn hc)))).trans e1⟩
    · by_cases hj : j = i
      · subst hj
        rw [hi] at e1; cases e1
        rw [List.getElem?_set_self hiσ] at e2
        cases e2
        exact ⟨u, r, .inr ⟨.inl hk, c, hc, hc'⟩⟩
      · rw [List.getElem?_set_ne (Ne.symm hj)] at e2
        obtain ⟨u', r', q⟩ := hl j y v' e1 e2 e3
        refine ⟨u', r', ?_⟩
        rcases q with q | ⟨k, c', e, z'⟩
        · exact .inl q
        · refine .inr ⟨k, c', e, z'.sameBut hs ?_⟩
          rintro rfl
          exact hj (nodup_ix hN e1 (I.ok.inj _ _ _ e hc ▸ hi))
    · by_cases hcc : c' = c
      · subst hcc; exact ⟨_, hc'⟩
      · obtain ⟨w2, z2⟩ := I.cell y c' e
        exact ⟨w2, z2.sameBut hs hcc⟩
    · obtain ⟨e, n, ne, nf, d⟩ := I.pin p hp
      refine ⟨(hs.2 p.1 ?_).trans e, n, ne, nf, d⟩
      intro q
      rw [q, hoc] at e
      have q' : oc = p.2 := Option.some.inj e
      exact d w' (by rw [← q']; exact hocd)
theorem store_ok {M : Model} {A : Around} {E : Value → Shared → Prop} {i : Nat} {x : Str} {v : V} {u : Value} {Q : Unit → Shared → Prop} (I : Inv X pins σ H s) (hN : X.N.Nodup) (hi : X.N[i]? = some x) (hx : Loc X.env.scope x) (r : RelV v u)
    (h : ∀ s', Inv X pins (σ.set i (some v)) H s' → Q () s') (hf : X.fn x = true ∨ X.env.scope.names.lookup x = some .local := by first | exact .inl rfl | exact .inr rfl | assumption) : wpAny M A (storeName X.env x u) Q E s :=
  store_ok2 I hN hi hx r (fun s' I' _ => h s' I') hf
/-- behind a call or a block, the state as it is -/
theorem Inv.call' {s' : Shared} {ch : List Addr} (I : Inv X pins σ H s) (ho : s'.os = s.os) (u : Un (frs X.stack) ch H H' s.heap s'.heap) (hok : HOk X.prog X.w H' s'.heap) (hg : AllBare s'.gens)
    (hch : ∀ b ∈ ch, (b ∈ X.ex ∨ X.s₀.heap.objs.size ≤ b) ∧ b ≠ X.env.locals ∧ (∀ x c, X.env.cells.lookup x = some c → c ≠ b) ∧ ∀ p ∈ X.pn ++ pins, p.1 ≠ b) : Inv X pins σ H' s' := by
  obtain ⟨h', g', d', t', o'⟩ := s'
  have e : o' = s.os := ho
  subst e
  exact I.call (g' := g') (t' := t') (d' := d') u hok hg hch
end

/-! ### the judgements -/
/-- an exception: its class, its own dict's address (where it has one), the abstract heap behind it -/
abbrev XK := Value → Option Addr → Hp → Prop
abbrev St := List (Option V)
abbrev VK := V → Hp → Prop
/-- an expression's reading; a test's; an argument list's -/
abbrev TE := St → Hp → VK → Prop
abbrev TT := St → Hp → (Bool → Hp → Prop) → Prop
abbrev TA := St → Hp → (List V → Hp → Prop) → Prop
/-- what is wanted behind a statement -/
structure Ends where
  nx : St → Hp → Prop
  rt : VK
  bk : St → Hp → Prop := fun _ _ => False
  ct : St → Hp → Prop := fun _ _ => False
abbrev TS := Ends → St → Hp → Prop

def EP (X : Cx) (pins : List (Addr × Obj)) (σ : St) (Q : VK) (u : Value) (s' : Shared) : Prop := ∃ v H', Inv X pins σ H' s' ∧ RelV v u ∧ Q v H'
def TP (X : Cx) (pins : List (Addr × Obj)) (σ : St) (Q : Bool → Hp → Prop) (b : Bool) (s' : Shared) : Prop := ∃ H', Inv X pins σ H' s' ∧ Q b H'
def AP (X : Cx) (pins : List (Addr × Obj)) (σ : St) (Q : List V → Hp → Prop) (us : List Value) (s' : Shared) : Prop := ∃ vs H', Inv X pins σ H' s' ∧ Vals vs us ∧ Q vs H'
def SP (X : Cx) (pins : List (Addr × Obj)) (D : Ends) (f : Flow) (s' : Shared) : Prop :=
  match f with
  | .next => ∃ σ' H', Inv X pins σ' H' s' ∧ D.nx σ' H'
  | .brk => ∃ σ' H', Inv X pins σ' H' s' ∧ D.bk σ' H'
  | .cont => ∃ σ' H', Inv X pins σ' H' s' ∧ D.ct σ' H'
  | .ret u => ∃ v σ' H', Inv X pins σ' H' s' ∧ RelV v u ∧ D.rt v H'

def PE (X : Cx) (e : Expr) (t : TE) : Prop :=
  ∀ (pins : List (Addr × Obj)) (s : Shared) (σ : St) (H : Hp) (Q : VK), Inv X pins σ H s → t σ H Q → wpAny (model X.prog X.w) X.A (eval e X.env) (EP X pins σ Q) X.xe s
def PT (X : Cx) (e : Expr) (t : TT) : Prop :=
  ∀ (pins : List (Addr × Obj)) (s : Shared) (σ : St) (H : Hp) (Q : Bool → Hp → Prop), Inv X pins σ H s → t σ H Q → wpAny (model X.prog X.w) X.A (isTrue e X.env (eval e X.env)) (TP X pins σ Q) X.xe s
/-- a test whatever its 'whole' is (and, or) -/
def PW (X : Cx) (e : Expr) (t : TT) : Prop :=
  ∀ (whole : Sem Value) (pins : List (Addr × Obj)) (s : Shared) (σ : St) (H : Hp) (Q : Bool → Hp → Prop), Inv X pins σ H s → t σ H Q → wpAny (model X.prog X.w) X.A (isTrue e X.env whole) (TP X pins σ Q) X.xe s
theorem PW.pt {X : Cx} {e : Expr} {t : TT} (h : PW X e t) : PT X e t := h _
/-- an argument list (no star), from the left -/
def PA (X : Cx) (es : List Expr) (t : TA) : Prop :=
  ∀ (pos : Pos) (pins : List (Addr × Obj)) (s : Shared) (σ : St) (H : Hp) (Q : List V → Hp → Prop), Inv X pins σ H s → t σ H Q → wpAny (model X.prog X.w) X.A (spliced (backTo pos (starEach es X.env))) (AP X pins σ Q) X.xe s
def PS (X : Cx) (st : Stmt) (t : TS) : Prop :=
  ∀ (pins : List (Addr × Obj)) (s : Shared) (σ : St) (H : Hp) (D : Ends), Inv X pins σ H s → t D σ H → wpAny (model X.prog X.w) X.A (exec st X.env) (SP X pins D) X.xe s
def PSs (X : Cx) (st : List Stmt) (t : TS) : Prop :=
  ∀ (pins : List (Addr × Obj)) (s : Shared) (σ : St) (H : Hp) (D : Ends), Inv X pins σ H s → t D σ H → wpAny (model X.prog X.w) X.A (execs st X.env) (SP X pins D) X.xe s
/-- weaken the end -/
theorem thn {α : Type} {t : Sem α} {Q Q' : α → Shared → Prop} {M : Model} {A : Around} {E : Value → Shared → Prop} {s : Shared} (h : wpAny M A t Q E s) (hQ : ∀ a s, Q a s → Q' a s) : wpAny M A t Q' E s := wpAny_mono h hQ fun _ _ x => x
end L2

namespace L2
open PySem PySem.Spec PyProof.Rows
section
variable {X : Cx}

/-- two expressions in a row -/
theorem bin {a b : Expr} {ta tb : TE} (ha : PE X a ta) (hb : PE X b tb) {pins : List (Addr × Obj)} {s : Shared} {σ : St} {H : Hp} {R : V → V → Hp → Prop} (I : Inv X pins σ H s) (h : ta σ H fun x H1 => tb σ H1 fun y H2 => R x y H2)
    {α : Type} {Q : α → Shared → Prop} {f : Value → Value → Sem α}
    (hf : ∀ v u s2 x y H2, Inv X pins σ H2 s2 → RelV x v → RelV y u → R x y H2 → wpAny (model X.prog X.w) X.A (f v u) Q X.xe s2) :
    wpAny (model X.prog X.w) X.A (eval a X.env) (fun v s₁ => wpAny (model X.prog X.w) X.A (eval b X.env) (fun u s₂ => wpAny (model X.prog X.w) X.A (f v u) Q X.xe s₂) X.xe s₁) X.xe s := by
  refine thn (ha pins s σ H _ I h) fun v s1 ⟨x, H1, I1, r1, q1⟩ => ?_
  refine thn (hb pins s1 σ H1 _ I1 q1) fun u s2 ⟨y, H2, I2, r2, q2⟩ => ?_
  exact hf v u s2 x y H2 I2 r1 r2 q2

/-! ### names and constants -/
def tVar (i : Nat) : TE := fun σ H Q => ∃ v, σ[i]? = some (some v) ∧ Q v H
def tC (v : V) : TE := fun _ H Q => Q v H
theorem pe_var {i : Nat} {x : Str} {pos : Pos} (hN : X.N[i]? = some x) (hv : Vis X.env.scope x) (hd : (x == ("__debug__" : Str)) = false := by decide) (hcd : (x == ("__classdict__" : Str)) = false := by decide) : PE X (.Name x pos) (tVar i) := by
  intro pins s σ H Q I h
  obtain ⟨v, e, h⟩ := h
  obtain ⟨m, hn, hl⟩ := I.loc
  obtain ⟨u, r, l⟩ := hl i x v hN e hv
  have fin : EP X pins σ Q u s := ⟨v, H, I, r, h⟩
  rcases l with ⟨hk, hm⟩ | ⟨hk, c, hc, hcell⟩
  · exact wpAny_Name (wpAny_loadName_local I.ok.kind hk hn hm fin) hd
  · rcases hk with hk | hk
    · exact wpAny_Name (wpAny_loadName_cell I.ok.kind hk hc hcell fin) hd
    · exact wpAny_Name (wpAny_loadName_free I.ok.kind hk hc hcell fin hcd) hd
theorem pe_int {i j pos} : PE X (.Constant (.int i) j pos) (tC (.int i)) := fun _ _ _ H _ I h => wpAny_Constant_int ⟨.int i, H, I.tok _, ⟨_, rfl⟩, h⟩
theorem pe_bl {b j pos} : PE X (.Constant (.bool b) j pos) (tC (.bl b)) := fun _ _ _ H _ I h => Constant_bool ⟨.bl b, H, I, rfl, h⟩
theorem pe_non {j pos} : PE X (.Constant .none j pos) (tC .non) := fun _ _ _ H _ I h => Constant_none ⟨.non, H, I, rfl, h⟩
theorem pe_str {x j pos} : PE X (.Constant (.str x) j pos) (tC (.str x)) := fun _ _ _ H _ I h => Calls.Constant_str ⟨.str x, H, I.tok _, ⟨_, rfl⟩, h⟩

/-- a global name of the def -/
def Gl (X : Cx) (x : Str) : Prop := X.env.kindOf x = some .globalImplicit
theorem ld_glob {E : Value → Shared → Prop} {pins : List (Addr × Obj)} {s : Shared} {σ : St} {H : Hp} {x : Str} {u : Value} {pos : Pos} {Q : Value → Shared → Prop} (I : Inv X pins σ H s) (hg : Gl X x) (hm : X.mg x = some u) (h : Q u s)
    (hd : (x == ("__debug__" : Str)) = false := by decide) : wpAny (model X.prog X.w) X.A (eval (.Name x pos) X.env) Q E s :=
  Calls.Name_function_global I.ok.kind hg (Calls.loadGlobal_global (by rw [I.ok.glob]; exact I.mod.glob.keeps I.bk) hm h) hd
theorem ld_blt {E : Value → Shared → Prop} {pins : List (Addr × Obj)} {s : Shared} {σ : St} {H : Hp} {x : Str} {u : Value} {pos : Pos} {Q : Value → Shared → Prop} (I : Inv X pins σ H s) (hg : Gl X x) (hm : X.mg x = none) (hv : bootBuiltins x = some u) (h : Q u s)
    (hn : x ≠ "__name__" := by decide) (hd : (x == ("__debug__" : Str)) = false := by decide) : wpAny (model X.prog X.w) X.A (eval (.Name x pos) X.env) Q E s := by
  obtain ⟨mb, h1, h2⟩ := I.mod.blt
  exact Calls.Name_function_global I.ok.kind hg (Calls.loadGlobal_builtin (by rw [I.ok.glob]; exact I.mod.glob.keeps I.bk) hm (by rw [I.ok.blt]; exact h1.keeps I.bk) ((h2 x hn).trans hv) h) hd
/-- a module's constant, a class, a function, as a value -/
theorem pe_glob {x : Str} {v : V} {u : Value} {pos : Pos} (hg : Gl X x) (hm : X.mg x = some u) (r : RelV v u) (hd : (x == ("__debug__" : Str)) = false := by decide) : PE X (.Name x pos) (tC v) :=
  fun _ _ _ H _ I h => ld_glob I hg hm ⟨v, H, I, r, h⟩ hd
theorem pe_bltn {x : Str} {v : V} {u : Value} {pos : Pos} (hg : Gl X x) (hm : X.mg x = none) (hv : bootBuiltins x = some u) (r : RelV v u) (hn : x ≠ "__name__" := by decide) (hd : (x == ("__debug__" : Str)) = false := by decide) : PE X (.Name x pos) (tC v) :=
  fun _ _ _ H _ I h => ld_blt I hg hm hv ⟨v, H, I, r, h⟩ hn hd

/-! ### arithmetic -/
/-- two ints -/
def t2I (ta tb : TE) (k : Int → Int → Hp → Prop) : St → Hp → Prop := fun σ H => ta σ H fun x H1 => tb σ H1 fun y H2 => ∃ i j, x = .int i ∧ y = .int j ∧ k i j H2
def tAdd (ta tb : TE) : TE := fun σ H Q => t2I ta tb (fun i j H2 => Q (.int (i + j)) H2) σ H
def tSub (ta tb : TE) : TE := fun σ H Q => t2I ta tb (fun i j H2 => Q (.int (i - j)) H2) σ H
/-- the left factor below 2^64 -/
def tMul (ta tb : TE) : TE := fun σ H Q => t2I ta tb (fun i j H2 => (-(2 ^ 64) < i ∧ i < 2 ^ 64) ∧ Q (.int (i * j)) H2) σ H
variable {a b : Expr} {ta tb : TE} {pos : Pos}
/-! ### comparisons -/
def PC (X : Cx) (op : CmpOp) (a b : Expr) (t : TE) : Prop :=
  ∀ (pins : List (Addr × Obj)) (s : Shared) (σ : St) (H : Hp) (Q : VK), Inv X pins σ H s → t σ H Q →
    wpAny (model X.prog X.w) X.A (eval a X.env) (fun v s₁ => wpAny (model X.prog X.w) X.A (eval b X.env) (fun u s₂ => wpAny (model X.prog X.w) X.A (compareOp op v u) (EP X pins σ Q) X.xe s₂) X.xe s₁) X.xe s
theorem nobehind (b : Expr) {op : CmpOp} (h : op ≠ .In) (h2 : op ≠ .NotIn) : behindInMarks op b = false := by
  have e1 : (op == CmpOp.In) = false := by cases op <;> first | rfl | exact absurd rfl h
  have e2 : (op == CmpOp.NotIn) = false := by cases op <;> first | rfl | exact absurd rfl h2
  cases b <;> simp [behindInMarks, e1, e2]
def tCmp (p : Int → Int → Bool) (ta tb : TE) : TE := fun σ H Q => t2I ta tb (fun i j H2 => Q (.bl (p i j)) H2) σ H
abbrev tLt : TE → TE → TE := tCmp fun i j => decide (i < j)
abbrev tLe : TE → TE → TE := tCmp fun i j => decide (i ≤ j)
abbrev tGt : TE → TE → TE := tCmp fun i j => decide (j < i)
abbrev tGe : TE → TE → TE := tCmp fun i j => decide (j ≤ i)
abbrev tEqI : TE → TE → TE := tCmp fun i j => decide (i = j)
abbrev tNeI : TE → TE → TE := tCmp fun i j => !decide (i = j)
/-- is None -/
def tIsN (ta : TE) : TE := fun σ H Q => ta σ H fun x H1 => Q (.bl (decide (x = .non))) H1
def tNotN (ta : TE) : TE := fun σ H Q => ta σ H fun x H1 => Q (.bl (!decide (x = .non))) H1
/-- a comparison as a value, as a test -/
def tB (t : TE) : TT := fun σ H Q => t σ H fun x H1 => ∃ c, x = .bl c ∧ Q c H1
theorem pt_cmp {op : CmpOp} {t : TE} (h : PC X op a b t) (h1 : behindInMarks op b = false := by first | exact nobehind _ (by decide) (by decide) | rfl) : PT X (.Compare a [op] [b] pos) (tB t) := by
  intro pins s σ H Q I hw
  refine wpAny_isTrue_Compare1 (thn (h pins s σ H _ I hw) fun v s1 h1 => thn h1 fun u s2 h2 => thn h2 fun c s3 ⟨x, H1, I1, r1, q1⟩ => ?_) h1
  obtain ⟨d, rfl, q⟩ := q1
  cases r1
  exact wpAny_truthy_bool ⟨H1, I1, q⟩
/-! ### and, or, not -/
variable {tA tB' : TT} {rest : List Expr}
def tAnd (t u : TT) : TT := fun σ H Q => t σ H fun c H1 => if c = true then u σ H1 Q else Q false H1
def tOr (t u : TT) : TT := fun σ H Q => t σ H fun c H1 => if c = true then Q true H1 else u σ H1 Q
def tNot (t : TT) : TT := fun σ H Q => t σ H fun c H1 => Q (!c) H1
theorem pw_and1 (ha : PT X a tA) : PW X (.BoolOp .And [a] pos) tA := by
  intro wh pins s σ H Q I h
  refine isTrue_and (thn (ha pins s σ H Q I h) fun c s1 e => ?_)
  cases c with
  | true => exact isTrue_and_nil e
  | false => exact e
theorem pw_or1 (ha : PT X a tA) : PW X (.BoolOp .Or [a] pos) tA := by
  intro wh pins s σ H Q I h
  refine isTrue_or (thn (ha pins s σ H Q I h) fun c s1 e => ?_)
  cases c with
  | false => exact isTrue_or_nil e
  | true => exact e
theorem pw_and (ha : PT X a tA) (hb : PW X (.BoolOp .And (b :: rest) pos) tB') : PW X (.BoolOp .And (a :: b :: rest) pos) (tAnd tA tB') := by
  intro wh pins s σ H Q I h
  refine isTrue_and (thn (ha pins s σ H _ I h) fun c s1 ⟨H1, I1, q1⟩ => ?_)
  cases c with
  | true => exact hb wh pins s1 σ H1 Q I1 q1
  | false => exact ⟨H1, I1, q1⟩
theorem pw_or (ha : PT X a tA) (hb : PW X (.BoolOp .Or (b :: rest) pos) tB') : PW X (.BoolOp .Or (a :: b :: rest) pos) (tOr tA tB') := by
  intro wh pins s σ H Q I h
  refine isTrue_or (thn (ha pins s σ H _ I h) fun c s1 ⟨H1, I1, q1⟩ => ?_)
  cases c with
  | true => exact ⟨H1, I1, q1⟩
  | false => exact hb wh pins s1 σ H1 Q I1 q1
theorem pt_not (ha : PT X a tA) : PT X (.UnaryOp .Not a pos) (tNot tA) := by
  intro pins s σ H Q I h
  exact isTrue_not (ha pins s σ H (fun c H1 => Q (!c) H1) I h)
/-- .. as values (bools) -/
def tAndV (ta tb : TE) : TE := fun σ H Q => ta σ H fun x H1 => ∃ c, x = .bl c ∧ if c = true then tb σ H1 Q else Q (.bl false) H1
def tOrV (ta tb : TE) : TE := fun σ H Q => ta σ H fun x H1 => ∃ c, x = .bl c ∧ if c = true then Q (.bl true) H1 else tb σ H1 Q
def tNotV (ta : TE) : TE := fun σ H Q => ta σ H fun x H1 => ∃ c, x = .bl c ∧ Q (.bl (!c)) H1
theorem pe_one {op} {t : TE} (h : PE X a t) : PE X (.BoolOp op [a] pos) t := fun pins s σ H Q I hw => BoolOp_one (h pins s σ H Q I hw)
theorem pe_and (ha : PE X a ta) (hb : PE X (.BoolOp .And (b :: rest) pos) tb) : PE X (.BoolOp .And (a :: b :: rest) pos) (tAndV ta tb) := by
  intro pins s σ H Q I h
  refine BoolOp_and (thn (ha pins s σ H _ I h) fun v s1 ⟨x, H1, I1, r1, q1⟩ => ?_)
  obtain ⟨c, rfl, q1⟩ := q1
  cases r1
  refine wpAny_truthy_bool ?_
  cases c with
  | true => exact hb pins s1 σ H1 Q I1 q1
  | false => exact ⟨.bl false, H1, I1, rfl, q1⟩
/-- a if t else b -/
def tIf (t : TT) (ta tb : TE) : TE := fun σ H Q => t σ H fun c H1 => if c = true then ta σ H1 Q else tb σ H1 Q
theorem pe_ifExp {c : Expr} (hc : PT X c tA) (ha : PE X a ta) (hb : PE X b tb) : PE X (.IfExp c a b pos) (tIf tA ta tb) := by
  intro pins s σ H Q I h
  refine wpAny_IfExp (thn (hc pins s σ H _ I h) fun d s1 ⟨H1, I1, q1⟩ => ?_)
  cases d with
  | true => exact ha pins s1 σ H1 Q I1 q1
  | false => exact hb pins s1 σ H1 Q I1 q1
end
end L2

namespace L2
open PySem PySem.Spec PyProof.Rows

/-! ### a list, a tuple that is read: tracked, frozen, or an object of the module -/
def SqL (K : PySem.W.Frag) (H : Hp) (a : Addr) (xs : List V) : Prop :=
  Rd H a (.lst xs) ∨
    ∃ (o : Obj) (its : Array Value) (n : Nat), K.lookup a = some o ∧ o.cls = .type "list" ∧ o.dict = none ∧ o.data = .seq its n ∧ its.size ≤ sizeLine ∧ Vals xs its.toList
def SqT (K : PySem.W.Frag) (H : Hp) (a : Addr) (xs : List V) : Prop :=
  Rd H a (.tup xs) ∨
    ∃ (o : Obj) (its : Array Value) (n : Nat), K.lookup a = some o ∧ o.cls = .type "tuple" ∧ o.data = .seq its n ∧ its.size ≤ sizeLine ∧ Vals xs its.toList
def absV : Value → Option V
  | .none => some .non
  | .bool b => some (.bl b)
  | .int i _ => some (.int i)
  | .str x _ => some (.str x)
  | .bytes b _ => some (.byt b)
  | .float b _ => some (.flt b)
  | .ref a => some (.ref a)
  | .type n => some (.ty n)
  | _ => none
theorem RelV.abs {x : V} {u : Value} (r : RelV x u) : absV u = some x := by
  cases x with
  | non => cases r; rfl
  | bl _ => cases r; rfl
  | int _ => obtain ⟨t, rfl⟩ := r; rfl
  | str _ => obtain ⟨t, rfl⟩ := r; rfl
  | byt _ => obtain ⟨t, rfl⟩ := r; rfl
  | flt _ => obtain ⟨t, rfl⟩ := r; rfl
  | ref _ => cases r; rfl
  | ty _ => cases r; rfl
theorem RelV.inj {x y : V} {u : Value} (r : RelV x u) (q : RelV y u) : x = y := Option.some.inj (r.abs.symm.trans q.abs)
theorem Vals.inj : ∀ {xs ys : List V} {us : List Value}, Vals xs us → Vals ys us → xs = ys
  | _, _, _, .nil, .nil => rfl
  | _, _, _, .cons r t, .cons r' t' => by rw [r.inj r', Vals.inj t t']
section
variable {X : Cx} {pins : List (Addr × Obj)} {σ : St} {H : Hp} {s : Shared} {a : Addr} {xs ys : List V}
theorem SqL.of {K : PySem.W.Frag} (h : H a = some (.lst xs)) : SqL K H a xs := .inl (.inl h)
theorem SqT.of {K : PySem.W.Frag} (h : H a = some (.tup xs)) : SqT K H a xs := .inl (.inl h)
theorem Inv.list (I : Inv X pins σ H s) (h : SqL X.K H a xs) : ∃ its : List Value, Vals xs its ∧ PlainL s.heap a its.toArray ∧ xs.length ≤ sizeLine := by
  rcases h with h | ⟨o, its, n, hk, hc, hd, hs, hz, r⟩
  · obtain ⟨z, its, n, r, e⟩ := h.ok I.hok
    exact ⟨its, r, ⟨_, n, e, rfl, rfl, rfl⟩, z⟩
  · refine ⟨its.toList, r, ⟨o, n, I.kIn a o hk, hc, hd, by simpa using hs⟩, ?_⟩
    have e := r.length
    simp only [Array.length_toList] at e
    omega
theorem Inv.tuple (I : Inv X pins σ H s) (h : SqT X.K H a xs) : ∃ its : List Value, Vals xs its ∧ IsTup s.heap a its.toArray ∧ xs.length ≤ sizeLine := by
  rcases h with h | ⟨o, its, n, hk, hc, hs, hz, r⟩
  · obtain ⟨z, its, r, p⟩ := h.ok I.hok
    exact ⟨its, r, p, z⟩
  · refine ⟨its.toList, r, ⟨o, I.kIn a o hk, hc, n, by simpa using hs⟩, ?_⟩
    have e := r.length
    simp only [Array.length_toList] at e
    omega
theorem Inv.list_inj (I : Inv X pins σ H s) (h : SqL X.K H a xs) (h' : SqL X.K H a ys) : xs = ys := by
  obtain ⟨its, r, ⟨o, n, e, _, _, d⟩, _⟩ := I.list h
  obtain ⟨its', r', ⟨o', n', e', _, _, d'⟩, _⟩ := I.list h'
  rw [e] at e'; cases e'
  rw [d] at d'
  injection d' with d1 _
  have : its = its' := by simpa using congrArg Array.toList d1
  subst this
  exact r.inj r'
end

/-! ### another wish about exceptions -/
abbrev Cx.wish (X : Cx) (E : Value → Shared → Prop) : Cx := { X with xe := E }
/-- no exception leaves -/
abbrev Cx.nox (X : Cx) : Cx := X.wish fun _ _ => False
theorem Cx.Ok.wish {X : Cx} (ok : X.Ok) (E : Value → Shared → Prop) : (X.wish E).Ok :=
  ⟨ok.mod, ok.kind, ok.glob, ok.blt, ok.above, ok.inj, ok.has, ok.cab, ok.hd, ok.frames, ok.stk, ok.exf, ok.bs, ok.bsz, ok.noex, ok.exfs, ok.funs, ok.frf⟩
theorem Cx.Ok.unwish {X : Cx} {E : Value → Shared → Prop} (ok : (X.wish E).Ok) : X.Ok :=
  ⟨ok.mod, ok.kind, ok.glob, ok.blt, ok.above, ok.inj, ok.has, ok.cab, ok.hd, ok.frames, ok.stk, ok.exf, ok.bs, ok.bsz, ok.noex, ok.exfs, ok.funs, ok.frf⟩
section
variable {X : Cx} {pins : List (Addr × Obj)} {σ : St} {H : Hp} {s : Shared} {E : Value → Shared → Prop}
theorem Inv.wish (I : Inv X pins σ H s) (E : Value → Shared → Prop) : Inv (X.wish E) pins σ H s := ⟨I.ok.wish E, I.os, I.bare, I.base, I.loc, I.cell, I.free, I.freeC, I.pin, I.hok, I.len⟩
theorem Inv.unwish (I : Inv (X.wish E) pins σ H s) : Inv X pins σ H s := ⟨I.ok.unwish, I.os, I.bare, I.base, I.loc, I.cell, I.free, I.freeC, I.pin, I.hok, I.len⟩
theorem SP.unwish {D : Ends} {f : Flow} {s' : Shared} (h : SP (X.wish E) pins D f s') : SP X pins D f s' := by
  cases f with
  | next => obtain ⟨σ', H', I, q⟩ := h; exact ⟨σ', H', I.unwish, q⟩
  | brk => obtain ⟨σ', H', I, q⟩ := h; exact ⟨σ', H', I.unwish, q⟩
  | cont => obtain ⟨σ', H', I, q⟩ := h; exact ⟨σ', H', I.unwish, q⟩
  | ret u => obtain ⟨v, σ', H', I, r, q⟩ := h; exact ⟨v, σ', H', I.unwish, r, q⟩
theorem PE.nox {e : Expr} {t : TE} (h : PE X.nox e t) : PE X e t := fun pins s σ H Q I hw =>
  wpAny_mono (h pins s σ H Q (I.wish _) hw) (fun _ _ ⟨v, H', I', r, q⟩ => ⟨v, H', I'.unwish, r, q⟩) fun _ _ z => False.elim z
theorem PT.nox {e : Expr} {t : TT} (h : PT X.nox e t) : PT X e t := fun pins s σ H Q I hw =>
  wpAny_mono (h pins s σ H Q (I.wish _) hw) (fun _ _ ⟨H', I', q⟩ => ⟨H', I'.unwish, q⟩) fun _ _ z => False.elim z
theorem PSs.nox {st : List Stmt} {t : TS} (h : PSs X.nox st t) : PSs X st t := fun pins s σ H D I hw =>
  wpAny_mono (h pins s σ H D (I.wish _) hw) (fun _ _ q => q.unwish) fun _ _ z => False.elim z
end

/-! ### blocks and small statements -/
section
variable {X : Cx} {st : Stmt} {rest : List Stmt} {t u : TS} {e : Expr} {te : TE} {pos : Pos}
def tNext : TS := fun D σ H => D.nx σ H
def tSeq (t u : TS) : TS := fun D σ H => t { D with nx := u D } σ H
theorem pss_nil : PSs X [] tNext := fun _ _ σ H _ I h => wpAny_execs_nil ⟨σ, H, I, h⟩
theorem pss_cons (h1 : PS X st t) (h2 : PSs X rest u) : PSs X (st :: rest) (tSeq t u) := by
  intro pins s σ H D I h
  refine wpAny_execs_cons (thn (h1 pins s σ H { D with nx := u D } I h) fun f s1 q => ?_)
  cases f with
  | next =>
    obtain ⟨σ', H', I', q⟩ := q
    exact h2 pins s1 σ' H' D I' q
  | ret v => exact q
  | brk => exact q
  | cont => exact q
theorem pss_one (h1 : PS X st t) : PSs X [st] t := by
  intro pins s σ H D I h
  refine wpAny_execs_cons (thn (h1 pins s σ H D I h) fun f s1 q => ?_)
  cases f with
  | next => exact wpAny_execs_nil q
  | ret v => exact q
  | brk => exact q
  | cont => exact q
def tBreak : TS := fun D σ H => D.bk σ H
def tCont : TS := fun D σ H => D.ct σ H
/-- in a def's body nothing is shown -/
theorem Inv.quiet {pins : List (Addr × Obj)} {σ : St} {H : Hp} {s : Shared} (I : Inv X pins σ H s) : interactive X.env = false := by simp [interactive, I.ok.kind]
/-- an expression whose value is dropped -/
def tDrop (te : TE) : TS := fun D σ H => te σ H fun _ H1 => D.nx σ H1
theorem ps_expr (he : PE X e te) (hs : swapsWith e none pos.line X.env = pure false := by rfl) : PS X (.Expr e pos) (tDrop te) := by
  intro pins s σ H D I h
  exact wpAny_Expr_any (thn (he pins s σ H _ I h) fun v s1 ⟨x, H1, I1, r1, q1⟩ => ⟨σ, H1, I1, q1⟩) I.quiet hs
def tRet (te : TE) : TS := fun D σ H => te σ H D.rt
theorem ps_ret (he : PE X e te) : PS X (.Return (some e) pos) (tRet te) := by
  intro pins s σ H D I h
  exact wpAny_Return_some (thn (he pins s σ H _ I h) fun v s1 ⟨x, H1, I1, r1, q1⟩ => ⟨x, σ, H1, I1, r1, q1⟩)
def tRetN : TS := fun D _ H => D.rt .non H
def tIfS (c : TT) (t u : TS) : TS := fun D σ H => c σ H fun b H1 => if b = true then t D σ H1 else u D σ H1
theorem ps_if {c : Expr} {a b : List Stmt} {tc : TT} (hc : PT X c tc) (ha : PSs X a t) (hb : PSs X b u) : PS X (.If c a b pos) (tIfS tc t u) := by
  intro pins s σ H D I h
  refine wpAny_If (thn (hc pins s σ H _ I h) fun d s1 ⟨H1, I1, q1⟩ => ?_)
  cases d with
  | true => exact ha pins s1 σ H1 D I1 q1
  | false => exact hb pins s1 σ H1 D I1 q1
/-- code that the proof never comes to -/
def tNever : TS := fun _ _ _ => False
end

/-! ### targets -/
abbrev TG := V → St → Hp → (St → Hp → Prop) → Prop
abbrev TGs := List V → St → Hp → (St → Hp → Prop) → Prop
def PG (X : Cx) (target : Expr) (t : TG) : Prop :=
  ∀ (pins : List (Addr × Obj)) (s : Shared) (σ : St) (H : Hp) (v : V) (u : Value) (Q : St → Hp → Prop), Inv X pins σ H s → RelV v u → t v σ H Q →
    wpAny (model X.prog X.w) X.A (assign target X.env u) (fun _ s' => ∃ σ' H', Inv X pins σ' H' s' ∧ Q σ' H') X.xe s
/-- several targets, one after another -/
def PGs (X : Cx) (ts : List Expr) (t : TGs) : Prop :=
  ∀ (pins : List (Addr × Obj)) (s : Shared) (σ : St) (H : Hp) (vs : List V) (us : List Value) (Q : St → Hp → Prop), Inv X pins σ H s → Vals vs us → t vs σ H Q →
    wpAny (model X.prog X.w) X.A (assignInOrder ((assignEach ts X.env).map (·.2)) us) (fun _ s' => ∃ σ' H', Inv X pins σ' H' s' ∧ Q σ' H') X.xe s
/-- o[i] = v, by values -/
abbrev TSet := V → V → V → Hp → (Hp → Prop) → Prop
def PSet (X : Cx) (t : TSet) : Prop :=
  ∀ (pins : List (Addr × Obj)) (s : Shared) (σ : St) (H : Hp) (o i v : V) (ov iv u : Value) (Q : Hp → Prop), Inv X pins σ H s → RelV o ov → RelV i iv → RelV v u → t o i v H Q →
    wpAny (model X.prog X.w) X.A (setItem ov iv u) (fun _ s' => ∃ H', Inv X pins σ H' s' ∧ Q H') X.xe s
/-- a op= b, by values -/
abbrev TIp := V → V → Hp → VK → Prop
def PIp (X : Cx) (op : Operator) (t : TIp) : Prop :=
  ∀ (pins : List (Addr × Obj)) (s : Shared) (σ : St) (H : Hp) (x y : V) (v u : Value) (Q : VK), Inv X pins σ H s → RelV x v → RelV y u → t x y H Q →
    wpAny (model X.prog X.w) X.A (inplaceOp op v u) (EP X pins σ Q) X.xe s
section
variable {X : Cx} {pos : Pos}
def gName (i : Nat) : TG := fun v σ H Q => Q (σ.set i (some v)) H
theorem pg_name {i : Nat} {x : Str} (hN : X.N.Nodup) (hi : X.N[i]? = some x) (hx : Loc X.env.scope x) (hf : X.fn x = true ∨ X.env.scope.names.lookup x = some .local := by first | exact .inl rfl | exact .inr rfl | assumption) : PG X (.Name x pos) (gName i) := by
  intro pins s σ H v u Q I r h
  exact wpAny_assign_Name (store_ok I hN hi hx r (fun s' I' => ⟨_, H, I', h⟩) hf)
def gNil : TGs := fun vs σ H Q => vs = [] ∧ Q σ H
def gCons (t : TG) (u : TGs) : TGs := fun vs σ H Q => ∃ v r, vs = v :: r ∧ t v σ H fun σ' H' => u r σ' H' Q
theorem pgs_nil : PGs X [] gNil := by
  intro pins s σ H vs us Q I r h
  obtain ⟨e, h⟩ := h
  subst e
  cases r
  exact assignInOrder_nil ⟨σ, H, I, h⟩
theorem pgs_cons {e : Expr} {es : List Expr} {t : TG} {u : TGs} (h1 : PG X e t) (h2 : PGs X es u)
    (hs : (assignEach (e :: es) X.env).map (·.2) = assign e X.env :: (assignEach es X.env).map (·.2) := by rfl) : PGs X (e :: es) (gCons t u) := by
  intro pins s σ H vs us Q I r h
  obtain ⟨v, vr, e1, h⟩ := h
  subst e1
  cases r with
  | cons r rr =>
    rw [hs]
    refine assignInOrder_cons (thn (h1 pins s σ H _ _ _ I r h) fun _ s1 ⟨σ1, H1, I1, q1⟩ => ?_)
    exact h2 pins s1 σ1 H1 _ _ Q I1 rr q1
/-- (a, b, ..) = a tuple of that length -/
def gTup (K : PySem.W.Frag) (n : Nat) (t : TGs) : TG := fun v σ H Q => ∃ a xs, v = .ref a ∧ SqT K H a xs ∧ xs.length = n ∧ t xs σ H Q
theorem pg_tup {es : List Expr} {k : Nat} {t : TGs} {n : Nat} (hc : X.calm = true) (h : PGs X es t)
    (hn : (assignEach es X.env).length = n := by rfl) (hst : (assignEach es X.env).findIdx? (·.1) = none := by rfl) : PG X (.Tuple es k pos) (gTup X.K n t) := by
  intro pins s σ H v u Q I r hw
  obtain ⟨a, xs, e1, hq, hl, hw⟩ := hw
  subst e1
  cases r
  obtain ⟨its, rv, ht, hz⟩ := I.tuple hq
  refine assign_Tuple_tuple (I.ok.hd hc) ht (by simp [hn, ← hl, rv.length]) hst fun h' hx => ?_
  have I1 : Inv X pins σ H { s with heap := h' } := I.kept (t' := s.toks) fun b o e => hx b o (Nat.ne_of_lt (Heap.lt_size e)) e
  exact h pins _ σ H xs _ Q I1 (by simpa using rv) hw
/-- o[i] = .. -/
def gSub (to ti : TE) (t : TSet) : TG := fun v σ H Q => to σ H fun o H1 => ti σ H1 fun i H2 => t o i v H2 fun H3 => Q σ H3
theorem pg_sub {o i : Expr} {to ti : TE} {t : TSet} (ho : PE X o to) (hi : PE X i ti) (hs : PSet X t)
    (ha : ∀ v, assign (.Subscript o i pos) X.env v = (do
      let ov ← holding [v] (eval o X.env)
      let iv ← holding [v, ov] (eval i X.env)
      standAt pos
      holding [v, ov, iv] (setItem ov iv v)
      release [v, ov, iv] []) := by intro _; rfl) : PG X (.Subscript o i pos) (gSub to ti t) := by
  intro pins s σ H v u Q I r h
  rw [ha]
  refine wpAny_bind (wpAny_holding (thn (ho pins s σ H _ I h) fun ov s1 ⟨x, H1, I1, r1, q1⟩ => ?_))
  refine wpAny_bind (wpAny_holding (thn (hi pins s1 σ H1 _ I1 q1) fun iv s2 ⟨y, H2, I2, r2, q2⟩ => ?_))
  refine wpAny_bind (wpAny_standAt (wpAny_bind (wpAny_holding (thn (hs pins s2 σ H2 x y v ov iv u _ I2 r1 r2 r q2) fun _ s3 ⟨H3, I3, q3⟩ => ?_))))
  exact wpAny_release ⟨σ, H3, I3, q3⟩
/-- target = value -/
def tAsg (te : TE) (g : TG) : TS := fun D σ H => te σ H fun x H1 => g x σ H1 D.nx
theorem ps_asg {tg e : Expr} {te : TE} {g : TG} (he : PE X e te) (hg : PG X tg g) (hs : swapsWithSole [tg] e pos.line X.env = pure false := by rfl) (hw : swappedStores [tg] e X.env = pure none := by rfl)
    (h1 : (assignEach [tg] X.env).map (·.2) = [assign tg X.env] := by rfl) : PS X (.Assign [tg] e pos) (tAsg te g) := by
  intro pins s σ H D I h
  refine wpAny_Assign_stores (thn (he pins s σ H _ I h) fun v s1 ⟨x, H1, I1, r1, q1⟩ => ?_) hs hw
  rw [h1]
  exact thn (hg pins s1 σ H1 x v _ I1 r1 q1) fun _ s2 q => q
/-- name = value -/
theorem ps_set {i : Nat} {x : Str} {e : Expr} {te : TE} {pos' : Pos} (hN : X.N.Nodup) (hi : X.N[i]? = some x) (hx : Loc X.env.scope x) (he : PE X e te) (hs : swapsWith e (some (.Name x pos')) pos.line X.env = pure false := by rfl) (hf : X.fn x = true ∨ X.env.scope.names.lookup x = some .local := by first | exact .inl rfl | exact .inr rfl | assumption) :
    PS X (.Assign [.Name x pos'] e pos) (tAsg te (gName i)) := by
  intro pins s σ H D I h
  refine wpAny_Assign_Name (thn (he pins s σ H _ I h) fun v s1 ⟨y, H1, I1, r1, q1⟩ => ?_) hs
  exact store_ok I1 hN hi hx r1 (fun s2 I2 => ⟨_, H1, I2, q1⟩) hf
/-- a, b = x, y with plain local names: stored from the right; the pair itself is not tracked (the opening rows as in PyProof/Rows/TupAssign.lean:23) -/
def tPar (i j : Nat) (ta : TA) : TS := fun D σ H => ta σ H fun vs H1 => ∃ v w, vs = [v, w] ∧ D.nx ((σ.set i (some v)).set j (some w)) H1
/-- name op= e -/
def tAug (i : Nat) (te : TE) (ti : TIp) : TS := fun D σ H => ∃ x, σ[i]? = some (some x) ∧ te σ H fun y H1 => ti x y H1 fun z H2 => D.nx (σ.set i (some z)) H2
/-- o[i] op= e -/
def tAugS (to ti te : TE) (tget : V → V → Hp → VK → Prop) (tip : TIp) (tset : TSet) : TS := fun D σ H => to σ H fun o H1 => ti σ H1 fun i H2 => tget o i H2 fun x H3 => te σ H3 fun y H4 => tip x y H4 fun z H5 => tset o i z H5 fun H6 => D.nx σ H6
/-- o[i], by values -/
def PGet (X : Cx) (t : V → V → Hp → VK → Prop) : Prop :=
  ∀ (pins : List (Addr × Obj)) (s : Shared) (σ : St) (H : Hp) (o i : V) (ov iv : Value) (Q : VK), Inv X pins σ H s → RelV o ov → RelV i iv → t o i H Q →
    wpAny (model X.prog X.w) X.A (getItem ov iv) (EP X pins σ Q) X.xe s
/-- ints -/
def ipI (f : Int → Int → Int) : TIp := fun x y H Q => ∃ i j, x = .int i ∧ y = .int j ∧ Q (.int (f i j)) H
end

/-! ### while -/
section
variable {X : Cx} {pos : Pos}
/-- the invariant W with its measure -/
def tWhile (c : TT) (tb : TS) : TS := fun D σ H => ∃ W : Nat → St → Hp → Prop, (∃ m, W m σ H) ∧ ∀ m σ H, W m σ H →
  c σ H fun b H1 => if b = true then ∃ N : St → Hp → Prop, (∀ σ' H', N σ' H' → ∃ m', m' < m ∧ W m' σ' H') ∧ tb { D with nx := N, ct := N, bk := D.nx } σ H1 else D.nx σ H1
end

/-! ### what a loop or a comprehension walks -/
/-- at turn i: it yields x (the heap may grow), or it stops -/
structure It where
  go : Nat → Hp → Prop
  yld : Nat → Hp → V → Hp → Prop
  stop : Nat → Hp → Prop
/-- the iterator's own objects may turn: they are not the frame's, not pinned, younger than the entry (or a comprehension's own) -/
def FpOk (X : Cx) (pins : List (Addr × Obj)) (H : Hp) (b : Addr) : Prop :=
  H b = none ∧ b ≠ X.env.locals ∧ b ∉ X.fs ∧ (b ∈ X.ex ∨ X.s₀.heap.objs.size ≤ b) ∧ (∀ x c, X.env.cells.lookup x = some c → c ≠ b) ∧ ∀ p ∈ X.pn ++ pins, p.1 ≠ b
theorem Inv.fpOk {X : Cx} {pins : List (Addr × Obj)} {σ : St} {H H' : Hp} {s : Shared} {b : Addr} (I : Inv X pins σ H s) (hb : s.heap.objs.size ≤ b) (hn : H' b = none) : FpOk X pins H' b := by
  refine ⟨hn, Nat.ne_of_gt (Nat.lt_of_lt_of_le I.lt hb), I.nofs hb, .inr (Nat.le_trans I.sz hb), fun x c e z => ?_, fun p hp z => ?_⟩
  · obtain ⟨v, q⟩ := I.cell x c e
    exact absurd (Nat.lt_of_lt_of_le q.lt (by rw [z]; exact hb)) (Nat.lt_irrefl _)
  · exact absurd (Nat.lt_of_lt_of_le (Heap.lt_size (I.pin p hp).1) (by rw [z]; exact hb)) (Nat.lt_irrefl _)
structure Turn (P : Program) (w : World) (K : PySem.W.Frag) (tg : Expr) (J : It) (fp : List Addr) (it : Addr) (tn : Nat → Heap → Prop) : Prop where
  mem : it ∈ fp
  obj : ∀ i h, tn i h → ∀ b ∈ fp, ∃ o, h.get? b = some o ∧ ∀ v, o.data ≠ .cell v
  keep : ∀ i h h', tn i h → (∀ b ∈ fp, ∀ o, h.get? b = some o → h'.get? b = some o) → tn i h'
  item : ∀ (X : Cx), X.prog = P → X.w = w → X.K = K → X.calm = true → ∀ (i : Nat) (pins : List (Addr × Obj)) (s : Shared) (σ : St) (H : Hp) (E : Value → Shared → Prop), Inv X pins σ H s → (∀ b ∈ fp, FpOk X pins H b) → tn i s.heap → J.go i H →
    wpAny (model P w) X.A (pyNext (.ref it)) (fun r s1 => ∃ u, r = some u ∧
      wpAny (model P w) X.A (letOwnedTupleGo tg (.ref it) u) (fun _ s2 => ∃ x H', Inv X pins σ H' s2 ∧ RelV x u ∧ J.yld i H x H' ∧ tn (i + 1) s2.heap ∧ ∀ b ∈ fp, H' b = none) E s1) E s
  done : ∀ (X : Cx), X.prog = P → X.w = w → X.K = K → X.calm = true → ∀ (i : Nat) (pins : List (Addr × Obj)) (s : Shared) (σ : St) (H : Hp) (E : Value → Shared → Prop), Inv X pins σ H s → (∀ b ∈ fp, FpOk X pins H b) → tn i s.heap → J.stop i H →
    wpAny (model P w) X.A (pyNext (.ref it)) (fun r s1 => r = none ∧ Inv X pins σ H s1) E s
  self : ∀ (A : Around) (i : Nat) (s : Shared) (Q : Value → Shared → Prop) (E : Value → Shared → Prop), tn i s.heap → Q (.ref it) s → wpAny (model P w) A (pyIter (.ref it)) Q E s
abbrev TI := St → Hp → (It → Hp → Prop) → Prop
/-- an iterator has come -/
def PIE (X : Cx) (pins : List (Addr × Obj)) (σ : St) (tg : Expr) (R : It → Hp → Prop) (itv : Value) (s2 : Shared) : Prop :=
  ∃ (it : Addr) (fp : List Addr) (tn : Nat → Heap → Prop) (J : It) (H' : Hp), itv = .ref it ∧ Inv X pins σ H' s2 ∧ Turn X.prog X.w X.K tg J fp it tn ∧ tn 0 s2.heap ∧ (∀ b ∈ fp, FpOk X pins H' b) ∧ R J H'
def PI (X : Cx) (tg iter : Expr) (wi : TI) : Prop :=
  ∀ (pins : List (Addr × Obj)) (s : Shared) (σ : St) (H : Hp) (R : It → Hp → Prop), Inv X pins σ H s → wi σ H R →
    wpAny (model X.prog X.w) X.A (eval iter X.env) (fun v s1 => wpAny (model X.prog X.w) X.A (pyIter v) (PIE X pins σ tg R) X.xe s1) X.xe s

/-- the step ahead of the store is nothing for an iterator that keeps no tuple -/
theorem go_of {M : Model} {A : Around} {E : Value → Shared → Prop} {s : Shared} {tg : Expr} {it : Addr} {u : Value} {o : Obj} {n : String} {vs : Array Value} {Q : Unit → Shared → Prop} (ho : s.heap.get? it = some o) (hc : o.cls = .type n) (hd : o.data = .fields vs)
    (hn : ["enumerate", "zip", "dict_itemiterator", "dict_reverseitemiterator", "odict_iterator", "itertools.zip_longest", "itertools.pairwise"].contains n = false) (hQ : Q () s) : wpAny M A (letOwnedTupleGo tg (.ref it) u) Q E s := by
  unfold letOwnedTupleGo
  cases tg <;> first
    | exact wpAny_pure hQ
    | (cases u <;> first
        | exact wpAny_pure hQ
        | (refine wpAny_bind (wpAny_load ho ?_)
           rw [hc, hd]
           show wpAny M A (if (["enumerate", "zip", "dict_itemiterator", "dict_reverseitemiterator", "odict_iterator", "itertools.zip_longest", "itertools.pairwise"].contains n && vs[0]? == some (rawInt _)) = true then _ else _) Q E s
           rw [if_neg (by intro h; rw [hn, Bool.false_and] at h; cases h)]
           exact wpAny_pure hQ))

/-- the list at a, as it stands at each turn (a loop may append to it) -/
def Itl (K : PySem.W.Frag) (a : Addr) : It :=
  ⟨fun i H => ∃ xs x, SqL K H a xs ∧ xs[i]? = some x, fun i H x H' => H' = H ∧ ∀ xs, SqL K H a xs → xs[i]? = some x, fun i H => ∃ xs, SqL K H a xs ∧ xs.length ≤ i⟩
def Itt (K : PySem.W.Frag) (a : Addr) : It :=
  ⟨fun i H => ∃ xs x, SqT K H a xs ∧ xs[i]? = some x, fun i H x H' => H' = H ∧ ∀ xs, SqT K H a xs → xs[i]? = some x, fun i H => ∃ xs, SqT K H a xs ∧ xs.length ≤ i⟩
/-- lo, lo + 1, .. (n of them) -/
def Itr (lo : Int) (n : Nat) : It := ⟨fun i _ => i < n, fun i H x H' => H' = H ∧ x = .int (lo + i), fun i _ => n ≤ i⟩
theorem turn_list {P : Program} {w : World} {K : PySem.W.Frag} {tg : Expr} (a it : Addr) : Turn P w K tg (Itl K a) [it] it (fun i h => h.IsListIter it a i) where
  mem := by simp
  obj := fun i h st b hb => by
    have e : b = it := by simpa using hb
    subst e
    obtain ⟨o, e, c, d⟩ := st
    exact ⟨o, e, fun v z => by rw [d] at z; cases z⟩
  keep := fun i h h' st k => st.at fun o e => k it (by simp) o e
  item := by
    intro X hP hw hK hc i pins s σ H E I hf st hg
    subst hP hw hK
    obtain ⟨xs, x, hq, hx⟩ := hg
    obtain ⟨its, rv, p, hz⟩ := I.list hq
    obtain ⟨u, hu, ru⟩ := rv.get hx
    obtain ⟨f0, f1, f2, f3, f4, f5⟩ := hf it (by simp)
    refine wpAny_pyNext_list_item st p.isList (x := u) (by simpa using hu) fun h' st' sb => ?_
    have I1 : Inv X pins σ H { s with heap := h' } := I.turned (t' := s.toks) (fun b o hb e => (sb.2 b hb).trans e) f0 f1 f3 f4 f5
    obtain ⟨o, e, c, d⟩ := id st'
    exact ⟨u, rfl, go_of (s := { s with heap := h' }) e c d (by decide) ⟨x, H, I1, ru, ⟨rfl, fun ys hy => by rw [I.list_inj hy hq]; exact hx⟩, st', fun b hb => (hf b hb).1⟩⟩
  done := by
    intro X hP hw hK hc i pins s σ H E I hf st hg
    subst hP hw hK
    obtain ⟨xs, hq, hx⟩ := hg
    obtain ⟨its, rv, p, hz⟩ := I.list hq
    obtain ⟨f0, f1, f2, f3, f4, f5⟩ := hf it (by simp)
    have hl := rv.length
    exact wpAny_pyNext_list_end (I.ok.hd hc) st p.isList (by simp; omega) fun h' eb => ⟨rfl, I.turned (t' := s.toks) (fun b o hb e => eb b o hb e) f0 f1 f3 f4 f5⟩
  self := fun _ _ _ _ _ st h => wpAny_pyIter_listiter st h
theorem turn_range {P : Program} {w : World} {K : PySem.W.Frag} {tg : Expr} (it : Addr) (lo : Int) (n : Nat) : Turn P w K tg (Itr lo n) [it] it (fun i h => IsRangeIter h it (lo + (i : Nat) * 1) ((n : Int) - (i : Nat)) 1) where
  mem := by simp
  obj := fun i h st b hb => by
    have e : b = it := by simpa using hb
    subst e
    exact ⟨_, st, fun v z => by
      have z' : Data.fields _ = Data.cell v := z
      cases z'⟩
  keep := fun i h h' st k => k it (by simp) _ st
  item := by
    intro X hP hw hK hc i pins s σ H E I hf st hg
    subst hP hw hK
    obtain ⟨f0, f1, f2, f3, f4, f5⟩ := hf it (by simp)
    have W := Walks.range (prog := X.prog) (w := X.w) (I.ok.hd hc) it lo 1 n
    refine W.item i s _ _ hg st fun v h' tk hv st' kk => ?_
    obtain ⟨t, rfl⟩ := hv
    have I1 : Inv X pins σ H { s with heap := h', toks := tk } := I.turned (fun b o hb e => kk b o (by simpa using hb) e) f0 f1 f3 f4 f5
    refine ⟨_, rfl, go_of (s := { s with heap := h', toks := tk }) (n := "range_iterator") st' rfl rfl (by decide) ⟨.int (lo + i), H, I1, ⟨t, ?_⟩, ⟨rfl, rfl⟩, st', fun b hb => (hf b hb).1⟩⟩
    rw [Int.mul_one]
  done := by
    intro X hP hw hK hc i pins s σ H E I hf st hg
    subst hP hw hK
    obtain ⟨f0, f1, f2, f3, f4, f5⟩ := hf it (by simp)
    exact wpAny_pyNext_range_end (I.ok.hd hc) st (by have : n ≤ i := hg; omega) fun h' eb => ⟨rfl, I.turned (t' := s.toks) (fun b o hb e => eb b o hb e) f0 f1 f3 f4 f5⟩
  self := fun _ _ _ _ _ st h => wpAny_pyIter_rangeiter st h
end L2

namespace L2
open PySem PySem.Spec PyProof.Rows
section
variable {X : Cx} {tg : Expr}
def iList (K : PySem.W.Frag) (tl : TE) : TI := fun σ H R => tl σ H fun x H1 => ∃ a, x = .ref a ∧ (∃ xs, SqL K H1 a xs) ∧ R (Itl K a) H1
def iTup (K : PySem.W.Frag) (tl : TE) : TI := fun σ H R => tl σ H fun x H1 => ∃ a, x = .ref a ∧ (∃ xs, SqT K H1 a xs) ∧ R (Itt K a) H1
theorem pi_list {l : Expr} {tl : TE} (hl : PE X l tl) : PI X tg l (iList X.K tl) := by
  intro pins s σ H R I h
  refine thn (hl pins s σ H _ I h) fun v s1 ⟨x, H1, I1, r1, q1⟩ => ?_
  obtain ⟨a, e, ⟨xs, hq⟩, q⟩ := q1
  subst e
  cases r1
  obtain ⟨its, rv, p, hz⟩ := I1.list hq
  refine wpAny_pyIter_list p.isList ?_
  refine ⟨s1.heap.objs.size, [s1.heap.objs.size], _, _, H1, rfl, I1.kept (t' := s1.toks) fun b o e => Heap.get?_push_of_some _ e, turn_list a _, ⟨_, Heap.get?_push_size _ rfl, rfl, rfl⟩, fun b hb => ?_, q⟩
  have e : b = s1.heap.objs.size := by simpa using hb
  subst e
  exact I1.fpOk (Nat.le_refl _) (I1.hok.fresh (Nat.le_refl _))
/-- a range object just made, walked -/
theorem range_it {pins : List (Addr × Obj)} {σ : St} {H : Hp} {s : Shared} {R : It → Hp → Prop} {E : Value → Shared → Prop} {lo hi : Int} {t u v : Tok} {tk : Nat} (I : Inv X pins σ H s) (h1 : -(2 ^ 62) ≤ lo) (h2 : lo < 2 ^ 62) (h3 : -(2 ^ 62) ≤ hi) (h4 : hi < 2 ^ 62)
    (q : R (Itr lo (hi - lo).toNat) H) : wpAny (model X.prog X.w) X.A (pyIter (.ref s.heap.objs.size)) (PIE X pins σ tg R) E { s with heap := s.heap.push { cls := .type "range", data := .fields #[.int lo t, .int hi u, .int 1 v] }, toks := tk } := by
  refine wpAny_pyIter_range (IsRange.new ..) (small_one h1 h2 h3 h4) ?_
  have I1 : Inv X pins σ H { s with heap := s.heap.push { cls := .type "range", data := .fields #[.int lo t, .int hi u, .int 1 v] }, toks := tk } := I.kept fun b o e => Heap.get?_push_of_some _ e
  refine ⟨(s.heap.push { cls := .type "range", data := .fields #[.int lo t, .int hi u, .int 1 v] }).objs.size, [(s.heap.push { cls := .type "range", data := .fields #[.int lo t, .int hi u, .int 1 v] }).objs.size], _, _, H, rfl,
    I1.kept (t' := tk) fun b o e => Heap.get?_push_of_some _ e, turn_range _ lo (hi - lo).toNat, ?_, fun b hb => ?_, q⟩
  · have e1 : lo + ((0 : Nat) : Int) * 1 = lo := by simp
    have e2 : (((hi - lo).toNat : Nat) : Int) - ((0 : Nat) : Int) = Builtin.Range.rangeSize lo hi 1 := by rw [rangeSize_one]; split <;> omega
    show IsRangeIter _ _ (lo + ((0 : Nat) : Int) * 1) ((((hi - lo).toNat : Nat) : Int) - ((0 : Nat) : Int)) 1
    rw [e1, e2]
    exact Heap.get?_push_size _ rfl
  · have e : b = (s.heap.push { cls := .type "range", data := .fields #[.int lo t, .int hi u, .int 1 v] }).objs.size := by simpa using hb
    subst e
    exact I1.fpOk (Nat.le_refl _) (I1.hok.fresh (Nat.le_refl _))
def iRng1 (ta : TA) : TI := fun σ H R => ta σ H fun vs H1 => ∃ j : Int, vs = [.int j] ∧ -(2 ^ 62) ≤ j ∧ j < 2 ^ 62 ∧ R (Itr 0 j.toNat) H1
def iRng2 (ta : TA) : TI := fun σ H R => ta σ H fun vs H1 => ∃ i j : Int, vs = [.int i, .int j] ∧ (-(2 ^ 62) ≤ i ∧ i < 2 ^ 62 ∧ -(2 ^ 62) ≤ j ∧ j < 2 ^ 62) ∧ R (Itr i (j - i).toNat) H1
theorem pi_range1 {a : Expr} {ta : TA} {p pos : Pos} (hg : Gl X "range") (hm : X.mg "range" = none) (ha : PA X [a] ta) (hs : starEach [a] X.env = [(false, eval a X.env)] := by rfl) : PI X tg (.Call (.Name "range" p) [a] [] pos) (iRng1 ta) := by
  intro pins s σ H R I h
  refine Call_ (ld_blt I hg hm boot_range (PyProof.Rows.callWith_type1 (thn (ha pos pins s σ H _ I h) fun us s1 ⟨vs, H1, I1, r1, q1⟩ => ?_) hs rfl))
  obtain ⟨j, e, q1, q2, q⟩ := q1
  subst e
  cases r1 with
  | cons r rr =>
    cases rr
    obtain ⟨t, rfl⟩ := r
    exact call_range_1 (range_it I1 (by omega) (by omega) q1 q2 (by simpa using q))
/-! ### for -/
/-- W: the invariant by the turn and a measure; N: what the body is to reach -/
def tFor (wi : TI) (g : TG) (tb : TS) : TS := fun D σ H => wi σ H fun J H1 => ∃ W : Nat → Nat → St → Hp → Prop, (∃ m, W 0 m σ H1) ∧ ∀ i m σ H, W i m σ H →
  (J.stop i H ∧ D.nx σ H) ∨ (J.go i H ∧ ∃ N : St → Hp → Prop, (∀ σ' H', N σ' H' → ∃ m', m' < m ∧ W (i + 1) m' σ' H') ∧ ∀ x H', J.yld i H x H' → g x σ H' fun σ2 H2 => tb { D with nx := N, ct := N, bk := D.nx } σ2 H2)
/-- the records at fp as they stand -/
def pinsAt (fp : List Addr) (h : Heap) : List (Addr × Obj) := fp.filterMap fun b => (h.get? b).map fun o => (b, o)
theorem mem_pinsAt {fp : List Addr} {h : Heap} {b : Addr} {o : Obj} (hb : b ∈ fp) (e : h.get? b = some o) : (b, o) ∈ pinsAt fp h := List.mem_filterMap.mpr ⟨b, hb, by rw [e]; rfl⟩
theorem of_pinsAt {fp : List Addr} {h : Heap} {p : Addr × Obj} (hp : p ∈ pinsAt fp h) : p.1 ∈ fp ∧ h.get? p.1 = some p.2 := by
  obtain ⟨b, hb, e⟩ := List.mem_filterMap.mp hp
  cases q : h.get? b with
  | none => rw [q] at e; cases e
  | some o =>
    rw [q] at e
    have e' : (b, o) = p := Option.some.inj e
    subst e'
    exact ⟨hb, q⟩
theorem Inv.pinned {pins : List (Addr × Obj)} {σ : St} {H : Hp} {s : Shared} {fp : List Addr} (I : Inv X pins σ H s) (hf : ∀ b ∈ fp, FpOk X pins H b) (ho : ∀ b ∈ fp, ∃ o, s.heap.get? b = some o ∧ ∀ v, o.data ≠ .cell v) : Inv X (pins ++ pinsAt fp s.heap) σ H s :=
  I.pins_of fun p hp => (List.mem_append.mp hp).elim (fun z => I.pin p (List.mem_append_right _ z)) fun z => by
    obtain ⟨hb, e⟩ := of_pinsAt z
    obtain ⟨f0, f1, f2, _⟩ := hf p.1 hb
    obtain ⟨o, e', d⟩ := ho p.1 hb
    rw [e] at e'; cases e'
    exact ⟨e, f0, f1, f2, d⟩
theorem Inv.unpinned {pins pl : List (Addr × Obj)} {σ : St} {H : Hp} {s : Shared} (I : Inv X (pins ++ pl) σ H s) : Inv X pins σ H s := I.pins_of fun p hp => I.pin p (List.mem_append_right _ (List.mem_append_left _ hp))
theorem ps_for {iter : Expr} {body : List Stmt} {wi : TI} {g : TG} {tb : TS} {pos : Pos} (hp : PassesOwn (model X.prog X.w) X.A X.env X.xe) (hc : X.calm = true) (hi : PI X tg iter wi) (hg : PG X tg g) (hb : PSs X body tb)
    (hs : ∀ x, foldedSetIterable iter X.env x = pure x := by intro _; rfl) : PS X (.For tg iter body [] pos) (tFor wi g tb) := by
  intro pins s σ H D I h
  refine wpAny_For (thn (hi pins s σ H _ I h) fun v s1 h1 => thn h1 fun itv s2 h2 => ?_) hs
  obtain ⟨it, fp, tn, J, H2, e, I2, T, st2, f2, W, ⟨m0, w0⟩, turn⟩ := h2
  subst e
  -- what stays true of the iterator's objects through the loop
  have stat : ∀ {H' : Hp}, (∀ b ∈ fp, H' b = none) → ∀ b ∈ fp, FpOk X pins H' b := fun hn b hb => ⟨hn b hb, (f2 b hb).2⟩
  refine codeAny_forLoop_any (fun n s' => ∃ i σ' H', Inv X pins σ' H' s' ∧ tn i s'.heap ∧ (∀ b ∈ fp, H' b = none) ∧ W i n σ' H') ?_ m0 ⟨0, σ, H2, I2, st2, fun b hb => (f2 b hb).1, w0⟩
  rintro n s3 ⟨i, σ3, H3, I3, st3, fr3, w3⟩
  rcases turn i n σ3 H3 w3 with ⟨stop, qn⟩ | ⟨go, N, hN, step⟩
  · refine wpAny_passesOwn hp (thn (T.done X rfl rfl rfl hc i pins s3 σ3 H3 X.xe I3 (stat fr3) st3 stop) fun r s4 ⟨hr, I4⟩ => ?_)
    subst hr
    exact wpAny_execs_nil ⟨σ3, H3, I4, qn⟩
  · refine wpAny_passesOwn hp (thn (T.item X rfl rfl rfl hc i pins s3 σ3 H3 X.xe I3 (stat fr3) st3 go) fun r s4 ⟨u, hr, h4⟩ => ?_)
    subst hr
    refine wpAny_passesOwn hp (thn h4 fun _ s5 ⟨x, H5, I5, r5, y5, st5, fr5⟩ => ?_)
    have I5' := I5.pinned (stat fr5) (T.obj _ _ st5)
    refine wpAny_passesOwn hp (thn (hg _ s5 σ3 H5 x u _ I5' r5 (step x H5 y5)) fun _ s6 ⟨σ6, H6, I6, q6⟩ => ?_)
    refine wpAny_passesOwn hp (thn (hb _ s6 σ6 H6 _ I6 q6) fun f s7 q7 => ?_)
    have again : ∀ {σ7 : St} {H7 : Hp}, Inv X (pins ++ pinsAt fp s5.heap) σ7 H7 s7 → N σ7 H7 → ∃ m, m < n ∧ ∃ i σ' H', Inv X pins σ' H' s7 ∧ tn i s7.heap ∧ (∀ b ∈ fp, H' b = none) ∧ W i m σ' H' := fun {σ7 H7} I7 n7 => by
      obtain ⟨m', hm, w7⟩ := hN σ7 H7 n7
      refine ⟨m', hm, i + 1, σ7, H7, I7.unpinned, T.keep _ _ _ st5 fun b hb o e => (I7.pin (b, o) (List.mem_append_right _ (List.mem_append_right _ (mem_pinsAt hb e)))).1, fun b hb => ?_, w7⟩
      obtain ⟨o, e, d⟩ := T.obj _ _ st5 b hb
      exact (I7.pin (b, o) (List.mem_append_right _ (List.mem_append_right _ (mem_pinsAt hb e)))).2.1
    cases f with
    | next => obtain ⟨σ7, H7, I7, n7⟩ := q7; exact again I7 n7
    | cont => obtain ⟨σ7, H7, I7, n7⟩ := q7; exact again I7 n7
    | brk => obtain ⟨σ7, H7, I7, q7⟩ := q7; exact ⟨σ7, H7, I7.unpinned, q7⟩
    | ret v => obtain ⟨x7, σ7, H7, I7, r7, q7⟩ := q7; exact ⟨x7, σ7, H7, I7.unpinned, r7, q7⟩
end

/-! ### the forms one uses -/
/-- over a list that the body leaves as it is -/
theorem for_list {K : PySem.W.Frag} {a : Addr} {xs : List V} {g : TG} {tb : TS} {D : Ends} {σ : St} {H : Hp} (Pv : Nat → St → Hp → Prop) (h0 : Pv 0 σ H) (hl : ∀ i σ H, i ≤ xs.length → Pv i σ H → SqL K H a xs)
    (hs : ∀ i x σ H, xs[i]? = some x → Pv i σ H → g x σ H fun σ2 H2 => tb { D with nx := Pv (i + 1), ct := Pv (i + 1), bk := D.nx } σ2 H2) (hd : ∀ σ H, Pv xs.length σ H → D.nx σ H) :
    ∃ W : Nat → Nat → St → Hp → Prop, (∃ m, W 0 m σ H) ∧ ∀ i m σ H, W i m σ H →
      ((Itl K a).stop i H ∧ D.nx σ H) ∨ ((Itl K a).go i H ∧ ∃ N : St → Hp → Prop, (∀ σ' H', N σ' H' → ∃ m', m' < m ∧ W (i + 1) m' σ' H') ∧ ∀ x H', (Itl K a).yld i H x H' → g x σ H' fun σ2 H2 => tb { D with nx := N, ct := N, bk := D.nx } σ2 H2) := by
  refine ⟨fun i m σ H => m = xs.length - i ∧ i ≤ xs.length ∧ Pv i σ H, ⟨xs.length, by simp, Nat.zero_le _, h0⟩, ?_⟩
  rintro i m σ H ⟨rfl, hi, p⟩
  have q := hl i σ H hi p
  by_cases hlt : i < xs.length
  · refine .inr ⟨⟨xs, xs[i], q, by simp [hlt]⟩, Pv (i + 1), fun σ' H' p' => ⟨xs.length - (i + 1), by omega, rfl, hlt, p'⟩, fun x H' y => ?_⟩
    obtain ⟨e, y⟩ := y
    subst e
    exact hs i x σ _ (y xs q) p
  · have e : i = xs.length := by omega
    subst e
    exact .inl ⟨⟨xs, q, Nat.le_refl _⟩, hd σ H p⟩
theorem for_range {lo : Int} {n : Nat} {g : TG} {tb : TS} {D : Ends} {σ : St} {H : Hp} (Pv : Nat → St → Hp → Prop) (h0 : Pv 0 σ H)
    (hs : ∀ i σ H, i < n → Pv i σ H → g (.int (lo + i)) σ H fun σ2 H2 => tb { D with nx := Pv (i + 1), ct := Pv (i + 1), bk := D.nx } σ2 H2) (hd : ∀ σ H, Pv n σ H → D.nx σ H) :
    ∃ W : Nat → Nat → St → Hp → Prop, (∃ m, W 0 m σ H) ∧ ∀ i m σ H, W i m σ H →
      ((Itr lo n).stop i H ∧ D.nx σ H) ∨ ((Itr lo n).go i H ∧ ∃ N : St → Hp → Prop, (∀ σ' H', N σ' H' → ∃ m', m' < m ∧ W (i + 1) m' σ' H') ∧ ∀ x H', (Itr lo n).yld i H x H' → g x σ H' fun σ2 H2 => tb { D with nx := N, ct := N, bk := D.nx } σ2 H2) := by
  refine ⟨fun i m σ H => m = n - i ∧ i ≤ n ∧ Pv i σ H, ⟨n, by simp, Nat.zero_le _, h0⟩, ?_⟩
  rintro i m σ H ⟨rfl, hi, p⟩
  by_cases hlt : i < n
  · refine .inr ⟨hlt, Pv (i + 1), fun σ' H' p' => ⟨n - (i + 1), by omega, rfl, hlt, p'⟩, fun x H' y => ?_⟩
    obtain ⟨e, y⟩ := y
    subst e y
    exact hs i σ _ hlt p
  · have e : i = n := by omega
    subst e
    exact .inl ⟨Nat.le_refl _, hd σ H p⟩
end L2

namespace L2
open PySem PySem.Spec PyProof.Rows

abbrev R2 := V → V → Hp → VK → Prop
/-- a two-place operation on values: f is binaryOp op, inplaceOp op or compareOp op -/
def OpR (X : Cx) (f : Value → Value → Sem Value) (r : R2) : Prop :=
  ∀ (pins : List (Addr × Obj)) (s : Shared) (σ : St) (H : Hp) (x y : V) (v u : Value) (Q : VK), Inv X pins σ H s → RelV x v → RelV y u → r x y H Q →
    wpAny (model X.prog X.w) X.A (f v u) (EP X pins σ Q) X.xe s
/-- a one-place operation -/
def UnR (X : Cx) (f : Value → Sem Value) (r : V → Hp → VK → Prop) : Prop :=
  ∀ (pins : List (Addr × Obj)) (s : Shared) (σ : St) (H : Hp) (x : V) (v : Value) (Q : VK), Inv X pins σ H s → RelV x v → r x H Q →
    wpAny (model X.prog X.w) X.A (f v) (EP X pins σ Q) X.xe s
/-- a call of a value that is known (a builtin, a type) with values -/
def CallR (X : Cx) (f : Value) (r : List V → Hp → VK → Prop) : Prop :=
  ∀ (pins : List (Addr × Obj)) (s : Shared) (σ : St) (H : Hp) (xs : List V) (us : List Value) (Q : VK), Inv X pins σ H s → Vals xs us → r xs H Q →
    wpAny (model X.prog X.w) X.A (call f us) (EP X pins σ Q) X.xe s
/-- a value's truth -/
def TruR (X : Cx) (r : V → Hp → (Bool → Hp → Prop) → Prop) : Prop :=
  ∀ (pins : List (Addr × Obj)) (s : Shared) (σ : St) (H : Hp) (x : V) (v : Value) (Q : Bool → Hp → Prop), Inv X pins σ H s → RelV x v → r x H Q →
    wpAny (model X.prog X.w) X.A (truthy v) (TP X pins σ Q) X.xe s

def tOp (r : R2) (ta tb : TE) : TE := fun σ H Q => ta σ H fun x H1 => tb σ H1 fun y H2 => r x y H2 Q
def tUn (r : V → Hp → VK → Prop) (ta : TE) : TE := fun σ H Q => ta σ H fun x H1 => r x H1 Q
/-- ints in, under C, and a value out -/
def rI (C : Int → Int → Prop) (g : Int → Int → V) : R2 := fun x y H Q => ∃ i j, x = .int i ∧ y = .int j ∧ C i j ∧ Q (g i j) H
def rI0 (g : Int → Int → V) : R2 := fun x y H Q => ∃ i j, x = .int i ∧ y = .int j ∧ Q (g i j) H
def rU (g : Int → V) : V → Hp → VK → Prop := fun x H Q => ∃ i, x = .int i ∧ Q (g i) H

section
variable {X : Cx} {a b c : Expr} {ta tb tc : TE} {pos : Pos}

theorem binT (ha : PE X a ta) (hb : PE X b tb) {pins : List (Addr × Obj)} {s : Shared} {σ : St} {H : Hp} {R : V → V → Hp → Prop} (I : Inv X pins σ H s)
    (h : ta σ H fun x H1 => tb σ H1 fun y H2 => R x y H2) {Q : Value → Shared → Prop} {f : Value → Value → Sem Value}
    (hf : ∀ v u s2 x y H2, Inv X pins σ H2 s2 → RelV x v → RelV y u → R x y H2 → wpAny (model X.prog X.w) X.A (f v u) Q X.xe s2) :
    wpAny (model X.prog X.w) X.A (eval a X.env) (fun v s₁ => wpAny (model X.prog X.w) X.A (eval b X.env) (fun u s₂ => wpAny (model X.prog X.w) X.A (f v u) Q X.xe s₂) X.xe s₁) X.xe s := by
  refine thn (ha pins s σ H _ I h) fun v s1 ⟨x, H1, I1, r1, q1⟩ => ?_
  refine thn (hb pins s1 σ H1 _ I1 q1) fun u s2 ⟨y, H2, I2, r2, q2⟩ => ?_
  exact hf v u s2 x y H2 I2 r1 r2 q2

theorem pe_op {op : Operator} {r : R2} (ho : OpR X (binaryOp op) r) (ha : PE X a ta) (hb : PE X b tb) : PE X (.BinOp a op b pos) (tOp r ta tb) := by
  intro pins s σ H Q I h
  exact wpAny_BinOp (binT ha hb I h fun v u s2 x y H2 I2 rx ry q => ho pins s2 σ H2 x y v u Q I2 rx ry q)
/-! ### ints -/
theorem opI {f : Value → Value → Sem Value} {C : Int → Int → Prop} {g : Int → Int → Int}
    (rule : ∀ (i j : Int) (t u : Tok) (s : Shared) (Q : Value → Shared → Prop) (E : Value → Shared → Prop), C i j → Q (.int (g i j) s.toks) { s with toks := s.toks + 1 } → wpAny (model X.prog X.w) X.A (f (.int i t) (.int j u)) Q E s) :
    OpR X f (rI C fun i j => .int (g i j)) := by
  intro pins s σ H x y v u Q I rx ry h
  obtain ⟨i, j, rfl, rfl, hc, q⟩ := h
  obtain ⟨t, rfl⟩ := rx
  obtain ⟨t', rfl⟩ := ry
  exact rule i j t t' s _ _ hc ⟨.int (g i j), H, I.tok _, ⟨_, rfl⟩, q⟩
theorem opI0 {f : Value → Value → Sem Value} {g : Int → Int → Int}
    (rule : ∀ (i j : Int) (t u : Tok) (s : Shared) (Q : Value → Shared → Prop) (E : Value → Shared → Prop), Q (.int (g i j) s.toks) { s with toks := s.toks + 1 } → wpAny (model X.prog X.w) X.A (f (.int i t) (.int j u)) Q E s) :
    OpR X f (rI0 fun i j => .int (g i j)) := by
  intro pins s σ H x y v u Q I rx ry h
  obtain ⟨i, j, rfl, rfl, q⟩ := h
  obtain ⟨t, rfl⟩ := rx
  obtain ⟨t', rfl⟩ := ry
  exact rule i j t t' s _ _ ⟨.int (g i j), H, I.tok _, ⟨_, rfl⟩, q⟩
theorem opB0 {f : Value → Value → Sem Value} {g : Int → Int → Bool}
    (rule : ∀ (i j : Int) (t u : Tok) (s : Shared) (Q : Value → Shared → Prop) (E : Value → Shared → Prop), Q (.bool (g i j)) s → wpAny (model X.prog X.w) X.A (f (.int i t) (.int j u)) Q E s) :
    OpR X f (rI0 fun i j => .bl (g i j)) := by
  intro pins s σ H x y v u Q I rx ry h
  obtain ⟨i, j, rfl, rfl, q⟩ := h
  obtain ⟨t, rfl⟩ := rx
  obtain ⟨t', rfl⟩ := ry
  exact rule i j t t' s _ _ ⟨.bl (g i j), H, I, rfl, q⟩

def CDiv (i j : Int) : Prop := 0 < j ∧ j < 1073741824
def CDivN (i j : Int) : Prop := j ≠ 0 ∧ j.natAbs < 1073741824
def CPow (i j : Int) : Prop := 0 ≤ j ∧ j ≤ 1000000 ∧ i.natAbs < 2 ^ 64
def CMul (i j : Int) : Prop := (-(2 ^ 64) < i ∧ i < 2 ^ 64) ∨ (-(2 ^ 64) < j ∧ j < 2 ^ 64)
theorem CMul.ok {i j : Int} (h : CMul i j) : IntMulOk i j := by
  rcases h with ⟨h1, h2⟩ | ⟨h1, h2⟩
  · exact .of_left (intBits_le_64 h1 h2)
  · exact .of_right (intBits_le_64 h1 h2)
theorem op_add : OpR X (binaryOp .Add) (rI0 fun i j => .int (i + j)) := opI0 fun _ _ _ _ _ _ _ q => add_int q
theorem op_sub : OpR X (binaryOp .Sub) (rI0 fun i j => .int (i - j)) := opI0 fun _ _ _ _ _ _ _ q => sub_int q
theorem op_mul : OpR X (binaryOp .Mult) (rI CMul fun i j => .int (i * j)) := opI fun _ _ _ _ _ _ _ hc q => mul_int q hc.ok
/-- % by a positive divisor of any size -/
theorem op_mod : OpR X (binaryOp .Mod) (rI (fun _ j => 0 < j) fun i j => .int (i % j)) := opI fun i j _ _ _ _ _ hc q => by
  have h1 : (0 : Int) < j := hc
  exact mod_int' (by omega) (by rw [Int.fmod_eq_emod_of_nonneg i (by omega)]; exact q)
theorem op_pow : OpR X (binaryOp .Pow) (rI CPow fun i j => .int (i ^ j.toNat)) := opI fun _ _ _ _ _ _ _ hc q => pow_int_small hc.1 hc.2.1 hc.2.2 q
/-! ### bools among ints: n += (a < b) -/
end

/-! ### comparisons -/
/-- the scalars that == tells apart as data does -/
def scal : V → V → Bool
  | .non, .non => true | .non, .int _ => true | .int _, .non => true | .non, .bl _ => true | .bl _, .non => true | .non, .str _ => true | .str _, .non => true
  | .int _, .int _ => true | .bl _, .bl _ => true | .str _, .str _ => true | .byt _, .byt _ => true
  | .int _, .str _ => true | .str _, .int _ => true | .bl _, .str _ => true | .str _, .bl _ => true
  | _, _ => false
def rEq : R2 := fun x y H Q => scal x y = true ∧ Q (.bl (decide (x = y))) H
def rNe : R2 := fun x y H Q => scal x y = true ∧ Q (.bl (!decide (x = y))) H

theorem dec_int {i j : Int} : decide (V.int i = V.int j) = (i == j) := by
  rw [Bool.eq_iff_iff]
  simp
theorem dec_bl {i j : Bool} : decide (V.bl i = V.bl j) = (i == j) := by
  rw [Bool.eq_iff_iff]
  simp
theorem dec_str {i j : Str} : decide (V.str i = V.str j) = (i == j) := by
  rw [Bool.eq_iff_iff]
  simp
theorem dec_byt {i j : Array UInt8} : decide (V.byt i = V.byt j) = (i.toList == j.toList) := by
  rw [Bool.eq_iff_iff]
  cases i
  cases j
  simp

section
variable {X : Cx} {a b c : Expr} {ta tb tc : TE} {pos : Pos}
theorem fin_bl {pins : List (Addr × Obj)} {σ : St} {H : Hp} {s : Shared} {Q : VK} {k k' : Bool} (I : Inv X pins σ H s) (q : Q (.bl k) H) (e : k = k') : EP X pins σ Q (.bool k') s := by
  subst e
  exact ⟨.bl k, H, I, rfl, q⟩
theorem op_eq : OpR X (compareOp .Eq) rEq := by
  intro pins s σ H x y v u Q I rx ry h
  obtain ⟨hs, q⟩ := h
  cases x with
  | non =>
    cases rx
    cases y with
    | non => cases ry; exact PySem.EqNone.eq_none_none (fin_bl I q (by simp))
    | bl j => cases ry; exact PySem.EqNone.eq_none_bool (fin_bl I q (by simp))
    | int j => obtain ⟨t', rfl⟩ := ry; exact PySem.EqNone.eq_none_int (fin_bl I q (by simp))
    | str j => obtain ⟨t', rfl⟩ := ry; exact PySem.EqNone.eq_none_str (fin_bl I q (by simp))
    | _ => exact absurd (show false = true from hs) Bool.false_ne_true
  | bl i =>
    cases rx
    cases y with
    | non => cases ry; exact PySem.EqNone.eq_bool_none (fin_bl I q (by simp))
    | bl j => cases ry; exact eq_bool (fin_bl I q dec_bl)
    | str j => obtain ⟨t', rfl⟩ := ry; exact PySem.EqMixed.eq_bool_str (fin_bl I q (by simp))
    | _ => exact absurd (show false = true from hs) Bool.false_ne_true
  | int i =>
    obtain ⟨t, rfl⟩ := rx
    cases y with
    | non => cases ry; exact PySem.EqNone.eq_int_none (fin_bl I q (by simp))
    | int j => obtain ⟨t', rfl⟩ := ry; exact eq_int (fin_bl I q dec_int)
    | str j => obtain ⟨t', rfl⟩ := ry; exact PySem.EqMixed.eq_int_str (fin_bl I q (by simp))
    | _ => exact absurd (show false = true from hs) Bool.false_ne_true
  | str i =>
    obtain ⟨t, rfl⟩ := rx
    cases y with
    | non => cases ry; exact PySem.EqNone.eq_str_none (fin_bl I q (by simp))
    | bl j => cases ry; exact PySem.EqMixed.eq_str_bool (fin_bl I q (by simp))
    | int j => obtain ⟨t', rfl⟩ := ry; exact PySem.EqMixed.eq_str_int (fin_bl I q (by simp))
    | str j => obtain ⟨t', rfl⟩ := ry; exact eq_str (fin_bl I q dec_str)
    | _ => exact absurd (show false = true from hs) Bool.false_ne_true
  | byt i =>
    obtain ⟨t, rfl⟩ := rx
    cases y with
    | byt j => obtain ⟨t', rfl⟩ := ry; exact PySem.W.eq_bytes (fin_bl I q dec_byt)
    | _ => exact absurd (show false = true from hs) Bool.false_ne_true
  | _ => cases y <;> exact absurd (show false = true from hs) Bool.false_ne_true
theorem op_ne : OpR X (compareOp .NotEq) rNe := by
  intro pins s σ H x y v u Q I rx ry h
  obtain ⟨hs, q⟩ := h
  cases x with
  | non =>
    cases rx
    cases y with
    | non => cases ry; exact PySem.EqNone.ne_none_none (fin_bl I q (by simp))
    | bl j => cases ry; exact PySem.EqNone.ne_none_bool (fin_bl I q (by simp))
    | int j => obtain ⟨t', rfl⟩ := ry; exact PySem.EqNone.ne_none_int (fin_bl I q (by simp))
    | str j => obtain ⟨t', rfl⟩ := ry; exact PySem.EqNone.ne_none_str (fin_bl I q (by simp))
    | _ => exact absurd (show false = true from hs) Bool.false_ne_true
  | bl i =>
    cases rx
    cases y with
    | non => cases ry; exact PySem.EqNone.ne_bool_none (fin_bl I q (by simp))
    | bl j => cases ry; exact ne_bool (fin_bl I q (congrArg not dec_bl))
    | str j => obtain ⟨t', rfl⟩ := ry; exact PySem.EqMixed.ne_bool_str (fin_bl I q (by simp))
    | _ => exact absurd (show false = true from hs) Bool.false_ne_true
  | int i =>
    obtain ⟨t, rfl⟩ := rx
    cases y with
    | non => cases ry; exact PySem.EqNone.ne_int_none (fin_bl I q (by simp))
    | int j => obtain ⟨t', rfl⟩ := ry; exact ne_int (fin_bl I q (congrArg not dec_int))
    | str j => obtain ⟨t', rfl⟩ := ry; exact PySem.EqMixed.ne_int_str (fin_bl I q (by simp))
    | _ => exact absurd (show false = true from hs) Bool.false_ne_true
  | str i =>
    obtain ⟨t, rfl⟩ := rx
    cases y with
    | non => cases ry; exact PySem.EqNone.ne_str_none (fin_bl I q (by simp))
    | bl j => cases ry; exact PySem.EqMixed.ne_str_bool (fin_bl I q (by simp))
    | int j => obtain ⟨t', rfl⟩ := ry; exact PySem.EqMixed.ne_str_int (fin_bl I q (by simp))
    | str j => obtain ⟨t', rfl⟩ := ry; exact ne_str (fin_bl I q (congrArg not dec_str))
    | _ => exact absurd (show false = true from hs) Bool.false_ne_true
  | byt i =>
    obtain ⟨t, rfl⟩ := rx
    cases y with
    | byt j => obtain ⟨t', rfl⟩ := ry; exact PySem.W.ne_bytes (fin_bl I q (congrArg not dec_byt))
    | _ => exact absurd (show false = true from hs) Bool.false_ne_true
  | _ => cases y <;> exact absurd (show false = true from hs) Bool.false_ne_true

theorem op_lt : OpR X (compareOp .Lt) (rI0 fun i j => .bl (decide (i < j))) := opB0 fun _ _ _ _ _ _ _ q => lt_int q
theorem op_gt : OpR X (compareOp .Gt) (rI0 fun i j => .bl (decide (j < i))) := opB0 fun _ _ _ _ _ _ _ q => gt_int q
/-- is None, is not None: the right side a value none -/
theorem op_isN : OpR X (compareOp .Is) (fun x y H Q => y = .non ∧ Q (.bl (decide (x = .non))) H) := by
  intro pins s σ H x y v u Q I rx ry h
  obtain ⟨rfl, q⟩ := h
  cases ry
  refine is_none_gen (fin_bl I q ?_)
  cases x <;> first
    | (cases rx; rfl)
    | (obtain ⟨t, rfl⟩ := rx; rfl)
theorem op_notN : OpR X (compareOp .IsNot) (fun x y H Q => y = .non ∧ Q (.bl (!decide (x = .non))) H) := by
  intro pins s σ H x y v u Q I rx ry h
  obtain ⟨rfl, q⟩ := h
  cases ry
  refine isnot_none_gen (fin_bl I q ?_)
  cases x <;> first
    | (cases rx; rfl)
    | (obtain ⟨t, rfl⟩ := rx; rfl)

/-- is, is not of two objects that are tracked lists or instances -/
def isObj : HO → Bool
  | .lst _ => true
  | .ins _ _ _ => true
  | _ => false
/-- two rules for one operation: by cases -/
theorem OpR.or {f : Value → Value → Sem Value} {r r' : R2} (h : OpR X f r) (h' : OpR X f r') : OpR X f (fun x y H Q => r x y H Q ∨ r' x y H Q) := by
  intro pins s σ H x y v u Q I rx ry q
  rcases q with q | q
  · exact h pins s σ H x y v u Q I rx ry q
  · exact h' pins s σ H x y v u Q I rx ry q

theorem nomark (b : Expr) {op : CmpOp} (h : op ≠ .In := by decide) (h2 : op ≠ .NotIn := by decide) : behindInMarks op b = false := by
  have e1 : (op == CmpOp.In) = false := by cases op <;> first | rfl | exact absurd rfl h
  have e2 : (op == CmpOp.NotIn) = false := by cases op <;> first | rfl | exact absurd rfl h2
  cases b <;> simp [behindInMarks, e1, e2]
/-- a comparison as a value; hm: nomark b, or (for in, not in) by with_unfolding_all rfl -/
theorem pe_cmpR {op : CmpOp} {r : R2} (ho : OpR X (compareOp op) r) (ha : PE X a ta) (hb : PE X b tb) (hm : behindInMarks op b = false) : PE X (.Compare a [op] [b] pos) (tOp r ta tb) := by
  intro pins s σ H Q I h
  exact wpAny_Compare1 (binT ha hb I h fun v u s2 x y H2 I2 rx ry q => ho pins s2 σ H2 x y v u Q I2 rx ry q) hm
/-- a reading of a value as a test -/
def tTest (t : TE) : TT := fun σ H Q => t σ H fun x H' => ∃ k, x = .bl k ∧ Q k H'
theorem pt_cmpR {op : CmpOp} {r : R2} (ho : OpR X (compareOp op) r) (ha : PE X a ta) (hb : PE X b tb) (hm : behindInMarks op b = false) : PT X (.Compare a [op] [b] pos) (tTest (tOp r ta tb)) := by
  intro pins s σ H Q I h
  refine wpAny_isTrue_Compare1 (thn (ha pins s σ H _ I h) fun v s1 ⟨x, H1, I1, r1, q1⟩ => thn (hb pins s1 σ H1 _ I1 q1) fun u s2 ⟨y, H2, I2, r2, q2⟩ =>
    thn (ho pins s2 σ H2 x y v u _ I2 r1 r2 q2) fun c s3 ⟨z, H3, I3, r3, k, e, q3⟩ => ?_) hm
  subst e
  cases r3
  exact wpAny_truthy_bool ⟨H3, I3, q3⟩
/-- a op1 b op2 c -/
def tChain (r r' : R2) (ta tb tc : TE) : TE := fun σ H Q => ta σ H fun x H1 => tb σ H1 fun y H2 => r x y H2 fun z H3 => ∃ k, z = .bl k ∧
  (if k = true then tc σ H3 fun w' H4 => r' y w' H4 Q else Q (.bl false) H3)
/-! ### truth -/
/-- a value's truth by the abstract heap -/
def TruV (K : PySem.W.Frag) (x : V) (H : Hp) (k : Bool) : Prop :=
  match x with
  | .non => k = false
  | .bl b => k = b
  | .int i => k = (i != 0)
  | .str y => y.length ≤ sizeLine ∧ k = ((y.length : Int) != 0)
  | .byt y => y.size ≤ sizeLine ∧ k = ((y.size : Int) != 0)
  | .ref p => (∃ xs, SqL K H p xs ∧ k = !xs.isEmpty) ∨ (∃ xs, SqT K H p xs ∧ k = !xs.isEmpty) ∨ ∃ kvs, H p = some (.dK kvs) ∧ k = !kvs.isEmpty
  | _ => False
theorem isEmpty_kv {κ : Type} {kvs : List (κ × V)} {vs : List (κ × Value)} (r : KV kvs vs) : (!vs.isEmpty) = !kvs.isEmpty := by
  cases r <;> rfl
theorem isEmpty_of {xs : List V} {its : List Value} (r : Vals xs its) : (!its.toArray.isEmpty) = !xs.isEmpty := by
  cases r <;> simp
theorem line63 : (sizeLine : Nat) < 2 ^ 63 := by rw [sizeLine_eq]; decide
theorem tru_ok : TruR X (fun x H Q => ∃ k, TruV X.K x H k ∧ Q k H) := by
  intro pins s σ H x v Q I rx h
  obtain ⟨k, e, q⟩ := h
  have hl := line63
  have hs : sizeLine = 16777216 := sizeLine_eq
  cases x with
  | non =>
    cases rx
    have e' : k = false := e
    subst e'
    exact truthy_none ⟨H, I, q⟩
  | bl b =>
    cases rx
    have e' : k = b := e
    subst e'
    exact wpAny_truthy_bool ⟨H, I, q⟩
  | int i =>
    obtain ⟨t, rfl⟩ := rx
    have e' : k = (i != 0) := e
    subst e'
    exact PySem.P.truthy_int ⟨H, I, q⟩
  | str y =>
    obtain ⟨t, rfl⟩ := rx
    obtain ⟨hy, e'⟩ : y.length ≤ sizeLine ∧ k = ((y.length : Int) != 0) := e
    subst e'
    exact PySem.P.truthy_str (by omega) ⟨H, I.tok _, q⟩
  | byt y =>
    obtain ⟨t, rfl⟩ := rx
    obtain ⟨hy, e'⟩ : y.size ≤ sizeLine ∧ k = ((y.size : Int) != 0) := e
    subst e'
    exact PySem.W.truthy_bytes (by omega) ⟨H, I.tok _, q⟩
  | ref p =>
    cases rx
    have e' : (∃ xs, SqL X.K H p xs ∧ k = !xs.isEmpty) ∨ (∃ xs, SqT X.K H p xs ∧ k = !xs.isEmpty) ∨ ∃ kvs, H p = some (.dK kvs) ∧ k = !kvs.isEmpty := e
    rcases e' with ⟨xs, hx, e'⟩ | ⟨xs, hx, e'⟩ | ⟨kvs, hx, e'⟩
    · subst e'
      obtain ⟨its, r, pl, hz⟩ := I.list hx
      have hlen := r.length
      exact wpAny_truthy_list pl.isList (by simp only [List.size_toArray]; omega) ⟨H, I.tok _, by rw [isEmpty_of r]; exact q⟩
    · subst e'
      obtain ⟨its, r, pl, hz⟩ := I.tuple hx
      have hlen := r.length
      exact truthy_tuple pl (by simp only [List.size_toArray]; omega) ⟨H, I.tok _, by rw [isEmpty_of r]; exact q⟩
    · subst e'
      obtain ⟨hz, hS, vs, r, m⟩ : kvs.length ≤ sizeLine ∧ (p == sysModules) = false ∧ ∃ vs, KV kvs vs ∧ s.heap.DictOf (mixKind X.prog X.w) p vs := I.hok p _ hx
      have hlen : kvs.length = vs.length := Paired.length r
      exact wpAny_truthy_dict hS m (by omega) ⟨H, I.tok _, by rw [isEmpty_kv r]; exact q⟩
  | _ => exact (show False from e).elim
/-- any expression whose test is its value's truth (a name, a call, a subscript, a field ..: he by fun _ => rfl) -/
theorem pt_truth (ha : PE X a ta) (he : ∀ whole, isTrue a X.env whole = (do let v ← whole; standAt a.pos; holding [v] (truthy v))) :
    PT X a (fun σ H Q => ta σ H fun x H' => ∃ k, TruV X.K x H' k ∧ Q k H') := by
  intro pins s σ H Q I h
  exact isTrue_plain (thn (ha pins s σ H _ I h) fun v s1 ⟨x, H1, I1, r1, q1⟩ => tru_ok pins s1 σ H1 x v Q I1 r1 q1) (he _)

/-! ### strs and bytes -/
theorem op_add_str : OpR X (binaryOp .Add) (fun x y H Q => ∃ i j, x = .str i ∧ y = .str j ∧ i.length + j.length ≤ sizeLine ∧ Q (.str (i ++ j)) H) := by
  intro pins s σ H x y v u Q I rx ry h
  obtain ⟨i, j, rfl, rfl, hz, q⟩ := h
  obtain ⟨t, rfl⟩ := rx
  obtain ⟨t', rfl⟩ := ry
  exact add_str (fun t' tk => ⟨.str (i ++ j), H, I.tok _, ⟨_, rfl⟩, q⟩) hz
def PlainIxT (b : Expr) : Prop := ∀ o i, subscripted b false o i = operate [o, i] (getItem o i)
/-! ### scalar builtins, by CallR -/
theorem vals1 {x : V} {us : List Value} (r : Vals [x] us) : ∃ u, us = [u] ∧ RelV x u := by
  cases r with
  | cons r1 r2 => cases r2; exact ⟨_, rfl, r1⟩
theorem vals2 {x y : V} {us : List Value} (r : Vals [x, y] us) : ∃ u w', us = [u, w'] ∧ RelV x u ∧ RelV y w' := by
  cases r with
  | cons r1 r2 =>
    cases r2 with
    | cons r3 r4 => cases r4; exact ⟨_, _, rfl, r1, r3⟩
theorem call_int1 : CallR X (.type "int") (fun xs H Q => (∃ i, xs = [.int i] ∧ Q (.int i) H) ∨ ∃ k, xs = [.bl k] ∧ Q (.int (if k then 1 else 0)) H) := by
  intro pins s σ H xs us Q I r h
  rcases h with ⟨i, rfl, q⟩ | ⟨k, rfl, q⟩
  · obtain ⟨u, rfl, t, rfl⟩ := vals1 r
    exact call_int_int ⟨.int i, H, I, ⟨_, rfl⟩, q⟩
  · obtain ⟨u, rfl, r1⟩ := vals1 r
    cases r1
    exact call_int_bool ⟨.int (if k then 1 else 0), H, I.tok _, ⟨_, rfl⟩, q⟩
/-- len of a str, a bytes, a list, a tuple -/
def LenV (K : PySem.W.Frag) (x : V) (H : Hp) (n : Nat) : Prop :=
  match x with
  | .str y => y.length ≤ sizeLine ∧ n = y.length
  | .byt y => y.size ≤ sizeLine ∧ n = y.size
  | .ref p => (∃ xs, SqL K H p xs ∧ n = xs.length) ∨ ∃ xs, SqT K H p xs ∧ n = xs.length
  | _ => False
end
end L2

namespace L2
open PySem PySem.Spec PyProof.Rows

/-! ### an instance, its attributes a map -/
structure ObjM (h : Heap) (x dx C : Addr) (mA : Str → Option Value) : Prop where
  obj : h.get? x = some (PySem.W.instObj C dx)
  ns : h.Ns1 dx mA
  ne : dx ≠ x

theorem lookIn_ns {h : Heap} {dx : Addr} {mA : Str → Option Value} (n : h.Ns1 dx mA) : ∃ od, h.get? dx = some od ∧ ∀ name, PySem.W.lookIn name od = some (mA name) := by
  obtain ⟨o, es, ep, ho, hd, hk, _, hm⟩ := n
  refine ⟨o, ho, fun name => ?_⟩
  have e := hm name
  unfold nsFind findBy at e
  rw [← Array.find?_toList] at e
  unfold PySem.W.lookIn
  rw [hd]
  dsimp only
  split
  · rename_i y q
    rw [q] at e
    exact congrArg some e
  · rename_i q
    rw [q] at e
    have a : es.toList.any (·.refKey) = false := by
      rw [List.any_eq_false]
      intro y hy
      obtain ⟨z, t, hkey⟩ := hk y (Array.mem_toList_iff.mp hy)
      simp [DictEntry.refKey, hkey]
    have a' : ¬ es.toList.any (·.refKey) = true := by rw [a]; exact Bool.false_ne_true
    rw [if_neg a']
    exact congrArg some e

theorem ObjM.look {h : Heap} {x dx C : Addr} {mA : Str → Option Value} (I : ObjM h x dx C mA) : ∃ od, PySem.W.InstAt h x (PySem.W.instObj C dx) C (some od) ∧ ∀ name, PySem.W.lookIn name od = some (mA name) :=
  let ⟨od, ho, hl⟩ := lookIn_ns I.ns
  ⟨od, ⟨I.obj, rfl, rfl, ho⟩, hl⟩

section
variable {prog : Program} {w : World} {A : Around} {E : Value → Shared → Prop} {s : Shared} {K : PySem.W.Frag} {x dx C f : Addr} {mA : Str → Option Value} {name : Str} {v : Value}

theorem get_map {expr : Bool} {Q : Value → Shared → Prop} (X : K.In s.heap) (I : ObjM s.heap x dx C mA) (hg : PySem.W.plainGet K C name = true) (hh : PySem.W.hasDictIn K C = true)
    (ha : PySem.W.findIn K (.ref C) name = some none) (hv : mA name = some v) (hv' : PySem.W.handedIn v = true) (h : Q v { s with toks := s.toks + 1 }) :
    wpAny (model prog w) A (getAttr (.ref x) name expr) Q E s := by
  obtain ⟨od, J, hl⟩ := I.look
  exact PySem.W.get_value X J (PySem.W.plainGet_of hg).1 (PySem.W.findObj_own hh ha rfl (by rw [hl, hv])) hv' h

theorem get_meth {pl : Sem Bool} {Q : Value × List Value → Shared → Prop} (X : K.In s.heap) (I : ObjM s.heap x dx C mA) (hg : PySem.W.plainGet K C name = true)
    (hf : PySem.W.findIn K (.ref C) name = some (some (.ref f))) (ht : PySem.W.isFn K (.ref f) = true) (hv : mA name = none) (h : Q (.ref f, [.ref x]) s) :
    wpAny (model prog w) A (getMethod (.ref x) name pl) Q E s := by
  obtain ⟨od, J, hl⟩ := I.look
  exact PySem.W.method_fn X J (PySem.W.plainGet_of hg).1 (PySem.W.plainGet_of hg).2 hf (beq_iff_eq.mp ht) (by show (PySem.W.lookIn name od).map (·.isSome) = some false; rw [hl, hv]; rfl) h

theorem set_map {ns : List Str} {Q : Unit → Shared → Prop} (X : K.In s.heap) (I : ObjM s.heap x dx C mA)
    (hs : PySem.W.findIn K (.ref C) "__setattr__" = some (some (.builtin "object.__setattr__"))) (hp : PySem.W.plainOver K C = true) (ht : PySem.W.takerIn K C name = some none) (hh : PySem.W.hasDictIn K C = true)
    (hw : PySem.Within mA ns) (hsz : ns.length ≤ sizeLine)
    (h : ∀ h', ObjM h' x dx C (fun y => if y = name then some v else mA y) → Heap.SameBut dx s.heap h' → Q () { s with heap := h', toks := s.toks + 2 }) :
    wpAny (model prog w) A (setAttr (.ref x) name v) Q E s := by
  obtain ⟨od, J, hl⟩ := I.look
  refine PySem.W.set_plain X J hs (PySem.W.osa_open (s := { s with toks := s.toks + 1 }) (r := none) X J hp ht fun b => ?_)
  obtain ⟨cd, hc, hd'⟩ := PySem.W.any_some hh
  have hx : s.heap.get? x = some ⟨.ref C, some dx, .plain, #[]⟩ := I.obj
  refine wpAny_bind (wpAny_pure (wpAny_bind (wpAny_bind (wpAny_loadPart hx (wpAny_bind (PySem.W.Looks.here (s := { s with toks := s.toks + 1 }) (PySem.W.looks_clsIn X hc) ?_))))))
  rw [hd']
  refine wpAny_pure (a := some dx) (wpAny_bind (wpAny_pure (wpAny_bind ?_)))
  refine wpAny_nsSet1 (s := { s with toks := s.toks + 1 }) I.ns fun h' hn2 hs2 => ?_
  obtain ⟨oD, esD, epD, hoD, hdD, hcD⟩ := hn2.count (PySem.Within.cons name v hw)
  refine wpAny_bind (wpAny_lookBehind hoD (by rw [hdD]; exact pastItsLine_dict (Nat.le_trans hcD (by rw [List.length_cons]; omega))) ?_)
  exact wpAny_pure (h _ ⟨(hs2.2 _ (Ne.symm I.ne)).trans I.obj, hn2, I.ne⟩ hs2)

/-- C(..): the dict at the heap's end, the instance behind it; then its __init__ -/
theorem make_map {R : Result → Shared → Prop} {vs : List Value} {kw : List (Str × Value)} (X : K.In s.heap) (hm : PySem.W.makesIn K C = true)
    (hi : PySem.W.findIn K (.ref C) "__init__" = some (some (.ref f))) (hf : PySem.W.typeIn K (.ref f) = some (.type "function"))
    (h : codeAny (model prog w) (A.under (.builtin "type.__call__" ⟨.ref C :: vs, kw⟩)) (.call (.ref f) ⟨.ref (s.heap.objs.size + 1) :: vs, kw⟩) (PySem.W.InitBack (s.heap.objs.size + 1) R)
      { s with heap := (s.heap.push PySem.W.emptyDict).push (PySem.W.instObj C s.heap.objs.size) }) :
    codeAny (model prog w) A (.call (.ref C) ⟨vs, kw⟩) R s := by
  obtain ⟨hh, g, d, t, os⟩ := s
  exact PySem.W.make_core (PySem.W.makes_of X hm) (PySem.W.looks_findIn X hi) (fun self => PySem.W.bind_fn X self hf) (.inl rfl) h
end

/-! ### the attributes as a list of pairs -/
def putF (f : Str) (v : V) : List (Str × V) → List (Str × V)
  | [] => [(f, v)]
  | (g, x) :: r => if g = f then (g, v) :: r else (g, x) :: putF f v r
theorem lookup_putF (f g : Str) (v : V) : ∀ fs : List (Str × V), (putF f v fs).lookup g = if g = f then some v else fs.lookup g
  | [] => by
    show List.lookup g [(f, v)] = _
    by_cases h : g = f
    · have hb : (g == f) = true := beq_iff_eq.mpr h
      simp only [List.lookup, hb, if_pos h]
    · have hb : (g == f) = false := beq_eq_false_iff_ne.mpr h
      simp only [List.lookup, hb, if_neg h]
  | (k, x) :: r => by
    have ih := lookup_putF f g v r
    rw [show putF f v ((k, x) :: r) = (if k = f then (k, v) :: r else (k, x) :: putF f v r) from rfl]
    by_cases hk : k = f
    · rw [if_pos hk]
      by_cases h : g = k
      · have hb : (g == k) = true := beq_iff_eq.mpr h
        simp only [List.lookup, hb, if_pos (h.trans hk)]
      · have hb : (g == k) = false := beq_eq_false_iff_ne.mpr h
        simp only [List.lookup, hb, if_neg (fun e : g = f => h (e.trans hk.symm))]
    · rw [if_neg hk]
      by_cases h : g = k
      · have hb : (g == k) = true := beq_iff_eq.mpr h
        simp only [List.lookup, hb, if_neg (fun e : g = f => hk (h.symm.trans e))]
      · have hb : (g == k) = false := beq_eq_false_iff_ne.mpr h
        simp only [List.lookup, hb]
        exact ih
theorem keys_putF (f : Str) (v : V) : ∀ fs : List (Str × V), f ∈ (putF f v fs).map (·.1) ∧ ∀ g, g ∈ fs.map (·.1) → g ∈ (putF f v fs).map (·.1)
  | [] => ⟨by simp [putF], fun g h => by simp at h⟩
  | (k, x) :: r => by
    obtain ⟨i1, i2⟩ := keys_putF f v r
    rw [show putF f v ((k, x) :: r) = (if k = f then (k, v) :: r else (k, x) :: putF f v r) from rfl]
    by_cases hk : k = f
    · rw [if_pos hk]
      subst hk
      exact ⟨by simp, fun g h => by simpa using h⟩
    · rw [if_neg hk]
      refine ⟨?_, fun g h => ?_⟩
      · rw [List.map_cons]
        exact List.mem_cons_of_mem _ i1
      · rw [List.map_cons] at h ⊢
        rcases List.mem_cons.mp h with e | e
        · exact List.mem_cons.mpr (.inl e)
        · exact List.mem_cons_of_mem _ (i2 g e)
theorem length_putF (f : Str) (v : V) : ∀ fs : List (Str × V), (putF f v fs).length ≤ fs.length + 1
  | [] => by simp [putF]
  | (k, x) :: r => by
    have ih := length_putF f v r
    rw [show putF f v ((k, x) :: r) = (if k = f then (k, v) :: r else (k, x) :: putF f v r) from rfl]
    by_cases hk : k = f
    · rw [if_pos hk, List.length_cons, List.length_cons]; omega
    · rw [if_neg hk, List.length_cons, List.length_cons]; omega

theorem RelO.some_of {v : V} {o : Option Value} (r : RelO (some v) o) : ∃ u, o = some u ∧ RelV v u := by
  cases o with
  | none => exact (show False from r).elim
  | some u => exact ⟨u, rfl, r⟩
theorem RelO.none_of {o : Option Value} (r : RelO none o) : o = none := by
  cases o with
  | none => rfl
  | some u => exact (show False from r).elim
theorem handed_of {v : V} {u : Value} (r : RelV v u) : PySem.W.handedIn u = true := by
  cases v with
  | non => cases (show u = Value.none from r); rfl
  | bl b => cases (show u = Value.bool b from r); rfl
  | int i => obtain ⟨t, e⟩ := (show ∃ t, u = Value.int i t from r); cases e; rfl
  | str x => obtain ⟨t, e⟩ := (show ∃ t, u = Value.str x t from r); cases e; rfl
  | byt b => obtain ⟨t, e⟩ := (show ∃ t, u = Value.bytes b t from r); cases e; rfl
  | flt b => obtain ⟨t, e⟩ := (show ∃ t, u = Value.float b t from r); cases e; rfl
  | ref a => cases (show u = Value.ref a from r); rfl
  | ty n => cases (show u = Value.type n from r); rfl

section
variable {P : Program} {w : World} {H H' : Hp} {h h' : Heap} {a C dx : Addr} {fs fs' : List (Str × V)}
theorem ins_get (hok : HOk P w H h) (e : H a = some (.ins C dx fs)) : ∃ mA, ObjM h a dx C mA ∧ (∀ f, RelO (fs.lookup f) (mA f)) ∧ PySem.Within mA (fs.map (·.1)) ∧ fs.length ≤ 1000 ∧ H dx = some (.own a) := by
  obtain ⟨d, z, ne, ob, mA, n, r, q⟩ := (show ObjOk P w H h a (.ins C dx fs) from hok a _ e)
  exact ⟨mA, ⟨ob, n, ne⟩, r, q, z, d⟩
end

/-! ### what of the text a class must have -/
structure Cls (K : PySem.W.Frag) (C : Addr) : Prop where
  pg : PySem.W.plainGet K C Str.empty = true
  hd : PySem.W.hasDictIn K C = true
  po : PySem.W.plainOver K C = true
  sa : PySem.W.findIn K (.ref C) "__setattr__" = some (some (.builtin "object.__setattr__"))
theorem Cls.get {K : PySem.W.Frag} {C : Addr} (c : Cls K C) (f : Str) : PySem.W.plainGet K C f = true := c.pg
/-- no class of it has the name -/
def NoAttr (K : PySem.W.Frag) (C : Addr) (f : Str) : Prop := PySem.W.findIn K (.ref C) f = some none
theorem NoAttr.taker {K : PySem.W.Frag} {C : Addr} {f : Str} (n : NoAttr K C f) : PySem.W.takerIn K C f = some none := by
  unfold PySem.W.takerIn
  rw [show PySem.W.findIn K (.ref C) f = some none from n]
  rfl
/-- a constant of the class -/
structure Con (K : PySem.W.Frag) (C : Addr) (f : Str) (v : V) (u : Value) : Prop where
  at_ : PySem.W.findIn K (.ref C) f = some (some u)
  rel : RelV v u
  get : PySem.W.specialIn K u "__get__" = some none
  cp : PySem.W.copiedNames.contains f = false
/-- a method: a plain def of the class or of one above it -/
structure Meth (K : PySem.W.Frag) (C : Addr) (m : Str) (f : Addr) : Prop where
  at_ : PySem.W.findIn K (.ref C) m = some (some (.ref f))
  fn : PySem.W.isFn K (.ref f) = true
  kp : PySem.W.keepIn K (.ref f) = true

section
variable {X : Cx} {pins : List (Addr × Obj)} {σ : St} {H : Hp} {s : Shared} {a C dx : Addr} {fs : List (Str × V)} {f : Str} {v : V} {A : Around} {E : Value → Shared → Prop}

theorem getattr_ok {b : Bool} {Q : Value → Shared → Prop} (I : Inv X pins σ H s) (e : H a = some (.ins C dx fs)) (c : Cls X.K C) (n : NoAttr X.K C f) (l : fs.lookup f = some v)
    (h : ∀ u s', Inv X pins σ H s' → RelV v u → Q u s') : wpAny (model X.prog X.w) A (getAttr (.ref a) f b) Q E s := by
  obtain ⟨mA, O, r, _, _, _⟩ := ins_get I.hok e
  obtain ⟨u, hu, ru⟩ := RelO.some_of (v := v) (o := mA f) (by rw [← l]; exact r f)
  exact get_map I.kIn O (c.get f) c.hd n hu (handed_of ru) (h u _ (I.tok _) ru)

theorem getmeth_ok {m : Str} {g : Addr} {pl : Sem Bool} {Q : Value × List Value → Shared → Prop} (I : Inv X pins σ H s) (e : H a = some (.ins C dx fs)) (c : Cls X.K C) (k : Meth X.K C m g) (l : fs.lookup m = none)
    (h : Q (.ref g, [.ref a]) s) : wpAny (model X.prog X.w) A (getMethod (.ref a) m pl) Q E s := by
  obtain ⟨mA, O, r, _, _, _⟩ := ins_get I.hok e
  have hn : mA m = none := RelO.none_of (by rw [← l]; exact r m)
  exact get_meth I.kIn O (c.get m) k.at_ k.fn hn h

theorem setattr_ok {y : V} {u : Value} {Q : Unit → Shared → Prop} (I : Inv X pins σ H s) (e : H a = some (.ins C dx fs)) (c : Cls X.K C) (n : NoAttr X.K C f) (hl : fs.length < 1000) (ry : RelV y u)
    (h : ∀ s', Inv X pins σ (upd H a (.ins C dx (putF f y fs))) s' → Q () s') : wpAny (model X.prog X.w) A (setAttr (.ref a) f u) Q E s := by
  obtain ⟨mA, O, r, wi, _, ho⟩ := ins_get I.hok e
  have hz : (fs.map (·.1)).length ≤ sizeLine := by rw [List.length_map, sizeLine_eq]; omega
  refine set_map I.kIn O c.sa c.po n.taker c.hd wi hz fun h' O' sb => h _ ?_
  have hd : ∃ o, h'.get? dx = some o := let ⟨o, _, _, e', _⟩ := O'.ns; ⟨o, e'⟩
  refine I.write (x := a) (e := dx) (by rw [e]; exact True.intro) (.inr ho) (fun b q hb z => (sb.2 b hb).trans z) hd ?_
  refine ⟨by rw [upd_ne O.ne]; exact ho, ?_, O.ne, O'.obj, _, O'.ns, fun g => ?_, fun g hg => ?_⟩
  · have := length_putF f y fs; omega
  · show RelO ((putF f y fs).lookup g) (if g = f then some u else mA g)
    rw [lookup_putF]
    by_cases q : g = f
    · rw [if_pos q, if_pos q]; exact ry
    · rw [if_neg q, if_neg q]; exact r g
  · by_cases q : g = f
    · rw [q]; exact (keys_putF f y fs).1
    · refine (keys_putF f y fs).2 g (wi g fun z => hg ?_)
      show (if g = f then some u else mA g) = none
      rw [if_neg q]; exact z

/-- a new instance, tracked, without attributes -/
theorem Inv.made (I : Inv X pins σ H s) : Inv X pins σ (upd (upd H s.heap.objs.size (.own (s.heap.objs.size + 1))) (s.heap.objs.size + 1) (.ins C s.heap.objs.size []))
    { s with heap := (s.heap.push PySem.W.emptyDict).push (PySem.W.instObj C s.heap.objs.size) } := by
  have e1 : (s.heap.push PySem.W.emptyDict).get? s.heap.objs.size = some PySem.W.emptyDict := Heap.get?_push_size s.heap rfl
  have e2 : ((s.heap.push PySem.W.emptyDict).push (PySem.W.instObj C s.heap.objs.size)).get? (s.heap.objs.size + 1) = some (PySem.W.instObj C s.heap.objs.size) := by
    have := Heap.get?_push_size (s.heap.push PySem.W.emptyDict) (o := PySem.W.instObj C s.heap.objs.size) rfl
    rwa [Heap.size_push] at this
  have e3 : (s.heap.push PySem.W.emptyDict).Ns s.heap.objs.size (fun _ => none) := ⟨PySem.W.emptyDict, #[], _, e1, rfl, (fun e he => absurd he (by simp)), fun _ => rfl⟩
  have I1 := I.laid (a := s.heap.objs.size) (o := .own (s.heap.objs.size + 1)) (h' := s.heap.push PySem.W.emptyDict) (t' := s.toks) (fun b u q => Heap.get?_push_of_some _ q) (Nat.le_refl _) ⟨_, e1⟩
  refine I1.laid (a := s.heap.objs.size + 1) (o := .ins C s.heap.objs.size []) (t' := s.toks) (fun b u q => Heap.get?_push_of_some _ q) (Nat.le_of_eq (Heap.size_push _ _)) ?_
  have ne : s.heap.objs.size ≠ s.heap.objs.size + 1 := Nat.ne_of_lt (Nat.lt_succ_self _)
  refine ⟨by rw [upd_ne ne, upd_same], Nat.zero_le _, ne, e2, fun _ => none, (Heap.Ns1.of_empty e3).at fun o q => Heap.get?_push_of_some _ q, fun _ => True.intro, fun y hy => absurd rfl hy⟩

/-- e.f where nothing but the object is asked: through attributeBase (super) and the last hold -/
theorem attr_of {prog : Program} {w : World} {env : Env} {e : Expr} {f : Str} {pos : Pos} {s : Shared} {Q : Value → Shared → Prop} (hb : attributeBase e f env (eval e env) = eval e env)
    (h : wpAny (model prog w) A (eval e env) (fun o s₁ => wpAny (model prog w) A (getAttr o f true) Q E s₁) E s) : wpAny (model prog w) A (eval (.Attribute e f pos) env) Q E s :=
  Attribute_any_ h (by rw [arm_eval_Attribute, hb])
end

/-! ### readings and rules -/
/-- e.f, an attribute of the instance -/
def tFld (K : PySem.W.Frag) (ta : TE) (f : Str) : TE := fun σ H Q => ta σ H fun x H1 => ∃ a C dx fs v, x = .ref a ∧ H1 a = some (.ins C dx fs) ∧ Cls K C ∧ NoAttr K C f ∧ fs.lookup f = some v ∧ Q v H1
/-- e.f, a constant of the class -/
def tCon (K : PySem.W.Frag) (ta : TE) (f : Str) : TE := fun σ H Q => ta σ H fun x H1 => ∃ a C dx fs v u, x = .ref a ∧ H1 a = some (.ins C dx fs) ∧ Cls K C ∧ Con K C f v u ∧ fs.lookup f = none ∧ Q v H1
/-- e.f = value -/
def sFld (K : PySem.W.Frag) (ta tv : TE) (f : Str) : TS := fun D σ H => tv σ H fun y H1 => ta σ H1 fun x H2 => ∃ a C dx fs, x = .ref a ∧ H2 a = some (.ins C dx fs) ∧ Cls K C ∧ NoAttr K C f ∧ fs.length < 1000 ∧
  D.nx σ (upd H2 a (.ins C dx (putF f y fs)))
/-- an augmented operator on two values -/
def InOp (X : Cx) (op : Operator) (rd : V → V → Hp → VK → Prop) : Prop :=
  ∀ (pins : List (Addr × Obj)) (s : Shared) (σ : St) (H : Hp) (x y : V) (u v : Value) (Q : VK), Inv X pins σ H s → RelV x u → RelV y v → rd x y H Q → wpAny (model X.prog X.w) X.A (inplaceOp op u v) (EP X pins σ Q) X.xe s
/-- e.f op= value -/
def sFldAug (K : PySem.W.Frag) (ta tv : TE) (rd : V → V → Hp → VK → Prop) (f : Str) : TS := fun D σ H => ta σ H fun x H1 => ∃ a C dx fs v, x = .ref a ∧ H1 a = some (.ins C dx fs) ∧ Cls K C ∧ NoAttr K C f ∧ fs.lookup f = some v ∧
  tv σ H1 fun y H2 => rd v y H2 fun z H3 => ∃ dx' fs', H3 a = some (.ins C dx' fs') ∧ fs'.length < 1000 ∧ D.nx σ (upd H3 a (.ins C dx' (putF f z fs')))

section
variable {X : Cx} {o e value : Expr} {f : Str} {pos pos' tpos : Pos} {ta tv : TE}
theorem pe_fld (he : PE X e ta) (hb : attributeBase e f X.env (eval e X.env) = eval e X.env) : PE X (.Attribute e f pos) (tFld X.K ta f) := by
  intro pins s σ H Q I h
  refine attr_of hb (thn (he pins s σ H _ I h) fun u s1 ⟨x, H1, I1, rx, a, C, dx, fs, v, ex, ea, c, n, l, q⟩ => ?_)
  subst ex
  obtain rfl : u = Value.ref a := rx
  exact getattr_ok I1 ea c n l fun u' s2 I2 ru => ⟨v, H1, I2, ru, q⟩
theorem ps_fld (ha : PE X o ta) (hv : PE X value tv) (hs : swapsWith value (some (.Attribute o f pos')) pos.line X.env = pure false) : PS X (.Assign [.Attribute o f pos'] value pos) (sFld X.K ta tv f) := by
  intro pins s σ H D I h
  refine plainObj_wpAny_Assign_Attribute (thn (hv pins s σ H _ I h) fun u s1 ⟨y, H1, I1, ry, q⟩ => thn (ha pins s1 σ H1 _ I1 q) fun ov s2 ⟨x, H2, I2, rx, a, C, dx, fs, ex, ea, c, n, l, q2⟩ => ?_) hs
  subst ex
  obtain rfl : ov = Value.ref a := rx
  exact setattr_ok I2 ea c n l ry fun s3 I3 => ⟨σ, _, I3, q2⟩
def rAdd : V → V → Hp → VK → Prop := fun x y H Q => ∃ i j, x = .int i ∧ y = .int j ∧ Q (.int (i + j)) H
def rSub : V → V → Hp → VK → Prop := fun x y H Q => ∃ i j, x = .int i ∧ y = .int j ∧ Q (.int (i - j)) H
theorem in_add : InOp X .Add rAdd := by
  rintro pins s σ H x y u v Q I rx ry ⟨i, j, rfl, rfl, q⟩
  obtain ⟨t, rfl⟩ := (show ∃ t, u = Value.int i t from rx)
  obtain ⟨t', rfl⟩ := (show ∃ t', v = Value.int j t' from ry)
  exact PyProof.Rows.iadd_int ⟨.int (i + j), H, I.tok _, ⟨_, rfl⟩, q⟩
end

/-! ### isinstance -/
section
variable {X : Cx} {pins : List (Addr × Obj)} {σ : St} {H : Hp} {s : Shared} {A : Around} {E : Value → Shared → Prop} {Q : Value → Shared → Prop} {c : Value} {b : Bool}
/-- the type of a value, as the fragment's deciders take it; for an instance its class -/
inductive TyOf (K : PySem.W.Frag) (H : Hp) : V → Value → Prop where
  | non : TyOf K H .non (.type "NoneType")
  | bl (x : Bool) : TyOf K H (.bl x) (.type "bool")
  | int (i : Int) : TyOf K H (.int i) (.type "int")
  | str (x : Str) : TyOf K H (.str x) (.type "str")
  | flt (x : UInt64) : TyOf K H (.flt x) (.type "float")
  | lst {a : Addr} {xs : List V} (e : H a = some (.lst xs)) : TyOf K H (.ref a) (.type "list")
  | frz {a : Addr} {o : Obj} {xs : List V} (e : H a = some (.frz o (.lst xs))) : TyOf K H (.ref a) (.type "list")
  | tup {a : Addr} {xs : List V} (e : H a = some (.tup xs)) : TyOf K H (.ref a) (.type "tuple")
  | dK {a : Addr} {kvs : List (Key × V)} (e : H a = some (.dK kvs)) : TyOf K H (.ref a) (.type "dict")
  | dT {a : Addr} {kvs : List (List Key × V)} (e : H a = some (.dT kvs)) : TyOf K H (.ref a) (.type "dict")
  | ins {a C dx : Addr} {fs : List (Str × V)} (e : H a = some (.ins C dx fs)) (cl : Cls K C) (ha : PySem.W.findIn K (.ref C) "__class__" = some (some (.builtin "object.__class__")))
      (hn : PySem.W.specialIn K (.builtin "object.__class__") "__get__" = some (some (.builtin "getset_descriptor.__get__"))) (htk : PySem.W.takesIn K (.builtin "object.__class__") = some true)
      (hm : PySem.W.mroIn K C (.type "object") = some true) : TyOf K H (.ref a) (.ref C)
/-- isinstance(x, c) for one class c, a built-in or an own one: kitOne's answer -/
theorem isinst_ok {x : V} {u t : Value} (I : Inv X pins σ H s) (rx : RelV x u) (ty : TyOf X.K H x t) (e : PySem.W.kitOne X.K t c = some b) (h : ∀ tk, Q (.bool b) { s with toks := tk }) :
    wpAny (model X.prog X.w) A (call (.builtin "isinstance") [u, c]) Q E s := by
  cases ty with
  | non => cases (show u = Value.none from rx); exact PySem.W.kia_one PySem.W.kitx_none I.kIn True.intro e (fun z => nomatch z) h
  | bl y => cases (show u = Value.bool y from rx); exact PySem.W.kia_one PySem.W.kitx_bool I.kIn True.intro e (fun z => nomatch z) h
  | int i => obtain ⟨t, q⟩ := (show ∃ t, u = Value.int i t from rx); cases q; exact PySem.W.kia_one PySem.W.kitx_int I.kIn True.intro e (fun z => nomatch z) h
  | str y => obtain ⟨t, q⟩ := (show ∃ t, u = Value.str y t from rx); cases q; exact PySem.W.kia_one PySem.W.kitx_str I.kIn True.intro e (fun z => nomatch z) h
  | flt y => obtain ⟨t, q⟩ := (show ∃ t, u = Value.float y t from rx); cases q; exact PySem.W.kia_one PySem.W.kitx_float I.kIn True.intro e (fun z => nomatch z) h
  | @lst a xs ea =>
    cases (show u = Value.ref a from rx)
    obtain ⟨_, _, n, _, h1⟩ := (show ObjOk X.prog X.w H s.heap a (.lst xs) from I.hok a _ ea)
    exact PySem.W.kia_one PySem.W.kitx_list I.kIn ⟨_, h1, rfl⟩ e (fun z => nomatch z) h
  | @frz a ob xs ea =>
    cases (show u = Value.ref a from rx)
    obtain ⟨_, _, _, n, _, h1⟩ := (show ObjOk X.prog X.w H s.heap a (.frz ob (.lst xs)) from I.hok a _ ea)
    exact PySem.W.kia_one PySem.W.kitx_list I.kIn ⟨_, h1, rfl⟩ e (fun z => nomatch z) h
  | @tup a xs ea =>
    cases (show u = Value.ref a from rx)
    obtain ⟨_, _, _, p⟩ := (show ObjOk X.prog X.w H s.heap a (.tup xs) from I.hok a _ ea)
    obtain ⟨o, h1, h2, _⟩ := p
    exact PySem.W.kia_one PySem.W.kitx_tuple I.kIn ⟨o, h1, h2⟩ e (fun z => nomatch z) h
  | @dK a kvs ea =>
    cases (show u = Value.ref a from rx)
    obtain ⟨_, _, vs, _, p⟩ := (show ObjOk X.prog X.w H s.heap a (.dK kvs) from I.hok a _ ea)
    obtain ⟨o, es, ep, h1, h2, _⟩ := p
    exact PySem.W.kia_one PySem.W.kitx_dict I.kIn ⟨o, h1, h2.1⟩ e (fun z => nomatch z) h
  | @dT a kvs ea =>
    cases (show u = Value.ref a from rx)
    obtain ⟨_, _, xs, _, o, es, ep, h1, h2, _⟩ := (show ObjOk X.prog X.w H s.heap a (.dT kvs) from I.hok a _ ea)
    exact PySem.W.kia_one PySem.W.kitx_dict I.kIn ⟨o, h1, h2.1⟩ e (fun z => nomatch z) h
  | @ins a C dx fs ea cl ha hn htk hm =>
    cases (show u = Value.ref a from rx)
    obtain ⟨mA, O, _⟩ := ins_get I.hok ea
    obtain ⟨od, J, _⟩ := O.look
    exact PySem.W.kia_one (PySem.W.kitx_own (cl.get _) cl.hd ha hn htk hm) I.kIn J e (fun z => nomatch z) h
end
end L2

namespace L2
open PySem PySem.Spec PyProof.Rows

/-! ### room -/
structure Room (k : Nat) (A : Around) : Prop where
  hd : A.handled = none
  dp : A.depth + 3 * k + 5 < recursionLimit
  un : A.units + 16 * k + 200 < cLine
theorem Room.mono {j k : Nat} {A : Around} (r : Room k A) (h : j ≤ k) : Room j A := ⟨r.hd, by have := r.dp; omega, by have := r.un; omega⟩
theorem Room.deeper {k : Nat} {A : Around} (r : Room (k + 1) A) (env : Env) : Room k (A.deeper env) :=
  ⟨r.hd, by have := r.dp; show A.depth + 1 + 3 * k + 5 < _; omega, by have := r.un; show A.units + 3 + 16 * k + 200 < _; omega⟩
theorem Room.in1 {k : Nat} {A : Around} (r : Room (k + 1) A) : Room k A.in1 :=
  ⟨r.hd, by have := r.dp; show A.depth + 3 * k + 5 < _; omega, by have := r.un; show A.units + 1 + 16 * k + 200 < _; omega⟩
theorem make_depth {A : Around} {C : Addr} {us : List Value} {kw : List (Str × Value)} : (A.under (.builtin "type.__call__" ⟨.ref C :: us, kw⟩)).depth = A.depth + 1 := by
  first | rfl | simp [Around.under, Code.weight, Code.isCreation, Code.isGuard, Code.isCaller, Code.frames, Code.isFrame, guardIds]
theorem make_units {A : Around} {C : Addr} {us : List Value} {kw : List (Str × Value)} : (A.under (.builtin "type.__call__" ⟨.ref C :: us, kw⟩)).units = A.units + 1 := by
  first | rfl | simp [Around.under, Code.cUnits, Code.frames, Code.isFrame]
theorem Room.make {k : Nat} {A : Around} (r : Room (k + 1) A) (C : Addr) (us : List Value) (kw : List (Str × Value)) : Room k (A.under (.builtin "type.__call__" ⟨.ref C :: us, kw⟩)) :=
  ⟨r.hd, by have := r.dp; rw [make_depth]; omega, by have := r.un; rw [make_units]; omega⟩
theorem Room.depth {k : Nat} {A : Around} (r : Room k A) : A.depth < recursionLimit := by have := r.dp; omega
theorem Room.units {k : Nat} {A : Around} (r : Room k A) : A.units + 64 < cLine := by have := r.un; omega
theorem Room.units0 {k : Nat} {A : Around} (r : Room k A) : A.units < cLine := by have := r.un; omega

/-! ### argument lists and displays -/
def tNil : TA := fun _ H Q => Q [] H
def tCons (ta : TE) (tr : TA) : TA := fun σ H Q => ta σ H fun x H1 => tr σ H1 fun xs H2 => Q (x :: xs) H2
section
variable {X : Cx} {e : Expr} {es : List Expr} {te : TE} {t : TA} {pos : Pos}
theorem pa_nil : PA X [] tNil := fun _ _ _ _ H Q I h => Calls.spliced_nil ⟨[], H, I, .nil, h⟩
theorem pa_cons (ha : PE X e te) (hr : PA X es t) (hs : starEach (e :: es) X.env = (false, eval e X.env) :: starEach es X.env := by rfl) : PA X (e :: es) (tCons te t) := by
  intro pos pins s σ H Q I h
  rw [hs]
  show wpAny _ _ (spliced ((false, eval e X.env) :: backTo pos (starEach es X.env))) _ _ s
  refine Calls.spliced_cons (thn (ha pins s σ H _ I h) fun u s1 ⟨x, H1, I1, r1, q1⟩ => ?_)
  exact thn (hr pos pins s1 σ H1 _ I1 q1) fun us s2 ⟨xs, H2, I2, r2, q2⟩ => ⟨x :: xs, H2, I2, .cons r1 r2, q2⟩

/-- a tuple, a list of written items -/
def tTup (t : TA) : TE := fun σ H Q => t σ H fun xs H1 => xs.length ≤ sizeLine ∧ ∀ p, H1 p = none → Q (.ref p) (upd H1 p (.tup xs))
def tLst (t : TA) : TE := fun σ H Q => t σ H fun xs H1 => xs.length ≤ sizeLine ∧ ∀ p, H1 p = none → Q (.ref p) (upd H1 p (.lst xs))
theorem pe_tup {x1} (h : PA X es t) : PE X (.Tuple es x1 pos) (tTup t) := by
  intro pins s σ H Q I hq
  refine wpAny_Tuple_spliced (thn (h pos pins s σ H _ I hq) fun us s1 ⟨xs, H1, I1, r, z, q⟩ => ⟨by rw [← r.length]; exact z, ?_⟩)
  have hf : H1 s1.heap.objs.size = none := I1.hok.fresh (Nat.le_refl _)
  refine ⟨.ref s1.heap.objs.size, upd H1 s1.heap.objs.size (.tup xs), I1.laid (t' := s1.toks) (fun b u e => Heap.get?_push_of_some _ e) (Nat.le_refl _) ?_, rfl, q _ hf⟩
  exact ⟨z, us, r, ⟨_, Heap.get?_push_size _ rfl, rfl, _, rfl⟩⟩
theorem pe_lst (h : PA X es t) : PE X (.List es pos) (tLst t) := by
  intro pins s σ H Q I hq
  refine wpAny_List_spliced (thn (h pos pins s σ H _ I hq) fun us s1 ⟨xs, H1, I1, r, z, q⟩ => ⟨by rw [← r.length]; exact z, ?_⟩)
  have hf : H1 s1.heap.objs.size = none := I1.hok.fresh (Nat.le_refl _)
  refine ⟨.ref s1.heap.objs.size, upd H1 s1.heap.objs.size (.lst xs), I1.laid (t' := s1.toks) (fun b u e => Heap.get?_push_of_some _ e) (Nat.le_refl _) ?_, rfl, q _ hf⟩
  exact ⟨z, us, 0, r, Heap.get?_push_size _ rfl⟩
end

/-! ### what a def promises -/
/-- a def's promise: the bound arguments in the parameters' order, the heap, the wanted end, the wanted exception -/
abbrev Sp := List V → Hp → VK → XK → Prop
/-- how an exception lies behind a call (file 08 gives it): the callers' frames, abstract heap and state ahead of the call, the wish, the exception, the state -/
abbrev CXT := List Env → Hp → Shared → XK → Value → Shared → Prop

/-- the state at a call -/
structure Env0 (P : Program) (w : World) (K : PySem.W.Frag) (mg : Str → Option Value) (base : Heap) (A : Around) (outer : List Env) (s : Shared) (H : Hp) : Prop where
  frames : A.frames = some outer
  mod : Mod K mg base
  bs : ∀ b o, base.get? b = some o → s.heap.get? b = some o ∧ H b = none
  bsz : base.objs.size ≤ s.heap.objs.size
  funs : s.heap.FunFrames base outer
  frf : ∀ b ∈ frs outer, H b = none
  hok : HOk P w H s.heap
  bare : AllBare s.gens
/-- a call's end -/
def CE (outer : List Env) (P : Program) (w : World) (H : Hp) (s : Shared) (Q : VK) (u : Value) (s' : Shared) : Prop :=
  ∃ v H', s'.os = s.os ∧ AllBare s'.gens ∧ Un (frs outer) [] H H' s.heap s'.heap ∧ HOk P w H' s'.heap ∧ RelV v u ∧ Q v H'
def CR (CX : CXT) (outer : List Env) (P : Program) (w : World) (H : Hp) (s : Shared) (Q : VK) (E : XK) (r : Result) (s' : Shared) : Prop :=
  match r with
  | .ok (.ret u) => CE outer P w H s Q u s'
  | .ok _ => False
  | .error e => CX outer H s E e s'
structure FnOk (P : Program) (w : World) (K : PySem.W.Frag) (mg : Str → Option Value) (base : Heap) (CX : CXT) (k : Nat) (f : Addr) (fd : FuncData) (ps : List Str) (sp : Sp) : Prop where
  len : ∀ vs H Q E, sp vs H Q E → vs.length = ps.length
  run : ∀ (A : Around) (outer : List Env) (s : Shared) (H : Hp) (args : Args) (us : List Value) (vs : List V) (Q : VK) (E : XK), Room k A → Env0 P w K mg base A outer s H → BindsTo s fd args (ps.zip us) → Vals vs us → sp vs H Q E →
    codeAny (model P w) A (.call (.ref f) args) (CR CX outer P w H s Q E) s
theorem FnOk.mono {P : Program} {w : World} {K : PySem.W.Frag} {mg : Str → Option Value} {base : Heap} {CX : CXT} {j k : Nat} {f : Addr} {fd : FuncData} {ps : List Str} {sp : Sp} (F : FnOk P w K mg base CX j f fd ps sp) (h : j ≤ k) :
    FnOk P w K mg base CX k f fd ps sp := ⟨F.len, fun A outer s H args us vs Q E hr => F.run A outer s H args us vs Q E (hr.mono h)⟩
/-- a weaker promise -/
theorem FnOk.imp {P : Program} {w : World} {K : PySem.W.Frag} {mg : Str → Option Value} {base : Heap} {CX : CXT} {k : Nat} {f : Addr} {fd : FuncData} {ps : List Str} {sp sp' : Sp} (F : FnOk P w K mg base CX k f fd ps sp)
    (h : ∀ vs H Q E, sp' vs H Q E → sp vs H Q E) : FnOk P w K mg base CX k f fd ps sp' :=
  ⟨fun vs H Q E q => F.len vs H Q E (h _ _ _ _ q), fun A outer s H args us vs Q E hr he hb hv hs => F.run A outer s H args us vs Q E hr he hb hv (h _ _ _ _ hs)⟩

theorem Env0.make {P : Program} {w : World} {K : PySem.W.Frag} {mg : Str → Option Value} {base : Heap} {A : Around} {outer : List Env} {s : Shared} {H : Hp} (e : Env0 P w K mg base A outer s H) (C : Addr) (us : List Value) (kw : List (Str × Value)) :
    Env0 P w K mg base (A.under (.builtin "type.__call__" ⟨.ref C :: us, kw⟩)) outer s H := ⟨by first | exact e.frames | (simpa [Around.under, Code.envs, Code.isFrame, pushEnvs] using e.frames), e.mod, e.bs, e.bsz, e.funs, e.frf, e.hok, e.bare⟩
theorem Env0.in1 {P : Program} {w : World} {K : PySem.W.Frag} {mg : Str → Option Value} {base : Heap} {A : Around} {outer : List Env} {s : Shared} {H : Hp} (e : Env0 P w K mg base A outer s H) :
    Env0 P w K mg base A.in1 outer s H := ⟨e.frames, e.mod, e.bs, e.bsz, e.funs, e.frf, e.hok, e.bare⟩

section
variable {X : Cx} {pins : List (Addr × Obj)} {σ : St} {H : Hp} {s s' : Shared}
/-- from a body: what a callee wants -/
theorem Inv.env0 (I : Inv X pins σ H s) : Env0 X.prog X.w X.K X.mg X.base X.A X.stack s H :=
  ⟨I.ok.frames, I.ok.mod, I.bs, Nat.le_trans I.ok.bsz I.sz, I.stack, I.stkFree, I.hok, I.bare⟩
/-- behind a call -/
theorem Inv.after {Q : VK} {u : Value} (I : Inv X pins σ H s) (h : CE X.stack X.prog X.w H s Q u s') : EP X pins σ Q u s' := by
  obtain ⟨v, H', os, bare, un, hok, r, q⟩ := h
  obtain ⟨hh, g, d, t, os'⟩ := s'
  obtain rfl : os' = s.os := os
  exact ⟨v, H', I.call (h' := hh) (g' := g) (d' := d) (t' := t) (ch := []) un hok bare (fun b z => absurd z (by simp)), r, q⟩
end

/-! ### calls -/
/-- f(..): the written arguments, then the defaults dvs; E: what is wanted of an exception -/
def tCall (sp : Sp) (dvs : List V) (E : XK) (t : TA) : TE := fun σ H Q => t σ H fun vs H1 => sp (vs ++ dvs) H1 Q E
/-- o.m(..) of an instance of the class at C -/
def tMeth (C : Addr) (m : Str) (sp : Sp) (dvs : List V) (E : XK) (ta : TE) (t : TA) : TE := fun σ H Q => ta σ H fun x H1 => ∃ a dx fs, x = .ref a ∧ H1 a = some (.ins C dx fs) ∧ fs.lookup m = none ∧
  t σ H1 fun vs H2 => sp (x :: (vs ++ dvs)) H2 Q E
/-- C(..): a new instance and its dict, then __init__ -/
def tMake (C : Addr) (sp : Sp) (dvs : List V) (E : XK) (t : TA) : TE := fun σ H Q => t σ H fun vs H1 => ∀ x dx, H1 x = none → H1 dx = none → dx ≠ x →
  sp (.ref x :: (vs ++ dvs)) (upd (upd H1 dx (.own x)) x (.ins C dx [])) (fun v H2 => v = .non ∧ Q (.ref x) H2) E

/-- how the parameters are bound: us the positional arguments, kw the keywords' values by name, ds the defaults that fill up -/
def Binds (K : PySem.W.Frag) (fd : FuncData) (ps : List Str) (ds : List Value) : Prop :=
  ∀ (s : Shared) (us : List Value), K.In s.heap → (us ++ ds).length = ps.length → BindsTo s fd ⟨us, []⟩ (ps.zip (us ++ ds))
/-- every parameter is given -/
theorem Binds.all {K : PySem.W.Frag} {fd : FuncData} {ps : List Str} (h : ∀ us : List Value, us.length = ps.length → bindArgs fd ⟨us, []⟩ = pure (ps.zip us)) : Binds K fd ps [] := fun s us _ hl => by
  rw [List.append_nil] at hl ⊢
  exact .of_eq (h us hl)

/-- an exception of a callee reaches what this body wants of exceptions -/
def Passes (CX : CXT) (X : Cx) (E : XK) : Prop := ∀ (pins : List (Addr × Obj)) (σ : St) (H : Hp) (s : Shared) (e : Value) (s' : Shared), Inv X pins σ H s → CX X.stack H s E e s' → X.xe e s'

section
variable {X : Cx} {CX : CXT} {k : Nat} {f C : Addr} {fd : FuncData} {ps : List Str} {sp : Sp} {dvs : List V} {ds : List Value} {E : XK} {x m : Str} {p pos apos : Pos} {e o : Expr} {es : List Expr} {ta : TE} {t : TA}

/-- the callee runs -/
theorem run_fn {pins : List (Addr × Obj)} {σ : St} {H : Hp} {s : Shared} {Q : VK} {us : List Value} {vs : List V} (F : FnOk X.prog X.w X.K X.mg X.base CX k f fd ps sp) (hr : Room k X.A) (hb : Binds X.K fd ps ds) (hd : Vals dvs ds) (hx : Passes CX X E)
    (I : Inv X pins σ H s) (r : Vals vs us) (h : sp (vs ++ dvs) H Q E) : wpAny (model X.prog X.w) X.A (call (.ref f) us) (EP X pins σ Q) X.xe s := by
  have r2 : Vals (vs ++ dvs) (us ++ ds) := r.append hd
  have hl : (us ++ ds).length = ps.length := by rw [← r2.length]; exact F.len _ _ _ _ h
  refine wpAny_call (codeAny_mono (F.run X.A X.stack s H ⟨us, []⟩ (us ++ ds) (vs ++ dvs) Q E hr I.env0 (hb s us I.kIn hl) r2 h) fun r s' hq => ?_)
  cases r with
  | error e => exact hx pins σ H s e s' I hq
  | ok fl =>
    cases fl with
    | ret u => exact I.after hq
    | next => exact False.elim hq
    | brk => exact False.elim hq
    | cont => exact False.elim hq

theorem pe_call (F : FnOk X.prog X.w X.K X.mg X.base CX k f fd ps sp) (hr : Room k X.A) (hg : Gl X x) (hm : X.mg x = some (.ref f)) (hk : PySem.W.keepIn X.K (.ref f) = true) (hb : Binds X.K fd ps ds) (hd : Vals dvs ds) (hx : Passes CX X E)
    (ha : PA X (e :: es) t) (hdb : (x == ("__debug__" : Str)) = false := by decide) (he : starEach (e :: es) X.env = (false, eval e X.env) :: starEach es X.env := by rfl) (hpl : (backTo pos (starEach es X.env)).any (·.1) = false := by rfl) :
    PE X (.Call (.Name x p) (e :: es) [] pos) (tCall sp dvs E t) := by
  intro pins s σ H Q I h
  refine wpAny_Call_Name_kw (ld_glob I hg hm ?_ hdb)
  refine PySem.W.callWith_K (h₀ := X.base) I.ok.mod.kin hk (thn (ha pos pins s σ H _ I h) fun us s1 ⟨vs, H1, I1, r, q⟩ => ⟨I1.kIn, ?_⟩) he hpl
  exact run_fn F hr hb hd hx I1 r q
/-- what a class must have to be made -/
structure Mk (K : PySem.W.Frag) (C f : Addr) : Prop where
  makes : PySem.W.makesIn K C = true
  init : PySem.W.findIn K (.ref C) "__init__" = some (some (.ref f))
  fn : PySem.W.isFn K (.ref f) = true
  kp : PySem.W.keepIn K (.ref C) = true

theorem run_make {pins : List (Addr × Obj)} {σ : St} {H : Hp} {s : Shared} {Q : VK} {us : List Value} {vs : List V} (M : Mk X.K C f) (F : FnOk X.prog X.w X.K X.mg X.base CX k f fd ps sp) (hr : Room (k + 1) X.A) (hb : Binds X.K fd ps ds) (hd : Vals dvs ds)
    (hx : Passes CX X E) (I : Inv X pins σ H s) (r : Vals vs us)
    (h : ∀ x dx, H x = none → H dx = none → dx ≠ x → sp (.ref x :: (vs ++ dvs)) (upd (upd H dx (.own x)) x (.ins C dx [])) (fun v H2 => v = .non ∧ Q (.ref x) H2) E) :
    wpAny (model X.prog X.w) X.A (call (.ref C) us) (EP X pins σ Q) X.xe s := by
  have hq := h (s.heap.objs.size + 1) s.heap.objs.size (I.hok.fresh (Nat.le_succ _)) (I.hok.fresh (Nat.le_refl _)) (Nat.ne_of_lt (Nat.lt_succ_self _))
  have I2 := Inv.made (C := C) I
  have r2 : Vals (V.ref (s.heap.objs.size + 1) :: (vs ++ dvs)) (Value.ref (s.heap.objs.size + 1) :: (us ++ ds)) := .cons rfl (r.append hd)
  have hl : (Value.ref (s.heap.objs.size + 1) :: us ++ ds).length = ps.length := by
    have e := r2.length
    rw [F.len _ _ _ _ hq] at e
    exact e.symm
  refine wpAny_call (make_map (f := f) I.kIn M.makes M.init (beq_iff_eq.mp M.fn) (codeAny_mono (F.run _ X.stack _ _ ⟨Value.ref (s.heap.objs.size + 1) :: us, []⟩ (Value.ref (s.heap.objs.size + 1) :: (us ++ ds)) _ _ E (hr.make C us [])
    (I2.env0.make C us []) (hb _ (Value.ref (s.heap.objs.size + 1) :: us) I2.kIn hl) r2 hq) fun r s' hq' => ?_))
  cases r with
  | error e => exact hx pins σ _ _ e s' I2 hq'
  | ok fl =>
    cases fl with
    | ret u =>
      obtain ⟨v, H', I3, rv, ev, q3⟩ := I2.after hq'
      subst ev
      exact ⟨rv, ⟨V.ref (s.heap.objs.size + 1), H', I3, rfl, q3⟩⟩
    | next => exact False.elim hq'
    | brk => exact False.elim hq'
    | cont => exact False.elim hq'
theorem pe_make (M : Mk X.K C f) (F : FnOk X.prog X.w X.K X.mg X.base CX k f fd ps sp) (hr : Room (k + 1) X.A) (hg : Gl X x) (hm : X.mg x = some (.ref C)) (hb : Binds X.K fd ps ds) (hd : Vals dvs ds) (hx : Passes CX X E)
    (ha : PA X (e :: es) t) (hdb : (x == ("__debug__" : Str)) = false := by decide) (he : starEach (e :: es) X.env = (false, eval e X.env) :: starEach es X.env := by rfl) (hpl : (backTo pos (starEach es X.env)).any (·.1) = false := by rfl) :
    PE X (.Call (.Name x p) (e :: es) [] pos) (tMake C sp dvs E t) := by
  intro pins s σ H Q I h
  refine wpAny_Call_Name_kw (ld_glob I hg hm ?_ hdb)
  refine PySem.W.callWith_K (h₀ := X.base) I.ok.mod.kin M.kp (thn (ha pos pins s σ H _ I h) fun us s1 ⟨vs, H1, I1, r, q⟩ => ⟨I1.kIn, ?_⟩) he hpl
  exact run_make M F hr hb hd hx I1 r q
theorem pe_make0 (M : Mk X.K C f) (F : FnOk X.prog X.w X.K X.mg X.base CX k f fd ps sp) (hr : Room (k + 1) X.A) (hg : Gl X x) (hm : X.mg x = some (.ref C)) (hb : Binds X.K fd ps ds) (hd : Vals dvs ds) (hx : Passes CX X E)
    (hdb : (x == ("__debug__" : Str)) = false := by decide) : PE X (.Call (.Name x p) [] [] pos) (tMake C sp dvs E tNil) := by
  intro pins s σ H Q I h
  refine wpAny_Call_Name_kw (ld_glob I hg hm ?_ hdb)
  exact PySem.W.callWith_K0 I.kIn M.kp (run_make (us := []) M F hr hb hd hx I .nil h)
end

/-! ### keywords -/
/-- the values of the keywords, from the left -/
def PK (X : Cx) (kws : List Keyword) (t : TA) : Prop :=
  ∀ (pos : Pos) (pins : List (Addr × Obj)) (s : Shared) (σ : St) (H : Hp) (Q : List V → Hp → Prop), Inv X pins σ H s → t σ H Q → wpAny (model X.prog X.w) X.A (evalAll ((backToKw pos (keywordEach kws X.env)).map (·.2))) (AP X pins σ Q) X.xe s
section
variable {X : Cx} {CX : CXT} {k : Nat} {f C : Addr} {fd : FuncData} {ps ks : List Str} {sp : Sp} {E : XK} {x m : Str} {p pos apos kpos : Pos} {e o : Expr} {es : List Expr} {kws : List Keyword} {te ta : TE} {t tk : TA} {nm : Option Str}
/-- how a call with keywords binds: g puts the positional values us and the keywords' values ws (names ks) in the parameters' order, defaults among them -/
structure KBinds (K : PySem.W.Frag) (fd : FuncData) (ps ks : List Str) (g : List Value → List Value → List Value) (gV : List V → List V → List V) : Prop where
  to : ∀ (s : Shared) (us ws : List Value), K.In s.heap → (g us ws).length = ps.length → BindsTo s fd ⟨us, ks.zip ws⟩ (ps.zip (g us ws))
  rel : ∀ {vs : List V} {us : List Value} {zs : List V} {ws : List Value}, Vals vs us → Vals zs ws → Vals (gV vs zs) (g us ws)
def tCallK (sp : Sp) (gV : List V → List V → List V) (E : XK) (t tk : TA) : TE := fun σ H Q => t σ H fun vs H1 => tk σ H1 fun zs H2 => sp (gV vs zs) H2 Q E
variable {g : List Value → List Value → List Value} {gV : List V → List V → List V}
end

/-! ### a def's body keeps its promise -/
/-- names: the parameters first -/
structure FnScope (N P : List Str) (sc : Scope) : Prop where
  kind : sc.kind = .function
  co : sc.isCoroutine = false
  gen : sc.isGenerator = false
  nd : N.Nodup
  pre : N.take P.length = P
  par : ∀ x ∈ P, sc.names.lookup x = some .local ∨ sc.names.lookup x = some .cell
  nofree : ∀ y ∈ sc.names, y.2 ≠ .free

theorem bindL_out {kindOf : Str → Option NameKind} {x : Str} : ∀ {binds : List (Str × Value)} {m : Str → Option Value}, (∀ v, (x, v) ∉ binds) → bindL kindOf binds m x = m x
  | [], _, _ => rfl
  | (n, v) :: r, m, h => by
    unfold bindL
    rw [bindL_out fun w hw => h w (List.mem_cons_of_mem _ hw)]
    split
    · have : x ≠ n := by rintro rfl; exact h v List.mem_cons_self
      simp [this]
    · rfl
theorem bindC_out {kindOf : Str → Option NameKind} {x : Str} : ∀ {binds : List (Str × Value)} {m : Str → Option Value}, (∀ v, (x, v) ∉ binds) → bindC kindOf binds m x = m x
  | [], _, _ => rfl
  | (n, v) :: r, m, h => by
    unfold bindC
    rw [bindC_out fun w hw => h w (List.mem_cons_of_mem _ hw)]
    split
    · rfl
    · have : x ≠ n := by rintro rfl; exact h v List.mem_cons_self
      simp [this]
theorem bindL_get {kindOf : Str → Option NameKind} {x : Str} {v : Value} : ∀ {P : List Str} {vs : List Value} {i : Nat} {m : Str → Option Value}, P.Nodup → P[i]? = some x → vs[i]? = some v → kindOf x = some .local →
    bindL kindOf (P.zip vs) m x = some v
  | [], _, _, _, _, h, _, _ => by simp at h
  | _ :: _, [], _, _, _, _, h, _ => by simp at h
  | p :: P, w :: vs, 0, m, nd, h1, h2, hk => by
    simp at h1 h2; subst h1; subst h2
    show bindL kindOf ((p, w) :: P.zip vs) m p = _
    unfold bindL
    rw [bindL_out fun v hv => (List.nodup_cons.mp nd).1 (List.of_mem_zip hv).1, if_pos hk]
    simp
  | p :: P, w :: vs, i + 1, m, nd, h1, h2, hk => by
    show bindL kindOf ((p, w) :: P.zip vs) m x = _
    unfold bindL
    exact bindL_get (i := i) (List.nodup_cons.mp nd).2 (by simpa using h1) (by simpa using h2) hk
theorem bindC_get {kindOf : Str → Option NameKind} {x : Str} {v : Value} : ∀ {P : List Str} {vs : List Value} {i : Nat} {m : Str → Option Value}, P.Nodup → P[i]? = some x → vs[i]? = some v → kindOf x ≠ some .local →
    bindC kindOf (P.zip vs) m x = some v
  | [], _, _, _, _, h, _, _ => by simp at h
  | _ :: _, [], _, _, _, _, h, _ => by simp at h
  | p :: P, w :: vs, 0, m, nd, h1, h2, hk => by
    simp at h1 h2; subst h1; subst h2
    show bindC kindOf ((p, w) :: P.zip vs) m p = _
    unfold bindC
    rw [bindC_out fun v hv => (List.nodup_cons.mp nd).1 (List.of_mem_zip hv).1, if_neg hk]
    simp
  | p :: P, w :: vs, i + 1, m, nd, h1, h2, hk => by
    show bindC kindOf ((p, w) :: P.zip vs) m x = _
    unfold bindC
    exact bindC_get (i := i) (List.nodup_cons.mp nd).2 (by simpa using h1) (by simpa using h2) hk

/-- the names' values at the entry -/
def start (N : List Str) (vs : List V) : St := vs.map some ++ List.replicate (N.length - vs.length) none

/-- the context of a def's body, at its entry; an exception leaves the frame, then lies as CX says -/
def cxOf (CX : CXT) (P : Program) (w : World) (K : PySem.W.Frag) (mg : Str → Option Value) (base : Heap) (N : List Str) (qual : Str) (scope : Scope) (f : Addr) (cd : Value) (A : Around) (outer : List Env) (s : Shared) (H : Hp) (E : XK) : Cx where
  prog := P
  w := w
  K := K
  mg := mg
  base := base
  A := A.deeper (envOfC qual scope s.heap.objs.size f cd)
  N := N
  s₀ := s
  H₀ := H
  env := envOfC qual scope s.heap.objs.size f cd
  outer := outer
  stack := envOfC qual scope s.heap.objs.size f cd :: outer
  ex := []
  calm := true
  fn := fun _ => true
  pn := []
  xe := fun e s' => wpAny (model P w) (A.deeper (envOfC qual scope s.heap.objs.size f cd)) (leaving (envOfC qual scope s.heap.objs.size f cd) e) (fun _ s'' => CX outer H s E e s'') (fun e' s'' => CX outer H s E e' s'') s'

theorem cell_has {sc : Scope} {n : Nat} {x : Str} (h : sc.names.lookup x = some .cell) : ∃ c, (cellsFrom n sc.names []).lookup x = some c := by
  have q := PySem.W.cellsFrom_some sc.names n [] (.inl h)
  exact Option.isSome_iff_exists.mp q

theorem inv_start {CX : CXT} {P : Program} {w : World} {K : PySem.W.Frag} {mg : Str → Option Value} {base : Heap} {N ps : List Str} {qual : Str} {scope : Scope} {f : Addr} {cd : Value} {A : Around} {outer : List Env} {s s1 : Shared} {H : Hp} {E : XK} {us : List Value} {vs : List V}
    (S : FnScope N ps scope) (hd : A.handled = none) (e0 : Env0 P w K mg base A outer s H) (hl : vs.length = ps.length) (r : Vals vs us)
    (x : InCallC s s.heap.objs.size (bindL (envOfC qual scope s.heap.objs.size f cd).kindOf (ps.zip us) fun _ => none) (cellsFrom (s.heap.objs.size + 1) scope.names []) (bindC (envOfC qual scope s.heap.objs.size f cd).kindOf (ps.zip us) fun _ => none) s1) :
    Inv (cxOf CX P w K mg base N qual scope f cd A outer s H E) [] (start N vs) H s1 := by
  have hpl : ps.length ≤ N.length := by have := congrArg List.length S.pre; rw [List.length_take] at this; omega
  obtain ⟨h1, tk, rfl, hk⟩ := x.done
  have noA : ∀ b : Addr, b ∉ (cxOf CX P w K mg base N qual scope f cd A outer s H E).ex := fun b z => absurd (show b ∈ ([] : List Addr) from z) (by simp)
  refine ⟨⟨e0.mod, S.kind, rfl, rfl, Nat.le_refl _, fun y z c h1 h2 => ?_, fun y hy => ?_, fun y c _ h => ?_, fun _ => hd, Around.frames_deeper e0.frames, .inr ⟨rfl, rfl⟩, fun b z => absurd z (noA b), e0.bs, e0.bsz, fun b _ _ => noA b, fun b z => absurd z (noA b), e0.funs, e0.frf⟩,
    rfl, e0.bare, Un.kept hk, ⟨_, x.toInCall.ns, fun i y v h1 h2 h3 => ?_⟩, fun y c h => ⟨_, x.cell y c h⟩, e0.hok.fresh (Nat.le_refl _), fun y c h => ?_, fun p hp => absurd (show p ∈ ([] : List (Addr × Obj)) from hp) (by simp), e0.hok.kept hk, ?_⟩
  · exact name_of_addr x.apart (PySem.mem_of_lookup h1) (PySem.mem_of_lookup h2)
  · have hy : scope.names.lookup y = some .cell ∨ scope.names.lookup y = some .free := hy
    rcases hy with hy | hy
    · exact cell_has hy
    · exact absurd rfl (S.nofree _ (PySem.mem_of_lookup hy))
  · exact Nat.le_of_lt (x.above y c (PySem.mem_of_lookup h))
  · have hi : i < vs.length := by
      unfold start at h2
      by_cases hi : i < vs.length
      · exact hi
      · rw [List.getElem?_append_right (by simpa using hi)] at h2
        rw [List.getElem?_replicate] at h2
        split at h2 <;> cases h2
    have ha : vs[i]? = some v := by
      unfold start at h2
      rw [List.getElem?_append_left (by simpa using hi), List.getElem?_map] at h2
      cases e : vs[i]? with
      | none => rw [e] at h2; cases h2
      | some a => rw [e] at h2; cases h2; rfl
    obtain ⟨u, hu, rv⟩ := r.get ha
    have hp : ps[i]? = some y := by
      rw [← S.pre, List.getElem?_take_of_lt (by omega)]; exact h1
    have ndP : ps.Nodup := by rw [← S.pre]; exact S.nd.sublist (List.take_sublist _ _)
    refine ⟨u, rv, ?_⟩
    rcases S.par y (List.mem_of_getElem? hp) with k | k
    · exact .inl ⟨k, bindL_get ndP hp hu k⟩
    · obtain ⟨c, e⟩ := cell_has (n := s.heap.objs.size + 1) k
      refine .inr ⟨.inl k, c, e, ?_⟩
      have q := x.cell y c e
      rw [bindC_get ndP hp hu (by show scope.names.lookup y ≠ _; rw [k]; decide)] at q
      exact q
  · exact e0.hok.fresh (Nat.le_of_lt (x.above y c (PySem.mem_of_lookup h)))
  · unfold start
    show _ = N.length
    rw [List.length_append, List.length_map, List.length_replicate]
    omega

/-- THE RULE: a def (or a method) of the text, by its body. The body's reading t is chosen for each entry; it is run at the parameters' values -/
theorem fn_of {CX : CXT} {P : Program} {w : World} {K : PySem.W.Frag} {mg : Str → Option Value} {base : Heap} {k : Nat} {f : Addr} {name qual : Str} {params : Arguments} {body : List Stmt} {scope : Scope} {dV kV doc pm cdv ct oc : Value} {an od : Option Addr}
    {osl : Array (Option Value)} {N ps : List Str} {sp : Sp} (lk : K.lookup f = some ⟨oc, od, .func (PySem.W.fnOf name qual params body scope dV kV doc pm an cdv ct), osl⟩) (hcd : PySem.W.codeIn K cdv qual = true) (S : FnScope N ps scope)
    (len : ∀ vs H Q E, sp vs H Q E → vs.length = ps.length)
    (hbody : ∀ (A : Around) (outer : List Env) (s : Shared) (H : Hp) (vs : List V) (Q : VK) (E : XK), Room k (A.deeper (envOfC qual scope s.heap.objs.size f cdv)) → sp vs H Q E →
      ∃ t, PSs (cxOf CX P w K mg base N qual scope f cdv A outer s H E) body t ∧ t { nx := fun _ H' => Q .non H', rt := Q } (start N vs) H) :
    FnOk P w K mg base CX (k + 1) f (PySem.W.fnOf name qual params body scope dV kV doc pm an cdv ct) ps sp := by
  refine ⟨len, fun A outer s H args us vs Q E hr e0 hb r hsp => ?_⟩
  have hl := len _ _ _ _ hsp
  have KX : K.In s.heap := e0.mod.kin.keeps fun b o e => (e0.bs b o e).1
  have lim : s.heap.NoLimit := e0.mod.nolimit.keeps fun b o e => (e0.bs b o e).1
  have hkind : ∀ y ∈ ps.zip us, scope.names.lookup y.1 = some .local ∨ (scope.names.lookup y.1 = some .cell ∧ ((cellsFrom (s.heap.objs.size + 1) scope.names []).lookup y.1).isSome = true) := fun ⟨n, v⟩ hy => by
    rcases S.par n (List.of_mem_zip hy).1 with q | q
    · exact .inl q
    · exact .inr ⟨q, PySem.W.cellsFrom_some _ _ _ (.inl q)⟩
  refine codeAny_call_function hr.depth (KX _ _ lk) rfl S.co S.gen rfl (PySem.W.codeRec_of KX hcd) (hb _ _ _ _ ?_)
  refine wpAny_newFunctionEnv_cells S.kind hkind fun env he s1 x => ?_
  subst he
  refine ⟨lim.keeps x.toInCall.keep, codeAny_func ?_⟩
  obtain ⟨t, ht, hq⟩ := hbody A outer s H vs Q E (hr.deeper _) hsp
  have I : Inv (cxOf CX P w K mg base N qual scope f cdv A outer s H E) [] (start N vs) H s1 := inv_start S hr.hd e0 hl r x
  refine wpAny_mono (ht [] s1 (start N vs) H _ I hq) (fun fl s' hs => ?_) fun e s' hs => hs
  have fin : ∀ {σ' : St} {H' : Hp} {v : V} {u : Value}, Inv (cxOf CX P w K mg base N qual scope f cdv A outer s H E) [] σ' H' s' → RelV v u → Q v H' → CE outer P w H s Q u s' :=
    fun {σ' H' v u} J rv q => ⟨v, H', J.os, J.bare, J.base, J.hok, rv, q⟩
  cases fl with
  | ret u =>
    obtain ⟨v, σ', H', J, rv, q⟩ := hs
    exact fin J rv q
  | next =>
    obtain ⟨σ', H', J, q⟩ := hs
    exact fin (v := V.non) (u := Value.none) J rfl q
  | brk =>
    obtain ⟨_, _, _, q⟩ := hs
    exact False.elim q
  | cont =>
    obtain ⟨_, _, _, q⟩ := hs
    exact False.elim q
end L2

namespace L2
open PySem PySem.Spec PyProof.Rows
section
variable {X : Cx} {x : Str} {p pos : Pos} {e : Expr} {es : List Expr} {t : TA} {id T : String} {r : List V → Hp → VK → Prop}

def tCB (r : List V → Hp → VK → Prop) (t : TA) : TE := fun σ H Q => t σ H fun vs H1 => r vs H1 Q
/-- f(e, ..), f a built-in function -/
theorem pe_callB (hc : CallR X (.builtin id) r) (hg : Gl X x) (hm : X.mg x = none) (hv : bootBuiltins x = some (.builtin id)) (ha : PA X (e :: es) t) (hn : x ≠ "__name__" := by decide) (hdb : (x == ("__debug__" : Str)) = false := by decide)
    (he : starEach (e :: es) X.env = (false, eval e X.env) :: starEach es X.env := by rfl) (hpl : (backTo pos (starEach es X.env)).any (·.1) = false := by rfl) : PE X (.Call (.Name x p) (e :: es) [] pos) (tCB r t) := by
  intro pins s σ H Q I h
  refine wpAny_Call_Name_kw (ld_blt I hg hm hv ?_ hn hdb)
  exact PyProof.Rows.callWith_builtin1 (thn (ha pos pins s σ H _ I h) fun us s1 ⟨vs, H1, I1, r1, q1⟩ => hc pins s1 σ H1 vs us Q I1 r1 q1) he hpl
/-- T(e, ..), T a built-in type -/
theorem pe_callTy (hc : CallR X (.type T) r) (hg : Gl X x) (hm : X.mg x = none) (hv : bootBuiltins x = some (.type T)) (ha : PA X (e :: es) t) (hn : x ≠ "__name__" := by decide) (hdb : (x == ("__debug__" : Str)) = false := by decide)
    (he : starEach (e :: es) X.env = (false, eval e X.env) :: starEach es X.env := by rfl) (hpl : (backTo pos (starEach es X.env)).any (·.1) = false := by rfl) : PE X (.Call (.Name x p) (e :: es) [] pos) (tCB r t) := by
  intro pins s σ H Q I h
  refine wpAny_Call_Name_kw (ld_blt I hg hm hv ?_ hn hdb)
  exact PyProof.Rows.callWith_type1 (thn (ha pos pins s σ H _ I h) fun us s1 ⟨vs, H1, I1, r1, q1⟩ => hc pins s1 σ H1 vs us Q I1 r1 q1) he hpl
end
end L2

namespace HT
open PySem PyProof.Rows

/-- t < u of tuples of ints -/
def lexLt : List Int → List Int → Bool
  | [], [] => false
  | [], _ :: _ => true
  | _ :: _, [] => false
  | x :: xs, y :: ys => if x = y then lexLt xs ys else decide (x < y)
section
open PySem.SeqAt
open PySem.AutoSeq1 (wpAny_loadPart')
open PySem.MeetsSeq PySem.MeetsSeq2 PySem.MeetsSeq3

end

section
variable {prog : Program} {w : World} {A : Around} {E : Value → Shared → Prop} {s : Shared}

/-! ### t[a:b], not the whole -/
/-- a slice's bound as a place among n (d where it is left out) -/
def sIx (n d : Nat) : Option Int → Nat
  | none => d
  | some v => if v < 0 then (v + (n : Int)).toNat else min v.toNat n
theorem sIx_none (n d : Nat) : sIx n d none = d := rfl
theorem sIx_nat (n d k : Nat) : sIx n d (some (k : Int)) = min k n := by
  show (if (k : Int) < 0 then ((k : Int) + (n : Int)).toNat else min (k : Int).toNat n) = min k n
  rw [if_neg (by omega), Int.toNat_natCast]
end
end HT

namespace L2
open PySem PySem.Spec PyProof.Rows

/-! ### the parts of a slice -/
abbrev TO := St → Hp → (Option Int → Hp → Prop) → Prop
/-- a slice's part (left out, or an int) -/
def PO (X : Cx) (e : Option Expr) (t : TO) : Prop :=
  ∀ (pins : List (Addr × Obj)) (s : Shared) (σ : St) (H : Hp) (Q : Option Int → Hp → Prop), Inv X pins σ H s → t σ H Q →
    wpAny (model X.prog X.w) X.A (evalPart e X.env) (fun u s' => ∃ o H', Inv X pins σ H' s' ∧ IsPart u o ∧ Q o H') X.xe s
def tNoPart : TO := fun _ H Q => Q none H
def tPart (t : TE) : TO := fun σ H Q => t σ H fun x H1 => ∃ i, x = .int i ∧ Q (some i) H1

section
variable {X : Cx} {e : Expr} {te : TE} {lo hi : Option Expr} {tl th : TO} {pos p2 : Pos}

theorem po_none : PO X none tNoPart := by
  intro pins s σ H Q I h
  rw [evalPart_none]
  exact wpAny_pure ⟨none, H, I, .none, h⟩
theorem po_some (h : PE X e te) : PO X (some e) (tPart te) := by
  intro pins s σ H Q I hw
  rw [evalPart_some]
  refine thn (h pins s σ H _ I hw) fun u s1 ⟨x, H1, I1, r1, q1⟩ => ?_
  obtain ⟨i, rfl, q⟩ := q1
  obtain ⟨t, rfl⟩ := r1
  exact ⟨some i, H1, I1, .int i t, q⟩

/-- what a slice of a value is, by values: the slice object stands at sl -/
def SlR (X : Cx) (r : V → Option Int → Option Int → Hp → VK → Prop) : Prop :=
  ∀ (pins : List (Addr × Obj)) (s : Shared) (σ : St) (H : Hp) (x : V) (v vl vu : Value) (lo hi : Option Int) (sl : Addr) (Q : VK), Inv X pins σ H s → RelV x v → s.heap.IsSliceOf sl vl vu .none → IsPart vl lo → IsPart vu hi → r x lo hi H Q →
    ∃ T id, typeLookup (.type T) "__getitem__" = pure (some (.builtin id)) ∧ s.TypeIs v T ∧ wpAny (model X.prog X.w) X.A (getItem v (.ref sl)) (EP X pins σ Q) X.xe s
theorem SlR.or {r r' : V → Option Int → Option Int → Hp → VK → Prop} (h : SlR X r) (h' : SlR X r') : SlR X (fun x lo hi H Q => r x lo hi H Q ∨ r' x lo hi H Q) := by
  intro pins s σ H x v vl vu lo hi sl Q I rx hs pl pu q
  rcases q with q | q
  · exact h pins s σ H x v vl vu lo hi sl Q I rx hs pl pu q
  · exact h' pins s σ H x v vl vu lo hi sl Q I rx hs pl pu q
def tSl (r : V → Option Int → Option Int → Hp → VK → Prop) (te : TE) (tl th : TO) : TE := fun σ H Q => te σ H fun x H1 => tl σ H1 fun l H2 => th σ H2 fun u H3 => r x l u H3 Q
/-- a[lo:hi], any a -/
theorem pe_slice {r : V → Option Int → Option Int → Hp → VK → Prop} (hr : SlR X r) (he : PE X e te) (hl : PO X lo tl) (hu : PO X hi th) : PE X (.Subscript e (.Slice lo hi none p2) pos) (tSl r te tl th) := by
  intro pins s σ H Q I h
  refine Subscript_ (thn (he pins s σ H _ I h) fun v s1 ⟨x, H1, I1, r1, q1⟩ => ?_)
  refine wpAny_Slice (thn (hl pins s1 σ H1 _ I1 q1) fun vl s2 ⟨l, H2, I2, pl, q2⟩ => thn (hu pins s2 σ H2 _ I2 q2) fun vu s3 ⟨u, H3, I3, pu, q3⟩ => ?_)
  rw [evalPart_none]
  refine wpAny_pure ?_
  have I4 : Inv X pins σ H3 { s3 with heap := s3.heap.push { cls := .type "slice", data := .fields #[vl, vu, .none] } } := I3.kept (t' := s3.toks) fun b ob q => Heap.get?_push_of_some _ q
  obtain ⟨T, id, hT, ht, hg⟩ := hr pins { s3 with heap := s3.heap.push { cls := .type "slice", data := .fields #[vl, vu, .none] } } σ H3 x v vl vu l u s3.heap.objs.size Q I4 r1 (Heap.IsSliceOf.new ..) pl pu q3
  show wpAny (model X.prog X.w) X.A (subscriptTail e (.Slice lo hi none p2) v (.ref s3.heap.objs.size)) (EP X pins σ Q) X.xe { s3 with heap := s3.heap.push { cls := .type "slice", data := .fields #[vl, vu, .none] } }
  exact tail_any (ops := [.ref s3.heap.objs.size, v]) ht hT hg (by with_unfolding_all rfl)

/-- the items of xs[lo:hi] -/
def cutV (xs : List V) (lo hi : Option Int) : List V := (xs.drop (HT.sIx xs.length 0 lo)).take (HT.sIx xs.length xs.length hi - HT.sIx xs.length 0 lo)
theorem cutV_length (xs : List V) (lo hi : Option Int) : (cutV xs lo hi).length ≤ xs.length := by
  unfold cutV
  rw [List.length_take, List.length_drop]
  omega
/-- t[lo:hi], not the whole of it (the whole would be t itself) -/
def rSlT (K : PySem.W.Frag) : V → Option Int → Option Int → Hp → VK → Prop := fun x lo hi H Q => ∃ a xs, x = .ref a ∧ SqT K H a xs ∧
  ¬ (HT.sIx xs.length 0 lo = 0 ∧ HT.sIx xs.length xs.length hi = xs.length) ∧ ∀ p, H p = none → Q (.ref p) (upd H p (.tup (cutV xs lo hi)))
/-! ### t < u, t + u -/
def rLtT (K : PySem.W.Frag) : R2 := fun x y H Q => ∃ a b ns ms, x = .ref a ∧ y = .ref b ∧ SqT K H a (ns.map V.int) ∧ SqT K H b (ms.map V.int) ∧ Q (.bl (HT.lexLt ns ms)) H
/-- t + u, t not empty: u empty gives t itself -/
def rCatT (K : PySem.W.Frag) : R2 := fun x y H Q => ∃ a b xs ys, x = .ref a ∧ y = .ref b ∧ SqT K H a xs ∧ SqT K H b ys ∧ xs ≠ [] ∧ xs.length + ys.length ≤ sizeLine ∧
  (ys = [] → Q (.ref a) H) ∧ (ys ≠ [] → ∀ p, H p = none → Q (.ref p) (upd H p (.tup (xs ++ ys))))
end
end L2

namespace L2
open PySem PySem.Spec PyProof.Rows

/-! ### places -/
/-- the place that an index of any sign means -/
def ixN (n : Nat) (i : Int) : Option Nat := if 0 ≤ i then (if i < n then some i.toNat else none) else if -(n : Int) ≤ i then some (i + n).toNat else none
def atI {α : Type} (xs : List α) (i : Int) : Option α := (ixN xs.length i).bind fun j => xs[j]?
theorem ixN_seq {n : Nat} {i : Int} {j : Nat} (h : ixN n i = some j) : seqIndex? i n = some j ∧ j < n ∧ -(n : Int) ≤ i ∧ i < n := by
  unfold ixN at h
  by_cases h0 : 0 ≤ i
  · rw [if_pos h0] at h
    by_cases h1 : i < n
    · rw [if_pos h1] at h
      have e : i.toNat = j := Option.some.inj h
      exact ⟨by rw [seqIndex_of h0 h1, e], by omega, by omega, h1⟩
    · rw [if_neg h1] at h; cases h
  · rw [if_neg h0] at h
    by_cases h1 : -(n : Int) ≤ i
    · rw [if_pos h1] at h
      have e : (i + n).toNat = j := Option.some.inj h
      exact ⟨by rw [seqIndex_neg (by omega) h1, e], by omega, h1, by omega⟩
    · rw [if_neg h1] at h; cases h
theorem atI_get {α : Type} {xs : List α} {i : Int} {v : α} (h : atI xs i = some v) : ∃ j, seqIndex? i xs.length = some j ∧ xs[j]? = some v ∧ j < xs.length ∧ -(xs.length : Int) ≤ i ∧ i < xs.length := by
  unfold atI at h
  cases e : ixN xs.length i with
  | none => rw [e] at h; cases h
  | some j =>
    rw [e] at h
    obtain ⟨h1, h2, h3, h4⟩ := ixN_seq e
    exact ⟨j, h1, h, h2, h3, h4⟩
theorem atI_nat {α : Type} {xs : List α} {j : Nat} {v : α} (h : xs[j]? = some v) : atI xs (j : Int) = some v := by
  have hj : j < xs.length := (List.getElem?_eq_some_iff.mp h).1
  have e : ixN xs.length (j : Int) = some j := by
    unfold ixN
    rw [if_pos (by omega), if_pos (by omega)]; simp
  unfold atI; rw [e]; exact h
/-! ### what may be subscripted -/
/-- what stands as an index of a plain subscript -/
def PlainIx (b : Expr) : Prop := ∀ o i, subscripted b false o i = operate [o, i] (getItem o i)
/-- a subscript by values -/
def IxR (X : Cx) (r : R2) : Prop :=
  ∀ (value slice : Expr) (pins : List (Addr × Obj)) (s : Shared) (σ : St) (H : Hp) (x y : V) (v u : Value) (Q : VK), Inv X pins σ H s → RelV x v → RelV y u → r x y H Q →
    subscripted slice false v u = operate [v, u] (getItem v u) → wpAny (model X.prog X.w) X.A (subscriptTail value slice v u) (EP X pins σ Q) X.xe s
/-- a call of a builtin's method by values: the receiver, the arguments -/
def MtR (X : Cx) (id : String) (r : V → List V → Hp → VK → Prop) : Prop :=
  ∀ (pins : List (Addr × Obj)) (s : Shared) (σ : St) (H : Hp) (x : V) (xs : List V) (v : Value) (us : List Value) (Q : VK), Inv X pins σ H s → RelV x v → Vals xs us → r x xs H Q →
    wpAny (model X.prog X.w) X.A (call (.builtin id) (v :: us)) (EP X pins σ Q) X.xe s
section
variable {X : Cx} {a b : Expr} {ta tb : TE} {pos : Pos}
theorem IxR.or {r r' : R2} (h : IxR X r) (h' : IxR X r') : IxR X (fun x y H Q => r x y H Q ∨ r' x y H Q) := by
  intro value slice pins s σ H x y v u Q I rx ry q hs
  rcases q with q | q
  · exact h value slice pins s σ H x y v u Q I rx ry q hs
  · exact h' value slice pins s σ H x y v u Q I rx ry q hs
theorem MtR.or {id : String} {r r' : V → List V → Hp → VK → Prop} (h : MtR X id r) (h' : MtR X id r') : MtR X id (fun x xs H Q => r x xs H Q ∨ r' x xs H Q) := by
  intro pins s σ H x xs v us Q I rx rs q
  rcases q with q | q
  · exact h pins s σ H x xs v us Q I rx rs q
  · exact h' pins s σ H x xs v us Q I rx rs q
/-- a[b] -/
theorem pe_ix {r : R2} (hr : IxR X r) (ha : PE X a ta) (hb : PE X b tb) (hs : PlainIx b) : PE X (.Subscript a b pos) (tOp r ta tb) := by
  intro pins s σ H Q I h
  exact Subscript_ (binT ha hb I h fun v u s2 x y H2 I2 rx ry q => hr a b pins s2 σ H2 x y v u Q I2 rx ry q (hs _ _))

def rIxL (K : PySem.W.Frag) : R2 := fun x y H Q => ∃ p xs i v, x = .ref p ∧ y = .int i ∧ SqL K H p xs ∧ atI xs i = some v ∧ Q v H
def rIxT (K : PySem.W.Frag) : R2 := fun x y H Q => ∃ p xs i v, x = .ref p ∧ y = .int i ∧ SqT K H p xs ∧ atI xs i = some v ∧ Q v H
def rIxS : R2 := fun x y H Q => ∃ z i c, x = .str z ∧ y = .int i ∧ z.length ≤ sizeLine ∧ atI z.cps.toList i = some c ∧ Q (.str ⟨#[c]⟩) H
theorem ix_list : IxR X (rIxL X.K) := by
  intro value slice pins s σ H x y v u Q I rx ry h hs
  obtain ⟨p, xs, i, z, rfl, rfl, hq, he, q⟩ := h
  cases rx
  obtain ⟨t, rfl⟩ := ry
  obtain ⟨its, r, pl, hz⟩ := I.list hq
  obtain ⟨j, h1, h2, h3, h4, h5⟩ := atI_get he
  obtain ⟨w, ew, rw'⟩ := r.get h2
  have hl := r.length
  have hn := line63
  have fin : EP X pins σ Q w s := ⟨z, H, I, rw', q⟩
  by_cases h0 : 0 ≤ i
  · have hj : i.toNat = j := by
      rw [seqIndex_of h0 h5] at h1
      exact Option.some.inj h1
    exact item_listR pl.isList h0 (by omega) (by rw [hj]; simpa using ew) fin hs
  · have hj : (i + (its.toArray.size : Int)).toNat = j := by
      rw [seqIndex_neg (by omega) h4] at h1
      rw [List.size_toArray, ← hl]
      exact Option.some.inj h1
    exact subscriptTail_builtinR (x := w) pl.isList.typeIs slot_list_getitem.lookup
      (wpAny_getItem_list_neg (Q := fun r s' => r = w ∧ EP X pins σ Q r s') pl.isList (by omega) (by rw [List.size_toArray] <;> omega) (by omega) (by rw [hj]; simpa using ew) ⟨rfl, fin⟩) hs
theorem ix_tup : IxR X (rIxT X.K) := by
  intro value slice pins s σ H x y v u Q I rx ry h hs
  obtain ⟨p, xs, i, z, rfl, rfl, hq, he, q⟩ := h
  cases rx
  obtain ⟨t, rfl⟩ := ry
  obtain ⟨its, r, pl, hz⟩ := I.tuple hq
  obtain ⟨j, h1, h2, h3, h4, h5⟩ := atI_get he
  obtain ⟨w, ew, rw'⟩ := r.get h2
  have hl := r.length
  have hn := line63
  have fin : EP X pins σ Q w s := ⟨z, H, I, rw', q⟩
  exact subscriptTail_builtinR (x := w) pl.typeIs slot_tuple_getitem.lookup
    (getItem_tuple (j := j) (Q := fun r s' => r = w ∧ EP X pins σ Q r s') pl (by omega) (by omega) (by rw [List.size_toArray, ← hl]; exact h1) (by simpa using ew) ⟨rfl, fin⟩) hs
theorem ix_str : IxR X rIxS := by
  intro value slice pins s σ H x y v u Q I rx ry h hs
  obtain ⟨z, i, c, rfl, rfl, hz, he, q⟩ := h
  obtain ⟨t, rfl⟩ := rx
  obtain ⟨t', rfl⟩ := ry
  obtain ⟨j, h1, h2, h3, h4, h5⟩ := atI_get he
  have hl : z.cps.toList.length = z.length := by simp [Str.length]
  rw [hl] at h1 h4 h5
  have hn := line63
  exact tail_any (typeIs_str s z t) slot_str_getitem.lookup (getItem_str (c := c) (by
    have e1 : decide (i < -(2 ^ 63 : Int)) = false := decide_eq_false (by omega)
    have e2 : decide (i ≥ 2 ^ 63) = false := decide_eq_false (by omega)
    rw [e1, e2, Bool.or_false]) (by rw [h1]; simpa using h2) ⟨.str ⟨#[c]⟩, H, I.tok _, ⟨_, rfl⟩, q⟩) hs
/-- list, tuple or str -/
def rIx (K : PySem.W.Frag) : R2 := fun x y H Q => rIxL K x y H Q ∨ rIxT K x y H Q ∨ rIxS x y H Q
/-! ### xs[i] = v, any sign -/
/-- the list's object behind a store -/
theorem mapSeq_set (its : List Value) (n j : Nat) (u : Value) : Obj.mapSeq (·.setIfInBounds j u) { cls := .type "list", data := .seq its.toArray n } = { cls := .type "list", data := .seq (its.set j u).toArray n } := by
  simp [Obj.mapSeq]
theorem Inv.lst {pins : List (Addr × Obj)} {σ : St} {H : Hp} {s : Shared} {p : Addr} {xs : List V} (I : Inv X pins σ H s) (h : H p = some (.lst xs)) :
    ∃ (its : List Value) (n : Nat), Vals xs its ∧ s.heap.get? p = some { cls := .type "list", data := .seq its.toArray n } ∧ xs.length ≤ sizeLine := by
  obtain ⟨z, its, n, r, e⟩ := I.hok p _ h
  exact ⟨its, n, r, e, z⟩
/-- the list at p is written by an update of its object -/
theorem Inv.lstUpd {pins : List (Addr × Obj)} {σ : St} {H : Hp} {s : Shared} {p : Addr} {xs ys : List V} {its its' : List Value} {n n' : Nat} {f : Obj → Obj} (I : Inv X pins σ H s) (h : H p = some (.lst xs))
    (ho : s.heap.get? p = some { cls := .type "list", data := .seq its.toArray n }) (hf : f { cls := .type "list", data := .seq its.toArray n } = { cls := .type "list", data := .seq its'.toArray n' }) (r : Vals ys its') (hz : ys.length ≤ sizeLine) (t : Nat) :
    Inv X pins σ (upd H p (.lst ys)) { s with heap := s.heap.update p f, toks := t } := by
  have e : (s.heap.update p f).get? p = some { cls := .type "list", data := .seq its'.toArray n' } := by
    rw [Heap.get?_update_self f ho (by rw [hf] <;> rfl), hf]
  refine I.write (x := p) (e := p) (by rw [h]; trivial) (.inl rfl) (fun b u hb q => (Heap.get?_update_other _ _ (Ne.symm hb)).trans q) ⟨_, e⟩ ?_
  exact ⟨hz, its', n', r, e⟩
def rSetL : V → V → V → Hp → (Hp → Prop) → Prop := fun o i v H Q => ∃ p xs k j, o = .ref p ∧ i = .int k ∧ H p = some (.lst xs) ∧ ixN xs.length k = some j ∧ Q (upd H p (.lst (xs.set j v)))
theorem set_list : PSet X rSetL := by
  intro pins s σ H o i v ov iv u Q I ro ri rv h
  obtain ⟨p, xs, k, j, rfl, rfl, hp, hj, q⟩ := h
  cases ro
  obtain ⟨t, rfl⟩ := ri
  obtain ⟨its, n, r, ho, hz⟩ := I.lst hp
  obtain ⟨h1, h2, h3, h4⟩ := ixN_seq hj
  have hl := r.length
  have hn := line63
  have I' : Inv X pins σ (upd H p (.lst (xs.set j v))) { s with heap := s.heap.update p (Obj.mapSeq (·.setIfInBounds j u)) } :=
    I.lstUpd hp ho (mapSeq_set its n j u) (r.set rv j) (by rw [List.length_set]; exact hz) s.toks
  by_cases h0 : 0 ≤ k
  · have hk : k.toNat = j := by
      rw [seqIndex_of h0 h4] at h1
      exact Option.some.inj h1
    exact PySem.W.ki_setAt ho h0 (by omega) (by rw [List.size_toArray, ← hl]; exact h4) (by rw [hk]; exact ⟨_, I', q⟩)
  · have hk : (k + (its.toArray.size : Int)).toNat = j := by
      rw [seqIndex_neg (by omega) h3] at h1
      rw [List.size_toArray, ← hl]
      exact Option.some.inj h1
    exact PySem.W.ki_setBack ho (by omega) (by rw [List.size_toArray, ← hl]; exact h3) (by omega) (by rw [hk]; exact ⟨_, I', q⟩)

/-! ### slices -/
theorem slice_bounds (lo hi : Option Int) (n : Nat) : (sliceBounds lo hi none n).1 = ((HT.sIx n 0 lo : Nat) : Int) ∧ (sliceBounds lo hi none n).2.1 = ((HT.sIx n n hi : Nat) : Int) ∧ (sliceBounds lo hi none n).2.2 = 1 := by
  refine ⟨?_, ?_, rfl⟩
  · cases lo with
    | none => simp [sliceBounds, HT.sIx]
    | some i =>
      simp only [sliceBounds, HT.sIx, Option.getD_none, show (1 : Int) > 0 by decide, if_true]
      by_cases h : i < 0
      · simp only [h, if_true] <;> omega
      · simp only [h, if_false] <;> omega
  · cases hi with
    | none => simp [sliceBounds, HT.sIx]
    | some i =>
      simp only [sliceBounds, HT.sIx, Option.getD_none, show (1 : Int) > 0 by decide, if_true]
      by_cases h : i < 0
      · simp only [h, if_true] <;> omega
      · simp only [h, if_false] <;> omega
theorem slicePick_cut (its : List Value) (lo hi : Option Int) : slicePick its.toArray lo hi none = ((its.drop (HT.sIx its.length 0 lo)).take (HT.sIx its.length its.length hi - HT.sIx its.length 0 lo)).toArray := by
  obtain ⟨h1, h2, h3⟩ := slice_bounds lo hi its.toArray.size
  unfold slicePick
  rw [h1, h2, h3]
  simp only [sliceRange_one, pick_run, List.size_toArray] <;> rfl
/-- xs[lo:hi] of a list: a new list -/
def rSlL (K : PySem.W.Frag) : V → Option Int → Option Int → Hp → VK → Prop := fun x lo hi H Q => ∃ a xs, x = .ref a ∧ SqL K H a xs ∧ ∀ p, H p = none → Q (.ref p) (upd H p (.lst (cutV xs lo hi)))
theorem sl_list : SlR X (rSlL X.K) := by
  intro pins s σ H x v vl vu lo hi sl Q I rx hs pl pu h
  obtain ⟨a, xs, rfl, hx, q⟩ := h
  cases rx
  obtain ⟨its, r, ht, hz⟩ := I.list hx
  have hlen := r.length
  refine ⟨"list", _, slot_list_getitem.lookup, ht.isList.typeIs, ?_⟩
  refine wpAny_getItem_list_slice ht.isList hs pl pu .none (by simp) ?_ (by rw [List.size_toArray] <;> omega)
  rw [slicePick_cut, ← hlen]
  refine ⟨.ref s.heap.objs.size, _, I.laid (t' := s.toks) (o := .lst (cutV xs lo hi)) (fun b ob q => Heap.get?_push_of_some _ q) (Nat.le_refl _) ?_, rfl, q _ (I.hok.fresh (Nat.le_refl _))⟩
  exact ⟨Nat.le_trans (cutV_length xs lo hi) hz, _, 0, (r.drop (HT.sIx xs.length 0 lo)).take (HT.sIx xs.length xs.length hi - HT.sIx xs.length 0 lo), Heap.get?_push_size _ rfl⟩

/-! ### in, not in: flat items -/
def flatV : V → Bool
  | .non => true
  | .bl _ => true
  | .int _ => true
  | .str _ => true
  | _ => false
/-- == of flat values -/
def eqV : V → V → Bool
  | .non, .non => true
  | .bl a, .bl b => a == b
  | .bl a, .int b => (if a then 1 else 0) == b
  | .int a, .bl b => a == (if b then 1 else 0)
  | .int a, .int b => a == b
  | .str a, .str b => a == b
  | _, _ => false
theorem eqAt_V {A : Around} {s : Shared} {y x : V} {u v : Value} (ry : RelV y u) (rx : RelV x v) (fy : flatV y = true) (fx : flatV x = true) : SeqAt.EqAt A s u v (eqV y x) := by
  cases y with
  | non =>
    cases ry
    cases x with
    | non => cases rx; exact SeqAt.EqAt.same _
    | bl b => cases rx; exact SeqAt.EqAt.none_bool b
    | int b => obtain ⟨t, rfl⟩ := rx; exact SeqAt.EqAt.none_int b t
    | str b => obtain ⟨t, rfl⟩ := rx; exact SeqAt.EqAt.none_str b t
    | _ => exact absurd (show false = true from fx) Bool.false_ne_true
  | bl a =>
    cases ry
    cases x with
    | non => cases rx; exact SeqAt.EqAt.bool_none a
    | bl b => cases rx; exact SeqAt.EqAt.bool_bool a b
    | int b => obtain ⟨t, rfl⟩ := rx; exact SeqAt.EqAt.bool_int a b t
    | str b => obtain ⟨t, rfl⟩ := rx; exact SeqAt.EqAt.bool_str a b t
    | _ => exact absurd (show false = true from fx) Bool.false_ne_true
  | int a =>
    obtain ⟨t', rfl⟩ := ry
    cases x with
    | non => cases rx; exact SeqAt.EqAt.int_none a t'
    | bl b => cases rx; exact SeqAt.EqAt.int_bool a t' b
    | int b => obtain ⟨t, rfl⟩ := rx; exact SeqAt.EqAt.int_int a t' b t
    | str b => obtain ⟨t, rfl⟩ := rx; exact SeqAt.EqAt.int_str a t' b t
    | _ => exact absurd (show false = true from fx) Bool.false_ne_true
  | str a =>
    obtain ⟨t', rfl⟩ := ry
    cases x with
    | non => cases rx; exact SeqAt.EqAt.str_none a t'
    | bl b => cases rx; exact SeqAt.EqAt.str_bool a t' b
    | int b => obtain ⟨t, rfl⟩ := rx; exact SeqAt.EqAt.str_int a t' b t
    | str b => obtain ⟨t, rfl⟩ := rx; exact SeqAt.EqAt.str_str a t' b t
    | _ => exact absurd (show false = true from fx) Bool.false_ne_true
  | _ => exact absurd (show false = true from fy) Bool.false_ne_true
/-- the items' answers, read off the values (a value's own answer does not lean on its token) -/
def eqU (x : V) (u : Value) : Bool := match u with
  | .none => eqV .non x
  | .bool b => eqV (.bl b) x
  | .int i _ => eqV (.int i) x
  | .str z _ => eqV (.str z) x
  | _ => false
def inV (x : V) (xs : List V) : Bool := xs.any fun y => eqV y x
/-- x in a list or tuple of flat items -/
def rIn (K : PySem.W.Frag) (neg : Bool) : R2 := fun x y H Q => ∃ p xs, y = .ref p ∧ (SqL K H p xs ∨ SqT K H p xs) ∧ flatV x = true ∧ xs.all flatV = true ∧ Q (.bl (if neg then !inV x xs else inV x xs)) H
/-! ### len, list(x), tuple(x) of any list or tuple that is read -/
theorem call_len_seq : CallR X (.builtin "len") (fun xs H Q => ∃ p ys, xs = [.ref p] ∧ (SqL X.K H p ys ∨ SqT X.K H p ys) ∧ Q (.int ys.length) H) := by
  intro pins s σ H xs us Q I r h
  obtain ⟨p, ys, rfl, hq, q⟩ := h
  obtain ⟨u, rfl, rx⟩ := vals1 r
  cases rx
  have hn := line63
  rcases hq with hq | hq
  · obtain ⟨its, r', pl, hz⟩ := I.list hq
    have hlen := r'.length
    exact Calls.call_len_list pl.isList (by simp only [List.size_toArray] <;> omega) ⟨.int ys.length, H, I.tok _, ⟨s.toks + 1, by rw [List.size_toArray, hlen]⟩, q⟩
  · obtain ⟨its, r', pl, hz⟩ := I.tuple hq
    have hlen := r'.length
    exact len_tuple pl (by simp only [List.size_toArray] <;> omega) ⟨.int ys.length, H, I.tok _, ⟨s.toks + 1, by rw [List.size_toArray, hlen]⟩, q⟩
theorem CallR.or {f : Value} {r r' : List V → Hp → VK → Prop} (h : CallR X f r) (h' : CallR X f r') : CallR X f (fun xs H Q => r xs H Q ∨ r' xs H Q) := by
  intro pins s σ H xs us Q I rs q
  rcases q with q | q
  · exact h pins s σ H xs us Q I rs q
  · exact h' pins s σ H xs us Q I rs q
theorem call_list_of : CallR X (.type "list") (fun xs H Q => ∃ p ys, xs = [.ref p] ∧ (SqL X.K H p ys ∨ SqT X.K H p ys) ∧ ∀ l, H l = none → Q (.ref l) (upd H l (.lst ys))) := by
  intro pins s σ H xs us Q I r h
  obtain ⟨p, ys, rfl, hq, q⟩ := h
  obtain ⟨u, rfl, rx⟩ := vals1 r
  cases rx
  have fin : ∀ (its : List Value), Vals ys its → ys.length ≤ sizeLine → ∀ (h' : Heap) (c' : Nat), (∀ b o', s.heap.get? b = some o' → h'.get? b = some o') →
      h'.get? s.heap.objs.size = some { cls := .type "list", dict := none, data := .seq its.toArray c', slots := #[] } → EP X pins σ Q (.ref s.heap.objs.size) { s with heap := h' } := fun its r' hz h' c' kp e =>
    ⟨.ref s.heap.objs.size, _, I.laid (t' := s.toks) kp (Nat.le_refl _) (show ObjOk X.prog X.w _ h' _ (.lst ys) from ⟨hz, its, c', r', e⟩), rfl, q _ (I.hok.fresh (Nat.le_refl _))⟩
  rcases hq with hq | hq
  · obtain ⟨its, r', pl, hz⟩ := I.list hq
    have hlen := r'.length
    obtain ⟨o, ho, hc, n, hd⟩ := pl.isList
    exact call_list_seq p (.inl rfl) ho hc hd (fun h' c' kp e => fin its r' hz h' c' kp e) (by simp only [List.size_toArray] <;> omega)
  · obtain ⟨its, r', pl, hz⟩ := I.tuple hq
    have hlen := r'.length
    obtain ⟨o, ho, hc, n, hd⟩ := pl
    exact call_list_seq p (.inr rfl) ho hc hd (fun h' c' kp e => fin its r' hz h' c' kp e) (by simp only [List.size_toArray] <;> omega)
theorem call_tuple_of : CallR X (.type "tuple") (fun xs H Q => ∃ p ys, xs = [.ref p] ∧ ((SqL X.K H p ys ∧ ∀ l, H l = none → Q (.ref l) (upd H l (.tup ys))) ∨ (SqT X.K H p ys ∧ Q (.ref p) H))) := by
  intro pins s σ H xs us Q I r h
  obtain ⟨p, ys, rfl, h⟩ := h
  obtain ⟨u, rfl, rx⟩ := vals1 r
  cases rx
  rcases h with ⟨hq, q⟩ | ⟨hq, q⟩
  · obtain ⟨its, r', pl, hz⟩ := I.list hq
    have hlen := r'.length
    refine call_tuple_list pl.isList (fun h' kp => ?_) (by simp only [List.size_toArray] <;> omega)
    have I1 : Inv X pins σ H { s with heap := h' } := I.kept (t' := s.toks) kp
    have I2 : Inv X pins σ (upd H h'.objs.size (.tup ys)) { s with heap := h'.push { cls := .type "tuple", data := .seq its.toArray } } :=
      I1.laid (t' := s.toks) (fun b o e => Heap.get?_push_of_some _ e) (Nat.le_refl _) (show ObjOk X.prog X.w _ _ _ (.tup ys) from ⟨hz, its, r', IsTup.new _ _⟩)
    exact ⟨.ref h'.objs.size, _, I2, rfl, q _ (I1.hok.fresh (Nat.le_refl _))⟩
  · obtain ⟨its, r', pl, hz⟩ := I.tuple hq
    exact call_tuple_same pl ⟨.ref p, H, I, rfl, q⟩

/-! ### the call of a builtin's method: o.m(..) -/
/-- the value is of that builtin type -/
def tyV (K : PySem.W.Frag) (T : String) (x : V) (H : Hp) : Prop := match x with
  | .str _ => T = "str"
  | .int _ => T = "int"
  | .ref p => (T = "list" ∧ ∃ xs, SqL K H p xs) ∨ (T = "tuple" ∧ ∃ o, K.lookup p = some o ∧ o.cls = .type "tuple" ∧ o.dict = none) ∨
      (T = "dict" ∧ ((∃ kvs, H p = some (.dK kvs)) ∨ ∃ kvs, H p = some (.dT kvs))) ∨ (T = "set" ∧ ∃ S n, H p = some (.set S n))
  | _ => False
theorem tyV_is {pins : List (Addr × Obj)} {σ : St} {H : Hp} {s : Shared} {T : String} {x : V} {v : Value} (I : Inv X pins σ H s) (r : RelV x v) (ty : tyV X.K T x H) :
    s.TypeIs v T ∧ ∀ a, v = .ref a → ∃ ob, s.heap.get? a = some ob ∧ ob.dict = none := by
  cases x with
  | str z =>
    obtain ⟨t, rfl⟩ := r
    cases (show T = "str" from ty)
    exact ⟨typeIs_str s z t, fun _ e => nomatch e⟩
  | int i =>
    obtain ⟨t, rfl⟩ := r
    cases (show T = "int" from ty)
    exact ⟨typeIs_int s i t, fun _ e => nomatch e⟩
  | ref p =>
    cases r
    rcases ty with ⟨rfl, xs, hq⟩ | ⟨rfl, o, hk, hc, hd⟩ | ⟨rfl, hk⟩ | ⟨rfl, S, n, hk⟩
    · obtain ⟨its, _, pl, _⟩ := I.list hq
      refine ⟨pl.isList.typeIs, fun a e => ?_⟩
      cases e
      obtain ⟨o, n, e, c, hd, _⟩ := pl
      exact ⟨o, e, hd⟩
    · refine ⟨⟨o, I.kIn p o hk, hc⟩, fun a e => ?_⟩
      cases e
      exact ⟨o, I.kIn _ o hk, hd⟩
    · have z : ∃ o, s.heap.get? p = some o ∧ o.ExactDict := by
        rcases hk with ⟨kvs, hk⟩ | ⟨kvs, hk⟩
        · obtain ⟨_, _, _, _, o, _, _, e, ex, _⟩ := I.hok p _ hk
          exact ⟨o, e, ex⟩
        · obtain ⟨_, _, _, _, o, _, _, e, ex, _⟩ := I.hok p _ hk
          exact ⟨o, e, ex⟩
      obtain ⟨o, e, ex⟩ := z
      refine ⟨⟨o, e, ex.1⟩, fun a e2 => ?_⟩
      cases e2
      exact ⟨o, e, ex.2.1⟩
    · obtain ⟨o, _, _, _, e, ex, _⟩ := I.hok p _ hk
      refine ⟨⟨o, e, ex.1⟩, fun a e2 => ?_⟩
      cases e2
      exact ⟨o, e, ex.2.1⟩
  | _ => exact False.elim ty
def tBM0 (K : PySem.W.Frag) (T : String) (r : V → List V → Hp → VK → Prop) (to : TE) : TE := fun σ H Q => to σ H fun x H1 => tyV K T x H1 ∧ r x [] H1 Q
def tBM (K : PySem.W.Frag) (T : String) (r : V → List V → Hp → VK → Prop) (to : TE) (t : TA) : TE := fun σ H Q => to σ H fun x H1 => tyV K T x H1 ∧ t σ H1 fun xs H2 => r x xs H2 Q
variable {o e : Expr} {es : List Expr} {to : TE} {t : TA} {name : Str} {apos cpos : Pos} {T id : String} {r : V → List V → Hp → VK → Prop}
theorem pe_bm0 (pa : PlainAttrs T) (slot : Slot T name id) (hty : typeOf (.builtin id) = pure (.type "method_descriptor")) (hm : MtR X id r) (ho : PE X o to)
    (hbase : attributeBase o name X.env (eval o X.env) = eval o X.env := by rfl) (hline : (apos.endLine == cpos.line) = true := by rfl) : PE X (.Call (.Attribute o name apos) [] [] cpos) (tBM0 X.K T r to) := by
  intro pins s σ H Q I h
  refine wpAny_Call_method0_late hbase hline (thn (ho pins s σ H _ I h) fun v s1 ⟨x, H1, I1, r1, ty, q1⟩ => ?_)
  obtain ⟨h1, h2⟩ := tyV_is I1 r1 ty
  exact ⟨T, id, pa, slot, hty, h1, h2, Calls.callWith_builtin rfl (PySem.evalArgs_none (hm pins s1 σ H1 x [] v [] Q I1 r1 .nil q1))⟩
theorem pe_bm (pa : PlainAttrs T) (slot : Slot T name id) (hty : typeOf (.builtin id) = pure (.type "method_descriptor")) (hm : MtR X id r) (ho : PE X o to) (ha : PA X (e :: es) t)
    (hbase : attributeBase o name X.env (eval o X.env) = eval o X.env := by rfl)
    (hfew : ((backTo cpos (starEach (e :: es) X.env)).all (fun x => !x.1) && (backToKw cpos (keywordEach [] X.env)).all (fun x => x.1.isSome)
      && decide ((e :: es).length + ([] : List Keyword).length + (if ([] : List Keyword).isEmpty then 0 else 1) < 30)) = true := by rfl)
    (hline : (apos.endLine == cpos.line) = true := by rfl) (hs : starEach (e :: es) X.env = (false, eval e X.env) :: starEach es X.env := by rfl) (hplain : (backTo cpos (starEach es X.env)).any (·.1) = false := by rfl) :
    PE X (.Call (.Attribute o name apos) (e :: es) [] cpos) (tBM X.K T r to t) := by
  intro pins s σ H Q I h
  refine wpAny_Call_method_late hbase hfew hline rfl (thn (ho pins s σ H _ I h) fun v s1 ⟨x, H1, I1, r1, ty, q1⟩ => ?_)
  obtain ⟨h1, h2⟩ := tyV_is I1 r1 ty
  refine ⟨T, id, pa, slot, hty, h1, h2, ?_⟩
  have hA := ha cpos pins s1 σ H1 _ I1 q1
  rw [hs] at hA ⊢
  refine Calls.callWith_builtin (by show (false || (backTo cpos (starEach es X.env)).any (·.1)) = false; rw [hplain] <;> rfl) (Calls.evalArgs_plain ?_)
  exact thn hA fun us s2 ⟨vs, H2, I2, r2, q2⟩ => hm pins s2 σ H2 x vs v us Q I2 r1 r2 q2
/- xs.append(e), list.index on a module's tuple .. are MtR facts of 06m -/
end
end L2

namespace L2
open PySem PySem.Spec PyProof.Rows

def MtM (X : Cx) (id : String) (r : V → List V → Hp → VK → Prop) : Prop :=
  ∀ (pins : List (Addr × Obj)) (s : Shared) (σ : St) (H : Hp) (x : V) (xs : List V) (v : Value) (us : List Value) (Q : VK), Inv X pins σ H s → RelV x v → Vals xs us → r x xs H Q →
    wpAny (model X.prog X.w) X.A (call (.builtin id) (v :: us)) (EP X pins σ Q) X.xe s

/-! ### lists of values -/
theorem Vals.one : ∀ {x : V} {us : List Value}, Vals [x] us → ∃ u, us = [u] ∧ RelV x u
  | _, _, .cons r .nil => ⟨_, rfl, r⟩
theorem Vals.two : ∀ {x y : V} {us : List Value}, Vals [x, y] us → ∃ u v, us = [u, v] ∧ RelV x u ∧ RelV y v
  | _, _, _, .cons r (.cons q .nil) => ⟨_, _, rfl, r, q⟩
theorem Vals.zero : ∀ {us : List Value}, Vals [] us → us = []
  | _, .nil => rfl
theorem Vals.dropLast {xs : List V} {us : List Value} (h : Vals xs us) : Vals xs.dropLast us.dropLast := by
  induction h with
  | nil => exact .nil
  | cons r t ih =>
    cases t with
    | nil => exact .nil
    | cons q t' => exact .cons r ih
theorem Vals.eraseIdx : ∀ {xs : List V} {us : List Value} (i : Nat), Vals xs us → Vals (xs.eraseIdx i) (us.eraseIdx i)
  | _, _, _, .nil => .nil
  | _, _, 0, .cons _ t => t
  | _, _, i + 1, .cons r t => .cons r (Vals.eraseIdx i t)
theorem Vals.reverse {xs : List V} {us : List Value} (h : Vals xs us) : Vals xs.reverse us.reverse := by
  induction h with
  | nil => exact .nil
  | cons r t ih => rw [List.reverse_cons, List.reverse_cons]; exact Vals.append ih (.cons r .nil)
theorem Vals.rep {xs : List V} {us : List Value} (h : Vals xs us) : ∀ k : Nat, Vals (List.replicate k xs).flatten (List.replicate k us).flatten
  | 0 => .nil
  | k + 1 => by
    rw [List.replicate_succ, List.replicate_succ, List.flatten_cons, List.flatten_cons]
    exact Vals.append h (Vals.rep h k)
theorem foldl_rep (its : List Value) : ∀ (k : Nat) (acc : List Value),
    List.foldl (fun x1 x2 => x1 ++ x2) acc.toArray (List.replicate k its.toArray) = (acc ++ (List.replicate k its).flatten).toArray
  | 0, acc => by simp
  | k + 1, acc => by
    have e : acc.toArray ++ its.toArray = (acc ++ its).toArray := by simp
    have e2 : (acc ++ its) ++ (List.replicate k its).flatten = acc ++ (List.replicate (k + 1) its).flatten := by
      rw [List.replicate_succ, List.flatten_cons, List.append_assoc]
    rw [← e2, ← foldl_rep its k (acc ++ its), ← e, List.replicate_succ, List.foldl_cons]

section
variable {X : Cx} {pins : List (Addr × Obj)} {σ : St} {H : Hp} {s : Shared} {l b : Addr} {xs ys zs : List V}

/-! ### the two steps: a tracked list is rewritten, a new list is laid -/
theorem Inv.lset {its its' : List Value} {n : Nat} {f : Array Value → Array Value} {t' : Nat} (I : Inv X pins σ H s) (hH : H l = some (.lst xs))
    (e : s.heap.get? l = some { cls := .type "list", data := .seq its.toArray n }) (hf : f its.toArray = its'.toArray) (hv : Vals ys its') (hz : ys.length ≤ sizeLine) :
    Inv X pins σ (upd H l (.lst ys)) { s with heap := s.heap.update l (Obj.mapSeq f), toks := t' } := by
  have q := PySem.IsL.update e f
  rw [hf] at q
  refine I.write (x := l) (e := l) (by rw [hH]; exact trivial) (.inl rfl) (fun b' u hb hu => (Heap.get?_update_other s.heap (Obj.mapSeq f) (Ne.symm hb)).trans hu) ⟨_, q⟩ ?_
  exact ⟨hz, its', _, hv, q⟩
theorem Inv.lnew {its : List Value} {t' : Nat} (I : Inv X pins σ H s) (hv : Vals ys its) (hz : ys.length ≤ sizeLine) :
    Inv X pins σ (upd H s.heap.objs.size (.lst ys)) { s with heap := s.heap.push { cls := .type "list", data := .seq its.toArray }, toks := t' } :=
  I.laid (fun _ _ q => Heap.get?_push_of_some _ q) (Nat.le_refl _) ⟨hz, its, 0, hv, Heap.get?_push_size _ rfl⟩
theorem Inv.fresh (I : Inv X pins σ H s) : H s.heap.objs.size = none := I.hok.fresh (Nat.le_refl _)
theorem Inv.lstM (I : Inv X pins σ H s) (hH : H l = some (.lst xs)) : xs.length ≤ sizeLine ∧ ∃ (its : List Value) (n : Nat), Vals xs its ∧ xs.length = its.length ∧ s.heap.get? l = some { cls := .type "list", data := .seq its.toArray n } := by
  obtain ⟨z, its, n, r, e⟩ := I.hok l _ hH
  exact ⟨z, its, n, r, r.length, e⟩

theorem notLongL {n : Nat} (h : n ≤ sizeLine) : Builtin.List.listTooLong n = false := by
  unfold Builtin.List.listTooLong
  exact decide_eq_false (by omega)
end

section
variable {X : Cx}

/-! ### methods -/
def rAppend : V → List V → Hp → VK → Prop := fun x vs H Q => ∃ l xs y, x = .ref l ∧ vs = [y] ∧ H l = some (.lst xs) ∧ xs.length < sizeLine ∧ Q .non (upd H l (.lst (xs ++ [y])))
theorem mt_append : MtM X "list.append" rAppend := by
  intro pins s σ H x vs v us Q I rx rv h
  obtain ⟨l, xs, y, rfl, rfl, hH, hz, q⟩ := h
  cases rx
  obtain ⟨u, rfl, ru⟩ := rv.one
  obtain ⟨z, its, n, r, hl, e⟩ := I.lstM hH
  refine call_meets F.slot_list_append ⟨_, e, rfl⟩ F.entry_list_append (F.args_list_append_2 _ _) (PySem.list_append l its.toArray n u (by rw [List.size_toArray]; omega)) ⟨e, ?_⟩
  refine ⟨.non, _, I.lset (its' := its ++ [u]) hH e (by simp) (r.append (.cons ru .nil)) ?_, rfl, q⟩
  rw [List.length_append, List.length_singleton]
  omega

def rExtend : V → List V → Hp → VK → Prop := fun x vs H Q => ∃ l b xs zs, x = .ref l ∧ vs = [.ref b] ∧ H l = some (.lst xs) ∧ H b = some (.lst zs) ∧ xs.length + zs.length ≤ sizeLine ∧ Q .non (upd H l (.lst (xs ++ zs)))
theorem mt_extend : MtM X "list.extend" rExtend := by
  intro pins s σ H x vs v us Q I rx rv h
  obtain ⟨l, b, xs, zs, rfl, rfl, hH, hB, hz, q⟩ := h
  cases rx
  obtain ⟨u, rfl, ru⟩ := rv.one
  cases ru
  obtain ⟨z, its, n, r, hl, e⟩ := I.lstM hH
  obtain ⟨z2, its2, n2, r2, hl2, e2⟩ := I.lstM hB
  have hsz : its.toArray.size + its2.toArray.size ≤ sizeLine := by rw [List.size_toArray, List.size_toArray]; omega
  have hlong : ¬ (!its.toArray.isEmpty && Builtin.List.listTooLong (its.toArray.size + its2.toArray.size)) = true := by
    rw [notLongL hsz, Bool.and_false]
    exact Bool.false_ne_true
  refine call_meets F.slot_list_extend ⟨_, e, rfl⟩ F.entry_list_extend (F.args_list_extend_2 _ _)
    (AutoSeq1.list_extend_list_list_0 l its.toArray n b its2.toArray n2 hlong (by rw [List.size_toArray]; omega) (by omega)) ⟨e, e2, ?_⟩
  refine ⟨.non, _, I.lset (its' := its ++ its2) hH e (by simp) (r.append r2) ?_, rfl, q⟩
  rw [List.length_append]
  omega

def rPop : V → List V → Hp → VK → Prop := fun x vs H Q => ∃ l xs y, x = .ref l ∧ vs = [] ∧ H l = some (.lst xs) ∧ xs[xs.length - 1]? = some y ∧ Q y (upd H l (.lst xs.dropLast))
def rPopAt : V → List V → Hp → VK → Prop := fun x vs H Q => ∃ l xs i k y, x = .ref l ∧ vs = [.int i] ∧ H l = some (.lst xs) ∧ -(2 ^ 63) ≤ i ∧ i < 2 ^ 63 ∧ seqIndex? i xs.length = some k ∧ xs[k]? = some y ∧ Q y (upd H l (.lst (xs.eraseIdx k)))
def rReverse : V → List V → Hp → VK → Prop := fun x vs H Q => ∃ l xs, x = .ref l ∧ vs = [] ∧ H l = some (.lst xs) ∧ Q .non (upd H l (.lst xs.reverse))
def rClear : V → List V → Hp → VK → Prop := fun x vs H Q => ∃ l xs, x = .ref l ∧ vs = [] ∧ H l = some (.lst xs) ∧ Q .non (upd H l (.lst []))
/-! ### list + list, list += list, list * int -/
def rCat : R2 := fun x y H Q => ∃ l b xs zs, x = .ref l ∧ y = .ref b ∧ H l = some (.lst xs) ∧ H b = some (.lst zs) ∧ xs.length + zs.length ≤ sizeLine ∧ ∀ p, H p = none → Q (.ref p) (upd H p (.lst (xs ++ zs)))
theorem op_cat : OpR X (binaryOp .Add) rCat := by
  intro pins s σ H x y v u Q I rx ry h
  obtain ⟨l, b, xs, zs, rfl, rfl, hH, hB, hz, q⟩ := h
  cases rx
  cases ry
  obtain ⟨z, its, n, r, hl, e⟩ := I.lstM hH
  obtain ⟨z2, its2, n2, r2, hl2, e2⟩ := I.lstM hB
  refine PySem.P.add_list e e2 ?_ (by rw [List.size_toArray, List.size_toArray]; omega)
  have ea : its.toArray ++ its2.toArray = (its ++ its2).toArray := by simp
  rw [ea]
  exact ⟨.ref _, _, I.lnew (t' := s.toks) (r.append r2) (by rw [List.length_append]; omega), rfl, q _ I.fresh⟩
/-- a list times an int (a negative one is nothing) -/
def rRep : R2 := fun x y H Q => ∃ l k xs, x = .ref l ∧ y = .int k ∧ H l = some (.lst xs) ∧ -(2 ^ 63) ≤ k ∧ k < 2 ^ 63 ∧ xs.length * k.toNat ≤ sizeLine ∧
  ∀ p, H p = none → Q (.ref p) (upd H p (.lst (List.replicate k.toNat xs).flatten))
theorem len_rep {α : Type} (xs : List α) (k : Nat) : (List.replicate k xs).flatten.length = k * xs.length := by
  induction k with
  | zero => simp
  | succ k ih => rw [List.replicate_succ, List.flatten_cons, List.length_append, ih, Nat.succ_mul, Nat.add_comm]
theorem op_rep : OpR X (binaryOp .Mult) rRep := by
  intro pins s σ H x y v u Q I rx ry h
  obtain ⟨l, k, xs, rfl, rfl, hH, h1, h2, hz, q⟩ := h
  cases rx
  obtain ⟨t, rfl⟩ := ry
  obtain ⟨z, its, n, r, hl, e⟩ := I.lstM hH
  have hlen : its.toArray.size * k.toNat ≤ sizeLine := by rw [List.size_toArray, ← hl]; exact hz
  have hcap : ¬ its.toArray.size * k.toNat > (2 ^ 63 - 1) / 8 := by
    have : (sizeLine : Nat) ≤ (2 ^ 63 - 1) / 8 := by decide
    omega
  have hfit : ¬ (!Builtin.List.listFitsIndex k) = true := by
    rw [fitsIndex_both h1 h2]
    exact Bool.false_ne_true
  have hlong : ¬ Builtin.List.listTooLong (its.toArray.size * k.toNat) = true := by
    rw [notLongL hlen]
    exact Bool.false_ne_true
  have hnew : List.foldl (fun x1 x2 => x1 ++ x2) #[] (List.replicate (if its.toArray.isEmpty = true then 0 else k.toNat) its.toArray) = (List.replicate k.toNat its).flatten.toArray := by
    have f0 : ∀ m : Nat, List.foldl (fun x1 x2 => x1 ++ x2) #[] (List.replicate m its.toArray) = (List.replicate m its).flatten.toArray := fun m => by
      have := foldl_rep its m []
      rw [List.nil_append] at this
      exact this
    rw [f0]
    cases its with
    | nil => simp
    | cons a r' => rw [if_neg (by simp)]
  refine wpAny_binaryOp_repeat_ref (T := "list") (U := "int") (by decide) ⟨_, e, rfl⟩ (fun s' => typeIs_int s' k t) noFill_list_mul F.fills_int_mul F.slot_int_rmul repeat_list F.slot_int_index.lookup
    (call_meets F.slot_int_rmul (typeIs_int s k t) F.entry_int_rmul (F.args_int_rmul_2 _ _) (int___rmul___int_list k t l its.toArray n)
      ⟨e, rfl, ⟨_, e, rfl⟩, call_meets F.slot_list_mul ⟨_, e, rfl⟩ F.entry_list_mul (F.args_list_mul_2 _ _) (AutoListH.list___mul___list_int_3 l its.toArray n k t hfit hcap hlong) ⟨e, ?_⟩⟩)
  rw [hnew]
  exact ⟨.ref _, _, I.lnew (t' := s.toks) (r.rep k.toNat) (by rw [len_rep, Nat.mul_comm]; exact hz), rfl, q _ I.fresh⟩

/-! ### del xs[i] -/
end

/-! ### xs[a:b] = ys -/
section
variable {prog : Program} {w : World} {A : Around} {E : Value → Shared → Prop} {s : Shared}
set_option maxRecDepth 100000 in
end

section
variable {X : Cx}
end
end L2

namespace Att
open PySem PySem.W PySem.Calls PyProof.Rows

/-! ### the script -/
theorem ints_of_wellAll {P : Params} {h : Heap} : ∀ (ns : List Int) (vs : List Value), WellAll P h vs (ns.map WData.int) → IntsAre vs ns := by
  intro ns
  induction ns with
  | nil =>
    intro vs w
    rw [List.map_nil] at w
    cases w
    exact .nil
  | cons n ns ih =>
    intro vs w
    rw [List.map_cons] at w
    cases w with
    | cons a b =>
      cases a
      exact .cons _ _ (ih _ b)

theorem script_of {l : OpenLaw} {n : Nat} (hn : l.most = some n) {P : Params} {h : Heap} {args : List WData} {vals : List Value}
    (hpre : l.row.toRowW.claim.pre args = true) (hwl : WellAll P h vals args) :
    ∃ a vs ns, vals = [Value.ref a] ∧ args = [WData.list (ns.map WData.int)] ∧ h.get? a = some { cls := .type "list", data := .seq vs.toArray } ∧ IntsAre vs ns ∧ ns.length ≤ n := by
  have hsh : WShape.hasAll [] args [.list .int] = true := (pre_splitW hpre).1
  have hc : l.pre.holds [] { args := args } = true := (pre_splitW hpre).2
  obtain ⟨d, r, rfl, h1, h2⟩ := hasAllW_cons hsh
  obtain rfl := hasAllW_nil h2
  obtain ⟨xs, rfl, h3⟩ := hasW_list h1
  obtain ⟨ns, rfl⟩ := items_int h3
  have hlen : ns.length ≤ n := by
    unfold OpenLaw.pre at hc
    have h4 : (WTm.not (.lt (.lit (.int (n : Int))) (.len (.arg 0)))).holds [] { args := [.list (ns.map .int)] } = true := by
      have h4 := (holds_andW hc).1
      rw [hn] at h4
      exact h4
    have h5 := condW_of h4 (w_not (w_lt w_lit (w_len_list (w_arg rfl))))
    rw [List.length_map] at h5
    refine Nat.le_of_not_lt fun q => ?_
    have q' : (n : Int) < ((ns.length : Nat) : Int) := by omega
    first
      | (rw [decide_eq_true q'] at h5; exact absurd h5 (by decide))
      | (simp at h5; omega)
  cases hwl with
  | cons w1 w2 =>
    cases w2
    cases w1 with
    | list ho hall => exact ⟨_, _, ns, rfl, rfl, ho, ints_of_wellAll ns _ hall, hlen⟩

theorem post_true (l : OpenLaw) (args : List WData) : l.row.toRowW.claim.post args (.bool true) args = true :=
  postW_of (r := l.row.toRowW) (X := (true == true))
    (show WShape.has [] (.bool true) .bool = true by first | rfl | decide | simp [WShape.has, WShape.arms, WShape.armsAll])
    (show (WTm.eq .res (.lit (.bool true))).value [] { args := args, res := some (.bool true), after := args } = some (.bool (true == true)) from w_eq_bool (w_res rfl) w_lit) rfl

/-! ### the attachment: holds_open's last premise (the goal 'hc' behind k_head) from a wpAny of the law's body -/
/-- the same from a codeAny of the CALL (for a layer whose function contracts speak of calls) -/
theorem attach_call {l : OpenLaw} {n : Nat} {q : Program} {loose : List Str} {XP : (Str → Option Value) → Heap → Prop} {YP : World → Heap → Prop} {d : DefRec}
    (hn : l.most = some n) (hdf : d.params.defaults = [])
    (call : ∀ (w : World) (s₀ s₁ : Shared) (mg mb : Str → Option Value) (fa : Addr) (o : Obj) (pm cd doc : Value) (a : Addr) (vs : List Value) (ns : List Int),
      Ground q loose [] XP w s₀ mg mb s₁.heap → YP w s₁.heap →
      s₁.heap.get? fa = some o → o.data = .func (docDef d.name d.params d.body d.scope pm cd doc) → s₁.heap.CodeRec cd d.name → mg d.name = some (.ref fa) →
      s₁.heap.get? a = some { cls := .type "list", data := .seq vs.toArray } → IntsAre vs ns → ns.length ≤ n → s₁.gens = #[] →
      codeAny (model l.prog w) callerA (.call (.ref fa) ⟨[.ref a], []⟩) (fun r s' => r = .ok (.ret (.bool true)) ∧ OldK s₁.heap s'.heap ∧ s'.os = s₁.os ∧ AllBare s'.gens) s₁) :
    WalkO q loose XP YP l.row.toRowW d [] (fun f vs => PySem.call f vs) := by
  intro w s₀ s₁ mg mb G Y fa o pm cd doc dV kV ho hd hcd hD hmg hg args vals as hpre hlay hrd hwl hlo
  obtain rfl : dV = .none := Dflts.none hD hdf
  obtain rfl : kV = .none := Dflts.noKw hD
  obtain ⟨a, vs, ns, rfl, rfl, hobj, hints, hlen⟩ := script_of hn hpre hwl
  refine enter_call (codeAny_mono (call w s₀ s₁ mg mb fa o pm cd doc a vs ns G Y ho (fd_plain hd) hcd hmg hobj hints hlen hg) fun r s' hq => ?_)
  obtain ⟨rfl, h2, h3, h4⟩ := hq
  exact ⟨.inl ⟨.bool true, .bool true, [], rfl, fun _ => rfl, .bool true, post_true l _, fun _ => ⟨List.Pairwise.nil, fun _ hm => (nomatch hm)⟩⟩, h2, h3, h4⟩

/-! ### rules over ANY heap (no ledger) from facts about the written part K: the library's own take a ledger (News) for what they write -/
section
variable {prog : Program} {w : World} {A : Around} {E : Value → Shared → Prop} {s : Shared} {K : Frag}

/-! the whole heap as the ledger: makes every rule that writes through a ledger a rule over any heap -/
def noObjs (h : Heap) : Heap := { h with objs := #[] }
def ledger (h : Heap) (L d : Addr) : List (Addr × Obj) := (List.range h.objs.size).filterMap fun a => if a = L ∨ a = d then none else (h.get? a).map fun o => (a, o)
end
end Att

namespace L2
open PySem PySem.Spec PyProof.Rows

theorem vals_ints : ∀ {vs : List Value} {ns : List Int}, IntsAre vs ns → Vals (ns.map V.int) vs
  | _, _, .nil => .nil
  | _, _, .cons n t h => .cons ⟨t, rfl⟩ (vals_ints h)

/-- nothing is tracked but the script, known to the object (or it is an object of the module) -/
def Only (H : Hp) : Prop := ∀ b, H b = none ∨ ∃ o xs, H b = some (.frz o (.lst xs))

/-- THE HEAD: the law's promise, at the heap behind the top. F, the promise of the law's def, may use that base is part of the heap (so K.In base, base.Ns mainGlobals mg stand in Mod) -/
theorem law_call {P : Program} {w : World} {K : PySem.W.Frag} {mg mb : Str → Option Value} {CX : CXT} {k : Nat} {fa a : Addr} {fd : FuncData} {x : Str} {sp : Sp} {s₁ : Shared} {vs : List Value} {ns : List Int}
    (KX : K.In s₁.heap) (hns : s₁.heap.Ns mainGlobals mg) (hb : s₁.heap.Ns builtinsNs mb) (hbb : ∀ x : Str, x ≠ "__name__" → mb x = bootBuiltins x) (hlim : s₁.heap.NoLimit) (hg : s₁.gens = #[])
    (ha : s₁.heap.get? a = some { cls := .type "list", data := .seq vs.toArray }) (hi : IntsAre vs ns) (hl : ns.length ≤ sizeLine) (hr : Room k callerA)
    (F : ∀ base : Heap, K.In base → base.Ns mainGlobals mg → FnOk P w K mg base CX k fa fd [x] sp) (hbind : ∀ (s : Shared) (u : Value), BindsTo s fd ⟨[u], []⟩ [(x, u)])
    (hsp : ∀ H : Hp, Only H → SqL K H a (ns.map V.int) → sp [.ref a] H (fun v _ => v = .bl true) fun _ _ _ => False)
    (hCX : ∀ H e s', CX [] H s₁ (fun _ _ _ => False) e s' → False) :
    codeAny (model P w) callerA (.call (.ref fa) ⟨[.ref a], []⟩) (fun r s' => r = .ok (.ret (.bool true)) ∧ OldK s₁.heap s'.heap ∧ s'.os = s₁.os ∧ AllBare s'.gens) s₁ := by
  have rv := vals_ints hi
  have lenV := hi.length
  -- from an abstract heap in which nothing but the script may be tracked
  have core : ∀ H : Hp, Only H → SqL K H a (ns.map V.int) → HOk P w H s₁.heap → (∀ b, H b ≠ none → b = a) → (H a ≠ none → K.lookup a = none) →
      codeAny (model P w) callerA (.call (.ref fa) ⟨[.ref a], []⟩) (fun r s' => r = .ok (.ret (.bool true)) ∧ OldK s₁.heap s'.heap ∧ s'.os = s₁.os ∧ AllBare s'.gens) s₁ := by
    intro H hO hS hok hA hK
    have base_of : ∀ {b : Addr} {o : Obj}, s₁.heap.get? b = some o → H b = none → (hidT s₁.heap H).get? b = some o := fun e n => hidT_get e n
    have noA : ∀ {b : Addr} {o : Obj} {es : Array DictEntry} {ep : Nat}, s₁.heap.get? b = some o → o.data = .dict es ep → H b = none := fun {b o es ep} e d => by
      cases q : H b with
      | none => rfl
      | some u =>
        have e' : b = a := hA b (by rw [q]; simp)
        subst e'
        rw [ha] at e; cases e
        have d' : Data.seq vs.toArray _ = Data.dict es ep := d
        cases d'
    have nsK : ∀ {b : Addr} {m : Str → Option Value}, s₁.heap.Ns b m → (hidT s₁.heap H).Ns b m := fun {b m} ⟨o, es, ep, e, d, r⟩ => ⟨o, es, ep, base_of e (noA e d), d, r⟩
    have hKb : K.In (hidT s₁.heap H) := fun b o e => base_of (KX b o e) (by
      cases q : H b with
      | none => rfl
      | some u =>
        have e' : b = a := hA b (by rw [q]; simp)
        subst e'
        rw [hK (by rw [q]; simp)] at e; cases e)
    have hM : Mod K mg (hidT s₁.heap H) := ⟨hKb, nsK hns, ⟨mb, nsK hb, hbb⟩, let ⟨mc, h1, h2⟩ := hlim; ⟨mc, nsK h1, h2⟩⟩
    have e0 : Env0 P w K mg (hidT s₁.heap H) callerA [] s₁ H := ⟨rfl, hM, fun b o e => of_hidT e, Nat.le_of_eq (hidT_size _ _), trivial, fun b hb => absurd (show b ∈ ([] : List Addr) from hb) (by simp), hok, .of_eq hg⟩
    refine codeAny_mono ((F _ hKb (nsK hns)).run callerA [] s₁ H ⟨[.ref a], []⟩ [.ref a] [.ref a] _ _ hr e0 (hbind s₁ (.ref a)) (.cons rfl .nil) (hsp H hO hS)) fun r s' h => ?_
    cases r with
    | error e => exact (hCX H e s' h).elim
    | ok fl =>
      cases fl with
      | next => exact False.elim h
      | brk => exact False.elim h
      | cont => exact False.elim h
      | ret u =>
        obtain ⟨v, H', os, bare, un, hok', r', q⟩ := h
        have q' : v = .bl true := q
        subst q'
        obtain rfl : u = Value.bool true := r'
        refine ⟨rfl, OldK.of_keep fun b o e => ?_, os, bare⟩
        cases q : H b with
        | none => exact un.keep b o e q (by intro z; exact absurd (show b ∈ ([] : List Addr) from z) (by simp)) (by simp)
        | some u =>
          rcases hO b with z | ⟨ob, xs, z⟩
          · rw [q] at z; cases z
          · have z2 := un.frzs b ob _ z
            obtain ⟨e1, _⟩ := hok b _ z
            obtain ⟨e2, _⟩ := hok' b _ z2
            rw [e] at e1; cases e1
            exact e2
  cases hk : K.lookup a with
  | some o =>
    -- the script is one of the module's own objects
    have e := KX a o hk
    rw [ha] at e
    cases e
    refine core (fun _ => none) (fun _ => .inl rfl) (.inr ⟨_, vs.toArray, _, hk, rfl, rfl, rfl, by rw [List.size_toArray, lenV]; exact hl, by simpa using rv⟩) (fun b u z => by have z' : (none : Option HO) = some u := z; cases z') (fun b z => absurd rfl z) fun z => absurd rfl z
  | none =>
    refine core (fun b => if b = a then some (.frz { cls := .type "list", data := .seq vs.toArray } (.lst (ns.map V.int))) else none) (fun b => ?_) (.inl (.inr ⟨{ cls := .type "list", data := .seq vs.toArray }, if_pos rfl⟩)) (fun b u z => ?_) (fun b z => ?_) fun _ => hk
    · by_cases hb : b = a
      · exact .inr ⟨_, _, if_pos hb⟩
      · exact .inl (if_neg hb)
    · by_cases hb : b = a
      · have z' := (if_pos hb).symm.trans z
        cases z'
        subst hb
        exact ⟨ha, by rw [List.length_map]; exact hl, vs, _, rv, ha⟩
      · have z' := (if_neg hb).symm.trans z
        cases z'
    · by_cases hb : b = a
      · exact hb
      · exact absurd (if_neg hb) z
end L2

namespace L2
open PySem PySem.Spec PyProof.Rows

abbrev KOf {K : PySem.W.Frag} {h : Heap} (_ : K.In h) : PySem.W.Frag := K

/-- the goal that k_head leaves (case hc), from the law's promise. F gives the function object fd (K's own) once, then the promise over every base -/
theorem walk_of {l : PySem.W.OpenLaw} {n k : Nat} {q : Program} {loose : List Str} {XP : (Str → Option Value) → Heap → Prop} {YP : World → Heap → Prop} {d : DefRec} {K : Params → PySem.W.Frag} {CX : World → CXT} {sp : World → Sp} {x : Str}
    (hn : l.most = some n) (hn2 : n ≤ sizeLine) (hdf : d.params.defaults = []) (hr : Room k callerA)
    (hY : ∀ (w : World) (h : Heap), YP w h → (K w.params).In h)
    (F : ∀ (w : World) (mg : Str → Option Value) (fa : Addr) (h : Heap), (K w.params).In h → h.Ns mainGlobals mg → mg d.name = some (.ref fa) →
      ∃ fd : FuncData, (∀ (s : Shared) (u : Value), BindsTo s fd ⟨[u], []⟩ [(x, u)]) ∧
        ∀ base : Heap, (K w.params).In base → base.Ns mainGlobals mg → FnOk l.prog w (K w.params) mg base (CX w) k fa fd [x] (sp w))
    (hsp : ∀ (w : World) (H : Hp) (a : Addr) (ns : List Int), ns.length ≤ n → Only H → SqL (K w.params) H a (ns.map V.int) → sp w [.ref a] H (fun v _ => v = .bl true) fun _ _ _ => False)
    (hCX : ∀ (w : World) (H : Hp) (s : Shared) (e : Value) (s' : Shared), CX w [] H s (fun _ _ _ => False) e s' → False) :
    PySem.W.WalkO q loose XP YP l.row.toRowW d [] (fun f vs => PySem.call f vs) := by
  refine Att.attach_call hn hdf fun w s₀ s₁ mg mb fa o pm cd doc a vs ns G Y ho hd hcd hmg hobj hints hlen hg => ?_
  have KX := hY w _ Y
  obtain ⟨fd, hb, hF⟩ := F w mg fa _ KX G.T.g hmg
  exact law_call KX G.T.g G.T.b G.T.builtins G.T.nolimit hg hobj hints (Nat.le_trans hlen hn2) hr hF hb (fun H hO hS => hsp w H a ns hlen hO hS) fun H e s' => hCX w H s₁ e s'
end L2

/- THE LAST THEOREM (shape; LID, My.* are yours):
   My.Adr: a structure of the addresses that your layer names (classes, functions); My.Txt K t: a structure (Prop) of the equations over K;
   My.txt_mk : {K} {implicit addresses ..} (e1 : nsIn K mainGlobals "law" = some (some (.ref f))) (e2 : K.lookup f = some ⟨oc, od, .func (fnOf "law" "law" params body scope dV kV doc pm an cdv ct), sl⟩) (e3 : codeIn K cdv "law" = true) .. : ∃ t, My.Txt K t

set_option maxRecDepth 100000 in
set_option maxHeartbeats 0 in
theorem PySem.Challenge.cw_LID_holds : PySem.Challenge.rw_LID.Holds := by
  w_on; o_law; k_head; (case hw => w_witness2)
  k_fill
  refine L2.walk_of (l := PySem.Challenge.rw_LID) (n := 63) (k := 40) (x := "script") (CX := fun w => ..) (sp := fun _ => My.sp_law) rfl (by decide) rfl ⟨rfl, by decide, by decide⟩ (fun w h Y => PySem.W.kIn_of Y) ?F ?S ?C
  case F =>
    intro w mg fa h KX G hmg
    have T : ∃ t, My.Txt (L2.KOf KX) t := by
      dsimp only [L2.KOf]                          -- K must stand as «<heap const> w.params» for k_is
      refine' My.txt_mk ?e1 ?e2 ?e3 ..
      (case e1 => PySem.W.k_is)                    -- in the order: a name -> its address -> its object -> its parts
      (case e2 => PySem.W.k_is)
      ..
    obtain ⟨t, T⟩ := T
    have e0 := hmg.symm.trans (PySem.W.mg_of KX G T.law)
    cases e0                                       -- fa is the law's own address
    exact ⟨_, fun s u => .of_eq rfl, fun base kb nb => My.law_fn T kb nb⟩     -- if «.of_eq rfl» comes too early: refine' ⟨_, ?b, fun base kb nb => My.law_fn T kb nb⟩; exact fun s u => .of_eq rfl
  case S => exact fun w H a ns hl hO hS => ..
  case C => exact ..
(the tactic k_is has no namespace: write k_is) -/

/-! SHORT WORDS over the layer: a def of the text, its body, what a loop and a test want. -/
namespace L2
open PySem PySem.Spec PyProof.Rows

/-! ### the text by places -/
/-- the j-th statement of a class's body -/
def inClass (s : Stmt) (j : Nat) : Stmt := match s with
  | .ClassDef _ _ _ body _ _ _ _ _ _ _ => body.getD j (.Pass ⟨0, 0, 0, 0⟩)
  | _ => .Pass ⟨0, 0, 0, 0⟩
def defArgs (s : Stmt) : Arguments := match s with
  | .FunctionDef _ a _ _ _ _ _ _ _ _ => a
  | _ => { posonlyargs := [], args := [], vararg := none, kwonlyargs := [], kw_defaults := [], kwarg := none, defaults := [] }
def defBody (s : Stmt) : List Stmt := match s with
  | .FunctionDef _ _ b _ _ _ _ _ _ _ => b
  | _ => []
def defScope (s : Stmt) : Scope := match s with
  | .FunctionDef _ _ _ _ _ _ sc _ _ _ => sc
  | _ => { kind := .function, names := [], isGenerator := false, isCoroutine := false }

/-! ### no exception leaves a def -/
abbrev CX0 : CXT := fun _ _ _ _ _ _ => False
abbrev E0 : XK := fun _ _ _ => False
theorem pass0 {X : Cx} : Passes CX0 X E0 := fun _ _ _ _ _ _ _ h => h.elim

/-! ### a def (or method) of the text as it stands behind the top -/
structure Fun (K : PySem.W.Frag) (x qual : Str) (st : Stmt) (f : Addr) (fd : FuncData) : Prop where
  ex : ∃ (oc : Value) (od : Option Addr) (kV doc pm : Value) (an : Option Addr) (cdv ct : Value) (osl : Array (Option Value)),
    fd = PySem.W.fnOf x qual (defArgs st) (defBody st) (defScope st) .none kV doc pm an cdv ct ∧ K.lookup f = some ⟨oc, od, .func fd, osl⟩ ∧ PySem.W.codeIn K cdv qual = true
  kp : PySem.W.keepIn K (.ref f) = true
section
variable {P : Program} {w : World} {K : PySem.W.Frag} {mg : Str → Option Value} {base : Heap}
/-- THE RULE for a def: its body as a term of rules, and the reading of that term -/
theorem Fun.ok {x qual : Str} {st : Stmt} {f : Addr} {fd : FuncData} {N ps : List Str} {k : Nat} {sp : Sp} (F : Fun K x qual st f fd) (S : FnScope N ps (defScope st)) (len : ∀ vs H Q E, sp vs H Q E → vs.length = ps.length)
    (hbody : ∀ (cdv : Value) (A : Around) (outer : List Env) (s : Shared) (H : Hp) (vs : List V) (Q : VK) (E : XK), Room k (A.deeper (envOfC qual (defScope st) s.heap.objs.size f cdv)) → sp vs H Q E →
      ∃ t, PSs (cxOf CX0 P w K mg base N qual (defScope st) f cdv A outer s H E).nox (defBody st) t ∧ t { nx := fun _ H' => Q .non H', rt := Q } (start N vs) H) : FnOk P w K mg base CX0 (k + 1) f fd ps sp := by
  obtain ⟨oc, od, kV, doc, pm, an, cdv, ct, osl, rfl, lk, hcd⟩ := F.ex
  refine fn_of lk hcd S len fun A outer s H vs Q E hr hsp => ?_
  obtain ⟨t, h, q⟩ := hbody cdv A outer s H vs Q E hr hsp
  exact ⟨t, h.nox, q⟩
/-- how its arguments bind (no defaults): h is «fun _ _ _ _ _ _ us hl => match us, hl with | [_, _], _ => rfl», one _ a parameter -/
theorem Fun.binds {x qual : Str} {st : Stmt} {f : Addr} {fd : FuncData} {ps : List Str} (F : Fun K x qual st f fd)
    (h : ∀ (kV doc pm : Value) (an : Option Addr) (cdv ct : Value) (us : List Value), us.length = ps.length → bindArgs (PySem.W.fnOf x qual (defArgs st) (defBody st) (defScope st) .none kV doc pm an cdv ct) ⟨us, []⟩ = pure (ps.zip us)) : Binds K fd ps [] := by
  obtain ⟨oc, od, kV, doc, pm, an, cdv, ct, osl, rfl, lk, hcd⟩ := F.ex
  exact .all (h kV doc pm an cdv ct)
theorem fun_mk {x qual : Str} {st : Stmt} {f : Addr} {oc : Value} {od an : Option Addr} {osl : Array (Option Value)} {kV doc pm cdv ct : Value} (l : K.lookup f = some ⟨oc, od, .func (PySem.W.fnOf x qual (defArgs st) (defBody st) (defScope st) .none kV doc pm an cdv ct), osl⟩)
    (c : PySem.W.codeIn K cdv qual = true) (k : PySem.W.keepIn K (.ref f) = true) : Fun K x qual st f (PySem.W.fnOf x qual (defArgs st) (defBody st) (defScope st) .none kV doc pm an cdv ct) := ⟨⟨oc, od, kV, doc, pm, an, cdv, ct, osl, rfl, l, c⟩, k⟩
end
theorem small1000 {n : Nat} (h : n ≤ 1000) : n < sizeLine := Nat.lt_of_le_of_lt h (by decide)

/-! ### expressions in short: the name that stands in the i-th slot -/
section
variable {X : Cx}
theorem pv (i : Nat) {x : Str} {pos : Pos} (hN : X.N[i]? = some x := by rfl) (hv : Vis X.env.scope x := by first | exact Or.inl rfl | exact Or.inr (Or.inl rfl) | exact Or.inr (Or.inr rfl)) (hd : (x == ("__debug__" : Str)) = false := by decide)
    (hcd : (x == ("__classdict__" : Str)) = false := by decide) : PE X (.Name x pos) (tVar i) := pe_var hN hv hd hcd
end

/-! ### tests -/
theorem iteF {A B : Prop} (h : B) : if false = true then A else B := by
  rw [if_neg Bool.false_ne_true]
  exact h
theorem iteT {A B : Prop} (h : A) : if true = true then A else B := by
  rw [if_pos rfl]
  exact h
theorem ite2 {c A B : Prop} [Decidable c] (h1 : c → A) (h2 : ¬ c → B) : if c then A else B := by
  by_cases h : c
  · rw [if_pos h]
    exact h1 h
  · rw [if_neg h]
    exact h2 h
/-! ### heaps -/
/-- all that was tracked is as it was -/
def Same (H H' : Hp) : Prop := ∀ b o, H b = some o → H' b = some o
theorem Same.refl (H : Hp) : Same H H := fun _ _ h => h
theorem Same.trans {H H1 H2 : Hp} (a : Same H H1) (b : Same H1 H2) : Same H H2 := fun c o h => b c o (a c o h)
theorem Same.free {H H' : Hp} (e : Same H H') {l : Addr} (h : H' l = Option.none) : H l = Option.none := by
  cases q : H l with
  | none => rfl
  | some o =>
    rw [e l o q] at h
    cases h
theorem Same.seq {K : PySem.W.Frag} {H H' : Hp} {a : Addr} {xs : List V} (e : Same H H') (h : SqL K H a xs) : SqL K H' a xs := by
  rcases h with (h | ⟨o, h⟩) | h
  · exact .inl (.inl (e _ _ h))
  · exact .inl (.inr ⟨o, e _ _ h⟩)
  · exact .inr h

end L2

set_option maxHeartbeats 4000000
namespace L2
open PySem PySem.Spec PyProof.Rows
/-! ### lists of pairs as tables -/
section
variable {κ : Type} [DecidableEq κ]
def valV (kvs : List (κ × V)) (k : κ) : Option V := (kvs.find? fun kv => decide (kv.1 = k)).map (·.2)
/-- in its place, or at the end -/
def putK (kvs : List (κ × V)) (k : κ) (v : V) : List (κ × V) :=
  if (kvs.any fun kv => decide (kv.1 = k)) = true then kvs.map (fun kv => if kv.1 = k then (kv.1, v) else kv) else kvs ++ [(k, v)]
def dropK (kvs : List (κ × V)) (k : κ) : List (κ × V) := kvs.filter fun kv => decide (kv.1 ≠ k)

theorem valV_pos {p : κ × V} {r : List (κ × V)} {k : κ} (e : p.1 = k) : valV (p :: r) k = some p.2 := by simp [valV, List.find?_cons, e]
theorem valV_neg {p : κ × V} {r : List (κ × V)} {k : κ} (e : ¬ p.1 = k) : valV (p :: r) k = valV r k := by simp [valV, List.find?_cons, e]
theorem valV_any (k : κ) : ∀ kvs : List (κ × V), (kvs.any fun kv => decide (kv.1 = k)) = (valV kvs k).isSome
  | [] => rfl
  | p :: r => by
    rw [List.any_cons]
    by_cases e : p.1 = k
    · simp only [valV_pos e, decide_eq_true e, Bool.true_or, Option.isSome_some]
    · rw [valV_neg e, decide_eq_false e, Bool.false_or]; exact valV_any k r
theorem length_putK (kvs : List (κ × V)) (k : κ) (v : V) : (putK kvs k v).length ≤ kvs.length + 1 := by
  unfold putK
  split
  · rw [List.length_map]; omega
  · rw [List.length_append, List.length_cons, List.length_nil]; omega
theorem putK_new {kvs : List (κ × V)} {k : κ} (v : V) (h : valV kvs k = none) : putK kvs k v = kvs ++ [(k, v)] := by
  unfold putK
  rw [valV_any, h]
  exact if_neg (by decide)

theorem RelO.isSome_eq {o : Option V} {u : Option Value} (r : RelO o u) : o.isSome = u.isSome := by
  cases o with
  | none => cases u with
    | none => rfl
    | some _ => exact (show False from r).elim
  | some _ => cases u with
    | none => exact (show False from r).elim
    | some _ => rfl
theorem RelO.getD {o : Option V} {u : Option Value} {d : V} {d' : Value} (r : RelO o u) (rd : RelV d d') : RelV (o.getD d) (u.getD d') := by
  cases o with
  | none => cases u with
    | none => exact rd
    | some _ => exact (show False from r).elim
  | some _ => cases u with
    | none => exact (show False from r).elim
    | some _ => exact r

/-- raw tables of the same keys -/
theorem KV.val {kvs : List (κ × V)} {vs : List (κ × Value)} (r : KV kvs vs) (k : κ) : RelO (valV kvs k) (valueAt vs k) := by
  unfold KV at r
  induction r with
  | nil => exact True.intro
  | @cons p q ps qs h t ih =>
    obtain ⟨h1, h2⟩ := h
    by_cases e : p.1 = k
    · have e' : q.1 = k := h1.symm.trans e
      have b : valueAt (q :: qs) k = some q.2 := by simp [valueAt, List.find?_cons, e']
      rw [valV_pos e, b]; exact h2
    · have e' : ¬ q.1 = k := fun z => e (h1.trans z)
      have b : valueAt (q :: qs) k = valueAt qs k := by simp [valueAt, List.find?_cons, e']
      rw [valV_neg e, b]; exact ih
theorem KV.any {kvs : List (κ × V)} {vs : List (κ × Value)} (r : KV kvs vs) (k : κ) : (kvs.any fun kv => decide (kv.1 = k)) = vs.any fun kv => decide (kv.1 = k) := by
  unfold KV at r
  induction r with
  | nil => rfl
  | cons h t ih => rw [List.any_cons, List.any_cons, ih, h.1]
theorem KV.repl {kvs : List (κ × V)} {vs : List (κ × Value)} (r : KV kvs vs) (k : κ) {y : V} {u : Value} (ry : RelV y u) :
    KV (kvs.map fun kv => if kv.1 = k then (kv.1, y) else kv) (vs.map fun kv => if kv.1 = k then (kv.1, u) else kv) := by
  unfold KV at r ⊢
  induction r with
  | nil => exact .nil
  | @cons p q ps qs h t ih =>
    rw [List.map_cons, List.map_cons]
    refine .cons ?_ ih
    obtain ⟨h1, h2⟩ := h
    by_cases e : p.1 = k
    · rw [if_pos e, if_pos (h1.symm.trans e)]; exact ⟨h1, ry⟩
    · rw [if_neg e, if_neg (fun z => e (h1.trans z))]; exact ⟨h1, h2⟩
theorem KV.put {kvs : List (κ × V)} {vs : List (κ × Value)} (r : KV kvs vs) (k : κ) {y : V} {u : Value} (ry : RelV y u) : KV (putK kvs k y) (stored vs k u) := by
  unfold putK stored
  rw [r.any k]
  by_cases e : (vs.any fun kv => decide (kv.1 = k)) = true
  · rw [if_pos e, if_pos e]; exact r.repl k ry
  · rw [if_neg e, if_neg e]; exact Paired.snoc r ⟨rfl, ry⟩
theorem KV.drop {kvs : List (κ × V)} {vs : List (κ × Value)} (r : KV kvs vs) (k : κ) : KV (dropK kvs k) (without vs k) := by
  unfold KV at r ⊢
  unfold dropK without
  induction r with
  | nil => exact .nil
  | @cons p q ps qs h t ih =>
    obtain ⟨h1, h2⟩ := h
    rw [List.filter_cons, List.filter_cons]
    by_cases e : p.1 = k
    · have a : ¬ decide (p.1 ≠ k) = true := by simp [e]
      have b : ¬ decide (q.1 ≠ k) = true := by simp [h1.symm.trans e]
      rw [if_neg a, if_neg b]; exact ih
    · have e' : ¬ q.1 = k := fun z => e (h1.trans z)
      have a : decide (p.1 ≠ k) = true := by simp [e]
      have b : decide (q.1 ≠ k) = true := by simp [e']
      rw [if_pos a, if_pos b]; exact .cons ⟨h1, h2⟩ ih
theorem KV.keys {kvs : List (κ × V)} {vs : List (κ × Value)} (r : KV kvs vs) : kvs.map (·.1) = vs.map (·.1) := by
  unfold KV at r
  induction r with
  | nil => rfl
  | cons h t ih => rw [List.map_cons, List.map_cons, ih, h.1]
theorem KV.length {kvs : List (κ × V)} {vs : List (κ × Value)} (r : KV kvs vs) : kvs.length = vs.length := Paired.length r
end


/-! ### a tracked dict, its keys ints and texts or tuples of these -/
theorem kV_is {P : Program} {w : World} {k : Key} {u : Value} (r : RelV (kV k) u) : (mixKind P w).is k u = true := by
  cases k with
  | inl i => obtain ⟨t, e⟩ := (show ∃ t, u = Value.int i t from r); subst e; exact mixKind_int P w i t
  | inr x => obtain ⟨t, e⟩ := (show ∃ t, u = Value.str x t from r); subst e; exact mixKind_str P w x t
theorem items_are {P : Program} {w : World} : ∀ {ks : List Key} {us : List Value}, Vals (ks.map kV) us → ItemsAre (mixKind P w) ks us
  | [], _, r => by rw [List.map_nil] at r; cases r; exact .nil
  | k :: ks, _, r => by
    rw [List.map_cons] at r
    cases r with
    | cons h t => exact .cons (kV_is h) (items_are t)

/-- raw entries of a dict with tuple keys -/
abbrev KT (H : Hp) : List (List Key × V) → List (List Key × Addr × Value) → Prop := Paired fun p q => p.1 = q.1 ∧ H q.2.1 = some (.tup (p.1.map kV)) ∧ RelV p.2 q.2.2
theorem KT.val {H : Hp} {kvs : List (List Key × V)} {xs : List (List Key × Addr × Value)} (r : KT H kvs xs) (k : List Key) : RelO (valV kvs k) ((atKey xs k).map (·.2)) := by
  induction r with
  | nil => exact True.intro
  | @cons p q ps qs h t ih =>
    obtain ⟨h1, _, h2⟩ := h
    by_cases e : p.1 = k
    · have e' : q.1 = k := h1.symm.trans e
      have b : atKey (q :: qs) k = some q.2 := by simp [atKey, List.find?_cons, e']
      rw [valV_pos e, b]; exact h2
    · have e' : ¬ q.1 = k := fun z => e (h1.trans z)
      have b : atKey (q :: qs) k = atKey qs k := by simp [atKey, List.find?_cons, e']
      rw [valV_neg e, b]; exact ih
theorem KT.repl {H : Hp} {kvs : List (List Key × V)} {xs : List (List Key × Addr × Value)} (r : KT H kvs xs) (k : List Key) {y : V} {u : Value} (ry : RelV y u) :
    KT H (kvs.map fun kv => if kv.1 = k then (kv.1, y) else kv) (xs.map (putAt k u)) := by
  induction r with
  | nil => exact .nil
  | @cons p q ps qs h t ih =>
    rw [List.map_cons, List.map_cons]
    refine .cons ?_ ih
    obtain ⟨h1, h2, h3⟩ := h
    unfold putAt
    by_cases e : p.1 = k
    · rw [if_pos e, if_pos (h1.symm.trans e)]; exact ⟨h1, h2, ry⟩
    · rw [if_neg e, if_neg (fun z => e (h1.trans z))]; exact ⟨h1, h2, h3⟩
theorem KT.put {H : Hp} {kvs : List (List Key × V)} {xs : List (List Key × Addr × Value)} (r : KT H kvs xs) (k : List Key) {b : Addr} {y : V} {u : Value} (hb : H b = some (.tup (k.map kV))) (ry : RelV y u) :
    KT H (putK kvs k y) (storedH xs k b u) := by
  have e : (kvs.any fun kv => decide (kv.1 = k)) = (atKey xs k).isSome := by
    rw [valV_any, (r.val k).isSome_eq, Option.isSome_map]
  unfold putK storedH
  rw [e]
  by_cases q : (atKey xs k).isSome = true
  · rw [if_pos q, if_pos q]; exact r.repl k ry
  · rw [if_neg q, if_neg q]; exact Paired.snoc r ⟨rfl, hb, ry⟩
theorem KT.keeps {H H' : Hp} {kvs : List (List Key × V)} {xs : List (List Key × Addr × Value)} (r : KT H kvs xs) (ht : ∀ b ys, H b = some (.tup ys) → H' b = some (.tup ys)) : KT H' kvs xs :=
  Paired.mapP r fun _ _ z => ⟨z.1, ht _ _ z.2.1, z.2.2⟩

section
variable {P : Program} {w : World} {H : Hp} {h : Heap} {a : Addr}
theorem rd_of {u : HO} (ok : HOk P w H h) (e : Rd H a u) : ObjOk P w H h a u := e.ok ok
theorem dk_rd {kvs : List (Key × V)} (ok : HOk P w H h) (e : Rd H a (.dK kvs)) : kvs.length ≤ sizeLine ∧ (a == sysModules) = false ∧ ∃ vs, KV kvs vs ∧ h.DictOf (mixKind P w) a vs :=
  show ObjOk P w H h a (.dK kvs) from rd_of ok e
theorem dk_of {kvs : List (Key × V)} (ok : HOk P w H h) (e : H a = some (.dK kvs)) : kvs.length ≤ sizeLine ∧ (a == sysModules) = false ∧ ∃ vs, KV kvs vs ∧ h.DictOf (mixKind P w) a vs := dk_rd ok (.inl e)
/-- a tracked tuple of ints and texts is a key -/
theorem key_of {ks : List Key} (ok : HOk P w H h) (e : H a = some (.tup (ks.map kV))) : (tupleKind (mixKind P w)).is h ks a := by
  obtain ⟨_, its, r, o, h1, h2, n, h3⟩ := (show ObjOk P w H h a (.tup (ks.map kV)) from ok a _ e)
  exact ⟨o, its.toArray, n, h1, h2, h3, by simpa using items_are r⟩
theorem dt_rd {kvs : List (List Key × V)} (ok : HOk P w H h) (e : Rd H a (.dT kvs)) : kvs.length ≤ sizeLine ∧ (a == sysModules) = false ∧
    ∃ xs, KT H kvs xs ∧ h.DictOfH (tupleKind (mixKind P w)) a xs := by
  obtain ⟨z, y, xs, r, o, es, ep, h1, h2, h3, h4, h5⟩ := (show ObjOk P w H h a (.dT kvs) from rd_of ok e)
  refine ⟨z, y, xs, r, o, es, ep, h1, h2, h3, h4, fun x hx => ?_, h5⟩
  have all : ∀ {l : List (List Key × V)} {m : List (List Key × Addr × Value)}, KT H l m → ∀ x ∈ m, (tupleKind (mixKind P w)).is h x.1 x.2.1 := by
    intro l m q
    induction q with
    | nil => intro x hx; exact nomatch hx
    | @cons p q ps qs hq t ih =>
      intro x hx
      rcases List.mem_cons.mp hx with e | hx
      · subst e
        exact key_of ok (by rw [← hq.1]; exact hq.2.1)
      · exact ih x hx
  exact all r x hx
theorem dt_of {kvs : List (List Key × V)} (ok : HOk P w H h) (e : H a = some (.dT kvs)) : kvs.length ≤ sizeLine ∧ (a == sysModules) = false ∧
    ∃ xs, KT H kvs xs ∧ h.DictOfH (tupleKind (mixKind P w)) a xs := dt_rd ok (.inl e)
end

/-- what the dict at a holds at the key y -/
def DGet (H : Hp) (a : Addr) (y : V) (r : Option V) : Prop :=
  (∃ kvs k, Rd H a (.dK kvs) ∧ y = kV k ∧ r = valV kvs k) ∨ ∃ kvs k b, Rd H a (.dT kvs) ∧ y = .ref b ∧ H b = some (.tup (k.map kV)) ∧ r = valV kvs k
/-- the heap behind a[y] = v -/
def DPut (H : Hp) (a : Addr) (y v : V) (H' : Hp) : Prop :=
  (∃ kvs k, H a = some (.dK kvs) ∧ y = kV k ∧ kvs.length < sizeLine ∧ H' = upd H a (.dK (putK kvs k v))) ∨
  ∃ kvs k b, H a = some (.dT kvs) ∧ y = .ref b ∧ H b = some (.tup (k.map kV)) ∧ kvs.length < sizeLine ∧ H' = upd H a (.dT (putK kvs k v))
theorem DGet.k {H : Hp} {a : Addr} {kvs : List (Key × V)} {k : Key} (e : H a = some (.dK kvs)) : DGet H a (kV k) (valV kvs k) := .inl ⟨kvs, k, .inl e, rfl, rfl⟩
theorem DGet.t {H : Hp} {a b : Addr} {kvs : List (List Key × V)} {k : List Key} (e : H a = some (.dT kvs)) (eb : H b = some (.tup (k.map kV))) : DGet H a (.ref b) (valV kvs k) := .inr ⟨kvs, k, b, .inl e, rfl, eb, rfl⟩
theorem DPut.k {H : Hp} {a : Addr} {kvs : List (Key × V)} {k : Key} {v : V} (e : H a = some (.dK kvs)) (hl : kvs.length < sizeLine) : DPut H a (kV k) v (upd H a (.dK (putK kvs k v))) := .inl ⟨kvs, k, e, rfl, hl, rfl⟩
theorem DPut.t {H : Hp} {a b : Addr} {kvs : List (List Key × V)} {k : List Key} {v : V} (e : H a = some (.dT kvs)) (eb : H b = some (.tup (k.map kV))) (hl : kvs.length < sizeLine) :
    DPut H a (.ref b) v (upd H a (.dT (putK kvs k v))) := .inr ⟨kvs, k, b, e, rfl, eb, hl, rfl⟩


section
variable {X : Cx} {pins : List (Addr × Obj)} {σ : St} {H : Hp} {s : Shared} {a : Addr} {y v : V} {u r : Value} {o : Option V} {A : Around} {E : Value → Shared → Prop}

theorem Inv.big (I : Inv X pins σ H s) : sysModules < s.heap.objs.size := by
  have h : mainGlobals < s.heap.objs.size := (I.mod.glob.keeps I.bk).lt
  exact Nat.lt_trans (by decide) h

/-- d[y], there -/
theorem d_getItem {Q : Value → Shared → Prop} (hu : A.units + 1 < cLine) (I : Inv X pins σ H s) (g : DGet H a y (some v)) (ry : RelV y u) (h : ∀ w' s', Inv X pins σ H s' → RelV v w' → Q w' s') :
    wpAny (model X.prog X.w) A (getItem (.ref a) u) Q E s := by
  rcases g with ⟨kvs, k, e, ey, l⟩ | ⟨kvs, k, b, e, ey, eb, l⟩
  · subst ey
    obtain ⟨z, hd, vs, rel, dd⟩ := dk_rd I.hok e
    obtain ⟨w', hw, rw'⟩ := RelO.some_of (v := v) (o := valueAt vs k) (by rw [l]; exact rel.val k)
    exact wpAny_getItem_of (kV_is ry) dd.mapOf hw (h w' _ (I.tok _) rw')
  · subst ey
    cases (show u = Value.ref b from ry)
    obtain ⟨z, hd, xs, rel, dd⟩ := dt_rd I.hok e
    obtain ⟨w', hw, rw'⟩ := RelO.some_of (v := v) (o := (atKey xs k).map (·.2)) (by rw [l]; exact rel.val k)
    obtain ⟨p, hp, hp2⟩ := Option.map_eq_some_iff.mp hw
    refine wpAny_getItem_heap (tupleKind_room_in1 hu) (key_of I.hok eb) dd hp ?_
    rw [hp2]
    exact h w' _ (I.tok _) rw'
theorem d_notIn {Q : Value → Shared → Prop} (hu : A.units + 1 < cLine) (I : Inv X pins σ H s) (g : DGet H a y o) (ry : RelV y u) (h : ∀ s', Inv X pins σ H s' → Q (.bool (!o.isSome)) s') :
    wpAny (model X.prog X.w) A (compareOp .NotIn u (.ref a)) Q E s := by
  rcases g with ⟨kvs, k, e, ey, l⟩ | ⟨kvs, k, b, e, ey, eb, l⟩
  · subst ey
    obtain ⟨z, hd, vs, rel, dd⟩ := dk_rd I.hok e
    refine wpAny_notIn_of (kV_is ry) hd dd.mapOf ?_
    rw [← (rel.val k).isSome_eq, ← l]
    exact h _ (I.tok _)
  · subst ey
    cases (show u = Value.ref b from ry)
    obtain ⟨z, hd, xs, rel, dd⟩ := dt_rd I.hok e
    refine wpAny_notIn_heap (tupleKind_room_in1 hu) (key_of I.hok eb) hd dd ?_
    have q := (rel.val k).isSome_eq
    rw [Option.isSome_map] at q
    rw [← q, ← l]
    exact h _ (I.tok _)
/-- a dict's object is replaced -/
theorem d_write {h' : Heap} {t' : Nat} {ob : HO} (I : Inv X pins σ H s) (mu : Mut (H a)) (hs : Heap.SameBut a s.heap h') (he : ∃ q, h'.get? a = some q) (new : ObjOk X.prog X.w (upd H a ob) h' a ob) :
    Inv X pins σ (upd H a ob) { s with heap := h', toks := t' } :=
  I.write (x := a) (e := a) mu (.inl rfl) (fun b q hb z => (hs.2 b hb).trans z) he new
theorem dk_new {P : Program} {w : World} {H' : Hp} {h' : Heap} {kvs : List (Key × V)} {vs : List (Key × Value)} (z : kvs.length ≤ sizeLine) (hd : (a == sysModules) = false) (rel : KV kvs vs) (dd : h'.DictOf (mixKind P w) a vs) :
    ObjOk P w H' h' a (.dK kvs) := ⟨z, hd, vs, rel, dd⟩
/-- d[y] = v -/
theorem d_setItem {H' : Hp} {Q : Unit → Shared → Prop} (hu : A.units + 1 < cLine) (I : Inv X pins σ H s) (g : DPut H a y v H') (ry : RelV y u) (rv : RelV v r) (h : ∀ s', Inv X pins σ H' s' → Q () s') :
    wpAny (model X.prog X.w) A (setItem (.ref a) u r) Q E s := by
  rcases g with ⟨kvs, k, e, ey, l, eH⟩ | ⟨kvs, k, b, e, ey, eb, l, eH⟩
  · subst ey eH
    obtain ⟨z, hd, vs, rel, dd⟩ := dk_of I.hok e
    have hz : vs.length ≤ sizeLine := by rw [← rel.length]; exact z
    have hl : (putK kvs k v).length ≤ sizeLine := by have := length_putK kvs k v; omega
    refine wpAny_setItem_pairs (hsz := hz) (kV_is ry) dd fun h' dd' hs => h _ ?_
    have he : ∃ q, h'.get? a = some q := let ⟨q, _, _, hq, _⟩ := dd'; ⟨q, hq⟩
    exact d_write I (by rw [e]; exact True.intro) hs he (dk_new hl hd (rel.put k rv) dd')
  · subst ey eH
    cases (show u = Value.ref b from ry)
    obtain ⟨z, hd, xs, rel, dd⟩ := dt_of I.hok e
    have hz : xs.length ≤ sizeLine := by rw [← Paired.length rel]; exact z
    have hl : (putK kvs k v).length ≤ sizeLine := by have := length_putK kvs k v; omega
    refine wpAny_setItem_heap (hsz := hz) (tupleKind_room_in1 hu) (key_of I.hok eb) dd fun h' dd' hs => h _ ?_
    obtain ⟨q, es, ep, hq, h2, h3, h4, _, h5⟩ := dd'
    refine d_write I (by rw [e]; exact True.intro) hs ⟨q, hq⟩ ⟨hl, hd, _, (rel.put k eb rv).keeps fun c ys ec => ?_, q, es, ep, hq, h2, h3, h4, h5⟩
    rw [upd_ne (ne_of ec e (fun z => nomatch z))]
    exact ec
end

section
variable {X : Cx} {pins : List (Addr × Obj)} {σ : St} {H : Hp} {s : Shared} {a : Addr} {kvs : List (Key × V)} {k : Key} {u : Value} {A : Around} {E : Value → Shared → Prop}
/-- len(d) -/
theorem d_len {Q : Value → Shared → Prop} (I : Inv X pins σ H s) (e : Rd H a (.dK kvs)) (h : ∀ t s', Inv X pins σ H s' → Q (.int kvs.length t) s') : wpAny (model X.prog X.w) A (call (.builtin "len") [.ref a]) Q E s := by
  obtain ⟨z, hd, vs, rel, dd⟩ := dk_rd I.hok e
  refine call_len_dict hd dd (by rw [← rel.length]; rw [sizeLine_eq] at z; omega) ?_
  rw [← rel.length]
  exact h _ _ (I.tok _)
end


/-! ### readings and rules -/
/-- the element of a subscription, not a slice -/
def NoSl (i : Expr) : Prop := ∀ ov iv, subscripted i false ov iv = operate [ov, iv] (getItem ov iv)
theorem subD_of {prog : Program} {w : World} {A : Around} {E : Value → Shared → Prop} {s : Shared} {env : Env} {value slice : Expr} {pos : Pos} {T id : String} {Q : Value → Shared → Prop}
    (hl : typeLookup (.type T) "__getitem__" = pure (some (.builtin id))) (hs : NoSl slice)
    (h : wpAny (model prog w) A (eval value env) (fun o s₁ => wpAny (model prog w) A (eval slice env) (fun i s₂ => s₂.TypeIs o T ∧ wpAny (model prog w) A (getItem o i) Q E s₂) E s₁) E s) :
    wpAny (model prog w) A (eval (.Subscript value slice pos) env) Q E s := by
  refine Subscript_ (wpAny_mono h (fun o s₁ h₁ => wpAny_mono h₁ (fun i s₂ h₂ => ?_) fun _ _ x => x) fun _ _ x => x)
  obtain ⟨hT, h₂⟩ := h₂
  unfold subscriptTail
  refine wpAny_bind ?_
  rw [getitemInPython_of_ne hT.not_modules]
  refine wpAny_bind (wpAny_specialOf hT hl ?_)
  have fin : wpAny (model prog w) A (subscripted slice false o i) (fun r s₃ => wpAny (model prog w) A (letTemporaryGo value o r >>= fun _ => pure r) Q E s₃) E s₂ := by
    rw [hs o i]
    exact wpAny_operating (wpAny_mono h₂ (fun r s₃ h₃ => wpAny_bind (wpAny_letTemporaryGo (wpAny_pure h₃))) fun _ _ x => x)
  first
    | exact wpAny_pure (wpAny_bind fin)
    | exact wpAny_bind (wpAny_pure (wpAny_bind fin))
    | exact wpAny_bind fin

theorem dict_typeIs {X : Cx} {pins : List (Addr × Obj)} {σ : St} {H : Hp} {s : Shared} {a : Addr} {y : V} {o : Option V} (I : Inv X pins σ H s) (g : DGet H a y o) : s.TypeIs (.ref a) "dict" := by
  rcases g with ⟨kvs, k, e, _, _⟩ | ⟨kvs, k, b, e, _, _, _⟩
  · obtain ⟨_, _, vs, _, dd⟩ := dk_rd I.hok e
    exact dd.typeIs
  · obtain ⟨_, _, xs, _, dd⟩ := dt_rd I.hok e
    exact dd.typeIs
/-- d[y] -/
def tDGet (td ty : TE) : TE := fun σ H Q => td σ H fun x H1 => ty σ H1 fun y H2 => ∃ a v, x = .ref a ∧ DGet H2 a y (some v) ∧ Q v H2
/-- y in d, y not in d -/
def tDIn (ty td : TE) : TE := fun σ H Q => ty σ H fun y H1 => td σ H1 fun x H2 => ∃ a o, x = .ref a ∧ DGet H2 a y o ∧ Q (.bl o.isSome) H2
def tDNotIn (ty td : TE) : TE := fun σ H Q => ty σ H fun y H1 => td σ H1 fun x H2 => ∃ a o, x = .ref a ∧ DGet H2 a y o ∧ Q (.bl (!o.isSome)) H2
/-- d[y] = v -/
def sDPut (td ty tv : TE) : TS := fun D σ H => tv σ H fun v H1 => td σ H1 fun x H2 => ty σ H2 fun y H3 => ∃ a H4, x = .ref a ∧ DPut H3 a y v H4 ∧ D.nx σ H4
/-- d[y] op= v -/
def sDAug (td ty tv : TE) (rd : V → V → Hp → VK → Prop) : TS := fun D σ H => td σ H fun x H1 => ty σ H1 fun y H2 => ∃ a v, x = .ref a ∧ DGet H2 a y (some v) ∧
  tv σ H2 fun y2 H3 => rd v y2 H3 fun z H4 => ∃ H5, DPut H4 a y z H5 ∧ D.nx σ H5
/-- del d[y] -/
def sDDel (td ty : TE) : TS := fun D σ H => td σ H fun x H1 => ty σ H1 fun y H2 => ∃ a kvs k, x = .ref a ∧ H2 a = some (.dK kvs) ∧ y = kV k ∧ (valV kvs k).isSome = true ∧ D.nx σ (upd H2 a (.dK (dropK kvs k)))

section
variable {X : Cx} {o i e value : Expr} {pos pos' tpos : Pos} {td ty tv : TE}
theorem pe_dget (hu : X.A.units + 1 < cLine) (ho : PE X o td) (hi : PE X i ty) (hs : NoSl i) : PE X (.Subscript o i pos) (tDGet td ty) := by
  intro pins s σ H Q I h
  refine subD_of PySem.F.slot_dict_getitem.lookup hs (thn (ho pins s σ H _ I h) fun u s1 ⟨x, H1, I1, rx, q1⟩ => thn (hi pins s1 σ H1 _ I1 q1) fun iv s2 ⟨y, H2, I2, ry, a, v, ex, g, q2⟩ => ?_)
  subst ex
  obtain rfl : u = Value.ref a := rx
  exact ⟨dict_typeIs I2 g, d_getItem hu I2 g ry fun w' s3 I3 rw' => ⟨v, H2, I3, rw', q2⟩⟩
theorem pc_dnotin (hu : X.A.units + 1 < cLine) (hi : PE X i ty) (ho : PE X o td) : PC X .NotIn i o (tDNotIn ty td) := by
  intro pins s σ H Q I h
  refine thn (hi pins s σ H _ I h) fun iv s1 ⟨y, H1, I1, ry, q1⟩ => thn (ho pins s1 σ H1 _ I1 q1) fun u s2 ⟨x, H2, I2, rx, a, ov, ex, g, q2⟩ => ?_
  subst ex
  obtain rfl : u = Value.ref a := rx
  exact d_notIn hu I2 g ry fun s3 I3 => ⟨.bl (!ov.isSome), H2, I3, rfl, q2⟩
theorem ps_dput (hu : X.A.units + 1 < cLine) (ho : PE X o td) (hi : PE X i ty) (hv : PE X value tv) (hs : swapsWith value (some (.Subscript o i pos')) pos.line X.env = pure false) :
    PS X (.Assign [.Subscript o i pos'] value pos) (sDPut td ty tv) := by
  intro pins s σ H D I h
  refine wpAny_Assign_Subscript (thn (hv pins s σ H _ I h) fun r s1 ⟨v, H1, I1, rv, q1⟩ => thn (ho pins s1 σ H1 _ I1 q1) fun u s2 ⟨x, H2, I2, rx, q2⟩ => thn (hi pins s2 σ H2 _ I2 q2) fun iv s3 ⟨y, H3, I3, ry, a, H4, ex, g, q3⟩ => ?_) hs
  subst ex
  obtain rfl : u = Value.ref a := rx
  exact d_setItem hu I3 g ry rv fun s4 I4 => ⟨σ, H4, I4, q3⟩
theorem ps_daug {op : Operator} {rd : V → V → Hp → VK → Prop} (hu : X.A.units + 1 < cLine) (ho : PE X o td) (hi : PE X i ty) (hv : PE X value tv) (hop : InOp X op rd)
    (ha : ∀ ov iv new, augStore i ov iv new = (do holding [new, ov, iv] (setItem ov iv new); release [new, ov, iv] []; pure .next)) : PS X (.AugAssign (.Subscript o i tpos) op value pos) (sDAug td ty tv rd) := by
  intro pins s σ H D I h
  refine wpAny_AugAssign_SubscriptAny (thn (ho pins s σ H _ I h) fun u s1 ⟨x, H1, I1, rx, q1⟩ => thn (hi pins s1 σ H1 _ I1 q1) fun iv s2 ⟨y, H2, I2, ry, a, v, ex, g, q2⟩ => ?_) ha
  subst ex
  obtain rfl : u = Value.ref a := rx
  refine d_getItem hu I2 g ry fun w' s3 I3 rw' => thn (hv pins s3 σ H2 _ I3 q2) fun w2 s4 ⟨y2, H3, I4, ry2, q3⟩ => thn (hop pins s4 σ H3 v y2 w' w2 _ I4 rw' ry2 q3) fun w3 s5 ⟨z, H4, I5, rz, H5, g5, q4⟩ => ?_
  exact d_setItem hu I5 g5 ry rz fun s6 I6 => ⟨σ, H5, I6, q4⟩
end


/-! ### displays -/
theorem dk_empty {P : Program} {w : World} {H : Hp} (h : Heap) (hb : sysModules < h.objs.size) : ObjOk P w H (h.push { cls := .type "dict", data := .dict #[] }) h.objs.size (.dK []) :=
  ⟨Nat.zero_le _, beq_eq_false_iff_ne.mpr (Ne.symm (Nat.ne_of_lt hb)), [], .nil, Heap.DictOf.new h⟩
/-- {}, to be a dict of the kind that is wanted -/
def tDNewK : TE := fun _ H Q => ∀ p, H p = none → Q (.ref p) (upd H p (.dK []))
def tDNewT : TE := fun _ H Q => ∀ p, H p = none → Q (.ref p) (upd H p (.dT []))
section
variable {X : Cx} {pos : Pos}
theorem pe_dnewK : PE X (.Dict [] [] pos) tDNewK := fun pins s σ H Q I h =>
  wpAny_Dict_empty ⟨.ref s.heap.objs.size, _, I.laid (a := s.heap.objs.size) (o := .dK []) (t' := s.toks) (fun _ _ q => Heap.get?_push_of_some _ q) (Nat.le_refl _) (dk_empty s.heap I.big), rfl, h _ (I.hok.fresh (Nat.le_refl _))⟩
end

/-- the pairs of a display, from the left -/
def tPairs : List (TE × TE) → St → Hp → (List (V × V) → Hp → Prop) → Prop
  | [], _, H, Q => Q [] H
  | (tk, tv) :: r, σ, H, Q => tk σ H fun x H1 => tv σ H1 fun y H2 => tPairs r σ H2 fun ps H3 => Q ((x, y) :: ps) H3
abbrev VV : List (V × V) → List (Value × Value) → Prop := Paired fun p q => RelV p.1 q.1 ∧ RelV p.2 q.2
def PPs (X : Cx) (pos : Pos) (keys : List (Option Expr)) (values : List Expr) (trs : List (TE × TE)) : Prop :=
  ∀ (pins : List (Addr × Obj)) (s : Shared) (σ : St) (H : Hp) (Q : List (V × V) → Hp → Prop), Inv X pins σ H s → tPairs trs σ H Q →
    wpAny (model X.prog X.w) X.A (evalPairs (pairTrees keys values X.env pos)) (fun vs s' => ∃ ps H', Inv X pins σ H' s' ∧ VV ps vs ∧ Q ps H') X.xe s
theorem pps_nil {X : Cx} {pos : Pos} : PPs X pos [] [] [] := fun pins s σ H Q I h => pairTrees_nil_walk ⟨[], H, I, .nil, h⟩
theorem pps_cons {X : Cx} {pos : Pos} {k v : Expr} {ks : List (Option Expr)} {vs : List Expr} {tk tv : TE} {trs : List (TE × TE)} (hk : PE X k tk) (hv : PE X v tv) (hr : PPs X pos ks vs trs) :
    PPs X pos (some k :: ks) (v :: vs) ((tk, tv) :: trs) := fun pins s σ H Q I h =>
  pairTrees_cons_walk (thn (hk pins s σ H _ I h) fun u s1 ⟨x, H1, I1, rx, q1⟩ => thn (hv pins s1 σ H1 _ I1 q1) fun w2 s2 ⟨y, H2, I2, ry, q2⟩ =>
    thn (hr pins s2 σ H2 _ I2 q2) fun ws s3 ⟨ps, H3, I3, rel, q3⟩ => ⟨(x, y) :: ps, H3, I3, .cons ⟨rx, ry⟩ rel, q3⟩)

def mergeK (kvs more : List (Key × V)) : List (Key × V) := more.foldl (fun acc kv => putK acc kv.1 kv.2) kvs
theorem KV.merge : ∀ {more : List (Key × V)} {rs : List (Key × Value)} {kvs : List (Key × V)} {vs : List (Key × Value)}, KV more rs → KV kvs vs → KV (mergeK kvs more) (merged vs rs) := by
  intro more rs kvs vs r
  unfold KV at r
  induction r generalizing kvs vs with
  | nil => intro q; exact q
  | @cons p q ps qs h t ih =>
    intro r0
    have e : KV (putK kvs p.1 p.2) (stored vs q.1 q.2) := by
      have := r0.put p.1 h.2
      rw [← h.1]; exact this
    exact ih e
theorem length_mergeK : ∀ (more kvs : List (Key × V)), (mergeK kvs more).length ≤ kvs.length + more.length
  | [], kvs => by show kvs.length ≤ kvs.length + 0; omega
  | p :: r, kvs => by
    have h1 := length_mergeK r (putK kvs p.1 p.2)
    have h2 := length_putK kvs p.1 p.2
    show (mergeK (putK kvs p.1 p.2) r).length ≤ _
    rw [List.length_cons]; omega
theorem carries_of {P : Program} {w : World} : ∀ {kvs : List (Key × V)} {ws : List (Value × Value)}, VV (kvs.map fun kv => (kV kv.1, kv.2)) ws → ∃ rs, Carries (mixKind P w) ws rs ∧ KV kvs rs
  | [], _, r => by rw [List.map_nil] at r; cases r; exact ⟨[], True.intro, .nil⟩
  | p :: kvs, _, r => by
    rw [List.map_cons] at r
    cases r with
    | @cons a b as bs h t =>
      obtain ⟨rs, c, q⟩ := carries_of (P := P) (w := w) t
      obtain ⟨b1, b2⟩ := b
      exact ⟨(p.1, b2) :: rs, ⟨kV_is h.1, rfl, c⟩, .cons ⟨rfl, h.2⟩ q⟩
/-- {k: v, ..} with keys ints and texts; the new dict stands empty while the pairs are made -/
def tDisp (trs : List (TE × TE)) : TE := fun σ H Q => ∀ p, H p = none → tPairs trs σ (upd H p (.dK [])) fun ps H2 => H2 p = some (.dK []) ∧ ∃ kvs : List (Key × V), ps = kvs.map (fun kv => (kV kv.1, kv.2)) ∧ kvs.length ≤ 15 ∧ Q (.ref p) (upd H2 p (.dK (mergeK [] kvs)))
theorem pe_disp {X : Cx} {pos : Pos} {keys : List (Option Expr)} {values : List Expr} {trs : List (TE × TE)} (h : PPs X pos keys values trs) (hall : keys.all (·.isSome) = true) (hl : keys.length = values.length) (h0 : keys ≠ [])
    (h15 : keys.length ≤ 15) : PE X (.Dict keys values pos) (tDisp trs) := by
  intro pins s σ H Q I q
  have hn := I.hok.fresh (Nat.le_refl s.heap.objs.size)
  have I1 := I.laid (a := s.heap.objs.size) (o := .dK []) (h' := s.heap.push { cls := .type "dict", data := .dict #[] }) (t' := s.toks) (fun _ _ q => Heap.get?_push_of_some _ q) (Nat.le_refl _) (dk_empty s.heap I.big)
  refine wpAny_Dict_walk (knd := mixKind X.prog X.w) hall hl h0 h15 (thn (h pins _ σ _ _ I1 (q _ hn)) fun ws s2 ⟨ps, H2, I2, rel, e, kvs, ep, lk, q2⟩ => ?_)
  subst ep
  obtain ⟨rs, c, rk⟩ := carries_of (P := X.prog) (w := X.w) rel
  obtain ⟨z, hd, vs0, r0, dd⟩ := dk_of I2.hok e
  cases r0
  refine ⟨rs, c, dd, fun h' dd' hs => ⟨.ref s.heap.objs.size, _, ?_, rfl, q2⟩⟩
  have hz : (mergeK [] kvs).length ≤ sizeLine := by
    have h1 := length_mergeK kvs []
    rw [List.length_nil] at h1
    rw [sizeLine_eq]; omega
  have he : ∃ q, h'.get? s.heap.objs.size = some q := let ⟨q, _, _, hq, _⟩ := dd'; ⟨q, hq⟩
  exact d_write I2 (by rw [e]; exact True.intro) hs he (dk_new hz hd (rk.merge .nil) dd')


/-! ### methods -/
/-- a method call o.m(e) of a built-in, with one argument: what must be seen of the text -/
structure M1 (X : Cx) (o : Expr) (m : Str) (apos : Pos) (e : Expr) (cpos : Pos) : Prop where
  base : attributeBase o m X.env (eval o X.env) = eval o X.env
  few : ((backTo cpos (starEach [e] X.env)).all (fun x => !x.1) && (backToKw cpos (keywordEach [] X.env)).all (fun x => x.1.isSome)
    && decide (([e] : List Expr).length + ([] : List Keyword).length + (if ([] : List Keyword).isEmpty then 0 else 1) < 30)) = true
  line : (apos.endLine == cpos.line) = true
  trees : backTo cpos (starEach [e] X.env) = [(false, eval e X.env)]
structure M2 (X : Cx) (o : Expr) (m : Str) (apos : Pos) (e f : Expr) (cpos : Pos) : Prop where
  base : attributeBase o m X.env (eval o X.env) = eval o X.env
  few : ((backTo cpos (starEach [e, f] X.env)).all (fun x => !x.1) && (backToKw cpos (keywordEach [] X.env)).all (fun x => x.1.isSome)
    && decide (([e, f] : List Expr).length + ([] : List Keyword).length + (if ([] : List Keyword).isEmpty then 0 else 1) < 30)) = true
  line : (apos.endLine == cpos.line) = true
  trees : backTo cpos (starEach [e, f] X.env) = [(false, eval e X.env), (false, eval f X.env)]

/-- a is a dict, whatever its keys -/
def IsD (H : Hp) (a : Addr) : Prop := (∃ kvs, Rd H a (.dK kvs)) ∨ ∃ kvs, Rd H a (.dT kvs)
section
variable {X : Cx} {pins : List (Addr × Obj)} {σ : St} {H : Hp} {s : Shared} {a : Addr} {y d : V} {u r : Value} {o : Option V} {A : Around} {E : Value → Shared → Prop}
end

def tDGet1 (td ty : TE) : TE := fun σ H Q => td σ H fun x H1 => ∃ a, x = .ref a ∧ IsD H1 a ∧ ty σ H1 fun y H2 => ∃ o, DGet H2 a y o ∧ Q (o.getD .non) H2
def tDGet2 (td ty tx : TE) : TE := fun σ H Q => td σ H fun x H1 => ∃ a, x = .ref a ∧ IsD H1 a ∧ ty σ H1 fun y H2 => tx σ H2 fun z H3 => ∃ o, DGet H3 a y o ∧ Q (o.getD z) H3
/-- d.pop(k): there; d.pop(k, x): there or not -/
def tDPop1 (td ty : TE) : TE := fun σ H Q => td σ H fun x H1 => ∃ a, x = .ref a ∧ IsD H1 a ∧ ty σ H1 fun y H2 => ∃ kvs k v, H2 a = some (.dK kvs) ∧ y = kV k ∧ valV kvs k = some v ∧ Q v (upd H2 a (.dK (dropK kvs k)))
def tDPop2 (td ty tx : TE) : TE := fun σ H Q => td σ H fun x H1 => ∃ a, x = .ref a ∧ IsD H1 a ∧ ty σ H1 fun y H2 => tx σ H2 fun z H3 => ∃ kvs k, H3 a = some (.dK kvs) ∧ y = kV k ∧
  (∀ v, valV kvs k = some v → Q v (upd H3 a (.dK (dropK kvs k)))) ∧ (valV kvs k = none → Q z H3)
section
variable {X : Cx} {o e f : Expr} {apos cpos : Pos} {td ty tx : TE}
end

/-! ### dict(d): a copy -/
section
variable {X : Cx} {pins : List (Addr × Obj)} {σ : St} {H : Hp} {s : Shared} {a : Addr} {kvs : List (Key × V)} {A : Around} {E : Value → Shared → Prop}
theorem d_copyOf {Q : Value → Shared → Prop} (I : Inv X pins σ H s) (e : Rd H a (.dK kvs)) (h : ∀ p s', H p = none → Inv X pins σ (upd H p (.dK kvs)) s' → Q (.ref p) s') : wpAny (model X.prog X.w) A (call (.type "dict") [.ref a]) Q E s := by
  obtain ⟨z, hd, vs, rel, dd⟩ := dk_rd I.hok e
  refine kt_call_dict hd dd (by rw [← rel.length]; exact z) fun h' dd' hs => ?_
  refine h _ _ (I.hok.fresh (Nat.le_refl _)) (I.laid (a := s.heap.objs.size) (o := .dK kvs) (t' := s.toks) (fun b q hq => ?_) (Nat.le_refl _) (dk_new z (beq_eq_false_iff_ne.mpr (Ne.symm (Nat.ne_of_lt I.big))) rel dd'))
  exact (hs.2 b (Nat.ne_of_lt (Heap.lt_size hq))).trans (Heap.get?_push_of_some _ hq)
end


section
variable {X : Cx} {pins : List (Addr × Obj)} {σ : St} {H : Hp} {s : Shared} {a : Addr} {y : V} {u : Value} {A : Around} {E : Value → Shared → Prop}
end
end L2

namespace L2
open PySem PySem.Spec PyProof.Rows
section
variable {X : Cx}
/-- len of a dict -/
theorem call_lenD : CallR X (.builtin "len") (fun xs H Q => ∃ a kvs, xs = [V.ref a] ∧ H a = some (.dK kvs) ∧ Q (.int kvs.length) H) := by
  intro pins s σ H xs us Q I r h
  obtain ⟨a, kvs, rfl, ha, q⟩ := h
  obtain ⟨u, rfl, ru⟩ := vals1 r
  cases ru
  exact d_len I (.inl ha) fun t s' I' => ⟨.int kvs.length, H, I', ⟨t, rfl⟩, q⟩
end
/-! ### a dict's pairs: keys that differ -/
section
variable {κ : Type} [DecidableEq κ]
theorem nd_snoc : ∀ {l : List κ} {k : κ}, l.Nodup → ¬ k ∈ l → (l ++ [k]).Nodup
  | [], k, _, _ => by simp
  | a :: r, k, h, hk => by
    obtain ⟨h1, h2⟩ := List.nodup_cons.mp h
    show (a :: (r ++ [k])).Nodup
    refine List.nodup_cons.mpr ⟨fun m => ?_, nd_snoc h2 fun m => hk (List.mem_cons.mpr (Or.inr m))⟩
    rcases List.mem_append.mp m with q | q
    · exact h1 q
    · exact hk (List.mem_cons.mpr (Or.inl (List.mem_singleton.mp q).symm))
end
end L2

namespace Blk
open PySem
/-- parts joined by a blank -/
def J : List (List Nat) → List Nat
  | [] => []
  | [x] => x
  | x :: y :: r => x ++ 32 :: J (y :: r)
/-- cut at blanks -/
def C : List Nat → List (List Nat)
  | [] => [[]]
  | c :: r => if c = 32 then [] :: C r else match C r with
    | [] => [[c]]
    | p :: ps => (c :: p) :: ps
theorem C_free : ∀ (x : List Nat), 32 ∉ x → C x = [x]
  | [], _ => rfl
  | c :: r, h => by
    have h1 : ¬ c = 32 := fun e => h (by rw [e]; exact List.mem_cons_self)
    have ih := C_free r fun m => h (List.mem_cons_of_mem _ m)
    show (if c = 32 then _ else _) = _
    rw [if_neg h1, ih]
theorem C_app : ∀ (x r : List Nat), 32 ∉ x → C (x ++ 32 :: r) = x :: C r
  | [], r, _ => by
    show (if 32 = 32 then _ else _) = _
    rw [if_pos rfl]
  | c :: x, r, h => by
    have h1 : ¬ c = 32 := fun e => h (by rw [e]; exact List.mem_cons_self)
    have ih := C_app x r fun m => h (List.mem_cons_of_mem _ m)
    show (if c = 32 then _ else match C (x ++ 32 :: r) with | [] => [[c]] | p :: ps => (c :: p) :: ps) = _
    rw [if_neg h1, ih]
theorem C_J : ∀ (ps : List (List Nat)), ps ≠ [] → (∀ p ∈ ps, 32 ∉ p) → C (J ps) = ps
  | [], h, _ => absurd rfl h
  | [x], _, h => C_free x (h x List.mem_cons_self)
  | x :: y :: r, _, h => by
    show C (x ++ 32 :: J (y :: r)) = _
    rw [C_app x _ (h x List.mem_cons_self), C_J (y :: r) (by intro e; cases e) fun p hp => h p (List.mem_cons_of_mem _ hp)]
theorem J_snoc : ∀ (ws : List (List Nat)) (w : List Nat), J (ws ++ [w]) = (ws.map (· ++ [32])).flatten ++ w
  | [], w => rfl
  | [x], w => by
    show x ++ 32 :: w = _
    simp
  | x :: y :: r, w => by
    have ih := J_snoc (y :: r) w
    show x ++ 32 :: J (y :: r ++ [w]) = _
    rw [ih]
    simp
/-- texts by their signs -/
def sg (x : Str) : List Nat := x.cps.toList
theorem sg_inj {x y : Str} (h : sg x = sg y) : x = y := by
  obtain ⟨a⟩ := x
  obtain ⟨b⟩ := y
  have e : a.toList = b.toList := h
  rw [Array.toList_inj.mp e]
theorem sg_app (x y : Str) : sg (x ++ y) = sg x ++ sg y := Array.toList_append ..
theorem map_sg_inj : ∀ {a b : List Str}, a.map sg = b.map sg → a = b
  | [], [], _ => rfl
  | [], _ :: _, h => by cases h
  | _ :: _, [], h => by cases h
  | x :: a, y :: b, h => by
    have e := List.cons.inj h
    rw [sg_inj e.1, map_sg_inj e.2]
theorem J_join : ∀ ps : List Str, ps ≠ [] → sg (Str.join ⟨#[32]⟩ ps) = J (ps.map sg)
  | [], h => absurd rfl h
  | [x], _ => rfl
  | x :: y :: r, _ => by
    have ih := J_join (y :: r) (by intro e; cases e)
    show sg (x ++ ⟨#[32]⟩ ++ Str.join ⟨#[32]⟩ (y :: r)) = sg x ++ 32 :: J ((y :: r).map sg)
    rw [sg_app, sg_app, ih]
    show sg x ++ [32] ++ _ = _
    rw [List.append_assoc] <;> rfl
/-- two ways to part one text at its blanks are one -/
theorem part_unique {z : Str} {a b : List Str} (ha : a ≠ []) (hb : b ≠ []) (fa : ∀ p ∈ a, 32 ∉ sg p) (fb : ∀ p ∈ b, 32 ∉ sg p) (ja : J (a.map sg) = sg z) (jb : J (b.map sg) = sg z) : a = b := by
  have h1 := C_J (a.map sg) (by simpa using ha) (by intro p hp; obtain ⟨q, hq, rfl⟩ := List.mem_map.mp hp; exact fa q hq)
  have h2 := C_J (b.map sg) (by simpa using hb) (by intro p hp; obtain ⟨q, hq, rfl⟩ := List.mem_map.mp hp; exact fb q hq)
  rw [ja] at h1
  rw [jb] at h2
  exact map_sg_inj (h1.symm.trans h2)
/-- what holds between two turns of the parting loop: the parts that are done, the one under way -/
structure Parts (pre : List Nat) (ws : List Str) (w : Str) : Prop where
  free : ∀ p ∈ ws ++ [w], 32 ∉ sg p
  join : ((ws.map sg).map (· ++ [32])).flatten ++ sg w = pre
  many : ws.length ≤ pre.length
  len : w.length ≤ pre.length
theorem Parts.start : Parts [] [] ⟨#[]⟩ := by
  refine ⟨?_, rfl, Nat.le_refl _, Nat.le_refl _⟩
  intro p hp
  rw [List.mem_singleton.mp hp]
  intro h
  cases h
theorem Parts.blank {pre : List Nat} {ws : List Str} {w : Str} (P : Parts pre ws w) : Parts (pre ++ [32]) (ws ++ [w]) ⟨#[]⟩ := by
  refine ⟨?_, ?_, ?_, Nat.zero_le _⟩
  · intro p hp
    rcases List.mem_append.mp hp with h | h
    · exact P.free p h
    · rw [List.mem_singleton.mp h]
      intro h
      cases h
  · rw [← P.join]
    simp [sg]
  · have := P.many
    simp only [List.length_append, List.length_singleton]
    omega
theorem Parts.sign {pre : List Nat} {ws : List Str} {w : Str} {c : Nat} (P : Parts pre ws w) (h : c ≠ 32) : Parts (pre ++ [c]) ws (w ++ ⟨#[c]⟩) := by
  have e : sg (w ++ ⟨#[c]⟩) = sg w ++ [c] := sg_app ..
  refine ⟨?_, ?_, ?_, ?_⟩
  · intro p hp
    rcases List.mem_append.mp hp with q | q
    · exact P.free p (List.mem_append_left _ q)
    · rw [List.mem_singleton.mp q, e]
      intro m
      rcases List.mem_append.mp m with m | m
      · exact P.free w (List.mem_append_right _ (List.mem_singleton.mpr rfl)) m
      · exact h (List.mem_singleton.mp m).symm
  · rw [← P.join, e, List.append_assoc]
  · have := P.many
    simp only [List.length_append, List.length_singleton]
    omega
  · have := P.len
    have e2 := congrArg List.length e
    simp only [List.length_append, List.length_singleton] at e2 ⊢
    have e3 : (sg (w ++ ⟨#[c]⟩)).length = (w ++ ⟨#[c]⟩ : Str).length := by simp [sg, Str.length]
    have e4 : (sg w).length = w.length := by simp [sg, Str.length]
    omega
theorem Parts.done {z : Str} {ws : List Str} {w : Str} (P : Parts (sg z) ws w) {b : List Str} (hb : b ≠ []) (fb : ∀ p ∈ b, 32 ∉ sg p) (jb : Str.join ⟨#[32]⟩ b = z) : ws ++ [w] = b := by
  refine part_unique (z := z) (by simp) hb P.free fb ?_ ?_
  · rw [List.map_append, List.map_singleton, J_snoc]
    exact P.join
  · rw [← J_join b hb, jb]
end Blk

namespace L2
open PySem PySem.Spec PyProof.Rows
theorem small {n : Nat} (h : n ≤ 1000) : n ≤ sizeLine := Nat.le_of_lt (small1000 h)
theorem len_toList (z : Str) : z.cps.toList.length = z.length := by simp [Str.length]
theorem at_in {α : Type} {xs : List α} {i : Int} (h0 : 0 ≤ i) (h1 : i < (xs.length : Int)) : ∃ v, xs[i.toNat]? = some v ∧ atI xs i = some v := by
  have hk : i.toNat < xs.length := by omega
  have q : atI xs ((i.toNat : Nat) : Int) = some xs[i.toNat] := atI_nat (List.getElem?_eq_getElem hk)
  have e : ((i.toNat : Nat) : Int) = i := by omega
  rw [e] at q
  exact ⟨_, List.getElem?_eq_getElem hk, q⟩
theorem bt_list : bootBuiltins "list" = some (.type "list") := by decide +kernel
theorem bt_str : bootBuiltins "str" = some (.type "str") := by decide +kernel
theorem bt_bool : bootBuiltins "bool" = some (.type "bool") := by decide +kernel
theorem bt_int : bootBuiltins "int" = some (.type "int") := by decide +kernel
theorem bt_isi : bootBuiltins "isinstance" = some (.builtin "isinstance") := by decide +kernel
theorem bt_tuple : bootBuiltins "tuple" = some (.type "tuple") := by decide +kernel
theorem rel_ty (n : String) : RelV (.ty n) (.type n) := rfl
theorem rel_str (x : Str) (t : Tok) : RelV (.str x) (.str x t) := ⟨t, rfl⟩
/-! ### a text walked sign by sign -/
def Itx (z : Str) : It := ⟨fun i _ => i < z.cps.size, fun i H x H' => H' = H ∧ ∃ c, z.cps[i]? = some c ∧ x = .str ⟨#[c]⟩, fun i _ => i = z.cps.size⟩
section
variable {X : Cx} {tg : Expr}
def iStr (tl : TE) : TI := fun σ H R => tl σ H fun x H1 => ∃ z, x = .str z ∧ R (Itx z) H1
end
section
variable {X : Cx}
/-! ### a sign of a text, at a place that lies in it -/
def rIxSA : R2 := fun x y H Q => ∃ z i, x = .str z ∧ y = .int i ∧ z.length ≤ sizeLine ∧ 0 ≤ i ∧ i < ((z.length : Nat) : Int) ∧ ∀ c, z.cps.toList[i.toNat]? = some c → Q (.str ⟨#[c]⟩) H
theorem ix_strA : IxR X rIxSA := by
  intro value slice pins s σ H x y v u Q I rx ry h hs
  obtain ⟨z, i, rfl, rfl, hz, h0, h1, q⟩ := h
  obtain ⟨c, e1, e2⟩ := at_in (xs := z.cps.toList) h0 (by rw [len_toList]; exact h1)
  exact ix_str value slice pins s σ H _ _ v u Q I rx ry ⟨z, i, c, rfl, rfl, hz, e2, q c e1⟩ hs
/-! ### isinstance(x, a built-in class) -/
def rIsi (K : PySem.W.Frag) : List V → Hp → VK → Prop := fun xs H Q => ∃ x n t b, xs = [x, .ty n] ∧ TyOf K H x t ∧ PySem.W.kitOne K t (.type n) = some b ∧ Q (.bl b) H
theorem call_isi : CallR X (.builtin "isinstance") (rIsi X.K) := by
  intro pins s σ H xs us Q I r h
  obtain ⟨x, n, t, b, rfl, ty, e, q⟩ := h
  obtain ⟨u, w', rfl, r1, r2⟩ := vals2 r
  cases (show w' = Value.type n from r2)
  exact isinst_ok I r1 ty e fun tk => ⟨.bl b, H, I.tok tk, rfl, q⟩
theorem kit_same {K : PySem.W.Frag} (n : String) : PySem.W.kitOne K (.type n) (.type n) = some true := by
  unfold PySem.W.kitOne
  rw [if_pos (beq_self_eq_true _)]
/-! ### lists of flat things: == and != -/
def eqVs (xs ys : List V) : Bool := xs.length == ys.length && (List.range xs.length).all fun j => eqV (xs.getD j .non) (ys.getD j .non)
theorem flat_at {xs : List V} (f : xs.all flatV = true) (j : Nat) : flatV (xs.getD j .non) = true := by
  by_cases h : j < xs.length
  · rw [List.getD_eq_getElem?_getD, List.getElem?_eq_getElem h]
    exact (List.all_eq_true.mp f) _ (List.getElem_mem h)
  · rw [List.getD_eq_getElem?_getD, List.getElem?_eq_none (by omega)]
    rfl
theorem vals_at {xs : List V} {us : List Value} (r : Vals xs us) (j : Nat) (h : j < us.toArray.size) : RelV (xs.getD j .non) (us.toArray[j]) := by
  have hl := r.length
  have h' : j < us.length := by simpa using h
  have h2 : j < xs.length := by omega
  obtain ⟨u, e1, e2⟩ := r.get (List.getElem?_eq_getElem h2)
  rw [List.getD_eq_getElem?_getD, List.getElem?_eq_getElem h2]
  have e3 : us.toArray[j] = u := by
    rw [List.getElem?_eq_getElem h'] at e1
    simpa using Option.some.inj e1
  rw [e3]
  exact e2
def rEqL (K : PySem.W.Frag) (neg : Bool) : R2 := fun x y H Q => ∃ p q xs ys, x = .ref p ∧ y = .ref q ∧ SqL K H p xs ∧ SqL K H q ys ∧ xs.all flatV = true ∧ ys.all flatV = true ∧ Q (.bl (if neg then !eqVs xs ys else eqVs xs ys)) H
theorem op_ne_list (hu : X.A.units < cLine) : OpR X (compareOp .NotEq) (rEqL X.K true) := by
  intro pins s σ H x y v u Q I rx ry h
  obtain ⟨p, q, xs, ys, rfl, rfl, hp, hq, fx, fy, k⟩ := h
  cases rx
  cases ry
  obtain ⟨its, r1, l1, z1⟩ := I.list hp
  obtain ⟨jts, r2, l2, z2⟩ := I.list hq
  have e1 := r1.length
  have e2 := r2.length
  have fin : ∀ b, b = eqVs xs ys → EP X pins σ Q (.bool (!b)) s := fun b e => ⟨.bl (!b), H, I, rfl, by rw [e]; exact k⟩
  by_cases hs : xs.length = ys.length
  · refine SeqAt.RcNeAt.lists (e := fun j => eqV (xs.getD j .non) (ys.getD j .non)) l1.isList l2.isList (by simp; omega) hu (fun j h1 h2 => ?_) X.prog X.w _ _ (fin _ ?_)
    · exact eqAt_V (vals_at r1 j h1) (vals_at r2 j h2) (flat_at fx j) (flat_at fy j)
    · unfold eqVs
      rw [List.size_toArray, ← e1, hs, beq_self_eq_true, Bool.true_and]
  · refine SeqAt.RcNeAt.lists_lengths l1.isList l2.isList (by simp [bne_iff_ne]; omega) hu X.prog X.w _ _ (fin false ?_)
    unfold eqVs
    rw [beq_eq_false_iff_ne.mpr hs, Bool.false_and]
theorem op_eq_list (hu : X.A.units < cLine) : OpR X (compareOp .Eq) (rEqL X.K false) := by
  intro pins s σ H x y v u Q I rx ry h
  obtain ⟨p, q, xs, ys, rfl, rfl, hp, hq, fx, fy, k⟩ := h
  cases rx
  cases ry
  obtain ⟨its, r1, l1, z1⟩ := I.list hp
  obtain ⟨jts, r2, l2, z2⟩ := I.list hq
  have e1 := r1.length
  have e2 := r2.length
  have fin : ∀ b, b = eqVs xs ys → EP X pins σ Q (.bool b) s := fun b e => ⟨.bl b, H, I, rfl, by rw [e]; exact k⟩
  by_cases hs : xs.length = ys.length
  · refine SeqAt.RcAt.lists (e := fun j => eqV (xs.getD j .non) (ys.getD j .non)) l1.isList l2.isList (by simp; omega) hu (fun j h1 h2 => ?_) X.prog X.w _ _ (fin _ ?_)
    · exact eqAt_V (vals_at r1 j h1) (vals_at r2 j h2) (flat_at fx j) (flat_at fy j)
    · unfold eqVs
      rw [List.size_toArray, ← e1, hs, beq_self_eq_true, Bool.true_and]
  · refine SeqAt.RcAt.lists_lengths l1.isList l2.isList (by simp [bne_iff_ne]; omega) hu X.prog X.w _ _ (fin false ?_)
    unfold eqVs
    rw [beq_eq_false_iff_ne.mpr hs, Bool.false_and]
theorem eqV_refl {x : V} (f : flatV x = true) : eqV x x = true := by
  cases x with
  | non => rfl
  | bl b => exact beq_self_eq_true b
  | int i => exact beq_self_eq_true i
  | str z => exact beq_self_eq_true z
  | _ => exact absurd (show false = true from f) Bool.false_ne_true
theorem eqVs_refl {xs : List V} (f : xs.all flatV = true) : eqVs xs xs = true := by
  unfold eqVs
  rw [beq_self_eq_true, Bool.true_and]
  exact List.all_eq_true.mpr fun j _ => eqV_refl (flat_at f j)
/-! ### x.split(y) -/
def rSplit : V → List V → Hp → VK → Prop := fun x vs H Q => ∃ z y, x = .str z ∧ vs = [.str y] ∧ (y.length == 0) = false ∧ z.length + 2 ≤ sizeLine ∧ ∀ p, H p = none → Q (.ref p) (upd H p (.lst ((Txt.split z y).map V.str)))
end
/-! ### heaps -/
theorem same_new {H : Hp} {p : Addr} (h : H p = none) (o : HO) : Same H (upd H p o) := fun b u q => by rw [upd_ne (ne_of_none q h)]; exact q
theorem same_on {H H' : Hp} {p : Addr} (h : H p = none) (e : Same H H') (o : HO) : Same H (upd H' p o) := fun b u q => by rw [upd_ne (ne_of_none q h)]; exact e b u q
end L2

namespace L2
open PySem PySem.Spec PyProof.Rows
/-! ### the cells that a comprehension's block takes along -/
def closOf (cells : List (Str × Addr)) : List (Str × NameKind) → List (Str × Addr) → List (Str × Addr)
  | [], acc => acc
  | (n, k) :: r, acc => closOf cells r (if (k == .free) = true then (n, (cells.lookup n).getD 0) :: acc else acc)
theorem closureFor_of {scope : Scope} {env : Env} (h : ∀ p ∈ scope.names, p.2 = .free → (env.cells.lookup p.1).isSome = true) : closureFor scope env = pure (closOf env.cells scope.names []) := by
  obtain ⟨kd, names, g1, g2, more⟩ := scope
  simp only [closureFor]
  dsimp only at h ⊢
  generalize ([] : List (Str × Addr)) = acc
  induction names generalizing acc with
  | nil => rfl
  | cons p r ih =>
    obtain ⟨n, k⟩ := p
    have hr : ∀ p ∈ r, p.2 = .free → (env.cells.lookup p.1).isSome = true := fun p hp => h p (List.mem_cons_of_mem _ hp)
    have ih' := ih hr
    simp only [closOf]
    by_cases hk : k = .free
    · subst hk
      obtain ⟨c, hc⟩ := Option.isSome_iff_exists.mp (h (n, .free) List.mem_cons_self rfl)
      have hc' : List.lookup n env.cells = some c := hc
      rw [show (NameKind.free == NameKind.free) = true from rfl, if_pos rfl, hc']
      have e : cellOf env n = pure c := by unfold cellOf; rw [hc']
      have q := ih' ((n, c) :: acc)
      simp only [List.forIn_cons, beq_self_eq_true, if_true, e, pure_bind, Option.getD_some]
      exact q
    · have hb : (k == NameKind.free) = false := by simpa using hk
      have q := ih' acc
      simp only [List.forIn_cons, hb, Bool.false_eq_true, if_false, pure_bind]
      exact q
theorem closOf_in {cells : List (Str × Addr)} {y : Str} {c : Addr} : ∀ (names : List (Str × NameKind)) (acc : List (Str × Addr)), (∀ p ∈ names, p.2 = .free → (cells.lookup p.1).isSome = true) →
    (∀ y c, acc.lookup y = some c → cells.lookup y = some c) → (closOf cells names acc).lookup y = some c → cells.lookup y = some c
  | [], _, _, ha, h => ha _ _ h
  | (n, k) :: r, acc, hn, ha, h => by
    refine closOf_in r _ (fun p hp => hn p (List.mem_cons_of_mem _ hp)) (fun y c hy => ?_) h
    by_cases hk : (k == NameKind.free) = true
    · rw [if_pos hk] at hy
      rw [List.lookup_cons] at hy
      by_cases e : (y == n) = true
      · rw [e] at hy
        obtain ⟨d, hd⟩ := Option.isSome_iff_exists.mp (hn (n, k) List.mem_cons_self (by simpa using hk))
        have hd' : cells.lookup n = some d := hd
        have hy' : (cells.lookup n).getD 0 = c := Option.some.inj hy
        rw [hd'] at hy'
        rw [eq_of_beq e, hd']
        exact congrArg some hy'
      · rw [Bool.eq_false_iff.mpr e] at hy
        exact ha y c hy
    · rw [if_neg hk] at hy
      exact ha y c hy
theorem closOf_has {cells : List (Str × Addr)} {y : Str} : ∀ (names : List (Str × NameKind)) (acc : List (Str × Addr)), ((acc.lookup y).isSome = true ∨ (y, NameKind.free) ∈ names) → ((closOf cells names acc).lookup y).isSome = true
  | [], acc, h => h.elim id (fun z => by cases z)
  | (n, k) :: r, acc, h => by
    refine closOf_has r _ ?_
    rcases h with h | h
    · refine .inl ?_
      by_cases hk : (k == NameKind.free) = true
      · rw [if_pos hk, List.lookup_cons]
        by_cases e : (y == n) = true
        · rw [e]; rfl
        · rw [Bool.eq_false_iff.mpr e]; exact h
      · rw [if_neg hk]; exact h
    · rcases List.mem_cons.mp h with e | h
      · cases e
        refine .inl ?_
        rw [if_pos (show (NameKind.free == NameKind.free) = true from rfl), List.lookup_cons, beq_self_eq_true]
        rfl
      · exact .inr h
/-- the context of a comprehension's block -/
def compCx (X : Cx) (scope : Scope) (N' : List Str) (C : Addr) (ex : List Addr) (s₂ : Shared) (H₂ : Hp) : Cx where
  prog := X.prog
  w := X.w
  K := X.K
  mg := X.mg
  base := X.base
  A := X.A
  N := N'
  s₀ := s₂
  H₀ := H₂
  env := compEnvC scope (closOf X.env.cells scope.names []) C X.env
  outer := X.stack
  stack := X.stack
  ex := ex
  fn := fun _ => false
  calm := X.calm
  pn := []
  xe := fun _ _ => False
def FreesOk (X : Cx) (scope : Scope) : List (Str × Nat) → Prop
  | [] => True
  | p :: r => (X.N[p.2]? = some p.1 ∧ X.env.kindOf p.1 = some .cell ∧ (relabel scope X.env).names.lookup p.1 = some .cell ∧ (p.1, NameKind.free) ∈ scope.names) ∧ FreesOk X scope r
theorem FreesOk.at {X : Cx} {scope : Scope} : ∀ {fr : List (Str × Nat)}, FreesOk X scope fr → ∀ p ∈ fr, X.N[p.2]? = some p.1 ∧ X.env.kindOf p.1 = some .cell ∧ (relabel scope X.env).names.lookup p.1 = some .cell ∧ (p.1, NameKind.free) ∈ scope.names
  | [], _, p, hp => by cases hp
  | _ :: _, h, p, hp => by
    rcases List.mem_cons.mp hp with e | hp
    · rw [e]; exact h.1
    · exact FreesOk.at h.2 p hp
/-- the block's names: the loop's own, then those of the def around it -/
def inSt (frees : List (Str × Nat)) (σ : St) (x : Option V) : St := x :: frees.map fun p => (σ[p.2]?).join
/-- the tests of a clause -/
def PIfs (X : Cx) (ifs : List Expr) (t : TT) : Prop :=
  ∀ (pins : List (Addr × Obj)) (s : Shared) (σ : St) (H : Hp) (Q : Bool → Hp → Prop), Inv X pins σ H s → t σ H Q →
    wpAny (model X.prog X.w) X.A (forIn ifs true fun c r => if r = true then do let ok ← isTrue c X.env (eval c X.env); pure (ForInStep.yield ok) else pure (ForInStep.yield r)) (TP X pins σ Q) X.xe s
theorem pifs_nil {X : Cx} : PIfs X [] (fun _ H Q => Q true H) := fun _ _ _ H _ I h => wpAny_tests_nil ⟨H, I, h⟩
/-- what the block wants: W, by the turn, a measure, the items so far, the heap -/
def CompB (J : It) (tc : TT) (te : TE) (σf : Option V → St) (H1 : Hp) (Q : VK) : Prop := ∀ D, H1 D = none →
  ∃ W : Nat → Nat → List V → Hp → Prop, (∃ m, W 0 m [] (upd H1 D (.lst []))) ∧ ∀ i m ys H2, W i m ys H2 → H2 D = some (.lst ys) ∧
    ((J.stop i H2 ∧ Q (.ref D) H2) ∨ (J.go i H2 ∧ ys.length < sizeLine ∧ ∀ x H3, J.yld i H2 x H3 → tc (σf (some x)) H3 fun b H4 =>
      if b = true then te (σf (some x)) H4 fun y H5 => H5 D = some (.lst ys) ∧ ∃ m', m' < m ∧ W (i + 1) m' (ys ++ [y]) (upd H5 D (.lst (ys ++ [y]))) else ∃ m', m' < m ∧ W (i + 1) m' ys H4))
section
variable {prog : Program} {w : World} {A : Around} {R : Result → Shared → Prop} {s : Shared}
theorem comp_loop {elt target iter : Expr} {ifs : List Expr} {scope : Scope} {pos : Pos} {it acc : Value} {env : Env} (I : Nat → Shared → Prop)
    (turn : ∀ n s, I n s → wpAny (model prog w) A (pyNext it) (fun r s₁ => match r with
      | none => R (.ok .next) s₁
      | some v => wpAny (model prog w) A (letOwnedTupleGo target it v) (fun _ s₁' => wpAny (model prog w) A (assign target env v) (fun _ s₂ =>
          wpAny (model prog w) A (forIn ifs true fun c r => if r = true then do let ok ← isTrue c env (eval c env); pure (ForInStep.yield ok) else pure (ForInStep.yield r)) (fun ok s₃ =>
            if ok = true then wpAny (model prog w) A (eval elt env) (fun x s₄ =>
              wpAny (model prog w) A (call (.builtin "list.append") [acc, x]) (fun _ s₅ => ∃ m, m < n ∧ I m s₅) (fun _ _ => False) s₄) (fun _ _ => False) s₃
            else ∃ m, m < n ∧ I m s₃) (fun _ _ => False) s₂) (fun _ _ => False) s₁') (fun _ _ => False) s₁) (fun _ _ => False) s)
    (n : Nat) (h : I n s) :
    codeAny (model prog w) A (.compLoop (.ListComp elt [⟨target, iter, ifs, 0⟩] scope pos) 0 it acc env) R s := by
  have no : ∀ {α : Type} {t : Sem α} {Q : α → Shared → Prop} {E : Value → Shared → Prop} {s : Shared}, wpAny (model prog w) A t Q (fun _ _ => False) s → wpAny (model prog w) A t Q E s := fun h => wpAny_mono h (fun _ _ q => q) fun _ _ f => f.elim
  refine codeAny_loop rfl I (fun n s hI => ?_) n h
  show wpAny _ A ((compTurn (.ListComp elt [⟨target, iter, ifs, 0⟩] scope pos) 0 it acc env).onRaise (fun x => do noteFrame x env; theTreesLotGoes x)) _ _ s
  refine wpAny_noted ?_
  rw [compTurn_list]
  refine wpAny_bind (wpAny_standAt (wpAny_bind (wpAny_mono (turn n s hI) (fun r s₁ h₁ => ?_) fun _ _ h' => h'.elim)))
  cases r with
  | none => exact wpAny_pure h₁
  | some v =>
    refine wpAny_bind (wpAny_mono h₁ (fun _ s₁' h₁' => ?_) fun _ _ h' => h'.elim)
    refine wpAny_bind (wpAny_mono h₁' (fun _ s₂ h₂ => wpAny_bind (wpAny_mono h₂ (fun ok s₃ h₃ => ?_) fun _ _ h' => h'.elim)) fun _ _ h' => h'.elim)
    cases ok with
    | false => exact wpAny_pure ⟨rfl, h₃⟩
    | true =>
      exact wpAny_bind (wpAny_bind (wpAny_mono h₃ (fun x s₄ h₄ => wpAny_bind (wpAny_mono h₄ (fun _ s₅ h₅ => wpAny_pure (wpAny_pure ⟨rfl, h₅⟩)) fun _ _ h' => h'.elim)) fun _ _ h' => h'.elim))
end
section
variable {X : Cx} {elt iter : Expr} {x : Str} {px pos : Pos} {ifs : List Expr} {scope : Scope} {frees : List (Str × Nat)} {tc : TT} {te : TE}
/-- what the text of a comprehension must be -/
structure CompOk (X : Cx) (scope : Scope) (x : Str) (frees : List (Str × Nat)) : Prop where
  cell : ∀ y ∈ scope.names, y.2 ≠ .cell
  kind : scope.kind = .function
  own : scope.names.lookup x = some .local
  names : ∀ y ∈ scope.names, y.2 = .local → scope.names.lookup y.1 = some .local
  fr : FreesOk X scope frees
  nd : (x :: frees.map (·.1)).Nodup
  cl : ∀ p ∈ scope.names, p.2 = .free → (X.env.cells.lookup p.1).isSome = true
  calm : X.calm = true
theorem relabel_free {scope : Scope} {env : Env} {y : Str} (hc : ∀ y ∈ scope.names, y.2 ≠ .cell) (h : (relabel scope env).names.lookup y = some .cell ∨ (relabel scope env).names.lookup y = some .free) : (y, NameKind.free) ∈ scope.names := by
  have key : ∀ k, (relabel scope env).names.lookup y = some k → k ≠ .local → k = .cell ∨ k = .free → (y, NameKind.free) ∈ scope.names := fun k hk _ hkk => by
    have hm := PySem.mem_of_lookup hk
    obtain ⟨⟨n, k0⟩, hm0, e⟩ := List.mem_map.mp hm
    by_cases hcond : (k0 == NameKind.free && env.scope.kind == .function && env.kindOf n == some .cell) = true
    · have e' : (n, NameKind.cell) = (y, k) := by rw [← e]; exact (if_pos hcond).symm
      have hk0 : k0 = .free := by
        rw [Bool.and_eq_true, Bool.and_eq_true] at hcond
        exact eq_of_beq hcond.1.1
      have en : n = y := congrArg Prod.fst e'
      rw [← en, ← hk0]
      exact hm0
    · have e' : (n, k0) = (y, k) := by rw [← e]; exact (if_neg hcond).symm
      have en : n = y := congrArg Prod.fst e'
      have ek : k0 = k := congrArg Prod.snd e'
      rcases hkk with hkk | hkk
      · exact absurd (ek.trans hkk) (hc _ hm0)
      · rw [← en, ← hkk, ← ek]
        exact hm0
  rcases h with h | h
  · exact key _ h (by decide) (.inl rfl)
  · exact key _ h (by decide) (.inr rfl)
theorem comp_core {pins : List (Addr × Obj)} {σ : St} {H1 : Hp} {s₂ : Shared} {it : Addr} {fp : List Addr} {tn : Nat → Heap → Prop} {J : It} {Q : VK} {RR : Value → Addr → Result → Shared → Prop} {E : Value → Shared → Prop}
    (O : CompOk X scope x frees) (hc : ∀ C ex s₂ H₂, PIfs (compCx X scope (x :: frees.map (·.1)) C ex s₂ H₂) ifs tc) (he : ∀ C ex s₂ H₂, PE (compCx X scope (x :: frees.map (·.1)) C ex s₂ H₂) elt te)
    (I : Inv X pins σ H1 s₂) (T : Turn X.prog X.w X.K (.Name x px) J fp it tn) (st : tn 0 s₂.heap) (hf : ∀ b ∈ fp, FpOk X pins H1 b) (hB : CompB J tc te (inSt frees σ) H1 Q)
    (hRR : ∀ D C H' s', Inv X pins σ H' s' → (∃ m, s'.heap.Ns C m) → FpOk X pins H' C → Q (.ref D) H' → RR (.ref D) C (.ok .next) s') :
    wpAny (model X.prog X.w) X.A (newList []) (fun acc s₃ => wpAny (model X.prog X.w) X.A (newFunctionEnv scope X.env.globals (closOf X.env.cells scope.names []) [] X.env.qual none .none (some X.env)) (fun cenv s₄ =>
      codeAny (model X.prog X.w) X.A (.compStart (.ListComp elt [⟨.Name x px, iter, ifs, 0⟩] scope pos) 0 (.ref it) acc { cenv with scope := relabel scope X.env }) (RR acc cenv.locals) s₄) E s₃) E s₂ := by
  refine wpAny_newObj_type (wpAny_newFunctionEnv O.cell (by intro y hy; simp at hy) (fun h₁ hns₁ hsb₁ => ?_) O.kind)
  dsimp only at hns₁ hsb₁ ⊢
  generalize hH2 : s₂.heap.push { cls := .type "list", dict := none, data := .seq ([] : List Value).toArray } = H2 at hns₁ hsb₁ ⊢
  have hC : H2.objs.size = s₂.heap.objs.size + 1 := by rw [← hH2, Heap.size_push]
  have hDC : s₂.heap.objs.size ≠ H2.objs.size := by rw [hC]; exact Nat.ne_of_lt (Nat.lt_succ_self _)
  have hCle : s₂.heap.objs.size ≤ H2.objs.size := by rw [hC]; exact Nat.le_succ _
  have below : ∀ b, b < s₂.heap.objs.size → b ≠ H2.objs.size ∧ b ≠ s₂.heap.objs.size := fun b hb => ⟨by rw [hC]; exact Nat.ne_of_lt (Nat.lt_succ_of_lt hb), Nat.ne_of_lt hb⟩
  have old : ∀ b o, s₂.heap.get? b = some o → h₁.get? b = some o := fun b o e => hsb₁.extBut b o (below b (Heap.lt_size e)).1 (Heap.get?_push_of_some _ (hH2 ▸ Heap.get?_push_of_some _ e))
  have hacc : h₁.get? s₂.heap.objs.size = some { cls := .type "list", data := .seq ([] : List Value).toArray } := hsb₁.extBut _ _ hDC (Heap.get?_push_of_some _ (hH2 ▸ Heap.get?_push_size _ rfl))
  have nD : H1 s₂.heap.objs.size = none := I.hok.fresh (Nat.le_refl _)
  obtain ⟨W, ⟨m0, w0⟩, hW⟩ := hB s₂.heap.objs.size nD
  -- the block's context and its first state
  let X' : Cx := compCx X scope (x :: frees.map (·.1)) H2.objs.size fp s₂ H1
  have inC : ∀ y c, (closOf X.env.cells scope.names []).lookup y = some c → X.env.cells.lookup y = some c := fun y c h => closOf_in scope.names [] O.cl (fun y c h => by cases h) h
  have fpl : ∀ b ∈ fp, b < s₂.heap.objs.size := fun b hb => by
    obtain ⟨o, e, _⟩ := T.obj _ _ st b hb
    exact Heap.lt_size e
  have ok' : X'.Ok := by
    refine ⟨I.ok.mod, O.kind, I.ok.glob, I.ok.blt, hCle, fun y z c h1 h2 => I.ok.inj y z c (inC y c h1) (inC z c h2), fun y hy => ?_, fun y c h _ => (by cases h), I.ok.hd, I.ok.frames, .inl rfl, fun b hb => ?_, I.bs, Nat.le_trans I.ok.bsz I.sz, fun b o e hb => ?_, fun b hb z => ?_, I.stack, I.stkFree⟩
    · exact Option.isSome_iff_exists.mp (closOf_has scope.names [] (.inr (relabel_free O.cell hy)))
    · exact ⟨(below b (fpl b hb)).1, fun y c h => (hf b hb).2.2.2.2.1 y c (inC y c h)⟩
    · rcases (hf b hb).2.2.2.1 with z | z
      · exact I.ok.noex b o e z
      · exact absurd (Nat.lt_of_lt_of_le (Nat.lt_of_lt_of_le (Heap.lt_size e) I.ok.bsz) z) (Nat.lt_irrefl _)
    · exact (List.mem_cons.mp (I.stkSub b z)).elim (hf b hb).2.1 (hf b hb).2.2.1
  have hok1 : HOk X.prog X.w (upd H1 s₂.heap.objs.size (.lst [])) h₁ := I.hok.laid old (Nat.le_refl _) ⟨Nat.zero_le _, [], 0, .nil, hacc⟩
  have I0 : ∀ tk, Inv X' [] (inSt frees σ none) (upd H1 s₂.heap.objs.size (.lst [])) { s₂ with heap := h₁, toks := tk } := fun tk => by
    refine ⟨ok', rfl, I.bare, Un.laid old (Nat.le_refl _) nD, ⟨_, hns₁, fun i y v h1 h2 h3 => ?_⟩, fun y c h => ?_, ?_, fun y c h => ?_, fun p hp => absurd (show p ∈ ([] : List (Addr × Obj)) from hp) (by simp), hok1, ?_⟩
    · cases i with
      | zero =>
        have h2' : (none : Option V) = some v := Option.some.inj h2
        cases h2'
      | succ j =>
        have h1' : (frees.map (·.1))[j]? = some y := h1
        have h2' : (frees.map fun p => (σ[p.2]?).join)[j]? = some (some v) := h2
        rw [List.getElem?_map] at h1' h2'
        cases e : frees[j]? with
        | none => rw [e] at h1'; cases h1'
        | some p =>
          rw [e] at h1' h2'
          have e1 : p.1 = y := Option.some.inj h1'
          have e2 : (σ[p.2]?).join = some v := Option.some.inj h2'
          obtain ⟨g1, g2, g3, g4⟩ := O.fr.at p (List.mem_of_getElem? e)
          have e3 : σ[p.2]? = some (some v) := by
            cases q : σ[p.2]? with
            | none => rw [q] at e2; cases e2
            | some o => rw [q] at e2; exact congrArg some e2
          obtain ⟨m, hn, hl⟩ := I.loc
          obtain ⟨u, r, l⟩ := hl p.2 p.1 v g1 e3 (.inr (.inl g2))
          refine ⟨u, r, ?_⟩
          rcases l with ⟨k, _⟩ | ⟨_, c, hc1, hc2⟩
          · rw [g2] at k; cases k
          · obtain ⟨c2, hc3⟩ := Option.isSome_iff_exists.mp (closOf_has (cells := X.env.cells) scope.names [] (.inr g4))
            have hc4 := inC _ _ hc3
            rw [hc1] at hc4
            cases hc4
            rw [← e1]
            refine .inr ⟨.inl g3, c, hc3, ?_⟩
            obtain ⟨o, ho, hd⟩ := hc2
            exact ⟨o, old c o ho, hd⟩
    · obtain ⟨v, o, ho, hd⟩ := I.cell y c (inC y c h)
      exact ⟨v, o, old c o ho, hd⟩
    · show upd H1 s₂.heap.objs.size (.lst []) H2.objs.size = none
      rw [upd_ne (Ne.symm hDC)]
      exact I.hok.fresh hCle
    · obtain ⟨v, o, ho, hd⟩ := I.cell y c (inC y c h)
      rw [upd_ne (below c (Heap.lt_size ho)).2]
      exact I.freeC y c (inC y c h)
    · show (inSt frees σ none).length = (x :: frees.map (·.1)).length
      simp [inSt]
  have stat : ∀ {H' : Hp}, (∀ b ∈ fp, H' b = none) → ∀ b ∈ fp, FpOk X' [] H' b := fun hn b hb =>
    ⟨hn b hb, (below b (fpl b hb)).1, fun z => (List.mem_cons.mp (I.stkSub b z)).elim (hf b hb).2.1 (hf b hb).2.2.1, .inl hb, fun y c h => (hf b hb).2.2.2.2.1 y c (inC y c h), fun p hp => absurd (show p ∈ ([] : List (Addr × Obj)) from hp) (by simp)⟩
  have hst₁ : tn 0 h₁ := T.keep _ _ _ st fun b _ o e => old b o e
  have fr0 : ∀ b ∈ fp, (upd H1 s₂.heap.objs.size (.lst [])) b = none := fun b hb => by
    rw [upd_ne (below b (fpl b hb)).2]
    exact (hf b hb).1
  have loop : ∀ tk, codeAny (model X.prog X.w) X.A (.compLoop (.ListComp elt [⟨.Name x px, iter, ifs, 0⟩] scope pos) 0 (.ref it) (.ref s₂.heap.objs.size) X'.env) (RR (.ref s₂.heap.objs.size) H2.objs.size) { s₂ with heap := h₁, toks := tk } := fun tk => by
    refine comp_loop (fun n s' => ∃ i ys o H', Inv X' [] (inSt frees σ o) H' s' ∧ tn i s'.heap ∧ (∀ b ∈ fp, H' b = none) ∧ W i n ys H') ?_ m0 ⟨0, [], none, _, I0 tk, hst₁, fr0, w0⟩
    rintro n s3 ⟨i, ys, o3, H3, I3, st3, fr3, w3⟩
    obtain ⟨hD3, alt⟩ := hW i n ys H3 w3
    rcases alt with ⟨stop, q⟩ | ⟨go, hlt, step⟩
    · refine thn (T.done X' rfl rfl rfl O.calm i [] s3 _ H3 _ I3 (stat fr3) st3 stop) fun r s4 ⟨hr, I4⟩ => ?_
      subst hr
      have J4 : Inv X pins σ H3 s4 := I.call' (ch := fp) I4.os I4.base I4.hok I4.bare fun b hb => ⟨(hf b hb).2.2.2.1, (hf b hb).2.1, (hf b hb).2.2.2.2.1, (hf b hb).2.2.2.2.2⟩
      obtain ⟨m4, hn4, _⟩ := I4.loc
      exact hRR _ _ H3 s4 J4 ⟨m4, hn4⟩ (I.fpOk hCle I4.free) q
    · refine thn (T.item X' rfl rfl rfl O.calm i [] s3 _ H3 _ I3 (stat fr3) st3 go) fun r s4 ⟨u, hr, h4⟩ => ?_
      subst hr
      refine thn h4 fun _ s5 ⟨v, H5, I5, r5, y5, st5, fr5⟩ => ?_
      have I5' := I5.pinned (stat fr5) (T.obj _ _ st5)
      have tail : ∀ {σ7 : St} {H7 : Hp} {s7 : Shared}, Inv X' ([] ++ pinsAt fp s5.heap) σ7 H7 s7 → Inv X' [] σ7 H7 s7 ∧ tn (i + 1) s7.heap ∧ ∀ b ∈ fp, H7 b = none := fun {σ7 H7 s7} I7 => by
        refine ⟨I7.unpinned, T.keep _ _ _ st5 fun b hb o e => (I7.pin (b, o) (List.mem_append_right _ (List.mem_append_right _ (mem_pinsAt hb e)))).1, fun b hb => ?_⟩
        obtain ⟨o, e, d⟩ := T.obj _ _ st5 b hb
        exact (I7.pin (b, o) (List.mem_append_right _ (List.mem_append_right _ (mem_pinsAt hb e)))).2.1
      have hg : PG X' (.Name x px) (gName 0) := pg_name O.nd rfl (Or.inl (lookup_relabel_local O.own)) (.inr (lookup_relabel_local O.own))
      refine thn (hg _ s5 _ H5 v u (fun σ6 H6 => σ6 = inSt frees σ (some v) ∧ H6 = H5) I5' r5 ⟨rfl, rfl⟩) fun _ s6 ⟨σ6, H6, I6, e6, e6'⟩ => ?_
      subst e6 e6'
      refine thn (hc _ _ _ _ _ s6 _ _ _ I6 (step v _ y5)) fun b s7 ⟨H7, I7, q7⟩ => ?_
      cases b with
      | false =>
        obtain ⟨m', hm, w7⟩ := (show ∃ m', m' < n ∧ W (i + 1) m' ys H7 from q7)
        obtain ⟨t1, t2, t3⟩ := tail I7
        exact ⟨m', hm, i + 1, ys, some v, H7, t1, t2, t3, w7⟩
      | true =>
        refine thn (he _ _ _ _ _ s7 _ _ _ I7 q7) fun y s8 ⟨y', H8, I8, r8, hD8, m', hm, w8⟩ => ?_
        refine thn (mt_append (X := X') _ s8 _ H8 (.ref s₂.heap.objs.size) [y'] _ [y] (fun _ H9 => H9 = upd H8 s₂.heap.objs.size (.lst (ys ++ [y']))) I8 rfl (.cons r8 .nil) ⟨_, _, _, rfl, rfl, hD8, hlt, rfl⟩) fun _ s9 ⟨_, H9, I9, _, e9⟩ => ?_
        subst e9
        obtain ⟨t1, t2, t3⟩ := tail I9
        exact ⟨m', hm, i + 1, ys ++ [y'], some v, _, t1, t2, t3, w8⟩
  exact codeAny_compStart_list (loop _) (T.self _ 0 _ _ _ hst₁ (loop _))
/-- [elt for x in iter if ..] -/
def tComp (frees : List (Str × Nat)) (tc : TT) (te : TE) (wi : TI) : TE := fun σ H Q => wi σ H fun J H1 => CompB J tc te (inSt frees σ) H1 Q
theorem pe_comp {wi : TI} (O : CompOk X scope x frees) (hxe : X.xe = fun _ _ => False) (hi : PI X (.Name x px) iter wi)
    (hc : ∀ C ex s₂ H₂, PIfs (compCx X scope (x :: frees.map (·.1)) C ex s₂ H₂) ifs tc) (he : ∀ C ex s₂ H₂, PE (compCx X scope (x :: frees.map (·.1)) C ex s₂ H₂) elt te)
    (hs : ∀ x, foldedSetIterable iter X.env x = pure x := by intro _; rfl) : PE X (.ListComp elt [⟨.Name x px, iter, ifs, 0⟩] scope pos) (tComp frees tc te wi) := by
  intro pins s σ H Q I h
  rw [eval_ListComp]
  refine wpAny_comprehension_free (use := none) rfl hs (closureFor_of O.cl) O.kind O.names (thn (hi pins s σ H _ I h) fun xv s₁ h₁ => thn h₁ fun itv s₂ h₂ => ?_)
  obtain ⟨it, fp, tn, J, H2, e, I2, T, st2, f2, hB⟩ := h₂
  subst e
  refine comp_core (RR := fun acc C => compPost (model X.prog X.w) X.A X.xe none (EP X pins σ Q) acc C) O hc he I2 T st2 f2 hB ?_
  intro D C H' s' I' hn hC q
  obtain ⟨m, hn⟩ := hn
  refine ⟨m, hn, fun h' hs' => ?_⟩
  exact ⟨.ref D, H', I'.turned (t' := s'.toks) (fun b o hb e => hs'.extBut b o hb e) hC.1 hC.2.1 hC.2.2.2.1 hC.2.2.2.2.1 hC.2.2.2.2.2, rfl, q⟩
/-- y = [elt for x in iter if ..], y a local of the def -/
theorem ps_comp {wi : TI} {i : Nat} {y : Str} {py spos : Pos} (O : CompOk X scope x frees) (hN : X.N.Nodup) (hiy : X.N[i]? = some y) (hy : X.env.kindOf y = some .local) (hsw : swapsWith (.ListComp elt [⟨.Name x px, iter, ifs, 0⟩] scope pos) (some (.Name y py)) spos.line X.env = pure true)
    (hi : PI X (.Name x px) iter wi) (hc : ∀ C ex s₂ H₂, PIfs (compCx X scope (x :: frees.map (·.1)) C ex s₂ H₂) ifs tc) (he : ∀ C ex s₂ H₂, PE (compCx X scope (x :: frees.map (·.1)) C ex s₂ H₂) elt te)
    (hs : ∀ x, foldedSetIterable iter X.env x = pure x := by intro _; rfl) : PS X (.Assign [.Name y py] (.ListComp elt [⟨.Name x px, iter, ifs, 0⟩] scope pos) spos) (tAsg (tComp frees tc te wi) (gName i)) := by
  intro pins s σ H D I h
  rw [exec_Assign_Name_used _ _ _ _ hsw]
  refine wpAny_bind (wpAny_standAt (wpAny_bind ?_))
  show wpAny _ X.A (do let _ ← comprehension (.ListComp elt [⟨.Name x px, iter, ifs, 0⟩] scope pos) scope X.env _ (newList []) false (eval iter X.env) (some (assign (.Name y py) X.env))) _ _ s
  refine wpAny_bind (wpAny_mono (wpAny_comprehension_free (use := some (assign (.Name y py) X.env)) (Q := fun _ s' => SP X pins D .next s') rfl hs (closureFor_of O.cl) O.kind O.names
    (thn (hi pins s σ H _ I h) fun xv s₁ h₁ => thn h₁ fun itv s₂ h₂ => ?_)) (fun _ s' hq => wpAny_pure (wpAny_pure hq)) fun _ _ e => e)
  obtain ⟨it, fp, tn, J, H2, e, I2, T, st2, f2, hB⟩ := h₂
  subst e
  refine comp_core (RR := fun acc C => compPost (model X.prog X.w) X.A X.xe (some (assign (.Name y py) X.env)) (fun _ s' => SP X pins D .next s') acc C) O hc he I2 T st2 f2 hB ?_
  intro A C H' s' I' hn hC q
  obtain ⟨m, hn⟩ := hn
  obtain ⟨oC, es, ep, hoC, hdC, hr⟩ := id hn
  have I'' : Inv X (pins ++ [(C, oC)]) σ H' s' := I'.pins_of fun p hp => (List.mem_append.mp hp).elim (fun z => I'.pin p (List.mem_append_right _ z)) fun z => by
    rw [List.mem_singleton.mp z]
    exact ⟨hoC, hC.1, hC.2.1, hC.2.2.1, fun v e => by rw [hdC] at e; cases e⟩
  show wpAny _ X.A (assign (.Name y py) X.env (.ref A)) _ _ _
  refine wpAny_assign_Name (store_ok I'' hN hiy (.inl hy) (v := .ref A) rfl (fun s3 I3 => ?_) (.inr hy))
  have hC3 := (I3.pin (C, oC) (List.mem_append_right _ (List.mem_append_right _ (List.mem_singleton.mpr rfl)))).1
  have J3 : Inv X pins (σ.set i (some (.ref A))) H' s3 := I3.unpinned
  refine ⟨m, ⟨oC, es, ep, hC3, hdC, hr⟩, fun h' hs' => ?_⟩
  exact ⟨_, H', J3.turned (t' := s3.toks) (fun b o hb e => hs'.extBut b o hb e) hC.1 hC.2.1 hC.2.2.2.1 hC.2.2.2.2.1 hC.2.2.2.2.2, q⟩
end
end L2

namespace L2
open PySem PySem.Spec PyProof.Rows
section
variable {X : Cx}
/-! ### all(..) of a list of truths -/
/-! ### methods of texts -/
theorem strs_of : ∀ {ws : List Str} {us : List Value}, Vals (ws.map V.str) us → ∃ l : List (Str × Tok), us = strValues l ∧ l.map (·.1) = ws
  | [], us, r => by
    cases r
    exact ⟨[], rfl, rfl⟩
  | w :: ws, us, r => by
    cases r with
    | cons r1 r2 =>
      obtain ⟨t, rfl⟩ := r1
      obtain ⟨l, rfl, e⟩ := strs_of r2
      exact ⟨(w, t) :: l, rfl, by rw [← e]; rfl⟩
theorem mt_join : MtR X "str.join" (fun x vs H Q => ∃ (z : Str) (p : Addr) (ws : List Str), x = .str z ∧ vs = [.ref p] ∧ SqL X.K H p (ws.map V.str) ∧ JoinOk z ws = true ∧ Q (.str (Txt.join z ws)) H) := by
  intro pins s σ H x vs v us Q I rx rv h
  obtain ⟨z, p, ws, rfl, rfl, hq, hj, q⟩ := h
  obtain ⟨t, rfl⟩ := rx
  obtain ⟨u', rfl, ru⟩ := rv.one
  cases ru
  obtain ⟨its, r, pl, hz⟩ := I.list hq
  obtain ⟨l, rfl, e⟩ := strs_of r
  exact SC.join pl.isList e hj fun t' k => ⟨.str _, H, I.tok _, ⟨t', rfl⟩, q⟩
/-- x[lo:hi] of a text -/
def rSlS : V → Option Int → Option Int → Hp → VK → Prop := fun x lo hi H Q => ∃ z, x = .str z ∧ z.length ≤ sizeLine ∧ Q (.str (Txt.slice z lo hi)) H
/-! ### signs in texts -/
/-! ### o.m(..) where the fragment is named (within a comprehension) -/
/-! ### weaker readings: a statement's (or a block's) reading by one of your own -/
end
/-! ### comprehensions whose items are reckoned without a change of the heap -/
structure Seq (J : It) (H1 : Hp) (xs : List V) : Prop where
  go : ∀ i H, Same H1 H → i < xs.length → J.go i H
  yld : ∀ i H x H', Same H1 H → i < xs.length → J.yld i H x H' → H' = H ∧ xs[i]? = some x
  stop : ∀ H, Same H1 H → J.stop xs.length H
theorem seq_range (lo : Int) (n : Nat) (H1 : Hp) : Seq (Itr lo n) H1 ((List.range n).map fun i => V.int (lo + (i : Nat))) where
  go := fun i H _ h => by
    rw [List.length_map, List.length_range] at h
    exact h
  yld := fun i H x H' _ hi h => by
    obtain ⟨e, hx⟩ := h
    refine ⟨e, ?_⟩
    rw [List.length_map, List.length_range] at hi
    rw [List.getElem?_map, List.getElem?_range hi, hx]
    rfl
  stop := fun H _ => by
    show n ≤ _
    rw [List.length_map, List.length_range]
    exact Nat.le_refl _
theorem seq_list {K : PySem.W.Frag} {a : Addr} {xs : List V} {H1 : Hp} (h : SqL K H1 a xs) : Seq (Itl K a) H1 xs where
  go := fun i H e hi => ⟨xs, xs[i], e.seq h, List.getElem?_eq_getElem hi⟩
  yld := fun i H x H' e _ y => ⟨y.1, y.2 xs (e.seq h)⟩
  stop := fun H e => ⟨xs, e.seq h, Nat.le_refl _⟩
theorem take_more {α : Type} {xs : List α} {i : Nat} {x : α} (h : xs[i]? = some x) : xs.take (i + 1) = xs.take i ++ [x] := by
  rw [List.take_succ, h]
  rfl
theorem compB_seq {J : It} {tc : TT} {te : TE} {σf : Option V → St} {H1 : Hp} {Q : VK} {xs : List V} (S : Seq J H1 xs) (p : V → Bool) (g : V → V) (hz : xs.length < sizeLine)
    (hc : ∀ x ∈ xs, ∀ (H' : Hp) (R : Bool → Hp → Prop), Same H1 H' → R (p x) H' → tc (σf (some x)) H' R)
    (he : ∀ x ∈ xs, ∀ (H' : Hp) (R : VK), Same H1 H' → p x = true → R (g x) H' → te (σf (some x)) H' R)
    (q : ∀ D H', Same H1 H' → H1 D = none → H' D = some (.lst ((xs.filter p).map g)) → Q (.ref D) H') : CompB J tc te σf H1 Q := by
  intro D hD
  refine ⟨fun i m ys H2 => m = xs.length - i ∧ i ≤ xs.length ∧ Same H1 H2 ∧ H2 D = some (.lst ys) ∧ ys = ((xs.take i).filter p).map g, ⟨xs.length, rfl, Nat.zero_le _, same_new hD _, upd_same, rfl⟩, ?_⟩
  rintro i m ys H2 ⟨rfl, hi, sm, hD2, rfl⟩
  refine ⟨hD2, ?_⟩
  by_cases hlt : i < xs.length
  · refine .inr ⟨S.go i H2 sm hlt, ?_, fun x H3 y => ?_⟩
    · rw [List.length_map]
      refine Nat.lt_of_le_of_lt (List.length_filter_le _ _) ?_
      rw [List.length_take]
      omega
    · obtain ⟨e, hx⟩ := S.yld i H2 x H3 sm hlt y
      subst e
      have mem : x ∈ xs := List.mem_of_getElem? hx
      refine hc x mem _ _ sm ?_
      cases hp : p x with
      | false =>
        refine iteF ⟨xs.length - (i + 1), by omega, rfl, hlt, sm, hD2, ?_⟩
        rw [take_more hx, List.filter_append, List.filter_cons_of_neg (by rw [hp]; decide), List.filter_nil, List.append_nil]
      | true =>
        refine iteT (he x mem _ _ sm hp ⟨hD2, xs.length - (i + 1), by omega, rfl, hlt, same_on hD sm _, upd_same, ?_⟩)
        rw [take_more hx, List.filter_append, List.filter_cons_of_pos hp, List.filter_nil, List.map_append]
        rfl
  · have e : i = xs.length := by omega
    subst e
    refine .inl ⟨S.stop H2 sm, q D H2 sm hD ?_⟩
    rw [hD2, List.take_of_length_le (Nat.le_refl _)]
/-- what is asked of a comprehension's text, in short -/
def cellsFor (cells : List (Str × Addr)) (names : List (Str × NameKind)) : Bool := names.all fun p => if (p.2 == NameKind.free) = true then (cells.lookup p.1).isSome else true
theorem cellsFor_at {cells : List (Str × Addr)} {names : List (Str × NameKind)} (h : cellsFor cells names = true) : ∀ p ∈ names, p.2 = .free → (cells.lookup p.1).isSome = true := fun p hp hk => by
  have q := (List.all_eq_true.mp h) p hp
  rw [hk, show (NameKind.free == NameKind.free) = true from rfl, if_pos rfl] at q
  exact q
end L2

namespace L2
open PySem PySem.Spec PyProof.Rows
section
variable {X : Cx}
/-! ### text * number, int(text) -/
theorem kit_int_bool (K : PySem.W.Frag) : PySem.W.kitOne K (.type "int") (.type "bool") = some false := by
  have e1 : PySem.W.kitMeta "bool" = true := by decide +kernel
  have e2 : PySem.W.subIn K (.type "int") (.type "bool") = some false := by
    show (fastBuiltinMro "int").map (·.contains (Value.type "bool")) = some false
    decide +kernel
  show (if (Value.type "int" == Value.type "bool") = true then some true else (if PySem.W.kitMeta "bool" = true then PySem.W.subIn K (.type "int") (.type "bool") else none)) = some false
  rw [if_neg (by decide), if_pos e1]
  exact e2
/-! ### a list's item, at a place that lies in it -/
def rIxLA (K : PySem.W.Frag) : R2 := fun x y H Q => ∃ p xs i, x = .ref p ∧ y = .int i ∧ SqL K H p xs ∧ 0 ≤ i ∧ i < ((xs.length : Nat) : Int) ∧ ∀ v, xs[i.toNat]? = some v → Q v H
theorem ix_listA : IxR X (rIxLA X.K) := by
  intro value slice pins s σ H x y v u Q I rx ry h hs
  obtain ⟨p, xs, i, rfl, rfl, hq, h0, h1, q⟩ := h
  obtain ⟨c, e1, e2⟩ := at_in (xs := xs) h0 h1
  exact ix_list value slice pins s σ H _ _ v u Q I rx ry ⟨p, xs, i, c, rfl, rfl, hq, e2, q c e1⟩ hs
def intV : V → Bool
  | .int _ => true
  | _ => false
end
end L2

namespace L2
open PySem PySem.Spec PyProof.Rows
section
variable {X : Cx}
/-! ### readings that lean on a token's being made already (x.replace(y, z) asks whether y and z are one object) -/
def PSk (X : Cx) (st : Stmt) (t : TS) : Prop :=
  ∀ (pins : List (Addr × Obj)) (s : Shared) (σ : St) (H : Hp) (D : Ends), Inv X pins σ H s → 1 ≤ s.toks → t D σ H → wpAny (model X.prog X.w) X.A (exec st X.env) (SP X pins D) X.xe s
def PSsK (X : Cx) (st : List Stmt) (t : TS) : Prop :=
  ∀ (pins : List (Addr × Obj)) (s : Shared) (σ : St) (H : Hp) (D : Ends), Inv X pins σ H s → 1 ≤ s.toks → t D σ H → wpAny (model X.prog X.w) X.A (execs st X.env) (SP X pins D) X.xe s
def PEk (X : Cx) (e : Expr) (t : TE) : Prop :=
  ∀ (pins : List (Addr × Obj)) (s : Shared) (σ : St) (H : Hp) (Q : VK), Inv X pins σ H s → 1 ≤ s.toks → t σ H Q → wpAny (model X.prog X.w) X.A (eval e X.env) (EP X pins σ Q) X.xe s
/-- a value behind which a token was made -/
def PE1 (X : Cx) (e : Expr) (t : TE) : Prop :=
  ∀ (pins : List (Addr × Obj)) (s : Shared) (σ : St) (H : Hp) (Q : VK), Inv X pins σ H s → t σ H Q → wpAny (model X.prog X.w) X.A (eval e X.env) (fun u s' => 1 ≤ s'.toks ∧ EP X pins σ Q u s') X.xe s
def PS1 (X : Cx) (st : Stmt) (t : TS) : Prop :=
  ∀ (pins : List (Addr × Obj)) (s : Shared) (σ : St) (H : Hp) (D : Ends), Inv X pins σ H s → t D σ H → wpAny (model X.prog X.w) X.A (exec st X.env) (fun f s' => 1 ≤ s'.toks ∧ SP X pins D f s') X.xe s
theorem PS.k {st : Stmt} {t : TS} (h : PS X st t) : PSk X st t := fun pins s σ H D I _ hw => h pins s σ H D I hw
theorem PSs.k {st : List Stmt} {t : TS} (h : PSs X st t) : PSsK X st t := fun pins s σ H D I _ hw => h pins s σ H D I hw
/-- o.replace('..', '..'), two unlike texts written there -/
def tRepl (y z : Str) (to : TE) : TE := fun σ H Q => to σ H fun v H1 => ∃ x, v = .str x ∧ x.length + (x.length + 1) * z.length ≤ 16777216 ∧ ∀ u : Str, u.length ≤ x.length + (x.length + 1) * z.length → Q (.str u) H1
end
end L2

namespace L2
open PySem PySem.Spec PyProof.Rows
/-! ### enumerate(xs), enumerate(xs, start=j) over a list -/
section
variable {prog : Program} {w : World} {A : Around} {E : Value → Shared → Prop} {s : Shared}
set_option maxHeartbeats 2000000 in
end
end L2

namespace L2
open PySem PySem.Spec PyProof.Rows
section
variable {prog : Program} {w : World} {A : Around} {E : Value → Shared → Prop} {s : Shared}
end
end L2

namespace L2
open PySem PySem.Spec PyProof.Rows
section
variable {prog : Program} {w : World} {A : Around} {E : Value → Shared → Prop} {s : Shared}
end
/-- j, j + 1, .. beside the list's things -/
def Ite (K : PySem.W.Frag) (a : Addr) (j : Int) : It :=
  ⟨fun i H => ∃ xs x, SqL K H a xs ∧ xs[i]? = some x, fun i H x H' => ∃ p y, x = .ref p ∧ H p = none ∧ H' = upd H p (.tup [.int (j + (i : Nat)), y]) ∧ ∀ xs, SqL K H a xs → xs[i]? = some y, fun i H => ∃ xs, SqL K H a xs ∧ xs.length = i⟩
section
variable {X : Cx} {elts : List Expr} {x1 : Nat} {tpos : Pos}
/-- enumerate(l, start=j) -/
def iEnumK (K : PySem.W.Frag) (tl : TA) (tj : TA) : TI := fun σ H R => tl σ H fun vs H1 => tj σ H1 fun zs H2 => ∃ a j, vs = [.ref a] ∧ zs = [.int j] ∧ (∃ xs, SqL K H2 a xs) ∧ Builtin.SmallTypes.fitsIndex j = true ∧ R (Ite K a j) H2
def iEnum (K : PySem.W.Frag) (tl : TA) : TI := fun σ H R => tl σ H fun vs H1 => ∃ a, vs = [.ref a] ∧ (∃ xs, SqL K H1 a xs) ∧ R (Ite K a 0) H1
end
end L2

namespace L2
open PySem PySem.Spec PyProof.Rows
section
variable {X : Cx} {pins : List (Addr × Obj)} {σ : St} {H : Hp} {s : Shared} {d : Addr} {kvs : List (Key × V)}
/-! ### a dict is held still while a loop walks it -/
theorem Inv.freeze (I : Inv X pins σ H s) (h : H d = some (.dK kvs)) : ∃ o, s.heap.get? d = some o ∧ Inv X pins σ (upd H d (.frz o (.dK kvs))) s := by
  obtain ⟨z, hd, vs, r, o, es, ep, e, c⟩ := I.hok d _ h
  have mu : Mut (H d) := by rw [h]; trivial
  refine ⟨o, e, I.un (h' := s.heap) (t' := s.toks) (Un.write mu (.inl rfl) (fun _ _ _ q => q) ⟨o, e⟩) (I.hok.write mu (.inl rfl) (fun _ _ _ q => q) ⟨o, e⟩ ⟨e, z, hd, vs, r, o, es, ep, e, c⟩)⟩
theorem Inv.thaw {o : Obj} (I : Inv X pins σ H s) (h : H d = some (.frz o (.dK kvs))) (h0 : ∀ o u, X.H₀ d ≠ some (.frz o u)) : Inv X pins σ (upd H d (.dK kvs)) s := by
  have nn : ∀ b, H b = none → b ≠ d := fun b q z => by rw [z, h] at q; cases q
  refine ⟨I.ok, I.os, I.bare, ⟨I.base.keep, I.base.slot, fun b o' e n hx => ?_, I.base.there, fun b xs e => ?_, fun b o' u e => ?_, fun b ps e => ?_⟩, I.loc, I.cell, ?_, fun x c e => ?_, fun p hp => ?_, fun b u e => ?_, I.len⟩
  · have q := I.base.free b o' e n hx
    rw [upd_ne (nn b q)]
    exact q
  · have q := I.base.tups b xs e
    rw [upd_ne (ne_of q h (by intro z; cases z))]
    exact q
  · have q := I.base.frzs b o' u e
    rw [upd_ne (fun z => h0 o' u (by rw [← z]; exact e))]
    exact q
  · obtain ⟨more, q⟩ := I.base.tbls b ps e
    refine ⟨more, ?_⟩
    rw [upd_ne (ne_of q h (by intro z; cases z))]
    exact q
  · rw [upd_ne (nn _ I.free)]
    exact I.free
  · rw [upd_ne (nn _ (I.freeC x c e))]
    exact I.freeC x c e
  · obtain ⟨a, b, c⟩ := I.pin p hp
    exact ⟨a, by rw [upd_ne (nn _ b)]; exact b, c⟩
  · by_cases hb : b = d
    · subst hb
      rw [upd_same] at e
      cases e
      obtain ⟨q, ok⟩ := I.hok b _ h
      exact ok
    · rw [upd_ne hb] at e
      exact (I.hok b u e).stay (fun _ _ _ q => q) (fun c q => by rw [upd_ne (ne_of q h (by intro z; cases z))]; exact q) (fun c xs q => by rw [upd_ne (ne_of q h (by intro z; cases z))]; exact q)
theorem Inv.unfrozen (I : Inv X pins σ H s) (h : H d = some (.dK kvs)) : ∀ o u, X.H₀ d ≠ some (.frz o u) := fun o u e => by
  have q := I.base.frzs d o u e
  rw [h] at q
  cases q
def tFrz (t : TE) : TE := fun σ H Q => ∃ (d : Addr) (kvs : List (Key × V)), H d = some (.dK kvs) ∧ ∀ o, t σ (upd H d (.frz o (.dK kvs))) fun v H' => H' d = some (.frz o (.dK kvs)) ∧ Q v (upd H' d (.dK kvs))
theorem pe_frz {e : Expr} {t : TE} (h : PE X e t) : PE X e (tFrz t) := by
  intro pins s σ H Q I hw
  obtain ⟨d, kvs, hd, q⟩ := hw
  obtain ⟨o, eo, I1⟩ := I.freeze hd
  refine thn (h pins s σ _ _ I1 (q o)) fun v s1 ⟨x, H1, I2, r, hz, q2⟩ => ?_
  exact ⟨x, _, I2.thaw hz (I.unfrozen hd), r, q2⟩
def sFrz (t : TS) : TS := fun D σ H => ∃ (d : Addr) (kvs : List (Key × V)), H d = some (.dK kvs) ∧ ∀ o, t { nx := fun σ' H' => H' d = some (.frz o (.dK kvs)) ∧ D.nx σ' (upd H' d (.dK kvs)), rt := fun v H' => H' d = some (.frz o (.dK kvs)) ∧ D.rt v (upd H' d (.dK kvs)), bk := fun σ' H' => H' d = some (.frz o (.dK kvs)) ∧ D.bk σ' (upd H' d (.dK kvs)), ct := fun σ' H' => H' d = some (.frz o (.dK kvs)) ∧ D.ct σ' (upd H' d (.dK kvs)) } σ (upd H d (.frz o (.dK kvs)))
theorem ps_frz {st : Stmt} {t : TS} (h : PS X st t) : PS X st (sFrz t) := by
  intro pins s σ H D I hw
  obtain ⟨d, kvs, hd, q⟩ := hw
  obtain ⟨o, eo, I1⟩ := I.freeze hd
  refine thn (h pins s σ _ _ I1 (q o)) fun f s1 q1 => ?_
  have un := I.unfrozen hd
  cases f with
  | next => obtain ⟨σ', H', I2, hz, q2⟩ := q1; exact ⟨σ', _, I2.thaw hz un, q2⟩
  | brk => obtain ⟨σ', H', I2, hz, q2⟩ := q1; exact ⟨σ', _, I2.thaw hz un, q2⟩
  | cont => obtain ⟨σ', H', I2, hz, q2⟩ := q1; exact ⟨σ', _, I2.thaw hz un, q2⟩
  | ret u => obtain ⟨v, σ', H', I2, r, hz, q2⟩ := q1; exact ⟨v, σ', _, I2.thaw hz un, r, q2⟩
end
/-- a dict's keys, in order -/
def Itd (d : Addr) (o : Obj) (kvs : List (Key × V)) : It :=
  ⟨fun i H => H d = some (.frz o (.dK kvs)) ∧ i < kvs.length, fun i H x H' => H' = H ∧ ∃ k v, kvs[i]? = some (k, v) ∧ x = kV k, fun i H => H d = some (.frz o (.dK kvs)) ∧ kvs.length = i⟩
theorem rel_key {k : Key} {v : Value} (h : keyIs k v = true) : RelV (kV k) v := by
  rcases keyIs_shape h with ⟨i, t, rfl, rfl⟩ | ⟨x, t, rfl, rfl⟩
  · exact ⟨t, rfl⟩
  · exact ⟨t, rfl⟩
theorem turn_dict {P : Program} {w : World} {K : PySem.W.Frag} {tg : Expr} (d it : Addr) (o : Obj) (kvs : List (Key × V)) {vs : List (Key × Value)} {es : Array DictEntry} {ep : Nat} (rk : KV kvs vs) (hd : o.ExactDict) (he : o.data = .dict es ep) (hk : KeysOf (mixKind P w) es) (hp : Pairs (mixKind P w) es.toList vs) (nd : (vs.map (·.1)).Nodup) :
    Turn P w K tg (Itd d o kvs) [it] it (fun i h => h.IsKeyIter it d i vs.length ep) where
  mem := by simp
  obj := fun i h st b hb => by
    have e : b = it := by simpa using hb
    subst e
    obtain ⟨o, e, c, d⟩ := st
    exact ⟨o, e, fun v z => by rw [d] at z; cases z⟩
  keep := fun i h h' st k => st.at fun o e => k it (by simp) o e
  item := by
    intro X hP hw hK hc i pins s σ H E I hf st hg
    subst hP hw hK
    obtain ⟨hz, hi⟩ := hg
    obtain ⟨eo, _⟩ := I.hok d _ hz
    obtain ⟨f0, f1, f2, f3, f4, f5⟩ := hf it (by simp)
    have hl := KV.length rk
    have hi2 : i < vs.length := by omega
    have ev : vs[i]? = some (vs[i].1, vs[i].2) := List.getElem?_eq_getElem hi2
    have ks : kvs[i]? = some (kvs[i].1, kvs[i].2) := List.getElem?_eq_getElem hi
    have keq : kvs[i].1 = vs[i].1 := by
      have q := KV.keys rk
      have q1 : (kvs.map (·.1))[i]? = (vs.map (·.1))[i]? := by rw [q]
      rw [List.getElem?_map, List.getElem?_map, ks, ev] at q1
      exact Option.some.inj q1
    refine wpAny_pyNext_dict_item st ⟨o, es, eo, hd, he, hk, hp, nd⟩ ev fun key h' hkey st' sb => ?_
    have I1 : Inv X pins σ H { s with heap := h' } := I.turned (t' := s.toks) (fun b o hb e => (sb.2 b hb).trans e) f0 f1 f3 f4 f5
    obtain ⟨o2, e2, c2, d2⟩ := id st'
    refine ⟨key, rfl, go_of (s := { s with heap := h' }) e2 c2 d2 (by decide) ⟨kV kvs[i].1, H, I1, ?_, ⟨rfl, _, _, ks, rfl⟩, st', fun b hb => (hf b hb).1⟩⟩
    rw [keq]
    exact rel_key hkey
  done := by
    intro X hP hw hK hc i pins s σ H E I hf st hg
    subst hP hw hK
    obtain ⟨hz, hi⟩ := hg
    obtain ⟨eo, _⟩ := I.hok d _ hz
    obtain ⟨f0, f1, f2, f3, f4, f5⟩ := hf it (by simp)
    have hl := KV.length rk
    have hin : vs[i]? = none := List.getElem?_eq_none (by omega)
    exact wpAny_pyNext_dict_end (I.ok.hd hc) st ⟨o, es, eo, hd, he, hk, hp, nd⟩ hin fun h' eb => ⟨rfl, I.turned (t' := s.toks) (fun b o hb e => eb b o hb e) f0 f1 f3 f4 f5⟩
  self := fun _ _ _ _ _ st h => wpAny_pyIter_keyiter st h
section
variable {X : Cx} {tg : Expr}
def iDict (tl : TE) : TI := fun σ H R => tl σ H fun x H1 => ∃ d o kvs, x = .ref d ∧ H1 d = some (.frz o (.dK kvs)) ∧ R (Itd d o kvs) H1
theorem pi_dict {l : Expr} {tl : TE} (hl : PE X l tl) : PI X tg l (iDict tl) := by
  intro pins s σ H R I h
  refine thn (hl pins s σ H _ I h) fun v s1 ⟨x, H1, I1, r1, q1⟩ => ?_
  obtain ⟨d, o, kvs, rfl, hz, q⟩ := q1
  cases r1
  obtain ⟨eo, z, hd, vs, rk, o', es, ep, e', xd, dt, ko, pr, nd⟩ := I1.hok d _ hz
  rw [eo] at e'
  cases e'
  refine wpAny_pyIter_dict hd ⟨o, es, eo, xd, dt, ko, pr, nd⟩ ?_
  refine ⟨s1.heap.objs.size, [s1.heap.objs.size], _, _, H1, rfl, I1.kept (t' := s1.toks) fun b o e => Heap.get?_push_of_some _ e, turn_dict d _ o kvs rk xd dt ko pr nd, ⟨_, Heap.get?_push_size _ rfl, rfl, rfl⟩, fun b hb => ?_, q⟩
  have e : b = s1.heap.objs.size := by simpa using hb
  subst e
  exact I1.fpOk (Nat.le_refl _) (I1.hok.fresh (Nat.le_refl _))
theorem seq_dict {d : Addr} {o : Obj} {kvs : List (Key × V)} {H1 : Hp} (h : H1 d = some (.frz o (.dK kvs))) : Seq (Itd d o kvs) H1 (kvs.map fun p => kV p.1) where
  go := fun i H e hi => ⟨e _ _ h, by rw [List.length_map] at hi; exact hi⟩
  yld := fun i H x H' e _ y => by
    obtain ⟨a, k, v, b, c⟩ := y
    refine ⟨a, ?_⟩
    rw [List.getElem?_map, b, c]
    rfl
  stop := fun H e => ⟨e _ _ h, by rw [List.length_map]⟩
/-! ### xs.insert(i, y) at a place that lies in it -/
def rInsert : V → List V → Hp → VK → Prop := fun x vs H Q => ∃ l xs i y, x = .ref l ∧ vs = [.int i, y] ∧ H l = some (.lst xs) ∧ 0 ≤ i ∧ i ≤ ((xs.length : Nat) : Int) ∧ xs.length < sizeLine ∧ Q .non (upd H l (.lst (xs.take i.toNat ++ y :: xs.drop i.toNat)))
theorem mt_insert : MtM X "list.insert" rInsert := by
  intro pins s σ H x vs v us Q I rx rv h
  obtain ⟨l, xs, i, y, rfl, rfl, hH, h0, h1, hz, q⟩ := h
  cases rx
  obtain ⟨u1, u2, rfl, ⟨t, rfl⟩, r2⟩ := rv.two
  obtain ⟨z, its, n, r, hl, e⟩ := I.lstM hH
  have s63 : (sizeLine : Nat) < 2 ^ 63 := line63
  have fit : ¬ (!Builtin.List.listFitsIndex i) = true := by
    have hb : Builtin.List.listFitsIndex i = true := by
      unfold Builtin.List.listFitsIndex
      simp
      omega
    rw [hb]
    simp
  refine call_meets F.slot_list_insert ⟨_, e, rfl⟩ F.entry_list_insert (F.args_list_insert_3 _ _ _) (AutoSeq1.list_insert_list_int_val_1 l its.toArray n i t u2 fit (by rw [List.size_toArray]; omega)) ⟨e, ?_⟩
  refine ⟨.non, _, I.lset (its' := its.take i.toNat ++ u2 :: its.drop i.toNat) hH e ?_ ((r.take _).append (.cons r2 (r.drop _))) ?_, rfl, q⟩
  · have e1 : ¬ i < 0 := by omega
    have e2 : min i.toNat its.toArray.size = i.toNat := by
      rw [List.size_toArray]
      omega
    simp only [if_neg e1, e2]
    apply Array.toList_inj.mp
    simp
    exact List.take_of_length_le (by rw [List.length_drop]; omega)
  · rw [List.length_append, List.length_cons, List.length_take, List.length_drop]
    omega
/-! ### a def of the text, all in one -/
structure Dfn (P : Program) (w : World) (K : PySem.W.Frag) (mg : Str → Option Value) (base : Heap) (k : Nat) (x : Str) (ps : List Str) (sp : Sp) : Prop where
  ex : ∃ f fd, FnOk P w K mg base CX0 k f fd ps sp ∧ Binds K fd ps [] ∧ PySem.W.keepIn K (.ref f) = true ∧ mg x = some (.ref f)
theorem pe_callD {k : Nat} {x : Str} {ps : List Str} {sp : Sp} {e : Expr} {es : List Expr} {t : TA} {p pos : Pos} (D : Dfn X.prog X.w X.K X.mg X.base k x ps sp) (hr : Room k X.A) (hg : Gl X x) (ha : PA X (e :: es) t) (hdb : (x == ("__debug__" : Str)) = false := by decide)
    (he : starEach (e :: es) X.env = (false, eval e X.env) :: starEach es X.env := by rfl) (hpl : (backTo pos (starEach es X.env)).any (·.1) = false := by rfl) : PE X (.Call (.Name x p) (e :: es) [] pos) (tCall sp [] E0 t) := by
  obtain ⟨f, fd, F, b, kp, m⟩ := D.ex
  exact pe_call F hr hg m kp b .nil pass0 ha hdb he hpl
structure GS (mg : Str → Option Value) (x : Str) (z : Str) : Prop where
  ex : ∃ t, mg x = some (.str z t)
structure GI (mg : Str → Option Value) (x : Str) (z : Int) : Prop where
  ex : ∃ t, mg x = some (.int z t)
theorem pe_gs {x z : Str} {pos : Pos} (G : GS X.mg x z) (hg : Gl X x) (hd : (x == ("__debug__" : Str)) = false := by decide) : PE X (.Name x pos) (tC (.str z)) := by
  obtain ⟨t, e⟩ := G.ex
  exact pe_glob hg e (rel_str _ _) hd
end
end L2

namespace L2
open PySem PySem.Spec PyProof.Rows
section
variable {X : Cx}
/-! ### a class that is made; a method: all in one -/
structure MkD (P : Program) (w : World) (K : PySem.W.Frag) (mg : Str → Option Value) (base : Heap) (k : Nat) (x : Str) (C : Addr) (ps : List Str) (sp : Sp) : Prop where
  ex : ∃ f fd, Mk K C f ∧ FnOk P w K mg base CX0 k f fd ps sp ∧ Binds K fd ps [] ∧ mg x = some (.ref C)
theorem pe_makeD {k : Nat} {x : Str} {C : Addr} {ps : List Str} {sp : Sp} {e : Expr} {es : List Expr} {t : TA} {p pos : Pos} (D : MkD X.prog X.w X.K X.mg X.base k x C ps sp) (hr : Room (k + 1) X.A) (hg : Gl X x) (ha : PA X (e :: es) t) (hdb : (x == ("__debug__" : Str)) = false := by decide)
    (he : starEach (e :: es) X.env = (false, eval e X.env) :: starEach es X.env := by rfl) (hpl : (backTo pos (starEach es X.env)).any (·.1) = false := by rfl) : PE X (.Call (.Name x p) (e :: es) [] pos) (tMake C sp [] E0 t) := by
  obtain ⟨f, fd, M, F, b, m⟩ := D.ex
  exact pe_make M F hr hg m b .nil pass0 ha hdb he hpl
structure MtD (P : Program) (w : World) (K : PySem.W.Frag) (mg : Str → Option Value) (base : Heap) (k : Nat) (m : Str) (C : Addr) (ps : List Str) (sp : Sp) : Prop where
  ex : ∃ f fd, Meth K C m f ∧ FnOk P w K mg base CX0 k f fd ps sp ∧ Binds K fd ps []
theorem pe_ixK {K : PySem.W.Frag} {a b : Expr} {ta tb : TE} {pos : Pos} {r : PySem.W.Frag → R2} (hK : X.K = K) (hr : IxR X (r X.K)) (ha : PE X a ta) (hb : PE X b tb) (hs : PlainIx b) : PE X (.Subscript a b pos) (tOp (r K) ta tb) := by
  subst hK
  exact pe_ix hr ha hb hs
/-! ### the names' values written out anew -/
def tAt (t : TS) : TS := fun D σ H => ∃ σ', σ = σ' ∧ t D σ' H
/-! ### classes by isinstance: tuples, lists, texts, numbers, truths, None -/
end
end L2

namespace PySem.W
open PySem PySem.Spec PySem.Calls PyProof.Rows Builtin Builtin.ObjectAttr Builtin.Getset_descriptor
/-! ### own classes of refusals: made by ValueError's new, by an own __init__ -/
abbrev veMro : List Value := [.type "ValueError", .type "Exception", .type "BaseException", .type "object"]
def excMk (K : Frag) (C : Addr) : Bool := match K.lookup C with
  | some ⟨.type "type", _, .cls cd, sls⟩ => (match cd.mro, sls.toList with
    | .ref C' :: tlm, [_, _, _, _, some (.builtin n), _] => C' == C && n == "ValueError.__new__" && !cd.hasDel && tailIn K veMro tlm
    | _, _ => false)
  | _ => false
def ExcAt (h : Heap) (C : Addr) (tlm : List Value) : Prop := ∃ N nm q bs hdct sn sub ab col dd q0 q1 q2 q3 q5, h.get? C = some (excClassObj nm q C N bs tlm hdct sn sub ab col dd q0 q1 q2 q3 q5 "ValueError.__new__")
theorem excMk_obj {K : Frag} {h : Heap} {C : Addr} (X : K.In h) (q : excMk K C = true) : ∃ tlm, ExcAt h C tlm ∧ OwnTail h veMro tlm := by
  unfold excMk at q
  split at q
  · rename_i dd cd sls ho
    split at q
    · rename_i C' tlm q0 q1 q2 q3 n q5 hmm hss
      simp only [beq_iff_eq, Bool.and_eq_true, Bool.not_eq_true'] at q
      obtain ⟨⟨⟨rfl, rfl⟩, hdel⟩, ht⟩ := q
      obtain ⟨nm, bs, mro, ns, qun, hd, sn, sub, ab, col, del⟩ := cd
      dsimp only at hmm hdel
      subst hmm hdel
      have hsl : sls = #[q0, q1, q2, q3, some (.builtin "ValueError.__new__"), q5] := by
        obtain ⟨l⟩ := sls
        simp only at hss
        rw [hss]
      subst hsl
      exact ⟨tlm, ⟨ns, nm, qun, bs, hd, sn, sub, ab, col, dd, q0, q1, q2, q3, q5, X _ _ ho⟩, tail_of_in X ht⟩
    · cases q
  · cases q
abbrev excTup (us : List Value) : Obj := { cls := .type "tuple", data := .seq us.toArray }
abbrev excNew (C t0 : Addr) : Obj := { cls := .ref C, data := .fields #[.ref t0, .none, .none, .none, .bool false, .none] }
section
variable {prog : Program} {w : World} {A : Around} {K : Frag} {C f : Addr} {R : Result → Shared → Prop} {h : Heap} {g : Array GenState} {d : Drawn} {t : Nat} {os : OsState}
theorem make_X {us : List Value} (X : K.In h) (e : excMk K C = true) (hi : findIn K (.ref C) "__init__" = some (some (.ref f))) (hf : typeIn K (.ref f) = some (.type "function")) (hrest : us.length ≤ sizeLine)
    (hq : codeAny (model prog w) (A.under (.builtin "type.__call__" ⟨.ref C :: us, []⟩)) (.call (.ref f) ⟨.ref (h.objs.size + 1) :: us, []⟩) (InitBack (h.objs.size + 1) R) ⟨(h.push (excTup us)).push (excNew C h.objs.size), g, d, t, os⟩) :
    codeAny (model prog w) A (.call (.ref C) ⟨us, []⟩) R ⟨h, g, d, t, os⟩ := by
  obtain ⟨tlm, ⟨N, nm, q, bs, hdct, sn, sub, ab, col, dd, q0, q1, q2, q3, q5, hCl⟩, T⟩ := excMk_obj X e
  have FB := PySem.F.excBase_ValueError
  have f1 := tc_lookup
  have f2 := tc_bind (.ref C)
  have hTy : (⟨h, g, d, t, os⟩ : Shared).TypeIs (.ref C) "type" := ⟨_, hCl, rfl⟩
  refine codeAny_of_tree ?_
  show wpAny (model prog w) A.in1 (callAny (.ref C) _) _ _ _
  repeat (any_goals (first | assumption | with_reducible refine wpAny_loadPart_at hCl ?_ | wp_step))
  refine ⟨rfl, ?_⟩
  refine codeAny_call_builtin_at (Code.quiet_builtin _ (by decide +kernel)) entry_typeCall (wpAny_check_type_call_sub hCl ?_)
  repeat (first | with_reducible refine wpAny_loadPart_at hCl ?_ | with_reducible refine wpAny_madeBy_exc hCl ?_ | wp_step)
  refine codeAny_call_builtin_code (Code.quiet_builtin _ FB.quiet) (wpAny_check_new_subT FB T hCl ?_)
  refine codeAny_exc_new_subT FB T hCl ?_ hrest
  show wpAny _ _ _ _ _ _
  have k : ∀ b o, h.get? b = some o → ((h.push (excTup us)).push (excNew C h.objs.size)).get? b = some o := fun b o e => Heap.get?_push_of_some _ (Heap.get?_push_of_some _ e)
  have hx : ((h.push (excTup us)).push (excNew C h.objs.size)).get? (h.objs.size + 1) = some (excNew C h.objs.size) := by heap_get
  have t1 : Looks (model prog w) ((h.push (excTup us)).push (excNew C h.objs.size)) (typeOf (.ref (h.objs.size + 1))) (.ref C) := (Looks.ld hx).andThen .now
  have hcc : (Value.ref C :: tlm).contains (.ref C) = true := by simp
  have s0 : Looks (model prog w) h (isSubtype (.ref C) (.ref C)) true := by
    intro A Q E s kk qq
    obtain ⟨h1, g1, d1, tk1, os1⟩ := s
    exact wpAny_isSubtype_exc (kk _ _ hCl) (by rw [hcc]; exact qq)
  have s1 := s0.keeps k
  have i1 := (looks_findIn (M := model prog w) X hi).keeps k
  have b1 := (bind_fn (M := model prog w) X (.ref (h.objs.size + 1)) hf).keeps k
  have hC₁ := k _ _ hCl
  unfold isInstance
  refine wpAny_bind (wpAny_bind (t1.here (s1.here ?_)))
  simp only [Bool.false_eq_true, Bool.not_true, if_false]
  refine wpAny_bind (wpAny_holding ?_); unfold callSpecial? specialOf
  refine wpAny_bind (wpAny_bind (t1.here ?_))
  refine i1.here ?_
  refine wpAny_holding (wpAny_bind (b1.here ?_))
  refine wpAny_bind (wpAny_call ?_)
  refine codeAny_mono hq fun r s' zz => ?_
  rcases r with e | (v | _ | _ | _) <;> first | exact zz | exact zz.elim | skip
  obtain ⟨rfl, zz⟩ := zz
  exact wpAny_pure (wpAny_pure zz)
end
end PySem.W

namespace PySem.W
open PySem PySem.Spec PySem.Calls PyProof.Rows Builtin Builtin.ObjectAttr Builtin.Getset_descriptor
/-! ### attributes of a refusal -/
def onlyVE : List Value → Bool
  | .ref _ :: r => onlyVE r
  | .type n :: r => (.type n :: r) == veMro
  | _ => false
theorem refuse_VE (self : Value) : ∀ {l : List Value}, onlyVE l = true → refuseLoop self "__setattr__" l = pure ()
  | .ref c :: r, e => by rw [refuseLoop_ref]; exact refuse_VE self (show onlyVE r = true from e)
  | .type n :: r, e => by rw [show Value.type n :: r = veMro from beq_iff_eq.mp e]; exact PySem.F.store_ValueError.passes self
theorem has_VE {b : String} (hbb : veMro.contains (.type b) = true) : ∀ {l : List Value}, onlyVE l = true → l.contains (.type b) = true
  | .ref c :: r, e => by rw [List.contains_cons, has_VE hbb (l := r) e, Bool.or_true]
  | .type n :: r, e => by rw [show Value.type n :: r = veMro from beq_iff_eq.mp e]; exact hbb
def excOver (K : Frag) (C : Addr) : Bool := (clsIn K C).any fun cdt => onlyVE cdt.mro
section
variable {prog : Program} {w : World} {A : Around} {K : Frag} {C x : Addr} {s : Shared} {R : Result → Shared → Prop}
theorem osa_X {ox : Obj} {od : Option Obj} {nm : Str} {tk : Tok} {v : Value} {r : Option Value} (X : K.In s.heap) (I : InstAt s.heap x ox C od) (hp : excOver K C = true) (ht : takerIn K C nm = some r)
    (go : ∀ b, wpAny (model prog w) A.in1 (match r with | some a => setByDescriptor a (.ref x) v | none => storeInOwnDict (.ref x) (.ref C) (.str nm tk) nm v b)
      (fun fi s' => match fi with | .done f => R (.ok f) s' | .again c' => c'.quiet = true ∧ codeAny (model prog w) A c' R s') (fun e s' => R (.error e) s') s) :
    codeAny (model prog w) A (.call (.builtin "object.__setattr__") ⟨[.ref x, .str nm tk, v], []⟩) R s := by
  have SFo := PySem.F.store_object
  obtain ⟨cdt, hcd, hov⟩ := any_some hp
  have nem : cdt.mro.isEmpty = false := by cases q : cdt.mro with | nil => rw [q] at hov; cases hov | cons _ _ => rfl
  have sub : Looks (model prog w) s.heap (isInstance (.ref x) (.type "object")) true := I.type.andThen (looks_mroIn X (by unfold mroIn; rw [hcd, Option.bind_some, if_neg (by rw [nem]; decide), has_VE (by decide +kernel) hov]))
  refine codeAny_call_builtin SFo.slot.plain SFo.entry (@check_slot (model prog w) _ _ s "object.__setattr__" "object" "__setattr__" (.ref x) [.str nm tk, v] [] _ SFo.kind SFo.split sub (SFo.args (.ref x) (.str nm tk) v) ?_)
  obtain ⟨atr, ha, hrr⟩ := Option.bind_eq_some_iff.mp ht
  have hmr : Looks (model prog w) s.heap (mroOf (.ref C)) cdt.mro := (looks_clsIn X hcd).andThen .now
  have l3 : Looks (model prog w) s.heap (storeTaker? atr) r := by
    cases atr with
    | none => cases hrr; exact .now
    | some a =>
      obtain ⟨b, hbb, rfl⟩ := Option.map_eq_some_iff.mp hrr
      refine (looks_takesIn X hbb).andThen ?_
      cases b <;> exact .now
  rw [osa_eq, refuse_eq]
  refine wpAny_bind (wpAny_bind (I.type.here (wpAny_bind (hmr.here ?_))))
  rw [refuse_VE _ hov]
  refine wpAny_pure (wpAny_bind (I.type.here (wpAny_bind ((looks_findIn X ha).here (wpAny_bind (l3.here ?_))))))
  exact go _
variable {E : Value → Shared → Prop} {vs : Array Value} {sl : Array (Option Value)} {nm : Str} {v : Value}
/-- the first attribute: the dict is made -/
theorem setX_new {Q : Unit → Shared → Prop} (X : K.In s.heap) (hx : s.heap.get? x = some ⟨.ref C, none, .fields vs, sl⟩) (hs : findIn K (.ref C) "__setattr__" = some (some (.builtin "object.__setattr__")))
    (hp : excOver K C = true) (ht : takerIn K C nm = some none) (hh : hasDictIn K C = true)
    (h : ∀ h', h'.get? x = some ⟨.ref C, some s.heap.objs.size, .fields vs, sl⟩ → h'.Ns1 s.heap.objs.size (fun y => if y = nm then some v else none) → (∀ b o, b ≠ x → s.heap.get? b = some o → h'.get? b = some o) →
      Q () { s with heap := h', toks := s.toks + 2 }) : wpAny (model prog w) A (setAttr (.ref x) nm v) Q E s := by
  have J : InstAt s.heap x ⟨.ref C, none, .fields vs, sl⟩ C none := ⟨hx, rfl, rfl, True.intro⟩
  refine set_plain X J hs (osa_X (s := { s with toks := s.toks + 1 }) (r := none) X J hp ht fun b => ?_)
  obtain ⟨cdt, hcd, hdc⟩ := any_some hh
  refine wpAny_bind (wpAny_pure (wpAny_bind (wpAny_bind (wpAny_loadPart hx (wpAny_bind (Looks.here (s := { s with toks := s.toks + 1 }) (looks_clsIn X hcd) ?_))))))
  rw [hdc]
  have hxz : x ≠ s.heap.objs.size := Nat.ne_of_lt (Heap.lt_size hx)
  have hx1 : (s.heap.push { cls := .type "dict", data := .dict #[] }).get? x = some ⟨.ref C, none, .fields vs, sl⟩ := Heap.get?_push_of_some _ hx
  refine wpAny_bind (wpAny_alloc (wpAny_bind (wpAny_update hx1 ?_)))
  refine wpAny_pure (a := some s.heap.objs.size) ?_
  have hx2 : ((s.heap.push { cls := .type "dict", data := .dict #[] }).update x fun o => { cls := o.cls, dict := some s.heap.objs.size, data := o.data, slots := o.slots }).get? x = some ⟨.ref C, some s.heap.objs.size, .fields vs, sl⟩ := by
    rw [Heap.get?_update_self _ hx1 rfl]
  have hgx : ((s.heap.push { cls := .type "dict", data := .dict #[] }).update x fun o => { cls := o.cls, dict := some s.heap.objs.size, data := o.data, slots := o.slots }).get? s.heap.objs.size = some { cls := .type "dict", data := .dict #[] } :=
    (Heap.get?_update_ne _ _ _ _ hxz.symm).trans (Heap.get?_push_at rfl rfl)
  have hnd : ((s.heap.push { cls := .type "dict", data := .dict #[] }).update x fun o => { cls := o.cls, dict := some s.heap.objs.size, data := o.data, slots := o.slots }).Ns s.heap.objs.size (fun _ => none) :=
    ⟨_, #[], _, hgx, rfl, fun e he => absurd he (by simp), fun _ => rfl⟩
  refine wpAny_bind (wpAny_pure (wpAny_bind (wpAny_nsSet1 (Heap.Ns1.of_empty hnd) fun h' hn' hs' => ?_)))
  obtain ⟨oD, esD, epD, hoE, hdE, hcE⟩ := hn'.count (Within.cons nm v Within.nil)
  refine wpAny_bind (wpAny_lookBehind hoE (by rw [hdE]; exact pastItsLine_dict (Nat.le_trans hcE (by rw [List.length_cons, List.length_nil, sizeLine_eq]; omega))) ?_)
  refine wpAny_pure (h h' ((hs'.2 x hxz).trans hx2) hn' fun b o hbb q => ?_)
  exact (hs'.2 b (Nat.ne_of_lt (Heap.lt_size q))).trans ((Heap.get?_update_ne _ _ _ _ hbb).trans (Heap.get?_push_of_some _ q))
/-- a further attribute -/
theorem setX_old {Q : Unit → Shared → Prop} {dxa : Addr} {mA : Str → Option Value} {ns : List Str} (X : K.In s.heap) (hx : s.heap.get? x = some ⟨.ref C, some dxa, .fields vs, sl⟩) (hn : s.heap.Ns1 dxa mA) (hne : dxa ≠ x)
    (hs : findIn K (.ref C) "__setattr__" = some (some (.builtin "object.__setattr__"))) (hp : excOver K C = true) (ht : takerIn K C nm = some none) (hh : hasDictIn K C = true) (hw : Within mA ns) (hsz : ns.length < sizeLine)
    (h : ∀ h', h'.Ns1 dxa (fun y => if y = nm then some v else mA y) → (∀ b o, b ≠ dxa → s.heap.get? b = some o → h'.get? b = some o) →
      Q () { s with heap := h', toks := s.toks + 2 }) : wpAny (model prog w) A (setAttr (.ref x) nm v) Q E s := by
  obtain ⟨od, hov, hl⟩ := L2.lookIn_ns hn
  have J : InstAt s.heap x ⟨.ref C, some dxa, .fields vs, sl⟩ C (some od) := ⟨hx, rfl, rfl, hov⟩
  refine set_plain X J hs (osa_X (s := { s with toks := s.toks + 1 }) (r := none) X J hp ht fun b => ?_)
  obtain ⟨cdt, hcd, hdc⟩ := any_some hh
  refine wpAny_bind (wpAny_pure (wpAny_bind (wpAny_bind (wpAny_loadPart hx (wpAny_bind (Looks.here (s := { s with toks := s.toks + 1 }) (looks_clsIn X hcd) ?_))))))
  rw [hdc]
  refine wpAny_pure (a := some dxa) (wpAny_bind (wpAny_pure (wpAny_bind ?_)))
  refine wpAny_nsSet1 (s := { s with toks := s.toks + 1 }) hn fun h' hn' hs' => ?_
  obtain ⟨oD, esD, epD, hoE, hdE, hcE⟩ := hn'.count (Within.cons nm v hw)
  refine wpAny_bind (wpAny_lookBehind hoE (by rw [hdE]; exact pastItsLine_dict (Nat.le_trans hcE (by rw [List.length_cons]; omega))) ?_)
  exact wpAny_pure (h h' hn' fun b o hbb q => (hs'.2 b hbb).trans q)
end
end PySem.W

namespace PySem.W
open PySem PySem.Spec PySem.Calls PyProof.Rows Builtin Builtin.ObjectAttr Builtin.Getset_descriptor
section
variable {prog : Program} {w : World} {A : Around} {K : Frag} {C x : Addr} {s : Shared} {E : Value → Shared → Prop} {ox : Obj} {od : Option Obj} {nm : Str} {v : Value} {Q : Value → Shared → Prop} {expr : Bool}
theorem gaX_call {h : Heap} {g : Array GenState} {d : Drawn} {t : Nat} {os : OsState} {tk : Tok} {R : Result → Shared → Prop} (X : K.In h) (I : InstAt h x ox C od) (hp : excOver K C = true) (hf : findObj K C od nm = some (.value v)) (hq : R (.ok (.ret v)) ⟨h, g, d, t, os⟩) :
    codeAny (model prog w) A (.call (.builtin "BaseException.__getattribute__") ⟨[.ref x, .str nm tk], []⟩) R ⟨h, g, d, t, os⟩ := by
  obtain ⟨cdt, hcd, hov⟩ := any_some hp
  have nem : cdt.mro.isEmpty = false := by cases q : cdt.mro with | nil => rw [q] at hov; cases hov | cons _ _ => rfl
  have sub : Looks (model prog w) h (isInstance (.ref x) (.type "BaseException")) true := I.type.andThen (looks_mroIn X (by unfold mroIn; rw [hcd, Option.bind_some, if_neg (by rw [nem]; decide), has_VE (by decide +kernel) hov]))
  have l0 := I.type (M := model prog w)
  have l1 := looks_find (M := model prog w) X I hf
  refine codeAny_call_builtin (by decide +kernel) PySem.F.entry_bexc_ga (@check_slot (model prog w) _ _ _ "BaseException.__getattribute__" "BaseException" "__getattribute__" (.ref x) [.str nm tk] [] _ (by decide +kernel) (by decide +kernel) sub (PySem.F.args_bexc_ga (.ref x) (.str nm tk)) ?_)
  refine wpAny_bind (wpAny_pure (wpAny_bind (wpAny_pure (wpAny_bind (l0.at (wpAny_bind (l1.at ?_)))))))
  exact wpAny_pure hq
theorem getX (X : K.In s.heap) (I : InstAt s.heap x ox C od) (hga : findIn K (.ref C) "__getattribute__" = some (some (.builtin "BaseException.__getattribute__"))) (hgn : findIn K (.ref C) "__getattr__" = some none) (hp : excOver K C = true)
    (hf : findObj K C od nm = some (.value v)) (hhd : handedIn v = true) (h : Q v { s with toks := s.toks + 1 }) : wpAny (model prog w) A (getAttr (.ref x) nm expr) Q E s := by
  obtain ⟨hp', g, d, t, os⟩ := s
  have l0 := I.type (M := model prog w)
  have l1 := looks_findIn (M := model prog w) X hga
  have l2 := looks_findIn (M := model prog w) X hgn
  have f3 : bindSpecial (.builtin "BaseException.__getattribute__") (.ref x) = pure (.builtin "BaseException.__getattribute__", [.ref x]) :=
    (Slot.of (T := "ValueError") (name := "__getattribute__") (owner := "BaseException") (n := "__getattribute__") (by rw [typeLookup_type, builtinLookup_eq_fast]; kernel_rfl) (by decide +kernel) (by decide +kernel) (by decide +kernel)
      (.inl (by decide +kernel)) (by rw [isSubtype_type]; kernel_rfl)).bind (.ref x)
  have hxo : (expr && onTheHeap (Value.builtin "BaseException.__getattribute__")) = false := by cases expr <;> rfl
  unfold getAttr getAttrBy
  refine wpAny_bind (wpAny_mkText (wpAny_holding (wpAny_bind (l0.at (wpAny_bind (l1.at ?_))))))
  have hx2 : (onTheHeap (Value.ref C) && Value.builtin "BaseException.__getattribute__" == Value.builtin "object.__getattribute__") = false := by
    rw [show (Value.builtin "BaseException.__getattribute__" == Value.builtin "object.__getattribute__") = false by decide +kernel, Bool.and_false]
  dsimp only at l0 l1 l2 X I h ⊢
  rw [hx2, if_neg Bool.false_ne_true]
  unfold getAttrByItsOwn
  refine wpAny_bind (l2.at ?_)
  repeat (any_goals first | assumption | wp_step)
  refine gaX_call X I hp hf ?_
  show wpAny (model prog w) A (handedOut v) _ _ _
  rw [handedOut_of hhd]; exact wpAny_pure h
end
end PySem.W

namespace L2
open PySem PyProof.Rows PySem.Spec PySem.Calls
/-! ### refusals: made and not raised; caught; their dicts -/
def XO (e C : Addr) (d : Option Addr) : HO := .ext fun h => ∃ t0, h.get? e = some ⟨.ref C, d, .fields #[.ref t0, .none, .none, .none, .bool false, .none], #[]⟩
def XC (e C : Addr) (d : Option Addr) : HO := .ext fun h => ∃ vs sl, h.get? e = some ⟨.ref C, d, .fields vs, sl⟩
def XD (a : Addr) (fs : List (Str × V)) : HO := .ext fun h => fs.length ≤ 1000 ∧ ∃ mA, h.Ns1 a mA ∧ (∀ f, RelO (fs.lookup f) (mA f)) ∧ PySem.Within mA (fs.map (·.1))
def IsX (H : Hp) (e C : Addr) (d : Option Addr) : Prop := H e = some (XO e C d) ∨ H e = some (XC e C d)
section
variable {P : Program} {w : World} {H : Hp} {h : Heap} {e C a : Addr} {d : Option Addr} {fs : List (Str × V)}
theorem xo_ok {t0 : Addr} (q : h.get? e = some ⟨.ref C, d, .fields #[.ref t0, .none, .none, .none, .bool false, .none], #[]⟩) : ObjOk P w H h e (XO e C d) :=
  ⟨⟨t0, q⟩, ⟨_, q⟩, fun _ _ ⟨t, z⟩ k => ⟨t, k _ z⟩⟩
theorem xc_ok {vs : Array Value} {sl : Array (Option Value)} (q : h.get? e = some ⟨.ref C, d, .fields vs, sl⟩) : ObjOk P w H h e (XC e C d) :=
  ⟨⟨vs, sl, q⟩, ⟨_, q⟩, fun _ _ ⟨v, s, z⟩ k => ⟨v, s, k _ z⟩⟩
theorem xd_ok {mA : Str → Option Value} (l : fs.length ≤ 1000) (n : h.Ns1 a mA) (r : ∀ f, RelO (fs.lookup f) (mA f)) (wi : PySem.Within mA (fs.map (·.1))) : ObjOk P w H h a (XD a fs) :=
  ⟨⟨l, mA, n, r, wi⟩, let ⟨o, _, _, q, _⟩ := n; ⟨o, q⟩, fun _ _ ⟨l, m, n, r, z⟩ k => ⟨l, m, n.at k, r, z⟩⟩
theorem xo_get (hok : HOk P w H h) (q : H e = some (XO e C d)) : ∃ t0, h.get? e = some ⟨.ref C, d, .fields #[.ref t0, .none, .none, .none, .bool false, .none], #[]⟩ :=
  (show ObjOk P w H h e (XO e C d) from hok e _ q).1
theorem x_get (hok : HOk P w H h) (q : IsX H e C d) : ∃ vs sl, h.get? e = some ⟨.ref C, d, .fields vs, sl⟩ := by
  rcases q with q | q
  · obtain ⟨t, z⟩ := xo_get hok q; exact ⟨_, _, z⟩
  · exact (show ObjOk P w H h e (XC e C d) from hok e _ q).1
theorem xd_get (hok : HOk P w H h) (q : H a = some (XD a fs)) : fs.length ≤ 1000 ∧ ∃ mA, h.Ns1 a mA ∧ (∀ f, RelO (fs.lookup f) (mA f)) ∧ PySem.Within mA (fs.map (·.1)) :=
  (show ObjOk P w H h a (XD a fs) from hok a _ q).1
end
/-- what a class of refusals must have -/
structure ClsX (K : PySem.W.Frag) (C : Addr) : Prop where
  hd : PySem.W.hasDictIn K C = true
  po : PySem.W.excOver K C = true
  sa : PySem.W.findIn K (.ref C) "__setattr__" = some (some (.builtin "object.__setattr__"))
  ga : PySem.W.findIn K (.ref C) "__getattribute__" = some (some (.builtin "BaseException.__getattribute__"))
  gn : PySem.W.findIn K (.ref C) "__getattr__" = some none
section
variable {X : Cx} {pins : List (Addr × Obj)} {σ : St} {H : Hp} {s : Shared} {a C dx : Addr} {d : Option Addr} {fs : List (Str × V)} {f : Str} {v y : V} {u : Value} {A : Around} {E : Value → Shared → Prop}
theorem getX_ok {b : Bool} {Q : Value → Shared → Prop} (I : Inv X pins σ H s) (e : IsX H a C (some dx)) (ed : H dx = some (XD dx fs)) (c : ClsX X.K C) (n : NoAttr X.K C f) (l : fs.lookup f = some v)
    (h : ∀ u s', Inv X pins σ H s' → RelV v u → Q u s') : wpAny (model X.prog X.w) A (getAttr (.ref a) f b) Q E s := by
  obtain ⟨vs, sl, hx⟩ := x_get I.hok e
  obtain ⟨_, mA, hn, r, _⟩ := xd_get I.hok ed
  obtain ⟨u, hu, ru⟩ := RelO.some_of (v := v) (o := mA f) (by rw [← l]; exact r f)
  obtain ⟨od, ho, hl⟩ := lookIn_ns hn
  exact PySem.W.getX I.kIn (ox := ⟨.ref C, some dx, .fields vs, sl⟩) (od := some od) ⟨hx, rfl, rfl, ho⟩ c.ga c.gn c.po (PySem.W.findObj_own c.hd n rfl (by rw [hl, hu])) (handed_of ru) (h u _ (I.tok _) ru)
theorem setX1_ok {Q : Unit → Shared → Prop} (I : Inv X pins σ H s) (e : H a = some (XO a C none)) (c : ClsX X.K C) (n : NoAttr X.K C f) (ry : RelV y u)
    (h : ∀ dx s', H dx = none → dx ≠ a → Inv X pins σ (upd (upd H dx (XD dx [(f, y)])) a (XO a C (some dx))) s' → Q () s') : wpAny (model X.prog X.w) A (setAttr (.ref a) f u) Q E s := by
  obtain ⟨t0, hx⟩ := xo_get I.hok e
  refine PySem.W.setX_new I.kIn hx c.sa c.po n.taker c.hd fun h' h1 h2 h3 => ?_
  have hf := I.hok.fresh (Nat.le_refl s.heap.objs.size)
  have hne : s.heap.objs.size ≠ a := fun z => by rw [z, e] at hf; cases hf
  obtain ⟨od, es, ep, q1, q2, q3⟩ := id h2
  have hfr : od.isFreed = false := (Heap.get?_some_iff.mp q1).2
  have g1 : (s.heap.push od).get? s.heap.objs.size = some od := Heap.get?_push_size s.heap hfr
  have I1 : Inv X pins σ (upd H s.heap.objs.size (XD s.heap.objs.size [(f, y)])) { s with heap := s.heap.push od, toks := s.toks } := by
    refine I.laid (fun b o q => Heap.get?_push_of_some _ q) (Nat.le_refl _) (xd_ok (by simp) (h2.at fun o q => ?_) (fun g => ?_) (fun g hg => ?_))
    · rw [q1] at q; cases q; exact g1
    · show RelO ([(f, y)].lookup g) (if g = f then some u else none)
      by_cases z : g = f
      · have hb : (g == f) = true := beq_iff_eq.mpr z
        simp only [List.lookup, hb, if_pos z]; exact ry
      · have hb : (g == f) = false := beq_eq_false_iff_ne.mpr z
        simp only [List.lookup, hb, if_neg z]; exact True.intro
    · by_cases z : g = f
      · rw [z]; exact .head _
      · exact absurd (if_neg z) hg
  refine h s.heap.objs.size _ hf hne (I1.write (x := a) (e := a) (t' := s.toks + 2) (h' := h') (by rw [upd_ne (Ne.symm hne), e]; exact True.intro) (.inl rfl) (fun b o hb q => ?_) ⟨_, h1⟩ (xo_ok h1))
  by_cases z : b = s.heap.objs.size
  · subst z; rw [g1] at q; cases q; exact q1
  · have hb' : s.heap.get? b = some o := by rw [← q]; exact (Heap.get?_push_ne _ _ _ z).symm
    exact h3 b o hb hb'
theorem setX2_ok {Q : Unit → Shared → Prop} (I : Inv X pins σ H s) (e : IsX H a C (some dx)) (ed : H dx = some (XD dx fs)) (hne : dx ≠ a) (c : ClsX X.K C) (n : NoAttr X.K C f) (hl : fs.length < 1000) (ry : RelV y u)
    (h : ∀ s', Inv X pins σ (upd H dx (XD dx (putF f y fs))) s' → Q () s') : wpAny (model X.prog X.w) A (setAttr (.ref a) f u) Q E s := by
  obtain ⟨vs, sl, hx⟩ := x_get I.hok e
  obtain ⟨_, mA, hn, r, wi⟩ := xd_get I.hok ed
  refine PySem.W.setX_old I.kIn hx hn hne c.sa c.po n.taker c.hd wi (by rw [List.length_map, sizeLine_eq]; omega) fun h' h1 h2 => h _ ?_
  refine I.write (x := dx) (e := dx) (by rw [ed]; exact True.intro) (.inl rfl) h2 (let ⟨o, _, _, q, _⟩ := h1; ⟨o, q⟩) (xd_ok ?_ h1 (fun g => ?_) (fun g hg => ?_))
  · have := length_putF f y fs; omega
  · show RelO ((putF f y fs).lookup g) (if g = f then some u else mA g)
    rw [lookup_putF]
    by_cases q : g = f
    · rw [if_pos q, if_pos q]; exact ry
    · rw [if_neg q, if_neg q]; exact r g
  · by_cases q : g = f
    · rw [q]; exact (keys_putF f y fs).1
    · refine (keys_putF f y fs).2 g (wi g fun z => hg ?_)
      show (if g = f then some u else mA g) = none
      rw [if_neg q]; exact z
end
end L2

namespace PySem.W
open PySem PySem.Spec PySem.Calls PyProof.Rows Builtin Builtin.ObjectAttr Builtin.Getset_descriptor
section
variable {prog : Program} {w : World} {A : Around} {K : Frag} {C x t0 : Addr} {s : Shared} {E : Value → Shared → Prop} {od : Option Addr} {Q : Value → Shared → Prop}
/-- ValueError.__init__(self, ..): the arguments' tuple anew -/
theorem initX {us : List Value} (X : K.In s.heap) (hx : s.heap.get? x = some ⟨.ref C, od, .fields #[.ref t0, .none, .none, .none, .bool false, .none], #[]⟩) (e : excMk K C = true) (hz : us.length ≤ sizeLine)
    (h : ∀ h', h'.get? x = some ⟨.ref C, od, .fields #[.ref s.heap.objs.size, .none, .none, .none, .bool false, .none], #[]⟩ → (∀ b o, b ≠ x → s.heap.get? b = some o → h'.get? b = some o) → Q .none { s with heap := h' }) :
    wpAny (model prog w) A (call (.builtin "ValueError.__init__") (.ref x :: us)) Q E s := by
  obtain ⟨bm, ⟨N, nm, q, bs, hdct, sn, sub, ab, col, dd, k0, k1, k2, k3, k5, hC⟩, T⟩ := excMk_obj X e
  have FB := PySem.F.excBase_ValueError
  obtain ⟨hp, g, d, t, os⟩ := s
  refine wpAny_call (codeAny_call_builtin FB.init.plain FB.initEntry (wpAny_check_init_subT FB T hC hx rfl ?_))
  delta Builtin.«BaseException.__init__»
  dsimp only
  rw [if_neg (by simp)]
  unfold Builtin.BaseException.bexcPut newTuple
  have hx1 := Heap.get?_push_of_some (h := hp) { cls := .type "tuple", data := .seq us.toArray } hx
  refine wpAny_bind (wpAny_newObj_type (wpAny_bind (wpAny_bind (wpAny_field hx1 rfl rfl (wpAny_bind (wpAny_setField hx1 rfl (by show 0 < 6; decide) ?_))))) (by show us.toArray.size ≤ sizeLine; rw [List.size_toArray]; exact hz))
  refine wpAny_letGo (wpAny_pure (h _ ?_ fun b o hb hq => ?_))
  · rw [Heap.get?_update_self _ hx1 rfl]
    rfl
  · exact (Heap.get?_update_ne _ _ _ _ hb).trans (Heap.get?_push_of_some _ hq)
end
end PySem.W

namespace PySem.W
open PySem PySem.Spec PySem.Calls PyProof.Rows Builtin Builtin.ObjectAttr Builtin.Getset_descriptor
section
variable {prog : Program} {w : World} {A : Around} {K : Frag} {C x : Addr} {s : Shared} {E : Value → Shared → Prop} {ox : Obj} {od : Obj}
structure ClsAt (K : Frag) (C : Addr) : Prop where
  hd : hasDictIn K C = true
  po : excOver K C = true
  ga : findIn K (.ref C) "__getattribute__" = some (some (.builtin "BaseException.__getattribute__"))
  gn : findIn K (.ref C) "__getattr__" = some none
  ca : findIn K (.ref C) "__class__" = some (some (.builtin "object.__class__"))
  cn : specialIn K (.builtin "object.__class__") "__get__" = some (some (.builtin "getset_descriptor.__get__"))
  ct : takesIn K (.builtin "object.__class__") = some true
theorem excOver_has {b : String} (hp : excOver K C = true) (hb : veMro.contains (.type b) = true) : mroIn K C (.type b) = some true := by
  obtain ⟨cdt, hcd, hov⟩ := any_some hp
  have nem : cdt.mro.isEmpty = false := by cases q : cdt.mro with | nil => rw [q] at hov; cases hov | cons _ _ => rfl
  unfold mroIn; rw [hcd, Option.bind_some, if_neg (by rw [nem]; decide), has_VE hb hov]
theorem clsX_call {h : Heap} {g : Array GenState} {d : Drawn} {t : Nat} {os : OsState} {tk : Tok} {R : Result → Shared → Prop} (X : K.In h) (I : InstAt h x ox C (some od)) (c : ClsAt K C) (hq : R (.ok (.ret (.ref C))) ⟨h, g, d, t, os⟩) :
    codeAny (model prog w) A (.call (.builtin "BaseException.__getattribute__") ⟨[.ref x, .str "__class__" tk], []⟩) R ⟨h, g, d, t, os⟩ := by
  have hf : findObj K C (some od) "__class__" = some (.bind (.builtin "getset_descriptor.__get__") (.builtin "object.__class__")) := by
    have := findObj_data (K := K) (C := C) (od := od) (name := "__class__") (by obtain ⟨cdt, hcd, _⟩ := any_some c.hd; rw [hcd]; rfl) c.ca c.cn c.ct
    exact this
  have sub : Looks (model prog w) h (isInstance (.ref x) (.type "BaseException")) true := I.type.andThen (looks_mroIn X (excOver_has c.po (by decide +kernel)))
  have l0 := I.type (M := model prog w)
  have l1 := looks_find (M := model prog w) X I hf
  refine codeAny_call_builtin (by decide +kernel) PySem.F.entry_bexc_ga (@check_slot (model prog w) _ _ _ "BaseException.__getattribute__" "BaseException" "__getattribute__" (.ref x) [.str "__class__" tk] [] _ (by decide +kernel) (by decide +kernel) sub (PySem.F.args_bexc_ga (.ref x) (.str "__class__" tk)) ?_)
  refine wpAny_bind (wpAny_pure (wpAny_bind (wpAny_pure (wpAny_bind (l0.at (wpAny_bind (l1.at ?_)))))))
  show wpAny _ _ (holding [Value.builtin "object.__class__"] (call (.builtin "getset_descriptor.__get__") [.builtin "object.__class__", .ref x, .ref C]) >>= ret) _ _ _
  refine wpAny_bind (wpAny_holding (wpAny_call ?_))
  refine class_get (s := ⟨h, g, d, t, os⟩) (ox := ox) (od := some od) X I (excOver_has c.po (by decide +kernel)) ?_
  exact wpAny_pure hq
theorem getX_class {Q : Option Value → Shared → Prop} (X : K.In s.heap) (I : InstAt s.heap x ox C (some od)) (c : ClsAt K C) (h : Q (some (.ref C)) { s with toks := s.toks + 1 }) : wpAny (model prog w) A (getAttr? (.ref x) "__class__") Q E s := by
  obtain ⟨hp', g, d, t, os⟩ := s
  have l0 := I.type (M := model prog w)
  have l1 := looks_findIn (M := model prog w) X c.ga
  have l2 := looks_findIn (M := model prog w) X c.gn
  have f3 : bindSpecial (.builtin "BaseException.__getattribute__") (.ref x) = pure (.builtin "BaseException.__getattribute__", [.ref x]) :=
    (Slot.of (T := "ValueError") (name := "__getattribute__") (owner := "BaseException") (n := "__getattribute__") (by rw [typeLookup_type, builtinLookup_eq_fast]; kernel_rfl) (by decide +kernel) (by decide +kernel) (by decide +kernel)
      (.inl (by decide +kernel)) (by rw [isSubtype_type]; kernel_rfl)).bind (.ref x)
  have hx0 : (false && onTheHeap (Value.builtin "BaseException.__getattribute__")) = false := rfl
  have hx2 : (onTheHeap (Value.ref C) && Value.builtin "BaseException.__getattribute__" == Value.builtin "object.__getattribute__") = false := by
    rw [show (Value.builtin "BaseException.__getattribute__" == Value.builtin "object.__getattribute__") = false by decide +kernel, Bool.and_false]
  unfold getAttr? getAttrBy?
  unfold getAttrBy
  refine wpAny_bind (wpAny_mkText (wpAny_bind (wpAny_attempt (wpAny_holding (wpAny_bind (l0.at (wpAny_bind (l1.at ?_))))))))
  dsimp only at l0 l1 l2 X I h ⊢
  rw [hx2, if_neg Bool.false_ne_true]
  unfold getAttrByItsOwn
  refine wpAny_bind (l2.at ?_)
  repeat (any_goals first | assumption | wp_step)
  refine clsX_call X I c ?_
  show wpAny _ _ (handedOut (Value.ref C)) _ _ _
  rw [handedOut_of rfl]
  exact (wpAny_pure (wpAny_pure h))
theorem kitx_X (c : ClsAt K C) : KitX K (.ref x) (.ref C) (fun h => InstAt h x ox C (some od)) where
  ty := fun _ _ _ I => I.type
  it := fun _ _ X _ => by
    obtain ⟨cdD, hcE, _⟩ := any_some c.hd
    unfold clsIn at hcE
    split at hcE
    · rename_i c' d' cd' sl' hov
      intro A' Q' E' s' k q
      unfold isType loadHead
      exact wpAny_bind (wpAny_loadPart (k _ _ (X _ _ hov)) (wpAny_pure q))
    · cases hcE
  ne := fun h tp dd its n sl X htq => by
    obtain ⟨cdD, hcE, _⟩ := any_some c.hd
    refine Bool.eq_false_iff.mpr fun qq => ?_
    have e : C = tp := Value.ref.inj (beq_iff_eq.mp qq)
    subst e
    unfold clsIn at hcE
    split at hcE
    · rename_i c' d' cd' sl' hov
      have z := (X _ _ hov).symm.trans htq
      cases z
    · cases hcE
  ca := fun X I k => getX_class X I c k
end
end PySem.W

namespace L2
open PySem PyProof.Rows PySem.Spec PySem.Calls
theorem ClsX.at {K : PySem.W.Frag} {C : Addr} (c : ClsX K C) (ca : PySem.W.findIn K (.ref C) "__class__" = some (some (.builtin "object.__class__")))
    (cn : PySem.W.specialIn K (.builtin "object.__class__") "__get__" = some (some (.builtin "getset_descriptor.__get__"))) (ct : PySem.W.takesIn K (.builtin "object.__class__") = some true) : PySem.W.ClsAt K C :=
  ⟨c.hd, c.po, c.ga, c.gn, ca, cn, ct⟩
theorem upd_self {H : Hp} {a : Addr} {o : HO} (e : H a = some o) : upd H a o = H := by
  funext b
  unfold upd
  by_cases q : b = a
  · rw [if_pos q, q, e]
  · rw [if_neg q]
/-- what a class of refusals must have to be made -/
structure MkX (K : PySem.W.Frag) (C f : Addr) : Prop where
  makes : PySem.W.excMk K C = true
  init : PySem.W.findIn K (.ref C) "__init__" = some (some (.ref f))
  fn : PySem.W.isFn K (.ref f) = true
  kp : PySem.W.keepIn K (.ref C) = true
def tMakeX (C : Addr) (sp : Sp) (E : XK) (t : TA) : TE := fun σ H Q => t σ H fun vs H1 => ∀ x, H1 x = none → sp (.ref x :: vs) (upd H1 x (XO x C none)) (fun v H2 => v = .non ∧ Q (.ref x) H2) E
section
variable {X : Cx} {CX : CXT} {k : Nat} {f C : Addr} {fd : FuncData} {ps : List Str} {sp : Sp} {E : XK} {x m : Str} {p pos apos : Pos} {e o : Expr} {es : List Expr} {ta : TE} {t : TA}
theorem Inv.madeX {pins : List (Addr × Obj)} {σ : St} {H : Hp} {s : Shared} {us : List Value} (I : Inv X pins σ H s) :
    Inv X pins σ (upd H (s.heap.objs.size + 1) (XO (s.heap.objs.size + 1) C none)) { s with heap := (s.heap.push (PySem.W.excTup us)).push (PySem.W.excNew C s.heap.objs.size) } := by
  have e2 : ((s.heap.push (PySem.W.excTup us)).push (PySem.W.excNew C s.heap.objs.size)).get? (s.heap.objs.size + 1) = some (PySem.W.excNew C s.heap.objs.size) := by
    have := Heap.get?_push_size (s.heap.push (PySem.W.excTup us)) (o := PySem.W.excNew C s.heap.objs.size) rfl
    rwa [Heap.size_push] at this
  have I1 := I.kept (h' := s.heap.push (PySem.W.excTup us)) (t' := s.toks) (fun b u q => Heap.get?_push_of_some _ q)
  exact I1.laid (a := s.heap.objs.size + 1) (t' := s.toks) (fun b u q => Heap.get?_push_of_some _ q) (Nat.le_of_eq (Heap.size_push _ _)) (xo_ok e2)
theorem run_makeX {pins : List (Addr × Obj)} {σ : St} {H : Hp} {s : Shared} {Q : VK} {us : List Value} {vs : List V} (M : MkX X.K C f) (F : FnOk X.prog X.w X.K X.mg X.base CX k f fd ps sp) (hr : Room (k + 1) X.A) (hb : Binds X.K fd ps [])
    (hx : Passes CX X E) (hz : ps.length ≤ 1000) (I : Inv X pins σ H s) (r : Vals vs us)
    (h : ∀ x, H x = none → sp (.ref x :: vs) (upd H x (XO x C none)) (fun v H2 => v = .non ∧ Q (.ref x) H2) E) :
    wpAny (model X.prog X.w) X.A (call (.ref C) us) (EP X pins σ Q) X.xe s := by
  have hq := h (s.heap.objs.size + 1) (I.hok.fresh (Nat.le_succ _))
  have I2 := Inv.madeX (C := C) (us := us) I
  have r2 : Vals (V.ref (s.heap.objs.size + 1) :: vs) (Value.ref (s.heap.objs.size + 1) :: us) := .cons rfl r
  have hl : (Value.ref (s.heap.objs.size + 1) :: us).length = ps.length := by
    have e := r2.length
    rw [F.len _ _ _ _ hq] at e
    exact e.symm
  have hb2 := hb { s with heap := (s.heap.push (PySem.W.excTup us)).push (PySem.W.excNew C s.heap.objs.size) } (Value.ref (s.heap.objs.size + 1) :: us) I2.kIn (by rw [List.append_nil]; exact hl)
  rw [List.append_nil] at hb2
  refine wpAny_call (PySem.W.make_X (f := f) I.kIn M.makes M.init (beq_iff_eq.mp M.fn) (by rw [List.length_cons] at hl; rw [sizeLine_eq]; omega) (codeAny_mono (F.run _ X.stack _ _ ⟨Value.ref (s.heap.objs.size + 1) :: us, []⟩ (Value.ref (s.heap.objs.size + 1) :: us) _ _ E (hr.make C us [])
    (I2.env0.make C us []) hb2 r2 hq) fun r s' hq' => ?_))
  cases r with
  | error e => exact hx pins σ _ _ e s' I2 hq'
  | ok fl =>
    cases fl with
    | ret u =>
      obtain ⟨v, H', I3, rv, ev, q3⟩ := I2.after hq'
      subst ev
      exact ⟨rv, ⟨V.ref (s.heap.objs.size + 1), H', I3, rfl, q3⟩⟩
    | next => exact False.elim hq'
    | brk => exact False.elim hq'
    | cont => exact False.elim hq'
theorem pe_makeX (M : MkX X.K C f) (F : FnOk X.prog X.w X.K X.mg X.base CX k f fd ps sp) (hr : Room (k + 1) X.A) (hg : Gl X x) (hm : X.mg x = some (.ref C)) (hb : Binds X.K fd ps []) (hx : Passes CX X E) (hz : ps.length ≤ 1000)
    (ha : PA X (e :: es) t) (hdb : (x == ("__debug__" : Str)) = false := by decide) (he : starEach (e :: es) X.env = (false, eval e X.env) :: starEach es X.env := by rfl) (hpl : (backTo pos (starEach es X.env)).any (·.1) = false := by rfl) :
    PE X (.Call (.Name x p) (e :: es) [] pos) (tMakeX C sp E t) := by
  intro pins s σ H Q I h
  refine wpAny_Call_Name_kw (ld_glob I hg hm ?_ hdb)
  refine PySem.W.callWith_K (h₀ := X.base) I.ok.mod.kin M.kp (thn (ha pos pins s σ H _ I h) fun us s1 ⟨vs, H1, I1, r, q⟩ => ⟨I1.kIn, ?_⟩) he hpl
  exact run_makeX M F hr hb hx hz I1 r q
/-- Base.__init__(self, ..), Base an own class of refusals without an __init__ of its own -/
structure InX (K : PySem.W.Frag) (B : Addr) : Prop where
  sp : PySem.W.specialIn K (.ref B) "__getattribute__" = some (some (.builtin "type.__getattribute__"))
  rd : PySem.W.readsIn K B (.type "type") = true
  fc : PySem.W.findCls K (.ref B) (.type "type") "__init__" = some (.val (.builtin "ValueError.__init__"))
def tInX (K : PySem.W.Frag) (t : TA) : TE := fun σ H Q => t σ H fun vs H1 => ∃ a C d xs, vs = .ref a :: xs ∧ xs.length ≤ 1000 ∧ H1 a = some (XO a C d) ∧ PySem.W.excMk K C = true ∧ Q .non H1
theorem pe_initX {B : Addr} {pl : Sem Bool} (J : InX X.K B) (hg : Gl X x) (hm : X.mg x = some (.ref B)) (ha : PA X (e :: es) t) (hdb : (x == ("__debug__" : Str)) = false := by decide)
    (hst : starEach (e :: es) X.env = (false, eval e X.env) :: starEach es X.env := by rfl) (hpl : (backTo pos (starEach es X.env)).any (·.1) = false := by rfl)
    (ht : eval (.Call (.Attribute (.Name x p) "__init__" apos) (e :: es) [] pos) X.env = (do
      let ov ← eval (.Name x p) X.env
      standAt apos.atName
      let (f, first) ← holding [ov] (getMethod ov "__init__" pl)
      callWith pos f first (backTo pos (starEach (e :: es) X.env)) (backToKw pos (keywordEach [] X.env))) := by rfl) :
    PE X (.Call (.Attribute (.Name x p) "__init__" apos) (e :: es) [] pos) (tInX X.K t) := by
  intro pins s σ H Q I h
  refine PySem.W.methodCall_KW (pl := pl) (ld_glob I hg hm ?_ hdb) ht
  refine PySem.W.method_cls I.kIn J.sp (PySem.W.cls_value I.kIn J.rd J.fc rfl ?_)
  have hA := ha pos pins _ σ H _ (I.tok (s.toks + 1)) h
  show wpAny _ _ (callWith pos (.builtin "ValueError.__init__") [] (backTo pos (starEach (e :: es) X.env)) []) _ _ _
  rw [hst] at hA ⊢
  refine Calls.callWith_builtin (by show (false || (backTo pos (starEach es X.env)).any (·.1)) = false; rw [hpl] <;> rfl) (Calls.evalArgs_plain ?_)
  refine thn hA fun us s2 ⟨vs, H2, I2, r2, a, C, d, xs, ev, hl, ea, mk, q⟩ => ?_
  subst ev
  cases r2 with
  | cons ru rr =>
    cases ru
    obtain ⟨t0, hx⟩ := xo_get I2.hok ea
    refine PySem.W.initX I2.kIn hx mk (by rw [← rr.length, sizeLine_eq]; omega) fun h' h1 h2 => ⟨.non, H2, ?_, rfl, q⟩
    have := I2.write (x := a) (e := a) (o := XO a C d) (t' := s2.toks) (h' := h') (by rw [ea]; exact True.intro) (.inl rfl) h2 ⟨_, h1⟩ (xo_ok h1)
    rwa [upd_self ea] at this
end
end L2

namespace L2
open PySem PyProof.Rows PySem.Spec PySem.Calls
/-! ### a refusal with its values, whatever the addresses -/
def XF (H : Hp) (e C : Addr) (fs : List (Str × V)) : Prop := ∃ dx, H e = some (XO e C (some dx)) ∧ H dx = some (XD dx fs) ∧ dx ≠ e
theorem XF.keep {H H' : Hp} {e C : Addr} {fs : List (Str × V)} (x : XF H e C fs) (k : Same H H') : XF H' e C fs := let ⟨d, a, b, c⟩ := x; ⟨d, k _ _ a, k _ _ b, c⟩
theorem XF.upd {H : Hp} {e C p : Addr} {fs : List (Str × V)} {o : HO} (x : XF H e C fs) (k : ∀ φ, H p ≠ some (.ext φ)) : XF (L2.upd H p o) e C fs := by
  obtain ⟨d, a, b, c⟩ := x
  have h1 : e ≠ p := fun z => k _ (by rw [← z]; exact a)
  have h2 : d ≠ p := fun z => k _ (by rw [← z]; exact b)
  exact ⟨d, by rw [upd_ne h1]; exact a, by rw [upd_ne h2]; exact b, c⟩
def sFldX (K : PySem.W.Frag) (ta tv : TE) (f : Str) : TS := fun D σ H => tv σ H fun y H1 => ta σ H1 fun x H2 =>
  (∃ a C, x = .ref a ∧ H2 a = some (XO a C none) ∧ ClsX K C ∧ NoAttr K C f ∧ ∀ dx, H2 dx = none → dx ≠ a → D.nx σ (upd (upd H2 dx (XD dx [(f, y)])) a (XO a C (some dx)))) ∨
  (∃ a C dx fs, x = .ref a ∧ IsX H2 a C (some dx) ∧ H2 dx = some (XD dx fs) ∧ dx ≠ a ∧ ClsX K C ∧ NoAttr K C f ∧ fs.length < 1000 ∧ D.nx σ (upd H2 dx (XD dx (putF f y fs))))
def tFldX (K : PySem.W.Frag) (ta : TE) (f : Str) : TE := fun σ H Q => ta σ H fun x H1 => ∃ a C fs v, x = .ref a ∧ XF H1 a C fs ∧ ClsX K C ∧ NoAttr K C f ∧ fs.lookup f = some v ∧ Q v H1
/-- isinstance(e, C) of a refusal -/
structure ClsI (K : PySem.W.Frag) (C : Addr) : Prop where
  c : ClsX K C
  ca : PySem.W.findIn K (.ref C) "__class__" = some (some (.builtin "object.__class__"))
  cn : PySem.W.specialIn K (.builtin "object.__class__") "__get__" = some (some (.builtin "getset_descriptor.__get__"))
  ct : PySem.W.takesIn K (.builtin "object.__class__") = some true
def clV : V → Value
  | .ref a => .ref a
  | .ty n => .type n
  | _ => .none
def rIsX (K : PySem.W.Frag) : List V → Hp → VK → Prop := fun xs H Q => ∃ a C fs c b, xs = [.ref a, c] ∧ XF H a C fs ∧ ClsI K C ∧ (∀ u, RelV c u → u = clV c) ∧ PySem.W.kitOne K (.ref C) (clV c) = some b ∧ Q (.bl b) H
/-- d.update(e), two dicts of ints and texts -/
def rUpd : V → List V → Hp → VK → Prop := fun x vs H Q => ∃ d e kvs more, x = .ref d ∧ vs = [.ref e] ∧ H d = some (.dK kvs) ∧ H e = some (.dK more) ∧ d ≠ e ∧ kvs.length + more.length ≤ 1000 ∧ Q .non (upd H d (.dK (mergeK kvs more)))
section
variable {X : Cx} {o e value : Expr} {f : Str} {pos pos' tpos : Pos} {ta tv : TE}
theorem ps_fldX (ha : PE X o ta) (hv : PE X value tv) (hs : swapsWith value (some (.Attribute o f pos')) pos.line X.env = pure false) : PS X (.Assign [.Attribute o f pos'] value pos) (sFldX X.K ta tv f) := by
  intro pins s σ H D I h
  refine plainObj_wpAny_Assign_Attribute (thn (hv pins s σ H _ I h) fun u s1 ⟨y, H1, I1, ry, q⟩ => thn (ha pins s1 σ H1 _ I1 q) fun ov s2 ⟨x, H2, I2, rx, q2⟩ => ?_) hs
  rcases q2 with ⟨a, C, ex, ea, c, n, q3⟩ | ⟨a, C, dx, fs, ex, ea, ed, ne, c, n, l, q3⟩
  · subst ex
    obtain rfl : ov = Value.ref a := rx
    exact setX1_ok I2 ea c n ry fun dx s3 h1 h2 I3 => ⟨σ, _, I3, q3 dx h1 h2⟩
  · subst ex
    obtain rfl : ov = Value.ref a := rx
    exact setX2_ok I2 ea ed ne c n l ry fun s3 I3 => ⟨σ, _, I3, q3⟩
end
end L2

namespace L2
open PySem PyProof.Rows PySem.Spec PySem.Calls
/-! ### equality of lists and tuples within each other, where they are equal -/
def Deq (K : PySem.W.Frag) (H : Hp) : Nat → V → V → Prop
  | 0, x, y => x = y ∧ flatV x = true
  | n + 1, x, y => (x = y ∧ flatV x = true) ∨ ∃ a b xs ys, x = .ref a ∧ y = .ref b ∧ ((SqL K H a xs ∧ SqL K H b ys) ∨ (SqT K H a xs ∧ SqT K H b ys)) ∧ xs.length = ys.length ∧ ∀ j, j < xs.length → Deq K H n (xs.getD j .non) (ys.getD j .non)
theorem deq_eqAt {X : Cx} {pins : List (Addr × Obj)} {σ : St} {H : Hp} {s : Shared} (I : Inv X pins σ H s) : ∀ (n : Nat) (A : Around) (x y : V) (u v : Value), A.units + n < cLine → Deq X.K H n x y → RelV x u → RelV y v → SeqAt.EqAt A s u v true
  | 0, A, x, y, u, v, _, ⟨e, f⟩, rx, ry => by
    subst e
    have := eqAt_V (A := A) (s := s) rx ry f f
    rwa [eqV_refl f] at this
  | n + 1, A, x, y, u, v, hu, h, rx, ry => by
    rcases h with ⟨e, f⟩ | ⟨a, b, xs, ys, rfl, rfl, hs, hl, he⟩
    · subst e
      have := eqAt_V (A := A) (s := s) rx ry f f
      rwa [eqV_refl f] at this
    · cases rx
      cases ry
      by_cases hab : a = b
      · subst hab; exact SeqAt.EqAt.same _
      have hu1 : A.in1.units + n < cLine := by
        have : A.in1.units = A.units + 1 := by first | rfl | exact Around.units_in1 A
        omega
      refine SeqAt.EqAt.of_refs hab ?_
      rcases hs with ⟨h1, h2⟩ | ⟨h1, h2⟩
      · obtain ⟨its, r1, l1, _⟩ := I.list h1
        obtain ⟨jts, r2, l2, _⟩ := I.list h2
        have e1 := r1.length
        have e2 := r2.length
        have := SeqAt.RcAt.lists (A := A) (e := fun _ => true) l1.isList l2.isList (by simp; omega) (by omega) (fun j q1 q2 => deq_eqAt I n A.in1 _ _ _ _ hu1 (he j (by simp at q1; omega)) (vals_at r1 j q1) (vals_at r2 j q2))
        rwa [show (List.range its.toArray.size).all (fun _ => true) = true from List.all_eq_true.mpr fun _ _ => rfl] at this
      · obtain ⟨its, r1, l1, _⟩ := I.tuple h1
        obtain ⟨jts, r2, l2, _⟩ := I.tuple h2
        have e1 := r1.length
        have e2 := r2.length
        have := SeqAt.RcAt.tuples (A := A) (e := fun _ => true) l1 l2 (by omega) (fun j q1 q2 => deq_eqAt I n A.in1 _ _ _ _ hu1 (he j (by simp at q1; omega)) (vals_at r1 j q1) (vals_at r2 j q2))
        rw [show (List.range (min its.toArray.size jts.toArray.size)).all (fun _ => true) = true from List.all_eq_true.mpr fun _ _ => rfl, Bool.true_and, beq_iff_eq.mpr (by simp; omega)] at this
        exact this
def rEqD (K : PySem.W.Frag) (n : Nat) : R2 := fun x y H Q => ∃ a b xs ys, x = .ref a ∧ y = .ref b ∧ SqL K H a xs ∧ SqL K H b ys ∧ xs.length = ys.length ∧ (∀ j, j < xs.length → Deq K H n (xs.getD j .non) (ys.getD j .non)) ∧ Q (.bl true) H
/-! ### a class of refusals, all in one -/
structure MkXD (P : Program) (w : World) (K : PySem.W.Frag) (mg : Str → Option Value) (base : Heap) (k : Nat) (x : Str) (C : Addr) (ps : List Str) (sp : Sp) : Prop where
  ex : ∃ f fd, MkX K C f ∧ FnOk P w K mg base CX0 k f fd ps sp ∧ Binds K fd ps [] ∧ mg x = some (.ref C)
  few : ps.length ≤ 1000
theorem pe_makeXD {X : Cx} {k : Nat} {x : Str} {C : Addr} {ps : List Str} {sp : Sp} {e : Expr} {es : List Expr} {t : TA} {p pos : Pos} (D : MkXD X.prog X.w X.K X.mg X.base k x C ps sp) (hr : Room (k + 1) X.A) (hg : Gl X x) (ha : PA X (e :: es) t) (hdb : (x == ("__debug__" : Str)) = false := by decide)
    (he : starEach (e :: es) X.env = (false, eval e X.env) :: starEach es X.env := by rfl) (hpl : (backTo pos (starEach es X.env)).any (·.1) = false := by rfl) : PE X (.Call (.Name x p) (e :: es) [] pos) (tMakeX C sp E0 t) := by
  obtain ⟨f, fd, M, F, b, m⟩ := D.ex
  exact pe_makeX M F hr hg m b pass0 D.few ha hdb he hpl
/-- what is seen of a class of refusals -/
def xcls (K : PySem.W.Frag) (C : Addr) (fs : List Str) : Bool :=
  PySem.W.hasDictIn K C && PySem.W.excOver K C && PySem.W.findIn K (.ref C) "__setattr__" == some (some (.builtin "object.__setattr__")) && PySem.W.findIn K (.ref C) "__getattribute__" == some (some (.builtin "BaseException.__getattribute__")) &&
  PySem.W.findIn K (.ref C) "__getattr__" == some none && PySem.W.findIn K (.ref C) "__class__" == some (some (.builtin "object.__class__")) && fs.all fun f => PySem.W.findIn K (.ref C) f == some none
structure XCl (K : PySem.W.Frag) (C : Addr) (fs : List Str) : Prop where
  i : ClsI K C
  n : ∀ f ∈ fs, NoAttr K C f
  m : PySem.W.excMk K C = true
theorem XCl.of {K : PySem.W.Frag} {C : Addr} {fs : List Str} (h : xcls K C fs = true) (m : PySem.W.excMk K C = true) (cn : PySem.W.specialIn K (.builtin "object.__class__") "__get__" = some (some (.builtin "getset_descriptor.__get__"))) (ct : PySem.W.takesIn K (.builtin "object.__class__") = some true) : XCl K C fs := by
  unfold xcls at h
  simp only [Bool.and_eq_true, beq_iff_eq, List.all_eq_true] at h
  obtain ⟨⟨⟨⟨⟨⟨h1, h2⟩, h3⟩, h4⟩, h5⟩, h6⟩, h7⟩ := h
  exact ⟨⟨⟨h1, h2, h3, h4, h5⟩, h6, cn, ct⟩, fun f hf => h7 f hf, m⟩
end L2

namespace L2
open PySem PyProof.Rows PySem.Spec PySem.Calls
theorem bt_ValueError : bootBuiltins "ValueError" = some (.type "ValueError") := by decide +kernel
/-- which class is under which, of a list of classes of refusals and what they are all under -/
def kitTab (K : PySem.W.Frag) (cs : List Addr) (b : Addr) : Bool :=
  (List.range cs.length).all fun i => PySem.W.kitOne K (.ref (cs.getD i 0)) (.ref b) == some true && PySem.W.kitOne K (.ref (cs.getD i 0)) (.type "ValueError") == some true && (List.range cs.length).all fun j => PySem.W.kitOne K (.ref (cs.getD i 0)) (.ref (cs.getD j 0)) == some (i == j)
theorem kitTab_base {K : PySem.W.Frag} {cs : List Addr} {b : Addr} {i : Nat} (h : kitTab K cs b = true) (hi : i < cs.length) : PySem.W.kitOne K (.ref (cs.getD i 0)) (.ref b) = some true := by
  have q := List.all_eq_true.mp h i (List.mem_range.mpr hi)
  simp only [beq_iff_eq, Bool.and_eq_true] at q
  exact q.1.1
theorem kitTab_val {K : PySem.W.Frag} {cs : List Addr} {b : Addr} {i : Nat} (h : kitTab K cs b = true) (hi : i < cs.length) : PySem.W.kitOne K (.ref (cs.getD i 0)) (.type "ValueError") = some true := by
  have q := List.all_eq_true.mp h i (List.mem_range.mpr hi)
  simp only [beq_iff_eq, Bool.and_eq_true] at q
  exact q.1.2
theorem kitTab_two {K : PySem.W.Frag} {cs : List Addr} {b : Addr} {i j : Nat} (h : kitTab K cs b = true) (hi : i < cs.length) (hj : j < cs.length) : PySem.W.kitOne K (.ref (cs.getD i 0)) (.ref (cs.getD j 0)) = some (i == j) := by
  have q := List.all_eq_true.mp h i (List.mem_range.mpr hi)
  simp only [beq_iff_eq, Bool.and_eq_true] at q
  exact beq_iff_eq.mp (List.all_eq_true.mp q.2 j (List.mem_range.mpr hj))
theorem putK_fresh {kvs : List (Key × V)} {k : Key} {v : V} (h : k ∉ kvs.map (·.1)) : putK kvs k v = kvs ++ [(k, v)] := by
  unfold putK
  rw [if_neg]
  intro e
  obtain ⟨p, hp, he⟩ := List.any_eq_true.mp e
  exact h (List.mem_map.mpr ⟨p, hp, of_decide_eq_true he⟩)
theorem mergeK_new : ∀ {more kvs : List (Key × V)} {ks : List Key}, kvs.map (·.1) ++ more.map (·.1) = ks → ks.Nodup → mergeK kvs more = kvs ++ more
  | [], kvs, ks, _, _ => (List.append_nil _).symm
  | p :: r, kvs, ks, e, n => by
    subst e
    have hn : p.1 ∉ kvs.map (·.1) := fun z => by
      rw [List.map_cons, List.nodup_append] at n
      exact n.2.2 _ z _ (.head _) rfl
    show mergeK (putK kvs p.1 p.2) r = _
    rw [putK_fresh hn, mergeK_new (more := r) (kvs := kvs ++ [(p.1, p.2)]) rfl (by rw [List.map_append, List.append_assoc]; exact n), List.append_assoc]
    rfl
theorem valV_at {kvs : List (Key × V)} {ks : List Key} {j : Nat} {k : Key} {v : V} (e : kvs.map (·.1) = ks) (n : ks.Nodup) (h : kvs[j]? = some (k, v)) : valV kvs k = some v := by
  subst e
  unfold valV
  induction kvs generalizing j with
  | nil => cases h
  | cons p r ih =>
    rw [List.map_cons, List.nodup_cons] at n
    cases j with
    | zero =>
      cases Option.some.inj h
      rw [List.find?_cons_of_pos (by simp)]
      rfl
    | succ j =>
      have h' : r[j]? = some (k, v) := h
      have ne : p.1 ≠ k := fun z => n.1 (List.mem_map.mpr ⟨(k, v), List.mem_of_getElem? h', z.symm⟩)
      rw [List.find?_cons_of_neg (by simpa using ne)]
      exact ih h' n.2
theorem DGet.look {H : Hp} {a : Addr} {kvs : List (Key × V)} {ks : List Key} {j : Nat} {k : Key} {v : V} (eH : H a = some (.dK kvs)) (e : kvs.map (·.1) = ks) (n : ks.Nodup) (h : kvs[j]? = some (k, v)) : DGet H a (kV k) (some v) := by
  rw [← valV_at e n h]
  exact DGet.k eH
/-! ### a text's own copy, of texts, lists of these, a pair of a text and such a list, a list of one such pair -/
def spC (m : Nat) : Sp := fun vs H Q _ =>
  (1 ≤ m ∧ ∃ z : Str, vs = [.str z] ∧ Q (.str z) H) ∨
  (2 ≤ m ∧ ∃ (a : Addr) (zs : List Str), vs = [.ref a] ∧ H a = some (.lst (zs.map V.str)) ∧ zs.length ≤ 100 ∧ ∀ p H', Same H H' → H p = none → H' p = some (.lst (zs.map V.str)) → Q (.ref p) H') ∨
  (3 ≤ m ∧ ∃ (a l : Addr) (z : Str) (zs : List Str), vs = [.ref a] ∧ H a = some (.tup [.str z, .ref l]) ∧ H l = some (.lst (zs.map V.str)) ∧ zs.length ≤ 100 ∧
    ∀ p q H', Same H H' → H p = none → H q = none → H' p = some (.tup [.str z, .ref q]) → H' q = some (.lst (zs.map V.str)) → Q (.ref p) H') ∨
  (4 ≤ m ∧ ∃ (a b l : Addr) (z : Str) (zs : List Str), vs = [.ref a] ∧ H a = some (.lst [.ref b]) ∧ H b = some (.tup [.str z, .ref l]) ∧ H l = some (.lst (zs.map V.str)) ∧ zs.length ≤ 100 ∧
    ∀ r p q H', Same H H' → H r = none → H' r = some (.lst [.ref p]) → H' p = some (.tup [.str z, .ref q]) → H' q = some (.lst (zs.map V.str)) → Q (.ref r) H')
theorem Fun.never {P : Program} {w : World} {K : PySem.W.Frag} {mg : Str → Option Value} {base : Heap} {x qual : Str} {st : Stmt} {f : Addr} {fd : FuncData} (_F : Fun K x qual st f fd) : FnOk P w K mg base CX0 0 f fd ["value"] (spC 0) := by
  have no : ∀ vs H Q E, spC 0 vs H Q E → False := fun vs H Q E h => by
    rcases h with h | h | h | h <;> exact absurd h.1 (by decide)
  exact ⟨fun vs H Q E q => (no _ _ _ _ q).elim, fun A outer s H args us vs Q E _ _ _ _ hs => (no _ _ _ _ hs).elim⟩
end L2

namespace PySem.W
open PySem
/-! ### an exception passes a frame: what stays -/
structure Noted (e : Addr) (cl : Value) (d : Option Addr) (fr : List Addr) (off : Addr → Prop) (h h' : Heap) : Prop where
  exc : ∃ vs sl T oT ts, h'.get? e = some ⟨cl, d, .fields vs, sl⟩ ∧ vs[1]? = some (.ref T) ∧ T ≠ e ∧ h.objs.size ≤ T ∧ h'.get? T = some oT ∧ oT.data = .fields ts ∧ ts[3]? = some .none
  keep : ∀ b o, b ≠ e → ¬ off b → b ∉ fr → h.get? b = some o → h'.get? b = some o
  slot : ∀ b o, b ≠ e → ¬ off b → h.get? b = some o → ∃ sl, h'.get? b = some { o with slots := sl }
abbrev tbObj (ws : Array Value) : Obj := { cls := .type "traceback", dict := none, data := .fields ws }
section
variable {M : Model} {E : Value → Shared → Prop} {A : Around} {s : Shared}
theorem note_core {bh : Heap} {env : Env} {outer : List Env} {L e : Addr} {cl head : Value} {d : Option Addr} {vs : Array Value} {sl : Array (Option Value)} {hadNext : Bool} {Q : Unit → Shared → Prop}
    (hA : A.frames = some (env :: outer)) (hl : s.heap.FunFrames bh (env :: outer)) (hf : env.frame = some L) (he : s.heap.get? e = some ⟨cl, d, .fields vs, sl⟩) (hz : 1 < vs.size)
    (k : ∀ h', Noted e cl d ((env :: outer).filterMap (·.frame)) (fun _ => False) s.heap h' → Q () { s with heap := h' }) :
    wpAny M A (do let fo ← frameOf env; let pl ← entryPlaceOf L hadNext; let tb ← EntryCells.newEntry head fo .none (rawInt L) .none pl; setField (.ref e) 1 tb) (fun _ s1 => wpAny M A (setFlight (.ref e) none) Q E s1) E s := by
  have eno : e ∉ (env :: outer).filterMap (·.frame) := fun z => by
    obtain ⟨_, ob, q1, q2⟩ := hl.mem z
    rw [he] at q1
    cases q1
    exact q2 vs rfl
  refine wpAny_bind (wpAny_frameOf_fun hA hl hf fun g so => ?_)
  refine wpAny_bind (wpAny_entryPlaceOf fun pla hpl => ?_)
  unfold EntryCells.newEntry; unfold newFields
  refine (wpAny_bind (wpAny_newObj_type ?_ (hpl.sizeOk5 _ _ _ _ _)))
  generalize hws : ([head, .ref L, .none, rawInt L, .none] ++ (if pla.isEmpty then List.replicate 6 Value.none else pla)).toArray = ws
  have wz : 3 < ws.size := by
    rw [← hws]
    simp only [List.size_toArray, List.length_append, List.length_cons, List.length_nil]
    omega
  have e1 : g.get? e = some ⟨cl, d, .fields vs, sl⟩ := (so.2.1 e eno).trans he
  have nT : g.objs.size ≠ e := Nat.ne_of_gt (Heap.lt_size e1)
  have e2 : (g.push (tbObj ws)).get? e = _ := Heap.get?_push_of_some (h := g) (tbObj ws) e1
  refine wpAny_setField e2 rfl hz ?_
  generalize hu : (g.push (tbObj ws)).update e (Obj.mapFields (·.setIfInBounds 1 (Value.ref g.objs.size))) = g2
  have e3 : g2.get? e = some ⟨cl, d, .fields (vs.setIfInBounds 1 (.ref g.objs.size)), sl⟩ := by
    rw [← hu]
    exact Heap.get?_update_self _ e2 rfl
  have t3 : g2.get? g.objs.size = some (tbObj ws) := by
    rw [← hu, Heap.get?_update_other _ _ (Ne.symm nT)]
    exact Heap.get?_push_size g rfl
  have o3 : ∀ b ob, b ≠ e → g.get? b = some ob → g2.get? b = some ob := fun b ob hb q => by
    rw [← hu, Heap.get?_update_other _ _ (Ne.symm hb)]
    exact Heap.get?_push_of_some _ q
  unfold setFlight
  refine wpAny_bind (wpAny_field e3 rfl (x := .ref g.objs.size) (by simp [hz]) ?_)
  rw [if_pos (by simp)]
  refine wpAny_setField t3 rfl wz (k _ ⟨?_, fun b ob hb _ hx q => ?_, fun b ob hb _ q => ?_⟩)
  · refine ⟨vs.setIfInBounds 1 (.ref g.objs.size), sl, g.objs.size, _, _, ?_, by simp [hz], nT, ?_, Heap.get?_update_self _ t3 rfl, rfl, by simp [wz]⟩
    · rw [Heap.get?_update_other _ _ nT]
      exact e3
    · exact Nat.le_of_eq so.1.symm
  · have q1 : g.get? b = some ob := (so.2.1 b hx).trans q
    rw [Heap.get?_update_other _ _ (Nat.ne_of_gt (Heap.lt_size q1))]
    exact o3 b ob hb q1
  · obtain ⟨s1, q1⟩ := so.2.2 b ob q
    refine ⟨s1, ?_⟩
    rw [Heap.get?_update_other _ _ (Nat.ne_of_gt (Heap.lt_size q1))]
    exact o3 b _ hb q1
/-- the record of the way so far -/
def HeadAt (h : Heap) (e T : Addr) : Prop := T ≠ e ∧ ∃ oT ts, h.get? T = some oT ∧ oT.data = .fields ts ∧ ts[3]? = some .none
theorem note_fly {bh : Heap} {env : Env} {outer : List Env} {L e : Addr} {cl : Value} {d : Option Addr} {vs : Array Value} {sl : Array (Option Value)} {off : Addr → Prop} {Q : Unit → Shared → Prop}
    (hA : A.frames = some (env :: outer)) (hl : s.heap.FunFrames bh (env :: outer)) (hf : env.frame = some L) (he : s.heap.get? e = some ⟨cl, d, .fields vs, sl⟩)
    (hv : vs[1]? = some .none ∨ ∃ T, vs[1]? = some (.ref T) ∧ HeadAt s.heap e T ∧ off T)
    (k : ∀ h', Noted e cl d ((env :: outer).filterMap (·.frame)) off s.heap h' → Q () { s with heap := h' }) :
    wpAny M A (noteFrame (.ref e) env) (fun _ s1 => wpAny M A (setFlight (.ref e) none) Q E s1) E s := by
  unfold noteFrame
  simp only [hf]
  rcases hv with hv | ⟨T, hv, ⟨nT, oT, ts, hT, dT, h3⟩, ho⟩
  · refine wpAny_bind (wpAny_field he rfl hv ?_)
    rw [if_neg (by decide)]
    exact note_core hA hl hf he (Array.getElem?_eq_some_iff.mp hv).1 fun h' n => k h' ⟨n.exc, fun b o h1 _ => n.keep b o h1 (fun z => z), fun b o h1 _ => n.slot b o h1 (fun z => z)⟩
  · refine wpAny_bind (wpAny_field he rfl hv ?_)
    rw [if_pos (by simp)]
    refine wpAny_bind (wpAny_field hT dT h3 ?_)
    rw [if_neg (by simp [rawInt])]
    refine wpAny_bind (wpAny_setField hT dT (Array.getElem?_eq_some_iff.mp h3).1 ?_)
    generalize hu : s.heap.update T (Obj.mapFields (·.setIfInBounds 3 Value.none)) = g
    have oth : ∀ b, b ≠ T → g.get? b = s.heap.get? b := fun b hb => by rw [← hu]; exact Heap.get?_update_other _ _ (Ne.symm hb)
    have hz : g.objs.size = s.heap.objs.size := by rw [← hu]; exact Heap.size_after_update ..
    refine note_core (s := { s with heap := g }) hA (hl.of_keeps fun b o q nf => ⟨o, (oth b fun z => ?_).trans q, rfl⟩) hf ((oth e (Ne.symm nT)).trans he) (Array.getElem?_eq_some_iff.mp hv).1 fun h' n => k h' ⟨?_, fun b o h1 h2 h3 q => ?_, fun b o h1 h2 q => ?_⟩
    · rw [z, hT] at q
      cases q
      exact nf ts dT
    · obtain ⟨vs', sl', T', o', ts', x1, x2, x3, x4, x5⟩ := n.exc
      exact ⟨vs', sl', T', o', ts', x1, x2, x3, by rw [← hz]; exact x4, x5⟩
    · exact n.keep b o h1 (fun z => z) h3 ((oth b fun z => h2 (z ▸ ho)).trans q)
    · exact n.slot b o h1 (fun z => z) ((oth b fun z => h2 (z ▸ ho)).trans q)
end
end PySem.W

namespace L2
open PySem PyProof.Rows PySem.Spec PySem.Calls
/-! ### refusals that pass: how one lies behind a call -/
def TrX (n : Nat) (H : Hp) (ea : Addr) (h : Heap) : Prop := ∃ cl d vs sl T, h.get? ea = some ⟨cl, d, .fields vs, sl⟩ ∧ vs[1]? = some (.ref T) ∧ PySem.W.HeadAt h ea T ∧ n ≤ T ∧ H T = none
def CXe (P : Program) (w : World) : CXT := fun outer H s E e s' => ∃ ea C d H', e = .ref ea ∧ s'.os = s.os ∧ AllBare s'.gens ∧ Un (frs outer) [] H H' s.heap s'.heap ∧ HOk P w H' s'.heap ∧ H' ea = some (XC ea C d) ∧
  TrX s.heap.objs.size H' ea s'.heap ∧ E (.ref C) (some ea) H'
/-- .. in a body -/
def TrI (X : Cx) (pins : List (Addr × Obj)) (H : Hp) (ea : Addr) (h : Heap) : Prop := ∃ cl d vs sl T, h.get? ea = some ⟨cl, d, .fields vs, sl⟩ ∧ vs[1]? = some (.ref T) ∧ PySem.W.HeadAt h ea T ∧ X.s₀.heap.objs.size ≤ T ∧ H T = none ∧
  T ≠ X.env.locals ∧ (∀ x c, X.env.cells.lookup x = some c → c ≠ T) ∧ ∀ p ∈ X.pn ++ pins, p.1 ≠ T
/-- the frame of a def runs on top -/
structure Top (X : Cx) : Prop where
  ex : X.ex = []
  stk : X.stack = X.env :: X.outer
  fr : X.env.frame = some X.env.locals
def PassesS (X : Cx) (G : St → XK) : Prop := ∀ (pins : List (Addr × Obj)) (σ : St) (H : Hp) (s : Shared) (e : Value) (s' : Shared), Inv X pins σ H s → CXe X.prog X.w X.stack H s (G σ) e s' → X.xe e s'
def RaisesS (X : Cx) (G : St → XK) : Prop := ∀ (pins : List (Addr × Obj)) (σ : St) (H : Hp) (s : Shared) (ea C : Addr) (d : Option Addr), Inv X pins σ H s → H ea = some (XO ea C d) → G σ (.ref C) (some ea) (upd H ea (XC ea C d)) → X.xe (.ref ea) s
abbrev G0 : St → XK := fun _ _ _ _ => False
theorem passE0 {X : Cx} : PassesS X G0 := fun _ _ _ _ _ _ _ ⟨_, _, _, _, _, _, _, _, _, _, _, z⟩ => z.elim
section
variable {X : Cx} {pins : List (Addr × Obj)} {σ : St} {H H' : Hp} {s s' : Shared} {ea C : Addr} {d : Option Addr} {h' : Heap}
theorem Inv.flew {E : XK} {e : Value} (I : Inv X pins σ H s) (c : CXe X.prog X.w X.stack H s E e s') : ∃ ea C d H', e = .ref ea ∧ Inv X pins σ H' s' ∧ H' ea = some (XC ea C d) ∧ TrI X pins H' ea s'.heap ∧ E (.ref C) (some ea) H' := by
  obtain ⟨ea, C, d, H', rfl, ho, hb, un, ok, hx, ⟨cl, d', vs, sl, T, g1, g2, g3, g4, g5⟩, q⟩ := c
  refine ⟨ea, C, d, H', rfl, I.call' ho un ok hb (fun b z => absurd z (by simp)), hx, ⟨cl, d', vs, sl, T, g1, g2, g3, Nat.le_trans I.sz g4, g5, fun z => ?_, fun x c hc z => ?_, fun p hp z => ?_⟩, q⟩
  · have lt := I.lt
    rw [← z] at lt
    exact absurd (Nat.lt_of_lt_of_le lt g4) (Nat.lt_irrefl _)
  · obtain ⟨v, o, q1, _⟩ := I.cell x c hc
    have lt := Heap.lt_size q1
    rw [z] at lt
    exact absurd (Nat.lt_of_lt_of_le lt g4) (Nat.lt_irrefl _)
  · have lt := Heap.lt_size (I.pin p hp).1
    rw [z] at lt
    exact absurd (Nat.lt_of_lt_of_le lt g4) (Nat.lt_irrefl _)
/-- the frame is noted -/
theorem Inv.noted {off : Addr → Prop} (t : Top X) (I : Inv X pins σ H s) (hx : H ea = some (XC ea C d))
    (ht : ∀ T, off T → X.s₀.heap.objs.size ≤ T ∧ H T = none ∧ T ≠ X.env.locals ∧ (∀ x c, X.env.cells.lookup x = some c → c ≠ T) ∧ ∀ p ∈ X.pn ++ pins, p.1 ≠ T) (h1 : ∀ T U, off T → off U → T = U)
    (n : PySem.W.Noted ea (.ref C) d (X.env :: X.outer |>.filterMap (·.frame)) off s.heap h') : Inv X pins σ H { s with heap := h' } ∧ TrI X pins H ea h' := by
  have fr : ∀ b, b ∈ (X.env :: X.outer).filterMap (·.frame) ↔ b = X.env.locals ∨ b ∈ X.fs := fun b => by
    rw [List.filterMap_cons, t.fr]
    exact List.mem_cons
  have frn : ∀ b, b ∈ (X.env :: X.outer).filterMap (·.frame) → H b = none := fun b hb => I.stkFree b (by rw [t.stk]; exact hb)
  obtain ⟨vs, sl, T, oT, ts, x1, x2, x3, x4, x5, x6, x7⟩ := n.exc
  have nea : ∀ b, H b = none → b ≠ ea := fun b hb z => by rw [z, hx] at hb; cases hb
  obtain ⟨ch, hch⟩ : ∃ ch : List Addr, (∀ b ∈ ch, off b) ∧ ∀ b, off b → b ∈ ch := by
    by_cases z : ∃ T, off T
    · obtain ⟨T, hT⟩ := z
      exact ⟨[T], fun b hb => by rw [List.mem_singleton.mp hb]; exact hT, fun b hb => by rw [h1 b T hb hT]; exact List.mem_singleton.mpr rfl⟩
    · exact ⟨[], fun b hb => absurd hb (by simp), fun b hb => absurd ⟨b, hb⟩ z⟩
  have I' : Inv X pins σ H { s with heap := h', gens := s.gens, drawn := s.drawn, toks := s.toks } := by
    refine I.step (ch := ch) (fun b hb => ?_) (fun b o h1 h2 h3 q hn => ?_) (fun b o h1 h2 h3 q hn => ?_) (fun _ _ _ _ q => q) (fun b o h3 q => ?_) (fun _ _ q => q) (fun _ _ _ q => q) (fun b ps q => ⟨#[], by rw [q]; simp⟩) (fun m hm => ?_) (fun b u hb => ?_) I.bare
    · obtain ⟨a1, _, a3, a4, a5⟩ := ht b (hch.1 b hb)
      exact ⟨.inr a1, a3, a4, a5⟩
    · exact n.keep b o (nea b hn) (fun z => h3 (hch.2 b z)) (fun z => ((fr b).mp z).elim h1 h2) q
    · exact n.slot b o (nea b hn) (fun z => h3 (hch.2 b z)) q
    · by_cases z : b = ea
      · rw [z]; exact ⟨_, x1⟩
      · obtain ⟨l, q1⟩ := n.slot b o z (fun z => h3 (hch.2 b z)) q
        exact ⟨_, q1⟩
    · obtain ⟨o, es, ep, ho, r⟩ := hm
      obtain ⟨l, q1⟩ := n.slot _ o (nea _ I.free) (fun z => (ht _ z).2.2.1 rfl) ho
      exact ⟨_, es, ep, q1, r⟩
    · by_cases z : b = ea
      · subst z
        rw [hx] at hb
        cases hb
        exact xc_ok x1
      · refine (I.hok b u hb).stay (fun c v hc q => n.keep c v ?_ (fun z => ?_) (fun z => ?_) q) (fun _ q => q) fun _ _ q => q
        · rcases hc with rfl | hc
          · exact z
          · intro z
            rw [z, hx] at hc
            cases hc
        · have hn := (ht c z).2.1
          rcases hc with rfl | hc
          · rw [hb] at hn; cases hn
          · rw [hc] at hn; cases hn
        · have hn := frn c z
          rcases hc with rfl | hc
          · rw [hb] at hn; cases hn
          · rw [hc] at hn; cases hn
  have lt := I.lt
  refine ⟨I', .ref C, d, vs, sl, T, x1, x2, ⟨x3, oT, ts, x5, x6, x7⟩, Nat.le_trans I.sz x4, I.hok.fresh x4, fun z => ?_, fun x c hc z => ?_, fun p hp z => ?_⟩
  · rw [← z] at lt
    exact absurd (Nat.lt_of_lt_of_le lt x4) (Nat.lt_irrefl _)
  · obtain ⟨v, o, q1, _⟩ := I.cell x c hc
    have lt := Heap.lt_size q1
    rw [z] at lt
    exact absurd (Nat.lt_of_lt_of_le lt x4) (Nat.lt_irrefl _)
  · have lt := Heap.lt_size (I.pin p hp).1
    rw [z] at lt
    exact absurd (Nat.lt_of_lt_of_le lt x4) (Nat.lt_irrefl _)
/-- a refusal that came from a call is noted -/
theorem note_flew {Q : Unit → Shared → Prop} {E : Value → Shared → Prop} (t : Top X) (I : Inv X pins σ H s) (hx : H ea = some (XC ea C d)) (tr : TrI X pins H ea s.heap)
    (k : ∀ s', Inv X pins σ H s' → TrI X pins H ea s'.heap → Q () s') :
    wpAny (model X.prog X.w) X.A (noteFrame (.ref ea) X.env) (fun _ s1 => wpAny (model X.prog X.w) X.A (setFlight (.ref ea) none) Q E s1) E s := by
  obtain ⟨cl, d', vs, sl, T, g1, g2, g3, g4⟩ := tr
  obtain ⟨vs', sl', q⟩ := x_get I.hok (.inr hx)
  rw [g1] at q
  cases q
  refine PySem.W.note_fly (bh := X.base) (off := fun b => b = T) (outer := X.outer) (by rw [← t.stk]; exact I.ok.frames) (by rw [← t.stk]; exact I.stack) t.fr g1 (.inr ⟨T, g2, g3, rfl⟩) fun h' n => ?_
  obtain ⟨a, b⟩ := I.noted (off := fun b => b = T) t hx (fun U z => (show U = T from z) ▸ g4) (fun _ _ p q => p.trans q.symm) n
  exact k _ a b
/-- a refusal that is raised here is noted -/
theorem note_made {Q : Unit → Shared → Prop} {E : Value → Shared → Prop} (t : Top X) (I : Inv X pins σ H s) (hx : H ea = some (XO ea C d))
    (k : ∀ s', Inv X pins σ (upd H ea (XC ea C d)) s' → TrI X pins (upd H ea (XC ea C d)) ea s'.heap → Q () s') :
    wpAny (model X.prog X.w) X.A (noteFrame (.ref ea) X.env) (fun _ s1 => wpAny (model X.prog X.w) X.A (setFlight (.ref ea) none) Q E s1) E s := by
  obtain ⟨t0, g1⟩ := xo_get I.hok hx
  have I1 : Inv X pins σ (upd H ea (XC ea C d)) { s with heap := s.heap, toks := s.toks } := I.write (x := ea) (e := ea) (by rw [hx]; exact True.intro) (.inl rfl) (fun _ _ _ q => q) ⟨_, g1⟩ (xc_ok g1)
  refine PySem.W.note_fly (bh := X.base) (off := fun _ => False) (outer := X.outer) (by rw [← t.stk]; exact I.ok.frames) (by rw [← t.stk]; exact I.stack) t.fr g1 (.inl rfl) fun h' n => ?_
  obtain ⟨a, b⟩ := I1.noted t upd_same (fun _ z => z.elim) (fun _ _ z => z.elim) n
  exact k _ a b
theorem TrI.tr (t : TrI X pins H ea h') : TrX X.s₀.heap.objs.size H ea h' := let ⟨cl, d, vs, sl, T, a, b, c, e, f, _⟩ := t; ⟨cl, d, vs, sl, T, a, b, c, e, f⟩
end
/-! ### a def that lets refusals pass -/
section
variable {P : Program} {w : World} {K : PySem.W.Frag} {mg : Str → Option Value} {base : Heap} {N ps : List Str} {qual x : Str} {scope : Scope} {f : Addr} {cd : Value} {A : Around} {outer : List Env} {s : Shared} {H : Hp} {E : XK} {k : Nat}
abbrev cxE (P : Program) (w : World) (K : PySem.W.Frag) (mg : Str → Option Value) (base : Heap) (N : List Str) (qual : Str) (scope : Scope) (f : Addr) (cd : Value) (A : Around) (outer : List Env) (s : Shared) (H : Hp) (E : XK) : Cx :=
  cxOf (CXe P w) P w K mg base N qual scope f cd A outer s H E
theorem top_def : Top (cxE P w K mg base N qual scope f cd A outer s H E) := ⟨rfl, rfl, rfl⟩
theorem own_def : PassesOwn (model P w) (cxE P w K mg base N qual scope f cd A outer s H E).A (cxE P w K mg base N qual scope f cd A outer s H E).env (cxE P w K mg base N qual scope f cd A outer s H E).xe := PassesOwn.leaving
theorem pass_def : PassesS (cxE P w K mg base N qual scope f cd A outer s H E) (fun _ => E) := by
  intro pins σ H1 s1 e s2 I c
  obtain ⟨ea, C, d, H2, rfl, I2, hx, tr, q⟩ := I.flew c
  show wpAny _ _ (leaving _ _) _ _ _
  unfold leaving
  refine wpAny_bind (note_flew top_def I2 hx tr fun s3 I3 t3 => ?_)
  exact ⟨ea, C, d, H2, rfl, I3.os, I3.bare, I3.base, I3.hok, hx, t3.tr, q⟩
theorem raise_def : RaisesS (cxE P w K mg base N qual scope f cd A outer s H E) (fun _ => E) := by
  intro pins σ H1 s1 ea C d I hx q
  show wpAny _ _ (leaving _ _) _ _ _
  unfold leaving
  refine wpAny_bind (note_made top_def I hx fun s3 I3 t3 => ?_)
  exact ⟨ea, C, d, _, rfl, I3.os, I3.bare, I3.base, I3.hok, upd_same, t3.tr, q⟩
theorem Fun.okE {st : Stmt} {fd : FuncData} {sp : Sp} (F : Fun K x qual st f fd) (S : FnScope N ps (defScope st)) (len : ∀ vs H Q E, sp vs H Q E → vs.length = ps.length)
    (hbody : ∀ (cdv : Value) (A : Around) (outer : List Env) (s : Shared) (H : Hp) (vs : List V) (Q : VK) (E : XK), Room k (A.deeper (envOfC qual (defScope st) s.heap.objs.size f cdv)) → sp vs H Q E →
      ∃ t, PSs (cxE P w K mg base N qual (defScope st) f cdv A outer s H E) (defBody st) t ∧ t { nx := fun _ H' => Q .non H', rt := Q } (start N vs) H) : FnOk P w K mg base (CXe P w) (k + 1) f fd ps sp := by
  obtain ⟨oc, od, kV, doc, pm, an, cdv, ct, osl, rfl, lk, hcd⟩ := F.ex
  exact fn_of lk hcd S len fun A outer s H vs Q E hr hsp => hbody cdv A outer s H vs Q E hr hsp
theorem FnOk.lift {CX : CXT} {fd : FuncData} {sp : Sp} (F : FnOk P w K mg base CX0 k f fd ps sp) : FnOk P w K mg base CX k f fd ps sp :=
  ⟨F.len, fun A outer s H args us vs Q E hr e0 hb r h => codeAny_mono (F.run A outer s H args us vs Q E hr e0 hb r h) fun r s' q => match r, q with
    | .ok (.ret _), q => q
    | .ok .next, q => q
    | .ok .brk, q => q
    | .ok .cont, q => q
    | .error _, q => False.elim q⟩
structure DfE (P : Program) (w : World) (K : PySem.W.Frag) (mg : Str → Option Value) (base : Heap) (k : Nat) (x : Str) (ps : List Str) (sp : Sp) : Prop where
  ex : ∃ f fd, FnOk P w K mg base (CXe P w) k f fd ps sp ∧ Binds K fd ps [] ∧ PySem.W.keepIn K (.ref f) = true ∧ mg x = some (.ref f)
structure MtE (P : Program) (w : World) (K : PySem.W.Frag) (mg : Str → Option Value) (base : Heap) (k : Nat) (m : Str) (C : Addr) (ps : List Str) (sp : Sp) : Prop where
  ex : ∃ f fd, Meth K C m f ∧ FnOk P w K mg base (CXe P w) k f fd ps sp ∧ Binds K fd ps []
theorem MtD.e {m : Str} {C : Addr} {sp : Sp} (D : MtD P w K mg base k m C ps sp) : MtE P w K mg base k m C ps sp := let ⟨f, fd, a, b, c⟩ := D.ex; ⟨f, fd, a, b.lift, c⟩
theorem Dfn.e {sp : Sp} (D : Dfn P w K mg base k x ps sp) : DfE P w K mg base k x ps sp := let ⟨f, fd, a, b, c⟩ := D.ex; ⟨f, fd, a.lift, b, c⟩
end
/-! ### calls -/
def tCallE (sp : Sp) (G : St → XK) (t : TA) : TE := fun σ H Q => t σ H fun vs H1 => sp vs H1 Q (G σ)
/-- o.m(..), whatever own class o is of: the method is told by the reading -/
def tMethE (P : Program) (w : World) (K : PySem.W.Frag) (mg : Str → Option Value) (base : Heap) (k : Nat) (m : Str) (G : St → XK) (ta : TE) (t : TA) : TE := fun σ H Q => ta σ H fun x H1 => ∃ a C dx fs ps sp, x = .ref a ∧ H1 a = some (.ins C dx fs) ∧ fs.lookup m = none ∧ Cls K C ∧ MtE P w K mg base k m C ps sp ∧
  t σ H1 fun vs H2 => sp (x :: vs) H2 Q (G σ)
section
variable {X : Cx} {k : Nat} {ps : List Str} {sp : Sp} {G : St → XK} {x m : Str} {p pos apos : Pos} {e o : Expr} {es : List Expr} {ta : TE} {t : TA}
theorem run_fnE {pins : List (Addr × Obj)} {σ : St} {H : Hp} {s : Shared} {Q : VK} {us : List Value} {vs : List V} {f : Addr} {fd : FuncData} (F : FnOk X.prog X.w X.K X.mg X.base (CXe X.prog X.w) k f fd ps sp) (hr : Room k X.A) (hb : Binds X.K fd ps []) (hx : PassesS X G)
    (I : Inv X pins σ H s) (r : Vals vs us) (h : sp vs H Q (G σ)) : wpAny (model X.prog X.w) X.A (call (.ref f) us) (EP X pins σ Q) X.xe s := by
  have hl : us.length = ps.length := by rw [← r.length]; exact F.len _ _ _ _ h
  have hb2 := hb s us I.kIn (by rw [List.append_nil]; exact hl)
  rw [List.append_nil] at hb2
  refine wpAny_call (codeAny_mono (F.run X.A X.stack s H ⟨us, []⟩ us vs Q (G σ) hr I.env0 hb2 r h) fun r s' hq => ?_)
  cases r with
  | error e => exact hx pins σ H s e s' I hq
  | ok fl =>
    cases fl with
    | ret u => exact I.after hq
    | next => exact False.elim hq
    | brk => exact False.elim hq
    | cont => exact False.elim hq
theorem pe_methE {pl : Sem Bool} (k : Nat) (hx : PassesS X G) (hr : Room k X.A) (he : PE X o ta) (ha : PA X (e :: es) t)
    (hst : starEach (e :: es) X.env = (false, eval e X.env) :: starEach es X.env := by rfl) (hpl : (backTo pos (starEach es X.env)).any (·.1) = false := by rfl)
    (ht : eval (.Call (.Attribute o m apos) (e :: es) [] pos) X.env = (do
      let ov ← eval o X.env
      standAt apos.atName
      let (f, first) ← holding [ov] (getMethod ov m pl)
      callWith pos f first (backTo pos (starEach (e :: es) X.env)) (backToKw pos (keywordEach [] X.env))) := by rfl) :
    PE X (.Call (.Attribute o m apos) (e :: es) [] pos) (tMethE X.prog X.w X.K X.mg X.base k m G ta t) := by
  intro pins s σ H Q I h
  refine PySem.W.methodCall_KW (pl := pl) (thn (he pins s σ H _ I h) fun u s1 ⟨x, H1, I1, rx, a, C, dx, fs, ps, sp, ex, ea, l, c, D, q⟩ => ?_) ht
  subst ex
  obtain rfl : u = Value.ref a := rx
  obtain ⟨f, fd, hm, F, b⟩ := D.ex
  refine getmeth_ok I1 ea c hm l ?_
  refine PySem.W.callWith_K (first := [.ref a]) (h₀ := X.base) I.ok.mod.kin hm.kp (thn (ha pos pins s1 σ H1 _ I1 q) fun us s2 ⟨vs, H2, I2, r, q2⟩ => ⟨I2.kIn, ?_⟩) hst hpl
  exact run_fnE (us := .ref a :: us) (vs := .ref a :: vs) F hr b hx I2 (.cons rfl r) q2
theorem pe_methE0 {pl : Sem Bool} (k : Nat) (hx : PassesS X G) (hr : Room k X.A) (he : PE X o ta)
    (ht : eval (.Call (.Attribute o m apos) [] [] pos) X.env = (do
      let ov ← eval o X.env
      standAt apos.atName
      let (f, first) ← holding [ov] (getMethod ov m pl)
      callWith pos f first (backTo pos (starEach [] X.env)) (backToKw pos (keywordEach [] X.env))) := by rfl) :
    PE X (.Call (.Attribute o m apos) [] [] pos) (tMethE X.prog X.w X.K X.mg X.base k m G ta tNil) := by
  intro pins s σ H Q I h
  refine PySem.W.methodCall_KW (pl := pl) (thn (he pins s σ H _ I h) fun u s1 ⟨x, H1, I1, rx, a, C, dx, fs, ps, sp, ex, ea, l, c, D, q⟩ => ?_) ht
  subst ex
  obtain rfl : u = Value.ref a := rx
  obtain ⟨f, fd, hm, F, b⟩ := D.ex
  refine getmeth_ok I1 ea c hm l ?_
  exact PySem.W.callWith_K0 (first := [.ref a]) I1.kIn hm.kp (run_fnE (us := [.ref a]) (vs := [.ref a]) F hr b hx I1 (.cons rfl .nil) q)
end
end L2

namespace PySem.W
open PySem PyProof.Rows PySem.Spec PySem.Calls
/-! ### raising and catching own refusals -/
def mroHas (K : Frag) (C : Addr) (c : Value) : Bool := match K.lookup C with
  | some ⟨_, _, .cls cd, _⟩ => cd.mro.contains c
  | _ => false
theorem exc_mro {K : Frag} {h : Heap} {C : Addr} (X : K.In h) (q : excMk K C = true) : ∃ tlm, ExcAt h C tlm ∧ OwnTail h veMro tlm ∧ ∀ c, mroHas K C c = (Value.ref C :: tlm).contains c := by
  obtain ⟨tlm, hE, T⟩ := excMk_obj X q
  refine ⟨tlm, hE, T, fun c => ?_⟩
  unfold mroHas
  cases hk : K.lookup C with
  | none =>
    unfold excMk at q
    rw [hk] at q
    cases q
  | some o =>
    obtain ⟨N, nm, q, bs, hdct, sn, sub, ab, col, dd, q0, q1, q2, q3, q5, hCl⟩ := hE
    have z := X _ _ hk
    rw [hCl] at z
    cases z
    rfl
section
variable {M : Model} {A : Around} {E : Value → Shared → Prop} {env : Env} {K : Frag}
theorem exc_match {h : Heap} {g : Array GenState} {d : Drawn} {t : Nat} {os : OsState} {e C D : Addr} {oe : Obj} {Q : Bool → Shared → Prop} (X : K.In h) (qC : excMk K C = true) (qD : excMk K D = true) (he : h.get? e = some oe) (hc : oe.cls = .ref C)
    (hq : Q (mroHas K C (.ref D)) ⟨h, g, d, t, os⟩) : wpAny M A (excMatches (.ref e) (.ref D)) Q E ⟨h, g, d, t, os⟩ := by
  obtain ⟨tl, ⟨N, nm, q, bs, hdct, sn, sub, ab, col, dd, q0, q1, q2, q3, q5, hC⟩, _, mh⟩ := exc_mro X qC
  obtain ⟨tl', ⟨N', nm', q', bs', hdct', sn', sub', ab', col', dd', q0', q1', q2', q3', q5', hD⟩, T, _⟩ := exc_mro X qD
  have hB : (Value.ref D :: tl').contains (.type "BaseException") = true := by
    rw [List.contains_cons, T.hasType (show veMro.contains (.type "BaseException") = true from by decide +kernel), Bool.or_true]
  rw [mh] at hq
  have f := tc_notTuple
  unfold excMatches
  repeat (first | (with_reducible refine wpAny_loadPart_at he ?_; rw [hc]) | with_reducible refine wpAny_loadPart_at hD ?_ | (with_reducible refine wpAny_isSubtype_exc hD ?_; rw [hB]) | with_reducible refine wpAny_isSubtype_exc hC ?_ | wp_step)
  all_goals (cases hb : (Value.ref C :: tl).contains (.ref D) <;> (rw [hb] at hq; wp_walk; exact hq))
theorem raise_X {s : Shared} {x : Sem Value} {Q : Flow → Shared → Prop} (hh : A.handled = none)
    (h : wpAny M A x (fun v s1 => ∃ e C d t0, v = .ref e ∧ K.In s1.heap ∧ excMk K C = true ∧ s1.heap.get? e = some ⟨.ref C, d, .fields #[.ref t0, .none, .none, .none, .bool false, .none], #[]⟩ ∧ E (.ref e) s1) E s) :
    wpAny M A (raiseStmt env (some x) none) Q E s := by  -- raised here
  unfold raiseStmt
  refine wpAny_bind (wpAny_mono h (fun v s1 h1 => ?_) fun _ _ x => x)
  obtain ⟨e, C, d, t0, rfl, X, qC, he, hE⟩ := h1
  obtain ⟨tl, ⟨N, nm, q, bs, hdct, sn, sub, ab, col, dd, q0, q1, q2, q3, q5, hC⟩, T, _⟩ := exc_mro X qC
  have hB : (Value.ref C :: tl).contains (.type "BaseException") = true := by
    rw [List.contains_cons, T.hasType (show veMro.contains (.type "BaseException") = true from by decide +kernel), Bool.or_true]
  obtain ⟨hp, g, d', tk, os⟩ := s1
  repeat (first | with_reducible refine wpAny_loadPart_at he ?_ | with_reducible refine wpAny_loadPart_at hC ?_ | (with_reducible refine wpAny_isSubtype_exc hC ?_; rw [hB]) | wp_step)
  exact (wpAny_raiseNew_none hh hE)
end
end PySem.W
namespace L2
open PySem PyProof.Rows PySem.Spec PySem.Calls
def tRaise (K : PySem.W.Frag) (G : St → XK) (te : TE) : TS := fun _ σ H => te σ H fun v H1 => ∃ ea C d, v = .ref ea ∧ H1 ea = some (XO ea C d) ∧ PySem.W.excMk K C = true ∧ G σ (.ref C) (some ea) (upd H1 ea (XC ea C d))
abbrev Cx.caught (X : Cx) (ea : Addr) : Cx := { X with A := X.A.mark (some (.ref ea)), calm := false, xe := fun _ _ => False }
abbrev Cx.inTry (X : Cx) (ps : List (Addr × Obj)) (xe : Value → Shared → Prop) : Cx := { X with pn := X.pn ++ ps, xe := xe }
section
variable {X : Cx} {pins : List (Addr × Obj)} {σ : St} {H : Hp} {s : Shared} {ea : Addr}
theorem ps_raise {G : St → XK} {e : Expr} {te : TE} {pos : Pos} (hR : RaisesS X G) (hc : X.calm = true) (he : PE X e te) : PS X (.Raise (some e) none pos) (tRaise X.K G te) := by
  intro pins s σ H D I h
  show wpAny _ _ (do standAt pos; raiseStmt X.env (some (do let v ← eval e X.env; standAt pos; pure v)) none) _ _ s
  refine wpAny_bind (wpAny_standAt (PySem.W.raise_X (K := X.K) (I.ok.hd hc) (wpAny_bind (thn (he pins s σ H _ I h) fun v s1 ⟨x, H1, I1, rx, ea, C, d, ex, hx, mk, q⟩ => wpAny_bind (wpAny_standAt (wpAny_pure ?_))))))
  subst ex
  obtain rfl : v = Value.ref ea := rx
  obtain ⟨t0, g1⟩ := xo_get I1.hok hx
  exact ⟨ea, C, d, t0, rfl, I1.kIn, mk, g1, hR pins σ H1 s1 ea C d I1 hx q⟩
theorem Cx.Ok.caught (ok : X.Ok) : (X.caught ea).Ok :=
  ⟨ok.mod, ok.kind, ok.glob, ok.blt, ok.above, ok.inj, ok.has, ok.cab, (fun z => nomatch z), ok.frames, ok.stk, ok.exf, ok.bs, ok.bsz, ok.noex, ok.exfs, ok.funs, ok.frf⟩
theorem Inv.caught (I : Inv X pins σ H s) : Inv (X.caught ea) pins σ H s := ⟨I.ok.caught, I.os, I.bare, I.base, I.loc, I.cell, I.free, I.freeC, I.pin, I.hok, I.len⟩
theorem Inv.uncaught (o : X.Ok) (I : Inv (X.caught ea) pins σ H s) : Inv X pins σ H s := ⟨o, I.os, I.bare, I.base, I.loc, I.cell, I.free, I.freeC, I.pin, I.hok, I.len⟩
theorem Cx.Ok.inTry {ps : List (Addr × Obj)} {xe : Value → Shared → Prop} (ok : X.Ok) : (X.inTry ps xe).Ok :=
  ⟨ok.mod, ok.kind, ok.glob, ok.blt, ok.above, ok.inj, ok.has, ok.cab, ok.hd, ok.frames, ok.stk, ok.exf, ok.bs, ok.bsz, ok.noex, ok.exfs, ok.funs, ok.frf⟩
theorem Inv.inTry {xe : Value → Shared → Prop} (I : Inv X pins σ H s) : Inv (X.inTry pins xe) [] σ H s := ⟨I.ok.inTry, I.os, I.bare, I.base, I.loc, I.cell, I.free, I.freeC, fun p hp => I.pin p (by rw [← List.append_nil (X.pn ++ pins)]; exact hp), I.hok, I.len⟩
theorem Inv.outTry {ps : List (Addr × Obj)} {xe : Value → Shared → Prop} (o : X.Ok) (I : Inv (X.inTry ps xe) pins σ H s) : Inv X ps σ H s := ⟨o, I.os, I.bare, I.base, I.loc, I.cell, I.free, I.freeC, fun p hp => I.pin p (List.mem_append_left _ hp), I.hok, I.len⟩
theorem SP.outTry {ps : List (Addr × Obj)} {xe : Value → Shared → Prop} {D : Ends} {f : Flow} {s' : Shared} (o : X.Ok) (h : SP (X.inTry ps xe) pins D f s') : SP X ps D f s' := by
  cases f with
  | next => obtain ⟨σ', H', I, q⟩ := h; exact ⟨σ', H', I.outTry o, q⟩
  | brk => obtain ⟨σ', H', I, q⟩ := h; exact ⟨σ', H', I.outTry o, q⟩
  | cont => obtain ⟨σ', H', I, q⟩ := h; exact ⟨σ', H', I.outTry o, q⟩
  | ret u => obtain ⟨v, σ', H', I, r, q⟩ := h; exact ⟨v, σ', H', I.outTry o, r, q⟩
/-- a name is taken away -/
theorem unbind_ok {M : Model} {A : Around} {E : Value → Shared → Prop} {i : Nat} {n : Str} {v : V} {Q : Unit → Shared → Prop} (I : Inv X pins σ H s) (hN : X.N.Nodup) (hi : X.N[i]? = some n) (hx : X.env.scope.names.lookup n = some .local) (hv : σ[i]? = some (some v))
    (h : ∀ s', Inv X pins (σ.set i none) H s' → Q () s') : wpAny M A (unbindName X.env n) Q E s := by
  obtain ⟨m, hn, hl⟩ := id I.loc
  obtain ⟨u, _, lk⟩ := hl i n v hi hv (.inl hx)
  have hm : m n = some u := by
    rcases lk with ⟨_, e⟩ | ⟨k, _⟩
    · exact e
    · have kx : X.env.kindOf n = some .local := hx
      rw [kx] at k
      rcases k with k | k <;> cases k
  have hcls : (X.env.scope.kind == .class || (X.env.scope.kind == .module && X.env.locals != X.env.globals)) = false := by rw [I.ok.kind]; rfl
  have iσ : i < σ.length := by rw [I.len]; exact (List.getElem?_eq_some_iff.mp hi).1
  refine wpAny_unbindName_local hx hn hm hcls fun h' u' hn' hs => h _ ?_
  obtain ⟨oLo, _, _, hoLo, _⟩ := id hn
  have ne0 : ∀ b o, X.s₀.heap.get? b = some o → b ≠ X.env.locals := fun b o e => Nat.ne_of_lt (Nat.lt_of_lt_of_le (Heap.lt_size e) I.ok.above)
  refine ⟨I.ok, I.os, I.bare, ⟨fun b o e nn hb he => (hs.2 b (ne0 b o e)).trans (I.base.keep b o e nn hb he), fun b o e nn hb he => ?_, I.base.free, fun b o e he => ?_, I.base.tups, I.base.frzs, I.base.tbls⟩, ⟨_, hn', fun j y w' e1 e2 e3 => ?_⟩, fun y c e => ?_, I.free, I.freeC, fun p hp => ?_, fun b ob e => ?_, by simpa using I.len⟩
  · obtain ⟨sl, q⟩ := I.base.slot b o e nn hb he
    exact ⟨sl, (hs.2 b (ne0 b o e)).trans q⟩
  · obtain ⟨o', q⟩ := I.base.there b o e he
    exact ⟨o', (hs.2 b (ne0 b o e)).trans q⟩
  · have hj : j ≠ i := fun z => by
      subst z
      rw [List.getElem?_set_self iσ] at e2
      cases e2
    rw [List.getElem?_set_ne (Ne.symm hj)] at e2
    obtain ⟨u2, r2, q⟩ := hl j y w' e1 e2 e3
    refine ⟨u2, r2, ?_⟩
    rcases q with ⟨k, e⟩ | ⟨k, c, e, z⟩
    · refine .inl ⟨k, ?_⟩
      have hy : y ≠ n := fun z => hj (nodup_ix hN e1 (z ▸ hi))
      show (if y = n then u' else m y) = some u2
      rw [if_neg hy]
      exact e
    · exact .inr ⟨k, c, e, z.sameBut hs (I.cne y c e)⟩
  · obtain ⟨w', z⟩ := I.cell y c e
    exact ⟨w', z.sameBut hs (I.cne y c e)⟩
  · obtain ⟨e, nn, ne, nf, dd⟩ := I.pin p hp
    exact ⟨(hs.2 p.1 ne).trans e, nn, ne, nf, dd⟩
  · refine (I.hok b ob e).stay (fun c w' hc q => (hs.2 c ?_).trans q) (fun _ q => q) fun _ _ q => q
    rintro rfl
    rcases hc with rfl | hc
    · rw [I.free] at e; cases e
    · rw [I.free] at hc; cases hc
end
/-! ### handlers -/
abbrev TH := Ends → St → Hp → Addr → Addr → Prop
def PH (X : Cx) (hs : List ExceptHandler) (t : TH) : Prop := ∀ (pins : List (Addr × Obj)) (s : Shared) (σ : St) (H : Hp) (D : Ends) (ea C : Addr) (d : Option Addr), Inv X pins σ H s → H ea = some (XC ea C d) → TrI X pins H ea s.heap → t D σ H C ea →
  wpAny (model X.prog X.w) X.A (handleBy (.ref ea) X.env hs) (SP X pins D) X.xe s
def tNoH : TH := fun _ _ _ _ _ => False
def Ends.less (D : Ends) (i : Nat) : Ends := { nx := fun σ H => D.nx (σ.set i none) H, rt := D.rt, bk := fun σ H => D.bk (σ.set i none) H, ct := fun σ H => D.ct (σ.set i none) H }
def tAs (K : PySem.W.Frag) (B : Addr) (i : Nat) (ts : TS) (tr : TH) : TH := fun D σ H C ea => PySem.W.excMk K C = true ∧ PySem.W.excMk K B = true ∧ ∃ b, PySem.W.mroHas K C (.ref B) = b ∧ if b = true then ts (D.less i) (σ.set i (some (.ref ea))) H else tr D σ H C ea
def tTry (tb : (St → XK) → TS) (th : TH) : TS := fun D σ H => tb (fun σ' c oa H' => ∃ C ea, c = .ref C ∧ oa = some ea ∧ th D σ' H' C ea) D σ H
section
variable {X : Cx}
theorem ph_nil : PH X [] tNoH := fun _ _ _ _ _ _ _ _ _ _ _ h => h.elim
theorem ph_as {x n : Str} {B : Addr} {i : Nat} {b₀ : Stmt} {suite : List Stmt} {ts : TS} {tr : TH} {np hpos : Pos} {rest : List ExceptHandler} (hg : Gl X x) (hm : X.mg x = some (.ref B)) (hN : X.N.Nodup) (hi : X.N[i]? = some n) (hl : X.env.scope.names.lookup n = some .local)
    (hs : ∀ ea, PSs (X.caught ea) (b₀ :: suite) ts) (hr : PH X rest tr) (hd : (x == ("__debug__" : Str)) = false := by decide) : PH X (.ExceptHandler (some (.Name x np)) (some n) (b₀ :: suite) hpos :: rest) (tAs X.K B i ts tr) := by
  intro pins s σ H D ea C d I hx tr h
  obtain ⟨mC, mB, b, hb, h⟩ := h
  have I1 : Inv (X.caught ea) pins σ H s := I.caught
  refine wpAny_handleBy_cons (codeAny_handlers_test (ld_glob I1 hg hm ?_ hd)) (by intro q; cases q)
  obtain ⟨vs, sl, g1⟩ := x_get I.hok (.inr hx)
  refine PySem.W.exc_match (K := X.K) I.kIn mC mB g1 rfl ?_
  rw [hb]
  cases b with
  | false => exact hr pins s σ H D ea C d I hx tr h
  | true =>
    show codeAny _ _ _ _ _
    refine (codeAny_handlers_suite_as ?_)
    obtain ⟨cl, d', vs', sl', T, g1', g2, ⟨nT, oT, ts', gT, dT, h3⟩, g4, g5, g6, g7, g8⟩ := tr
    rw [g1] at g1'
    cases g1'
    unfold setFlight
    refine wpAny_bind (wpAny_field g1 rfl g2 ?_)
    rw [if_pos (by simp)]
    refine wpAny_setField gT dT (Array.getElem?_eq_some_iff.mp h3).1 ?_
    have I2 : Inv (X.caught ea) pins σ H { s with heap := s.heap.update T (Obj.mapFields (·.setIfInBounds 3 ((none : Option Addr).elim Value.none fun f => rawInt f))), toks := s.toks } :=
      I1.turned (it := T) (fun b o hb q => by rw [Heap.get?_update_other _ _ (Ne.symm hb)]; exact q) g5 g6 (.inr g4) g7 g8
    refine store_ok (X := X.caught ea) I2 hN hi (.inl hl) (v := .ref ea) rfl (fun s3 I3 => ?_) (.inr hl)
    refine wpAny_mono (hs ea pins s3 _ H (D.less i) I3 h) (fun f s4 q => ?_) fun _ _ z => False.elim z
    have fin : ∀ {σ' : St} {H' : Hp} {Q : Shared → Prop}, Inv (X.caught ea) pins σ' H' s4 → (∀ s5, Inv X pins (σ'.set i none) H' s5 → Q s5) → wpAny (model X.prog X.w) X.A (do bindName X.env n .none; unbindBehindTheSuite X.env n hpos) (fun _ s5 => Q s5) X.xe s4 := fun {σ' H' Q} J k => by
      have J' := J.uncaught I.ok
      refine wpAny_bind (wpAny_bindName (store_ok J' hN hi (.inl hl) (v := .non) rfl (fun s5 I5 => ?_) (.inr hl)))
      unfold unbindBehindTheSuite
      refine wpAny_onRaise (unbind_ok I5 hN hi hl (List.getElem?_set_self (by rw [J'.len]; exact (List.getElem?_eq_some_iff.mp hi).1)) fun s6 I6 => k s6 ?_)
      rwa [List.set_set] at I6
    cases f with
    | next => obtain ⟨σ', H', J, q⟩ := q; exact fin (Q := fun s5 => SP X pins D .next s5) J fun s5 I5 => ⟨_, H', I5, q⟩
    | brk => obtain ⟨σ', H', J, q⟩ := q; exact fin (Q := fun s5 => SP X pins D .brk s5) J fun s5 I5 => ⟨_, H', I5, q⟩
    | cont => obtain ⟨σ', H', J, q⟩ := q; exact fin (Q := fun s5 => SP X pins D .cont s5) J fun s5 I5 => ⟨_, H', I5, q⟩
    | ret u => obtain ⟨v, σ', H', J, r, q⟩ := q; exact fin (Q := fun s5 => SP X pins D (.ret u) s5) J fun s5 I5 => ⟨v, _, H', I5, r, q⟩
theorem ps_try {body : List Stmt} {h₀ : ExceptHandler} {hs : List ExceptHandler} {pos : Pos} {tb : (St → XK) → TS} {th : TH} (t : Top X)
    (hb : ∀ (ps : List (Addr × Obj)) (xe : Value → Shared → Prop) (G : St → XK), PassesS (X.inTry ps xe) G → PassesOwn (model X.prog X.w) X.A X.env xe → PSs (X.inTry ps xe) body (tb G))
    (hh : PH X (h₀ :: hs) th) : PS X (.Try body (h₀ :: hs) [] [] pos) (tTry tb th) := by
  intro pins s σ H D I h
  have o := I.ok
  refine wpAny_Try_except (thn (hb pins _ _ ?_ PassesOwn.looking [] s σ H D I.inTry h) fun f s1 q => ?_)
  · intro ps2 σ2 H2 s2 e s3 I2 c
    obtain ⟨ea, C, d, H3, rfl, I3, hx, tr, C', ea', e1, e2, q⟩ := I2.flew c
    cases e1
    cases e2
    have tr' : TrI X pins H3 ea s3.heap := let ⟨a1, a2, a3, a4, a5, b1, b2, b3, b4, b5, b6, b7, b8⟩ := tr; ⟨a1, a2, a3, a4, a5, b1, b2, b3, b4, b5, b6, b7, fun p hp => b8 p (List.mem_append_left _ hp)⟩
    exact note_flew t (I3.outTry o) hx tr' fun s4 I4 t4 => hh pins s4 σ2 H3 D ea C d I4 hx t4 q
  · have q' := q.outTry o
    cases f with
    | next => exact wpAny_execs_nil q'
    | brk => exact q'
    | cont => exact q'
    | ret u => exact q'
end
end L2

namespace L2
open PySem PyProof.Rows PySem.Spec PySem.Calls
/-! ### own classes by isinstance; caught refusals; Base.__init__ of own classes -/
def XG (H : Hp) (e C : Addr) (fs : List (Str × V)) : Prop := ∃ dx, IsX H e C (some dx) ∧ H dx = some (XD dx fs) ∧ dx ≠ e
theorem XF.g {H : Hp} {e C : Addr} {fs : List (Str × V)} (x : XF H e C fs) : XG H e C fs := let ⟨d, a, b, c⟩ := x; ⟨d, .inl a, b, c⟩
theorem XG.keep {H H' : Hp} {e C : Addr} {fs : List (Str × V)} (x : XG H e C fs) (k : Same H H') : XG H' e C fs := by
  obtain ⟨d, a, b, c⟩ := x
  rcases a with a | a
  · exact ⟨d, .inl (k _ _ a), k _ _ b, c⟩
  · exact ⟨d, .inr (k _ _ a), k _ _ b, c⟩
/-- a raised one -/
theorem XF.raised {H : Hp} {e C : Addr} {fs : List (Str × V)} (x : XF H e C fs) : ∃ dx, H e = some (XO e C (some dx)) ∧ XG (L2.upd H e (XC e C (some dx))) e C fs :=
  let ⟨d, a, b, c⟩ := x
  ⟨d, a, d, .inr upd_same, by rw [upd_ne c]; exact b, c⟩
def rIsO (K : PySem.W.Frag) : List V → Hp → VK → Prop := fun xs H Q => ∃ x c t b, xs = [x, c] ∧ TyOf K H x t ∧ (∀ u, RelV c u → u = clV c) ∧ PySem.W.kitOne K t (clV c) = some b ∧ Q (.bl b) H
def rIsG (K : PySem.W.Frag) : List V → Hp → VK → Prop := fun xs H Q => ∃ a C fs c b, xs = [.ref a, c] ∧ XG H a C fs ∧ ClsI K C ∧ (∀ u, RelV c u → u = clV c) ∧ PySem.W.kitOne K (.ref C) (clV c) = some b ∧ Q (.bl b) H
def rIsGT (K : PySem.W.Frag) : List V → Hp → VK → Prop := fun xs H Q => ∃ a C fs tp cs b, xs = [.ref a, .ref tp] ∧ XG H a C fs ∧ ClsI K C ∧ H tp = some (.tup cs) ∧ (∀ c ∈ cs, ∀ u, RelV c u → u = clV c) ∧ PySem.W.kitAny K (.ref C) (cs.map clV) = some b ∧ Q (.bl b) H
def tFldG (K : PySem.W.Frag) (ta : TE) (f : Str) : TE := fun σ H Q => ta σ H fun x H1 => ∃ a C fs v, x = .ref a ∧ XG H1 a C fs ∧ ClsX K C ∧ NoAttr K C f ∧ fs.lookup f = some v ∧ Q v H1
section
variable {X : Cx} {e o : Expr} {es : List Expr} {f x : Str} {p pos apos : Pos} {ta : TE} {t : TA} {k : Nat} {ps : List Str} {sp : Sp}
theorem call_isG : CallR X (.builtin "isinstance") (rIsG X.K) := by
  intro pins s σ H xs us Q I r h
  obtain ⟨a, C, fs, c, b, rfl, ⟨dx, ea, ed, _⟩, cl, hc, e, q⟩ := h
  obtain ⟨u, w', rfl, r1, r2⟩ := vals2 r
  cases (show u = Value.ref a from r1)
  cases hc _ r2
  obtain ⟨vs, sl, hx⟩ := x_get I.hok ea
  obtain ⟨_, mA, hn, _, _⟩ := xd_get I.hok ed
  obtain ⟨od, ho, _⟩ := lookIn_ns hn
  exact PySem.W.kia_one (PySem.W.kitx_X (ox := ⟨.ref C, some dx, .fields vs, sl⟩) (od := od) (cl.c.at cl.ca cl.cn cl.ct)) I.kIn ⟨hx, rfl, rfl, ho⟩ e (fun z => nomatch z) fun tk => ⟨.bl b, H, I.tok tk, rfl, q⟩
theorem pe_fldG (he : PE X e ta) (hb : attributeBase e f X.env (eval e X.env) = eval e X.env) : PE X (.Attribute e f pos) (tFldG X.K ta f) := by
  intro pins s σ H Q I h
  refine attr_of hb (thn (he pins s σ H _ I h) fun u s1 ⟨x, H1, I1, rx, a, C, fs, v, ex, ⟨dx, ea, ed, _⟩, c, n, l, q⟩ => ?_)
  subst ex
  obtain rfl : u = Value.ref a := rx
  exact getX_ok I1 ea ed c n l fun u' s2 I2 ru => ⟨v, H1, I2, ru, q⟩
/-- Base.__init__(self, ..), Base an own class with an __init__ of its own -/
structure InO (K : PySem.W.Frag) (B f : Addr) : Prop where
  sp : PySem.W.specialIn K (.ref B) "__getattribute__" = some (some (.builtin "type.__getattribute__"))
  rd : PySem.W.readsIn K B (.type "type") = true
  fc : PySem.W.findCls K (.ref B) (.type "type") "__init__" = some (.val (.ref f))
structure InD (P : Program) (w : World) (K : PySem.W.Frag) (mg : Str → Option Value) (base : Heap) (k : Nat) (x : Str) (B : Addr) (ps : List Str) (sp : Sp) : Prop where
  ex : ∃ f fd, InO K B f ∧ FnOk P w K mg base CX0 k f fd ps sp ∧ Binds K fd ps [] ∧ PySem.W.keepIn K (.ref f) = true ∧ mg x = some (.ref B)
theorem pe_initD {B : Addr} {pl : Sem Bool} (D : InD X.prog X.w X.K X.mg X.base k x B ps sp) (hr : Room k X.A) (hg : Gl X x) (ha : PA X (e :: es) t) (hdb : (x == ("__debug__" : Str)) = false := by decide)
    (hst : starEach (e :: es) X.env = (false, eval e X.env) :: starEach es X.env := by rfl) (hpl : (backTo pos (starEach es X.env)).any (·.1) = false := by rfl)
    (ht : eval (.Call (.Attribute (.Name x p) "__init__" apos) (e :: es) [] pos) X.env = (do
      let ov ← eval (.Name x p) X.env
      standAt apos.atName
      let (f, first) ← holding [ov] (getMethod ov "__init__" pl)
      callWith pos f first (backTo pos (starEach (e :: es) X.env)) (backToKw pos (keywordEach [] X.env))) := by rfl) :
    PE X (.Call (.Attribute (.Name x p) "__init__" apos) (e :: es) [] pos) (tCall sp [] E0 t) := by
  intro pins s σ H Q I h
  obtain ⟨f, fd, J, F, b, kp, hm⟩ := D.ex
  refine PySem.W.methodCall_KW (pl := pl) (ld_glob I hg hm ?_ hdb) ht
  refine PySem.W.method_cls I.kIn J.sp (PySem.W.cls_value I.kIn J.rd J.fc rfl ?_)
  refine PySem.W.callWith_K (first := []) (h₀ := X.base) I.ok.mod.kin kp (thn (ha pos pins _ σ H _ (I.tok (s.toks + 1)) h) fun us s1 ⟨vs, H1, I1, r, q⟩ => ⟨I1.kIn, ?_⟩) hst hpl
  exact run_fn F hr b .nil pass0 I1 r q
theorem pe_makeD0 {C : Addr} (D : MkD X.prog X.w X.K X.mg X.base k x C ps sp) (hr : Room (k + 1) X.A) (hg : Gl X x) (hdb : (x == ("__debug__" : Str)) = false := by decide) : PE X (.Call (.Name x p) [] [] pos) (tMake C sp [] E0 tNil) := by
  obtain ⟨f, fd, M, F, b, m⟩ := D.ex
  exact pe_make0 M F hr hg m b .nil pass0 hdb
end
section
variable {P : Program} {w : World} {K : PySem.W.Frag} {mg : Str → Option Value} {base : Heap} {j k : Nat} {x m : Str} {C : Addr} {ps : List Str} {sp : Sp}
theorem MtE.mono (D : MtE P w K mg base j m C ps sp) (h : j ≤ k) : MtE P w K mg base k m C ps sp := let ⟨f, fd, a, b, c⟩ := D.ex; ⟨f, fd, a, b.mono h, c⟩
theorem DfE.mono (D : DfE P w K mg base j x ps sp) (h : j ≤ k) : DfE P w K mg base k x ps sp := let ⟨f, fd, a, b⟩ := D.ex; ⟨f, fd, a.mono h, b⟩
end
end L2
namespace L2
open PySem PyProof.Rows PySem.Spec PySem.Calls
structure OwnTy (K : PySem.W.Frag) (C : Addr) : Prop where
  ha : PySem.W.findIn K (.ref C) "__class__" = some (some (.builtin "object.__class__"))
  hn : PySem.W.specialIn K (.builtin "object.__class__") "__get__" = some (some (.builtin "getset_descriptor.__get__"))
  tk : PySem.W.takesIn K (.builtin "object.__class__") = some true
  hm : PySem.W.mroIn K C (.type "object") = some true
theorem OwnTy.ty {K : PySem.W.Frag} {C a dx : Addr} {H : Hp} {fs : List (Str × V)} (o : OwnTy K C) (cl : Cls K C) (e : H a = some (.ins C dx fs)) : TyOf K H (.ref a) (.ref C) := .ins e cl o.ha o.hn o.tk o.hm
theorem top_nox {CX : CXT} {P : Program} {w : World} {K : PySem.W.Frag} {mg : Str → Option Value} {base : Heap} {N : List Str} {qual : Str} {scope : Scope} {f : Addr} {cd : Value} {A : Around} {outer : List Env} {s : Shared} {H : Hp} {E : XK} :
    Top (cxOf CX P w K mg base N qual scope f cd A outer s H E).nox := ⟨rfl, rfl, rfl⟩
theorem ixN_nat {n j : Nat} (h : j < n) : ixN n (j : Int) = some j := by
  unfold ixN
  simp [h]
end L2
namespace L2
open PySem PyProof.Rows PySem.Spec PySem.Calls
section
variable {X : Cx} {P : Program} {w : World} {K : PySem.W.Frag} {mg : Str → Option Value} {base : Heap} {G : St → XK} {m : Str} {pos apos : Pos} {e o : Expr} {es : List Expr} {ta : TE} {t : TA}
theorem pe_methEK {pl : Sem Bool} (q : X.prog = P ∧ X.w = w ∧ X.K = K ∧ X.mg = mg ∧ X.base = base) (k : Nat) (hx : PassesS X G) (hr : Room k X.A) (he : PE X o ta) (ha : PA X (e :: es) t)
    (hst : starEach (e :: es) X.env = (false, eval e X.env) :: starEach es X.env := by rfl) (hpl : (backTo pos (starEach es X.env)).any (·.1) = false := by rfl)
    (ht : eval (.Call (.Attribute o m apos) (e :: es) [] pos) X.env = (do
      let ov ← eval o X.env
      standAt apos.atName
      let (f, first) ← holding [ov] (getMethod ov m pl)
      callWith pos f first (backTo pos (starEach (e :: es) X.env)) (backToKw pos (keywordEach [] X.env))) := by rfl) :
    PE X (.Call (.Attribute o m apos) (e :: es) [] pos) (tMethE P w K mg base k m G ta t) := by
  obtain ⟨rfl, rfl, rfl, rfl, rfl⟩ := q
  exact pe_methE (pl := pl) k hx hr he ha hst hpl ht
end
end L2
namespace L2
open PySem PyProof.Rows PySem.Spec PySem.Calls
section
variable {X : Cx} {K : PySem.W.Frag} {e : Expr} {f : Str} {pos : Pos} {ta : TE}
end
end L2

namespace L2
open PySem PySem.Spec PyProof.Rows
/-! ### ranges with a step -/
def Its (lo d : Int) (n : Nat) : It := ⟨fun i _ => i < n, fun i H x H' => H' = H ∧ x = .int (lo + i * d), fun i _ => n ≤ i⟩
section
variable {X : Cx} {tg : Expr}
/-- range(i, j, d), d above 0 -/
def iRng3 (ta : TA) : TI := fun σ H R => ta σ H fun vs H1 => ∃ i j d : Int, vs = [.int i, .int j, .int d] ∧ (-(2 ^ 60) ≤ i ∧ i < 2 ^ 60 ∧ -(2 ^ 60) ≤ j ∧ j < 2 ^ 60 ∧ 0 < d ∧ d < 2 ^ 29) ∧ R (Its i d (if i < j then (j - i - 1) / d + 1 else 0).toNat) H1
end
end L2
namespace L2
open PySem PySem.Spec PyProof.Rows
/-! ### a comprehension whose items are new things -/
def New (H H' : Hp) (G : Hp → Prop) : Prop := ∃ S : Addr → Prop, (∀ b, S b → H b = none ∧ ∃ o, H' b = some o) ∧ ∀ H3, (∀ b, S b → H3 b = H' b) → G H3
theorem compB_mk {J : It} {tc : TT} {te : TE} {σf : Option V → St} {H1 : Hp} {Q : VK} {xs : List V} (S : Seq J H1 xs) (G : V → V → Hp → Prop) (hz : xs.length < sizeLine)
    (hc : ∀ x ∈ xs, ∀ (H' : Hp) (R : Bool → Hp → Prop), Same H1 H' → R true H' → tc (σf (some x)) H' R)
    (he : ∀ x ∈ xs, ∀ (H' : Hp) (R : VK), Same H1 H' → (∀ y H'', Same H' H'' → New H' H'' (G x y) → R y H'') → te (σf (some x)) H' R)
    (q : ∀ D H' ys, Same H1 H' → H1 D = none → H' D = some (.lst ys) → ys.length = xs.length → (∀ (i : Nat) x y, xs[i]? = some x → ys[i]? = some y → G x y H') → Q (.ref D) H') : CompB J tc te σf H1 Q := by
  intro D hD
  refine ⟨fun i m ys H2 => m = xs.length - i ∧ i ≤ xs.length ∧ Same H1 H2 ∧ H2 D = some (.lst ys) ∧ ys.length = i ∧ ∀ (k : Nat) x y, xs[k]? = some x → ys[k]? = some y → ∃ Z : Addr → Prop, (∀ b, Z b → b ≠ D ∧ ∃ o, H2 b = some o) ∧ ∀ H3, (∀ b, Z b → H3 b = H2 b) → G x y H3,
    ⟨xs.length, rfl, Nat.zero_le _, same_new hD _, upd_same, rfl, fun k x y _ e => by simp at e⟩, ?_⟩
  rintro i m ys H2 ⟨rfl, hi, sm, hD2, hl, hg⟩
  refine ⟨hD2, ?_⟩
  by_cases hlt : i < xs.length
  · refine .inr ⟨S.go i H2 sm hlt, by omega, fun x H3 y => ?_⟩
    obtain ⟨e, hx⟩ := S.yld i H2 x H3 sm hlt y
    subst e
    have mem : x ∈ xs := List.mem_of_getElem? hx
    refine hc x mem _ _ sm (iteT (he x mem _ _ sm fun yv H5 s5 ny => ⟨s5 _ _ hD2, xs.length - (i + 1), by omega, rfl, hlt, same_on hD (sm.trans s5) _, upd_same, by rw [List.length_append, hl]; rfl, fun k x' y' ex ey => ?_⟩))
    by_cases hk : k < i
    · rw [List.getElem?_append_left (by omega)] at ey
      obtain ⟨Z, z1, z2⟩ := hg k x' y' ex ey
      refine ⟨Z, fun b hb => ?_, fun H6 h6 => z2 H6 fun b hb => ?_⟩
      · obtain ⟨nb, o, ho⟩ := z1 b hb
        exact ⟨nb, o, by rw [upd_ne nb]; exact s5 _ _ ho⟩
      · obtain ⟨nb, o, ho⟩ := z1 b hb
        rw [h6 b hb, upd_ne nb, s5 _ _ ho, ho]
    · have ek : k = i := by
        have := (List.getElem?_eq_some_iff.mp ey).1
        rw [List.length_append, hl] at this
        have : k < i + 1 := this
        omega
      subst ek
      rw [List.getElem?_append_right (by omega), hl, Nat.sub_self] at ey
      obtain rfl : yv = y' := Option.some.inj ey
      obtain rfl : x = x' := Option.some.inj (hx.symm.trans ex)
      obtain ⟨Z, z1, z2⟩ := ny
      have nD : ∀ b, Z b → b ≠ D := fun b hb e => by
        have := (z1 b hb).1
        rw [e, hD2] at this
        cases this
      refine ⟨Z, fun b hb => ?_, fun H6 h6 => z2 H6 fun b hb => ?_⟩
      · obtain ⟨_, o, ho⟩ := z1 b hb
        exact ⟨nD b hb, o, by rw [upd_ne (nD b hb)]; exact ho⟩
      · rw [h6 b hb, upd_ne (nD b hb)]
  · have e : i = xs.length := by omega
    refine .inl ⟨by rw [e]; exact S.stop H2 sm, q D H2 ys sm hD hD2 (by omega) fun k x y ex ey => ?_⟩
    obtain ⟨Z, _, z2⟩ := hg k x y ex ey
    exact z2 H2 fun _ _ => rfl
end L2
namespace L2
open PySem PySem.Spec PyProof.Rows
/-! ### xs.index(y), of flat things -/
def ofVal : Value → V
  | .bool b => .bl b
  | .int i _ => .int i
  | .str x _ => .str x
  | .bytes b _ => .byt b
  | .float b _ => .flt b
  | .ref a => .ref a
  | .type n => .ty n
  | _ => .non
def rIndex : V → List V → Hp → VK → Prop := fun x vs H Q => ∃ l xs y j, x = .ref l ∧ vs = [y] ∧ H l = some (.lst xs) ∧ xs.all flatV = true ∧ flatV y = true ∧ xs.length ≤ 1000 ∧ j < xs.length ∧ eqV (xs.getD j .non) y = true ∧ (∀ m, m < j → eqV (xs.getD m .non) y = false) ∧ Q (.int (j : Nat)) H
end L2

namespace L2
open PySem PyProof.Rows PySem.Spec PySem.Calls
/-! ### == and != of what is equal all through -/
def rDq (K : PySem.W.Frag) (n : Nat) (b : Bool) : R2 := fun x y H Q => ∃ a c xs ys, x = .ref a ∧ y = .ref c ∧ ((SqL K H a xs ∧ SqL K H c ys) ∨ (SqT K H a xs ∧ SqT K H c ys)) ∧ xs.length = ys.length ∧ (∀ j, j < xs.length → Deq K H n (xs.getD j .non) (ys.getD j .non)) ∧ Q (.bl b) H
theorem in1_units {A : Around} {n : Nat} (h : A.units + (n + 1) < cLine) : A.in1.units + n < cLine := by
  have : A.in1.units = A.units + 1 := by first | rfl | exact Around.units_in1 _
  omega
theorem op_eq_dq {X : Cx} {n : Nat} (hu : X.A.units + (n + 1) < cLine) : OpR X (compareOp .Eq) (rDq X.K n true) := by
  intro pins s σ H x y v u Q I rx ry h
  obtain ⟨a, c, xs, ys, rfl, rfl, hs, hl, he, q⟩ := h
  cases rx
  cases ry
  rcases hs with ⟨h1, h2⟩ | ⟨h1, h2⟩
  · obtain ⟨its, r1, l1, _⟩ := I.list h1
    obtain ⟨jts, r2, l2, _⟩ := I.list h2
    have e1 := r1.length
    have e2 := r2.length
    have := SeqAt.RcAt.lists (A := X.A) (e := fun _ => true) l1.isList l2.isList (by simp; omega) (by omega) (fun j q1 q2 => deq_eqAt I n X.A.in1 _ _ _ _ (in1_units hu) (he j (by simp at q1; omega)) (vals_at r1 j q1) (vals_at r2 j q2))
    rw [show (List.range its.toArray.size).all (fun _ => true) = true from List.all_eq_true.mpr fun _ _ => rfl] at this
    exact this X.prog X.w _ _ ⟨.bl true, H, I, rfl, q⟩
  · obtain ⟨its, r1, l1, _⟩ := I.tuple h1
    obtain ⟨jts, r2, l2, _⟩ := I.tuple h2
    have e1 := r1.length
    have e2 := r2.length
    have := SeqAt.RcAt.tuples (A := X.A) (e := fun _ => true) l1 l2 (by omega) (fun j q1 q2 => deq_eqAt I n X.A.in1 _ _ _ _ (in1_units hu) (he j (by simp at q1; omega)) (vals_at r1 j q1) (vals_at r2 j q2))
    rw [show (List.range (min its.toArray.size jts.toArray.size)).all (fun _ => true) = true from List.all_eq_true.mpr fun _ _ => rfl, Bool.true_and, beq_iff_eq.mpr (by simp; omega)] at this
    exact this X.prog X.w _ _ ⟨.bl true, H, I, rfl, q⟩
end L2
namespace L2
open PySem PyProof.Rows PySem.Spec PySem.Calls
theorem hu_n {A : Around} {k : Nat} (hr : Room k A) (n : Nat) (h : n ≤ 60) : A.units + (n + 1) < cLine := Nat.lt_of_le_of_lt (Nat.add_le_add_left (by omega : n + 1 ≤ 64) _) hr.units
end L2


namespace L2
open PySem PyProof.Rows PySem.Spec PySem.Calls
/-! ### comprehensions over pairs -/
def inSt2 (frees : List (Str × Nat)) (σ : St) (x y : Option V) : St := x :: y :: frees.map fun p => (σ[p.2]?).join
def CompB2 (K : PySem.W.Frag) (J : It) (tc : TT) (te : TE) (σf : Option V → Option V → St) (H1 : Hp) (Q : VK) : Prop := ∀ D, H1 D = none →
  ∃ W : Nat → Nat → List V → Hp → Prop, (∃ m, W 0 m [] (upd H1 D (.lst []))) ∧ ∀ i m ys H2, W i m ys H2 → H2 D = some (.lst ys) ∧
    ((J.stop i H2 ∧ Q (.ref D) H2) ∨ (J.go i H2 ∧ ys.length < sizeLine ∧ ∀ z H3, J.yld i H2 z H3 → ∃ a x x2, z = .ref a ∧ SqT K H3 a [x, x2] ∧ tc (σf (some x) (some x2)) H3 fun b H4 =>
      if b = true then te (σf (some x) (some x2)) H4 fun y H5 => H5 D = some (.lst ys) ∧ ∃ m', m' < m ∧ W (i + 1) m' (ys ++ [y]) (upd H5 D (.lst (ys ++ [y]))) else ∃ m', m' < m ∧ W (i + 1) m' ys H4))
section
variable {X : Cx} {elt iter : Expr} {x x2 : Str} {px px2 tp pos : Pos} {kk : Nat} {ifs : List Expr} {scope : Scope} {frees : List (Str × Nat)} {tc : TT} {te : TE}
structure CompOk2 (X : Cx) (scope : Scope) (x x2 : Str) (frees : List (Str × Nat)) : Prop where
  cell : ∀ y ∈ scope.names, y.2 ≠ .cell
  kind : scope.kind = .function
  own : scope.names.lookup x = some .local
  own2 : scope.names.lookup x2 = some .local
  names : ∀ y ∈ scope.names, y.2 = .local → scope.names.lookup y.1 = some .local
  fr : FreesOk X scope frees
  nd : (x :: x2 :: frees.map (·.1)).Nodup
  cl : ∀ p ∈ scope.names, p.2 = .free → (X.env.cells.lookup p.1).isSome = true
  calm : X.calm = true
/-- [elt for x in iter if ..] -/
def tComp2 (K : PySem.W.Frag) (frees : List (Str × Nat)) (tc : TT) (te : TE) (wi : TI) : TE := fun σ H Q => wi σ H fun J H1 => CompB2 K J tc te (inSt2 frees σ) H1 Q
end
end L2

namespace L2
open PySem PySem.Spec PyProof.Rows
/-! ### list(range(i, j)) -/
def rngV (i : Int) (n : Nat) : List V := (List.range n).map fun k => V.int (i + (k : Nat))
theorem vals_of : ∀ {xs : List V} {us : List Value}, xs.length = us.length → (∀ (k : Nat) x u, xs[k]? = some x → us[k]? = some u → RelV x u) → Vals xs us
  | [], [], _, _ => .nil
  | x :: xs, u :: us, e, h => .cons (h 0 x u rfl rfl) (vals_of (Nat.succ.inj e) fun k y w h1 h2 => h (k + 1) y w h1 h2)
  | [], _ :: _, e, _ => nomatch e
  | _ :: _, [], e, _ => nomatch e
section
variable {X : Cx}
def tListRange (ta : TA) : TE := fun σ H Q => ta σ H fun vs H1 => ∃ i j : Int, vs = [.int i, .int j] ∧ (-(2 ^ 62) ≤ i ∧ i < 2 ^ 62 ∧ -(2 ^ 62) ≤ j ∧ j < 2 ^ 62) ∧ (j - i).toNat ≤ sizeLine ∧ (j - i).toNat ≤ 2 ^ 24 ∧ ∀ l, H1 l = none → Q (.ref l) (upd H1 l (.lst (rngV i (j - i).toNat)))
end
end L2
namespace L2
open PySem PySem.Spec PyProof.Rows
def rListOf (K : PySem.W.Frag) : List V → Hp → VK → Prop := fun xs H Q => ∃ p ys, xs = [.ref p] ∧ (SqL K H p ys ∨ SqT K H p ys) ∧ ∀ l, H l = none → Q (.ref l) (upd H l (.lst ys))
end L2

namespace PySem
open Sem (wp)
theorem list_keys_miss : typeLookup (.type "list") "keys" = pure none := am_miss_of_fast (by decide +kernel)
theorem noKeys_list {prog : Program} {w : World} {A : Around} {E : Value → Shared → Prop} {s : Shared} {a : Addr} {xs : Array Value} {n : Nat} {Q : Option Value → Shared → Prop}
    (hx : s.heap.get? a = some { cls := .type "list", dict := none, data := .seq xs n }) (hA : A.handled = none)
    (h : ∀ h' tk, (∀ b ob, s.heap.get? b = some ob → h'.get? b = some ob) → Q none { s with heap := h', toks := tk }) :
    wpAny (model prog w) A (getAttr? (.ref a) "keys") Q E s := by
  obtain ⟨hp, g, d, tk, os⟩ := s
  have hT : ∀ tk', (⟨hp, g, d, tk', os⟩ : Shared).TypeIs (.ref a) "list" := fun _ => ⟨_, hx, rfl⟩
  have g1 := sub_AttributeError
  have g3 := F.slot_list_getattribute.lookup
  have g4 := F.slot_list_getattribute.bind (.ref a)
  have g5 := am_list_getattr_none
  unfold getAttr? getAttrBy? getAttrBy
  repeat (any_goals (first | assumption | exact hT _ | ((with_reducible show wpAny _ _ (call (Value.builtin "list.__getattribute__") _ _) _ _ _); refine call_meets F.slot_list_getattribute (hT _) am_entry_list_getattribute (F.args_list_getattribute_2 _ _) (meets_getattribute_miss_list a xs n _ "keys" _ list_keys_miss (by decide +kernel) (by size_fits)) ⟨hx, hA, fun h' tk' e hx => ?_⟩) | wp_step))
  obtain ⟨t', u', he⟩ := hx.there
  show wpAny (model prog w) A (getattributeRaised _ _ _ _ _ _ _) _ _ _
  have hTe : ∀ tk', (⟨h', g, d, tk', os⟩ : Shared).TypeIs (.ref e) "AttributeError" := fun _ => ⟨_, he, rfl⟩
  unfold getattributeRaised
  repeat (any_goals (first | assumption | exact hTe _ | wp_step))
  exact h _ _ hx.keeps
end PySem

namespace PySem
open Sem (wp)
theorem entry_pairs_loop : entryFor table "dict.update.loop" = some Builtin.«dict.update.loop» := entryFor_of_tree (by kernel_rfl)
theorem plain_pairs_loop : plainId "dict.update.loop" = true := by decide +kernel
section
variable {prog : Program} {w : World} {K : Type} [DecidableEq K] {knd : KeyKind prog w K} {A : Around} {R : Result → Shared → Prop}
/-- the pairs, put in one behind another -/
def putAll (ps : List (K × Value)) : List (K × Value) := ps.foldl (fun acc p => stored acc p.1 p.2) []
theorem stored_few (kvs : List (K × Value)) (k : K) (v : Value) : (stored kvs k v).length ≤ kvs.length + 1 := by
  unfold stored
  split
  · rw [List.length_map]; exact Nat.le_succ _
  · rw [List.length_append]; exact Nat.le_refl _
theorem putAll_snoc (ps : List (K × Value)) (p : K × Value) : putAll (ps ++ [p]) = stored (putAll ps) p.1 p.2 := by
  unfold putAll
  rw [List.foldl_append]
  rfl
theorem foldl_few : ∀ (ps acc : List (K × Value)), (ps.foldl (fun acc p => stored acc p.1 p.2) acc).length ≤ acc.length + ps.length
  | [], _ => Nat.le_refl _
  | p :: r, acc => by
    have h1 := foldl_few r (stored acc p.1 p.2)
    have h2 := stored_few acc p.1 p.2
    rw [List.foldl_cons, List.length_cons]
    omega
theorem pairs_loop {h₀ : Heap} {l it D : Addr} {items : Array Value} {ps : List (K × Value)} (hA : A.handled = none) (hl : h₀.IsList l items) (nit : h₀.get? it = none) (nD : h₀.get? D = none) (ne : it ≠ D)
    (hn : items.size = ps.length) (hi : ∀ (i : Nat) p, ps[i]? = some p → ∃ t key, items[i]? = some (.ref t) ∧ knd.is p.1 key = true ∧ h₀.IsTuple t #[key, p.2]) (hz : ps.length ≤ sizeLine) :
    ∀ (k i : Nat) (s : Shared) (tk : Tok), ps.length - i = k → i ≤ ps.length → s.heap.IsListIter it l i → (∀ b o, h₀.get? b = some o → s.heap.get? b = some o) → s.heap.DictOf knd D (putAll (ps.take i)) →
      (∀ h' tk', (∀ b o, b ≠ it → b ≠ D → s.heap.get? b = some o → h'.get? b = some o) → h'.DictOf knd D (putAll ps) → R (.ok (.ret .none)) { s with heap := h', toks := tk' }) →
      codeAny (model prog w) A (.builtin "dict.update.loop" ⟨[.ref D, .ref it, .int i tk, .none], []⟩) R s := by
  intro k
  induction k with
  | zero =>
    intro i s tk hk hi' hit kp hD hR
    have e : i = ps.length := by omega
    subst e
    refine codeAny_builtin entry_pairs_loop ?_
    rw [Around.under_plainId plain_pairs_loop _]
    show wpAny _ A.in1 (pyNext (.ref it) >>= _) _ _ s
    refine wpAny_bind (wpAny_pyNext_list_end (i := ps.length) (items := items) hA hit ?_ ?_ fun h' hx => ?_)
    · exact let ⟨o, ho, r⟩ := hl; ⟨o, kp _ _ ho, r⟩
    · exact Array.getElem?_eq_none (by omega)
    · show wpAny _ A.in1 (Builtin.Dict.addKeywords D [] >>= fun _ => ret Value.none) _ _ _
      refine wpAny_bind (wpAny_pure (wpAny_pure (hR h' s.toks (fun b o nb _ e => hx b o nb e) ?_)))
      rw [List.take_length] at hD
      exact hD.extBut hx (Ne.symm ne)
  | succ k ih =>
    intro i s tk hk hi' hit kp hD hR
    obtain ⟨p, hp⟩ : ∃ p, ps[i]? = some p := ⟨_, List.getElem?_eq_getElem (by omega)⟩
    obtain ⟨t, key, ht, hkey, htup⟩ := hi i p hp
    refine codeAny_builtin entry_pairs_loop ?_
    rw [Around.under_plainId plain_pairs_loop _]
    show wpAny _ A.in1 (pyNext (.ref it) >>= _) _ _ s
    refine wpAny_bind (wpAny_pyNext_list_item (i := i) (items := items) hit (let ⟨o, ho, r⟩ := hl; ⟨o, kp _ _ ho, r⟩) ht fun h' hit' hs => ?_)
    have kp' : ∀ b o, h₀.get? b = some o → h'.get? b = some o := fun b o e => (hs.2 b (fun z => by rw [z, nit] at e; cases e)).trans (kp b o e)
    obtain ⟨ot, hot, hct, nt, hdt⟩ := htup
    have hot' := kp' _ _ hot
    have hT : (⟨h', s.gens, s.drawn, s.toks, s.os⟩ : Shared).TypeIs (.ref t) "tuple" := ⟨_, hot', hct⟩
    have tk1 : ps.take (i + 1) = ps.take i ++ [p] := by rw [List.take_add_one, hp]; rfl
    have pz : (putAll (ps.take i)).length ≤ sizeLine := by
      have h1 := foldl_few (ps.take i) []
      rw [List.length_take] at h1
      unfold putAll
      simp only [List.length_nil] at h1
      omega
    show wpAny _ A.in1 (holding [Value.ref t] _ >>= _) _ _ _
    refine wpAny_bind (wpAny_holding ?_)
    refine wpAny_bind (wpAny_tryCatch ?_)
    unfold Builtin.Dict.pairItems
    refine wpAny_bind (wpAny_typeOf hT ?_)
    rw [if_pos (by decide)]
    refine wpAny_bind (wpAny_seqItems hot' hdt (wpAny_pure ?_))
    show wpAny _ A.in1 (holding [key, p.2] (dictSet D key p.2)) _ _ _
    refine wpAny_holding ?_
    have hD' : Heap.DictOf knd h' D (putAll (ps.take i)) := hD.sameBut hs (Ne.symm ne)
    refine wpAny_dictSet_pairs (s := ⟨h', s.gens, s.drawn, s.toks, s.os⟩) (hsz := pz) hkey hD' fun h2 hD2 hs2 => ?_
    rw [← putAll_snoc, ← tk1] at hD2
    refine wpAny_pure ⟨plainId_quiet plain_pairs_loop _, ?_⟩
    have hit2 : h2.IsListIter it l (i + 1) := let ⟨o, ho, r⟩ := hit'; ⟨o, (hs2.2 it ne).trans ho, r⟩
    refine ih (i + 1) ⟨h2, s.gens, s.drawn, s.toks + 1, s.os⟩ 0 (by omega) (by omega) hit2 (fun b o e => (hs2.2 b (fun z => by rw [z, nD] at e; cases e)).trans (kp' b o e)) hD2 fun h3 tk3 k3 hD3 => ?_
    exact hR h3 tk3 (fun b o n1 n2 e => k3 b o n1 n2 ((hs2.2 b n2).trans ((hs.2 b n1).trans e))) hD3
theorem dict_of_pairs {E : Value → Shared → Prop} {s : Shared} {l : Addr} {items : Array Value} {n : Nat} {ps : List (K × Value)} {Q : Value → Shared → Prop} (hA : A.handled = none) (hx : s.heap.get? l = some { cls := .type "list", dict := none, data := .seq items n })
    (hn : items.size = ps.length) (hi : ∀ (i : Nat) p, ps[i]? = some p → ∃ t key, items[i]? = some (.ref t) ∧ knd.is p.1 key = true ∧ s.heap.IsTuple t #[key, p.2]) (hz : ps.length ≤ sizeLine)
    (h : ∀ h' tk, (∀ b o, s.heap.get? b = some o → h'.get? b = some o) → h'.DictOf knd s.heap.objs.size (putAll ps) → Q (.ref s.heap.objs.size) { s with heap := h', toks := tk }) :
    wpAny (model prog w) A (call (.type "dict") [.ref l]) Q E s := by
  refine callType_codes (Q₁ := fun obj s₁ => obj = .ref s.heap.objs.size ∧ s₁ = { s with heap := s.heap.push { cls := .type "dict", data := .dict #[] } }) F.kt_called_dict (F.kt_typeCall_dict_1 _) F.entry_dict_init (kt_code_dict_new _ ⟨rfl, rfl⟩) ?_
  rintro obj s₁ ⟨rfl, rfl⟩
  have hnew : (s.heap.push { cls := .type "dict", data := .dict #[] }).DictOf knd s.heap.objs.size [] := Heap.DictOf.new s.heap
  have hx' : (s.heap.push { cls := .type "dict", data := .dict #[] }).get? l = some { cls := .type "list", dict := none, data := .seq items n } := Heap.get?_push_of_some _ hx
  refine ⟨hnew.typeIs, F.args_dict_init_2 _ _, ?_⟩
  unfold Builtin.«dict.__init__»
  refine wpAny_bind ?_
  unfold Builtin.Dict.selfAndRest
  refine wpAny_bind (wpAny_notOrdered_dict hnew.typeIs ?_)
  show wpAny _ _ (pure (s.heap.objs.size, [Value.ref l])) _ _ _
  refine wpAny_pure ?_
  show wpAny _ _ (Builtin.Dict.updateFrom "dict.__init__" s.heap.objs.size (.ref l) [] .none) _ _ _
  unfold Builtin.Dict.updateFrom
  refine wpAny_bind (wpAny_typeOf (T := "list") ⟨_, hx', rfl⟩ ?_)
  rw [if_pos (by decide)]
  refine wpAny_bind (noKeys_list hx' hA fun h1 tk1 k1 => ?_)
  simp only [Option.isNone_none, if_true]
  refine wpAny_bind (wpAny_rule (wpAny_bind (wpAny_pyIter_list (items := items) ⟨_, k1 _ _ hx', rfl, n, rfl⟩ ?_)))
  have hsz : s.heap.objs.size < h1.objs.size := by
    obtain ⟨o, _, _, ho, _⟩ := hnew
    exact Heap.lt_size (k1 _ _ ho)
  refine wpAny_pure ⟨plainId_quiet plain_pairs_loop _, ?_⟩
  have keep : ∀ b o, s.heap.get? b = some o → (h1.push { cls := .type "list_iterator", data := .fields #[.ref l, .int 0 0] }).get? b = some o := fun b o e => Heap.get?_push_of_some _ (k1 _ _ (Heap.get?_push_of_some _ e))
  refine pairs_loop (A := A.in1) (R := wants (fun r s₂ => r = Value.none ∧ Q (Value.ref s.heap.objs.size) s₂) E) (h₀ := s.heap) (l := l) (items := items) (ps := ps) hA ⟨_, hx, rfl, n, rfl⟩ (Heap.get?_none_of_le (Nat.le_of_lt hsz)) (Heap.get?_none_of_le (Nat.le_refl _)) (Ne.symm (Nat.ne_of_lt hsz)) hn hi hz ps.length 0 ⟨h1.push { cls := .type "list_iterator", data := .fields #[.ref l, .int 0 0] }, s.gens, s.drawn, tk1, s.os⟩ 0 (Nat.sub_zero _) (Nat.zero_le _) ⟨_, Heap.get?_push_size _ rfl, rfl, rfl⟩ keep ?_ fun h' tk' k' hD' => ?_
  · obtain ⟨o, es, ep, ho, r⟩ := hnew
    exact ⟨o, es, ep, Heap.get?_push_of_some _ (k1 _ _ ho), r⟩
  · refine ⟨rfl, h h' tk' (fun b o e => k' b o ?_ ?_ (keep b o e)) hD'⟩
    · intro z
      exact absurd (Heap.lt_size e) (by rw [z]; exact Nat.not_lt.mpr (Nat.le_of_lt hsz))
    · intro z
      exact absurd (Heap.lt_size e) (by rw [z]; exact Nat.lt_irrefl _)
end
end PySem
namespace L2
open PySem PySem.Spec PyProof.Rows
theorem kv_mk : ∀ {kvs : List (Key × V)} {us : List Value}, (kvs.map (·.2)).length = us.length → (∀ (i : Nat) q u, kvs[i]? = some q → us[i]? = some u → RelV q.2 u) → ∃ vs : List (Key × Value), KV kvs vs ∧ vs.map (·.1) = kvs.map (·.1) ∧ vs.map (·.2) = us
  | [], [], _, _ => ⟨[], .nil, rfl, rfl⟩
  | q :: r, u :: us, e, h => by
    obtain ⟨vs, h1, h2, h3⟩ := kv_mk (kvs := r) (us := us) (Nat.succ.inj e) fun i q u e1 e2 => h (i + 1) q u e1 e2
    exact ⟨(q.1, u) :: vs, .cons ⟨rfl, h 0 q u rfl rfl⟩ h1, by rw [List.map_cons, List.map_cons, h2], by rw [List.map_cons, h3]⟩
  | [], _ :: _, e, _ => nomatch e
  | _ :: _, [], e, _ => nomatch e
def rDictPairs (K : PySem.W.Frag) : List V → Hp → VK → Prop := fun xs H Q => ∃ p ts kvs, xs = [.ref p] ∧ H p = some (.lst ts) ∧ ts.length = kvs.length ∧ (∀ (i : Nat) y (q : Key × V), ts[i]? = some y → kvs[i]? = some q → ∃ t, y = .ref t ∧ SqT K H t [kV q.1, q.2]) ∧ (kvs.map (·.1)).Nodup ∧
  ∀ d, H d = none → Q (.ref d) (upd H d (.dK kvs))
theorem call_dict_pairs {X : Cx} (hc : X.calm = true) : CallR X (.type "dict") (rDictPairs X.K) := by
  intro pins s σ H xs us Q I r h
  obtain ⟨p, ts, kvs, rfl, hp, lt, ht, nd, q⟩ := h
  obtain ⟨u, rfl, rx⟩ := vals1 r
  cases rx
  obtain ⟨hz, its, n, rv, e⟩ := Rd.ok (u := .lst ts) (.inl hp) I.hok
  have li := rv.length
  have at1 : ∀ (i : Nat) q, kvs[i]? = some q → ∃ t key w', its[i]? = some (.ref t) ∧ RelV (kV q.1) key ∧ RelV q.2 w' ∧ s.heap.IsTuple t #[key, w'] := fun i q eq => by
    have hi : i < kvs.length := (List.getElem?_eq_some_iff.mp eq).1
    obtain ⟨y, ey⟩ : ∃ y, ts[i]? = some y := ⟨_, List.getElem?_eq_getElem (by omega)⟩
    obtain ⟨t, rfl, hq⟩ := ht i y q ey eq
    obtain ⟨u, eu, ru⟩ := Vals.get rv ey
    cases ru
    obtain ⟨jt, rj, tj, _⟩ := I.tuple hq
    cases rj with
    | cons r1 rr =>
      cases rr with
      | cons r2 rr =>
        cases rr
        exact ⟨t, _, _, eu, r1, r2, tj⟩
  obtain ⟨ws, lw, gw⟩ : ∃ ws : List Value, ws.length = kvs.length ∧ ∀ (i : Nat) q u, kvs[i]? = some q → ws[i]? = some u → RelV q.2 u ∧ ∃ t key, its[i]? = some (.ref t) ∧ RelV (kV q.1) key ∧ s.heap.IsTuple t #[key, u] := by
    have ch : ∀ i : Fin kvs.length, ∃ w', RelV (kvs[i]).2 w' ∧ ∃ t key, its[i.1]? = some (.ref t) ∧ RelV (kV (kvs[i]).1) key ∧ s.heap.IsTuple t #[key, w'] := fun i => by
      obtain ⟨t, key, w', h1, h2, h3, h4⟩ := at1 i.1 kvs[i] (List.getElem?_eq_getElem i.2)
      exact ⟨w', h3, t, key, h1, h2, h4⟩
    refine ⟨List.ofFn fun i => Classical.choose (ch i), List.length_ofFn, fun i q u e1 e2 => ?_⟩
    obtain ⟨hi, rfl⟩ := List.getElem?_eq_some_iff.mp e1
    rw [List.getElem?_ofFn, dif_pos hi] at e2
    obtain rfl := Option.some.inj e2
    exact Classical.choose_spec (ch ⟨i, hi⟩)
  obtain ⟨vs, kv, k1, k2⟩ := kv_mk (kvs := kvs) (us := ws) (by rw [List.length_map, lw]) fun i q u e1 e2 => (gw i q u e1 e2).1
  have lv : vs.length = kvs.length := by rw [← List.length_map (f := (·.1)), k1, List.length_map]
  refine dict_of_pairs (knd := mixKind X.prog X.w) (ps := vs) (I.ok.hd hc) e (by rw [List.size_toArray]; omega) (fun i p ep => ?_) (by omega) fun h' tk keep hd => ?_
  · have hi : i < vs.length := (List.getElem?_eq_some_iff.mp ep).1
    have e1 : kvs[i]? = some kvs[i] := List.getElem?_eq_getElem (by omega)
    have e2 : ws[i]? = some p.2 := by rw [← k2, List.getElem?_map, ep]; rfl
    have e3 : kvs[i].1 = p.1 := by
      have h1 : (vs.map (·.1))[i]? = some p.1 := by rw [List.getElem?_map, ep]; rfl
      rw [k1, List.getElem?_map, e1] at h1
      exact Option.some.inj h1
    obtain ⟨_, t, key, h1, h2, h3⟩ := gw i _ _ e1 e2
    refine ⟨t, key, by rw [List.getElem?_toArray]; exact h1, ?_, h3⟩
    rw [← e3]
    exact kV_is h2
  · rw [show putAll vs = vs from merged_nil_of_nodup vs (by rw [k1]; exact nd)] at hd
    refine ⟨.ref s.heap.objs.size, _, I.laid (t' := tk) keep (Nat.le_refl _) (dk_new (by omega) (beq_eq_false_iff_ne.mpr (Ne.symm (Nat.ne_of_lt I.big))) kv hd), rfl, q _ (I.hok.fresh (Nat.le_refl _))⟩
def rDictOf : List V → Hp → VK → Prop := fun xs H Q => ∃ a kvs, xs = [.ref a] ∧ Rd H a (.dK kvs) ∧ ∀ d, H d = none → Q (.ref d) (upd H d (.dK kvs))
theorem call_dict_copy {X : Cx} : CallR X (.type "dict") rDictOf := by
  intro pins s σ H xs us Q I r h
  obtain ⟨a, kvs, rfl, e, q⟩ := h
  obtain ⟨u, rfl, rx⟩ := vals1 r
  cases rx
  exact d_copyOf I e fun p s' hp I' => ⟨.ref p, _, I', rfl, q p hp⟩
theorem bt_dict : bootBuiltins "dict" = some (.type "dict") := by decide +kernel
end L2

namespace L2
open PySem PyProof.Rows PySem.Spec PySem.Calls
/-! ### xs[i] op= v -/
section
variable {X : Cx}
def rGetL : V → V → Hp → VK → Prop := fun o i H Q => ∃ p xs k, o = .ref p ∧ i = .int k ∧ H p = some (.lst xs) ∧ 0 ≤ k ∧ k < ((xs.length : Nat) : Int) ∧ ∀ v, xs[k.toNat]? = some v → Q v H
/-! ### tuples of flat things, as long as each other: == and != -/
def rEqT (K : PySem.W.Frag) (neg : Bool) : R2 := fun x y H Q => ∃ p q xs ys, x = .ref p ∧ y = .ref q ∧ SqT K H p xs ∧ SqT K H q ys ∧ xs.length = ys.length ∧ xs.all flatV = true ∧ ys.all flatV = true ∧ Q (.bl (if neg then !eqVs xs ys else eqVs xs ys)) H
theorem op_ne_tup (hu : X.A.units < cLine) : OpR X (compareOp .NotEq) (rEqT X.K true) := by
  intro pins s σ H x y v u Q I rx ry h
  obtain ⟨p, q, xs, ys, rfl, rfl, hp, hq, hl, fx, fy, k⟩ := h
  cases rx
  cases ry
  obtain ⟨its, r1, l1, z1⟩ := I.tuple hp
  obtain ⟨jts, r2, l2, z2⟩ := I.tuple hq
  have e1 := r1.length
  have e2 := r2.length
  have := SeqAt.RcNeAt.tuples (A := X.A) (e := fun j => eqV (xs.getD j .non) (ys.getD j .non)) l1 l2 hu (fun j q1 q2 => eqAt_V (vals_at r1 j q1) (vals_at r2 j q2) (flat_at fx j) (flat_at fy j))
  have em : ((List.range (min its.toArray.size jts.toArray.size)).all (fun j => eqV (xs.getD j .non) (ys.getD j .non)) && (its.toArray.size == jts.toArray.size)) = eqVs xs ys := by
    unfold eqVs
    rw [List.size_toArray, List.size_toArray, ← e1, ← e2, hl, Nat.min_self, Bool.and_comm]
  rw [em] at this
  exact this X.prog X.w _ _ ⟨.bl (!eqVs xs ys), H, I, rfl, k⟩
end
end L2

namespace L2
open PySem PySem.Spec PyProof.Rows
/-! ### except X: without a name -/
section
variable {X : Cx}
def tPl (K : PySem.W.Frag) (B : Addr) (ts : TS) (tr : TH) : TH := fun D σ H C ea => PySem.W.excMk K C = true ∧ PySem.W.excMk K B = true ∧ ∃ b, PySem.W.mroHas K C (.ref B) = b ∧ if b = true then ts D σ H else tr D σ H C ea
end
end L2

namespace L2
open PySem PyProof.Rows PySem.Spec PySem.Calls
/-! ### a list or a tuple is no string -/
section
variable {X : Cx}
def rNeS (K : PySem.W.Frag) : R2 := fun x y H Q => (∃ a i xs, x = .ref a ∧ y = .str i ∧ (SqL K H a xs ∨ SqT K H a xs) ∧ Q (.bl true) H) ∨ rNe x y H Q
/-! ### the smaller of a pair -/
end
end L2

namespace L2
open PySem PySem.Spec PyProof.Rows
/-! ### a comprehension with a condition whose items are new things -/
end L2

namespace L2
open PySem PySem.Spec PyProof.Rows
/-! ### list(d): the keys of a dict -/
section
variable {X : Cx}
def rListDict : List V → Hp → VK → Prop := fun xs H Q => ∃ p kvs, xs = [.ref p] ∧ H p = some (.dK kvs) ∧ ∀ l, H l = none → Q (.ref l) (upd H l (.lst (kvs.map fun q => kV q.1)))
end
end L2

namespace L2
open PySem PySem.Spec PyProof.Rows
/-! ### sorted() of texts: a list of them, or the keys of a dict -/
section
variable {X : Cx}
def rSortedL (K : PySem.W.Frag) : List V → Hp → VK → Prop := fun xs H Q => ∃ p ss, xs = [.ref p] ∧ SqL K H p (ss.map V.str) ∧ ss.length < 64 ∧ ∀ l ss', H l = none → List.Perm ss' ss → sortedS ss' = true → Q (.ref l) (upd H l (.lst (ss'.map V.str)))
end
end L2
namespace L2
open PySem PySem.Calls PyProof.Rows PyProof.V PySem.Spec PySem.W
end L2
namespace L2
open PySem PySem.Spec PyProof.Rows
section
variable {X : Cx}
/-- the n times that a list holds a flat thing -/
def rCount : V → List V → Hp → VK → Prop := fun x vs H Q => ∃ l xs y, x = .ref l ∧ vs = [y] ∧ H l = some (.lst xs) ∧ xs.all flatV = true ∧ flatV y = true ∧ Q (.int ((xs.countP fun z => eqV z y : Nat) : Int)) H
/-- sorted() of a dict whose keys are texts -/
def rSortedD : List V → Hp → VK → Prop := fun xs H Q => ∃ p kvs ss, xs = [.ref p] ∧ H p = some (.dK kvs) ∧ kvs.map (fun q => kV q.1) = ss.map V.str ∧ ss.length < 64 ∧ ∀ l ss', H l = none → List.Perm ss' ss → sortedS ss' = true → Q (.ref l) (upd H l (.lst (ss'.map V.str)))
end
end L2
namespace L2
open PySem PySem.Spec PyProof.Rows
section
variable {X : Cx}
/-- z.index(y), where y stands in z -/
def rSIndex : V → List V → Hp → VK → Prop := fun x vs H Q => ∃ z y i rest, x = .str z ∧ vs = [.str y] ∧ Builtin.Str.occurrences z y 0 z.length 1 = i :: rest ∧ Q (.int ((i : Nat) : Int)) H
end
end L2
namespace L2
open PySem PyProof.Rows PySem.Spec PySem.Calls
section
variable {X : Cx}
/-! ### d.setdefault(k, v) -/
def rSetD : V → List V → Hp → VK → Prop := fun x vs H Q => ∃ d kvs k y, x = .ref d ∧ vs = [kV k, y] ∧ H d = some (.dK kvs) ∧ kvs.length < 1000 ∧ (∀ u, valV kvs k = some u → Q u H) ∧ (valV kvs k = none → Q y (upd H d (.dK (kvs ++ [(k, y)]))))
/-! ### dicts of flat values compared -/
def hasD (kb : List (Key × V)) (p : Key × V) : Bool := match valV kb p.1 with
  | some y => eqV p.2 y
  | none => false
def eqD (ka kb : List (Key × V)) : Bool := ka.length == kb.length && ka.all (hasD kb)
theorem valV_mem {kb : List (Key × V)} {k : Key} {y : V} (e : valV kb k = some y) : ∃ p ∈ kb, p.2 = y := by
  unfold valV at e
  cases f : kb.find? (fun kv => decide (kv.1 = k)) with
  | none => rw [f] at e; cases e
  | some p => rw [f] at e; exact ⟨p, List.mem_of_find?_eq_some f, Option.some.inj e⟩
theorem keqHits {A : Around} {s : Shared} {kb : List (Key × V)} {vb : List (Key × Value)} (rb : KV kb vb) (fb : ∀ p ∈ kb, flatV p.2 = true) : ∀ {ka : List (Key × V)} {va : List (Key × Value)}, KV ka va → (∀ p ∈ ka, flatV p.2 = true) → PySem.W.KeqHits A s vb va (ka.all (hasD kb))
  | _, _, .nil, _ => .nil
  | (k, x) :: ka, (k', u) :: va, .cons ⟨e, r⟩ t, fa => by
    have e' : k = k' := e
    subst e'
    have ih := keqHits (A := A) (s := s) rb fb t fun p hp => fa p (.tail _ hp)
    have hv := rb.val k
    rw [List.all_cons]
    cases f : valV kb k with
    | none =>
      rw [f] at hv
      cases g : valueAt vb k with
      | some y => rw [g] at hv; exact hv.elim
      | none =>
        have : hasD kb (k, x) = false := by unfold hasD; rw [show (k, x).1 = k from rfl, f]
        rw [this, Bool.false_and]
        exact .miss g
    | some y =>
      rw [f] at hv
      cases g : valueAt vb k with
      | none => rw [g] at hv; exact hv.elim
      | some y' =>
        rw [g] at hv
        have : hasD kb (k, x) = eqV x y := by unfold hasD; rw [show (k, x).1 = k from rfl, f]
        rw [this]
        obtain ⟨p, hp, hy⟩ := valV_mem f
        exact .hit g (eqAt_V r hv (fa _ (.head _)) (by rw [← hy]; exact fb p hp)) ih
def rEqDk (neg : Bool) : R2 := fun x y H Q => ∃ a b ka kb, x = .ref a ∧ y = .ref b ∧ H a = some (.dK ka) ∧ H b = some (.dK kb) ∧ (∀ p ∈ ka, flatV p.2 = true) ∧ (∀ p ∈ kb, flatV p.2 = true) ∧ Q (.bl (if neg then !eqD ka kb else eqD ka kb)) H
theorem op_ne_d (hu : X.A.units < cLine) : OpR X (compareOp .NotEq) (rEqDk true) := by
  intro pins s σ H x y v u Q I rx ry h
  obtain ⟨a, b, ka, kb, rfl, rfl, ha, hb, fa, fb, q⟩ := h
  cases rx
  cases ry
  obtain ⟨_, m1, va, k1, d1⟩ := dk_of I.hok ha
  obtain ⟨_, m2, vb, k2, d2⟩ := dk_of I.hok hb
  refine PySem.W.keq_ne m1 m2 d1 d2 hu (fun _ => keqHits k2 fb k1 fa) ⟨.bl _, H, I, rfl, ?_⟩
  rw [← k1.length, ← k2.length]
  exact q
/-! ### slices with a step -/
def pickV (xs : List V) (lo hi st : Option Int) : List V := (sliceRange (sliceBounds lo hi st xs.length).1 (sliceBounds lo hi st xs.length).2.1 (sliceBounds lo hi st xs.length).2.2).filterMap (xs[·]?)
def tSl3 (K : PySem.W.Frag) (te : TE) (tl th ts : TO) : TE := fun σ H Q => te σ H fun x H1 => tl σ H1 fun l H2 => th σ H2 fun u H3 => ts σ H3 fun c H4 => ∃ a xs, x = .ref a ∧ SqL K H4 a xs ∧ c ≠ some 0 ∧ ∀ p, H4 p = none → Q (.ref p) (upd H4 p (.lst (pickV xs l u c)))
def thirds (n : Nat) : List Nat := (List.range n).filter fun k => k % 3 == 1
/-! ### a comprehension with a pair as target and a condition -/
/-! ### a comprehension whose items are new things, told by their kinds -/
/-! ### a comprehension of which just some items are known to stand -/
end
end L2

namespace L2
open PySem PyProof.Rows PySem.Spec PySem.Calls
/-! ### d.keys(), d.values() and the lists of them -/
def KW (v d : Addr) : HO := .ext fun h => PySem.W.KdlKeysView h v d
def VW (v d : Addr) : HO := .ext fun h => h.IsValuesView v d
section
variable {X : Cx}
def rKeys : V → List V → Hp → VK → Prop := fun x vs H Q => ∃ d kvs, x = .ref d ∧ vs = [] ∧ H d = some (.dK kvs) ∧ ∀ v, H v = none → Q (.ref v) (upd H v (KW v d))
theorem mt_keys : MtR X "dict.keys" rKeys := by
  intro pins s σ H x vs v us Q I rx rv h
  obtain ⟨d, kvs, rfl, rfl, hd, q⟩ := h
  cases rx
  cases rv
  obtain ⟨z1, m1, vs1, k1, d1⟩ := dk_of I.hok hd
  refine call_meetsIn PySem.F.slot_dict_keys d1.typeIs PySem.F.entry_dict_keys (PySem.F.args_dict_keys_1 _) (PySem.W.kdl_meets_keys (mixKind X.prog X.w) d m1) ⟨⟨vs1, d1⟩, ?_⟩
  refine ⟨.ref s.heap.objs.size, _, I.laid (t' := s.toks) (o := KW s.heap.objs.size d) (fun b ob q => Heap.get?_push_of_some _ q) (Nat.le_refl _) ?_, rfl, q _ (I.hok.fresh (Nat.le_refl _))⟩
  refine ⟨⟨_, Heap.get?_push_size _ rfl, rfl, rfl⟩, ⟨_, Heap.get?_push_size _ rfl⟩, fun h1 h2 ⟨o, ho, r⟩ k => ⟨o, k o ho, r⟩⟩
def rListKeys : List V → Hp → VK → Prop := fun xs H Q => ∃ v d kvs, xs = [.ref v] ∧ H v = some (KW v d) ∧ H d = some (.dK kvs) ∧ ∀ l, H l = none → Q (.ref l) (upd H l (.lst (kvs.map fun q => kV q.1)))
theorem call_list_keys (hc : X.calm = true) : CallR X (.type "list") rListKeys := by
  intro pins s σ H xs us Q I r h
  obtain ⟨v, p, kvs, rfl, hv, hp, q⟩ := h
  obtain ⟨u, rfl, rx⟩ := vals1 r
  cases rx
  obtain ⟨z, hd, vs, rk, o, es, ep, e', xd, dt, ko, pr, nd⟩ := I.hok p _ hp
  obtain ⟨kv, _, _⟩ := (show ObjOk X.prog X.w H s.heap v (KW v p) from I.hok v _ hv)
  have hl := KV.length rk
  refine PySem.W.kdl_call (PySem.W.kdl_keys (knd := mixKind X.prog X.w) (r := v) (d := p) (kvs := vs) (ep := ep)) (I.ok.hd hc) ⟨kv, ⟨o, es, e', xd, dt, ko, pr, nd⟩⟩ (by omega) (fun h' tk acc' c' kp e it => ?_)
  refine ⟨.ref s.heap.objs.size, _, I.laid (t' := tk) kp (Nat.le_refl _) (show ObjOk X.prog X.w _ h' _ (.lst (kvs.map fun q => kV q.1)) from ⟨by rw [List.length_map]; exact z, acc'.toList, c', vals_of ?_ fun k x u hx hu => ?_, e⟩), rfl, q _ (I.hok.fresh (Nat.le_refl _))⟩
  · have h1 : acc'.toList.length = vs.length := it.1
    rw [List.length_map, h1]
    exact hl
  · have hu' : acc'[k]? = some u := by simpa using hu
    obtain ⟨k', x', e1, e2⟩ := it.2 k u hu'
    rw [List.getElem?_map] at hx
    obtain ⟨y, ey, rfl⟩ := Option.map_eq_some_iff.mp hx
    have q1 : (kvs.map (·.1))[k]? = (vs.map (·.1))[k]? := by rw [KV.keys rk]
    rw [List.getElem?_map, List.getElem?_map, ey, e1] at q1
    have q2 : y.1 = k' := Option.some.inj q1
    show RelV (kV y.1) u
    rw [q2]
    exact rel_key e2
def rValues : V → List V → Hp → VK → Prop := fun x vs H Q => ∃ d kvs, x = .ref d ∧ vs = [] ∧ H d = some (.dK kvs) ∧ ∀ v, H v = none → Q (.ref v) (upd H v (VW v d))
def rListVals : List V → Hp → VK → Prop := fun xs H Q => ∃ v d kvs, xs = [.ref v] ∧ H v = some (VW v d) ∧ H d = some (.dK kvs) ∧ ∀ l, H l = none → Q (.ref l) (upd H l (.lst (kvs.map fun q => q.2)))
end
end L2

namespace My
open PySem L2
/-- figures, by their codes; what is a number, what it writes -/
def fig : List Nat := List.range' 48 10
def isnum (z : Str) : Bool := decide ((1 : Int) ≤ (z.length : Nat)) && decide (((z.length : Nat) : Int) ≤ 9) && (z.cps.toList.all fun c => decide (c ∈ fig)) && (decide (z = ⟨#[48]⟩) || !decide (z.cps.toList.headD 0 = 48))
def val (z : Str) : Int := ((NumText.digitsVal z.cps.toList : Nat) : Int)
def wr (z : Str) : V := if isnum z = true then .int (val z) else .non
def inNum (z : Str) (lo hi : Int) : V := if (isnum z && decide (lo ≤ val z) && decide (val z ≤ hi)) = true then .int (val z) else .non
/-- small letters, figures, by their codes -/
def low : List Nat := List.range' 97 26
def good (z : Str) : Bool := decide ((1 : Int) ≤ (z.length : Nat)) && decide (((z.length : Nat) : Int) ≤ 12) && decide (z.cps.toList.headD 0 ∈ low) && z.cps.toList.all fun c => decide (c ∈ low ++ fig)
/-- what is_layout tells of a text -/
def lay (z : Str) : Bool := decide (z = Str.ofString "both") || (Txt.startswith z (Str.ofString "up:") && decide (¬ inNum (Txt.slice z (some 3) none) 2 16 = V.non))
/-- the fifteen texts behind both -/
def goods : List V := (((List.range 15).map fun i => V.int (2 + ((i : Nat) : Int))).filter fun _ => true).map fun v => match v with | .int n => V.str (Str.ofString "up:" ++ Str.ofString (toString n)) | _ => .non
def goodTexts : List Str := (List.range 15).map fun i => Str.ofString "up:" ++ Str.ofString (toString (2 + ((i : Nat) : Int)))
end My

namespace My
open PySem L2
open Blk (sg sg_inj sg_app)
/-! ### parts between a sign c -/
def Jc (c : Nat) : List (List Nat) → List Nat
  | [] => []
  | [x] => x
  | x :: y :: r => x ++ c :: Jc c (y :: r)
def Cc (c : Nat) : List Nat → List (List Nat)
  | [] => [[]]
  | d :: r => if d = c then [] :: Cc c r else match Cc c r with
    | [] => [[d]]
    | p :: ps => (d :: p) :: ps
theorem txt_join (z : Str) (ws : List Str) : Txt.join z ws = Str.join z ws := StrLaws.glued_eq_join z ws
/-! ### beginnings -/
theorem sg_len (z : Str) : (sg z).length = z.length := len_toList z
/-! ### numbers written -/
def tn (n : Int) : Str := Str.ofString (toString n)
end My

namespace My
open PySem L2
open Blk (sg sg_inj sg_app)
/-- what a word tells: a plain value, or a pair of pages -/
inductive VO where
  | v (x : V) | pair (a b : Int)
  deriving DecidableEq
def non : VO := .v .non
abbrev cX : Str := Str.ofString "x"
abbrev cCol : Str := Str.ofString "colour:"
abbrev cPap : Str := Str.ofString "paper:"
abbrev cCov : Str := Str.ofString "cover:"
abbrev cAft : Str := Str.ofString "after:"
abbrev cSta : Str := Str.ofString "staple"
abbrev cLay : Str := Str.ofString "layout"
abbrev cOne : Str := Str.ofString "one"
abbrev cPla : Str := Str.ofString "plain"
abbrev cDash : Str := Str.ofString "-"
abbrev cBlank : Str := Str.ofString " "
/-- the rest of a text behind a beginning -/
def rst (z p : Str) : Str := Txt.slice z (some ((p.length : Nat) : Int)) none
def readCol (span : Str) (pages : Int) : VO := match Txt.split span cDash with
  | [a, b] => (match inNum a 1 pages with
    | .int f => (match inNum b f pages with
      | .int l => .pair f l
      | _ => non)
    | _ => non)
  | _ => non
def three : List Str := [cPap, cCov, cAft]
def four : List Str := [cX, cCol, cPap, cCov]
def valueOf (z : Str) (pages : Int) : VO :=
  if z = cSta then .v (.bl true) else if lay z = true then .v (.str z) else if Txt.startswith z cX = true then .v (inNum (rst z cX) 1 99) else if Txt.startswith z cCol = true then readCol (rst z cCol) pages
  else match three.find? (fun p => Txt.startswith z p && good (rst z p)) with
    | some p => .v (.str (rst z p))
    | none => non
def sortOf (z : Str) : Str := if lay z = true then cLay else (four.find? fun p => Txt.startswith z p).getD z
def readTail (pages : Int) : List Str → Nat → List (Str × VO) → Except Nat (List (Str × VO))
  | [], _, t => .ok t
  | w :: r, p, t => if valueOf w pages = non ∨ sortOf w ∈ t.map (·.1) then .error p else readTail pages r (p + 1) (t ++ [(sortOf w, valueOf w pages)])
def toldV (t : List (Str × VO)) (k : Str) : Option VO := (t.find? fun p => decide (p.1 = k)).map (·.2)
/-- a job as it is read -/
structure JF where
  name : Str
  asker : Str
  pages : Int
  copies : VO
  layout : VO
  paper : VO
  cover : VO
  colour : VO
  staple : VO
  after : List VO
def readHead (ws : List Str) : Except Nat Int :=
  if good (ws.getD 0 cBlank) = false then .error 0 else if ws.length < 2 then .error ws.length else if good (ws.getD 1 cBlank) = false then .error 1 else if ws.length < 3 then .error ws.length else
  match inNum (ws.getD 2 cBlank) 1 999 with
  | .int n => .ok n
  | _ => .error 2
def toldJob (ws : List Str) (pages : Int) (t : List (Str × VO)) : JF :=
  { name := ws.getD 0 cBlank, asker := ws.getD 1 cBlank, pages := pages, copies := (toldV t cX).getD (.v (.int 1)), layout := (toldV t cLay).getD (.v (.str cOne)), paper := (toldV t cPap).getD (.v (.str cPla)), cover := (toldV t cCov).getD non, colour := (toldV t cCol).getD non,
    staple := (toldV t cSta).getD (.v (.bl false)), after := (t.filter fun p => Txt.startswith p.1 cAft).map (·.2) }
def readJ (z : Str) : Except Nat JF := match readHead (Txt.split z cBlank) with
  | .error p => .error p
  | .ok n => match readTail n ((Txt.split z cBlank).drop 3) 3 [] with
    | .error p => .error p
    | .ok t => .ok (toldJob (Txt.split z cBlank) n t)
/-! ### a job's own values -/
structure Jb where
  name : Str
  asker : Str
  pages : Int
  copies : Int
  layout : Str
  paper : Str
  cover : Option Str
  colour : Option (Int × Int)
  staple : Bool
  after : List Str
structure Jb.Ok (j : Jb) : Prop where
  name : good j.name = true
  asker : good j.asker = true
  p0 : 1 ≤ j.pages
  p1 : j.pages ≤ 999
  c0 : 1 ≤ j.copies
  c1 : j.copies ≤ 99
  lay : j.layout ∈ cOne :: Str.ofString "both" :: goodTexts
  paper : good j.paper = true
  cover : ∀ z, j.cover = some z → good z = true
  colour : ∀ a b, j.colour = some (a, b) → 1 ≤ a ∧ a ≤ b ∧ b ≤ j.pages
  after : ∀ z ∈ j.after, good z = true
  nd : j.after.Nodup
  few : j.after.length ≤ 3
def Jb.jf (j : Jb) : JF := { name := j.name, asker := j.asker, pages := j.pages, copies := .v (.int j.copies), layout := .v (.str j.layout), paper := .v (.str j.paper), cover := (match j.cover with | some z => .v (.str z) | none => non), colour := (match j.colour with | some (a, b) => .pair a b | none => non), staple := .v (.bl j.staple), after := j.after.map fun z => .v (.str z) }
/-- the words that may be told: is it, the word, its sort, what it tells -/
def Jb.ents (j : Jb) (told : Bool) : List (Bool × Str × Str × VO) :=
  [(!decide (j.copies = 1) || told, cX ++ tn j.copies, cX, .v (.int j.copies)), (!decide (j.layout = cOne), j.layout, cLay, .v (.str j.layout)),
   (j.colour.isSome, cCol ++ tn (j.colour.getD (1, 1)).1 ++ cDash ++ tn (j.colour.getD (1, 1)).2, cCol, .pair (j.colour.getD (1, 1)).1 (j.colour.getD (1, 1)).2),
   (!decide (j.paper = cPla) || told, cPap ++ j.paper, cPap, .v (.str j.paper)), (j.cover.isSome, cCov ++ j.cover.getD cPla, cCov, .v (.str (j.cover.getD cPla))), (j.staple, cSta, cSta, .v (.bl true))]
def Jb.words (j : Jb) (told : Bool) : List Str := ((j.ents told).filter (·.1)).map (·.2.1)
def Jb.afts (j : Jb) : List Str := j.after.map fun n => cAft ++ n
/-! ### what each word is worth -/
end My

namespace My
open PySem L2
open Blk (sg sg_inj sg_app)
def sorts : List Str := [cX, cLay, cCol, cPap, cCov, cSta]
def told (pages : Int) (M : List Str) : List (Str × VO) := M.map fun w => (sortOf w, valueOf w pages)
/-- the words behind the head, mixed: those of the sorts in any order, those after which it comes in theirs -/
structure Mix (ws as M : List Str) : Prop where
  perm : M.Perm (ws ++ as)
  afts : (M.filter fun w => Txt.startswith w cAft) = as
def Jb.head (j : Jb) : List Str := [j.name, j.asker, tn j.pages]
end My

namespace My
open PySem L2
open Blk (sg sg_inj sg_app)
/-! ### what stands for a word's worth on the heap -/
def HoldsV (H : Hp) (x : V) : VO → Prop
  | .v y => x = y
  | .pair a b => ∃ p, x = .ref p ∧ H p = some (.tup [.int a, .int b])
theorem HoldsV.same {H H' : Hp} {x : V} {o : VO} (h : HoldsV H x o) (e : Same H H') : HoldsV H' x o := by
  cases o with
  | v y => exact h
  | pair a b => obtain ⟨p, h1, h2⟩ := h; exact ⟨p, h1, e _ _ h2⟩
theorem HoldsV.upd {H : Hp} {x : V} {o : VO} {D : Addr} {kvs : List (Key × V)} {u : HO} (h : HoldsV H x o) (hD : H D = some (.dK kvs)) : HoldsV (L2.upd H D u) x o := by
  cases o with
  | v y => exact h
  | pair a b =>
    obtain ⟨p, h1, h2⟩ := h
    exact ⟨p, h1, by rw [upd_ne (ne_of h2 hD (by intro z; cases z))]; exact h2⟩
/-- the dict of what was told -/
def TR (H : Hp) (q : Key × V) (p : Str × VO) : Prop := q.1 = Sum.inr p.1 ∧ HoldsV H q.2 p.2
structure Told (H : Hp) (D : Addr) (kvs : List (Key × V)) (t : List (Str × VO)) : Prop where
  at_ : H D = some (.dK kvs)
  rel : Paired (TR H) kvs t
  nd : (t.map (·.1)).Nodup
theorem Told.look {H : Hp} {D : Addr} {kvs : List (Key × V)} {t : List (Str × VO)} (T : Told H D kvs t) (k : Str) : match valV kvs (Sum.inr k : Key), toldV t k with | some x, some o => HoldsV H x o | none, none => True | _, _ => False := by
  have key : ∀ {kvs : List (Key × V)} {t : List (Str × VO)}, Paired (TR H) kvs t → match valV kvs (Sum.inr k : Key), toldV t k with | some x, some o => HoldsV H x o | none, none => True | _, _ => False := by
    intro kvs t r
    induction r with
    | nil => trivial
    | @cons q p kvs t h r ih =>
      obtain ⟨h1, h2⟩ := h
      by_cases e : p.1 = k
      · rw [valV_pos (by rw [h1, e])]
        unfold toldV
        rw [List.find?_cons_of_pos (h := by exact decide_eq_true e)]
        exact h2
      · rw [valV_neg (by rw [h1]; intro z; injection z with z; exact e z)]
        unfold toldV
        rw [List.find?_cons_of_neg (h := by rw [decide_eq_false e]; decide)]
        exact ih
  exact key T.rel
theorem Told.has {H : Hp} {D : Addr} {kvs : List (Key × V)} {t : List (Str × VO)} (T : Told H D kvs t) (k : Str) : (valV kvs (Sum.inr k : Key)).isSome = decide (k ∈ t.map (·.1)) := by
  have q := T.look k
  cases e2 : toldV t k with
  | none =>
    have nm : k ∉ t.map (·.1) := fun m => by
      obtain ⟨p, hp, rfl⟩ := List.mem_map.mp m
      unfold toldV at e2
      rw [Option.map_eq_none_iff] at e2
      have := List.find?_eq_none.mp e2 p hp
      exact this (decide_eq_true rfl)
    rw [decide_eq_false nm]
    cases e1 : valV kvs (Sum.inr k : Key) with
    | none => rfl
    | some x => rw [e1, e2] at q; exact q.elim
  | some o =>
    have m : k ∈ t.map (·.1) := by
      unfold toldV at e2
      obtain ⟨p, hp, _⟩ := Option.map_eq_some_iff.mp e2
      exact List.mem_map.mpr ⟨p, List.mem_of_find?_eq_some hp, by have q := List.find?_some hp; exact of_decide_eq_true q⟩
    rw [decide_eq_true m]
    cases e1 : valV kvs (Sum.inr k : Key) with
    | none => rw [e1, e2] at q; exact q.elim
    | some x => rfl
theorem Told.same {H H' : Hp} {D : Addr} {kvs : List (Key × V)} {t : List (Str × VO)} (T : Told H D kvs t) (e : Same H H') : Told H' D kvs t := ⟨e _ _ T.at_, Paired.mapP T.rel fun _ _ h => ⟨h.1, h.2.same e⟩, T.nd⟩
theorem paired_snoc {α β : Type} {R : α → β → Prop} : ∀ {xs : List α} {ys : List β} {x : α} {y : β}, Paired R xs ys → R x y → Paired R (xs ++ [x]) (ys ++ [y])
  | _, _, _, _, .nil, h => .cons h .nil
  | _, _, _, _, .cons a b, h => .cons a (paired_snoc b h)
theorem Told.put {H : Hp} {D : Addr} {kvs : List (Key × V)} {t : List (Str × VO)} (T : Told H D kvs t) {k : Str} {x : V} {o : VO} (hx : HoldsV H x o) (hn : valV kvs (Sum.inr k : Key) = none) :
    Told (upd H D (.dK (putK kvs (Sum.inr k) x))) D (kvs ++ [(Sum.inr k, x)]) (t ++ [(k, o)]) := by
  have hk : k ∉ t.map (·.1) := fun m => by
    have q := T.has k
    rw [hn, decide_eq_true m] at q
    cases q
  refine ⟨?_, ?_, by rw [List.map_append]; exact nd_snoc T.nd hk⟩
  · rw [upd_same, putK_new x hn]
  · exact paired_snoc (Paired.mapP T.rel fun _ _ h => ⟨h.1, h.2.upd T.at_⟩) ⟨rfl, hx.upd T.at_⟩
theorem Told.keys {H : Hp} {kvs : List (Key × V)} {t : List (Str × VO)} (r : Paired (TR H) kvs t) : kvs.map (·.1) = (t.map (·.1)).map Sum.inr := by
  induction r with
  | nil => rfl
  | cons h r ih => rw [List.map_cons, List.map_cons, List.map_cons, ih, h.1]
def luV (kvs : List (Key × V)) : V → V
  | .str s => (valV kvs (Sum.inr s : Key)).getD .non
  | _ => .non
def afterP : V → Bool
  | .str x => Txt.startswith x cAft
  | _ => false
theorem Told.after {H : Hp} {D : Addr} {kvs : List (Key × V)} {t : List (Str × VO)} (T : Told H D kvs t) (g : V → V) (hg : ∀ q ∈ kvs, g (kV q.1) = q.2) :
    Paired (fun a o => HoldsV H a o) (((kvs.map fun p => kV p.1).filter afterP).map g) ((t.filter fun p => Txt.startswith p.1 cAft).map (·.2)) := by
  rw [List.filter_map, List.map_map]
  have e : (kvs.filter (afterP ∘ fun p => kV p.1)).map (g ∘ fun p => kV p.1) = (kvs.filter (afterP ∘ fun p => kV p.1)).map (·.2) := List.map_congr_left fun q hq => hg q (List.mem_filter.mp hq).1
  rw [e]
  clear e hg
  have key : ∀ {kvs : List (Key × V)} {t : List (Str × VO)}, Paired (TR H) kvs t → Paired (fun a o => HoldsV H a o) ((kvs.filter (afterP ∘ fun p => kV p.1)).map (·.2)) ((t.filter fun p => Txt.startswith p.1 cAft).map (·.2)) := by
    intro kvs t r
    induction r with
    | nil => exact .nil
    | @cons q p kvs t h r ih =>
      obtain ⟨h1, h2⟩ := h
      have e1 : (afterP ∘ fun p : Key × V => kV p.1) q = Txt.startswith p.1 cAft := by
        show afterP (kV q.1) = _
        rw [h1]
        rfl
      cases hs : Txt.startswith p.1 cAft with
      | true =>
        rw [List.filter_cons_of_pos (by rw [e1, hs]), List.filter_cons_of_pos (by exact hs)]
        exact .cons h2 ih
      | false =>
        rw [List.filter_cons_of_neg (by rw [e1, hs]; decide), List.filter_cons_of_neg (by rw [hs]; decide)]
        exact ih
  exact key T.rel
theorem Told.nodup {H : Hp} {D : Addr} {kvs : List (Key × V)} {t : List (Str × VO)} (T : Told H D kvs t) : (kvs.map (·.1)).Nodup := by
  rw [Told.keys T.rel]
  exact List.Pairwise.map _ (fun a b h e => h (by injection e)) T.nd
theorem Told.len {H : Hp} {D : Addr} {kvs : List (Key × V)} {t : List (Str × VO)} (T : Told H D kvs t) : kvs.length = t.length := Paired.length T.rel
/-! ### a job on the heap -/
def jobF (a b c d e f g h i j : V) : List (Str × V) := [("name", a), ("asker", b), ("pages", c), ("copies", d), ("layout", e), ("paper", f), ("cover", g), ("colour", h), ("staple", i), ("after", j)]
structure JobAt (C : Addr) (H : Hp) (x : Addr) (f : JF) : Prop where
  ex : ∃ (dx pa : Addr) (d e p g h i : V) (as : List V), H x = some (.ins C dx (jobF (.str f.name) (.str f.asker) (.int f.pages) d e p g h i (.ref pa))) ∧ HoldsV H d f.copies ∧ HoldsV H e f.layout ∧ HoldsV H p f.paper ∧ HoldsV H g f.cover ∧ HoldsV H h f.colour ∧ HoldsV H i f.staple ∧
    H pa = some (.tup as) ∧ Paired (fun a o => HoldsV H a o) as f.after
theorem JobAt.same {C : Addr} {H H' : Hp} {x : Addr} {f : JF} (J : JobAt C H x f) (e : Same H H') : JobAt C H' x f := by
  obtain ⟨dx, pa, v1, v2, v3, v4, v5, v6, as, h0, h1, h2, h3, h4, h5, h6, h7, h8⟩ := J.ex
  exact ⟨dx, pa, v1, v2, v3, v4, v5, v6, as, e _ _ h0, h1.same e, h2.same e, h3.same e, h4.same e, h5.same e, h6.same e, e _ _ h7, Paired.mapP h8 fun _ _ h => h.same e⟩
theorem cut_from (xs : List V) (k : Nat) : cutV xs (some (k : Int)) none = xs.drop k := by
  unfold cutV
  rw [HT.sIx_nat, HT.sIx_none]
  by_cases h : k ≤ xs.length
  · rw [Nat.min_eq_left h]
    exact List.take_of_length_le (by rw [List.length_drop]; omega)
  · rw [Nat.min_eq_right (by omega), List.drop_of_length_le (Nat.le_refl _), List.drop_of_length_le (by omega), List.take_nil]
theorem cut_to (xs : List V) (k : Nat) : cutV xs none (some (k : Int)) = xs.take k := by
  unfold cutV
  rw [HT.sIx_nat, HT.sIx_none]
  by_cases h : k ≤ xs.length
  · rw [Nat.min_eq_left h]
    rfl
  · rw [Nat.min_eq_right (by omega), List.drop_zero, Nat.sub_zero, List.take_of_length_le (Nat.le_refl _), List.take_of_length_le (by omega)]
end My

namespace My
open PySem L2
open Blk (sg sg_inj sg_app)
/-! ### names that differ at one place -/
def nmC (f r : Nat) (size place l : Nat) : List Nat := (f :: List.replicate (size - 1) r).set place l
def nm (f r : Nat) (size place l : Nat) : Str := ⟨(nmC f r size place l).toArray⟩
theorem nmC_len (f r : Nat) {size place l : Nat} (h : 1 ≤ size) : (nmC f r size place l).length = size := by
  unfold nmC
  rw [List.length_set, List.length_cons, List.length_replicate]
  omega
theorem nm_len (f r : Nat) {size place l : Nat} (h : 1 ≤ size) : (nm f r size place l).length = size := by
  rw [← sg_len]
  exact nmC_len f r h
theorem nm_good {f r size place l : Nat} (hf : f ∈ low) (hr : r ∈ low ++ fig) (hl : l ∈ low) (h1 : 1 ≤ size) (h2 : size ≤ 12) : good (nm f r size place l) = true := by
  have all : ∀ c ∈ nmC f r size place l, c ∈ low ++ fig := fun c hc => by
    rcases List.mem_or_eq_of_mem_set hc with h | h
    · rcases List.mem_cons.mp h with rfl | h
      · exact List.mem_append_left _ hf
      · rw [List.eq_of_mem_replicate h]; exact hr
    · rw [h]; exact List.mem_append_left _ hl
  have hd : (nmC f r size place l).headD 0 ∈ low := by
    unfold nmC
    cases place with
    | zero => exact hl
    | succ p => exact hf
  have len := nm_len f r (place := place) (l := l) h1
  unfold good
  rw [len, decide_eq_true (by omega), decide_eq_true (by omega)]
  show (true && true && decide ((nmC f r size place l).headD 0 ∈ low) && (nmC f r size place l).all fun c => decide (c ∈ low ++ fig)) = true
  rw [decide_eq_true hd, List.all_eq_true.mpr fun c hc => decide_eq_true (all c hc)]
  rfl
theorem nm_inj {f r size place l l' : Nat} (h1 : 1 ≤ size) (h2 : place < size) (e : nm f r size place l = nm f r size place l') : l = l' := by
  have e2 : nmC f r size place l = nmC f r size place l' := congrArg sg e
  have e3 : (nmC f r size place l)[place]? = (nmC f r size place l')[place]? := by rw [e2]
  unfold nmC at e3
  rw [List.getElem?_set_self (by rw [List.length_cons, List.length_replicate]; omega), List.getElem?_set_self (by rw [List.length_cons, List.length_replicate]; omega)] at e3
  exact Option.some.inj e3
def ltr (s : Nat) (j : Nat) : Nat := 97 + (s + 5 * j) % 26
theorem ltr_low (s j : Nat) : ltr s j ∈ low := by
  refine List.mem_range'.mpr ⟨(s + 5 * j) % 26, Nat.mod_lt _ (by decide), ?_⟩
  unfold ltr
  omega
theorem ltr_inj {s i j : Nat} (hi : i < 26) (hj : j < 26) (e : ltr s i = ltr s j) : i = j := by
  unfold ltr at e
  omega
def nms (f r size place s : Nat) (m : Nat) : List Str := (List.range m).map fun j => nm f r size place (ltr s j)
structure NamesOk (ns : List Str) (m : Nat) : Prop where
  len : ns.length = m
  good : ∀ z ∈ ns, good z = true
  nd : ns.Nodup
theorem nms_ok {f r size place s m : Nat} (hf : f ∈ low) (hr : r ∈ low ++ fig) (h1 : 1 ≤ size) (h2 : size ≤ 12) (h3 : place < size) (hm : m ≤ 26) : NamesOk (nms f r size place s m) m := by
  refine ⟨by unfold nms; rw [List.length_map, List.length_range], fun z hz => ?_, ?_⟩
  · obtain ⟨j, _, rfl⟩ := List.mem_map.mp hz
    exact nm_good hf hr (ltr_low s j) h1 h2
  · unfold nms
    have key : ∀ n, n ≤ 26 → ((List.range n).map fun j => nm f r size place (ltr s j)).Nodup := by
      intro n
      induction n with
      | zero => intro _; exact List.nodup_nil
      | succ n ih =>
        intro hn
        rw [List.range_succ, List.map_append]
        refine nd_snoc (ih (by omega)) fun mm => ?_
        obtain ⟨j, hj, e⟩ := List.mem_map.mp mm
        have hj' := List.mem_range.mp hj
        exact absurd (ltr_inj (by omega) (by omega) (nm_inj h1 h3 e)) (by omega)
    exact key m hm
def six : List Str := [Str.ofString "x2", Str.ofString "staple", Str.ofString "both", Str.ofString "up2", Str.ofString "plain", Str.ofString "after"]
theorem six_ok : ∀ m ∈ List.range 7, (six.take m).length = m ∧ (∀ z ∈ six.take m, good z = true) ∧ (six.take m).Nodup := by decide +kernel
theorem six_names {m : Nat} (h : m ≤ 6) : NamesOk (six.take m) m := by
  obtain ⟨a, b, c⟩ := six_ok m (List.mem_range.mpr (by omega))
  exact ⟨a, b, c⟩
def one (c : Nat) : Str := ⟨#[c]⟩
theorem join_ones (e : Str) (he : sg e = []) : ∀ cs : List Nat, sg (Str.join e (cs.map one)) = cs
  | [] => rfl
  | [c] => rfl
  | c :: d :: r => by
    have ih := join_ones e he (d :: r)
    show sg (one c ++ e ++ Str.join e ((d :: r).map one)) = c :: d :: r
    rw [sg_app, sg_app, he, ih]
    rfl
theorem join_nm (f r size place l : Nat) : Txt.join (Str.ofString "") ((nmC f r size place l).map one) = nm f r size place l := by
  rw [txt_join]
  exact sg_inj (join_ones _ (by decide +kernel) _)
theorem low_at {i c : Nat} (h : low[i]? = some c) : c = 97 + i := by
  have hi : i < 26 := by
    have := (List.getElem?_eq_some_iff.mp h).1
    unfold low at this
    rwa [List.length_range'] at this
  unfold low at h
  rw [List.getElem?_range' hi] at h
  have := Option.some.inj h
  omega
theorem lowfig_at {i c : Nat} (h : (low ++ fig)[i]? = some c) : c ∈ low ++ fig := List.mem_of_getElem? h
theorem rep_flat {α : Type} (v : α) : ∀ k : Nat, (List.replicate k [v]).flatten = List.replicate k v
  | 0 => rfl
  | k + 1 => by rw [List.replicate_succ, List.flatten_cons, rep_flat v k, List.replicate_succ]; rfl
/-! ### the values that are due, on the heap -/
def optV : Option Str → V
  | some z => .str z
  | none => .non
structure Due (H : Hp) (t : Addr) (j : Jb) : Prop where
  ex : ∃ (vc : V) (pa : Addr), H t = some (.tup [.str j.name, .str j.asker, .int j.pages, .int j.copies, .str j.layout, .str j.paper, optV j.cover, vc, .bl j.staple, .ref pa]) ∧ HoldsV H vc j.jf.colour ∧ H pa = some (.tup (j.after.map V.str))
theorem Due.same {H H' : Hp} {t : Addr} {j : Jb} (D : Due H t j) (e : Same H H') : Due H' t j := by
  obtain ⟨vc, pa, h1, h2, h3⟩ := D.ex
  exact ⟨vc, pa, e _ _ h1, h2.same e, e _ _ h3⟩
end My

namespace My
open PySem L2
open Blk (sg sg_inj sg_app)
/-! ### words put in at drawn places -/
theorem ins_perm {α : Type} (M : List α) (i : Nat) (y : α) : (M.take i ++ y :: M.drop i).Perm (M ++ [y]) := by
  have a : (M.take i ++ y :: M.drop i).Perm (y :: (M.take i ++ M.drop i)) := List.perm_middle
  rw [List.take_append_drop] at a
  exact a.trans (List.perm_append_singleton y M).symm
structure Mid (ws as : List Str) (A : Nat) (M : List Str) : Prop where
  perm : M.Perm (ws ++ as)
  le : A ≤ M.length
  pre : ((M.take A).filter fun w => Txt.startswith w cAft) = as
  post : ((M.drop A).filter fun w => Txt.startswith w cAft) = []
theorem Mid.start {ws M : List Str} (p : M.Perm ws) (h : ∀ w ∈ ws, Txt.startswith w cAft = false) : Mid ws [] 0 M := by
  refine ⟨by rw [List.append_nil]; exact p, Nat.zero_le _, by simp, ?_⟩
  rw [List.drop_zero]
  exact List.filter_eq_nil_iff.mpr fun w hw => by rw [h w (p.mem_iff.mp hw)]; decide
theorem Mid.put {ws as M : List Str} {A B : Nat} {y : Str} (m : Mid ws as A M) (h1 : A ≤ B) (h2 : B ≤ M.length) (hy : Txt.startswith y cAft = true) : Mid ws (as ++ [y]) (B + 1) (M.take B ++ y :: M.drop B) := by
  have hl : (M.take B).length = B := by rw [List.length_take]; omega
  refine ⟨?_, ?_, ?_, ?_⟩
  · exact (ins_perm M B y).trans (by rw [← List.append_assoc]; exact m.perm.append_right [y])
  · rw [List.length_append, List.length_cons, hl, List.length_drop]
    omega
  · have e : (M.take B ++ y :: M.drop B).take (B + 1) = M.take B ++ [y] := by
      rw [List.take_append, hl, List.take_of_length_le (by omega), show B + 1 - B = 1 by omega]
      rfl
    rw [e, List.filter_append]
    have e2 : ((M.take B).filter fun w => Txt.startswith w cAft) = as := by
      have e3 : M.take B = M.take A ++ (M.drop A).take (B - A) := by
        rw [← List.take_append_drop A (M.take B), List.take_take, Nat.min_eq_left h1, List.drop_take]
      rw [e3, List.filter_append, m.pre]
      have e4 : (((M.drop A).take (B - A)).filter fun w => Txt.startswith w cAft) = [] := by
        refine List.filter_eq_nil_iff.mpr fun w hw => ?_
        exact List.filter_eq_nil_iff.mp m.post w (List.mem_of_mem_take hw)
      rw [e4, List.append_nil]
    rw [e2]
    simp [hy]
  · have e : (M.take B ++ y :: M.drop B).drop (B + 1) = M.drop B := by
      rw [List.drop_append, hl, List.drop_of_length_le (by omega), show B + 1 - B = 1 by omega]
      rfl
    rw [e]
    refine List.filter_eq_nil_iff.mpr fun w hw => ?_
    have : w ∈ M.drop A := by
      have e3 : M.drop B = (M.drop A).drop (B - A) := by rw [List.drop_drop]; congr 1; omega
      rw [e3] at hw
      exact List.mem_of_mem_drop hw
    exact List.filter_eq_nil_iff.mp m.post w this
theorem Mid.done {ws as M : List Str} {A : Nat} (m : Mid ws as A M) : Mix ws as M := by
  refine ⟨m.perm, ?_⟩
  rw [← List.take_append_drop A M, List.filter_append, m.pre, m.post, List.append_nil]
end My

namespace My
open PySem L2
def top (i : Nat) : Stmt := PySem.Challenge.pw_spoolhall_k13_a_printer_made_and_filled.main.body.getD i (.Pass ⟨0, 0, 0, 0⟩)
abbrev s_Unknown_init : Stmt := inClass (top 5) 0
abbrev s_NotNow_init : Stmt := inClass (top 7) 0
abbrev s_TooMuch_init : Stmt := inClass (top 8) 0
abbrev s_State_init : Stmt := inClass (top 21) 0
abbrev s_State_called : Stmt := inClass (top 21) 1
abbrev s_State_jam : Stmt := inClass (top 21) 2
abbrev s_State_mend : Stmt := inClass (top 21) 3
abbrev s_State_leave : Stmt := inClass (top 21) 4
abbrev s_State_come : Stmt := inClass (top 21) 5
abbrev s_Ready_init : Stmt := inClass (top 22) 0
abbrev s_Ready_jam : Stmt := inClass (top 22) 1
abbrev s_Ready_leave : Stmt := inClass (top 22) 2
abbrev s_Jammed_init : Stmt := inClass (top 23) 0
abbrev s_Jammed_mend : Stmt := inClass (top 23) 1
abbrev s_Jammed_leave : Stmt := inClass (top 23) 2
abbrev s_Away_init : Stmt := inClass (top 24) 0
abbrev s_Away_come : Stmt := inClass (top 24) 1
abbrev s_Stock_init : Stmt := inClass (top 26) 0
abbrev s_Stock_held : Stmt := inClass (top 26) 1
abbrev s_Stock_room : Stmt := inClass (top 26) 2
abbrev s_Stock_know : Stmt := inClass (top 26) 3
abbrev s_Stock_know_all : Stmt := inClass (top 26) 4
abbrev s_Stock_put : Stmt := inClass (top 26) 5
abbrev s_Stock_put_all : Stmt := inClass (top 26) 6
abbrev s_Printer_init : Stmt := inClass (top 31) 0
abbrev s_Printer_stands : Stmt := inClass (top 31) 1
abbrev s_Printer_papers : Stmt := inClass (top 31) 2
abbrev s_Printer_paper_left : Stmt := inClass (top 31) 3
abbrev s_Printer_ink_left : Stmt := inClass (top 31) 4
abbrev s_Printer_within : Stmt := inClass (top 31) 5
abbrev s_Printer_load : Stmt := inClass (top 31) 6
abbrev s_Printer_fill : Stmt := inClass (top 31) 7
abbrev s_Printer_oldest : Stmt := inClass (top 31) 11
abbrev s_Printer_jam : Stmt := inClass (top 31) 12
abbrev s_Printer_leave : Stmt := inClass (top 31) 13
abbrev s_Printer_mend : Stmt := inClass (top 31) 14
abbrev s_Printer_come : Stmt := inClass (top 31) 15
abbrev s__law_cell_at : Stmt := top 33
abbrev s__law_by : Stmt := top 34
abbrev s__law_names : Stmt := top 35
abbrev s__law_apart : Stmt := top 36
abbrev s__law_which : Stmt := top 37
abbrev s__law_room : Stmt := top 38
abbrev s__law_world : Stmt := top 39
abbrev s__law_made : Stmt := top 40
abbrev s__law_wholes : Stmt := top 41
abbrev s__law_seen : Stmt := top 42
abbrev s__law_laid : Stmt := top 43
abbrev s__law_many : Stmt := top 44
abbrev s__law_loaded : Stmt := top 45
abbrev s__law_inked : Stmt := top 46
abbrev s__law_turned : Stmt := top 47
abbrev s_law : Stmt := top 48
structure Txt (K : PySem.W.Frag) (mg : Str → Option Value) (cState cReady cJammed cAway cStock cPrinter cBadLine cBusy cDry cGoesRound cNoHeap cNoPrinter cNotNow cNoWay cNowhere cOver cTooMuch cTwice cUnknown cHallError : Addr) : Prop where
  len : mg "len" = none
  range : mg "range" = none
  str : mg "str" = none
  int : mg "int" = none
  bool : mg "bool" = none
  tuple : mg "tuple" = none
  list : mg "list" = none
  isinstance : mg "isinstance" = none
  dict : mg "dict" = none
  ValueError : mg "ValueError" = none
  READY : GS mg "READY" (Str.ofString "ready")
  JAMMED : GS mg "JAMMED" (Str.ofString "jammed")
  OFF : GS mg "OFF" (Str.ofString "off")
  BLACK : GS mg "BLACK" (Str.ofString "black")
  COLOUR : GS mg "COLOUR" (Str.ofString "colour")
  WITHIN : GS mg "WITHIN" (Str.ofString "within")
  cl_State : Cls K cState
  mg_State : mg "State" = some (.ref cState)
  n_State_word : NoAttr K cState "word"
  cl_Ready : Cls K cReady
  mg_Ready : mg "Ready" = some (.ref cReady)
  n_Ready_word : NoAttr K cReady "word"
  cl_Jammed : Cls K cJammed
  mg_Jammed : mg "Jammed" = some (.ref cJammed)
  n_Jammed_word : NoAttr K cJammed "word"
  cl_Away : Cls K cAway
  mg_Away : mg "Away" = some (.ref cAway)
  n_Away_word : NoAttr K cAway "word"
  n_Away_jammed : NoAttr K cAway "jammed"
  cl_Stock : Cls K cStock
  mg_Stock : mg "Stock" = some (.ref cStock)
  n_Stock_rooms : NoAttr K cStock "rooms"
  n_Stock_amounts : NoAttr K cStock "amounts"
  cl_Printer : Cls K cPrinter
  mg_Printer : mg "Printer" = some (.ref cPrinter)
  n_Printer_name : NoAttr K cPrinter "name"
  n_Printer_can : NoAttr K cPrinter "can"
  n_Printer_path : NoAttr K cPrinter "path"
  n_Printer_rooms : NoAttr K cPrinter "rooms"
  n_Printer_trays : NoAttr K cPrinter "trays"
  n_Printer_inks : NoAttr K cPrinter "inks"
  n_Printer_state : NoAttr K cPrinter "state"
  n_Printer_inside : NoAttr K cPrinter "inside"
  xq_HallError : PySem.W.excMk K cHallError = true
  mh_Unknown_HallError : PySem.W.mroHas K cUnknown (.ref cHallError) = true
  mh_NotNow_HallError : PySem.W.mroHas K cNotNow (.ref cHallError) = true
  mh_TooMuch_HallError : PySem.W.mroHas K cTooMuch (.ref cHallError) = true
  x_BadLine : XCl K cBadLine ["place"]
  mg_BadLine : mg "BadLine" = some (.ref cBadLine)
  x_Busy : XCl K cBusy ["job"]
  mg_Busy : mg "Busy" = some (.ref cBusy)
  x_Dry : XCl K cDry ["name"]
  mg_Dry : mg "Dry" = some (.ref cDry)
  x_GoesRound : XCl K cGoesRound ["ring"]
  mg_GoesRound : mg "GoesRound" = some (.ref cGoesRound)
  x_NoHeap : XCl K cNoHeap ["place"]
  mg_NoHeap : mg "NoHeap" = some (.ref cNoHeap)
  x_NoPrinter : XCl K cNoPrinter ["job", "lacks"]
  mg_NoPrinter : mg "NoPrinter" = some (.ref cNoPrinter)
  x_NotNow : XCl K cNotNow ["found"]
  mg_NotNow : mg "NotNow" = some (.ref cNotNow)
  x_NoWay : XCl K cNoWay ["place"]
  mg_NoWay : mg "NoWay" = some (.ref cNoWay)
  x_Nowhere : XCl K cNowhere ["job"]
  mg_Nowhere : mg "Nowhere" = some (.ref cNowhere)
  x_Over : XCl K cOver ["job"]
  mg_Over : mg "Over" = some (.ref cOver)
  x_TooMuch : XCl K cTooMuch ["name"]
  mg_TooMuch : mg "TooMuch" = some (.ref cTooMuch)
  x_Twice : XCl K cTwice ["name"]
  mg_Twice : mg "Twice" = some (.ref cTwice)
  x_Unknown : XCl K cUnknown ["name"]
  mg_Unknown : mg "Unknown" = some (.ref cUnknown)
  in_HallError : InX K cHallError
  mg_HallError : mg "HallError" = some (.ref cHallError)
  kit : kitTab K [cBadLine, cBusy, cDry, cGoesRound, cNoHeap, cNoPrinter, cNotNow, cNoWay, cNowhere, cOver, cTooMuch, cTwice, cUnknown] cHallError = true
end My

seal L2.PE L2.PS L2.PSs L2.PT L2.PW L2.PA L2.PI L2.PG L2.PGs L2.PSet L2.PIfs L2.PO L2.PK L2.CallR L2.OpR L2.IxR L2.SlR L2.UnR
namespace My
open PySem L2
open Blk (sg sg_inj sg_app)
section
variable {P : Program} {w : World} {K : PySem.W.Frag} {mg : Str → Option Value} {base : Heap}
theorem int_of {ns : List Int} {j : Nat} {v : V} (h : (ns.map V.int)[j]? = some v) : ∃ z, v = V.int z := by
  rw [List.getElem?_map] at h
  cases e : ns[j]? with
  | none => rw [e] at h; cases h
  | some z => rw [e] at h; exact ⟨z, (Option.some.inj h).symm⟩
/-- the script stands at a -/
structure Scr (K : PySem.W.Frag) (H : Hp) (a : Addr) : Prop where
  ex : ∃ ns : List Int, SqL K H a (ns.map V.int) ∧ ns.length ≤ 63
theorem Scr.same {K : PySem.W.Frag} {H H' : Hp} {a : Addr} (s : Scr K H a) (e : Same H H') : Scr K H' a := by
  obtain ⟨ns, h, l⟩ := s.ex
  exact ⟨ns, e.seq h, l⟩
def sp__law_cell_at (K : PySem.W.Frag) : Sp := fun vs H Q _ => ∃ (a : Addr) (k : Int), vs = [.ref a, .int k] ∧ Scr K H a ∧ ∀ v : Int, Q (.int v) H
def sp__law_by (K : PySem.W.Frag) : Sp := fun vs H Q _ => ∃ (a : Addr) (k m : Int), vs = [.ref a, .int k, .int m] ∧ Scr K H a ∧ -(2 ^ 62) < k ∧ k < 2 ^ 62 ∧ 0 < m ∧ ∀ r : Int, 0 ≤ r → r < m → Q (.int r) H
theorem sc__law_cell_at : FnScope ["_law_script", "_law_k"] ["_law_script", "_law_k"] (defScope s__law_cell_at) := ⟨rfl, rfl, rfl, by decide +kernel, rfl, by decide +kernel, by decide +kernel⟩
theorem ok__law_cell_at {fa cState cReady cJammed cAway cStock cPrinter cBadLine cBusy cDry cGoesRound cNoHeap cNoPrinter cNotNow cNoWay cNowhere cOver cTooMuch cTwice cUnknown cHallError : Addr} {fd : FuncData} (F : Fun K "_law_cell_at" "_law_cell_at" s__law_cell_at fa fd) (T : Txt K mg cState cReady cJammed cAway cStock cPrinter cBadLine cBusy cDry cGoesRound cNoHeap cNoPrinter cNotNow cNoWay cNowhere cOver cTooMuch cTwice cUnknown cHallError)  :
    FnOk P w K mg base CX0 1 fa fd ["_law_script", "_law_k"] (sp__law_cell_at K) := by
  refine F.ok sc__law_cell_at (fun vs H Q E h => ?_) (fun cdv A outer s H vs Q E hr h => ?_)
  · obtain ⟨a, k, rfl, _⟩ := h
    rfl
  obtain ⟨a, k, rfl, ⟨ns, hS, h63⟩, q⟩ := h
  have hl : (ns.map V.int).length = ns.length := List.length_map _
  refine ⟨_, (pss_cons (ps_if (pt_cmpR op_gt (pe_callB call_len_seq rfl T.len PySem.boot_len (pa_cons (pv 0) pa_nil)) pe_int (nomark _)) (pss_one (ps_ret (pe_ix ix_list (pv 0) (pe_op op_mod (pv 1) (pe_callB call_len_seq rfl T.len PySem.boot_len (pa_cons (pv 0) pa_nil))) (fun _ _ => rfl)))) pss_nil)
  (pss_one (ps_ret pe_int))), ?_⟩
  refine ⟨_, rfl, a, _, rfl, .inl hS, _, _, rfl, rfl, _, rfl, ?_⟩
  refine ite2 (fun c => ?_) (fun c => ?_)
  · have c' : (0 : Int) < (((ns.map V.int).length : Nat) : Int) := of_decide_eq_true c
    have b0 := Int.emod_nonneg k (show (((ns.map V.int).length : Nat) : Int) ≠ 0 by omega)
    have b1 := Int.emod_lt_of_pos k c'
    obtain ⟨v, hv, hat⟩ := at_in (xs := ns.map V.int) b0 b1
    obtain ⟨z, rfl⟩ := int_of hv
    exact ⟨_, rfl, _, rfl, _, rfl, a, _, rfl, .inl hS, _, _, rfl, rfl, c', a, _, _, _, rfl, rfl, hS, hat, q z⟩
  · exact q 0
theorem sc__law_by : FnScope ["_law_script", "_law_k", "_law_many_here", "_law_seed"] ["_law_script", "_law_k", "_law_many_here"] (defScope s__law_by) := ⟨rfl, rfl, rfl, by decide +kernel, rfl, by decide +kernel, by decide +kernel⟩
theorem ok__law_by {fa cState cReady cJammed cAway cStock cPrinter cBadLine cBusy cDry cGoesRound cNoHeap cNoPrinter cNotNow cNoWay cNowhere cOver cTooMuch cTwice cUnknown cHallError : Addr} {fd : FuncData} (F : Fun K "_law_by" "_law_by" s__law_by fa fd) (T : Txt K mg cState cReady cJammed cAway cStock cPrinter cBadLine cBusy cDry cGoesRound cNoHeap cNoPrinter cNotNow cNoWay cNowhere cOver cTooMuch cTwice cUnknown cHallError) (D__law_cell_at : Dfn P w K mg base 1 "_law_cell_at" ["_law_script", "_law_k"] (sp__law_cell_at K)) :
    FnOk P w K mg base CX0 2 fa fd ["_law_script", "_law_k", "_law_many_here"] (sp__law_by K) := by
  refine F.ok sc__law_by (fun vs H Q E h => ?_) (fun cdv A outer s H vs Q E hr h => ?_)
  · obtain ⟨a, k, m, rfl, _⟩ := h
    rfl
  obtain ⟨a, k, m, rfl, hS, k0, k1, m0, q⟩ := h
  refine ⟨_, (pss_cons (ps_set (i := 3) sc__law_by.nd rfl (by first | exact Or.inl rfl | exact Or.inr rfl) (pe_op op_add (pe_op op_add (pe_op op_mod (pe_callD D__law_cell_at (hr.mono (by decide)) rfl (pa_cons (pv 0) (pa_cons (pv 1) pa_nil))) pe_int) (pe_op op_mul (pe_op op_mul pe_int (pv 1)) (pv 1))) pe_int))
  (pss_one (ps_ret (pe_op op_mod (pe_op op_mod (pe_op op_mul (pe_op op_mod (pe_op op_mul (pv 3) pe_int) pe_int) pe_int) pe_int) (pv 2))))), ?_⟩
  refine ⟨_, rfl, _, rfl, a, k, rfl, hS, fun v => ?_⟩
  refine ⟨_, _, rfl, rfl, (by show (0 : Int) < 1000003; decide), _, rfl, _, _, rfl, rfl, .inl ⟨by decide, by decide⟩, _, rfl, _, _, rfl, rfl, .inr ⟨by omega, by omega⟩, _, _, rfl, rfl, _, _, rfl, rfl, ?_⟩
  refine ⟨_, rfl, _, _, rfl, rfl, .inr ⟨by decide, by decide⟩, _, _, rfl, rfl, (by show (0 : Int) < 999983; decide), _, _, rfl, rfl, .inr ⟨by decide, by decide⟩, _, _, rfl, rfl, (by show (0 : Int) < 524287; decide), _, rfl, _, _, rfl, rfl, m0, ?_⟩
  exact q _ (Int.emod_nonneg _ (by omega)) (Int.emod_lt_of_pos _ m0)

end
end My

namespace My
open PySem L2
open Blk (sg sg_inj sg_app)
section
variable {P : Program} {w : World} {K : PySem.W.Frag} {mg : Str → Option Value} {base : Heap}
/-! the refusals' makes -/
def KeptBut (x : Addr) (H H' : Hp) : Prop := ∀ b o, b ≠ x → H b = some o → H' b = some o
def sp_one (C : Addr) (f : Str) : Sp := fun vs H Q _ => ∃ (x : Addr) (y : V), vs = [.ref x, y] ∧ H x = some (XO x C none) ∧ ∀ H', KeptBut x H H' → XF H' x C [(f, y)] → Q .non H'
theorem kept_set {H : Hp} {x dx : Addr} {o u : HO} (hd : H dx = none) : KeptBut x H (upd (upd H dx o) x u) := fun b v hb e => by
  rw [upd_ne hb, upd_ne (ne_of_none e hd)]; exact e
theorem xf_set {H : Hp} {x dx C : Addr} {fs : List (Str × V)} (hx : dx ≠ x) : XF (upd (upd H dx (XD dx fs)) x (XO x C (some dx))) x C fs := ⟨dx, upd_same, by rw [upd_ne hx, upd_same], hx⟩
theorem same_made {H H' : Hp} {x : Addr} {o : HO} (hx : H x = none) (k : KeptBut x (upd H x o) H') : Same H H' := fun b v e => by
  have hb : b ≠ x := ne_of_none e hx
  exact k b v hb (by rw [upd_ne hb]; exact e)
theorem raise_one {K : PySem.W.Frag} {C : Addr} {f : Str} {y : V} {H : Hp} {E : XK} (mk : PySem.W.excMk K C = true) (h : ∀ ea H', Same H H' → H ea = none → XG H' ea C [(f, y)] → E (.ref C) (some ea) H') :
    ∀ x, H x = none → sp_one C f (.ref x :: [y]) (upd H x (XO x C none)) (fun v H2 => v = .non ∧ ∃ ea C' d, V.ref x = .ref ea ∧ H2 ea = some (XO ea C' d) ∧ PySem.W.excMk K C' = true ∧ E (.ref C') (some ea) (upd H2 ea (XC ea C' d))) E0 := by
  intro x nx
  refine ⟨x, y, rfl, upd_same, fun H' kb xf => ⟨rfl, ?_⟩⟩
  obtain ⟨dx, a, g⟩ := xf.raised
  exact ⟨x, C, some dx, rfl, a, mk, h x _ (same_on nx (same_made nx kb) _) nx g⟩
theorem iteYes {c A B : Prop} [Decidable c] (hc : c) (h : A) : if decide c = true then A else B := by
  rw [if_pos (decide_eq_true hc)]
  exact h
theorem iteNo {c A B : Prop} [Decidable c] (hc : ¬ c) (h : B) : if decide c = true then A else B := by
  rw [if_neg (by rw [decide_eq_false hc]; decide)]
  exact h
end
end My

namespace My
open PySem L2
open Blk (sg sg_inj sg_app)
section
variable {P : Program} {w : World} {K : PySem.W.Frag} {mg : Str → Option Value} {base : Heap}
theorem sc_Unknown_init : FnScope ["self", "name"] ["self", "name"] (defScope s_Unknown_init) := ⟨rfl, rfl, rfl, by decide +kernel, rfl, by decide +kernel, by decide +kernel⟩
theorem ok_Unknown_init {fa cState cReady cJammed cAway cStock cPrinter cBadLine cBusy cDry cGoesRound cNoHeap cNoPrinter cNotNow cNoWay cNowhere cOver cTooMuch cTwice cUnknown cHallError : Addr} {fd : FuncData} (F : Fun K "__init__" "Unknown.__init__" s_Unknown_init fa fd) (T : Txt K mg cState cReady cJammed cAway cStock cPrinter cBadLine cBusy cDry cGoesRound cNoHeap cNoPrinter cNotNow cNoWay cNowhere cOver cTooMuch cTwice cUnknown cHallError)  :
    FnOk P w K mg base CX0 1 fa fd ["self", "name"] (sp_one cUnknown "name") := by
  refine F.ok sc_Unknown_init (fun vs H Q E h => ?_) (fun cdv A outer s H vs Q E hr h => ?_)
  · obtain ⟨x, y, rfl, _⟩ := h
    rfl
  obtain ⟨x, y, rfl, hx, q⟩ := h
  refine ⟨_, (pss_cons (ps_expr (pe_initX T.in_HallError rfl T.mg_HallError (pa_cons (pv 0) (pa_cons (pv 1) pa_nil))))
  (pss_one (ps_fldX (pv 0) (pv 1) rfl))), ?_⟩
  refine ⟨_, rfl, _, rfl, x, _, none, [y], rfl, (by simp), hx, T.x_Unknown.m, ?_⟩
  refine ⟨_, rfl, _, rfl, .inl ⟨x, _, rfl, hx, T.x_Unknown.i.c, T.x_Unknown.n _ (.head _), fun dx nd ne => ?_⟩⟩
  exact q _ (kept_set nd) (xf_set ne)

theorem sc_TooMuch_init : FnScope ["self", "name"] ["self", "name"] (defScope s_TooMuch_init) := ⟨rfl, rfl, rfl, by decide +kernel, rfl, by decide +kernel, by decide +kernel⟩
theorem ok_TooMuch_init {fa cState cReady cJammed cAway cStock cPrinter cBadLine cBusy cDry cGoesRound cNoHeap cNoPrinter cNotNow cNoWay cNowhere cOver cTooMuch cTwice cUnknown cHallError : Addr} {fd : FuncData} (F : Fun K "__init__" "TooMuch.__init__" s_TooMuch_init fa fd) (T : Txt K mg cState cReady cJammed cAway cStock cPrinter cBadLine cBusy cDry cGoesRound cNoHeap cNoPrinter cNotNow cNoWay cNowhere cOver cTooMuch cTwice cUnknown cHallError)  :
    FnOk P w K mg base CX0 1 fa fd ["self", "name"] (sp_one cTooMuch "name") := by
  refine F.ok sc_TooMuch_init (fun vs H Q E h => ?_) (fun cdv A outer s H vs Q E hr h => ?_)
  · obtain ⟨x, y, rfl, _⟩ := h
    rfl
  obtain ⟨x, y, rfl, hx, q⟩ := h
  refine ⟨_, (pss_cons (ps_expr (pe_initX T.in_HallError rfl T.mg_HallError (pa_cons (pv 0) (pa_cons (pv 1) pa_nil))))
  (pss_one (ps_fldX (pv 0) (pv 1) rfl))), ?_⟩
  refine ⟨_, rfl, _, rfl, x, _, none, [y], rfl, (by simp), hx, T.x_TooMuch.m, ?_⟩
  refine ⟨_, rfl, _, rfl, .inl ⟨x, _, rfl, hx, T.x_TooMuch.i.c, T.x_TooMuch.n _ (.head _), fun dx nd ne => ?_⟩⟩
  exact q _ (kept_set nd) (xf_set ne)

/-! ### stocks -/
theorem putF_add {f : Str} {v : V} : ∀ {fs : List (Str × V)}, ¬ f ∈ fs.map (·.1) → putF f v fs = fs ++ [(f, v)]
  | [], _ => rfl
  | (g, u) :: r, h => by
    have h1 : ¬ g = f := fun e => h (by rw [← e]; exact List.mem_cons_self)
    show (if g = f then _ else (g, u) :: putF f v r) = _
    rw [if_neg h1, putF_add fun m => h (List.mem_cons_of_mem _ m)]
    rfl
def dI (ps : List (Str × Int)) : List (Key × V) := ps.map fun p => (Sum.inr p.1, V.int p.2)
theorem nodup_map_inr {l : List Str} (h : l.Nodup) : (l.map (Sum.inr : Str → Key)).Nodup := by
  induction l with
  | nil => exact List.nodup_nil
  | cons a r ih =>
    rw [List.nodup_cons] at h
    rw [List.map_cons, List.nodup_cons]
    refine ⟨fun m => ?_, ih h.2⟩
    obtain ⟨b, hb, e⟩ := List.mem_map.mp m
    cases e
    exact h.1 hb
def sp_Stock_init (C : Addr) : Sp := fun vs H Q _ => ∃ (x dx a : Addr) (rs : List (Str × Int)), vs = [.ref x, .ref a] ∧ H x = some (.ins C dx []) ∧ H a = some (.dK (dI rs)) ∧ (rs.map (·.1)).Nodup ∧ rs.length ≤ 1000 ∧
  ∀ r m H', (∀ b u, b ≠ x → H b = some u → H' b = some u) → H r = none → H m = none → r ≠ m → H' x = some (.ins C dx [("rooms", .ref r), ("amounts", .ref m)]) → H' r = some (.dK (dI rs)) → H' m = some (.dK (dI (rs.map fun p => (p.1, 0)))) → Q .non H'
theorem sc_Stock_init : FnScope ["self", "rooms"] ["self", "rooms"] (defScope s_Stock_init) := ⟨rfl, rfl, rfl, by decide +kernel, rfl, by decide +kernel, by decide +kernel⟩
theorem ok_Stock_init {fa cState cReady cJammed cAway cStock cPrinter cBadLine cBusy cDry cGoesRound cNoHeap cNoPrinter cNotNow cNoWay cNowhere cOver cTooMuch cTwice cUnknown cHallError : Addr} {fd : FuncData} (F : Fun K "__init__" "Stock.__init__" s_Stock_init fa fd) (T : Txt K mg cState cReady cJammed cAway cStock cPrinter cBadLine cBusy cDry cGoesRound cNoHeap cNoPrinter cNotNow cNoWay cNowhere cOver cTooMuch cTwice cUnknown cHallError)  :
    FnOk P w K mg base CX0 1 fa fd ["self", "rooms"] (sp_Stock_init cStock) := by
  refine F.ok sc_Stock_init (fun vs H Q E h => ?_) (fun cdv A outer s H vs Q E hr h => ?_)
  · obtain ⟨x, dx, a, rs, rfl, _⟩ := h
    rfl
  obtain ⟨x, dx, a, rs, rfl, hx, ha, nd, l1, q⟩ := h
  refine ⟨_, (pss_cons (ps_fld (pv 0) (pe_callTy call_dict_copy rfl T.dict bt_dict (pa_cons (pv 1) pa_nil)) rfl)
  (pss_one (ps_fld (pv 0) (pe_frz (pe_callTy (call_dict_pairs rfl) rfl T.dict bt_dict (pa_cons (pe_comp (frees := []) ⟨by decide +kernel, rfl, rfl, by decide +kernel, trivial, by decide +kernel, cellsFor_at rfl, rfl⟩ rfl (pi_dict (pv 1)) (fun _ _ _ _ => pifs_nil) (fun _ _ _ _ => by exact (pe_tup (pa_cons (pv 0) (pa_cons pe_int pa_nil))))) pa_nil))) rfl))), ?_⟩
  have z2 : 2 ≤ sizeLine := small (by decide)
  refine ⟨_, rfl, a, _, rfl, .inl ha, fun r nr => ?_⟩
  have nrx : x ≠ r := ne_of_none hx nr
  have nra : a ≠ r := ne_of_none ha nr
  have nax : a ≠ x := ne_of ha hx (by intro z; cases z)
  refine ⟨_, rfl, x, cStock, dx, _, rfl, (by rw [upd_ne nrx]; exact hx), T.cl_Stock, T.n_Stock_rooms, (by show 0 < 1000; decide), ?_⟩
  rw [putF_add (by show ¬ ("rooms" : Str) ∈ ([] : List Str); decide +kernel), List.nil_append]
  have k1 : ∀ b u, b ≠ x → H b = some u → upd (upd H r (.dK (dI rs))) x (.ins cStock dx [("rooms", .ref r)]) b = some u := fun b u nb e => by rw [upd_ne nb, upd_ne (ne_of_none e nr)]; exact e
  have hr1 : upd (upd H r (.dK (dI rs))) x (.ins cStock dx [("rooms", .ref r)]) r = some (.dK (dI rs)) := by rw [upd_ne (Ne.symm nrx), upd_same]
  have hx1 : upd (upd H r (.dK (dI rs))) x (.ins cStock dx [("rooms", .ref r)]) x = some (.ins cStock dx [("rooms", .ref r)]) := upd_same
  generalize upd (upd H r (.dK (dI rs))) x (.ins cStock dx [("rooms", .ref r)]) = H1 at k1 hr1 hx1 ⊢
  refine ⟨a, dI rs, k1 _ _ nax ha, fun o => ?_⟩
  refine ⟨_, rfl, a, o, dI rs, rfl, upd_same, ?_⟩
  have zr : ((dI rs).map fun p => kV p.1).length = rs.length := by unfold dI; rw [List.length_map, List.length_map]
  refine compB_mk (seq_dict upd_same) (fun n y H' => ∃ t, y = .ref t ∧ H' t = some (.tup [n, .int 0])) (by rw [zr]; exact small1000 l1) (fun x _ H' R _ rr => rr) (fun n _ H' R _ rr => ⟨_, rfl, z2, fun t nt => rr _ _ (same_new nt _) ⟨fun z => z = t, fun b hb => by subst hb; exact ⟨nt, _, upd_same⟩, fun H3 h3 => ⟨t, rfl, by rw [h3 t rfl]; exact upd_same⟩⟩⟩) (fun D H2 ys s2 nD hD ly gy => ?_)
  have k2 : ∀ b u, b ≠ a → H1 b = some u → H2 b = some u := fun b u nb e => s2 b u (by rw [upd_ne nb]; exact e)
  have ha2 := s2 _ _ (upd_same (H := H1) (a := a) (o := .frz o (.dK (dI rs))))
  have nd' : ((dI (rs.map fun p => (p.1, 0))).map (·.1)).Nodup := by
    have e : (dI (rs.map fun p => (p.1, (0 : Int)))).map (·.1) = (rs.map (·.1)).map (Sum.inr : Str → Key) := by
      unfold dI
      rw [List.map_map, List.map_map, List.map_map]
      rfl
    rw [e]
    exact nodup_map_inr nd
  refine ⟨D, ys, dI (rs.map fun p => (p.1, 0)), rfl, hD, ?_, fun i y kv e1 e2 => ?_, nd', fun m nm => ⟨?_, ?_⟩⟩
  · rw [ly, zr]
    unfold dI
    rw [List.length_map, List.length_map]
  · unfold dI at e2
    rw [List.map_map, List.getElem?_map] at e2
    obtain ⟨p, ep, rfl⟩ := Option.map_eq_some_iff.mp e2
    have ex : ((dI rs).map fun p => kV p.1)[i]? = some (.str p.1) := by
      unfold dI
      rw [List.map_map, List.getElem?_map, ep]
      rfl
    obtain ⟨t, rfl, ht⟩ := gy i _ y ex e1
    exact ⟨t, rfl, SqT.of ht⟩
  · rw [upd_ne (ne_of_none ha2 nm)]
    exact ha2
  have nma : a ≠ m := ne_of_none ha2 nm
  have hx2 := k2 _ _ (Ne.symm nax) hx1
  have nmx : x ≠ m := ne_of_none hx2 nm
  have hr2 := k2 _ _ (Ne.symm nra) hr1
  have nmr : r ≠ m := ne_of_none hr2 nm
  refine ⟨_, rfl, x, cStock, dx, _, rfl, (by rw [upd_ne (Ne.symm nax), upd_ne nmx]; exact hx2), T.cl_Stock, T.n_Stock_amounts, (by show 1 < 1000; decide), ?_⟩
  rw [putF_add (by show ¬ ("amounts" : Str) ∈ (["rooms"] : List Str); decide +kernel)]
  have nm1 : H m = none := by
    cases e : H m with
    | none => rfl
    | some u =>
      have : H2 m = some u := k2 m u (Ne.symm nma) (k1 m u (Ne.symm nmx) e)
      rw [nm] at this
      cases this
  refine q r m _ (fun b u nb e => ?_) nr nm1 nmr upd_same ?_ ?_
  · rw [upd_ne nb]
    by_cases hb : b = a
    · subst hb
      rw [upd_same]
      rw [ha] at e
      exact e
    · have e2 := k2 b u hb (k1 b u nb e)
      rw [upd_ne hb, upd_ne (ne_of_none e2 nm)]
      exact e2
  · rw [upd_ne (Ne.symm nrx), upd_ne (Ne.symm nra), upd_ne nmr]
    exact hr2
  · rw [upd_ne (Ne.symm nmx), upd_ne (Ne.symm nma), upd_same]
theorem val_dI {rs : List (Str × Int)} {n : Str} : valV (dI rs) (Sum.inr n : Key) = (rs.lookup n).map V.int := by
  induction rs with
  | nil => rfl
  | cons p r ih =>
    obtain ⟨k, v⟩ := p
    show ((((Sum.inr k : Key), V.int v) :: dI r).find? fun kv => decide (kv.1 = Sum.inr n)).map (·.2) = _
    rw [List.find?_cons, List.lookup_cons]
    by_cases h : k = n
    · subst h
      rw [decide_eq_true rfl, beq_self_eq_true]
      rfl
    · rw [decide_eq_false (show ¬ (((Sum.inr k : Key), V.int v).1 = Sum.inr n) from fun z => h (Sum.inr.inj z)), beq_eq_false_iff_ne.mpr (Ne.symm h)]
      exact ih
theorem dget_dI {H : Hp} {m : Addr} {am : List (Str × Int)} {n : Str} {v : Int} (e : H m = some (.dK (dI am))) (l : am.lookup n = some v) : DGet H m (.str n) (some (.int v)) := by
  have := DGet.k (k := Sum.inr n) e
  rw [val_dI, l] at this
  exact this
theorem look_some {rs : List (Str × Int)} {n : Str} {v : Int} (h : rs.lookup n = some v) : n ∈ rs.map (·.1) := List.mem_map.mpr ⟨(n, v), PySem.mem_of_lookup h, rfl⟩
theorem look_none {rs : List (Str × Int)} {n : Str} (h : rs.lookup n = none) : ¬ n ∈ rs.map (·.1) := by
  intro m
  obtain ⟨p, hp, e⟩ := List.mem_map.mp m
  rw [List.lookup_eq_none_iff] at h
  have := h p hp
  rw [e] at this
  simp at this
theorem look_in {rs : List (Str × Int)} {n : Str} (h : n ∈ rs.map (·.1)) : (rs.lookup n).isNone = false := by
  cases e : rs.lookup n with
  | none => exact absurd h (look_none e)
  | some v => rfl
theorem look_out {rs : List (Str × Int)} {n : Str} (h : ¬ n ∈ rs.map (·.1)) : (rs.lookup n).isNone = true := by
  cases e : rs.lookup n with
  | none => rfl
  | some v => exact absurd (look_some e) h
def StockAt (C : Addr) (H : Hp) (x : Addr) (rs am : List (Str × Int)) : Prop := ∃ dx r m, H x = some (.ins C dx [("rooms", .ref r), ("amounts", .ref m)]) ∧ H r = some (.dK (dI rs)) ∧ H m = some (.dK (dI am)) ∧ r ≠ m
theorem StockAt.same {C : Addr} {H H' : Hp} {x : Addr} {rs am : List (Str × Int)} (h : StockAt C H x rs am) (k : Same H H') : StockAt C H' x rs am := let ⟨dx, r, m, e1, e2, e3, n⟩ := h; ⟨dx, r, m, k _ _ e1, k _ _ e2, k _ _ e3, n⟩
def OutU (cU : Addr) (n : Str) (H : Hp) (E : XK) : Prop := ∀ ea H', Same H H' → XG H' ea cU [("name", .str n)] → E (.ref cU) (some ea) H'
def sp_know (C cU : Addr) : Sp := fun vs H Q E => ∃ x rs am n, vs = [.ref x, .str n] ∧ StockAt C H x rs am ∧ (n ∈ rs.map (·.1) → Q .non H) ∧ (¬ n ∈ rs.map (·.1) → OutU cU n H E)
theorem sc_Stock_know : FnScope ["self", "name"] ["self", "name"] (defScope s_Stock_know) := ⟨rfl, rfl, rfl, by decide +kernel, rfl, by decide +kernel, by decide +kernel⟩
theorem ok_Stock_know {fa cState cReady cJammed cAway cStock cPrinter cBadLine cBusy cDry cGoesRound cNoHeap cNoPrinter cNotNow cNoWay cNowhere cOver cTooMuch cTwice cUnknown cHallError : Addr} {fd : FuncData} (F : Fun K "know" "Stock.know" s_Stock_know fa fd) (T : Txt K mg cState cReady cJammed cAway cStock cPrinter cBadLine cBusy cDry cGoesRound cNoHeap cNoPrinter cNotNow cNoWay cNowhere cOver cTooMuch cTwice cUnknown cHallError) (X_Unknown : MkXD P w K mg base 1 "Unknown" cUnknown ["self", "name"] (sp_one cUnknown "name")) :
    FnOk P w K mg base (CXe P w) 3 fa fd ["self", "name"] (sp_know cStock cUnknown) := by
  refine F.okE sc_Stock_know (fun vs H Q E h => ?_) (fun cdv A outer s H vs Q E hr h => ?_)
  · obtain ⟨x, rs, am, n, rfl, _⟩ := h
    rfl
  obtain ⟨x, rs, am, n, rfl, ⟨dx, r, m, hx, hr', hm, ne⟩, q1, q2⟩ := h
  have hu := hu_n hr 0 (by decide)
  refine ⟨_, (pss_one (ps_if (pt_cmp (pc_dnotin hu (pv 1) (pe_fld (pv 0) rfl))) (pss_one (ps_raise raise_def rfl (pe_makeXD X_Unknown (hr.mono (by decide)) rfl (pa_cons (pv 1) pa_nil)))) pss_nil)), ?_⟩
  refine ⟨_, rfl, _, rfl, x, cStock, dx, _, _, rfl, hx, T.cl_Stock, T.n_Stock_rooms, rfl, r, _, rfl, DGet.k (k := Sum.inr n) hr', _, rfl, ?_⟩
  rw [val_dI]
  cases e : rs.lookup n with
  | some v => exact iteF (q1 (look_some e))
  | none => exact iteT ⟨_, rfl, raise_one T.x_Unknown.m fun ea H' sm _ g => q2 (look_none e) ea H' sm g⟩
def sp_held (C cU : Addr) : Sp := fun vs H Q E => ∃ x rs am n, vs = [.ref x, .str n] ∧ StockAt C H x rs am ∧ (∀ v, n ∈ rs.map (·.1) → am.lookup n = some v → Q (.int v) H) ∧ (n ∈ rs.map (·.1) → ∃ v, am.lookup n = some v) ∧ (¬ n ∈ rs.map (·.1) → OutU cU n H E)
def sp_room (C cU : Addr) : Sp := fun vs H Q E => ∃ x rs am n, vs = [.ref x, .str n] ∧ StockAt C H x rs am ∧ (∀ v, rs.lookup n = some v → Q (.int v) H) ∧ (¬ n ∈ rs.map (·.1) → OutU cU n H E)
theorem sc_Stock_held : FnScope ["self", "name"] ["self", "name"] (defScope s_Stock_held) := ⟨rfl, rfl, rfl, by decide +kernel, rfl, by decide +kernel, by decide +kernel⟩
theorem ok_Stock_held {fa cState cReady cJammed cAway cStock cPrinter cBadLine cBusy cDry cGoesRound cNoHeap cNoPrinter cNotNow cNoWay cNowhere cOver cTooMuch cTwice cUnknown cHallError : Addr} {fd : FuncData} (F : Fun K "held" "Stock.held" s_Stock_held fa fd) (T : Txt K mg cState cReady cJammed cAway cStock cPrinter cBadLine cBusy cDry cGoesRound cNoHeap cNoPrinter cNotNow cNoWay cNowhere cOver cTooMuch cTwice cUnknown cHallError) (D_Stock_know : MtE P w K mg base 3 "know" cStock ["self", "name"] (sp_know cStock cUnknown)) :
    FnOk P w K mg base (CXe P w) 4 fa fd ["self", "name"] (sp_held cStock cUnknown) := by
  refine F.okE sc_Stock_held (fun vs H Q E h => ?_) (fun cdv A outer s H vs Q E hr h => ?_)
  · obtain ⟨x, rs, am, n, rfl, _⟩ := h
    rfl
  obtain ⟨x, rs, am, n, rfl, S, q1, q0, q2⟩ := h
  have hu := hu_n hr 0 (by decide)
  obtain ⟨dx, r, m, hx, hr', hm, ne⟩ := id S
  refine ⟨_, (pss_cons (ps_expr (pe_methE 3 pass_def (hr.mono (by decide)) (pv 0) (pa_cons (pv 1) pa_nil)))
  (pss_one (ps_ret (pe_dget hu (pe_fld (pv 0) rfl) (pv 1) (fun _ _ => rfl))))), ?_⟩
  refine ⟨_, rfl, x, _, dx, _, _, _, rfl, hx, rfl, T.cl_Stock, D_Stock_know, _, rfl, x, rs, am, n, rfl, S, fun hn => ?_, q2⟩
  obtain ⟨v, ev⟩ := q0 hn
  exact ⟨_, rfl, x, cStock, dx, _, _, rfl, hx, T.cl_Stock, T.n_Stock_amounts, rfl, _, rfl, m, _, rfl, dget_dI hm ev, q1 v hn ev⟩
/-! ### all that is given, all that is wanted -/
def GiftAt (H : Hp) (y : V) (g : Str × Int) : Prop := ∃ t, y = .ref t ∧ H t = some (.tup [.str g.1, .int g.2])
def GiftsAt (H : Hp) (p : Addr) (ws : List (Str × Int)) : Prop := ∃ ts, H p = some (.lst ts) ∧ ts.length = ws.length ∧ ∀ (i : Nat) y g, ts[i]? = some y → ws[i]? = some g → GiftAt H y g
theorem GiftAt.same {H H' : Hp} {y : V} {g : Str × Int} (h : GiftAt H y g) (k : Same H H') : GiftAt H' y g := let ⟨t, e, e1⟩ := h; ⟨t, e, k _ _ e1⟩
theorem GiftsAt.same {H H' : Hp} {p : Addr} {ws : List (Str × Int)} (h : GiftsAt H p ws) (k : Same H H') : GiftsAt H' p ws := let ⟨ts, e, l, g⟩ := h; ⟨ts, k _ _ e, l, fun i y s e1 e2 => (g i y s e1 e2).same k⟩
/-- the first name that it does not know -/
def strange (rs ws : List (Str × Int)) : Option Str := (ws.find? fun g => (rs.lookup g.1).isNone).map (·.1)
theorem find_first {α : Type} {f : α → Bool} : ∀ {l : List α} {i : Nat} {a : α}, l[i]? = some a → (∀ j b, j < i → l[j]? = some b → f b = false) → f a = true → l.find? f = some a
  | [], _, _, h, _, _ => by simp at h
  | b :: r, 0, a, h, _, k => by
    obtain rfl : b = a := Option.some.inj h
    rw [List.find?_cons, k]
  | b :: r, i + 1, a, h, g, k => by
    have hb : f b = false := g 0 b (Nat.succ_pos _) rfl
    rw [List.find?_cons, hb]
    exact find_first (i := i) h (fun j c hj e => g (j + 1) c (Nat.succ_lt_succ hj) e) k
theorem find_no {α : Type} {f : α → Bool} {l : List α} (h : ∀ (j : Nat) b, l[j]? = some b → f b = false) : l.find? f = none := by
  rw [List.find?_eq_none]
  intro x hx
  obtain ⟨j, hj⟩ := List.mem_iff_getElem?.mp hx
  rw [h j x hj]
  decide
def sp_know_all (C cU : Addr) : Sp := fun vs H Q E => ∃ x p rs am ws, vs = [.ref x, .ref p] ∧ StockAt C H x rs am ∧ GiftsAt H p ws ∧ (strange rs ws = none → Q .non H) ∧ (∀ n, strange rs ws = some n → OutU cU n H E)
theorem sc_Stock_know_all : FnScope ["self", "rows", "row"] ["self", "rows"] (defScope s_Stock_know_all) := ⟨rfl, rfl, rfl, by decide +kernel, rfl, by decide +kernel, by decide +kernel⟩
theorem ok_Stock_know_all {fa cState cReady cJammed cAway cStock cPrinter cBadLine cBusy cDry cGoesRound cNoHeap cNoPrinter cNotNow cNoWay cNowhere cOver cTooMuch cTwice cUnknown cHallError : Addr} {fd : FuncData} (F : Fun K "know_all" "Stock.know_all" s_Stock_know_all fa fd) (T : Txt K mg cState cReady cJammed cAway cStock cPrinter cBadLine cBusy cDry cGoesRound cNoHeap cNoPrinter cNotNow cNoWay cNowhere cOver cTooMuch cTwice cUnknown cHallError) (D_Stock_know : MtE P w K mg base 3 "know" cStock ["self", "name"] (sp_know cStock cUnknown)) :
    FnOk P w K mg base (CXe P w) 4 fa fd ["self", "rows"] (sp_know_all cStock cUnknown) := by
  refine F.okE sc_Stock_know_all (fun vs H Q E h => ?_) (fun cdv A outer s H vs Q E hr h => ?_)
  · obtain ⟨x, p, rs, am, ws, rfl, _⟩ := h
    rfl
  obtain ⟨x, p, rs, am, ws, rfl, S, ⟨ts, hp, lt, gt⟩, q1, q2⟩ := h
  have hu := hu_n hr 0 (by decide)
  obtain ⟨dx, r, m, hx, hr', hm, ne⟩ := id S
  refine ⟨_, (pss_one (ps_for own_def rfl (pi_list (pv 1)) (pg_name (i := 2) sc_Stock_know_all.nd rfl (by first | exact Or.inl rfl | exact Or.inr rfl))
  (pss_one (ps_expr (pe_methE 3 pass_def (hr.mono (by decide)) (pv 0) (pa_cons (pe_ix ix_tup (pv 2) pe_int (fun _ _ => rfl)) pa_nil)))))), ?_⟩
  refine ⟨_, rfl, p, rfl, ⟨_, SqL.of hp⟩, for_list (K := K) (a := p) (xs := ts) (fun i σ H' => H' = H ∧ (∀ (j : Nat) g, j < i → ws[j]? = some g → (rs.lookup g.1).isNone = false) ∧ ∃ v, σ = [some (.ref x), some (.ref p), v]) ⟨rfl, fun j g hj => absurd hj (Nat.not_lt_zero j), _, rfl⟩ (fun i σ H' _ z => by rw [z.1]; exact SqL.of hp) (fun i y σ H' hy z => ?_) (fun σ H' z => ?_)⟩
  · obtain ⟨rfl, kn, v, rfl⟩ := z
    obtain ⟨g, eg⟩ : ∃ g, ws[i]? = some g := ⟨_, List.getElem?_eq_getElem (by rw [← lt]; exact (List.getElem?_eq_some_iff.mp hy).1)⟩
    obtain ⟨t, rfl, ht⟩ := gt i y g hy eg
    refine ⟨_, rfl, x, _, dx, _, _, _, rfl, hx, rfl, T.cl_Stock, D_Stock_know, ?_⟩
    refine ⟨_, rfl, t, _, _, _, rfl, rfl, SqT.of ht, atI_nat (j := 0) rfl, x, rs, am, g.1, rfl, S, fun hn => ⟨rfl, fun j g' hj e => ?_, _, rfl⟩, fun hn => q2 g.1 ?_⟩
    · by_cases hji : j < i
      · exact kn j g' hji e
      · have : j = i := by omega
        subst this
        rw [eg] at e
        obtain rfl := Option.some.inj e
        exact look_in hn
    · unfold strange
      rw [find_first eg (fun j b hj e => kn j b hj e) (look_out hn)]
      rfl
  · obtain ⟨rfl, kn, v, rfl⟩ := z
    refine q1 ?_
    unfold strange
    rw [find_no fun j g e => kn j g (by rw [lt]; exact (List.getElem?_eq_some_iff.mp e).1) e]
    rfl
def StockM (C : Addr) (H : Hp) (x r m : Addr) (rs am : List (Str × Int)) : Prop := (∃ dx, H x = some (.ins C dx [("rooms", .ref r), ("amounts", .ref m)])) ∧ H r = some (.dK (dI rs)) ∧ H m = some (.dK (dI am)) ∧ r ≠ m
theorem StockM.at {C : Addr} {H : Hp} {x r m : Addr} {rs am : List (Str × Int)} (h : StockM C H x r m rs am) : StockAt C H x rs am := let ⟨⟨dx, e1⟩, e2, e3, n⟩ := h; ⟨dx, r, m, e1, e2, e3, n⟩
/-- an amount, written anew -/
def setA (am : List (Str × Int)) (n : Str) (v : Int) : List (Str × Int) := am.map fun p => if p.1 = n then (p.1, v) else p
def addAll (s : Int) (am ws : List (Str × Int)) : List (Str × Int) := ws.foldl (fun am g => setA am g.1 ((am.lookup g.1).getD 0 + s * g.2)) am
theorem keys_setA (am : List (Str × Int)) (n : Str) (v : Int) : (setA am n v).map (·.1) = am.map (·.1) := by
  unfold setA
  rw [List.map_map]
  refine List.map_congr_left fun p _ => ?_
  show (if p.1 = n then (p.1, v) else p).1 = p.1
  split <;> rfl
theorem put_dI {am : List (Str × Int)} {n : Str} {v : Int} (h : n ∈ am.map (·.1)) : putK (dI am) (Sum.inr n : Key) (.int v) = dI (setA am n v) := by
  have hany : ((dI am).any fun kv => decide (kv.1 = (Sum.inr n : Key))) = true := by
    obtain ⟨p, hp, e⟩ := List.mem_map.mp h
    refine List.any_eq_true.mpr ⟨(Sum.inr p.1, V.int p.2), List.mem_map.mpr ⟨p, hp, rfl⟩, decide_eq_true ?_⟩
    rw [e]
  unfold putK
  rw [if_pos hany]
  unfold dI setA
  rw [List.map_map, List.map_map]
  refine List.map_congr_left fun p _ => ?_
  show (if (Sum.inr p.1 : Key) = Sum.inr n then ((Sum.inr p.1 : Key), V.int v) else (Sum.inr p.1, V.int p.2)) = (Sum.inr (if p.1 = n then (p.1, v) else p).1, V.int (if p.1 = n then (p.1, v) else p).2)
  by_cases e : p.1 = n
  · rw [if_pos (by rw [e]), if_pos e]
  · rw [if_neg (fun z => e (Sum.inr.inj z)), if_neg e]
/-- the first name of which there would be too much -/
def tooMuch (rs am ws : List (Str × Int)) : Option Str := (ws.find? fun g => decide ((rs.lookup g.1).getD 0 < (am.lookup g.1).getD 0 + g.2)).map (·.1)
def tooFew (am ws : List (Str × Int)) : Option Str := (ws.find? fun g => decide ((am.lookup g.1).getD 0 < g.2)).map (·.1)
def sp_all (C cU cN : Addr) (s : Int) (bad : List (Str × Int) → List (Str × Int) → List (Str × Int) → Option Str) : Sp := fun vs H Q E => ∃ x r m p rs am ws, vs = [.ref x, .ref p] ∧ StockM C H x r m rs am ∧ am.map (·.1) = rs.map (·.1) ∧ am.length ≤ 1000 ∧ p ≠ m ∧ GiftsAt H p ws ∧
  (∀ n, strange rs ws = some n → OutU cU n H E) ∧ (∀ n, strange rs ws = none → bad rs am ws = some n → OutU cN n H E) ∧
  (strange rs ws = none → bad rs am ws = none → ∀ H', (∀ b u, b ≠ m → H b = some u → H' b = some u) → StockM C H' x r m rs (addAll s am ws) → Q .non H')
theorem keys_addAll (s : Int) : ∀ (ws am : List (Str × Int)), (addAll s am ws).map (·.1) = am.map (·.1)
  | [], _ => rfl
  | g :: r, am => by
    show (addAll s (setA am g.1 ((am.lookup g.1).getD 0 + s * g.2)) r).map (·.1) = _
    rw [keys_addAll s r, keys_setA]
theorem addAll_snoc (s : Int) (am ws : List (Str × Int)) (g : Str × Int) : addAll s am (ws ++ [g]) = setA (addAll s am ws) g.1 (((addAll s am ws).lookup g.1).getD 0 + s * g.2) := by
  unfold addAll
  rw [List.foldl_append]
  rfl
theorem look_keys {rs am : List (Str × Int)} {n : Str} {v : Int} (e : am.map (·.1) = rs.map (·.1)) (h : rs.lookup n = some v) : ∃ w, am.lookup n = some w := by
  cases l : am.lookup n with
  | some w => exact ⟨w, rfl⟩
  | none => exact absurd (e ▸ look_some h) (look_none l)
theorem strange_none {rs ws : List (Str × Int)} (h : strange rs ws = none) {j : Nat} {g : Str × Int} (e : ws[j]? = some g) : ∃ v, rs.lookup g.1 = some v := by
  unfold strange at h
  have h1 := List.find?_eq_none.mp (Option.map_eq_none_iff.mp h) g (List.mem_of_getElem? e)
  cases l : rs.lookup g.1 with
  | some v => exact ⟨v, rfl⟩
  | none => rw [l] at h1; exact absurd rfl h1
theorem sc_Stock_put_all : FnScope ["self", "gifts", "name", "many"] ["self", "gifts"] (defScope s_Stock_put_all) := ⟨rfl, rfl, rfl, by decide +kernel, rfl, by decide +kernel, by decide +kernel⟩
theorem ok_Stock_put_all {fa cState cReady cJammed cAway cStock cPrinter cBadLine cBusy cDry cGoesRound cNoHeap cNoPrinter cNotNow cNoWay cNowhere cOver cTooMuch cTwice cUnknown cHallError : Addr} {fd : FuncData} (F : Fun K "put_all" "Stock.put_all" s_Stock_put_all fa fd) (T : Txt K mg cState cReady cJammed cAway cStock cPrinter cBadLine cBusy cDry cGoesRound cNoHeap cNoPrinter cNotNow cNoWay cNowhere cOver cTooMuch cTwice cUnknown cHallError) (X_TooMuch : MkXD P w K mg base 1 "TooMuch" cTooMuch ["self", "name"] (sp_one cTooMuch "name")) (D_Stock_know_all : MtE P w K mg base 4 "know_all" cStock ["self", "rows"] (sp_know_all cStock cUnknown)) :
    FnOk P w K mg base (CXe P w) 5 fa fd ["self", "gifts"] (sp_all cStock cUnknown cTooMuch 1 tooMuch) := by
  refine F.okE sc_Stock_put_all (fun vs H Q E h => ?_) (fun cdv A outer s H vs Q E hr h => ?_)
  · obtain ⟨x, r, m, p, rs, am, ws, rfl, _⟩ := h
    rfl
  obtain ⟨x, r, m, p, rs, am, ws, rfl, S, ek, la, npm, G, q1, q2, q3⟩ := h
  have hu := hu_n hr 0 (by decide)
  obtain ⟨⟨dx, hx⟩, hr', hm, ne⟩ := id S
  obtain ⟨ts, hp, lt, gt⟩ := id G
  have nxm : x ≠ m := ne_of hx hm (by intro z; cases z)
  refine ⟨_, (pss_cons (ps_expr (pe_methE 4 pass_def (hr.mono (by decide)) (pv 0) (pa_cons (pv 1) pa_nil)))
  (pss_cons (ps_for own_def rfl (pi_list (pv 1)) (pg_tup rfl (pgs_cons (pg_name (i := 2) sc_Stock_put_all.nd rfl (by first | exact Or.inl rfl | exact Or.inr rfl)) (pgs_cons (pg_name (i := 3) sc_Stock_put_all.nd rfl (by first | exact Or.inl rfl | exact Or.inr rfl)) pgs_nil)))
  (pss_one (ps_if (pt_cmpR op_gt (pe_op op_add (pe_dget hu (pe_fld (pv 0) rfl) (pv 2) (fun _ _ => rfl)) (pv 3)) (pe_dget hu (pe_fld (pv 0) rfl) (pv 2) (fun _ _ => rfl)) (nomark _)) (pss_one (ps_raise raise_def rfl (pe_makeXD X_TooMuch (hr.mono (by decide)) rfl (pa_cons (pv 2) pa_nil)))) pss_nil)))
  (pss_one (ps_for own_def rfl (pi_list (pv 1)) (pg_tup rfl (pgs_cons (pg_name (i := 2) sc_Stock_put_all.nd rfl (by first | exact Or.inl rfl | exact Or.inr rfl)) (pgs_cons (pg_name (i := 3) sc_Stock_put_all.nd rfl (by first | exact Or.inl rfl | exact Or.inr rfl)) pgs_nil)))
  (pss_one (ps_daug hu (pe_fld (pv 0) rfl) (pv 2) (pv 3) in_add (fun _ _ _ => rfl))))))), ?_⟩
  refine ⟨_, rfl, x, _, dx, _, _, _, rfl, hx, rfl, T.cl_Stock, D_Stock_know_all, _, rfl, x, p, rs, am, ws, rfl, S.at, G, fun kn => ?_, q1⟩
  refine ⟨_, rfl, p, rfl, ⟨_, SqL.of hp⟩, for_list (K := K) (a := p) (xs := ts) (fun i σ H' => H' = H ∧ (∀ (j : Nat) g, j < i → ws[j]? = some g → decide ((rs.lookup g.1).getD 0 < (am.lookup g.1).getD 0 + g.2) = false) ∧ ∃ v2 v3, σ = [some (.ref x), some (.ref p), v2, v3]) ⟨rfl, fun j g hj => absurd hj (Nat.not_lt_zero j), _, _, rfl⟩ (fun i σ H' _ z => by rw [z.1]; exact SqL.of hp) (fun i y σ H' hy z => ?_) (fun σ H' z => ?_)⟩
  · obtain ⟨rfl, kb, v2, v3, rfl⟩ := z
    obtain ⟨g, eg⟩ : ∃ g, ws[i]? = some g := ⟨_, List.getElem?_eq_getElem (by rw [← lt]; exact (List.getElem?_eq_some_iff.mp hy).1)⟩
    obtain ⟨t, rfl, ht⟩ := gt i y g hy eg
    obtain ⟨vr, er⟩ := strange_none kn eg
    obtain ⟨va, ea⟩ := look_keys ek er
    refine ⟨t, [.str g.1, .int g.2], rfl, SqT.of ht, rfl, .str g.1, [.int g.2], rfl, .int g.2, [], rfl, rfl, ?_⟩
    refine ⟨_, rfl, x, cStock, dx, _, _, rfl, hx, T.cl_Stock, T.n_Stock_amounts, rfl, _, rfl, m, _, rfl, dget_dI hm ea, _, rfl, _, _, rfl, rfl, _, rfl, x, cStock, dx, _, _, rfl, hx, T.cl_Stock, T.n_Stock_rooms, rfl, _, rfl, r, _, rfl, dget_dI hr' er, _, _, rfl, rfl, decide (vr < va + g.2), rfl, ?_⟩
    have eb : (decide ((rs.lookup g.1).getD 0 < (am.lookup g.1).getD 0 + g.2)) = decide (vr < va + g.2) := by rw [ea, er]; rfl
    cases hd : decide (vr < va + g.2) with
    | false =>
      refine iteF ⟨rfl, fun j g' hj e => ?_, _, _, rfl⟩
      by_cases hji : j < i
      · exact kb j g' hji e
      · have : j = i := by omega
        subst this
        rw [eg] at e
        obtain rfl := Option.some.inj e
        rw [eb, hd]
    | true =>
      refine iteT ⟨_, rfl, raise_one T.x_TooMuch.m fun ea H2 sm _ gx => q2 g.1 kn ?_ ea H2 sm gx⟩
      unfold tooMuch
      rw [find_first eg (fun j b hj e => kb j b hj e) (by rw [eb, hd])]
      rfl
  · obtain ⟨rfl, kb, v2, v3, rfl⟩ := z
    have nb : tooMuch rs am ws = none := by
      unfold tooMuch
      rw [find_no fun j g e => kb j g (by rw [lt]; exact (List.getElem?_eq_some_iff.mp e).1) e]
      rfl
    refine ⟨_, rfl, p, rfl, ⟨_, SqL.of hp⟩, for_list (K := K) (a := p) (xs := ts) (fun i σ H2 => (∀ b u, b ≠ m → H' b = some u → H2 b = some u) ∧ H2 m = some (.dK (dI (addAll 1 am (ws.take i)))) ∧ ∃ v2 v3, σ = [some (.ref x), some (.ref p), v2, v3]) ⟨fun b u _ e => e, hm, _, _, rfl⟩ (fun i σ H2 _ z => SqL.of (z.1 _ _ npm hp)) (fun i y σ H2 hy z => ?_) (fun σ H2 z => ?_)⟩
    · obtain ⟨kp, hm2, v2, v3, rfl⟩ := z
      obtain ⟨g, eg⟩ : ∃ g, ws[i]? = some g := ⟨_, List.getElem?_eq_getElem (by rw [← lt]; exact (List.getElem?_eq_some_iff.mp hy).1)⟩
      obtain ⟨t, rfl, ht⟩ := gt i y g hy eg
      obtain ⟨vr, er⟩ := strange_none kn eg
      have ek2 : (addAll 1 am (ws.take i)).map (·.1) = rs.map (·.1) := by rw [keys_addAll, ek]
      obtain ⟨va, ea⟩ := look_keys ek2 er
      have tk : ws.take (i + 1) = ws.take i ++ [g] := by rw [List.take_add_one, eg]; rfl
      refine ⟨t, [.str g.1, .int g.2], rfl, SqT.of (kp _ _ (ne_of ht hm (by intro z; cases z)) ht), rfl, .str g.1, [.int g.2], rfl, .int g.2, [], rfl, rfl, ?_⟩
      have ln : (dI (addAll 1 am (ws.take i))).length < sizeLine := by
        unfold dI
        have := congrArg List.length (keys_addAll 1 (ws.take i) am)
        rw [List.length_map, List.length_map] at this
        rw [List.length_map, this]
        exact small1000 la
      refine ⟨_, rfl, x, cStock, dx, _, _, rfl, kp _ _ nxm hx, T.cl_Stock, T.n_Stock_amounts, rfl, _, rfl, m, _, rfl, dget_dI hm2 ea, _, rfl, _, _, rfl, rfl, _, DPut.k (k := Sum.inr g.1) hm2 ln, ?_⟩
      refine ⟨fun b u nb e => by rw [upd_ne nb]; exact kp b u nb e, ?_, _, _, rfl⟩
      rw [upd_same, put_dI (look_some ea), tk, addAll_snoc, ea, Option.getD_some]
      rw [Int.one_mul]
    · obtain ⟨kp, hm2, v2, v3, rfl⟩ := z
      rw [List.take_of_length_le (by omega)] at hm2
      exact q3 kn nb H2 kp ⟨⟨dx, kp _ _ nxm hx⟩, kp _ _ ne hr', hm2, ne⟩
def sp_put (C cU cT : Addr) : Sp := fun vs H Q E => ∃ x r m rs am n k, vs = [.ref x, .str n, .int k] ∧ StockM C H x r m rs am ∧ am.map (·.1) = rs.map (·.1) ∧ am.length ≤ 1000 ∧
  (∀ n', strange rs [(n, k)] = some n' → OutU cU n' H E) ∧ (∀ n', strange rs [(n, k)] = none → tooMuch rs am [(n, k)] = some n' → OutU cT n' H E) ∧
  (strange rs [(n, k)] = none → tooMuch rs am [(n, k)] = none → ∀ H', (∀ b u, b ≠ m → H b = some u → H' b = some u) → StockM C H' x r m rs (addAll 1 am [(n, k)]) → Q .non H')
theorem StockM.same {C : Addr} {H H' : Hp} {x r m : Addr} {rs am : List (Str × Int)} (h : StockM C H x r m rs am) (k : Same H H') : StockM C H' x r m rs am := let ⟨⟨dx, e1⟩, e2, e3, n⟩ := h; ⟨⟨dx, k _ _ e1⟩, k _ _ e2, k _ _ e3, n⟩
theorem sc_Stock_put : FnScope ["self", "name", "many"] ["self", "name", "many"] (defScope s_Stock_put) := ⟨rfl, rfl, rfl, by decide +kernel, rfl, by decide +kernel, by decide +kernel⟩
theorem ok_Stock_put {fa cState cReady cJammed cAway cStock cPrinter cBadLine cBusy cDry cGoesRound cNoHeap cNoPrinter cNotNow cNoWay cNowhere cOver cTooMuch cTwice cUnknown cHallError : Addr} {fd : FuncData} (F : Fun K "put" "Stock.put" s_Stock_put fa fd) (T : Txt K mg cState cReady cJammed cAway cStock cPrinter cBadLine cBusy cDry cGoesRound cNoHeap cNoPrinter cNotNow cNoWay cNowhere cOver cTooMuch cTwice cUnknown cHallError) (D_Stock_put_all : MtE P w K mg base 5 "put_all" cStock ["self", "gifts"] (sp_all cStock cUnknown cTooMuch 1 tooMuch)) :
    FnOk P w K mg base (CXe P w) 6 fa fd ["self", "name", "many"] (sp_put cStock cUnknown cTooMuch) := by
  refine F.okE sc_Stock_put (fun vs H Q E h => ?_) (fun cdv A outer s H vs Q E hr h => ?_)
  · obtain ⟨x, r, m, rs, am, n, k, rfl, _⟩ := h
    rfl
  obtain ⟨x, r, m, rs, am, n, k, rfl, S, ek, la, q1, q2, q3⟩ := h
  have z1 : 1 ≤ sizeLine := small (by decide)
  have z2 : 2 ≤ sizeLine := small (by decide)
  obtain ⟨⟨dx, hx⟩, hr', hm, ne⟩ := id S
  refine ⟨_, (pss_one (ps_expr (pe_methE 5 pass_def (hr.mono (by decide)) (pv 0) (pa_cons (pe_lst (pa_cons (pe_tup (pa_cons (pv 1) (pa_cons (pv 2) pa_nil))) pa_nil)) pa_nil)))), ?_⟩
  refine ⟨_, rfl, x, _, dx, _, _, _, rfl, hx, rfl, T.cl_Stock, D_Stock_put_all, _, rfl, _, rfl, z2, fun t nt => ⟨z1, fun p np => ?_⟩⟩
  have s1 := (same_new nt (.tup [.str n, .int k])).trans (same_new np (.lst [.ref t]))
  have ht := same_new np (.lst [.ref t]) _ _ (upd_same (H := H) (a := t) (o := .tup [.str n, .int k]))
  have hp := upd_same (H := upd H t (.tup [.str n, .int k])) (a := p) (o := .lst [.ref t])
  have npm : p ≠ m := fun e => by
    have := same_new nt (.tup [.str n, .int k]) _ _ hm
    rw [← e, np] at this
    cases this
  refine ⟨x, r, m, p, rs, am, [(n, k)], rfl, S.same s1, ek, la, npm, ⟨[.ref t], hp, rfl, fun i y g e1 e2 => ?_⟩, fun n' h ea H' sm gx => q1 n' h ea H' (s1.trans sm) gx, fun n' h h2 ea H' sm gx => q2 n' h h2 ea H' (s1.trans sm) gx, fun h1 h2 H' kp S' => q3 h1 h2 H' (fun b u nb e => kp b u nb (s1 _ _ e)) S'⟩
  match i, e1, e2 with
  | 0, e1, e2 =>
    obtain rfl : V.ref t = y := Option.some.inj e1
    obtain rfl : (n, k) = g := Option.some.inj e2
    exact ⟨t, rfl, ht⟩

end
end My

namespace My
open PySem L2
open Blk (sg sg_inj sg_app)
section
variable {P : Program} {w : World} {K : PySem.W.Frag} {mg : Str → Option Value} {base : Heap}
theorem sc_NotNow_init : FnScope ["self", "found"] ["self", "found"] (defScope s_NotNow_init) := ⟨rfl, rfl, rfl, by decide +kernel, rfl, by decide +kernel, by decide +kernel⟩
theorem ok_NotNow_init {fa cState cReady cJammed cAway cStock cPrinter cBadLine cBusy cDry cGoesRound cNoHeap cNoPrinter cNotNow cNoWay cNowhere cOver cTooMuch cTwice cUnknown cHallError : Addr} {fd : FuncData} (F : Fun K "__init__" "NotNow.__init__" s_NotNow_init fa fd) (T : Txt K mg cState cReady cJammed cAway cStock cPrinter cBadLine cBusy cDry cGoesRound cNoHeap cNoPrinter cNotNow cNoWay cNowhere cOver cTooMuch cTwice cUnknown cHallError)  :
    FnOk P w K mg base CX0 1 fa fd ["self", "found"] (sp_one cNotNow "found") := by
  refine F.ok sc_NotNow_init (fun vs H Q E h => ?_) (fun cdv A outer s H vs Q E hr h => ?_)
  · obtain ⟨x, y, rfl, _⟩ := h
    rfl
  obtain ⟨x, y, rfl, hx, q⟩ := h
  refine ⟨_, (pss_cons (ps_expr (pe_initX T.in_HallError rfl T.mg_HallError (pa_cons (pv 0) (pa_cons (pv 1) pa_nil))))
  (pss_one (ps_fldX (pv 0) (pv 1) rfl))), ?_⟩
  refine ⟨_, rfl, _, rfl, x, _, none, [y], rfl, (by simp), hx, T.x_NotNow.m, ?_⟩
  refine ⟨_, rfl, _, rfl, .inl ⟨x, _, rfl, hx, T.x_NotNow.i.c, T.x_NotNow.n _ (.head _), fun dx nd ne => ?_⟩⟩
  exact q _ (kept_set nd) (xf_set ne)

/-! ### a printer's states -/
inductive S3 where
  | rd | jm | aw (b : Bool)
  deriving DecidableEq
def wd : S3 → Str
  | .rd => Str.ofString "ready"
  | .jm => Str.ofString "jammed"
  | .aw _ => Str.ofString "off"
def fsOf : S3 → List (Str × V)
  | .rd => [("word", .str (Str.ofString "ready"))]
  | .jm => [("word", .str (Str.ofString "jammed"))]
  | .aw b => [("word", .str (Str.ofString "off")), ("jammed", .bl b)]
def clOf (cR cJ cA : Addr) : S3 → Addr
  | .rd => cR
  | .jm => cJ
  | .aw _ => cA
def nextS : Nat → S3 → Option S3
  | 0, .rd => some .jm
  | 1, .jm => some .rd
  | 2, .rd => some (.aw false)
  | 2, .jm => some (.aw true)
  | 3, .aw b => some (if b = true then .jm else .rd)
  | _, _ => none
def StAt (cR cJ cA : Addr) (H : Hp) (a : Addr) (s : S3) : Prop := ∃ dx, H a = some (.ins (clOf cR cJ cA s) dx (fsOf s))
theorem StAt.same {cR cJ cA : Addr} {H H' : Hp} {a : Addr} {s : S3} (h : StAt cR cJ cA H a s) (k : Same H H') : StAt cR cJ cA H' a s := let ⟨dx, e⟩ := h; ⟨dx, k _ _ e⟩
theorem made_same {H : Hp} {x dx : Addr} {o o1 o2 : HO} (nx : H x = none) (nd : H dx = none) : Same H (upd (upd (upd H dx o) x o1) x o2) := by
  rw [upd_upd]
  exact same_on nx (same_new nd _) _
def OutS (cR cJ cA cN : Addr) (d : Nat) (s : S3) (H : Hp) (Q : VK) (E : XK) : Prop := (∀ s', nextS d s = some s' → ∀ p H', Same H H' → H p = none → StAt cR cJ cA H' p s' → Q (.ref p) H') ∧
  (nextS d s = none → ∀ ea H', Same H H' → XG H' ea cN [("found", .str (wd s))] → E (.ref cN) (some ea) H')
def sp_st (cR cJ cA cN : Addr) (S : S3 → Prop) (d : Nat) : Sp := fun vs H Q E => ∃ a s, vs = [.ref a] ∧ S s ∧ StAt cR cJ cA H a s ∧ OutS cR cJ cA cN d s H Q E
def sp_called (cR cJ cA : Addr) : Sp := fun vs H Q _ => ∃ a s, vs = [.ref a] ∧ StAt cR cJ cA H a s ∧ Q (.str (wd s)) H
def sp_State_init (K : PySem.W.Frag) : Sp := fun vs H Q _ => ∃ x dx C y, vs = [.ref x, y] ∧ H x = some (.ins C dx []) ∧ Cls K C ∧ NoAttr K C "word" ∧ Q .non (upd H x (.ins C dx [("word", y)]))
def sp_init0 (C : Addr) (fs : List (Str × V)) : Sp := fun vs H Q _ => ∃ x dx, vs = [.ref x] ∧ H x = some (.ins C dx []) ∧ Q .non (upd H x (.ins C dx fs))
def sp_Away_init (C : Addr) : Sp := fun vs H Q _ => ∃ x dx b, vs = [.ref x, .bl b] ∧ H x = some (.ins C dx []) ∧ Q .non (upd H x (.ins C dx (fsOf (.aw b))))
theorem sc_State_init : FnScope ["self", "word"] ["self", "word"] (defScope s_State_init) := ⟨rfl, rfl, rfl, by decide +kernel, rfl, by decide +kernel, by decide +kernel⟩
theorem ok_State_init {fa cState cReady cJammed cAway cStock cPrinter cBadLine cBusy cDry cGoesRound cNoHeap cNoPrinter cNotNow cNoWay cNowhere cOver cTooMuch cTwice cUnknown cHallError : Addr} {fd : FuncData} (F : Fun K "__init__" "State.__init__" s_State_init fa fd) (T : Txt K mg cState cReady cJammed cAway cStock cPrinter cBadLine cBusy cDry cGoesRound cNoHeap cNoPrinter cNotNow cNoWay cNowhere cOver cTooMuch cTwice cUnknown cHallError)  :
    FnOk P w K mg base CX0 1 fa fd ["self", "word"] (sp_State_init K) := by
  refine F.ok sc_State_init (fun vs H Q E h => ?_) (fun cdv A outer s H vs Q E hr h => ?_)
  · obtain ⟨x, dx, C, y, rfl, _⟩ := h
    rfl
  obtain ⟨x, dx, C, y, rfl, hx, cl, n, q⟩ := h
  refine ⟨_, (pss_one (ps_fld (pv 0) (pv 1) rfl)), ?_⟩
  exact ⟨_, rfl, _, rfl, x, C, dx, _, rfl, hx, cl, n, (by decide), q⟩
theorem sc_State_called : FnScope ["self"] ["self"] (defScope s_State_called) := ⟨rfl, rfl, rfl, by decide +kernel, rfl, by decide +kernel, by decide +kernel⟩
theorem ok_State_called {fa cState cReady cJammed cAway cStock cPrinter cBadLine cBusy cDry cGoesRound cNoHeap cNoPrinter cNotNow cNoWay cNowhere cOver cTooMuch cTwice cUnknown cHallError : Addr} {fd : FuncData} (F : Fun K "called" "State.called" s_State_called fa fd) (T : Txt K mg cState cReady cJammed cAway cStock cPrinter cBadLine cBusy cDry cGoesRound cNoHeap cNoPrinter cNotNow cNoWay cNowhere cOver cTooMuch cTwice cUnknown cHallError)  :
    FnOk P w K mg base CX0 1 fa fd ["self"] (sp_called cReady cJammed cAway) := by
  refine F.ok sc_State_called (fun vs H Q E h => ?_) (fun cdv A outer s H vs Q E hr h => ?_)
  · obtain ⟨a, s, rfl, _⟩ := h
    rfl
  obtain ⟨a, s, rfl, ⟨dx, hx⟩, q⟩ := h
  refine ⟨_, (pss_one (ps_ret (pe_fld (pv 0) rfl))), ?_⟩
  cases s with
  | rd => exact ⟨_, rfl, a, _, dx, _, _, rfl, hx, T.cl_Ready, T.n_Ready_word, rfl, q⟩
  | jm => exact ⟨_, rfl, a, _, dx, _, _, rfl, hx, T.cl_Jammed, T.n_Jammed_word, rfl, q⟩
  | aw b => exact ⟨_, rfl, a, _, dx, _, _, rfl, hx, T.cl_Away, T.n_Away_word, rfl, q⟩
theorem sc_State_jam : FnScope ["self"] ["self"] (defScope s_State_jam) := ⟨rfl, rfl, rfl, by decide +kernel, rfl, by decide +kernel, by decide +kernel⟩
theorem ok_State_jam {fa cState cReady cJammed cAway cStock cPrinter cBadLine cBusy cDry cGoesRound cNoHeap cNoPrinter cNotNow cNoWay cNowhere cOver cTooMuch cTwice cUnknown cHallError : Addr} {fd : FuncData} (F : Fun K "jam" "State.jam" s_State_jam fa fd) (T : Txt K mg cState cReady cJammed cAway cStock cPrinter cBadLine cBusy cDry cGoesRound cNoHeap cNoPrinter cNotNow cNoWay cNowhere cOver cTooMuch cTwice cUnknown cHallError) (X_NotNow : MkXD P w K mg base 1 "NotNow" cNotNow ["self", "found"] (sp_one cNotNow "found")) :
    FnOk P w K mg base (CXe P w) 3 fa fd ["self"] (sp_st cReady cJammed cAway cNotNow (fun s => nextS 0 s = none) 0) := by
  refine F.okE sc_State_jam (fun vs H Q E h => ?_) (fun cdv A outer s H vs Q E hr h => ?_)
  · obtain ⟨a, s, rfl, _⟩ := h
    rfl
  obtain ⟨a, s, rfl, hs, ⟨dx, hx⟩, _, q⟩ := h
  refine ⟨_, (pss_one (ps_raise raise_def rfl (pe_makeXD X_NotNow (hr.mono (by decide)) rfl (pa_cons (pe_fld (pv 0) rfl) pa_nil)))), ?_⟩
  cases s with
  | rd => cases hs
  | jm => exact ⟨_, rfl, a, _, dx, _, _, rfl, hx, T.cl_Jammed, T.n_Jammed_word, rfl, raise_one T.x_NotNow.m fun ea H' sm _ g => q hs ea H' sm g⟩
  | aw b => exact ⟨_, rfl, a, _, dx, _, _, rfl, hx, T.cl_Away, T.n_Away_word, rfl, raise_one T.x_NotNow.m fun ea H' sm _ g => q hs ea H' sm g⟩
theorem sc_State_mend : FnScope ["self"] ["self"] (defScope s_State_mend) := ⟨rfl, rfl, rfl, by decide +kernel, rfl, by decide +kernel, by decide +kernel⟩
theorem ok_State_mend {fa cState cReady cJammed cAway cStock cPrinter cBadLine cBusy cDry cGoesRound cNoHeap cNoPrinter cNotNow cNoWay cNowhere cOver cTooMuch cTwice cUnknown cHallError : Addr} {fd : FuncData} (F : Fun K "mend" "State.mend" s_State_mend fa fd) (T : Txt K mg cState cReady cJammed cAway cStock cPrinter cBadLine cBusy cDry cGoesRound cNoHeap cNoPrinter cNotNow cNoWay cNowhere cOver cTooMuch cTwice cUnknown cHallError) (X_NotNow : MkXD P w K mg base 1 "NotNow" cNotNow ["self", "found"] (sp_one cNotNow "found")) :
    FnOk P w K mg base (CXe P w) 3 fa fd ["self"] (sp_st cReady cJammed cAway cNotNow (fun s => nextS 1 s = none) 1) := by
  refine F.okE sc_State_mend (fun vs H Q E h => ?_) (fun cdv A outer s H vs Q E hr h => ?_)
  · obtain ⟨a, s, rfl, _⟩ := h
    rfl
  obtain ⟨a, s, rfl, hs, ⟨dx, hx⟩, _, q⟩ := h
  refine ⟨_, (pss_one (ps_raise raise_def rfl (pe_makeXD X_NotNow (hr.mono (by decide)) rfl (pa_cons (pe_fld (pv 0) rfl) pa_nil)))), ?_⟩
  cases s with
  | jm => cases hs
  | rd => exact ⟨_, rfl, a, _, dx, _, _, rfl, hx, T.cl_Ready, T.n_Ready_word, rfl, raise_one T.x_NotNow.m fun ea H' sm _ g => q hs ea H' sm g⟩
  | aw b => exact ⟨_, rfl, a, _, dx, _, _, rfl, hx, T.cl_Away, T.n_Away_word, rfl, raise_one T.x_NotNow.m fun ea H' sm _ g => q hs ea H' sm g⟩
theorem sc_State_leave : FnScope ["self"] ["self"] (defScope s_State_leave) := ⟨rfl, rfl, rfl, by decide +kernel, rfl, by decide +kernel, by decide +kernel⟩
theorem ok_State_leave {fa cState cReady cJammed cAway cStock cPrinter cBadLine cBusy cDry cGoesRound cNoHeap cNoPrinter cNotNow cNoWay cNowhere cOver cTooMuch cTwice cUnknown cHallError : Addr} {fd : FuncData} (F : Fun K "leave" "State.leave" s_State_leave fa fd) (T : Txt K mg cState cReady cJammed cAway cStock cPrinter cBadLine cBusy cDry cGoesRound cNoHeap cNoPrinter cNotNow cNoWay cNowhere cOver cTooMuch cTwice cUnknown cHallError) (X_NotNow : MkXD P w K mg base 1 "NotNow" cNotNow ["self", "found"] (sp_one cNotNow "found")) :
    FnOk P w K mg base (CXe P w) 3 fa fd ["self"] (sp_st cReady cJammed cAway cNotNow (fun s => nextS 2 s = none) 2) := by
  refine F.okE sc_State_leave (fun vs H Q E h => ?_) (fun cdv A outer s H vs Q E hr h => ?_)
  · obtain ⟨a, s, rfl, _⟩ := h
    rfl
  obtain ⟨a, s, rfl, hs, ⟨dx, hx⟩, _, q⟩ := h
  refine ⟨_, (pss_one (ps_raise raise_def rfl (pe_makeXD X_NotNow (hr.mono (by decide)) rfl (pa_cons (pe_fld (pv 0) rfl) pa_nil)))), ?_⟩
  cases s with
  | jm => cases hs
  | rd => cases hs
  | aw b => exact ⟨_, rfl, a, _, dx, _, _, rfl, hx, T.cl_Away, T.n_Away_word, rfl, raise_one T.x_NotNow.m fun ea H' sm _ g => q hs ea H' sm g⟩
theorem sc_State_come : FnScope ["self"] ["self"] (defScope s_State_come) := ⟨rfl, rfl, rfl, by decide +kernel, rfl, by decide +kernel, by decide +kernel⟩
theorem ok_State_come {fa cState cReady cJammed cAway cStock cPrinter cBadLine cBusy cDry cGoesRound cNoHeap cNoPrinter cNotNow cNoWay cNowhere cOver cTooMuch cTwice cUnknown cHallError : Addr} {fd : FuncData} (F : Fun K "come" "State.come" s_State_come fa fd) (T : Txt K mg cState cReady cJammed cAway cStock cPrinter cBadLine cBusy cDry cGoesRound cNoHeap cNoPrinter cNotNow cNoWay cNowhere cOver cTooMuch cTwice cUnknown cHallError) (X_NotNow : MkXD P w K mg base 1 "NotNow" cNotNow ["self", "found"] (sp_one cNotNow "found")) :
    FnOk P w K mg base (CXe P w) 3 fa fd ["self"] (sp_st cReady cJammed cAway cNotNow (fun s => nextS 3 s = none) 3) := by
  refine F.okE sc_State_come (fun vs H Q E h => ?_) (fun cdv A outer s H vs Q E hr h => ?_)
  · obtain ⟨a, s, rfl, _⟩ := h
    rfl
  obtain ⟨a, s, rfl, hs, ⟨dx, hx⟩, _, q⟩ := h
  refine ⟨_, (pss_one (ps_raise raise_def rfl (pe_makeXD X_NotNow (hr.mono (by decide)) rfl (pa_cons (pe_fld (pv 0) rfl) pa_nil)))), ?_⟩
  cases s with
  | rd => exact ⟨_, rfl, a, _, dx, _, _, rfl, hx, T.cl_Ready, T.n_Ready_word, rfl, raise_one T.x_NotNow.m fun ea H' sm _ g => q hs ea H' sm g⟩
  | jm => exact ⟨_, rfl, a, _, dx, _, _, rfl, hx, T.cl_Jammed, T.n_Jammed_word, rfl, raise_one T.x_NotNow.m fun ea H' sm _ g => q hs ea H' sm g⟩
  | aw b => cases hs
theorem sc_Ready_init : FnScope ["self"] ["self"] (defScope s_Ready_init) := ⟨rfl, rfl, rfl, by decide +kernel, rfl, by decide +kernel, by decide +kernel⟩
theorem ok_Ready_init {fa cState cReady cJammed cAway cStock cPrinter cBadLine cBusy cDry cGoesRound cNoHeap cNoPrinter cNotNow cNoWay cNowhere cOver cTooMuch cTwice cUnknown cHallError : Addr} {fd : FuncData} (F : Fun K "__init__" "Ready.__init__" s_Ready_init fa fd) (T : Txt K mg cState cReady cJammed cAway cStock cPrinter cBadLine cBusy cDry cGoesRound cNoHeap cNoPrinter cNotNow cNoWay cNowhere cOver cTooMuch cTwice cUnknown cHallError) (I_State : InD P w K mg base 1 "State" cState ["self", "word"] (sp_State_init K)) :
    FnOk P w K mg base CX0 2 fa fd ["self"] (sp_init0 cReady (fsOf .rd)) := by
  refine F.ok sc_Ready_init (fun vs H Q E h => ?_) (fun cdv A outer s H vs Q E hr h => ?_)
  · obtain ⟨x, dx, rfl, _⟩ := h
    rfl
  obtain ⟨x, dx, rfl, hx, q⟩ := h
  refine ⟨_, (pss_one (ps_expr (pe_initD I_State (hr.mono (by decide)) rfl (pa_cons (pv 0) (pa_cons (pe_gs T.READY rfl) pa_nil))))), ?_⟩
  exact ⟨_, rfl, x, dx, _, _, rfl, hx, T.cl_Ready, T.n_Ready_word, q⟩
theorem sc_Jammed_init : FnScope ["self"] ["self"] (defScope s_Jammed_init) := ⟨rfl, rfl, rfl, by decide +kernel, rfl, by decide +kernel, by decide +kernel⟩
theorem ok_Jammed_init {fa cState cReady cJammed cAway cStock cPrinter cBadLine cBusy cDry cGoesRound cNoHeap cNoPrinter cNotNow cNoWay cNowhere cOver cTooMuch cTwice cUnknown cHallError : Addr} {fd : FuncData} (F : Fun K "__init__" "Jammed.__init__" s_Jammed_init fa fd) (T : Txt K mg cState cReady cJammed cAway cStock cPrinter cBadLine cBusy cDry cGoesRound cNoHeap cNoPrinter cNotNow cNoWay cNowhere cOver cTooMuch cTwice cUnknown cHallError) (I_State : InD P w K mg base 1 "State" cState ["self", "word"] (sp_State_init K)) :
    FnOk P w K mg base CX0 2 fa fd ["self"] (sp_init0 cJammed (fsOf .jm)) := by
  refine F.ok sc_Jammed_init (fun vs H Q E h => ?_) (fun cdv A outer s H vs Q E hr h => ?_)
  · obtain ⟨x, dx, rfl, _⟩ := h
    rfl
  obtain ⟨x, dx, rfl, hx, q⟩ := h
  refine ⟨_, (pss_one (ps_expr (pe_initD I_State (hr.mono (by decide)) rfl (pa_cons (pv 0) (pa_cons (pe_gs T.JAMMED rfl) pa_nil))))), ?_⟩
  exact ⟨_, rfl, x, dx, _, _, rfl, hx, T.cl_Jammed, T.n_Jammed_word, q⟩
theorem sc_Away_init : FnScope ["self", "jammed"] ["self", "jammed"] (defScope s_Away_init) := ⟨rfl, rfl, rfl, by decide +kernel, rfl, by decide +kernel, by decide +kernel⟩
theorem ok_Away_init {fa cState cReady cJammed cAway cStock cPrinter cBadLine cBusy cDry cGoesRound cNoHeap cNoPrinter cNotNow cNoWay cNowhere cOver cTooMuch cTwice cUnknown cHallError : Addr} {fd : FuncData} (F : Fun K "__init__" "Away.__init__" s_Away_init fa fd) (T : Txt K mg cState cReady cJammed cAway cStock cPrinter cBadLine cBusy cDry cGoesRound cNoHeap cNoPrinter cNotNow cNoWay cNowhere cOver cTooMuch cTwice cUnknown cHallError) (I_State : InD P w K mg base 1 "State" cState ["self", "word"] (sp_State_init K)) :
    FnOk P w K mg base CX0 2 fa fd ["self", "jammed"] (sp_Away_init cAway) := by
  refine F.ok sc_Away_init (fun vs H Q E h => ?_) (fun cdv A outer s H vs Q E hr h => ?_)
  · obtain ⟨x, dx, b, rfl, _⟩ := h
    rfl
  obtain ⟨x, dx, b, rfl, hx, q⟩ := h
  refine ⟨_, (pss_cons (ps_expr (pe_initD I_State (hr.mono (by decide)) rfl (pa_cons (pv 0) (pa_cons (pe_gs T.OFF rfl) pa_nil))))
  (pss_one (ps_fld (pv 0) (pv 1) rfl))), ?_⟩
  refine ⟨_, rfl, x, dx, _, _, rfl, hx, T.cl_Away, T.n_Away_word, ?_⟩
  refine ⟨_, rfl, _, rfl, x, _, dx, _, rfl, upd_same, T.cl_Away, T.n_Away_jammed, (by decide), ?_⟩
  rw [upd_upd]
  exact q
theorem sc_Ready_jam : FnScope ["self"] ["self"] (defScope s_Ready_jam) := ⟨rfl, rfl, rfl, by decide +kernel, rfl, by decide +kernel, by decide +kernel⟩
theorem ok_Ready_jam {fa cState cReady cJammed cAway cStock cPrinter cBadLine cBusy cDry cGoesRound cNoHeap cNoPrinter cNotNow cNoWay cNowhere cOver cTooMuch cTwice cUnknown cHallError : Addr} {fd : FuncData} (F : Fun K "jam" "Ready.jam" s_Ready_jam fa fd) (T : Txt K mg cState cReady cJammed cAway cStock cPrinter cBadLine cBusy cDry cGoesRound cNoHeap cNoPrinter cNotNow cNoWay cNowhere cOver cTooMuch cTwice cUnknown cHallError) (M_Jammed : MkD P w K mg base 2 "Jammed" cJammed ["self"] (sp_init0 cJammed (fsOf .jm))) :
    FnOk P w K mg base CX0 4 fa fd ["self"] (sp_st cReady cJammed cAway cNotNow (fun s => s = .rd) 0) := by
  refine F.ok sc_Ready_jam (fun vs H Q E h => ?_) (fun cdv A outer s H vs Q E hr h => ?_)
  · obtain ⟨a, s, rfl, _⟩ := h
    rfl
  obtain ⟨a, s, rfl, rfl, _, q, _⟩ := h
  refine ⟨_, (pss_one (ps_ret (pe_makeD0 M_Jammed (hr.mono (by decide)) rfl))), ?_⟩
  exact fun x dx nx nd ne => ⟨x, dx, rfl, upd_same, rfl, q _ rfl x _ (made_same nx nd) nx ⟨dx, upd_same⟩⟩
theorem sc_Ready_leave : FnScope ["self"] ["self"] (defScope s_Ready_leave) := ⟨rfl, rfl, rfl, by decide +kernel, rfl, by decide +kernel, by decide +kernel⟩
theorem ok_Ready_leave {fa cState cReady cJammed cAway cStock cPrinter cBadLine cBusy cDry cGoesRound cNoHeap cNoPrinter cNotNow cNoWay cNowhere cOver cTooMuch cTwice cUnknown cHallError : Addr} {fd : FuncData} (F : Fun K "leave" "Ready.leave" s_Ready_leave fa fd) (T : Txt K mg cState cReady cJammed cAway cStock cPrinter cBadLine cBusy cDry cGoesRound cNoHeap cNoPrinter cNotNow cNoWay cNowhere cOver cTooMuch cTwice cUnknown cHallError) (M_Away : MkD P w K mg base 2 "Away" cAway ["self", "jammed"] (sp_Away_init cAway)) :
    FnOk P w K mg base CX0 4 fa fd ["self"] (sp_st cReady cJammed cAway cNotNow (fun s => s = .rd) 2) := by
  refine F.ok sc_Ready_leave (fun vs H Q E h => ?_) (fun cdv A outer s H vs Q E hr h => ?_)
  · obtain ⟨a, s, rfl, _⟩ := h
    rfl
  obtain ⟨a, s, rfl, rfl, _, q, _⟩ := h
  refine ⟨_, (pss_one (ps_ret (pe_makeD M_Away (hr.mono (by decide)) rfl (pa_cons pe_bl pa_nil)))), ?_⟩
  exact fun x dx nx nd ne => ⟨x, dx, _, rfl, upd_same, rfl, q _ rfl x _ (made_same nx nd) nx ⟨dx, upd_same⟩⟩
theorem sc_Jammed_mend : FnScope ["self"] ["self"] (defScope s_Jammed_mend) := ⟨rfl, rfl, rfl, by decide +kernel, rfl, by decide +kernel, by decide +kernel⟩
theorem ok_Jammed_mend {fa cState cReady cJammed cAway cStock cPrinter cBadLine cBusy cDry cGoesRound cNoHeap cNoPrinter cNotNow cNoWay cNowhere cOver cTooMuch cTwice cUnknown cHallError : Addr} {fd : FuncData} (F : Fun K "mend" "Jammed.mend" s_Jammed_mend fa fd) (T : Txt K mg cState cReady cJammed cAway cStock cPrinter cBadLine cBusy cDry cGoesRound cNoHeap cNoPrinter cNotNow cNoWay cNowhere cOver cTooMuch cTwice cUnknown cHallError) (M_Ready : MkD P w K mg base 2 "Ready" cReady ["self"] (sp_init0 cReady (fsOf .rd))) :
    FnOk P w K mg base CX0 4 fa fd ["self"] (sp_st cReady cJammed cAway cNotNow (fun s => s = .jm) 1) := by
  refine F.ok sc_Jammed_mend (fun vs H Q E h => ?_) (fun cdv A outer s H vs Q E hr h => ?_)
  · obtain ⟨a, s, rfl, _⟩ := h
    rfl
  obtain ⟨a, s, rfl, rfl, _, q, _⟩ := h
  refine ⟨_, (pss_one (ps_ret (pe_makeD0 M_Ready (hr.mono (by decide)) rfl))), ?_⟩
  exact fun x dx nx nd ne => ⟨x, dx, rfl, upd_same, rfl, q _ rfl x _ (made_same nx nd) nx ⟨dx, upd_same⟩⟩
theorem sc_Jammed_leave : FnScope ["self"] ["self"] (defScope s_Jammed_leave) := ⟨rfl, rfl, rfl, by decide +kernel, rfl, by decide +kernel, by decide +kernel⟩
theorem ok_Jammed_leave {fa cState cReady cJammed cAway cStock cPrinter cBadLine cBusy cDry cGoesRound cNoHeap cNoPrinter cNotNow cNoWay cNowhere cOver cTooMuch cTwice cUnknown cHallError : Addr} {fd : FuncData} (F : Fun K "leave" "Jammed.leave" s_Jammed_leave fa fd) (T : Txt K mg cState cReady cJammed cAway cStock cPrinter cBadLine cBusy cDry cGoesRound cNoHeap cNoPrinter cNotNow cNoWay cNowhere cOver cTooMuch cTwice cUnknown cHallError) (M_Away : MkD P w K mg base 2 "Away" cAway ["self", "jammed"] (sp_Away_init cAway)) :
    FnOk P w K mg base CX0 4 fa fd ["self"] (sp_st cReady cJammed cAway cNotNow (fun s => s = .jm) 2) := by
  refine F.ok sc_Jammed_leave (fun vs H Q E h => ?_) (fun cdv A outer s H vs Q E hr h => ?_)
  · obtain ⟨a, s, rfl, _⟩ := h
    rfl
  obtain ⟨a, s, rfl, rfl, _, q, _⟩ := h
  refine ⟨_, (pss_one (ps_ret (pe_makeD M_Away (hr.mono (by decide)) rfl (pa_cons pe_bl pa_nil)))), ?_⟩
  exact fun x dx nx nd ne => ⟨x, dx, _, rfl, upd_same, rfl, q _ rfl x _ (made_same nx nd) nx ⟨dx, upd_same⟩⟩
theorem sc_Away_come : FnScope ["self"] ["self"] (defScope s_Away_come) := ⟨rfl, rfl, rfl, by decide +kernel, rfl, by decide +kernel, by decide +kernel⟩
theorem ok_Away_come {fa cState cReady cJammed cAway cStock cPrinter cBadLine cBusy cDry cGoesRound cNoHeap cNoPrinter cNotNow cNoWay cNowhere cOver cTooMuch cTwice cUnknown cHallError : Addr} {fd : FuncData} (F : Fun K "come" "Away.come" s_Away_come fa fd) (T : Txt K mg cState cReady cJammed cAway cStock cPrinter cBadLine cBusy cDry cGoesRound cNoHeap cNoPrinter cNotNow cNoWay cNowhere cOver cTooMuch cTwice cUnknown cHallError) (M_Jammed : MkD P w K mg base 2 "Jammed" cJammed ["self"] (sp_init0 cJammed (fsOf .jm))) (M_Ready : MkD P w K mg base 2 "Ready" cReady ["self"] (sp_init0 cReady (fsOf .rd))) :
    FnOk P w K mg base CX0 4 fa fd ["self"] (sp_st cReady cJammed cAway cNotNow (fun s => ∃ b, s = .aw b) 3) := by
  refine F.ok sc_Away_come (fun vs H Q E h => ?_) (fun cdv A outer s H vs Q E hr h => ?_)
  · obtain ⟨a, s, rfl, _⟩ := h
    rfl
  obtain ⟨a, s, rfl, ⟨b, rfl⟩, ⟨dx, hx⟩, q, _⟩ := h
  refine ⟨_, (pss_one (ps_ret (pe_ifExp (pt_truth (pe_fld (pv 0) rfl) (fun _ => rfl)) (pe_makeD0 M_Jammed (hr.mono (by decide)) rfl) (pe_makeD0 M_Ready (hr.mono (by decide)) rfl)))), ?_⟩
  refine ⟨_, rfl, a, _, dx, _, _, rfl, hx, T.cl_Away, T.n_Away_jammed, rfl, b, rfl, ?_⟩
  cases b with
  | true => exact iteT fun x dx nx nd ne => ⟨x, dx, rfl, upd_same, rfl, q _ rfl x _ (made_same nx nd) nx ⟨dx, upd_same⟩⟩
  | false => exact iteF fun x dx nx nd ne => ⟨x, dx, rfl, upd_same, rfl, q _ rfl x _ (made_same nx nd) nx ⟨dx, upd_same⟩⟩

end
end My

namespace My
open PySem L2
open Blk (sg sg_inj sg_app)
section
variable {P : Program} {w : World} {K : PySem.W.Frag} {mg : Str → Option Value} {base : Heap}
/-! ### printers -/
abbrev blW : Str := Str.ofString "black"
abbrev coW : Str := Str.ofString "colour"
theorem blco : blW ≠ coW := by decide +kernel
def inkL (b c : Int) : List (Str × Int) := [(blW, b), (coW, c)]
structure PD where
  dx : Addr
  cn : Addr
  rm : Addr
  tr : Addr
  tr1 : Addr
  tr2 : Addr
  ik : Addr
  ik1 : Addr
  ik2 : Addr
  st : Addr
  ins : Addr
  name : Str
  path : Int
  rs : List (Str × Int)
  am : List (Str × Int)
  rb : Int
  rc : Int
  b : Int
  c : Int
  tags : List V
  S : S3
def PD.fs (d : PD) : List (Str × V) := [("name", .str d.name), ("can", .ref d.cn), ("path", .int d.path), ("rooms", .ref d.rm), ("trays", .ref d.tr), ("inks", .ref d.ik), ("state", .ref d.st), ("inside", .ref d.ins)]
structure PrAt (cP cS cR cJ cA : Addr) (H : Hp) (x : Addr) (d : PD) : Prop where
  o : H x = some (.ins cP d.dx d.fs)
  T : StockM cS H d.tr d.tr1 d.tr2 d.rs d.am
  I : StockM cS H d.ik d.ik1 d.ik2 (inkL d.rb d.rc) (inkL d.b d.c)
  s : StAt cR cJ cA H d.st d.S
  n : H d.ins = some (.lst d.tags)
  ka : d.am.map (·.1) = d.rs.map (·.1)
  la : d.am.length ≤ 900
  lt : d.tags.length ≤ 900
  n22 : d.tr2 ≠ d.ik2
  n21 : d.tr2 ≠ d.ik1
  n12 : d.tr1 ≠ d.ik2
theorem PrAt.same {cP cS cR cJ cA : Addr} {H H' : Hp} {x : Addr} {d : PD} (h : PrAt cP cS cR cJ cA H x d) (k : Same H H') : PrAt cP cS cR cJ cA H' x d :=
  { h with o := k _ _ h.o, T := h.T.same k, I := h.I.same k, s := h.s.same k, n := k _ _ h.n }
def Ref1 (c : Addr) (f : Str) (v : V) (H : Hp) (E : XK) : Prop := ∀ ea H', Same H H' → XG H' ea c [(f, v)] → E (.ref c) (some ea) H'
theorem Ref1.after {c : Addr} {f : Str} {v : V} {H H' : Hp} {E : XK} (h : Ref1 c f v H E) (k : Same H H') : Ref1 c f v H' E := fun ea H2 s g => h ea H2 (k.trans s) g
def sp_Pr_stands (cP cS cR cJ cA : Addr) : Sp := fun vs H Q _ => ∃ x d, vs = [.ref x] ∧ PrAt cP cS cR cJ cA H x d ∧ Q (.str (wd d.S)) H
theorem sc_Printer_stands : FnScope ["self"] ["self"] (defScope s_Printer_stands) := ⟨rfl, rfl, rfl, by decide +kernel, rfl, by decide +kernel, by decide +kernel⟩
theorem ok_Printer_stands {fa cState cReady cJammed cAway cStock cPrinter cBadLine cBusy cDry cGoesRound cNoHeap cNoPrinter cNotNow cNoWay cNowhere cOver cTooMuch cTwice cUnknown cHallError : Addr} {fd : FuncData} (F : Fun K "stands" "Printer.stands" s_Printer_stands fa fd) (T : Txt K mg cState cReady cJammed cAway cStock cPrinter cBadLine cBusy cDry cGoesRound cNoHeap cNoPrinter cNotNow cNoWay cNowhere cOver cTooMuch cTwice cUnknown cHallError) (D_Ready_called : MtE P w K mg base 1 "called" cReady ["self"] (sp_called cReady cJammed cAway)) (D_Jammed_called : MtE P w K mg base 1 "called" cJammed ["self"] (sp_called cReady cJammed cAway)) (D_Away_called : MtE P w K mg base 1 "called" cAway ["self"] (sp_called cReady cJammed cAway)) :
    FnOk P w K mg base CX0 2 fa fd ["self"] (sp_Pr_stands cPrinter cStock cReady cJammed cAway) := by
  refine F.ok sc_Printer_stands (fun vs H Q E h => ?_) (fun cdv A outer s H vs Q E hr h => ?_)
  · obtain ⟨x, d, rfl, _⟩ := h
    rfl
  obtain ⟨x, d, rfl, P, q⟩ := h
  refine ⟨_, (pss_one (ps_ret (pe_methE0 1 passE0 (hr.mono (by decide)) (pe_fld (pv 0) rfl)))), ?_⟩
  refine ⟨_, rfl, x, cPrinter, d.dx, _, _, rfl, P.o, T.cl_Printer, T.n_Printer_state, rfl, ?_⟩
  obtain ⟨ds, hs⟩ := id P.s
  have hs' := P.s
  cases eS : d.S with
  | rd =>
    rw [eS] at hs hs' q
    exact ⟨d.st, _, ds, _, _, _, rfl, hs, rfl, T.cl_Ready, D_Ready_called, d.st, .rd, rfl, hs', q⟩
  | jm =>
    rw [eS] at hs hs' q
    exact ⟨d.st, _, ds, _, _, _, rfl, hs, rfl, T.cl_Jammed, D_Jammed_called, d.st, .jm, rfl, hs', q⟩
  | aw b =>
    rw [eS] at hs hs' q
    exact ⟨d.st, _, ds, _, _, _, rfl, hs, rfl, T.cl_Away, D_Away_called, d.st, .aw b, rfl, hs', q⟩
theorem in_rooms {rs am : List (Str × Int)} {n : Str} {v : Int} (e : am.map (·.1) = rs.map (·.1)) (h : am.lookup n = some v) : n ∈ rs.map (·.1) := e ▸ look_some h
def sp_Pr_paper_left (cU cP cS cR cJ cA : Addr) : Sp := fun vs H Q E => ∃ x d n, vs = [.ref x, .str n] ∧ PrAt cP cS cR cJ cA H x d ∧ (∀ v, d.am.lookup n = some v → Q (.int v) H) ∧ (¬ n ∈ d.rs.map (·.1) → Ref1 cU "name" (.str n) H E)
theorem sc_Printer_paper_left : FnScope ["self", "kind"] ["self", "kind"] (defScope s_Printer_paper_left) := ⟨rfl, rfl, rfl, by decide +kernel, rfl, by decide +kernel, by decide +kernel⟩
theorem ok_Printer_paper_left {fa cState cReady cJammed cAway cStock cPrinter cBadLine cBusy cDry cGoesRound cNoHeap cNoPrinter cNotNow cNoWay cNowhere cOver cTooMuch cTwice cUnknown cHallError : Addr} {fd : FuncData} (F : Fun K "paper_left" "Printer.paper_left" s_Printer_paper_left fa fd) (T : Txt K mg cState cReady cJammed cAway cStock cPrinter cBadLine cBusy cDry cGoesRound cNoHeap cNoPrinter cNotNow cNoWay cNowhere cOver cTooMuch cTwice cUnknown cHallError) (D_Stock_held : MtE P w K mg base 4 "held" cStock ["self", "name"] (sp_held cStock cUnknown)) :
    FnOk P w K mg base (CXe P w) 5 fa fd ["self", "kind"] (sp_Pr_paper_left cUnknown cPrinter cStock cReady cJammed cAway) := by
  refine F.okE sc_Printer_paper_left (fun vs H Q E h => ?_) (fun cdv A outer s H vs Q E hr h => ?_)
  · obtain ⟨x, d, n, rfl, _⟩ := h
    rfl
  obtain ⟨x, d, n, rfl, P, q, q2⟩ := h
  refine ⟨_, (pss_one (ps_ret (pe_methE 4 pass_def (hr.mono (by decide)) (pe_fld (pv 0) rfl) (pa_cons (pv 1) pa_nil)))), ?_⟩
  refine ⟨_, rfl, x, cPrinter, d.dx, _, _, rfl, P.o, T.cl_Printer, T.n_Printer_trays, rfl, ?_⟩
  obtain ⟨⟨dt, ht⟩, _⟩ := id P.T
  exact ⟨d.tr, _, dt, _, _, _, rfl, ht, rfl, T.cl_Stock, D_Stock_held, _, rfl, d.tr, d.rs, d.am, n, rfl, P.T.at, fun v' _ l' => q v' l', fun hn => by
    cases l : d.am.lookup n with
    | some v => exact ⟨v, rfl⟩
    | none => exact absurd (P.ka ▸ hn) (look_none l), q2⟩
def sp_Pr_ink_left (cP cS cR cJ cA : Addr) : Sp := fun vs H Q _ => ∃ x d, vs = [.ref x] ∧ PrAt cP cS cR cJ cA H x d ∧ ∀ t H', Same H H' → H' t = some (.tup [.int d.b, .int d.c]) → Q (.ref t) H'
theorem ink_b {b c : Int} : (inkL b c).lookup blW = some b := by
  unfold inkL
  rw [List.lookup_cons, beq_self_eq_true]
theorem ink_c {b c : Int} : (inkL b c).lookup coW = some c := by
  unfold inkL
  rw [List.lookup_cons, beq_eq_false_iff_ne.mpr (Ne.symm blco), List.lookup_cons, beq_self_eq_true]
theorem sc_Printer_ink_left : FnScope ["self"] ["self"] (defScope s_Printer_ink_left) := ⟨rfl, rfl, rfl, by decide +kernel, rfl, by decide +kernel, by decide +kernel⟩
theorem ok_Printer_ink_left {fa cState cReady cJammed cAway cStock cPrinter cBadLine cBusy cDry cGoesRound cNoHeap cNoPrinter cNotNow cNoWay cNowhere cOver cTooMuch cTwice cUnknown cHallError : Addr} {fd : FuncData} (F : Fun K "ink_left" "Printer.ink_left" s_Printer_ink_left fa fd) (T : Txt K mg cState cReady cJammed cAway cStock cPrinter cBadLine cBusy cDry cGoesRound cNoHeap cNoPrinter cNotNow cNoWay cNowhere cOver cTooMuch cTwice cUnknown cHallError) (D_Stock_held : MtE P w K mg base 4 "held" cStock ["self", "name"] (sp_held cStock cUnknown)) :
    FnOk P w K mg base (CXe P w) 5 fa fd ["self"] (sp_Pr_ink_left cPrinter cStock cReady cJammed cAway) := by
  refine F.okE sc_Printer_ink_left (fun vs H Q E h => ?_) (fun cdv A outer s H vs Q E hr h => ?_)
  · obtain ⟨x, d, rfl, _⟩ := h
    rfl
  obtain ⟨x, d, rfl, P, q⟩ := h
  have z2 : 2 ≤ sizeLine := small (by decide)
  refine ⟨_, (pss_one (ps_ret (pe_tup (pa_cons (pe_methE 4 pass_def (hr.mono (by decide)) (pe_fld (pv 0) rfl) (pa_cons (pe_gs T.BLACK rfl) pa_nil)) (pa_cons (pe_methE 4 pass_def (hr.mono (by decide)) (pe_fld (pv 0) rfl) (pa_cons (pe_gs T.COLOUR rfl) pa_nil)) pa_nil))))), ?_⟩
  obtain ⟨⟨dt, ht⟩, _⟩ := id P.I
  refine ⟨_, rfl, x, cPrinter, d.dx, _, _, rfl, P.o, T.cl_Printer, T.n_Printer_inks, rfl, ?_⟩
  refine ⟨d.ik, _, dt, _, _, _, rfl, ht, rfl, T.cl_Stock, D_Stock_held, d.ik, _, _, blW, rfl, P.I.at, fun v' _ l' => ?_, fun _ => ⟨_, ink_b⟩, fun z => absurd (look_some ink_b) z⟩
  rw [ink_b] at l'
  obtain rfl := Option.some.inj l'
  refine ⟨_, rfl, x, cPrinter, d.dx, _, _, rfl, P.o, T.cl_Printer, T.n_Printer_inks, rfl, ?_⟩
  refine ⟨d.ik, _, dt, _, _, _, rfl, ht, rfl, T.cl_Stock, D_Stock_held, d.ik, _, _, coW, rfl, P.I.at, fun v' _ l' => ?_, fun _ => ⟨_, ink_c⟩, fun z => absurd (look_some ink_c) z⟩
  rw [ink_c] at l'
  obtain rfl := Option.some.inj l'
  exact ⟨z2, fun t nt => q t _ (same_new nt _) upd_same⟩
def sp_Pr_within (cP cS cR cJ cA : Addr) : Sp := fun vs H Q _ => ∃ x d, vs = [.ref x] ∧ PrAt cP cS cR cJ cA H x d ∧ ∀ l H', Same H H' → H l = none → H' l = some (.lst d.tags) → Q (.ref l) H'
theorem sc_Printer_within : FnScope ["self"] ["self"] (defScope s_Printer_within) := ⟨rfl, rfl, rfl, by decide +kernel, rfl, by decide +kernel, by decide +kernel⟩
theorem ok_Printer_within {fa cState cReady cJammed cAway cStock cPrinter cBadLine cBusy cDry cGoesRound cNoHeap cNoPrinter cNotNow cNoWay cNowhere cOver cTooMuch cTwice cUnknown cHallError : Addr} {fd : FuncData} (F : Fun K "within" "Printer.within" s_Printer_within fa fd) (T : Txt K mg cState cReady cJammed cAway cStock cPrinter cBadLine cBusy cDry cGoesRound cNoHeap cNoPrinter cNotNow cNoWay cNowhere cOver cTooMuch cTwice cUnknown cHallError)  :
    FnOk P w K mg base CX0 1 fa fd ["self"] (sp_Pr_within cPrinter cStock cReady cJammed cAway) := by
  refine F.ok sc_Printer_within (fun vs H Q E h => ?_) (fun cdv A outer s H vs Q E hr h => ?_)
  · obtain ⟨x, d, rfl, _⟩ := h
    rfl
  obtain ⟨x, d, rfl, P, q⟩ := h
  refine ⟨_, (pss_one (ps_ret (pe_callTy call_list_of rfl T.list bt_list (pa_cons (pe_fld (pv 0) rfl) pa_nil)))), ?_⟩
  refine ⟨_, rfl, x, cPrinter, d.dx, _, _, rfl, P.o, T.cl_Printer, T.n_Printer_inside, rfl, ?_⟩
  exact ⟨d.ins, _, rfl, .inl (SqL.of P.n), fun l nl => q l _ (same_new nl _) nl upd_same⟩
def sp_Pr_papers (cP cS cR cJ cA : Addr) : Sp := fun vs H Q _ => ∃ x d, vs = [.ref x] ∧ PrAt cP cS cR cJ cA H x d ∧ H d.rm = some (.dK (dI d.rs)) ∧ ∀ p H', Same H H' → H p = none → H' p = some (.dK (dI d.rs)) → Q (.ref p) H'
theorem sc_Printer_papers : FnScope ["self"] ["self"] (defScope s_Printer_papers) := ⟨rfl, rfl, rfl, by decide +kernel, rfl, by decide +kernel, by decide +kernel⟩
theorem ok_Printer_papers {fa cState cReady cJammed cAway cStock cPrinter cBadLine cBusy cDry cGoesRound cNoHeap cNoPrinter cNotNow cNoWay cNowhere cOver cTooMuch cTwice cUnknown cHallError : Addr} {fd : FuncData} (F : Fun K "papers" "Printer.papers" s_Printer_papers fa fd) (T : Txt K mg cState cReady cJammed cAway cStock cPrinter cBadLine cBusy cDry cGoesRound cNoHeap cNoPrinter cNotNow cNoWay cNowhere cOver cTooMuch cTwice cUnknown cHallError)  :
    FnOk P w K mg base CX0 1 fa fd ["self"] (sp_Pr_papers cPrinter cStock cReady cJammed cAway) := by
  refine F.ok sc_Printer_papers (fun vs H Q E h => ?_) (fun cdv A outer s H vs Q E hr h => ?_)
  · obtain ⟨x, d, rfl, _⟩ := h
    rfl
  obtain ⟨x, d, rfl, P, rm, q⟩ := h
  refine ⟨_, (pss_one (ps_ret (pe_callTy call_dict_copy rfl T.dict bt_dict (pa_cons (pe_fld (pv 0) rfl) pa_nil)))), ?_⟩
  refine ⟨_, rfl, x, cPrinter, d.dx, _, _, rfl, P.o, T.cl_Printer, T.n_Printer_rooms, rfl, ?_⟩
  exact ⟨d.rm, _, rfl, .inl rm, fun l nl => q l _ (same_new nl _) nl upd_same⟩

end
end My

namespace My
open PySem L2
open Blk (sg sg_inj sg_app)
section
variable {P : Program} {w : World} {K : PySem.W.Frag} {mg : Str → Option Value} {base : Heap}
theorem strange_two {rs : List (Str × Int)} {n : Str} {k v : Int} (h : rs.lookup n = some v) : strange rs [(n, k)] = none := by
  unfold strange
  rw [List.find?_cons, show ((rs.lookup (n, k).1).isNone) = false from by rw [show (n, k).1 = n from rfl, h]; rfl]
  rfl
theorem much_one {rs am : List (Str × Int)} {n : Str} {k v u : Int} (h : rs.lookup n = some v) (h' : am.lookup n = some u) : tooMuch rs am [(n, k)] = if v < u + k then some n else none := by
  unfold tooMuch
  rw [List.find?_cons, show (rs.lookup (n, k).1).getD 0 = v from by rw [show (n, k).1 = n from rfl, h]; rfl, show (am.lookup (n, k).1).getD 0 = u from by rw [show (n, k).1 = n from rfl, h']; rfl]
  by_cases c : v < u + k
  · rw [if_pos c, decide_eq_true (show v < u + (n, k).2 from c)]
    rfl
  · rw [if_neg c, decide_eq_false (show ¬ v < u + (n, k).2 from c)]
    rfl
theorem add_one {am : List (Str × Int)} {n : Str} {s k u : Int} (h : am.lookup n = some u) : addAll s am [(n, k)] = setA am n (u + s * k) := by
  show setA am n ((am.lookup n).getD 0 + s * k) = _
  rw [h]
  rfl
theorem ink_strange {a b x y : Int} : strange (inkL a b) (inkL x y) = none := by
  unfold strange
  rw [show inkL x y = [(blW, x), (coW, y)] from rfl, List.find?_cons, show ((inkL a b).lookup (blW, x).1).isNone = false from by rw [show (blW, x).1 = blW from rfl, ink_b]; rfl]
  show (List.find? _ [(coW, y)]).map _ = none
  rw [List.find?_cons, show ((inkL a b).lookup (coW, y).1).isNone = false from by rw [show (coW, y).1 = coW from rfl, ink_c]; rfl]
  rfl
theorem ink_much {rb rc a b x y : Int} (h1 : a + x ≤ rb) (h2 : b + y ≤ rc) : tooMuch (inkL rb rc) (inkL a b) (inkL x y) = none := by
  unfold tooMuch
  rw [show inkL x y = [(blW, x), (coW, y)] from rfl, List.find?_cons, show ((inkL rb rc).lookup (blW, x).1).getD 0 = rb from by rw [show (blW, x).1 = blW from rfl, ink_b]; rfl, show ((inkL a b).lookup (blW, x).1).getD 0 = a from by rw [show (blW, x).1 = blW from rfl, ink_b]; rfl, decide_eq_false (show ¬ rb < a + (blW, x).2 from Int.not_lt.mpr h1)]
  show (List.find? _ [(coW, y)]).map _ = none
  rw [List.find?_cons, show ((inkL rb rc).lookup (coW, y).1).getD 0 = rc from by rw [show (coW, y).1 = coW from rfl, ink_c]; rfl, show ((inkL a b).lookup (coW, y).1).getD 0 = b from by rw [show (coW, y).1 = coW from rfl, ink_c]; rfl, decide_eq_false (show ¬ rc < b + (coW, y).2 from Int.not_lt.mpr h2)]
  rfl
theorem set_b {a b v : Int} : setA (inkL a b) blW v = inkL v b := by
  unfold setA inkL
  rw [List.map_cons, List.map_cons, if_pos rfl, if_neg (Ne.symm blco)]
  rfl
theorem set_c {a b v : Int} : setA (inkL a b) coW v = inkL a v := by
  unfold setA inkL
  rw [List.map_cons, List.map_cons, if_neg blco, if_pos rfl]
  rfl
theorem ink_add {s a b x y : Int} : addAll s (inkL a b) (inkL x y) = inkL (a + s * x) (b + s * y) := by
  show setA (setA (inkL a b) blW (((inkL a b).lookup blW).getD 0 + s * x)) coW (((setA (inkL a b) blW (((inkL a b).lookup blW).getD 0 + s * x)).lookup coW).getD 0 + s * y) = _
  rw [ink_b]
  show setA (setA (inkL a b) blW (a + s * x)) coW (((setA (inkL a b) blW (a + s * x)).lookup coW).getD 0 + s * y) = _
  rw [set_b, ink_c]
  exact set_c
theorem PrAt.trays {cP cS cR cJ cA : Addr} {H H' : Hp} {x : Addr} {d : PD} {am' : List (Str × Int)} (h : PrAt cP cS cR cJ cA H x d) (kp : ∀ b o, b ≠ d.tr2 → H b = some o → H' b = some o) (S : StockM cS H' d.tr d.tr1 d.tr2 d.rs am') (k : am'.map (·.1) = d.rs.map (·.1)) (l : am'.length ≤ 900) : PrAt cP cS cR cJ cA H' x { d with am := am' } := by
  obtain ⟨⟨di, hi⟩, h1, h2, n⟩ := id h.I
  have hm := h.T.2.2.1
  have off : ∀ b o, H b = some o → (∀ kv, o ≠ .dK kv) → H' b = some o := fun b o e n => kp b o (fun z => by rw [z, hm] at e; injection e with e; exact n _ e.symm) e
  exact { o := off _ _ h.o (by intro kv z; cases z), T := S, I := ⟨⟨di, off _ _ hi (by intro kv z; cases z)⟩, kp _ _ (Ne.symm h.n21) h1, kp _ _ (Ne.symm h.n22) h2, n⟩, s := let ⟨ds, e⟩ := h.s; ⟨ds, off _ _ e (by intro kv z; cases z)⟩, n := off _ _ h.n (by intro kv z; cases z), ka := k, la := l, lt := h.lt, n22 := h.n22, n21 := h.n21, n12 := h.n12 }
theorem PrAt.inks {cP cS cR cJ cA : Addr} {H H' : Hp} {x : Addr} {d : PD} {b' c' : Int} (h : PrAt cP cS cR cJ cA H x d) (kp : ∀ b o, b ≠ d.ik2 → H b = some o → H' b = some o) (S : StockM cS H' d.ik d.ik1 d.ik2 (inkL d.rb d.rc) (inkL b' c')) : PrAt cP cS cR cJ cA H' x { d with b := b', c := c' } := by
  obtain ⟨⟨di, hi⟩, h1, h2, n⟩ := id h.T
  have hm := h.I.2.2.1
  have off : ∀ b o, H b = some o → (∀ kv, o ≠ .dK kv) → H' b = some o := fun b o e n => kp b o (fun z => by rw [z, hm] at e; injection e with e; exact n _ e.symm) e
  exact { o := off _ _ h.o (by intro kv z; cases z), T := ⟨⟨di, off _ _ hi (by intro kv z; cases z)⟩, kp _ _ h.n12 h1, kp _ _ h.n22 h2, n⟩, I := S, s := let ⟨ds, e⟩ := h.s; ⟨ds, off _ _ e (by intro kv z; cases z)⟩, n := off _ _ h.n (by intro kv z; cases z), ka := h.ka, la := h.la, lt := h.lt, n22 := h.n22, n21 := h.n21, n12 := h.n12 }
theorem PrAt.inside {cP cS cR cJ cA : Addr} {H H' : Hp} {x : Addr} {d : PD} {ts : List V} (h : PrAt cP cS cR cJ cA H x d) (kp : ∀ b o, b ≠ d.ins → H b = some o → H' b = some o) (hn : H' d.ins = some (.lst ts)) (l : ts.length ≤ 900) : PrAt cP cS cR cJ cA H' x { d with tags := ts } := by
  have off : ∀ b o, H b = some o → (∀ xs, o ≠ .lst xs) → H' b = some o := fun b o e n => kp b o (fun z => by rw [z, h.n] at e; injection e with e; exact n _ e.symm) e
  obtain ⟨⟨di, hi⟩, h1, h2, n⟩ := id h.T
  obtain ⟨⟨di', hi'⟩, h1', h2', n'⟩ := id h.I
  exact { o := off _ _ h.o (by intro kv z; cases z), T := ⟨⟨di, off _ _ hi (by intro kv z; cases z)⟩, off _ _ h1 (by intro kv z; cases z), off _ _ h2 (by intro kv z; cases z), n⟩, I := ⟨⟨di', off _ _ hi' (by intro kv z; cases z)⟩, off _ _ h1' (by intro kv z; cases z), off _ _ h2' (by intro kv z; cases z), n'⟩, s := let ⟨ds, e⟩ := h.s; ⟨ds, off _ _ e (by intro kv z; cases z)⟩, n := hn, ka := h.ka, la := h.la, lt := l, n22 := h.n22, n21 := h.n21, n12 := h.n12 }
theorem ink_much' {rb rc a b x y : Int} : tooMuch (inkL rb rc) (inkL a b) (inkL x y) = if rb < a + x then some blW else if rc < b + y then some coW else none := by
  by_cases c1 : rb < a + x
  · rw [if_pos c1]
    unfold tooMuch
    rw [show inkL x y = [(blW, x), (coW, y)] from rfl, List.find?_cons, show ((inkL rb rc).lookup (blW, x).1).getD 0 = rb from by rw [show (blW, x).1 = blW from rfl, ink_b]; rfl, show ((inkL a b).lookup (blW, x).1).getD 0 = a from by rw [show (blW, x).1 = blW from rfl, ink_b]; rfl, decide_eq_true (show rb < a + (blW, x).2 from c1)]
    rfl
  · rw [if_neg c1]
    by_cases c2 : rc < b + y
    · rw [if_pos c2]
      unfold tooMuch
      rw [show inkL x y = [(blW, x), (coW, y)] from rfl, List.find?_cons, show ((inkL rb rc).lookup (blW, x).1).getD 0 = rb from by rw [show (blW, x).1 = blW from rfl, ink_b]; rfl, show ((inkL a b).lookup (blW, x).1).getD 0 = a from by rw [show (blW, x).1 = blW from rfl, ink_b]; rfl, decide_eq_false (show ¬ rb < a + (blW, x).2 from c1)]
      show (List.find? _ [(coW, y)]).map _ = _
      rw [List.find?_cons, show ((inkL rb rc).lookup (coW, y).1).getD 0 = rc from by rw [show (coW, y).1 = coW from rfl, ink_c]; rfl, show ((inkL a b).lookup (coW, y).1).getD 0 = b from by rw [show (coW, y).1 = coW from rfl, ink_c]; rfl, decide_eq_true (show rc < b + (coW, y).2 from c2)]
      rfl
    · rw [if_neg c2]
      exact ink_much (Int.not_lt.mp c1) (Int.not_lt.mp c2)
theorem strange_is {rs : List (Str × Int)} {n n' : Str} {k : Int} (h : strange rs [(n, k)] = some n') : n' = n ∧ ¬ n ∈ rs.map (·.1) := by
  cases l : rs.lookup n with
  | some v => rw [strange_two l] at h; cases h
  | none =>
    have e : strange rs [(n, k)] = some n := by
      unfold strange
      rw [List.find?_cons, show ((rs.lookup (n, k).1).isNone) = true from by rw [show (n, k).1 = n from rfl, l]; rfl]
      rfl
    rw [e] at h
    exact ⟨(Option.some.inj h).symm, look_none l⟩
theorem known_of {rs : List (Str × Int)} {n : Str} {k : Int} (h : strange rs [(n, k)] = none) : ∃ v, rs.lookup n = some v := by
  cases l : rs.lookup n with
  | some v => exact ⟨v, rfl⟩
  | none =>
    unfold strange at h
    rw [List.find?_cons, show ((rs.lookup (n, k).1).isNone) = true from by rw [show (n, k).1 = n from rfl, l]; rfl] at h
    cases h
def sp_Pr_load (cU cT cP cS cR cJ cA : Addr) : Sp := fun vs H Q E => ∃ x d n k, vs = [.ref x, .str n, .int k] ∧ PrAt cP cS cR cJ cA H x d ∧ (¬ n ∈ d.rs.map (·.1) → Ref1 cU "name" (.str n) H E) ∧
  ∀ R A, d.rs.lookup n = some R → d.am.lookup n = some A → (R < A + k → Ref1 cT "name" (.str n) H E) ∧ (¬ R < A + k → ∀ H', (∀ b o, b ≠ d.tr2 → H b = some o → H' b = some o) → PrAt cP cS cR cJ cA H' x { d with am := setA d.am n (A + k) } → Q .non H')
theorem sc_Printer_load : FnScope ["self", "kind", "many"] ["self", "kind", "many"] (defScope s_Printer_load) := ⟨rfl, rfl, rfl, by decide +kernel, rfl, by decide +kernel, by decide +kernel⟩
theorem ok_Printer_load {fa cState cReady cJammed cAway cStock cPrinter cBadLine cBusy cDry cGoesRound cNoHeap cNoPrinter cNotNow cNoWay cNowhere cOver cTooMuch cTwice cUnknown cHallError : Addr} {fd : FuncData} (F : Fun K "load" "Printer.load" s_Printer_load fa fd) (T : Txt K mg cState cReady cJammed cAway cStock cPrinter cBadLine cBusy cDry cGoesRound cNoHeap cNoPrinter cNotNow cNoWay cNowhere cOver cTooMuch cTwice cUnknown cHallError) (D_Stock_put : MtE P w K mg base 6 "put" cStock ["self", "name", "many"] (sp_put cStock cUnknown cTooMuch)) :
    FnOk P w K mg base (CXe P w) 7 fa fd ["self", "kind", "many"] (sp_Pr_load cUnknown cTooMuch cPrinter cStock cReady cJammed cAway) := by
  refine F.okE sc_Printer_load (fun vs H Q E h => ?_) (fun cdv A outer s H vs Q E hr h => ?_)
  · obtain ⟨x, d, n, k, rfl, _⟩ := h
    rfl
  obtain ⟨x, d, n, k, rfl, P, qu, q⟩ := h
  refine ⟨_, (pss_one (ps_expr (pe_methE 6 pass_def (hr.mono (by decide)) (pe_fld (pv 0) rfl) (pa_cons (pv 1) (pa_cons (pv 2) pa_nil))))), ?_⟩
  obtain ⟨⟨dt, ht⟩, _⟩ := id P.T
  refine ⟨_, rfl, x, cPrinter, d.dx, _, _, rfl, P.o, T.cl_Printer, T.n_Printer_trays, rfl, ?_⟩
  have both : strange d.rs [(n, k)] = none → ∃ R A, d.rs.lookup n = some R ∧ d.am.lookup n = some A := fun h => by
    obtain ⟨R, eR⟩ := known_of h
    obtain ⟨A, eA⟩ := look_keys P.ka eR
    exact ⟨R, A, eR, eA⟩
  refine ⟨d.tr, _, dt, _, _, _, rfl, ht, rfl, T.cl_Stock, D_Stock_put, _, rfl, _, rfl, d.tr, d.tr1, d.tr2, d.rs, d.am, n, k, rfl, P.T, P.ka, by have := P.la; omega, fun n' h ea H1 sm g => ?_, fun n' h h2 ea H1 sm g => ?_, fun h h2 H1 kp S1 => ?_⟩
  · obtain ⟨rfl, nn⟩ := strange_is h
    exact qu nn ea H1 sm g
  · obtain ⟨R, A, eR, eA⟩ := both h
    rw [much_one eR eA] at h2
    by_cases c : R < A + k
    · rw [if_pos c] at h2
      obtain rfl := Option.some.inj h2
      exact (q R A eR eA).1 c ea H1 sm g
    · rw [if_neg c] at h2
      cases h2
  · obtain ⟨R, A, eR, eA⟩ := both h
    rw [much_one eR eA] at h2
    by_cases c : R < A + k
    · rw [if_pos c] at h2
      cases h2
    · rw [add_one eA, Int.one_mul] at S1
      exact (q R A eR eA).2 c H1 kp (P.trays kp S1 (by rw [keys_setA]; exact P.ka) (by unfold setA; rw [List.length_map]; exact P.la))
def sp_Pr_fill (cT cP cS cR cJ cA : Addr) : Sp := fun vs H Q E => ∃ x d y z, vs = [.ref x, .int y, .int z] ∧ PrAt cP cS cR cJ cA H x d ∧ (d.rb < d.b + y → Ref1 cT "name" (.str blW) H E) ∧ (¬ d.rb < d.b + y → d.rc < d.c + z → Ref1 cT "name" (.str coW) H E) ∧
  (¬ d.rb < d.b + y → ¬ d.rc < d.c + z → ∀ H', (∀ b o, b ≠ d.ik2 → H b = some o → H' b = some o) → PrAt cP cS cR cJ cA H' x { d with b := d.b + y, c := d.c + z } → Q .non H')
theorem gifts_ink {H : Hp} {l t1 t2 : Addr} {y z : Int} (hl : H l = some (.lst [.ref t1, .ref t2])) (h1 : H t1 = some (.tup [.str blW, .int y])) (h2 : H t2 = some (.tup [.str coW, .int z])) : GiftsAt H l (inkL y z) := by
  refine ⟨_, hl, rfl, fun i v g e1 e2 => ?_⟩
  match i, e1, e2 with
  | 0, e1, e2 =>
    obtain rfl := Option.some.inj e1
    obtain rfl := Option.some.inj e2
    exact ⟨t1, rfl, h1⟩
  | 1, e1, e2 =>
    obtain rfl := Option.some.inj e1
    obtain rfl := Option.some.inj e2
    exact ⟨t2, rfl, h2⟩
theorem sc_Printer_fill : FnScope ["self", "black", "coloured"] ["self", "black", "coloured"] (defScope s_Printer_fill) := ⟨rfl, rfl, rfl, by decide +kernel, rfl, by decide +kernel, by decide +kernel⟩
theorem ok_Printer_fill {fa cState cReady cJammed cAway cStock cPrinter cBadLine cBusy cDry cGoesRound cNoHeap cNoPrinter cNotNow cNoWay cNowhere cOver cTooMuch cTwice cUnknown cHallError : Addr} {fd : FuncData} (F : Fun K "fill" "Printer.fill" s_Printer_fill fa fd) (T : Txt K mg cState cReady cJammed cAway cStock cPrinter cBadLine cBusy cDry cGoesRound cNoHeap cNoPrinter cNotNow cNoWay cNowhere cOver cTooMuch cTwice cUnknown cHallError) (D_Stock_put_all : MtE P w K mg base 5 "put_all" cStock ["self", "gifts"] (sp_all cStock cUnknown cTooMuch 1 tooMuch)) :
    FnOk P w K mg base (CXe P w) 6 fa fd ["self", "black", "coloured"] (sp_Pr_fill cTooMuch cPrinter cStock cReady cJammed cAway) := by
  refine F.okE sc_Printer_fill (fun vs H Q E h => ?_) (fun cdv A outer s H vs Q E hr h => ?_)
  · obtain ⟨x, d, y, z, rfl, _⟩ := h
    rfl
  obtain ⟨x, d, y, z, rfl, P, qb, qc, q⟩ := h
  have z2 : 2 ≤ sizeLine := small (by decide)
  refine ⟨_, (pss_one (ps_expr (pe_methE 5 pass_def (hr.mono (by decide)) (pe_fld (pv 0) rfl) (pa_cons (pe_lst (pa_cons (pe_tup (pa_cons (pe_gs T.BLACK rfl) (pa_cons (pv 1) pa_nil))) (pa_cons (pe_tup (pa_cons (pe_gs T.COLOUR rfl) (pa_cons (pv 2) pa_nil))) pa_nil))) pa_nil)))), ?_⟩
  obtain ⟨⟨dt, ht⟩, _⟩ := id P.I
  refine ⟨_, rfl, x, cPrinter, d.dx, _, _, rfl, P.o, T.cl_Printer, T.n_Printer_inks, rfl, ?_⟩
  refine ⟨d.ik, _, dt, _, _, _, rfl, ht, rfl, T.cl_Stock, D_Stock_put_all, _, rfl, z2, fun t1 nt1 => ?_⟩
  have s1 := same_new nt1 (.tup [.str blW, .int y])
  have h1 : upd H t1 (.tup [.str blW, .int y]) t1 = some (.tup [.str blW, .int y]) := upd_same
  generalize upd H t1 (.tup [.str blW, .int y]) = H1 at s1 h1 ⊢
  refine ⟨_, rfl, z2, fun t2 nt2 => ?_⟩
  have s2 := same_new nt2 (.tup [.str coW, .int z])
  have h2 : upd H1 t2 (.tup [.str coW, .int z]) t2 = some (.tup [.str coW, .int z]) := upd_same
  generalize upd H1 t2 (.tup [.str coW, .int z]) = H2 at s2 h2 ⊢
  refine ⟨z2, fun l nl => ?_⟩
  have s3 := same_new nl (.lst [.ref t1, .ref t2])
  have hl : upd H2 l (.lst [.ref t1, .ref t2]) l = some (.lst [.ref t1, .ref t2]) := upd_same
  generalize upd H2 l (.lst [.ref t1, .ref t2]) = H3 at s3 hl ⊢
  have s03 := (s1.trans s2).trans s3
  have P3 := P.same s03
  refine ⟨d.ik, d.ik1, d.ik2, l, _, _, inkL y z, rfl, P3.I, rfl, by show 2 ≤ 1000; decide, ne_of hl P3.I.2.2.1 (by intro z; cases z), gifts_ink hl ((s2.trans s3) _ _ h1) (s3 _ _ h2), fun n h => ?_, fun n h h2 => ?_, fun h h2 H4 kp S4 => ?_⟩
  · rw [ink_strange] at h
    cases h
  · rw [ink_much'] at h2
    by_cases c1 : d.rb < d.b + y
    · rw [if_pos c1] at h2
      obtain rfl := Option.some.inj h2
      exact (qb c1).after s03
    · rw [if_neg c1] at h2
      by_cases c2 : d.rc < d.c + z
      · rw [if_pos c2] at h2
        obtain rfl := Option.some.inj h2
        exact (qc c1 c2).after s03
      · rw [if_neg c2] at h2
        cases h2
  · rw [ink_much'] at h2
    by_cases c1 : d.rb < d.b + y
    · rw [if_pos c1] at h2
      cases h2
    · rw [if_neg c1] at h2
      by_cases c2 : d.rc < d.c + z
      · rw [if_pos c2] at h2
        cases h2
      · rw [ink_add, Int.one_mul, Int.one_mul] at S4
        exact q c1 c2 H4 (fun b o nb e => kp b o nb (s03 _ _ e)) (P3.inks kp S4)
def sp_Pr_oldest (cP cS cR cJ cA : Addr) : Sp := fun vs H Q _ => ∃ x d, vs = [.ref x] ∧ PrAt cP cS cR cJ cA H x d ∧ ∀ l H', (∀ b o, b ≠ d.ins → H b = some o → H' b = some o) → H l = none → H' l = some (.lst (d.tags.take 1)) → PrAt cP cS cR cJ cA H' x { d with tags := d.tags.drop 1 } → Q (.ref l) H'
end
end My

namespace My
open PySem L2
open Blk (sg sg_inj sg_app)
section
variable {P : Program} {w : World} {K : PySem.W.Frag} {mg : Str → Option Value} {base : Heap}
abbrev wiW : Str := Str.ofString "within"
theorem put_state {d : PD} {st : Addr} : putF "state" (.ref st) d.fs = ({ d with st := st } : PD).fs := by
  unfold PD.fs
  repeat (rw [show ∀ (g : Str) (u v : V) (r : List (Str × V)), putF "state" v ((g, u) :: r) = if g = "state" then (g, v) :: r else (g, u) :: putF "state" v r from fun _ _ _ _ => rfl]; first | rw [if_pos rfl] | rw [if_neg (by decide +kernel)])
theorem put_inside {d : PD} {il : Addr} : putF "inside" (.ref il) d.fs = ({ d with ins := il } : PD).fs := by
  unfold PD.fs
  repeat (rw [show ∀ (g : Str) (u v : V) (r : List (Str × V)), putF "inside" v ((g, u) :: r) = if g = "inside" then (g, v) :: r else (g, u) :: putF "inside" v r from fun _ _ _ _ => rfl]; first | rw [if_pos rfl] | rw [if_neg (by decide +kernel)])
theorem PrAt.turned {cP cS cR cJ cA : Addr} {H H' : Hp} {x st il : Addr} {S : S3} {ts : List V} {d : PD} (h : PrAt cP cS cR cJ cA H x d) (kp : ∀ b o, b ≠ x → H b = some o → H' b = some o) (ho : H' x = some (.ins cP d.dx ({ d with st := st, ins := il } : PD).fs)) (hs : StAt cR cJ cA H' st S) (hn : H' il = some (.lst ts)) (l : ts.length ≤ 900) : PrAt cP cS cR cJ cA H' x { d with st := st, S := S, ins := il, tags := ts } := by
  obtain ⟨⟨di, hi⟩, h1, h2, n⟩ := id h.T
  obtain ⟨⟨di', hi'⟩, h1', h2', n'⟩ := id h.I
  have off : ∀ b o, H b = some o → o ≠ .ins cP d.dx d.fs → H' b = some o := fun b o e n => kp b o (ne_of e h.o n) e
  have two : ∀ (c e : Addr) (u v : Str × V), HO.ins c e [u, v] ≠ .ins cP d.dx d.fs := fun c e u v z => by
    injection z with _ _ z
    have := congrArg List.length z
    rw [show d.fs.length = 8 from rfl] at this
    exact absurd (show 2 = 8 from this) (by decide)
  exact { o := ho, T := ⟨⟨di, off _ _ hi (two _ _ _ _)⟩, off _ _ h1 (by intro z; cases z), off _ _ h2 (by intro z; cases z), n⟩, I := ⟨⟨di', off _ _ hi' (two _ _ _ _)⟩, off _ _ h1' (by intro z; cases z), off _ _ h2' (by intro z; cases z), n'⟩, s := hs, n := hn, ka := h.ka, la := h.la, lt := l, n22 := h.n22, n21 := h.n21, n12 := h.n12 }
theorem turn_st {P : Program} {w : World} {K : PySem.W.Frag} {mg : Str → Option Value} {base : Heap} {k1 k2 k3 k i : Nat} {m : Str} {cR cJ cA cN : Addr} {S1 S2 S3' : S3 → Prop} {H : Hp} {a : Addr} {s : S3} {Q : VK} {E : XK} (D1 : MtE P w K mg base k1 m cR ["self"] (sp_st cR cJ cA cN S1 i)) (D2 : MtE P w K mg base k2 m cJ ["self"] (sp_st cR cJ cA cN S2 i)) (D3 : MtE P w K mg base k3 m cA ["self"] (sp_st cR cJ cA cN S3' i))
    (l1 : k1 ≤ k) (l2 : k2 ≤ k) (l3 : k3 ≤ k) (h1 : S1 .rd) (h2 : S2 .jm) (h3 : ∀ b, S3' (.aw b)) (c1 : Cls K cR) (c2 : Cls K cJ) (c3 : Cls K cA) (hm : ∀ s, (fsOf s).lookup m = none) (hs : StAt cR cJ cA H a s) (q : OutS cR cJ cA cN i s H Q E) :
    ∃ a' C dx fs ps sp, V.ref a = .ref a' ∧ H a' = some (.ins C dx fs) ∧ fs.lookup m = none ∧ Cls K C ∧ MtE P w K mg base k m C ps sp ∧ sp [.ref a] H Q E := by
  obtain ⟨ds, e⟩ := id hs
  cases s with
  | rd => exact ⟨a, _, ds, _, _, _, rfl, e, hm _, c1, D1.mono l1, a, .rd, rfl, h1, hs, q⟩
  | jm => exact ⟨a, _, ds, _, _, _, rfl, e, hm _, c2, D2.mono l2, a, .jm, rfl, h2, hs, q⟩
  | aw b => exact ⟨a, _, ds, _, _, _, rfl, e, hm _, c3, D3.mono l3, a, .aw b, rfl, h3 b, hs, q⟩
theorem St_ne {cP cR cJ cA : Addr} {H : Hp} {x a : Addr} {s : S3} {d : PD} (h : StAt cR cJ cA H a s) (hx : H x = some (.ins cP d.dx d.fs)) : a ≠ x := by
  obtain ⟨ds, e⟩ := h
  refine ne_of e hx fun z => ?_
  injection z with _ _ z
  have := congrArg List.length z
  rw [show d.fs.length = 8 from rfl] at this
  cases s with
  | rd => exact absurd (show 1 = 8 from this) (by decide)
  | jm => exact absurd (show 1 = 8 from this) (by decide)
  | aw b => exact absurd (show 2 = 8 from this) (by decide)
def sp_Pr_turn (i : Nat) (cN cP cS cR cJ cA : Addr) : Sp := fun vs H Q E => ∃ x d, vs = [.ref x] ∧ PrAt cP cS cR cJ cA H x d ∧ (∀ s', nextS i d.S = some s' → ∀ st H', H st = none → (∀ b o, b ≠ x → H b = some o → H' b = some o) → PrAt cP cS cR cJ cA H' x { d with st := st, S := s' } → Q (.str (wd s')) H') ∧ (nextS i d.S = none → Ref1 cN "found" (.str (wd d.S)) H E)
theorem sc_Printer_mend : FnScope ["self"] ["self"] (defScope s_Printer_mend) := ⟨rfl, rfl, rfl, by decide +kernel, rfl, by decide +kernel, by decide +kernel⟩
theorem ok_Printer_mend {fa cState cReady cJammed cAway cStock cPrinter cBadLine cBusy cDry cGoesRound cNoHeap cNoPrinter cNotNow cNoWay cNowhere cOver cTooMuch cTwice cUnknown cHallError : Addr} {fd : FuncData} (F : Fun K "mend" "Printer.mend" s_Printer_mend fa fd) (T : Txt K mg cState cReady cJammed cAway cStock cPrinter cBadLine cBusy cDry cGoesRound cNoHeap cNoPrinter cNotNow cNoWay cNowhere cOver cTooMuch cTwice cUnknown cHallError) (D_Ready_mend : MtE P w K mg base 3 "mend" cReady ["self"] (sp_st cReady cJammed cAway cNotNow (fun s => nextS 1 s = none) 1)) (D_Jammed_mend : MtE P w K mg base 4 "mend" cJammed ["self"] (sp_st cReady cJammed cAway cNotNow (fun s => s = .jm) 1)) (D_Away_mend : MtE P w K mg base 3 "mend" cAway ["self"] (sp_st cReady cJammed cAway cNotNow (fun s => nextS 1 s = none) 1)) (D_Printer_stands : MtE P w K mg base 2 "stands" cPrinter ["self"] (sp_Pr_stands cPrinter cStock cReady cJammed cAway)) :
    FnOk P w K mg base (CXe P w) 5 fa fd ["self"] (sp_Pr_turn 1 cNotNow cPrinter cStock cReady cJammed cAway) := by
  refine F.okE sc_Printer_mend (fun vs H Q E h => ?_) (fun cdv A outer s H vs Q E hr h => ?_)
  · obtain ⟨x, d, rfl, _⟩ := h
    rfl
  obtain ⟨x, d, rfl, P, q, q2⟩ := h
  refine ⟨_, (pss_cons (ps_fld (pv 0) (pe_methE0 4 pass_def (hr.mono (by decide)) (pe_fld (pv 0) rfl)) rfl)
  (pss_one (ps_ret (pe_methE0 2 pass_def (hr.mono (by decide)) (pv 0))))), ?_⟩
  refine ⟨_, rfl, x, cPrinter, d.dx, _, _, rfl, P.o, T.cl_Printer, T.n_Printer_state, rfl, ?_⟩
  refine turn_st D_Ready_mend D_Jammed_mend D_Away_mend (by decide) (by decide) (by decide) rfl rfl (fun _ => rfl) T.cl_Ready T.cl_Jammed T.cl_Away (fun s => by cases s <;> rfl) P.s ⟨fun s' e p H1 sm np sa => ?_, q2⟩
  have P1 := P.same sm
  refine ⟨_, rfl, x, cPrinter, d.dx, _, rfl, P1.o, T.cl_Printer, T.n_Printer_state, (by show 8 < 1000; decide), ?_⟩
  rw [put_state]
  have kp : ∀ b o, b ≠ x → H b = some o → upd H1 x (.ins cPrinter d.dx ({ d with st := p } : PD).fs) b = some o := fun b o nb e => by rw [upd_ne nb]; exact sm _ _ e
  have P2 : PrAt cPrinter cStock cReady cJammed cAway (upd H1 x (.ins cPrinter d.dx ({ d with st := p } : PD).fs)) x { d with st := p, S := s' } := by
    obtain ⟨ds, hs⟩ := sa
    exact PrAt.turned (st := p) (il := d.ins) (S := s') (ts := d.tags) P kp upd_same ⟨ds, by rw [upd_ne (St_ne ⟨ds, hs⟩ P1.o)]; exact hs⟩ (kp _ _ (ne_of P.n P.o (by intro z; cases z)) P.n) P.lt
  exact ⟨_, rfl, x, _, d.dx, _, _, _, rfl, P2.o, rfl, T.cl_Printer, D_Printer_stands, x, _, rfl, P2, q s' e p _ np kp P2⟩
theorem sc_Printer_come : FnScope ["self"] ["self"] (defScope s_Printer_come) := ⟨rfl, rfl, rfl, by decide +kernel, rfl, by decide +kernel, by decide +kernel⟩
theorem ok_Printer_come {fa cState cReady cJammed cAway cStock cPrinter cBadLine cBusy cDry cGoesRound cNoHeap cNoPrinter cNotNow cNoWay cNowhere cOver cTooMuch cTwice cUnknown cHallError : Addr} {fd : FuncData} (F : Fun K "come" "Printer.come" s_Printer_come fa fd) (T : Txt K mg cState cReady cJammed cAway cStock cPrinter cBadLine cBusy cDry cGoesRound cNoHeap cNoPrinter cNotNow cNoWay cNowhere cOver cTooMuch cTwice cUnknown cHallError) (D_Ready_come : MtE P w K mg base 3 "come" cReady ["self"] (sp_st cReady cJammed cAway cNotNow (fun s => nextS 3 s = none) 3)) (D_Jammed_come : MtE P w K mg base 3 "come" cJammed ["self"] (sp_st cReady cJammed cAway cNotNow (fun s => nextS 3 s = none) 3)) (D_Away_come : MtE P w K mg base 4 "come" cAway ["self"] (sp_st cReady cJammed cAway cNotNow (fun s => ∃ b, s = .aw b) 3)) (D_Printer_stands : MtE P w K mg base 2 "stands" cPrinter ["self"] (sp_Pr_stands cPrinter cStock cReady cJammed cAway)) :
    FnOk P w K mg base (CXe P w) 5 fa fd ["self"] (sp_Pr_turn 3 cNotNow cPrinter cStock cReady cJammed cAway) := by
  refine F.okE sc_Printer_come (fun vs H Q E h => ?_) (fun cdv A outer s H vs Q E hr h => ?_)
  · obtain ⟨x, d, rfl, _⟩ := h
    rfl
  obtain ⟨x, d, rfl, P, q, q2⟩ := h
  refine ⟨_, (pss_cons (ps_fld (pv 0) (pe_methE0 4 pass_def (hr.mono (by decide)) (pe_fld (pv 0) rfl)) rfl)
  (pss_one (ps_ret (pe_methE0 2 pass_def (hr.mono (by decide)) (pv 0))))), ?_⟩
  refine ⟨_, rfl, x, cPrinter, d.dx, _, _, rfl, P.o, T.cl_Printer, T.n_Printer_state, rfl, ?_⟩
  refine turn_st D_Ready_come D_Jammed_come D_Away_come (by decide) (by decide) (by decide) rfl rfl (fun b => ⟨b, rfl⟩) T.cl_Ready T.cl_Jammed T.cl_Away (fun s => by cases s <;> rfl) P.s ⟨fun s' e p H1 sm np sa => ?_, q2⟩
  have P1 := P.same sm
  refine ⟨_, rfl, x, cPrinter, d.dx, _, rfl, P1.o, T.cl_Printer, T.n_Printer_state, (by show 8 < 1000; decide), ?_⟩
  rw [put_state]
  have kp : ∀ b o, b ≠ x → H b = some o → upd H1 x (.ins cPrinter d.dx ({ d with st := p } : PD).fs) b = some o := fun b o nb e => by rw [upd_ne nb]; exact sm _ _ e
  have P2 : PrAt cPrinter cStock cReady cJammed cAway (upd H1 x (.ins cPrinter d.dx ({ d with st := p } : PD).fs)) x { d with st := p, S := s' } := by
    obtain ⟨ds, hs⟩ := sa
    exact PrAt.turned (st := p) (il := d.ins) (S := s') (ts := d.tags) P kp upd_same ⟨ds, by rw [upd_ne (St_ne ⟨ds, hs⟩ P1.o)]; exact hs⟩ (kp _ _ (ne_of P.n P.o (by intro z; cases z)) P.n) P.lt
  exact ⟨_, rfl, x, _, d.dx, _, _, _, rfl, P2.o, rfl, T.cl_Printer, D_Printer_stands, x, _, rfl, P2, q s' e p _ np kp P2⟩
def sp_Pr_leave (cN cP cS cR cJ cA : Addr) : Sp := fun vs H Q E => ∃ x d, vs = [.ref x] ∧ PrAt cP cS cR cJ cA H x d ∧ (∀ s', nextS 2 d.S = some s' → ∀ st il H', H st = none → (∀ b o, b ≠ x → H b = some o → H' b = some o) → H il = none → PrAt cP cS cR cJ cA H' x { d with st := st, S := s', ins := il, tags := [] } → Q (.ref d.ins) H') ∧ (nextS 2 d.S = none → Ref1 cN "found" (.str (wd d.S)) H E)
theorem sc_Printer_leave : FnScope ["self", "lost"] ["self"] (defScope s_Printer_leave) := ⟨rfl, rfl, rfl, by decide +kernel, rfl, by decide +kernel, by decide +kernel⟩
theorem ok_Printer_leave {fa cState cReady cJammed cAway cStock cPrinter cBadLine cBusy cDry cGoesRound cNoHeap cNoPrinter cNotNow cNoWay cNowhere cOver cTooMuch cTwice cUnknown cHallError : Addr} {fd : FuncData} (F : Fun K "leave" "Printer.leave" s_Printer_leave fa fd) (T : Txt K mg cState cReady cJammed cAway cStock cPrinter cBadLine cBusy cDry cGoesRound cNoHeap cNoPrinter cNotNow cNoWay cNowhere cOver cTooMuch cTwice cUnknown cHallError) (D_Ready_leave : MtE P w K mg base 4 "leave" cReady ["self"] (sp_st cReady cJammed cAway cNotNow (fun s => s = .rd) 2)) (D_Jammed_leave : MtE P w K mg base 4 "leave" cJammed ["self"] (sp_st cReady cJammed cAway cNotNow (fun s => s = .jm) 2)) (D_Away_leave : MtE P w K mg base 3 "leave" cAway ["self"] (sp_st cReady cJammed cAway cNotNow (fun s => nextS 2 s = none) 2)) :
    FnOk P w K mg base (CXe P w) 5 fa fd ["self"] (sp_Pr_leave cNotNow cPrinter cStock cReady cJammed cAway) := by
  refine F.okE sc_Printer_leave (fun vs H Q E h => ?_) (fun cdv A outer s H vs Q E hr h => ?_)
  · obtain ⟨x, d, rfl, _⟩ := h
    rfl
  obtain ⟨x, d, rfl, P, q, q2⟩ := h
  refine ⟨_, (pss_cons (ps_fld (pv 0) (pe_methE0 4 pass_def (hr.mono (by decide)) (pe_fld (pv 0) rfl)) rfl)
  (pss_cons (ps_set (i := 1) sc_Printer_leave.nd rfl (by first | exact Or.inl rfl | exact Or.inr rfl) (pe_fld (pv 0) rfl))
  (pss_cons (ps_fld (pv 0) (pe_lst pa_nil) rfl)
  (pss_one (ps_ret (pv 1)))))), ?_⟩
  refine ⟨_, rfl, x, cPrinter, d.dx, _, _, rfl, P.o, T.cl_Printer, T.n_Printer_state, rfl, ?_⟩
  refine turn_st D_Ready_leave D_Jammed_leave D_Away_leave (by decide) (by decide) (by decide) rfl rfl (fun _ => rfl) T.cl_Ready T.cl_Jammed T.cl_Away (fun s => by cases s <;> rfl) P.s ⟨fun s' e p H1 sm np sa => ?_, q2⟩
  have P1 := P.same sm
  refine ⟨_, rfl, x, cPrinter, d.dx, _, rfl, P1.o, T.cl_Printer, T.n_Printer_state, (by show 8 < 1000; decide), ?_⟩
  rw [put_state]
  have kp : ∀ b o, b ≠ x → H b = some o → upd H1 x (.ins cPrinter d.dx ({ d with st := p } : PD).fs) b = some o := fun b o nb e => by rw [upd_ne nb]; exact sm _ _ e
  have ho : upd H1 x (.ins cPrinter d.dx ({ d with st := p } : PD).fs) x = some (.ins cPrinter d.dx ({ d with st := p } : PD).fs) := upd_same
  have hs : StAt cReady cJammed cAway (upd H1 x (.ins cPrinter d.dx ({ d with st := p } : PD).fs)) p s' := by
    obtain ⟨ds, hs⟩ := sa
    exact ⟨ds, by rw [upd_ne (St_ne ⟨ds, hs⟩ P1.o)]; exact hs⟩
  generalize upd H1 x (.ins cPrinter d.dx ({ d with st := p } : PD).fs) = H2 at kp ho hs ⊢
  refine ⟨_, rfl, x, cPrinter, d.dx, _, _, rfl, ho, T.cl_Printer, T.n_Printer_inside, rfl, ?_⟩
  refine ⟨Nat.zero_le _, fun il nil' => ?_⟩
  have s3 := same_new nil' (.lst [])
  have h3 : upd H2 il (.lst []) il = some (.lst []) := upd_same
  generalize upd H2 il (.lst []) = H3 at s3 h3 ⊢
  refine ⟨_, rfl, x, cPrinter, d.dx, _, rfl, s3 _ _ ho, T.cl_Printer, T.n_Printer_inside, (by show 8 < 1000; decide), ?_⟩
  rw [put_inside]
  have kp4 : ∀ b o, b ≠ x → H b = some o → upd H3 x (.ins cPrinter d.dx ({ d with st := p, ins := il } : PD).fs) b = some o := fun b o nb e => by rw [upd_ne nb]; exact s3 _ _ (kp b o nb e)
  have nil0 : H il = none := by
    cases e : H il with
    | none => rfl
    | some o =>
      by_cases c : il = x
      · rw [c, ho] at nil'; cases nil'
      · rw [kp il o c e] at nil'; cases nil'
  have nix : il ≠ x := Ne.symm (ne_of_none ho nil')
  refine ⟨_, rfl, q s' e p il _ np kp4 nil0 (PrAt.turned (st := p) (il := il) (S := s') (ts := []) P kp4 upd_same ?_ (by rw [upd_ne nix]; exact h3) (Nat.zero_le _))⟩
  obtain ⟨ds, hs⟩ := hs
  exact ⟨ds, by rw [upd_ne (St_ne (d := { d with st := p }) ⟨ds, hs⟩ ho)]; exact s3 _ _ hs⟩
def sp_Pr_jam (cN cT cP cS cR cJ cA : Addr) : Sp := fun vs H Q E => ∃ x d k, vs = [.ref x, .int (k : Nat)] ∧ PrAt cP cS cR cJ cA H x d ∧ (d.S ≠ .rd → Ref1 cN "found" (.str (wd d.S)) H E) ∧ (d.S = .rd → d.tags.length < k → Ref1 cT "name" (.str wiW) H E) ∧
  (d.S = .rd → k ≤ d.tags.length → ∀ t l1 l2 st il H', H st = none → H l1 = none → H l2 = none → l1 ≠ l2 → l1 ≠ il → l2 ≠ il → (∀ b o, b ≠ x → H b = some o → H' b = some o) → H il = none → H t = none → H' t = some (.tup [.ref l1, .ref l2]) → H' l1 = some (.lst (d.tags.take k)) → H' l2 = some (.lst (d.tags.drop k)) → PrAt cP cS cR cJ cA H' x { d with st := st, S := .jm, ins := il, tags := [] } → Q (.ref t) H')
theorem sc_Printer_jam : FnScope ["self", "saved", "jammed", "out", "lost"] ["self", "saved"] (defScope s_Printer_jam) := ⟨rfl, rfl, rfl, by decide +kernel, rfl, by decide +kernel, by decide +kernel⟩
theorem ok_Printer_jam {fa cState cReady cJammed cAway cStock cPrinter cBadLine cBusy cDry cGoesRound cNoHeap cNoPrinter cNotNow cNoWay cNowhere cOver cTooMuch cTwice cUnknown cHallError : Addr} {fd : FuncData} (F : Fun K "jam" "Printer.jam" s_Printer_jam fa fd) (T : Txt K mg cState cReady cJammed cAway cStock cPrinter cBadLine cBusy cDry cGoesRound cNoHeap cNoPrinter cNotNow cNoWay cNowhere cOver cTooMuch cTwice cUnknown cHallError) (X_TooMuch : MkXD P w K mg base 1 "TooMuch" cTooMuch ["self", "name"] (sp_one cTooMuch "name")) (D_Ready_jam : MtE P w K mg base 4 "jam" cReady ["self"] (sp_st cReady cJammed cAway cNotNow (fun s => s = .rd) 0)) (D_Jammed_jam : MtE P w K mg base 3 "jam" cJammed ["self"] (sp_st cReady cJammed cAway cNotNow (fun s => nextS 0 s = none) 0)) (D_Away_jam : MtE P w K mg base 3 "jam" cAway ["self"] (sp_st cReady cJammed cAway cNotNow (fun s => nextS 0 s = none) 0)) :
    FnOk P w K mg base (CXe P w) 5 fa fd ["self", "saved"] (sp_Pr_jam cNotNow cTooMuch cPrinter cStock cReady cJammed cAway) := by
  refine F.okE sc_Printer_jam (fun vs H Q E h => ?_) (fun cdv A outer s H vs Q E hr h => ?_)
  · obtain ⟨x, d, k, rfl, _⟩ := h
    rfl
  obtain ⟨x, d, k, rfl, P, q1, q2, q⟩ := h
  refine ⟨_, (pss_cons (ps_set (i := 2) sc_Printer_jam.nd rfl (by first | exact Or.inl rfl | exact Or.inr rfl) (pe_methE0 4 pass_def (hr.mono (by decide)) (pe_fld (pv 0) rfl)))
  (pss_cons (ps_if (pt_cmpR op_gt (pv 1) (pe_callB call_len_seq rfl T.len PySem.boot_len (pa_cons (pe_fld (pv 0) rfl) pa_nil)) (nomark _)) (pss_one (ps_raise raise_def rfl (pe_makeXD X_TooMuch (hr.mono (by decide)) rfl (pa_cons (pe_gs T.WITHIN rfl) pa_nil)))) pss_nil)
  (pss_cons (ps_set (i := 3) sc_Printer_jam.nd rfl (by first | exact Or.inl rfl | exact Or.inr rfl) (pe_slice sl_list (pe_fld (pv 0) rfl) po_none (po_some (pv 1))))
  (pss_cons (ps_set (i := 4) sc_Printer_jam.nd rfl (by first | exact Or.inl rfl | exact Or.inr rfl) (pe_slice sl_list (pe_fld (pv 0) rfl) (po_some (pv 1)) po_none))
  (pss_cons (ps_fld (pv 0) (pe_lst pa_nil) rfl)
  (pss_cons (ps_fld (pv 0) (pv 2) rfl)
  (pss_one (ps_ret (pe_tup (pa_cons (pv 3) (pa_cons (pv 4) pa_nil))))))))))), ?_⟩
  refine ⟨_, rfl, x, cPrinter, d.dx, _, _, rfl, P.o, T.cl_Printer, T.n_Printer_state, rfl, ?_⟩
  have nn : ∀ s, nextS 0 s = none ↔ s ≠ .rd := fun s => by cases s with
    | rd => exact ⟨fun z => (by cases z), fun z => absurd rfl z⟩
    | jm => exact ⟨fun _ z => (by cases z), fun _ => rfl⟩
    | aw b => exact ⟨fun _ z => (by cases z), fun _ => rfl⟩
  refine turn_st D_Ready_jam D_Jammed_jam D_Away_jam (by decide) (by decide) (by decide) rfl rfl (fun _ => rfl) T.cl_Ready T.cl_Jammed T.cl_Away (fun s => by cases s <;> rfl) P.s ⟨fun s' e p H1 sm np sa => ?_, fun e => q1 ((nn _).mp e)⟩
  have P1 := P.same sm
  have rd : d.S = .rd := Classical.byContradiction fun z => by rw [(nn _).mpr z] at e; cases e
  rw [rd] at e
  obtain rfl := Option.some.inj e
  refine ⟨_, rfl, _, rfl, x, cPrinter, d.dx, _, _, rfl, P1.o, T.cl_Printer, T.n_Printer_inside, rfl, d.ins, _, rfl, .inl (SqL.of P1.n), _, _, rfl, rfl, _, rfl, ?_⟩
  refine ite2 (fun c => raise_one T.x_TooMuch.m fun ea H' s1 _ g => q2 rd (by have := of_decide_eq_true c; omega) ea H' (sm.trans s1) g) (fun c => ?_)
  have hk : k ≤ d.tags.length := Nat.not_lt.mp fun z => c (decide_eq_true (by omega))
  refine ⟨_, rfl, x, cPrinter, d.dx, _, _, rfl, P1.o, T.cl_Printer, T.n_Printer_inside, rfl, ?_⟩
  refine ⟨_, rfl, _, rfl, d.ins, _, rfl, SqL.of P1.n, fun l1 nl1 => ?_⟩
  rw [cut_to]
  have s2 := same_new nl1 (.lst (d.tags.take k))
  have h2 : upd H1 l1 (.lst (d.tags.take k)) l1 = some (.lst (d.tags.take k)) := upd_same
  generalize upd H1 l1 (.lst (d.tags.take k)) = H2 at s2 h2 ⊢
  have P2 := P1.same s2
  refine ⟨_, rfl, x, cPrinter, d.dx, _, _, rfl, P2.o, T.cl_Printer, T.n_Printer_inside, rfl, ?_⟩
  refine ⟨_, rfl, _, rfl, d.ins, _, rfl, SqL.of P2.n, fun l2 nl2 => ?_⟩
  rw [cut_from]
  have s3 := same_new nl2 (.lst (d.tags.drop k))
  have h3 : upd H2 l2 (.lst (d.tags.drop k)) l2 = some (.lst (d.tags.drop k)) := upd_same
  generalize upd H2 l2 (.lst (d.tags.drop k)) = H3 at s3 h3 ⊢
  refine ⟨Nat.zero_le _, fun il nil' => ?_⟩
  have s4 := same_new nil' (.lst [])
  have h4 : upd H3 il (.lst []) il = some (.lst []) := upd_same
  generalize upd H3 il (.lst []) = H4 at s4 h4 ⊢
  have s14 := (s2.trans s3).trans s4
  have P4 := P1.same s14
  refine ⟨_, rfl, x, cPrinter, d.dx, _, rfl, P4.o, T.cl_Printer, T.n_Printer_inside, (by show 8 < 1000; decide), ?_⟩
  rw [put_inside]
  have kp5 : ∀ b o, b ≠ x → H4 b = some o → upd H4 x (.ins cPrinter d.dx ({ d with ins := il } : PD).fs) b = some o := fun b o nb e => by rw [upd_ne nb]; exact e
  have ho5 : upd H4 x (.ins cPrinter d.dx ({ d with ins := il } : PD).fs) x = some (.ins cPrinter d.dx ({ d with ins := il } : PD).fs) := upd_same
  generalize upd H4 x (.ins cPrinter d.dx ({ d with ins := il } : PD).fs) = H5 at kp5 ho5 ⊢
  refine ⟨_, rfl, _, rfl, x, cPrinter, d.dx, _, rfl, ho5, T.cl_Printer, T.n_Printer_state, (by show 8 < 1000; decide), ?_⟩
  rw [put_state]
  have kp6 : ∀ b o, b ≠ x → H5 b = some o → upd H5 x (.ins cPrinter d.dx ({ d with ins := il, st := p } : PD).fs) b = some o := fun b o nb e => by rw [upd_ne nb]; exact e
  have ho6 : upd H5 x (.ins cPrinter d.dx ({ d with ins := il, st := p } : PD).fs) x = some (.ins cPrinter d.dx ({ d with ins := il, st := p } : PD).fs) := upd_same
  generalize upd H5 x (.ins cPrinter d.dx ({ d with ins := il, st := p } : PD).fs) = H6 at kp6 ho6 ⊢
  have z2 : 2 ≤ sizeLine := small (by decide)
  refine ⟨_, rfl, _, rfl, z2, fun t nt => ?_⟩
  have s7 := same_new nt (.tup [.ref l1, .ref l2])
  have h7 : upd H6 t (.tup [.ref l1, .ref l2]) t = some (.tup [.ref l1, .ref l2]) := upd_same
  generalize upd H6 t (.tup [.ref l1, .ref l2]) = H7 at s7 h7 ⊢
  have kq : ∀ b o, b ≠ x → H4 b = some o → H7 b = some o := fun b o nb e => s7 _ _ (kp6 b o nb (kp5 b o nb e))
  have nx4 : ∀ l ys, H4 l = some (.lst ys) → l ≠ x := fun l ys e => ne_of e P4.o (by intro z; cases z)
  have e1 := (s3.trans s4) _ _ h2
  have e2 := s4 _ _ h3
  refine q rd hk t l1 l2 p il H7 np (sm.free nl1) (sm.free (s2.free nl2)) (ne_of_none h2 nl2) (ne_of_none (s3 _ _ h2) nil') (ne_of_none h3 nil') (fun b o nb e => kq b o nb (s14 _ _ (sm _ _ e))) (sm.free ((s2.trans s3).free nil')) ?_ h7 (kq _ _ (nx4 _ _ e1) e1) (kq _ _ (nx4 _ _ e2) e2) ?_
  · cases e : H t with
    | none => rfl
    | some o =>
      by_cases c : t = x
      · rw [c, ho6] at nt; cases nt
      · rw [kp6 t o c (kp5 t o c (s14 _ _ (sm _ _ e)))] at nt; cases nt
  · refine PrAt.turned (st := p) (il := il) (S := .jm) (ts := []) P4 kq (s7 _ _ ho6) ?_ (kq _ _ (nx4 _ _ h4) h4) (Nat.zero_le _)
    obtain ⟨ds, hs⟩ := id (sa.same s14)
    exact ⟨ds, kq _ _ (St_ne (sa.same s14) P4.o) hs⟩

end
end My

namespace My
open PySem L2
open Blk (sg sg_inj sg_app)
section
variable {P : Program} {w : World} {K : PySem.W.Frag} {mg : Str → Option Value} {base : Heap}
theorem free_x {H Ha : Hp} {x b : Addr} {ox : HO} (k : ∀ b o, b ≠ x → H b = some o → Ha b = some o) (hx : Ha x = some ox) (nb : Ha b = none) : H b = none := by
  cases e : H b with
  | none => rfl
  | some o =>
    by_cases c : b = x
    · rw [c, hx] at nb; cases nb
    · rw [k b o c e] at nb; cases nb
def sp_Pr_init (cP cS cR cJ cA : Addr) : Sp := fun vs H Q _ => ∃ (x dx cl pp : Addr) (nm : Str) (path rb rc : Int) (cs : List V) (rs : List (Str × Int)), vs = [.ref x, .str nm, .ref cl, .int path, .ref pp, .int rb, .int rc] ∧ H x = some (.ins cP dx []) ∧ H cl = some (.lst cs) ∧ H pp = some (.dK (dI rs)) ∧ (rs.map (·.1)).Nodup ∧ rs.length ≤ 900 ∧
  ∀ d H', (∀ b o, b ≠ x → H b = some o → H' b = some o) → PrAt cP cS cR cJ cA H' x d → d.name = nm → d.path = path → d.rs = rs → d.am = rs.map (fun p => (p.1, 0)) → d.rb = rb → d.rc = rc → d.b = 0 → d.c = 0 → d.tags = [] → d.S = .rd → H d.tr1 = none → H d.tr2 = none → H d.ik1 = none → H d.ik2 = none → H d.ins = none → H d.tr = none → H d.ik = none → H d.st = none → H d.cn = none → H d.rm = none → H' d.cn = some (.tup cs) → H' d.rm = some (.dK (dI rs)) → d.rm ≠ d.tr2 → d.rm ≠ d.ik2 → Q .non H'
theorem sc_Printer_init : FnScope ["self", "name", "can", "path", "papers", "black", "colour"] ["self", "name", "can", "path", "papers", "black", "colour"] (defScope s_Printer_init) := ⟨rfl, rfl, rfl, by decide +kernel, rfl, by decide +kernel, by decide +kernel⟩
theorem ok_Printer_init {fa cState cReady cJammed cAway cStock cPrinter cBadLine cBusy cDry cGoesRound cNoHeap cNoPrinter cNotNow cNoWay cNowhere cOver cTooMuch cTwice cUnknown cHallError : Addr} {fd : FuncData} (F : Fun K "__init__" "Printer.__init__" s_Printer_init fa fd) (T : Txt K mg cState cReady cJammed cAway cStock cPrinter cBadLine cBusy cDry cGoesRound cNoHeap cNoPrinter cNotNow cNoWay cNowhere cOver cTooMuch cTwice cUnknown cHallError) (M_Stock : MkD P w K mg base 1 "Stock" cStock ["self", "rooms"] (sp_Stock_init cStock)) (M_Ready : MkD P w K mg base 2 "Ready" cReady ["self"] (sp_init0 cReady (fsOf .rd))) :
    FnOk P w K mg base CX0 4 fa fd ["self", "name", "can", "path", "papers", "black", "colour"] (sp_Pr_init cPrinter cStock cReady cJammed cAway) := by
  refine F.ok sc_Printer_init (fun vs H Q E h => ?_) (fun cdv A outer s H vs Q E hr h => ?_)
  · obtain ⟨x, dx, cl, pp, nm, path, rb, rc, cs, rs, rfl, _⟩ := h
    rfl
  obtain ⟨x, dx, cl, pp, nm, path, rb, rc, cs, rs, rfl, hx, hcl, hpp, nd, lr, q⟩ := h
  refine ⟨_, (pss_cons (ps_fld (pv 0) (pv 1) rfl)
  (pss_cons (ps_fld (pv 0) (pe_callTy call_tuple_of rfl T.tuple bt_tuple (pa_cons (pv 2) pa_nil)) rfl)
  (pss_cons (ps_fld (pv 0) (pv 3) rfl)
  (pss_cons (ps_fld (pv 0) (pe_callTy call_dict_copy rfl T.dict bt_dict (pa_cons (pv 4) pa_nil)) rfl)
  (pss_cons (ps_fld (pv 0) (pe_makeD M_Stock (hr.mono (by decide)) rfl (pa_cons (pv 4) pa_nil)) rfl)
  (pss_cons (ps_fld (pv 0) (pe_makeD M_Stock (hr.mono (by decide)) rfl (pa_cons (pe_disp (pps_cons (pe_gs T.BLACK rfl) (pv 5) (pps_cons (pe_gs T.COLOUR rfl) (pv 6) pps_nil)) rfl rfl (by decide) (by decide)) pa_nil)) rfl)
  (pss_cons (ps_fld (pv 0) (pe_makeD0 M_Ready (hr.mono (by decide)) rfl) rfl)
  (pss_one (ps_fld (pv 0) (pe_lst pa_nil) rfl))))))))), ?_⟩
  have ncx : cl ≠ x := ne_of hcl hx (by intro z; cases z)
  have npx : pp ≠ x := ne_of hpp hx (by intro z; cases z)
  refine ⟨_, rfl, _, rfl, x, cPrinter, dx, _, rfl, hx, T.cl_Printer, T.n_Printer_name, (by show 0 < 1000; decide), ?_⟩
  rw [putF_add (by show ¬ ("name" : Str) ∈ ([] : List Str); decide +kernel), List.nil_append]
  have k1 : ∀ b o, b ≠ x → H b = some o → upd H x (.ins cPrinter dx [("name", V.str nm)]) b = some o := fun b o nb e => by rw [upd_ne nb]; exact e
  have hx1 : upd H x (.ins cPrinter dx [("name", V.str nm)]) x = some (.ins cPrinter dx [("name", V.str nm)]) := upd_same
  generalize upd H x (.ins cPrinter dx [("name", V.str nm)]) = H1 at k1 hx1 ⊢
  refine ⟨_, rfl, cl, _, rfl, .inl ⟨SqL.of (k1 _ _ ncx hcl), fun cn ncn => ?_⟩⟩
  have s2 := same_new ncn (.tup cs)
  have hcn2 : upd H1 cn (.tup cs) cn = some (.tup cs) := upd_same
  have ncnx : cn ≠ x := Ne.symm (ne_of_none hx1 ncn)
  generalize upd H1 cn (.tup cs) = H2 at s2 hcn2 ⊢
  refine ⟨_, rfl, x, cPrinter, dx, _, rfl, s2 _ _ hx1, T.cl_Printer, T.n_Printer_can, (by show 1 < 1000; decide), ?_⟩
  rw [putF_add (by show ¬ ("can" : Str) ∈ (["name"] : List Str); decide +kernel)]
  have k3 : ∀ b o, b ≠ x → H1 b = some o → upd H2 x (.ins cPrinter dx (([("name", V.str nm)] : List (Str × V)) ++ ([("can", V.ref cn)] : List (Str × V)))) b = some o := fun b o nb e => by rw [upd_ne nb]; exact s2 _ _ e
  have hx3 : upd H2 x (.ins cPrinter dx (([("name", V.str nm)] : List (Str × V)) ++ ([("can", V.ref cn)] : List (Str × V)))) x = some (.ins cPrinter dx [("name", V.str nm), ("can", V.ref cn)]) := upd_same
  have hcn3 : upd H2 x (.ins cPrinter dx (([("name", V.str nm)] : List (Str × V)) ++ ([("can", V.ref cn)] : List (Str × V)))) cn = some (.tup cs) := by rw [upd_ne ncnx]; exact hcn2
  generalize upd H2 x (.ins cPrinter dx (([("name", V.str nm)] : List (Str × V)) ++ ([("can", V.ref cn)] : List (Str × V)))) = H3 at k3 hx3 hcn3 ⊢
  refine ⟨_, rfl, _, rfl, x, cPrinter, dx, _, rfl, hx3, T.cl_Printer, T.n_Printer_path, (by show 2 < 1000; decide), ?_⟩
  rw [putF_add (by show ¬ ("path" : Str) ∈ (["name", "can"] : List Str); decide +kernel)]
  have k4 : ∀ b o, b ≠ x → H3 b = some o → upd H3 x (.ins cPrinter dx (([("name", V.str nm), ("can", V.ref cn)] : List (Str × V)) ++ ([("path", V.int path)] : List (Str × V)))) b = some o := fun b o nb e => by rw [upd_ne nb]; exact e
  have hx4 : upd H3 x (.ins cPrinter dx (([("name", V.str nm), ("can", V.ref cn)] : List (Str × V)) ++ ([("path", V.int path)] : List (Str × V)))) x = some (.ins cPrinter dx [("name", V.str nm), ("can", V.ref cn), ("path", V.int path)]) := upd_same
  generalize upd H3 x (.ins cPrinter dx (([("name", V.str nm), ("can", V.ref cn)] : List (Str × V)) ++ ([("path", V.int path)] : List (Str × V)))) = H4 at k4 hx4 ⊢
  have k04 : ∀ b o, b ≠ x → H b = some o → H4 b = some o := fun b o nb e => k4 b o nb (k3 b o nb (k1 b o nb e))
  have hpp4 := k04 _ _ npx hpp
  refine ⟨_, rfl, pp, _, rfl, .inl hpp4, fun rm nrm => ?_⟩
  have s5 := same_new nrm (.dK (dI rs))
  have hrm5 : upd H4 rm (.dK (dI rs)) rm = some (.dK (dI rs)) := upd_same
  have nrmx : rm ≠ x := Ne.symm (ne_of_none hx4 nrm)
  generalize upd H4 rm (.dK (dI rs)) = H5 at s5 hrm5 ⊢
  refine ⟨_, rfl, x, cPrinter, dx, _, rfl, s5 _ _ hx4, T.cl_Printer, T.n_Printer_rooms, (by show 3 < 1000; decide), ?_⟩
  rw [putF_add (by show ¬ ("rooms" : Str) ∈ (["name", "can", "path"] : List Str); decide +kernel)]
  have k6 : ∀ b o, b ≠ x → H4 b = some o → upd H5 x (.ins cPrinter dx (([("name", V.str nm), ("can", V.ref cn), ("path", V.int path)] : List (Str × V)) ++ ([("rooms", V.ref rm)] : List (Str × V)))) b = some o := fun b o nb e => by rw [upd_ne nb]; exact s5 _ _ e
  have hx6 : upd H5 x (.ins cPrinter dx (([("name", V.str nm), ("can", V.ref cn), ("path", V.int path)] : List (Str × V)) ++ ([("rooms", V.ref rm)] : List (Str × V)))) x = some (.ins cPrinter dx [("name", V.str nm), ("can", V.ref cn), ("path", V.int path), ("rooms", V.ref rm)]) := upd_same
  have hrm6 : upd H5 x (.ins cPrinter dx (([("name", V.str nm), ("can", V.ref cn), ("path", V.int path)] : List (Str × V)) ++ ([("rooms", V.ref rm)] : List (Str × V)))) rm = some (.dK (dI rs)) := by rw [upd_ne nrmx]; exact hrm5
  generalize upd H5 x (.ins cPrinter dx (([("name", V.str nm), ("can", V.ref cn), ("path", V.int path)] : List (Str × V)) ++ ([("rooms", V.ref rm)] : List (Str × V)))) = H6 at k6 hx6 hrm6 ⊢
  have k06 : ∀ b o, b ≠ x → H b = some o → H6 b = some o := fun b o nb e => k6 b o nb (k04 b o nb e)
  have free6 : ∀ b, H6 b = none → H b = none := fun b nb => by
    cases e : H b with
    | none => rfl
    | some o =>
      by_cases c : b = x
      · rw [c, hx6] at nb; cases nb
      · rw [k06 b o c e] at nb; cases nb
  refine ⟨_, rfl, fun tr dt ntr ndt nde => ?_⟩
  have ki : ∀ b o, H6 b = some o → b ≠ tr ∧ upd (upd H6 dt (.own tr)) tr (.ins cStock dt []) b = some o := fun b o e => by
    have b1 : b ≠ tr := ne_of_none e ntr
    exact ⟨b1, by rw [upd_ne b1, upd_ne (ne_of_none e ndt)]; exact e⟩
  refine ⟨tr, dt, pp, rs, rfl, upd_same, (ki _ _ (k06 _ _ npx hpp)).2, nd, by omega, fun tr1 tr2 H7 kp7 nr nm' n12 ht7 hr7 hm7 => ⟨rfl, ?_⟩⟩
  have s7 : Same H6 H7 := fun b o e => kp7 b o (ki b o e).1 (ki b o e).2
  have ntr1 : H6 tr1 = none := by
    cases e : H6 tr1 with
    | none => rfl
    | some o => rw [(ki _ _ e).2] at nr; cases nr
  have ntr2 : H6 tr2 = none := by
    cases e : H6 tr2 with
    | none => rfl
    | some o => rw [(ki _ _ e).2] at nm'; cases nm'
  refine ⟨_, rfl, x, cPrinter, dx, _, rfl, s7 _ _ hx6, T.cl_Printer, T.n_Printer_trays, (by show 4 < 1000; decide), ?_⟩
  rw [putF_add (by show ¬ ("trays" : Str) ∈ (["name", "can", "path", "rooms"] : List Str); decide +kernel)]
  have hx7 := s7 _ _ hx6
  have ntx : tr ≠ x := Ne.symm (ne_of_none hx6 ntr)
  have nt1x : tr1 ≠ x := Ne.symm (ne_of_none hx6 ntr1)
  have nt2x : tr2 ≠ x := Ne.symm (ne_of_none hx6 ntr2)
  have k8 : ∀ b o, b ≠ x → H7 b = some o → upd H7 x (.ins cPrinter dx (([("name", V.str nm), ("can", V.ref cn), ("path", V.int path), ("rooms", V.ref rm)] : List (Str × V)) ++ ([("trays", V.ref tr)] : List (Str × V)))) b = some o := fun b o nb e => by rw [upd_ne nb]; exact e
  have hx8 : upd H7 x (.ins cPrinter dx (([("name", V.str nm), ("can", V.ref cn), ("path", V.int path), ("rooms", V.ref rm)] : List (Str × V)) ++ ([("trays", V.ref tr)] : List (Str × V)))) x = some (.ins cPrinter dx [("name", V.str nm), ("can", V.ref cn), ("path", V.int path), ("rooms", V.ref rm), ("trays", V.ref tr)]) := upd_same
  generalize upd H7 x (.ins cPrinter dx (([("name", V.str nm), ("can", V.ref cn), ("path", V.int path), ("rooms", V.ref rm)] : List (Str × V)) ++ ([("trays", V.ref tr)] : List (Str × V)))) = H8 at k8 hx8 ⊢
  have ht8 := k8 _ _ ntx ht7
  have hr8 := k8 _ _ nt1x hr7
  have hm8 := k8 _ _ nt2x hm7
  have free8 : ∀ b, H8 b = none → H6 b = none := fun b nb => by
    cases e : H6 b with
    | none => rfl
    | some o =>
      by_cases c : b = x
      · rw [c, hx8] at nb; cases nb
      · rw [k8 b o c (s7 _ _ e)] at nb; cases nb
  refine fun ip nip => ?_
  have s9 := same_new nip (.dK [])
  have h9 : upd H8 ip (.dK []) ip = some (.dK []) := upd_same
  refine ⟨_, rfl, _, rfl, h9, [(Sum.inr blW, .int rb), (Sum.inr coW, .int rc)], rfl, (by show 2 ≤ 15; decide), ?_⟩
  rw [mergeK_new (ks := [Sum.inr blW, Sum.inr coW]) rfl (by decide +kernel)]
  have s10 : Same H8 (upd (upd H8 ip (.dK [])) ip (.dK ([] ++ [((Sum.inr blW : Key), V.int rb), (Sum.inr coW, V.int rc)]))) := same_on nip s9 _
  have h10 : upd (upd H8 ip (.dK [])) ip (.dK ([] ++ [((Sum.inr blW : Key), V.int rb), (Sum.inr coW, V.int rc)])) ip = some (.dK (dI (inkL rb rc))) := upd_same
  generalize upd (upd H8 ip (.dK [])) ip (.dK ([] ++ [((Sum.inr blW : Key), V.int rb), (Sum.inr coW, V.int rc)])) = H10 at s10 h10 ⊢
  refine fun ik di nik ndi ndie => ?_
  have kj : ∀ b o, H10 b = some o → b ≠ ik ∧ upd (upd H10 di (.own ik)) ik (.ins cStock di []) b = some o := fun b o e => by
    have b1 : b ≠ ik := ne_of_none e nik
    exact ⟨b1, by rw [upd_ne b1, upd_ne (ne_of_none e ndi)]; exact e⟩
  have ndk : ((inkL rb rc).map (·.1)).Nodup := by
    show [blW, coW].Nodup
    decide +kernel
  refine ⟨ik, di, ip, inkL rb rc, rfl, upd_same, (kj _ _ h10).2, ndk, by show 2 ≤ 1000; decide, fun ik1 ik2 H11 kp11 nr1 nm1 n12' hi11 hr11 hm11 => ⟨rfl, ?_⟩⟩
  have s11 : Same H10 H11 := fun b o e => kp11 b o (kj b o e).1 (kj b o e).2
  have nik1 : H10 ik1 = none := by
    cases e : H10 ik1 with
    | none => rfl
    | some o => rw [(kj _ _ e).2] at nr1; cases nr1
  have nik2 : H10 ik2 = none := by
    cases e : H10 ik2 with
    | none => rfl
    | some o => rw [(kj _ _ e).2] at nm1; cases nm1
  have s811 := s10.trans s11
  refine ⟨_, rfl, x, cPrinter, dx, _, rfl, s811 _ _ hx8, T.cl_Printer, T.n_Printer_inks, (by show 5 < 1000; decide), ?_⟩
  rw [putF_add (by show ¬ ("inks" : Str) ∈ (["name", "can", "path", "rooms", "trays"] : List Str); decide +kernel)]
  have k12 : ∀ b o, b ≠ x → H11 b = some o → upd H11 x (.ins cPrinter dx (([("name", V.str nm), ("can", V.ref cn), ("path", V.int path), ("rooms", V.ref rm), ("trays", V.ref tr)] : List (Str × V)) ++ ([("inks", V.ref ik)] : List (Str × V)))) b = some o := fun b o nb e => by rw [upd_ne nb]; exact e
  have hx12 : upd H11 x (.ins cPrinter dx (([("name", V.str nm), ("can", V.ref cn), ("path", V.int path), ("rooms", V.ref rm), ("trays", V.ref tr)] : List (Str × V)) ++ ([("inks", V.ref ik)] : List (Str × V)))) x = some (.ins cPrinter dx [("name", V.str nm), ("can", V.ref cn), ("path", V.int path), ("rooms", V.ref rm), ("trays", V.ref tr), ("inks", V.ref ik)]) := upd_same
  generalize upd H11 x (.ins cPrinter dx (([("name", V.str nm), ("can", V.ref cn), ("path", V.int path), ("rooms", V.ref rm), ("trays", V.ref tr)] : List (Str × V)) ++ ([("inks", V.ref ik)] : List (Str × V)))) = H12 at k12 hx12 ⊢
  have hx10 := s10 _ _ hx8
  have nikx : ik ≠ x := Ne.symm (ne_of_none hx10 nik)
  have nik1x : ik1 ≠ x := Ne.symm (ne_of_none hx10 nik1)
  have nik2x : ik2 ≠ x := Ne.symm (ne_of_none hx10 nik2)
  refine fun st ds nst nds ndse => ⟨st, ds, rfl, upd_same, ⟨rfl, ?_⟩⟩
  have s13 : Same H12 (upd (upd (upd H12 ds (.own st)) st (.ins cReady ds [])) st (.ins cReady ds (fsOf .rd))) := fun b o e => by
    have b1 : b ≠ st := ne_of_none e nst
    rw [upd_ne b1, upd_ne b1, upd_ne (ne_of_none e nds)]
    exact e
  have h13 : upd (upd (upd H12 ds (.own st)) st (.ins cReady ds [])) st (.ins cReady ds (fsOf .rd)) st = some (.ins cReady ds (fsOf .rd)) := upd_same
  generalize upd (upd (upd H12 ds (.own st)) st (.ins cReady ds [])) st (.ins cReady ds (fsOf .rd)) = H13 at s13 h13 ⊢
  refine ⟨_, rfl, x, cPrinter, dx, _, rfl, s13 _ _ hx12, T.cl_Printer, T.n_Printer_state, (by show 6 < 1000; decide), ?_⟩
  rw [putF_add (by show ¬ ("state" : Str) ∈ (["name", "can", "path", "rooms", "trays", "inks"] : List Str); decide +kernel)]
  have k14 : ∀ b o, b ≠ x → H13 b = some o → upd H13 x (.ins cPrinter dx (([("name", V.str nm), ("can", V.ref cn), ("path", V.int path), ("rooms", V.ref rm), ("trays", V.ref tr), ("inks", V.ref ik)] : List (Str × V)) ++ ([("state", V.ref st)] : List (Str × V)))) b = some o := fun b o nb e => by rw [upd_ne nb]; exact e
  have hx14 : upd H13 x (.ins cPrinter dx (([("name", V.str nm), ("can", V.ref cn), ("path", V.int path), ("rooms", V.ref rm), ("trays", V.ref tr), ("inks", V.ref ik)] : List (Str × V)) ++ ([("state", V.ref st)] : List (Str × V)))) x = some (.ins cPrinter dx [("name", V.str nm), ("can", V.ref cn), ("path", V.int path), ("rooms", V.ref rm), ("trays", V.ref tr), ("inks", V.ref ik), ("state", V.ref st)]) := upd_same
  generalize upd H13 x (.ins cPrinter dx (([("name", V.str nm), ("can", V.ref cn), ("path", V.int path), ("rooms", V.ref rm), ("trays", V.ref tr), ("inks", V.ref ik)] : List (Str × V)) ++ ([("state", V.ref st)] : List (Str × V)))) = H14 at k14 hx14 ⊢
  have nstx : st ≠ x := Ne.symm (ne_of_none hx12 nst)
  refine ⟨Nat.zero_le _, fun il nil' => ?_⟩
  have s15 := same_new nil' (.lst [])
  have h15 : upd H14 il (.lst []) il = some (.lst []) := upd_same
  generalize upd H14 il (.lst []) = H15 at s15 h15 ⊢
  have hx15 := s15 _ _ hx14
  refine ⟨_, rfl, x, cPrinter, dx, _, rfl, hx15, T.cl_Printer, T.n_Printer_inside, (by show 7 < 1000; decide), ?_⟩
  rw [putF_add (by show ¬ ("inside" : Str) ∈ (["name", "can", "path", "rooms", "trays", "inks", "state"] : List Str); decide +kernel)]
  have nilx : il ≠ x := Ne.symm (ne_of_none hx14 nil')
  have k16 : ∀ b o, b ≠ x → H15 b = some o → upd H15 x (.ins cPrinter dx (([("name", V.str nm), ("can", V.ref cn), ("path", V.int path), ("rooms", V.ref rm), ("trays", V.ref tr), ("inks", V.ref ik), ("state", V.ref st)] : List (Str × V)) ++ ([("inside", V.ref il)] : List (Str × V)))) b = some o := fun b o nb e => by rw [upd_ne nb]; exact e
  have hx16 : upd H15 x (.ins cPrinter dx (([("name", V.str nm), ("can", V.ref cn), ("path", V.int path), ("rooms", V.ref rm), ("trays", V.ref tr), ("inks", V.ref ik), ("state", V.ref st)] : List (Str × V)) ++ ([("inside", V.ref il)] : List (Str × V)))) x = some (.ins cPrinter dx [("name", V.str nm), ("can", V.ref cn), ("path", V.int path), ("rooms", V.ref rm), ("trays", V.ref tr), ("inks", V.ref ik), ("state", V.ref st), ("inside", V.ref il)]) := upd_same
  generalize upd H15 x (.ins cPrinter dx (([("name", V.str nm), ("can", V.ref cn), ("path", V.int path), ("rooms", V.ref rm), ("trays", V.ref tr), ("inks", V.ref ik), ("state", V.ref st)] : List (Str × V)) ++ ([("inside", V.ref il)] : List (Str × V)))) = H16 at k16 hx16 ⊢
  have e12 : ∀ b o, b ≠ x → H12 b = some o → H16 b = some o := fun b o nb e => k16 b o nb (s15 _ _ (k14 b o nb (s13 _ _ e)))
  have e8 : ∀ b o, b ≠ x → H8 b = some o → H16 b = some o := fun b o nb e => e12 b o nb (k12 b o nb (s811 _ _ e))
  have e6 : ∀ b o, b ≠ x → H6 b = some o → H16 b = some o := fun b o nb e => e8 b o nb (k8 b o nb (s7 _ _ e))
  have f10 : ∀ b, H10 b = none → H6 b = none := fun b nb => free8 b (s10.free nb)
  have f14 : ∀ b, H14 b = none → H6 b = none := fun b nb => by
    cases e : H6 b with
    | none => rfl
    | some o =>
      by_cases c : b = x
      · rw [c, hx14] at nb; cases nb
      · rw [k14 b o c (s13 _ _ (k12 b o c (s811 _ _ (k8 b o c (s7 _ _ e)))))] at nb; cases nb
  have hm10 := s10 _ _ hm8
  have hr10 := s10 _ _ hr8
  refine q ⟨dx, cn, rm, tr, tr1, tr2, ik, ik1, ik2, st, il, nm, path, rs, rs.map fun p => (p.1, 0), rb, rc, 0, 0, [], .rd⟩ H16 (fun b o nb e => e6 b o nb (k06 b o nb e)) ?_ rfl rfl rfl rfl rfl rfl rfl rfl rfl rfl (free6 _ ntr1) (free6 _ ntr2) (free6 _ (f10 _ nik1)) (free6 _ (f10 _ nik2)) (free6 _ (f14 _ nil')) (free6 _ ntr) (free6 _ (f10 _ nik)) (free_x (fun b o nb e => k12 b o nb (s811 _ _ (k8 b o nb (s7 _ _ (k06 b o nb e))))) hx12 nst) (free_x k1 hx1 ncn) (free_x k04 hx4 nrm) (e6 _ _ ncnx (k6 _ _ ncnx (k4 _ _ ncnx hcn3))) (e6 _ _ nrmx hrm6) (ne_of_none hrm6 ntr2) (ne_of_none (s10 _ _ (k8 _ _ nrmx (s7 _ _ hrm6))) nik2)
  exact { o := hx16, T := ⟨⟨dt, e8 _ _ ntx ht8⟩, e8 _ _ nt1x hr8, e8 _ _ nt2x hm8, n12⟩, I := ⟨⟨di, e12 _ _ nikx (k12 _ _ nikx hi11)⟩, e12 _ _ nik1x (k12 _ _ nik1x hr11), e12 _ _ nik2x (k12 _ _ nik2x hm11), n12'⟩, s := ⟨ds, k16 _ _ nstx (s15 _ _ (k14 _ _ nstx h13))⟩, n := k16 _ _ nilx h15, ka := by rw [List.map_map]; rfl, la := by rw [List.length_map]; exact lr, lt := Nat.zero_le _, n22 := ne_of_none hm10 nik2, n21 := ne_of_none hm10 nik1, n12 := ne_of_none hr10 nik2 }

end
end My

namespace My
open PySem L2
open Blk (sg sg_inj sg_app)
section
variable {P : Program} {w : World} {K : PySem.W.Frag} {mg : Str → Option Value} {base : Heap}
theorem eL : (Str.ofString "abcdefghijklmnopqrstuvwxyz").cps.toList = low := by decide +kernel
theorem eF : (Str.ofString "0123456789").cps.toList = fig := by decide +kernel

end
end My

namespace My
open PySem L2
open Blk (sg sg_inj sg_app)
section
variable {P : Program} {w : World} {K : PySem.W.Frag} {mg : Str → Option Value} {base : Heap}
def sp__law_names (K : PySem.W.Frag) : Sp := fun vs H Q _ => ∃ (a : Addr) (k : Int) (m : Nat), vs = [.ref a, .int k, .int (m : Int)] ∧ Scr K H a ∧ 0 ≤ k ∧ k ≤ 1000 ∧ m ≤ 6 ∧ ∀ (p : Addr) (ns : List Str) (H' : Hp), Same H H' → H p = none → H' p = some (.lst (ns.map V.str)) → NamesOk ns m → Q (.ref p) H'
theorem sc__law_names : FnScope ["_law_script", "_law_k", "_law_many_here", "_law_letters", "_law_size", "_law_place", "_law_rest", "_law_start", "_law_first", "_law_names_here", "_law_j", "_law_signs"] ["_law_script", "_law_k", "_law_many_here"] (defScope s__law_names) := ⟨rfl, rfl, rfl, by decide +kernel, rfl, by decide +kernel, by decide +kernel⟩
theorem ok__law_names {fa cState cReady cJammed cAway cStock cPrinter cBadLine cBusy cDry cGoesRound cNoHeap cNoPrinter cNotNow cNoWay cNowhere cOver cTooMuch cTwice cUnknown cHallError : Addr} {fd : FuncData} (F : Fun K "_law_names" "_law_names" s__law_names fa fd) (T : Txt K mg cState cReady cJammed cAway cStock cPrinter cBadLine cBusy cDry cGoesRound cNoHeap cNoPrinter cNotNow cNoWay cNowhere cOver cTooMuch cTwice cUnknown cHallError) (D__law_by : Dfn P w K mg base 2 "_law_by" ["_law_script", "_law_k", "_law_many_here"] (sp__law_by K)) :
    FnOk P w K mg base CX0 3 fa fd ["_law_script", "_law_k", "_law_many_here"] (sp__law_names K) := by
  refine F.ok sc__law_names (fun vs H Q E h => ?_) (fun cdv A outer s H vs Q E hr h => ?_)
  · obtain ⟨a, k, m, rfl, _⟩ := h
    rfl
  obtain ⟨a, k, m, rfl, hS, k0, k1, m1, q⟩ := h
  refine ⟨_, (pss_cons (ps_set (i := 3) sc__law_names.nd rfl (by first | exact Or.inl rfl | exact Or.inr rfl) pe_str)
  (pss_cons (ps_if (pt_cmpR op_eq (pe_callD D__law_by (hr.mono (by decide)) rfl (pa_cons (pv 0) (pa_cons (pv 1) (pa_cons pe_int pa_nil)))) pe_int (nomark _)) (pss_one (ps_ret (pe_slice sl_list (pe_lst (pa_cons pe_str (pa_cons pe_str (pa_cons pe_str (pa_cons pe_str (pa_cons pe_str (pa_cons pe_str pa_nil))))))) po_none (po_some (pv 2))))) pss_nil)
  (pss_cons (ps_set (i := 4) sc__law_names.nd rfl (by first | exact Or.inl rfl | exact Or.inr rfl) (pe_op op_add pe_int (pe_callD D__law_by (hr.mono (by decide)) rfl (pa_cons (pv 0) (pa_cons (pe_op op_add (pv 1) pe_int) (pa_cons pe_int pa_nil))))))
  (pss_cons (ps_set (i := 5) sc__law_names.nd rfl (by first | exact Or.inl rfl | exact Or.inr rfl) (pe_callD D__law_by (hr.mono (by decide)) rfl (pa_cons (pv 0) (pa_cons (pe_op op_add (pv 1) pe_int) (pa_cons (pv 4) pa_nil)))))
  (pss_cons (ps_set (i := 6) sc__law_names.nd rfl (by first | exact Or.inl rfl | exact Or.inr rfl) (pe_ix ix_strA (pe_op op_add_str (pv 3) pe_str) (pe_callD D__law_by (hr.mono (by decide)) rfl (pa_cons (pv 0) (pa_cons (pe_op op_add (pv 1) pe_int) (pa_cons pe_int pa_nil)))) (fun _ _ => rfl)))
  (pss_cons (ps_set (i := 7) sc__law_names.nd rfl (by first | exact Or.inl rfl | exact Or.inr rfl) (pe_callD D__law_by (hr.mono (by decide)) rfl (pa_cons (pv 0) (pa_cons (pe_op op_add (pv 1) pe_int) (pa_cons pe_int pa_nil)))))
  (pss_cons (ps_set (i := 8) sc__law_names.nd rfl (by first | exact Or.inl rfl | exact Or.inr rfl) (pe_ix ix_strA (pv 3) (pe_callD D__law_by (hr.mono (by decide)) rfl (pa_cons (pv 0) (pa_cons (pe_op op_add (pv 1) pe_int) (pa_cons pe_int pa_nil)))) (fun _ _ => rfl)))
  (pss_cons (ps_set (i := 9) sc__law_names.nd rfl (by first | exact Or.inl rfl | exact Or.inr rfl) (pe_lst pa_nil))
  (pss_cons (ps_for PassesOwn.never rfl (pi_range1 rfl T.range (pa_cons (pv 2) pa_nil)) (pg_name (i := 10) sc__law_names.nd rfl (by first | exact Or.inl rfl | exact Or.inr rfl))
  (pss_cons (ps_set (i := 11) sc__law_names.nd rfl (by first | exact Or.inl rfl | exact Or.inr rfl) (pe_op op_cat (pe_lst (pa_cons (pv 8) pa_nil)) (pe_op op_rep (pe_lst (pa_cons (pv 6) pa_nil)) (pe_op op_sub (pv 4) pe_int))))
  (pss_cons (ps_asg (pe_ix ix_strA (pv 3) (pe_op op_mod (pe_op op_add (pv 7) (pe_op op_mul pe_int (pv 10))) pe_int) (fun _ _ => rfl)) (pg_sub (pv 11) (pv 5) set_list))
  (pss_one (ps_expr (pe_bm PySem.F.plainAttrs_list PySem.F.slot_list_append PySem.F.type_list_append mt_append (pv 9) (pa_cons (pe_bm PySem.F.plainAttrs_str PySem.F.slot_str_join PySem.F.type_str_join mt_join pe_str (pa_cons (pv 11) pa_nil)) pa_nil)))))))
  (pss_one (ps_ret (pv 9)))))))))))), ?_⟩
  have fit : ∀ n : Nat, n ≤ 1000 → n ≤ sizeLine := fun n h => small h
  refine ⟨_, rfl, _, rfl, a, _, _, rfl, hS, by omega, by omega, by decide, fun r _ _ => ?_⟩
  refine ⟨rfl, _, rfl, ?_⟩
  refine ite2 (fun _ => ?_) (fun _ => ?_)
  · refine ⟨fit _ (by show 6 ≤ 1000; decide), fun l hl => ?_⟩
    refine ⟨_, rfl, _, rfl, l, _, rfl, SqL.of upd_same, fun p hp => ?_⟩
    refine q p (six.take m) _ ((same_new hl _).trans (same_new hp _)) ((same_new hl _).free hp) ?_ (six_names m1)
    rw [upd_same, cut_to, List.map_take]
    rfl
  refine ⟨_, rfl, _, rfl, _, _, rfl, rfl, a, _, _, rfl, hS, by omega, by omega, by decide, fun r1 r10 r11 => ?_⟩
  refine ⟨_, _, rfl, rfl, ?_⟩
  refine ⟨_, rfl, _, rfl, _, _, rfl, rfl, _, rfl, a, _, _, rfl, hS, by omega, by omega, by omega, fun r2 r20 r21 => ?_⟩
  refine ⟨_, rfl, _, _, rfl, rfl, (by decide +kernel), _, rfl, _, rfl, _, _, rfl, rfl, a, _, _, rfl, hS, by omega, by omega, by decide, fun r3 r30 r31 => ?_⟩
  refine ⟨_, _, rfl, rfl, (by decide +kernel), r30, Int.lt_of_lt_of_le r31 (by decide +kernel), fun cr hcr => ?_⟩
  refine ⟨_, rfl, _, rfl, _, _, rfl, rfl, a, _, _, rfl, hS, by omega, by omega, by decide, fun r4 r40 r41 => ?_⟩
  refine ⟨_, rfl, _, rfl, _, rfl, _, _, rfl, rfl, a, _, _, rfl, hS, by omega, by omega, by decide, fun r5 r50 r51 => ?_⟩
  refine ⟨_, _, rfl, rfl, (by decide +kernel), r50, Int.lt_of_lt_of_le r51 (by decide +kernel), fun cf hcf => ?_⟩
  have hr' : cr ∈ low ++ fig := by
    have e : (Str.ofString "abcdefghijklmnopqrstuvwxyz" ++ Str.ofString "0123456789").cps.toList = low ++ fig := by
      rw [← eL, ← eF]
      exact Array.toList_append ..
    rw [e] at hcr
    exact lowfig_at hcr
  have hf' : cf ∈ low := by
    rw [eL] at hcf
    exact List.mem_of_getElem? hcf
  refine ⟨fit _ (by show 0 ≤ 1000; decide), fun p hp => ?_⟩
  obtain ⟨sz, hsz⟩ : ∃ sz : Nat, (1 + r1 : Int) = (sz : Int) := ⟨(1 + r1).toNat, by omega⟩
  obtain ⟨pl, hpl⟩ : ∃ pl : Nat, r2 = (pl : Int) := ⟨r2.toNat, by omega⟩
  obtain ⟨st, hst⟩ : ∃ st : Nat, r4 = (st : Int) := ⟨r4.toNat, by omega⟩
  have b1 : 1 ≤ sz := by omega
  have b2 : sz ≤ 12 := by omega
  have b3 : pl < sz := by omega
  refine ⟨_, rfl, m, rfl, by omega, by omega, for_range (n := (m : Int).toNat) (fun i σ H' => Same H H' ∧ H' p = some (.lst ((nms cf cr sz pl st i).map V.str)) ∧ ∃ v1 v2 : Option V, σ = [some (.ref a), some (.int k), some (.int m), some (.str (Str.ofString "abcdefghijklmnopqrstuvwxyz")), some (.int (1 + r1)), some (.int r2), some (.str ⟨#[cr]⟩), some (.int r4), some (.str ⟨#[cf]⟩), some (.ref p), v1, v2])
    ⟨same_new hp _, upd_same, _, _, rfl⟩ (fun i σ H' hi pp => ?_) (fun σ H' pp => ?_)⟩
  · obtain ⟨sm, hp', v1, v2, rfl⟩ := pp
    refine ⟨_, rfl, fit _ (by show 1 ≤ 1000; decide), fun pa ha => ?_⟩
    refine ⟨_, rfl, fit _ (by show 1 ≤ 1000; decide), fun pb hb => ?_⟩
    refine ⟨_, rfl, _, _, rfl, rfl, pb, _, _, rfl, rfl, upd_same, by omega, by omega, ?_, fun pc hc => ?_⟩
    · show 1 * (1 + r1 - 1).toNat ≤ sizeLine
      exact fit _ (by omega)
    have n1 : pa ≠ pb := ne_of_none (H := upd H' pa (.lst [V.str ⟨#[cf]⟩])) upd_same hb
    have e1 : (upd (upd H' pa (.lst [V.str ⟨#[cf]⟩])) pb (.lst [V.str ⟨#[cr]⟩])) pa = some (.lst [V.str ⟨#[cf]⟩]) := by rw [upd_ne n1, upd_same]
    have n2 : pa ≠ pc := ne_of_none e1 hc
    refine ⟨pa, pc, _, _, rfl, rfl, by rw [upd_ne n2]; exact e1, upd_same, ?_, fun pd hd => ?_⟩
    · rw [rep_flat]
      rw [List.length_replicate]
      show 1 + (1 + r1 - 1).toNat ≤ sizeLine
      exact fit _ (by omega)
    have list : [V.str ⟨#[cf]⟩] ++ (List.replicate (1 + r1 - 1).toNat [V.str ⟨#[cr]⟩]).flatten = ((cf :: List.replicate (sz - 1) cr).map one).map V.str := by
      rw [rep_flat, show (1 + r1 - 1).toNat = sz - 1 by omega, List.map_cons, List.map_cons, List.map_replicate, List.map_replicate]
      rfl
    rw [list]
    have s1 : Same H' (upd (upd (upd (upd H' pa (.lst [V.str ⟨#[cf]⟩])) pb (.lst [V.str ⟨#[cr]⟩])) pc (.lst (List.replicate (1 + r1 - 1).toNat [V.str ⟨#[cr]⟩]).flatten)) pd (.lst (((cf :: List.replicate (sz - 1) cr).map one).map V.str))) :=
      (((same_new ha _).trans (same_new hb _)).trans (same_new hc _)).trans (same_new hd _)
    have npd : H' pd = none := (((same_new ha _).trans (same_new hb _)).trans (same_new hc _)).free hd
    refine ⟨_, rfl, _, rfl, _, rfl, _, _, rfl, rfl, .inl ⟨by decide, by decide⟩, _, _, rfl, rfl, _, _, rfl, rfl, (by show (0 : Int) < 26; decide), ?_⟩
    refine ⟨_, _, rfl, rfl, (by decide +kernel), Int.emod_nonneg _ (by decide), Int.lt_of_lt_of_le (Int.emod_lt_of_pos _ (by decide)) (by decide +kernel), fun cl hcl => ?_⟩
    have hl : cl = ltr st i := by
      rw [eL] at hcl
      have := low_at hcl
      unfold ltr
      omega
    refine ⟨_, rfl, _, rfl, pd, _, _, pl, rfl, rfl, upd_same, ?_, ?_⟩
    · unfold ixN
      rw [if_pos (by omega), if_pos (by simp; omega)]
      exact congrArg some (by omega)
    rw [upd_upd]
    have setl : (((cf :: List.replicate (sz - 1) cr).map one).map V.str).set pl (V.str ⟨#[cl]⟩) = ((nmC cf cr sz pl (ltr st i)).map one).map V.str := by
      unfold nmC
      rw [List.map_set, List.map_set, hl]
      rfl
    rw [setl]
    generalize hH5 : upd (upd (upd (upd H' pa (.lst [V.str ⟨#[cf]⟩])) pb (.lst [V.str ⟨#[cr]⟩])) pc (.lst (List.replicate (1 + r1 - 1).toNat [V.str ⟨#[cr]⟩]).flatten)) pd (.lst (((nmC cf cr sz pl (ltr st i)).map one).map V.str)) = H5
    have s5 : Same H' H5 := by
      rw [← hH5]
      exact (((same_new ha _).trans (same_new hb _)).trans (same_new hc _)).trans (same_new hd _)
    have h5 : H5 pd = some (.lst (((nmC cf cr sz pl (ltr st i)).map one).map V.str)) := by rw [← hH5, upd_same]
    have hp5 := s5 _ _ hp'
    refine ⟨_, rfl, .inl ⟨rfl, _, SqL.of hp5⟩, rfl, _, rfl, _, pd, (nmC cf cr sz pl (ltr st i)).map one, rfl, rfl, SqL.of h5, ?_, p, _, _, rfl, rfl, hp5, ?_, ?_⟩
    · unfold JoinOk
      rw [Bool.not_eq_true']
      refine StrLaws.joinFits (B := 1) (fun x hx => ?_) ?_
      · obtain ⟨c, _, rfl⟩ := List.mem_map.mp hx
        exact Nat.le_refl 1
      · rw [List.length_map, nmC_len cf cr b1, show (Str.ofString "").length = 0 by decide +kernel]
        omega
    · rw [List.length_map]
      unfold nms
      rw [List.length_map, List.length_range]
      exact small1000 (by omega)
    · refine ⟨fun b u e => ?_, ?_, _, _, rfl⟩
      · have e5 := s5 _ _ (sm b u e)
        by_cases hb : b = p
        · subst hb
          rw [hp] at e
          cases e
        · rw [upd_ne hb]
          exact e5
      · rw [upd_same, join_nm]
        unfold nms
        rw [List.range_succ, List.map_append, List.map_append]
        rfl
  · obtain ⟨sm, hp', v1, v2, rfl⟩ := pp
    refine ⟨_, rfl, q p _ H' sm hp hp' ?_⟩
    rw [Int.toNat_natCast]
    exact nms_ok hf' hr' b1 b2 b3 (by omega)

end
end My

namespace My
open PySem L2
open Blk (sg sg_inj sg_app)
section
variable {P : Program} {w : World} {K : PySem.W.Frag} {mg : Str → Option Value} {base : Heap}
def CS13 (cBadLine cBusy cDry cGoesRound cNoHeap cNoPrinter cNotNow cNoWay cNowhere cOver cTooMuch cTwice cUnknown : Addr) : List Addr := [cBadLine, cBusy, cDry, cGoesRound, cNoHeap, cNoPrinter, cNotNow, cNoWay, cNowhere, cOver, cTooMuch, cTwice, cUnknown]
def sp__law_apart (a b c d e f g h i j k l m : Addr) : Sp := fun vs H Q _ => ∃ (ea : Addr) (n : Nat) (own : Int) (fs : List (Str × V)), vs = [.ref ea, .int own] ∧ n < 13 ∧ XG H ea ((CS13 a b c d e f g h i j k l m).getD n 0) fs ∧ ∀ H', Same H H' → Q (.bl (decide ((n : Int) = own))) H'
theorem eqVs_range (m : Nat) (f g : Nat → V) : eqVs ((List.range m).map f) ((List.range m).map g) = (List.range m).all fun k => eqV (f k) (g k) := by
  unfold eqVs
  rw [List.length_map, List.length_map, beq_self_eq_true, Bool.true_and, List.length_range]
  refine Bool.eq_iff_iff.mpr ?_
  rw [List.all_eq_true, List.all_eq_true]
  have at' : ∀ (h : Nat → V) k, k ∈ List.range m → ((List.range m).map h).getD k .non = h k := fun h k hk => by
    rw [List.getD_eq_getElem?_getD, List.getElem?_map, List.getElem?_range (List.mem_range.mp hk)]
    rfl
  constructor
  · intro h k hk
    have := h k hk
    rwa [at' f k hk, at' g k hk] at this
  · intro h k hk
    rw [at' f k hk, at' g k hk]
    exact h k hk
theorem apart_eq {n : Nat} {own : Int} (hn : n < 13) : eqVs ((List.range 13).map fun k => V.bl (n == k)) ((List.range 13).map fun k => V.bl (decide (V.int (0 + (k : Nat)) = V.int own))) = decide ((n : Int) = own) := by
  have dk : ∀ k : Nat, decide (V.int (0 + (k : Int)) = V.int own) = decide ((k : Int) = own) := fun k => by
    by_cases h : (k : Int) = own
    · rw [decide_eq_true h, decide_eq_true (by rw [Int.zero_add, h])]
    · rw [decide_eq_false h, decide_eq_false (by intro z; injection z with z; rw [Int.zero_add] at z; exact h z)]
  have eb : ∀ a b : Bool, eqV (V.bl a) (V.bl b) = (a == b) := fun a b => by cases a <;> cases b <;> rfl
  rw [eqVs_range]
  by_cases h : (n : Int) = own
  · rw [decide_eq_true h, List.all_eq_true]
    intro k _
    rw [dk, eb, ← h]
    by_cases hk : n = k
    · subst hk
      rw [decide_eq_true rfl, beq_self_eq_true]
      rfl
    · rw [decide_eq_false (by omega), beq_eq_false_iff_ne.mpr hk]
      rfl
  · rw [decide_eq_false h, List.all_eq_false]
    refine ⟨n, List.mem_range.mpr hn, ?_⟩
    rw [dk, eb, decide_eq_false h, beq_self_eq_true]
    decide
theorem sc__law_apart : FnScope ["_law_e", "_law_own", "_law_some"] ["_law_e", "_law_own"] (defScope s__law_apart) := ⟨rfl, rfl, rfl, by decide +kernel, rfl, by decide +kernel, by decide +kernel⟩
theorem ok__law_apart {fa cState cReady cJammed cAway cStock cPrinter cBadLine cBusy cDry cGoesRound cNoHeap cNoPrinter cNotNow cNoWay cNowhere cOver cTooMuch cTwice cUnknown cHallError : Addr} {fd : FuncData} (F : Fun K "_law_apart" "_law_apart" s__law_apart fa fd) (T : Txt K mg cState cReady cJammed cAway cStock cPrinter cBadLine cBusy cDry cGoesRound cNoHeap cNoPrinter cNotNow cNoWay cNowhere cOver cTooMuch cTwice cUnknown cHallError)  :
    FnOk P w K mg base CX0 1 fa fd ["_law_e", "_law_own"] (sp__law_apart cBadLine cBusy cDry cGoesRound cNoHeap cNoPrinter cNotNow cNoWay cNowhere cOver cTooMuch cTwice cUnknown) := by
  refine F.ok sc__law_apart (fun vs H Q E h => ?_) (fun cdv A outer s H vs Q E hr h => ?_)
  · obtain ⟨ea, n, own, fs, rfl, _⟩ := h
    rfl
  obtain ⟨ea, n, own, fs, rfl, hn, X, q⟩ := h
  have hu0 := hr.units0
  refine ⟨_, (pss_cons (ps_set (i := 2) sc__law_apart.nd rfl (by first | exact Or.inl rfl | exact Or.inr rfl) (pe_lst (pa_cons (pe_callB call_isG rfl T.isinstance bt_isi (pa_cons (pv 0) (pa_cons (pe_glob (v := .ref cBadLine) rfl T.mg_BadLine rfl) pa_nil))) (pa_cons (pe_callB call_isG rfl T.isinstance bt_isi (pa_cons (pv 0) (pa_cons (pe_glob (v := .ref cBusy) rfl T.mg_Busy rfl) pa_nil))) (pa_cons (pe_callB call_isG rfl T.isinstance bt_isi (pa_cons (pv 0) (pa_cons (pe_glob (v := .ref cDry) rfl T.mg_Dry rfl) pa_nil))) (pa_cons (pe_callB call_isG rfl T.isinstance bt_isi (pa_cons (pv 0) (pa_cons (pe_glob (v := .ref cGoesRound) rfl T.mg_GoesRound rfl) pa_nil))) pa_nil))))))
  (pss_cons (ps_set (i := 2) sc__law_apart.nd rfl (by first | exact Or.inl rfl | exact Or.inr rfl) (pe_op op_cat (pv 2) (pe_lst (pa_cons (pe_callB call_isG rfl T.isinstance bt_isi (pa_cons (pv 0) (pa_cons (pe_glob (v := .ref cNoHeap) rfl T.mg_NoHeap rfl) pa_nil))) (pa_cons (pe_callB call_isG rfl T.isinstance bt_isi (pa_cons (pv 0) (pa_cons (pe_glob (v := .ref cNoPrinter) rfl T.mg_NoPrinter rfl) pa_nil))) (pa_cons (pe_callB call_isG rfl T.isinstance bt_isi (pa_cons (pv 0) (pa_cons (pe_glob (v := .ref cNotNow) rfl T.mg_NotNow rfl) pa_nil))) (pa_cons (pe_callB call_isG rfl T.isinstance bt_isi (pa_cons (pv 0) (pa_cons (pe_glob (v := .ref cNoWay) rfl T.mg_NoWay rfl) pa_nil))) pa_nil)))))))
  (pss_cons (ps_set (i := 2) sc__law_apart.nd rfl (by first | exact Or.inl rfl | exact Or.inr rfl) (pe_op op_cat (pv 2) (pe_lst (pa_cons (pe_callB call_isG rfl T.isinstance bt_isi (pa_cons (pv 0) (pa_cons (pe_glob (v := .ref cNowhere) rfl T.mg_Nowhere rfl) pa_nil))) (pa_cons (pe_callB call_isG rfl T.isinstance bt_isi (pa_cons (pv 0) (pa_cons (pe_glob (v := .ref cOver) rfl T.mg_Over rfl) pa_nil))) (pa_cons (pe_callB call_isG rfl T.isinstance bt_isi (pa_cons (pv 0) (pa_cons (pe_glob (v := .ref cTooMuch) rfl T.mg_TooMuch rfl) pa_nil))) (pa_cons (pe_callB call_isG rfl T.isinstance bt_isi (pa_cons (pv 0) (pa_cons (pe_glob (v := .ref cTwice) rfl T.mg_Twice rfl) pa_nil))) pa_nil)))))))
  (pss_cons (ps_set (i := 2) sc__law_apart.nd rfl (by first | exact Or.inl rfl | exact Or.inr rfl) (pe_op op_cat (pv 2) (pe_lst (pa_cons (pe_callB call_isG rfl T.isinstance bt_isi (pa_cons (pv 0) (pa_cons (pe_glob (v := .ref cUnknown) rfl T.mg_Unknown rfl) pa_nil))) pa_nil))))
  (pss_one (ps_ret (pe_and (pe_callB call_isG rfl T.isinstance bt_isi (pa_cons (pv 0) (pa_cons (pe_bltn rfl T.ValueError bt_ValueError (rel_ty _)) pa_nil))) (pe_one (pe_cmpR (op_eq_list hu0) (pv 2) (pe_comp (frees := [("_law_own", 1)]) ⟨by decide +kernel, rfl, rfl, by decide +kernel, ⟨⟨rfl, rfl, rfl, by decide +kernel⟩, trivial⟩, by decide +kernel, cellsFor_at rfl, rfl⟩ rfl (pi_range1 rfl T.range (pa_cons pe_int pa_nil)) (fun _ _ _ _ => pifs_nil) (fun _ _ _ _ => by exact (pe_cmpR op_eq (pv 0) (pv 1) (nomark _)))) (nomark _)))))))))), ?_⟩
  have ci : ClsI K ((CS13 cBadLine cBusy cDry cGoesRound cNoHeap cNoPrinter cNotNow cNoWay cNowhere cOver cTooMuch cTwice cUnknown).getD n 0) := by
    match n, hn with
    | 0, _ => exact T.x_BadLine.i
    | 1, _ => exact T.x_Busy.i
    | 2, _ => exact T.x_Dry.i
    | 3, _ => exact T.x_GoesRound.i
    | 4, _ => exact T.x_NoHeap.i
    | 5, _ => exact T.x_NoPrinter.i
    | 6, _ => exact T.x_NotNow.i
    | 7, _ => exact T.x_NoWay.i
    | 8, _ => exact T.x_Nowhere.i
    | 9, _ => exact T.x_Over.i
    | 10, _ => exact T.x_TooMuch.i
    | 11, _ => exact T.x_Twice.i
    | 12, _ => exact T.x_Unknown.i
  have z1 : 1 ≤ sizeLine := small (by decide)
  have z4 : 4 ≤ sizeLine := small (by decide)
  refine ⟨_, rfl, ea, _, _, _, (n == 0), rfl, X, ci, (fun u r => r), kitTab_two (i := n) (j := 0) T.kit hn (show 0 < 13 by decide), _, rfl, ea, _, _, _, (n == 1), rfl, X, ci, (fun u r => r), kitTab_two (i := n) (j := 1) T.kit hn (show 1 < 13 by decide), _, rfl, ea, _, _, _, (n == 2), rfl, X, ci, (fun u r => r), kitTab_two (i := n) (j := 2) T.kit hn (show 2 < 13 by decide), _, rfl, ea, _, _, _, (n == 3), rfl, X, ci, (fun u r => r), kitTab_two (i := n) (j := 3) T.kit hn (show 3 < 13 by decide), z4, fun p1 n1 => ?_⟩
  have s1 := same_new n1 (.lst [.bl (n == 0), .bl (n == 1), .bl (n == 2), .bl (n == 3)])
  have X1 := X.keep s1
  refine ⟨_, rfl, _, rfl, ea, _, _, _, (n == 4), rfl, X1, ci, (fun u r => r), kitTab_two (i := n) (j := 4) T.kit hn (show 4 < 13 by decide), _, rfl, ea, _, _, _, (n == 5), rfl, X1, ci, (fun u r => r), kitTab_two (i := n) (j := 5) T.kit hn (show 5 < 13 by decide), _, rfl, ea, _, _, _, (n == 6), rfl, X1, ci, (fun u r => r), kitTab_two (i := n) (j := 6) T.kit hn (show 6 < 13 by decide), _, rfl, ea, _, _, _, (n == 7), rfl, X1, ci, (fun u r => r), kitTab_two (i := n) (j := 7) T.kit hn (show 7 < 13 by decide), z4, fun p2 n2 => ?_⟩
  have s2 := same_new n2 (.lst [.bl (n == 4), .bl (n == 5), .bl (n == 6), .bl (n == 7)])
  refine ⟨p1, p2, _, _, rfl, rfl, s2 _ _ upd_same, upd_same, small (by show 8 ≤ 1000; decide), fun p3 n3 => ?_⟩
  have s3 := (s1.trans s2).trans (same_new n3 (.lst [.bl (n == 0), .bl (n == 1), .bl (n == 2), .bl (n == 3), .bl (n == 4), .bl (n == 5), .bl (n == 6), .bl (n == 7)]))
  have X3 := X.keep s3
  refine ⟨_, rfl, _, rfl, ea, _, _, _, (n == 8), rfl, X3, ci, (fun u r => r), kitTab_two (i := n) (j := 8) T.kit hn (show 8 < 13 by decide), _, rfl, ea, _, _, _, (n == 9), rfl, X3, ci, (fun u r => r), kitTab_two (i := n) (j := 9) T.kit hn (show 9 < 13 by decide), _, rfl, ea, _, _, _, (n == 10), rfl, X3, ci, (fun u r => r), kitTab_two (i := n) (j := 10) T.kit hn (show 10 < 13 by decide), _, rfl, ea, _, _, _, (n == 11), rfl, X3, ci, (fun u r => r), kitTab_two (i := n) (j := 11) T.kit hn (show 11 < 13 by decide), z4, fun p4 n4 => ?_⟩
  have s4 := same_new n4 (.lst [.bl (n == 8), .bl (n == 9), .bl (n == 10), .bl (n == 11)])
  refine ⟨p3, p4, _, _, rfl, rfl, s4 _ _ upd_same, upd_same, small (by show 12 ≤ 1000; decide), fun p5 n5 => ?_⟩
  have s5 := (s3.trans s4).trans (same_new n5 (.lst [.bl (n == 0), .bl (n == 1), .bl (n == 2), .bl (n == 3), .bl (n == 4), .bl (n == 5), .bl (n == 6), .bl (n == 7), .bl (n == 8), .bl (n == 9), .bl (n == 10), .bl (n == 11)]))
  have X5 := X.keep s5
  refine ⟨_, rfl, _, rfl, ea, _, _, _, (n == 12), rfl, X5, ci, (fun u r => r), kitTab_two (i := n) (j := 12) T.kit hn (show 12 < 13 by decide), z1, fun p6 n6 => ?_⟩
  have s6 := same_new n6 (.lst [.bl (n == 12)])
  refine ⟨p5, p6, _, _, rfl, rfl, s6 _ _ upd_same, upd_same, small (by show 13 ≤ 1000; decide), fun p7 n7 => ?_⟩
  have s7 := (s5.trans s6).trans (same_new n7 (.lst [.bl (n == 0), .bl (n == 1), .bl (n == 2), .bl (n == 3), .bl (n == 4), .bl (n == 5), .bl (n == 6), .bl (n == 7), .bl (n == 8), .bl (n == 9), .bl (n == 10), .bl (n == 11), .bl (n == 12)]))
  have X7 := X.keep s7
  refine ⟨_, rfl, ea, _, _, _, true, rfl, X7, ci, (fun u r => r), kitTab_val (i := n) T.kit hn, true, rfl, iteT ?_⟩
  refine ⟨_, rfl, _, rfl, by decide, by decide, ?_⟩
  refine compB_seq (seq_range 0 13 _) (fun _ => true) (fun v => .bl (decide (v = .int own))) (by rw [List.length_map, List.length_range]; exact small1000 (by decide)) (fun x hx H' R _ rr => rr) (fun x hx H' R sm _ rr => ⟨_, rfl, _, rfl, ?_, rr⟩) (fun D H2 s8 hD hH => ?_)
  · obtain ⟨k, _, rfl⟩ := List.mem_map.mp hx
    rfl
  refine ⟨p7, D, _, _, rfl, rfl, SqL.of (s8 _ _ upd_same), SqL.of hH, rfl, rfl, ?_⟩
  have e : eqVs ((List.range 13).map fun k => V.bl (n == k)) ((List.range 13).map fun k => V.bl (decide (V.int (0 + (k : Nat)) = V.int own))) = decide ((n : Int) = own) := apart_eq hn
  have := q H2 (s7.trans s8)
  rw [← e] at this
  exact this

end
end My

namespace My
open PySem L2
open Blk (sg sg_inj sg_app)
section
variable {P : Program} {w : World} {K : PySem.W.Frag} {mg : Str → Option Value} {base : Heap}
def PairAt (H : Hp) (v : V) (e : Int × Str) : Prop := ∃ t, v = .ref t ∧ H t = some (.tup [.int e.1, .str e.2])
def fld16 (n : Nat) : Str := if n = 6 then "found" else "name"
def sp__law_which (a b c d e f g h i j k l m : Addr) : Sp := fun vs H Q _ => ∃ (ea : Addr) (n : Nat) (nm : Str), vs = [.ref ea] ∧ (n = 2 ∨ n = 6 ∨ n = 10 ∨ n = 12) ∧ XG H ea ((CS13 a b c d e f g h i j k l m).getD n 0) [(fld16 n, .str nm)] ∧ ∀ v H', Same H H' → PairAt H' v ((n : Int), nm) → Q v H'
theorem sc__law_which : FnScope ["_law_caught", "_law_own"] ["_law_caught"] (defScope s__law_which) := ⟨rfl, rfl, rfl, by decide +kernel, rfl, by decide +kernel, by decide +kernel⟩
theorem ok__law_which {fa cState cReady cJammed cAway cStock cPrinter cBadLine cBusy cDry cGoesRound cNoHeap cNoPrinter cNotNow cNoWay cNowhere cOver cTooMuch cTwice cUnknown cHallError : Addr} {fd : FuncData} (F : Fun K "_law_which" "_law_which" s__law_which fa fd) (T : Txt K mg cState cReady cJammed cAway cStock cPrinter cBadLine cBusy cDry cGoesRound cNoHeap cNoPrinter cNotNow cNoWay cNowhere cOver cTooMuch cTwice cUnknown cHallError) (D__law_apart : Dfn P w K mg base 1 "_law_apart" ["_law_e", "_law_own"] (sp__law_apart cBadLine cBusy cDry cGoesRound cNoHeap cNoPrinter cNotNow cNoWay cNowhere cOver cTooMuch cTwice cUnknown)) :
    FnOk P w K mg base CX0 2 fa fd ["_law_caught"] (sp__law_which cBadLine cBusy cDry cGoesRound cNoHeap cNoPrinter cNotNow cNoWay cNowhere cOver cTooMuch cTwice cUnknown) := by
  refine F.ok sc__law_which (fun vs H Q E h => ?_) (fun cdv A outer s H vs Q E hr h => ?_)
  · obtain ⟨ea, n, nm, rfl, _⟩ := h
    rfl
  obtain ⟨ea, n, nm, rfl, hn, g, q⟩ := h
  have z2 : 2 ≤ sizeLine := small (by decide)
  have z4 : 4 ≤ sizeLine := small (by decide)
  refine ⟨_, (pss_cons (ps_for PassesOwn.never rfl (pi_list (pe_lst (pa_cons pe_int (pa_cons pe_int (pa_cons pe_int (pa_cons pe_int pa_nil)))))) (pg_name (i := 1) sc__law_which.nd rfl (by first | exact Or.inl rfl | exact Or.inr rfl))
  (pss_one (ps_if (pt_truth (pe_callD D__law_apart (hr.mono (by decide)) rfl (pa_cons (pv 0) (pa_cons (pv 1) pa_nil))) (fun _ => rfl)) (pss_cons (ps_if (pt_cmpR op_eq (pv 1) pe_int (nomark _)) (pss_one (ps_ret (pe_tup (pa_cons (pv 1) (pa_cons (pe_fldG (pv 0) rfl) pa_nil))))) pss_nil)
  (pss_one (ps_ret (pe_tup (pa_cons (pv 1) (pa_cons (pe_fldG (pv 0) rfl) pa_nil)))))) pss_nil)))
  (pss_one (ps_ret (pe_tup (pa_cons pe_int (pa_cons pe_str pa_nil)))))), ?_⟩
  have cc : ClsX K ((CS13 cBadLine cBusy cDry cGoesRound cNoHeap cNoPrinter cNotNow cNoWay cNowhere cOver cTooMuch cTwice cUnknown).getD n 0) ∧ NoAttr K ((CS13 cBadLine cBusy cDry cGoesRound cNoHeap cNoPrinter cNotNow cNoWay cNowhere cOver cTooMuch cTwice cUnknown).getD n 0) (fld16 n) := by
    rcases hn with rfl | rfl | rfl | rfl
    · exact ⟨T.x_Dry.i.c, T.x_Dry.n _ (.head _)⟩
    · exact ⟨T.x_NotNow.i.c, T.x_NotNow.n _ (.head _)⟩
    · exact ⟨T.x_TooMuch.i.c, T.x_TooMuch.n _ (.head _)⟩
    · exact ⟨T.x_Unknown.i.c, T.x_Unknown.n _ (.head _)⟩
  refine ⟨z4, fun l nl => ?_⟩
  have sl := same_new nl (.lst [.int 2, .int 6, .int 10, .int 12])
  have hl := upd_same (H := H) (a := l) (o := .lst [.int 2, .int 6, .int 10, .int 12])
  generalize upd H l (.lst [.int 2, .int 6, .int 10, .int 12]) = H1 at sl hl ⊢
  refine ⟨l, rfl, ⟨_, SqL.of hl⟩, ?_⟩
  refine for_list (K := K) (a := l) (xs := [.int 2, .int 6, .int 10, .int 12]) (fun j σ H2 => Same H1 H2 ∧ (∃ v7, σ = [some (.ref ea), v7]) ∧ ∀ i', i' < j → ([2, 6, 10, 12] : List Nat).getD i' 0 ≠ n) ⟨Same.refl _, ⟨_, rfl⟩, fun i' h => absurd h (Nat.not_lt_zero _)⟩ (fun j σ H2 _ z => SqL.of (z.1 _ _ hl)) (fun j y σ H2 hx z => ?_) (fun σ H2 z => ?_)
  · obtain ⟨s2', ⟨v7, rfl⟩, ne⟩ := z
    obtain ⟨o, eo, rfl⟩ : ∃ o : Nat, ([2, 6, 10, 12] : List Nat).getD j 0 = o ∧ y = .int (o : Int) := by
      match j, hx with
      | 0, hx => exact ⟨2, rfl, (Option.some.inj hx).symm⟩
      | 1, hx => exact ⟨6, rfl, (Option.some.inj hx).symm⟩
      | 2, hx => exact ⟨10, rfl, (Option.some.inj hx).symm⟩
      | 3, hx => exact ⟨12, rfl, (Option.some.inj hx).symm⟩
    have g2 := g.keep (sl.trans s2')
    refine ⟨_, rfl, _, rfl, ea, n, _, _, rfl, by omega, g2, fun H3 s3 => ?_⟩
    refine ⟨_, rfl, ?_⟩
    by_cases h : (n : Int) = (o : Int)
    · rw [decide_eq_true h]
      obtain rfl : n = o := by omega
      have s03 := (sl.trans s2').trans s3
      refine iteT ⟨_, rfl, rfl, _, rfl, ?_⟩
      by_cases h6 : n = 6
      · subst h6
        exact iteYes rfl ⟨_, rfl, _, rfl, ea, _, _, _, rfl, g2.keep s3, cc.1, cc.2, rfl, z2, fun t nt => q _ _ (s03.trans (same_new nt _)) ⟨t, rfl, upd_same⟩⟩
      · have e6 : fld16 n = "name" := by unfold fld16; rw [if_neg h6]
        rw [e6] at cc g2
        refine iteNo (fun z => h6 (by injection z with z; omega)) ⟨_, rfl, _, rfl, ea, _, _, _, rfl, g2.keep s3, cc.1, cc.2, rfl, z2, fun t nt => q _ _ (s03.trans (same_new nt _)) ⟨t, rfl, upd_same⟩⟩
    · rw [decide_eq_false h]
      refine iteF ⟨s2'.trans s3, ⟨_, rfl⟩, fun i' hi' => ?_⟩
      by_cases hj : i' < j
      · exact ne i' hj
      · obtain rfl : i' = j := by omega
        rw [eo]
        intro z
        exact h (by rw [z])
  · obtain ⟨_, _, ne⟩ := z
    rcases hn with rfl | rfl | rfl | rfl
    · exact absurd rfl (ne 0 (by decide))
    · exact absurd rfl (ne 1 (by decide))
    · exact absurd rfl (ne 2 (by decide))
    · exact absurd rfl (ne 3 (by decide))

end
end My

namespace My
open PySem L2
open Blk (sg sg_inj sg_app)
section
variable {P : Program} {w : World} {K : PySem.W.Frag} {mg : Str → Option Value} {base : Heap}
def sp__law_room (K : PySem.W.Frag) : Sp := fun vs H Q _ => ∃ (a : Addr) (k lo : Int), vs = [.ref a, .int k, .int lo] ∧ Scr K H a ∧ 0 ≤ k ∧ k ≤ 10000 ∧ ∀ r : Int, lo ≤ r → Q (.int r) H
theorem sc__law_room : FnScope ["_law_script", "_law_k", "_law_low"] ["_law_script", "_law_k", "_law_low"] (defScope s__law_room) := ⟨rfl, rfl, rfl, by decide +kernel, rfl, by decide +kernel, by decide +kernel⟩
theorem ok__law_room {fa cState cReady cJammed cAway cStock cPrinter cBadLine cBusy cDry cGoesRound cNoHeap cNoPrinter cNotNow cNoWay cNowhere cOver cTooMuch cTwice cUnknown cHallError : Addr} {fd : FuncData} (F : Fun K "_law_room" "_law_room" s__law_room fa fd) (T : Txt K mg cState cReady cJammed cAway cStock cPrinter cBadLine cBusy cDry cGoesRound cNoHeap cNoPrinter cNotNow cNoWay cNowhere cOver cTooMuch cTwice cUnknown cHallError) (D__law_by : Dfn P w K mg base 2 "_law_by" ["_law_script", "_law_k", "_law_many_here"] (sp__law_by K)) (D__law_cell_at : Dfn P w K mg base 1 "_law_cell_at" ["_law_script", "_law_k"] (sp__law_cell_at K)) :
    FnOk P w K mg base CX0 3 fa fd ["_law_script", "_law_k", "_law_low"] (sp__law_room K) := by
  refine F.ok sc__law_room (fun vs H Q E h => ?_) (fun cdv A outer s H vs Q E hr h => ?_)
  · obtain ⟨a, k, lo, rfl, _⟩ := h
    rfl
  obtain ⟨a, k, lo, rfl, hS, k0, k1, q⟩ := h
  refine ⟨_, (pss_cons (ps_if (pt_cmpR op_eq (pe_callD D__law_by (hr.mono (by decide)) rfl (pa_cons (pv 0) (pa_cons (pv 1) (pa_cons pe_int pa_nil)))) pe_int (nomark _)) (pss_one (ps_ret (pe_op op_add (pv 2) (pe_op op_mod (pe_callD D__law_cell_at (hr.mono (by decide)) rfl (pa_cons (pv 0) (pa_cons (pv 1) pa_nil))) (pe_op op_pow pe_int pe_int))))) pss_nil)
  (pss_one (ps_ret (pe_op op_add (pv 2) (pe_callD D__law_by (hr.mono (by decide)) rfl (pa_cons (pv 0) (pa_cons (pe_op op_add (pv 1) pe_int) (pa_cons pe_int pa_nil)))))))), ?_⟩
  refine ⟨_, rfl, _, rfl, a, _, _, rfl, hS, by omega, by omega, by decide, fun r _ _ => ⟨rfl, _, rfl, ite2 (fun _ => ?_) (fun _ => ?_)⟩⟩
  · refine ⟨_, rfl, _, rfl, _, rfl, a, _, rfl, hS, fun v => ⟨_, _, rfl, rfl, ⟨by decide, by decide, by decide⟩, _, _, rfl, rfl, (by show (0 : Int) < 10 ^ 59; decide), _, _, rfl, rfl, q _ ?_⟩⟩
    have := Int.emod_nonneg v (show (10 ^ 59 : Int) ≠ 0 by decide)
    omega
  · exact ⟨_, rfl, _, rfl, _, rfl, _, _, rfl, rfl, a, _, _, rfl, hS, by omega, by omega, by decide, fun r r0 _ => ⟨_, _, rfl, rfl, q _ (by omega)⟩⟩
def sp__law_many (K : PySem.W.Frag) : Sp := fun vs H Q _ => ∃ (a : Addr) (k e : Int), vs = [.ref a, .int k, .int e] ∧ Scr K H a ∧ 0 ≤ k ∧ k ≤ 10000 ∧ 0 ≤ e ∧ ∀ (r : Int) H', Same H H' → 0 ≤ r → Q (.int r) H'
theorem sc__law_many : FnScope ["_law_script", "_law_k", "_law_exact"] ["_law_script", "_law_k", "_law_exact"] (defScope s__law_many) := ⟨rfl, rfl, rfl, by decide +kernel, rfl, by decide +kernel, by decide +kernel⟩
theorem ok__law_many {fa cState cReady cJammed cAway cStock cPrinter cBadLine cBusy cDry cGoesRound cNoHeap cNoPrinter cNotNow cNoWay cNowhere cOver cTooMuch cTwice cUnknown cHallError : Addr} {fd : FuncData} (F : Fun K "_law_many" "_law_many" s__law_many fa fd) (T : Txt K mg cState cReady cJammed cAway cStock cPrinter cBadLine cBusy cDry cGoesRound cNoHeap cNoPrinter cNotNow cNoWay cNowhere cOver cTooMuch cTwice cUnknown cHallError) (D__law_by : Dfn P w K mg base 2 "_law_by" ["_law_script", "_law_k", "_law_many_here"] (sp__law_by K)) :
    FnOk P w K mg base CX0 3 fa fd ["_law_script", "_law_k", "_law_exact"] (sp__law_many K) := by
  refine F.ok sc__law_many (fun vs H Q E h => ?_) (fun cdv A outer s H vs Q E hr h => ?_)
  · obtain ⟨a, k, e, rfl, _⟩ := h
    rfl
  obtain ⟨a, k, e, rfl, hS, k0, k1, e0, q⟩ := h
  have z4 : 4 ≤ sizeLine := small (by decide)
  refine ⟨_, (pss_one (ps_ret (pe_ix ix_listA (pe_lst (pa_cons (pe_op op_mod (pe_callD D__law_by (hr.mono (by decide)) rfl (pa_cons (pv 0) (pa_cons (pe_op op_add (pv 1) pe_int) (pa_cons pe_int pa_nil)))) (pe_op op_add (pv 2) pe_int)) (pa_cons (pv 2) (pa_cons (pe_op op_add (pv 2) pe_int) (pa_cons pe_int pa_nil))))) (pe_callD D__law_by (hr.mono (by decide)) rfl (pa_cons (pv 0) (pa_cons (pv 1) (pa_cons pe_int pa_nil)))) (fun _ _ => rfl)))), ?_⟩
  refine ⟨_, rfl, _, rfl, _, _, rfl, rfl, a, _, _, rfl, hS, by omega, by omega, by decide, fun r r0 _ => ?_⟩
  refine ⟨_, rfl, _, _, rfl, rfl, _, _, rfl, rfl, (by show (0 : Int) < e + 1; omega), _, rfl, _, rfl, _, _, rfl, rfl, z4, fun l nl => ?_⟩
  have k2 := same_new nl (.lst [V.int (r % (e + 1)), V.int e, V.int (e + 1), V.int 0])
  have hl : upd H l (.lst [V.int (r % (e + 1)), V.int e, V.int (e + 1), V.int 0]) l = some (.lst ([r % (e + 1), e, e + 1, 0].map V.int)) := upd_same
  generalize upd H l (.lst [V.int (r % (e + 1)), V.int e, V.int (e + 1), V.int 0]) = H2 at k2 hl ⊢
  refine ⟨_, rfl, _, rfl, a, _, _, rfl, hS.same k2, by omega, by omega, by decide, fun i i0 i1 => ⟨l, _, _, rfl, rfl, SqL.of hl, i0, by show i < 4; exact i1, fun v hv => ?_⟩⟩
  have hm := List.mem_of_getElem? hv
  obtain ⟨y, hy, rfl⟩ := List.mem_map.mp hm
  refine q y H2 k2 ?_
  have := Int.emod_nonneg r (show e + 1 ≠ 0 by omega)
  simp only [List.mem_cons, List.not_mem_nil, or_false] at hy
  rcases hy with rfl | rfl | rfl | rfl <;> omega
theorem at_int13 {xs : List Int} {j : Nat} {v : V} (h : (xs.map V.int)[j]? = some v) : v = V.int (xs.getD j 0) := by
  rw [List.getElem?_map] at h
  obtain ⟨z, e, rfl⟩ := Option.map_eq_some_iff.mp h
  rw [List.getD_eq_getElem?_getD, e]
  rfl
def sp__law_wholes (K : PySem.W.Frag) : Sp := fun vs H Q _ => ∃ (l m : Addr) (ns : List Int), vs = [.ref l, .ref m] ∧ H l = some (.lst (ns.map V.int)) ∧ H m = some (.lst (ns.map V.int)) ∧ ns.length ≤ 900 ∧ Q (.bl true) H
theorem sc__law_wholes : FnScope ["_law_found", "_law_due", "_law_k"] ["_law_found", "_law_due"] (defScope s__law_wholes) := ⟨rfl, rfl, rfl, by decide +kernel, rfl, by decide +kernel, by decide +kernel⟩
theorem ok__law_wholes {fa cState cReady cJammed cAway cStock cPrinter cBadLine cBusy cDry cGoesRound cNoHeap cNoPrinter cNotNow cNoWay cNowhere cOver cTooMuch cTwice cUnknown cHallError : Addr} {fd : FuncData} (F : Fun K "_law_wholes" "_law_wholes" s__law_wholes fa fd) (T : Txt K mg cState cReady cJammed cAway cStock cPrinter cBadLine cBusy cDry cGoesRound cNoHeap cNoPrinter cNotNow cNoWay cNowhere cOver cTooMuch cTwice cUnknown cHallError)  :
    FnOk P w K mg base CX0 1 fa fd ["_law_found", "_law_due"] (sp__law_wholes K) := by
  refine F.ok sc__law_wholes (fun vs H Q E h => ?_) (fun cdv A outer s H vs Q E hr h => ?_)
  · obtain ⟨l, m, ns, rfl, _⟩ := h
    rfl
  obtain ⟨l, m, ns, rfl, hl, hm, ln, q⟩ := h
  refine ⟨_, (pss_cons (ps_for PassesOwn.never rfl (pi_range1 rfl T.range (pa_cons (pe_callB call_len_seq rfl T.len PySem.boot_len (pa_cons (pv 1) pa_nil)) pa_nil)) (pg_name (i := 2) sc__law_wholes.nd rfl (by first | exact Or.inl rfl | exact Or.inr rfl))
  (pss_one (ps_if (PW.pt (pw_or (pt_not (pt_truth (pe_callB call_isi rfl T.isinstance bt_isi (pa_cons (pe_ix ix_listA (pv 0) (pv 2) (fun _ _ => rfl)) (pa_cons (pe_bltn rfl T.int bt_int (rel_ty _)) pa_nil))) (fun _ => rfl))) (pw_or (pt_truth (pe_callB call_isi rfl T.isinstance bt_isi (pa_cons (pe_ix ix_listA (pv 0) (pv 2) (fun _ _ => rfl)) (pa_cons (pe_bltn rfl T.bool bt_bool (rel_ty _)) pa_nil))) (fun _ => rfl)) (pw_or1 (pt_cmpR op_ne (pe_ix ix_listA (pv 0) (pv 2) (fun _ _ => rfl)) (pe_ix ix_listA (pv 1) (pv 2) (fun _ _ => rfl)) (nomark _)))))) (pss_one (ps_ret pe_bl)) pss_nil)))
  (pss_one (ps_ret (pe_cmpR op_eq (pe_callB call_len_seq rfl T.len PySem.boot_len (pa_cons (pv 0) pa_nil)) (pe_callB call_len_seq rfl T.len PySem.boot_len (pa_cons (pv 1) pa_nil)) (nomark _))))), ?_⟩
  have ll : (ns.map V.int).length = ns.length := List.length_map _
  refine ⟨_, rfl, m, _, rfl, .inl (SqL.of hm), _, rfl, by omega, by omega, for_range (lo := 0) (n := (((ns.map V.int).length : Nat) : Int).toNat) (fun i σ G => (∃ v2, σ = [some (.ref l), some (.ref m), v2]) ∧ G = H) ⟨⟨_, rfl⟩, rfl⟩ (fun i σ G hi z => ?_) (fun σ G z => ?_)⟩
  · obtain ⟨⟨v2, rfl⟩, rfl⟩ := z
    rw [Int.zero_add]
    refine ⟨_, rfl, _, rfl, l, _, _, rfl, rfl, SqL.of hl, by omega, by omega, fun v hv => ?_⟩
    obtain rfl := at_int13 hv
    refine ⟨_, _, _, true, rfl, TyOf.int _, kit_same _, true, rfl, iteF ?_⟩
    refine ⟨_, rfl, _, rfl, l, _, _, rfl, rfl, SqL.of hl, by omega, by omega, fun v hv => ?_⟩
    obtain rfl := at_int13 hv
    refine ⟨_, _, _, false, rfl, TyOf.int _, kit_int_bool _, false, rfl, iteF ?_⟩
    refine ⟨_, rfl, _, rfl, l, _, _, rfl, rfl, SqL.of hl, by omega, by omega, fun v hv => ?_⟩
    obtain rfl := at_int13 hv
    refine ⟨_, rfl, _, rfl, m, _, _, rfl, rfl, SqL.of hm, by omega, by omega, fun v hv => ?_⟩
    obtain rfl := at_int13 hv
    refine ⟨rfl, _, rfl, ite2 (fun c => ?_) (fun _ => ⟨⟨_, rfl⟩, rfl⟩)⟩
    simp at c
  · obtain ⟨⟨v2, rfl⟩, rfl⟩ := z
    refine ⟨_, rfl, l, _, rfl, .inl (SqL.of hl), _, rfl, m, _, rfl, .inl (SqL.of hm), rfl, ?_⟩
    rw [show decide (V.int (((ns.map V.int).length : Nat) : Int) = V.int (((ns.map V.int).length : Nat) : Int)) = true from decide_eq_true rfl]
    exact q

end
end My

namespace My
open PySem L2
open Blk (sg sg_inj sg_app)
section
variable {P : Program} {w : World} {K : PySem.W.Frag} {mg : Str → Option Value} {base : Heap}
def sp__law_laid (cU cT cP cS cR cJ cA : Addr) : Sp := fun vs H Q _ => ∃ (x : Addr) (d : PD) (w : Int) (n : Str) (k o : Int), vs = [.ref x, .int w, .str n, .int k, .int o] ∧ PrAt cP cS cR cJ cA H x d ∧
  ((w = 0 ∧ (¬ n ∈ d.rs.map (·.1) → ∀ v H', Same H H' → PairAt H' v (12, n) → Q v H') ∧ ∀ R A, d.rs.lookup n = some R → d.am.lookup n = some A → (R < A + k → ∀ v H', Same H H' → PairAt H' v (10, n) → Q v H') ∧ (¬ R < A + k → ∀ v H', (∀ b o, b ≠ d.tr2 → H b = some o → H' b = some o) → PrAt cP cS cR cJ cA H' x { d with am := setA d.am n (A + k) } → PairAt H' v (0, Str.ofString "") → Q v H')) ∨
   (w = 1 ∧ (d.rb < d.b + k → ∀ v H', Same H H' → PairAt H' v (10, blW) → Q v H') ∧ (¬ d.rb < d.b + k → d.rc < d.c + o → ∀ v H', Same H H' → PairAt H' v (10, coW) → Q v H') ∧ (¬ d.rb < d.b + k → ¬ d.rc < d.c + o → ∀ v H', (∀ b o, b ≠ d.ik2 → H b = some o → H' b = some o) → PrAt cP cS cR cJ cA H' x { d with b := d.b + k, c := d.c + o } → PairAt H' v (0, Str.ofString "") → Q v H')) ∨
   (w = 2 ∧ ¬ n ∈ d.rs.map (·.1) ∧ ∀ v H', Same H H' → PairAt H' v (12, n) → Q v H'))
theorem sc__law_laid : FnScope ["_law_printer", "_law_way", "_law_kind", "_law_many_here", "_law_other", "_law_found", "_law_caught", "_law_e"] ["_law_printer", "_law_way", "_law_kind", "_law_many_here", "_law_other"] (defScope s__law_laid) := ⟨rfl, rfl, rfl, by decide +kernel, rfl, by decide +kernel, by decide +kernel⟩
theorem ok__law_laid {fa cState cReady cJammed cAway cStock cPrinter cBadLine cBusy cDry cGoesRound cNoHeap cNoPrinter cNotNow cNoWay cNowhere cOver cTooMuch cTwice cUnknown cHallError : Addr} {fd : FuncData} (F : Fun K "_law_laid" "_law_laid" s__law_laid fa fd) (T : Txt K mg cState cReady cJammed cAway cStock cPrinter cBadLine cBusy cDry cGoesRound cNoHeap cNoPrinter cNotNow cNoWay cNowhere cOver cTooMuch cTwice cUnknown cHallError) (D__law_which : Dfn P w K mg base 2 "_law_which" ["_law_caught"] (sp__law_which cBadLine cBusy cDry cGoesRound cNoHeap cNoPrinter cNotNow cNoWay cNowhere cOver cTooMuch cTwice cUnknown)) (D_Printer_load : MtE P w K mg base 7 "load" cPrinter ["self", "kind", "many"] (sp_Pr_load cUnknown cTooMuch cPrinter cStock cReady cJammed cAway)) (D_Printer_fill : MtE P w K mg base 6 "fill" cPrinter ["self", "black", "coloured"] (sp_Pr_fill cTooMuch cPrinter cStock cReady cJammed cAway)) (D_Printer_paper_left : MtE P w K mg base 5 "paper_left" cPrinter ["self", "kind"] (sp_Pr_paper_left cUnknown cPrinter cStock cReady cJammed cAway)) :
    FnOk P w K mg base CX0 8 fa fd ["_law_printer", "_law_way", "_law_kind", "_law_many_here", "_law_other"] (sp__law_laid cUnknown cTooMuch cPrinter cStock cReady cJammed cAway) := by
  refine F.ok sc__law_laid (fun vs H Q E h => ?_) (fun cdv A outer s H vs Q E hr h => ?_)
  · obtain ⟨x, d, w, n, k, o, rfl, _⟩ := h
    rfl
  obtain ⟨x, d, w', n, k, o, rfl, PP, hh⟩ := h
  have z2 : 2 ≤ sizeLine := small (by decide)
  refine ⟨_, (pss_cons (ps_set (i := 5) sc__law_laid.nd rfl (by first | exact Or.inl rfl | exact Or.inr rfl) pe_non)
  (pss_cons (ps_set (i := 6) sc__law_laid.nd rfl (by first | exact Or.inl rfl | exact Or.inr rfl) pe_non)
  (pss_cons (ps_try top_nox (fun _ _ _ hP hO => by exact (pss_one (ps_if (pt_cmpR op_eq (pv 1) pe_int (nomark _)) (pss_one (ps_set (i := 5) sc__law_laid.nd rfl (by first | exact Or.inl rfl | exact Or.inr rfl) (pe_methEK (P := P) (w := w) (K := K) (mg := mg) (base := base) ⟨rfl, rfl, rfl, rfl, rfl⟩ 7 hP (hr.mono (by decide)) (pv 0) (pa_cons (pv 2) (pa_cons (pv 3) pa_nil))))) (pss_one (ps_if (pt_cmpR op_eq (pv 1) pe_int (nomark _)) (pss_one (ps_set (i := 5) sc__law_laid.nd rfl (by first | exact Or.inl rfl | exact Or.inr rfl) (pe_methEK (P := P) (w := w) (K := K) (mg := mg) (base := base) ⟨rfl, rfl, rfl, rfl, rfl⟩ 6 hP (hr.mono (by decide)) (pv 0) (pa_cons (pv 3) (pa_cons (pv 4) pa_nil))))) (pss_one (ps_set (i := 5) sc__law_laid.nd rfl (by first | exact Or.inl rfl | exact Or.inr rfl) (pe_methEK (P := P) (w := w) (K := K) (mg := mg) (base := base) ⟨rfl, rfl, rfl, rfl, rfl⟩ 5 hP (hr.mono (by decide)) (pv 0) (pa_cons (pv 2) pa_nil))))))))) (ph_as (i := 7) rfl T.mg_HallError sc__law_laid.nd rfl rfl (fun _ => by exact (pss_one (ps_set (i := 6) sc__law_laid.nd rfl (by first | exact Or.inl rfl | exact Or.inr rfl) (pv 7)))) ph_nil))
  (pss_cons (ps_if (pt_cmpR op_isN (pv 6) pe_non (nomark _)) (pss_one (ps_ret (pe_tup (pa_cons (pe_callTy call_int1 rfl T.int bt_int (pa_cons (pe_cmpR op_notN (pv 5) pe_non (nomark _)) pa_nil)) (pa_cons pe_str pa_nil))))) pss_nil)
  (pss_one (ps_ret (pe_callD D__law_which (hr.mono (by decide)) rfl (pa_cons (pv 6) pa_nil)))))))), ?_⟩
  rcases hh with ⟨rfl, q12, qq⟩ | ⟨rfl, q1, q2, q3⟩ | ⟨rfl, nn, q12⟩
  · refine ⟨_, rfl, rfl, _, rfl, iteYes rfl ?_⟩
    refine ⟨_, rfl, x, _, d.dx, _, _, _, rfl, PP.o, rfl, T.cl_Printer, D_Printer_load, _, rfl, _, rfl, x, d, n, k, rfl, PP, fun nn => fun ea H1 sm g => ⟨cUnknown, ea, rfl, rfl, T.x_Unknown.m, T.xq_HallError, true, T.mh_Unknown_HallError, iteT ⟨_, rfl, _, rfl, rfl, _, rfl, iteNo (by intro z; cases z) ⟨_, rfl, ea, 12, n, rfl, .inr (.inr (.inr rfl)), g, fun v H' s' pa => q12 nn v H' (sm.trans s') pa⟩⟩⟩, fun R A eR eA => ⟨fun c => fun ea H1 sm g => ⟨cTooMuch, ea, rfl, rfl, T.x_TooMuch.m, T.xq_HallError, true, T.mh_TooMuch_HallError, iteT ⟨_, rfl, _, rfl, rfl, _, rfl, iteNo (by intro z; cases z) ⟨_, rfl, ea, 10, n, rfl, .inr (.inr (.inl rfl)), g, fun v H' s' pa => (qq R A eR eA).1 c v H' (sm.trans s') pa⟩⟩⟩, fun c H1 kp P1 => ?_⟩⟩
    refine ⟨_, rfl, rfl, _, rfl, iteYes rfl ⟨_, rfl, rfl, .inr ⟨_, rfl, z2, fun t nt => ?_⟩⟩⟩
    have s3 := same_new nt (.tup [V.int 0, V.str (Str.ofString "")])
    exact (qq R A eR eA).2 c _ _ (fun b o nb e => s3 _ _ (kp b o nb e)) (P1.same s3) ⟨t, rfl, upd_same⟩
  · refine ⟨_, rfl, rfl, _, rfl, iteNo (by intro z; injection z with z; exact absurd z (by decide)) ?_⟩
    refine ⟨_, rfl, rfl, _, rfl, iteYes rfl ?_⟩
    refine ⟨_, rfl, x, _, d.dx, _, _, _, rfl, PP.o, rfl, T.cl_Printer, D_Printer_fill, _, rfl, _, rfl, x, d, k, o, rfl, PP, fun c => fun ea H1 sm g => ⟨cTooMuch, ea, rfl, rfl, T.x_TooMuch.m, T.xq_HallError, true, T.mh_TooMuch_HallError, iteT ⟨_, rfl, _, rfl, rfl, _, rfl, iteNo (by intro z; cases z) ⟨_, rfl, ea, 10, blW, rfl, .inr (.inr (.inl rfl)), g, fun v H' s' pa => q1 c v H' (sm.trans s') pa⟩⟩⟩, fun c1 c2 => fun ea H1 sm g => ⟨cTooMuch, ea, rfl, rfl, T.x_TooMuch.m, T.xq_HallError, true, T.mh_TooMuch_HallError, iteT ⟨_, rfl, _, rfl, rfl, _, rfl, iteNo (by intro z; cases z) ⟨_, rfl, ea, 10, coW, rfl, .inr (.inr (.inl rfl)), g, fun v H' s' pa => q2 c1 c2 v H' (sm.trans s') pa⟩⟩⟩, fun c1 c2 H1 kp P1 => ?_⟩
    refine ⟨_, rfl, rfl, _, rfl, iteYes rfl ⟨_, rfl, rfl, .inr ⟨_, rfl, z2, fun t nt => ?_⟩⟩⟩
    have s3 := same_new nt (.tup [V.int 0, V.str (Str.ofString "")])
    exact q3 c1 c2 _ _ (fun b o nb e => s3 _ _ (kp b o nb e)) (P1.same s3) ⟨t, rfl, upd_same⟩
  · refine ⟨_, rfl, rfl, _, rfl, iteNo (by intro z; injection z with z; exact absurd z (by decide)) ?_⟩
    refine ⟨_, rfl, rfl, _, rfl, iteNo (by intro z; injection z with z; exact absurd z (by decide)) ?_⟩
    refine ⟨_, rfl, x, _, d.dx, _, _, _, rfl, PP.o, rfl, T.cl_Printer, D_Printer_paper_left, _, rfl, x, d, n, rfl, PP, fun v lv => absurd (in_rooms PP.ka lv) nn, fun _ => fun ea H1 sm g => ⟨cUnknown, ea, rfl, rfl, T.x_Unknown.m, T.xq_HallError, true, T.mh_Unknown_HallError, iteT ⟨_, rfl, _, rfl, rfl, _, rfl, iteNo (by intro z; cases z) ⟨_, rfl, ea, 12, n, rfl, .inr (.inr (.inr rfl)), g, fun v H' s' pa => q12 v H' (sm.trans s') pa⟩⟩⟩⟩

end
end My

namespace My
open PySem L2
open Blk (sg sg_inj sg_app)
section
variable {P : Program} {w : World} {K : PySem.W.Frag} {mg : Str → Option Value} {base : Heap}
/-! ### the law's worlds -/
abbrev kw (w : String) : Key := Sum.inr (Str.ofString w)
def wD13 (nm : Str) (ca : Addr) (p : Int) (ro : Addr) (st sg : Str) (le ik mo : Addr) : List (Key × V) := [(kw "name", .str nm), (kw "can", .ref ca), (kw "path", .int p), (kw "rooms", .ref ro), (kw "stands", .str st), (kw "strange", .str sg), (kw "left", .ref le), (kw "inks", .ref ik), (kw "most", .ref mo)]
theorem w_name (nm : Str) (ca : Addr) (p : Int) (ro : Addr) (st sg : Str) (le ik mo : Addr) : valV (wD13 nm ca p ro st sg le ik mo) (kw "name") = some (.str nm) := valV_pos rfl
theorem w_can (nm : Str) (ca : Addr) (p : Int) (ro : Addr) (st sg : Str) (le ik mo : Addr) : valV (wD13 nm ca p ro st sg le ik mo) (kw "can") = some (.ref ca) := (valV_neg (by intro z; injection z with z; exact absurd z (by decide +kernel))).trans (valV_pos rfl)
theorem w_path (nm : Str) (ca : Addr) (p : Int) (ro : Addr) (st sg : Str) (le ik mo : Addr) : valV (wD13 nm ca p ro st sg le ik mo) (kw "path") = some (.int p) := (valV_neg (by intro z; injection z with z; exact absurd z (by decide +kernel))).trans ((valV_neg (by intro z; injection z with z; exact absurd z (by decide +kernel))).trans (valV_pos rfl))
theorem w_rooms (nm : Str) (ca : Addr) (p : Int) (ro : Addr) (st sg : Str) (le ik mo : Addr) : valV (wD13 nm ca p ro st sg le ik mo) (kw "rooms") = some (.ref ro) := (valV_neg (by intro z; injection z with z; exact absurd z (by decide +kernel))).trans ((valV_neg (by intro z; injection z with z; exact absurd z (by decide +kernel))).trans ((valV_neg (by intro z; injection z with z; exact absurd z (by decide +kernel))).trans (valV_pos rfl)))
theorem w_stands (nm : Str) (ca : Addr) (p : Int) (ro : Addr) (st sg : Str) (le ik mo : Addr) : valV (wD13 nm ca p ro st sg le ik mo) (kw "stands") = some (.str st) := (valV_neg (by intro z; injection z with z; exact absurd z (by decide +kernel))).trans ((valV_neg (by intro z; injection z with z; exact absurd z (by decide +kernel))).trans ((valV_neg (by intro z; injection z with z; exact absurd z (by decide +kernel))).trans ((valV_neg (by intro z; injection z with z; exact absurd z (by decide +kernel))).trans (valV_pos rfl))))
theorem w_strange (nm : Str) (ca : Addr) (p : Int) (ro : Addr) (st sg : Str) (le ik mo : Addr) : valV (wD13 nm ca p ro st sg le ik mo) (kw "strange") = some (.str sg) := (valV_neg (by intro z; injection z with z; exact absurd z (by decide +kernel))).trans ((valV_neg (by intro z; injection z with z; exact absurd z (by decide +kernel))).trans ((valV_neg (by intro z; injection z with z; exact absurd z (by decide +kernel))).trans ((valV_neg (by intro z; injection z with z; exact absurd z (by decide +kernel))).trans ((valV_neg (by intro z; injection z with z; exact absurd z (by decide +kernel))).trans (valV_pos rfl)))))
theorem w_left (nm : Str) (ca : Addr) (p : Int) (ro : Addr) (st sg : Str) (le ik mo : Addr) : valV (wD13 nm ca p ro st sg le ik mo) (kw "left") = some (.ref le) := (valV_neg (by intro z; injection z with z; exact absurd z (by decide +kernel))).trans ((valV_neg (by intro z; injection z with z; exact absurd z (by decide +kernel))).trans ((valV_neg (by intro z; injection z with z; exact absurd z (by decide +kernel))).trans ((valV_neg (by intro z; injection z with z; exact absurd z (by decide +kernel))).trans ((valV_neg (by intro z; injection z with z; exact absurd z (by decide +kernel))).trans ((valV_neg (by intro z; injection z with z; exact absurd z (by decide +kernel))).trans (valV_pos rfl))))))
theorem w_inks (nm : Str) (ca : Addr) (p : Int) (ro : Addr) (st sg : Str) (le ik mo : Addr) : valV (wD13 nm ca p ro st sg le ik mo) (kw "inks") = some (.ref ik) := (valV_neg (by intro z; injection z with z; exact absurd z (by decide +kernel))).trans ((valV_neg (by intro z; injection z with z; exact absurd z (by decide +kernel))).trans ((valV_neg (by intro z; injection z with z; exact absurd z (by decide +kernel))).trans ((valV_neg (by intro z; injection z with z; exact absurd z (by decide +kernel))).trans ((valV_neg (by intro z; injection z with z; exact absurd z (by decide +kernel))).trans ((valV_neg (by intro z; injection z with z; exact absurd z (by decide +kernel))).trans ((valV_neg (by intro z; injection z with z; exact absurd z (by decide +kernel))).trans (valV_pos rfl)))))))
theorem w_most (nm : Str) (ca : Addr) (p : Int) (ro : Addr) (st sg : Str) (le ik mo : Addr) : valV (wD13 nm ca p ro st sg le ik mo) (kw "most") = some (.ref mo) := (valV_neg (by intro z; injection z with z; exact absurd z (by decide +kernel))).trans ((valV_neg (by intro z; injection z with z; exact absurd z (by decide +kernel))).trans ((valV_neg (by intro z; injection z with z; exact absurd z (by decide +kernel))).trans ((valV_neg (by intro z; injection z with z; exact absurd z (by decide +kernel))).trans ((valV_neg (by intro z; injection z with z; exact absurd z (by decide +kernel))).trans ((valV_neg (by intro z; injection z with z; exact absurd z (by decide +kernel))).trans ((valV_neg (by intro z; injection z with z; exact absurd z (by decide +kernel))).trans ((valV_neg (by intro z; injection z with z; exact absurd z (by decide +kernel))).trans (valV_pos rfl))))))))
theorem put_stands (nm : Str) (ca : Addr) (p : Int) (ro : Addr) (st sg : Str) (le ik mo : Addr) (st' : Str) : putK (wD13 nm ca p ro st sg le ik mo) (kw "stands") (.str st') = wD13 nm ca p ro st' sg le ik mo := by
  unfold putK
  rw [if_pos (List.any_eq_true.mpr ⟨(kw "stands", .str st), by simp [wD13], decide_eq_true rfl⟩)]
  unfold wD13
  simp only [List.map_cons, List.map_nil]
  rw [if_neg (show ¬ (kw "name" : Key) = kw "stands" by decide +kernel)]
  rw [if_neg (show ¬ (kw "can" : Key) = kw "stands" by decide +kernel)]
  rw [if_neg (show ¬ (kw "path" : Key) = kw "stands" by decide +kernel)]
  rw [if_neg (show ¬ (kw "rooms" : Key) = kw "stands" by decide +kernel)]
  rw [if_pos trivial]
  rw [if_neg (show ¬ (kw "strange" : Key) = kw "stands" by decide +kernel)]
  rw [if_neg (show ¬ (kw "left" : Key) = kw "stands" by decide +kernel)]
  rw [if_neg (show ¬ (kw "inks" : Key) = kw "stands" by decide +kernel)]
  rw [if_neg (show ¬ (kw "most" : Key) = kw "stands" by decide +kernel)]
theorem put_inks (nm : Str) (ca : Addr) (p : Int) (ro : Addr) (st sg : Str) (le ik mo : Addr) (ik' : Addr) : putK (wD13 nm ca p ro st sg le ik mo) (kw "inks") (.ref ik') = wD13 nm ca p ro st sg le ik' mo := by
  unfold putK
  rw [if_pos (List.any_eq_true.mpr ⟨(kw "inks", .ref ik), by simp [wD13], decide_eq_true rfl⟩)]
  unfold wD13
  simp only [List.map_cons, List.map_nil]
  rw [if_neg (show ¬ (kw "name" : Key) = kw "inks" by decide +kernel)]
  rw [if_neg (show ¬ (kw "can" : Key) = kw "inks" by decide +kernel)]
  rw [if_neg (show ¬ (kw "path" : Key) = kw "inks" by decide +kernel)]
  rw [if_neg (show ¬ (kw "rooms" : Key) = kw "inks" by decide +kernel)]
  rw [if_neg (show ¬ (kw "stands" : Key) = kw "inks" by decide +kernel)]
  rw [if_neg (show ¬ (kw "strange" : Key) = kw "inks" by decide +kernel)]
  rw [if_neg (show ¬ (kw "left" : Key) = kw "inks" by decide +kernel)]
  rw [if_pos trivial]
  rw [if_neg (show ¬ (kw "most" : Key) = kw "inks" by decide +kernel)]
theorem rg13 {H : Hp} {a : Addr} {kvs : List (Key × V)} {n : Str} {v : V} (h : Rd H a (.dK kvs)) (e : valV kvs (Sum.inr n) = some v) : DGet H a (.str n) (some v) := .inl ⟨kvs, Sum.inr n, h, rfl, e.symm⟩
structure E13 where
  x : Addr
  wo : Addr
  ca : Addr
  ro : Addr
  le : Addr
  ik : Addr
  mo : Addr
  sg : Str
  cs : List Str
  d : PD
def mA (e : E13) : List Addr := [e.x, e.wo, e.d.tr2, e.d.ik2, e.le]
def aA (e : E13) : List Addr := [e.x, e.d.tr, e.d.tr1, e.d.tr2, e.d.ik, e.d.ik1, e.d.ik2, e.d.st, e.d.ins, e.d.cn, e.d.rm, e.wo, e.ca, e.ro, e.le, e.ik, e.mo]
structure SAt13 (cP cS cR cJ cA : Addr) (H : Hp) (e : E13) : Prop where
  P : PrAt cP cS cR cJ cA H e.x e.d
  W : H e.wo = some (.dK (wD13 e.d.name e.ca e.d.path e.ro (wd e.d.S) e.sg e.le e.ik e.mo))
  hca : H e.ca = some (.lst (e.cs.map V.str))
  cn : H e.d.cn = some (.tup (e.cs.map V.str))
  hro : H e.ro = some (.dK (dI e.d.rs))
  rm : H e.d.rm = some (.dK (dI e.d.rs))
  hle : H e.le = some (.lst ((e.d.am.map (·.2)).map V.int))
  hik : H e.ik = some (.lst ([e.d.b, e.d.c].map V.int))
  hmo : H e.mo = some (.lst ([e.d.rb, e.d.rc].map V.int))
  tg : e.d.tags = []
  s3 : e.d.S = .rd ∨ e.d.S = .jm ∨ e.d.S = .aw false
  nd : (e.d.rs.map (·.1)).Nodup
  n1 : e.d.rs ≠ []
  l9 : e.d.rs.length ≤ 9
  lc : e.cs.length ≤ 9
  sg : ¬ e.sg ∈ e.d.rs.map (·.1)
  bA : ∀ n R A, e.d.rs.lookup n = some R → e.d.am.lookup n = some A → A ≤ R
  bb : e.d.b ≤ e.d.rb
  bc : e.d.c ≤ e.d.rc
  r2 : e.ro ≠ e.d.tr2
  r3 : e.d.rm ≠ e.d.tr2
  r4 : e.ro ≠ e.d.ik2
  r5 : e.d.rm ≠ e.d.ik2
  w1 : e.d.tr1 ≠ e.wo
  w2 : e.d.tr2 ≠ e.wo
  w3 : e.d.ik1 ≠ e.wo
  w4 : e.d.ik2 ≠ e.wo
  w5 : e.d.rm ≠ e.wo
  w6 : e.ro ≠ e.wo
  m1 : e.d.ins ≠ e.le
  m2 : e.ca ≠ e.le
  m3 : e.ik ≠ e.le
  m4 : e.mo ≠ e.le
theorem PrAt.keepA {cP cS cR cJ cA : Addr} {H H' : Hp} {x : Addr} {d : PD} (h : PrAt cP cS cR cJ cA H x d) (k : ∀ b ∈ [x, d.tr, d.tr1, d.tr2, d.ik, d.ik1, d.ik2, d.st, d.ins], ∀ o, H b = some o → H' b = some o) : PrAt cP cS cR cJ cA H' x d := by
  obtain ⟨⟨dt, ht⟩, t1, t2, tn⟩ := id h.T
  obtain ⟨⟨di, hi⟩, i1, i2, inn⟩ := id h.I
  obtain ⟨ds, hs⟩ := id h.s
  exact { h with o := k _ (by simp) _ h.o, T := ⟨⟨dt, k _ (by simp) _ ht⟩, k _ (by simp) _ t1, k _ (by simp) _ t2, tn⟩, I := ⟨⟨di, k _ (by simp) _ hi⟩, k _ (by simp) _ i1, k _ (by simp) _ i2, inn⟩, s := ⟨ds, k _ (by simp) _ hs⟩, n := k _ (by simp) _ h.n }
theorem SAt13.keepA {cP cS cR cJ cA : Addr} {H H' : Hp} {e : E13} (h : SAt13 cP cS cR cJ cA H e) (k : ∀ b ∈ aA e, ∀ o, H b = some o → H' b = some o) : SAt13 cP cS cR cJ cA H' e :=
  { h with P := h.P.keepA fun b hb o e1 => k b (by simp only [aA, List.mem_cons, List.not_mem_nil, or_false] at hb ⊢; rcases hb with rfl | rfl | rfl | rfl | rfl | rfl | rfl | rfl | rfl <;> simp) o e1, W := k _ (by simp [aA]) _ h.W, hca := k _ (by simp [aA]) _ h.hca, cn := k _ (by simp [aA]) _ h.cn, hro := k _ (by simp [aA]) _ h.hro, rm := k _ (by simp [aA]) _ h.rm, hle := k _ (by simp [aA]) _ h.hle, hik := k _ (by simp [aA]) _ h.hik, hmo := k _ (by simp [aA]) _ h.hmo }
theorem SAt13.same {cP cS cR cJ cA : Addr} {H H' : Hp} {e : E13} (h : SAt13 cP cS cR cJ cA H e) (k : Same H H') : SAt13 cP cS cR cJ cA H' e := h.keepA fun b _ o e1 => k b o e1
theorem SAt13.all {cP cS cR cJ cA : Addr} {H : Hp} {e : E13} (h : SAt13 cP cS cR cJ cA H e) : ∀ b ∈ aA e, ∃ o, H b = some o := by
  obtain ⟨⟨dt, ht⟩, t1, t2, tn⟩ := id h.P.T
  obtain ⟨⟨di, hi⟩, i1, i2, inn⟩ := id h.P.I
  obtain ⟨ds, hs⟩ := id h.P.s
  intro b hb
  simp only [aA, List.mem_cons, List.not_mem_nil, or_false] at hb
  rcases hb with rfl | rfl | rfl | rfl | rfl | rfl | rfl | rfl | rfl | rfl | rfl | rfl | rfl | rfl | rfl | rfl | rfl
  · exact ⟨_, h.P.o⟩
  · exact ⟨_, ht⟩
  · exact ⟨_, t1⟩
  · exact ⟨_, t2⟩
  · exact ⟨_, hi⟩
  · exact ⟨_, i1⟩
  · exact ⟨_, i2⟩
  · exact ⟨_, hs⟩
  · exact ⟨_, h.P.n⟩
  · exact ⟨_, h.cn⟩
  · exact ⟨_, h.rm⟩
  · exact ⟨_, h.W⟩
  · exact ⟨_, h.hca⟩
  · exact ⟨_, h.hro⟩
  · exact ⟨_, h.hle⟩
  · exact ⟨_, h.hik⟩
  · exact ⟨_, h.hmo⟩
theorem keys_dI {rs : List (Str × Int)} : ((dI rs).map fun q => kV q.1) = (rs.map (·.1)).map V.str := by
  unfold dI
  rw [List.map_map, List.map_map]
  rfl
theorem flat_dI (rs : List (Str × Int)) : ∀ p ∈ dI rs, flatV p.2 = true := fun p hp => by
  obtain ⟨q, _, rfl⟩ := List.mem_map.mp hp
  rfl
theorem val_dI13 : ∀ {rs : List (Str × Int)} {q : Str × Int}, (rs.map (·.1)).Nodup → q ∈ rs → valV (dI rs) (Sum.inr q.1) = some (.int q.2)
  | [], _, _, h => by cases h
  | s :: rs, q, nd, h => by
    obtain ⟨n1, n2⟩ := List.nodup_cons.mp nd
    by_cases e : s.1 = q.1
    · rcases List.mem_cons.mp h with z | z
      · rw [z]; exact valV_pos rfl
      · exact absurd (List.mem_map.mpr ⟨q, z, e.symm⟩) n1
    · rcases List.mem_cons.mp h with z | z
      · exact absurd (congrArg (·.1) z.symm) e
      · exact (valV_neg (fun z => e (by injection z))).trans (val_dI13 n2 z)
theorem eqD_dI {rs : List (Str × Int)} (nd : (rs.map (·.1)).Nodup) : eqD (dI rs) (dI rs) = true := by
  unfold eqD
  rw [beq_self_eq_true, Bool.true_and]
  refine List.all_eq_true.mpr fun p hp => ?_
  obtain ⟨q, hq, rfl⟩ := List.mem_map.mp hp
  unfold hasD
  rw [show ((Sum.inr q.1, V.int q.2) : Key × V).1 = Sum.inr q.1 from rfl, val_dI13 nd hq]
  show (q.2 == q.2) = true
  exact beq_self_eq_true _
theorem look_all : ∀ {am : List (Str × Int)}, (am.map (·.1)).Nodup → (am.map (·.1)).map (fun n => (am.lookup n).getD 0) = am.map (·.2)
  | [], _ => rfl
  | (k, v) :: r, nd => by
    obtain ⟨n1, n2⟩ := List.nodup_cons.mp nd
    rw [List.map_cons, List.map_cons, List.map_cons]
    congr 1
    · show ((List.lookup k ((k, v) :: r)).getD 0) = v
      rw [List.lookup_cons, beq_self_eq_true]
      rfl
    · rw [← look_all n2]
      refine List.map_congr_left fun n hn => ?_
      rw [List.lookup_cons, beq_eq_false_iff_ne.mpr (fun z => n1 (by rw [← z]; exact hn))]
theorem flat_s13 (l : List Str) : (l.map V.str).all flatV = true := List.all_eq_true.mpr fun v hv => by
  obtain ⟨z, _, rfl⟩ := List.mem_map.mp hv
  rfl
theorem at_s13 {zs : List Str} {k : Nat} {z : Str} (h : zs[k]? = some z) : atI (zs.map V.str) (k : Int) = some (.str z) := by
  have e : ixN (zs.map V.str).length (k : Int) = some k := ixN_nat (by rw [List.length_map]; exact (List.getElem?_eq_some_iff.mp h).1)
  unfold atI
  rw [e]
  show (zs.map V.str)[k]? = _
  rw [List.getElem?_map, h]
  rfl
def sp__law_seen (cP cS cR cJ cA : Addr) : Sp := fun vs H Q _ => ∃ e : E13, vs = [.ref e.x, .ref e.wo] ∧ SAt13 cP cS cR cJ cA H e ∧ ∀ H', Same H H' → Q (.bl true) H'
theorem sc__law_seen : FnScope ["_law_printer", "_law_world_here", "_law_kinds", "_law_told", "_law_inks"] ["_law_printer", "_law_world_here"] (defScope s__law_seen) := ⟨rfl, rfl, rfl, by decide +kernel, rfl, by decide +kernel, by decide +kernel⟩
theorem ok__law_seen {fa cState cReady cJammed cAway cStock cPrinter cBadLine cBusy cDry cGoesRound cNoHeap cNoPrinter cNotNow cNoWay cNowhere cOver cTooMuch cTwice cUnknown cHallError : Addr} {fd : FuncData} (F : Fun K "_law_seen" "_law_seen" s__law_seen fa fd) (T : Txt K mg cState cReady cJammed cAway cStock cPrinter cBadLine cBusy cDry cGoesRound cNoHeap cNoPrinter cNotNow cNoWay cNowhere cOver cTooMuch cTwice cUnknown cHallError) (D__law_wholes : Dfn P w K mg base 1 "_law_wholes" ["_law_found", "_law_due"] (sp__law_wholes K)) (D_Printer_stands : MtE P w K mg base 2 "stands" cPrinter ["self"] (sp_Pr_stands cPrinter cStock cReady cJammed cAway)) (D_Printer_within : MtE P w K mg base 1 "within" cPrinter ["self"] (sp_Pr_within cPrinter cStock cReady cJammed cAway)) (D_Printer_papers : MtE P w K mg base 1 "papers" cPrinter ["self"] (sp_Pr_papers cPrinter cStock cReady cJammed cAway)) (D_Printer_ink_left : MtE P w K mg base 5 "ink_left" cPrinter ["self"] (sp_Pr_ink_left cPrinter cStock cReady cJammed cAway)) (D_Printer_paper_left : MtE P w K mg base 5 "paper_left" cPrinter ["self", "kind"] (sp_Pr_paper_left cUnknown cPrinter cStock cReady cJammed cAway)) :
    FnOk P w K mg base CX0 6 fa fd ["_law_printer", "_law_world_here"] (sp__law_seen cPrinter cStock cReady cJammed cAway) := by
  refine F.ok sc__law_seen (fun vs H Q E h => ?_) (fun cdv A outer s H vs Q E hr h => ?_)
  · obtain ⟨e, rfl, _⟩ := h
    rfl
  obtain ⟨e, rfl, S, q⟩ := h
  have hu := hu_n hr 0 (by decide)
  have hu0 := Nat.lt_of_le_of_lt (Nat.le_add_right _ _) hu
  have z2 : 2 ≤ sizeLine := small (by decide)
  refine ⟨_, (pss_cons (ps_set (i := 2) sc__law_seen.nd rfl (by first | exact Or.inl rfl | exact Or.inr rfl) (pe_callTy (call_list_keys rfl) rfl T.list bt_list (pa_cons (pe_bm0 PySem.F.plainAttrs_dict PySem.F.slot_dict_keys PySem.F.type_dict_keys mt_keys (pe_dget hu (pv 1) pe_str (fun _ _ => rfl))) pa_nil)))
  (pss_cons (ps_if (PW.pt (pw_or (pt_cmpR op_ne (pe_fld (pv 0) rfl) (pe_dget hu (pv 1) pe_str (fun _ _ => rfl)) (nomark _)) (pw_or (pt_cmpR (op_ne_tup hu0) (pe_fld (pv 0) rfl) (pe_callTy call_tuple_of rfl T.tuple bt_tuple (pa_cons (pe_dget hu (pv 1) pe_str (fun _ _ => rfl)) pa_nil)) (nomark _)) (pw_or1 (pt_cmpR op_ne (pe_fld (pv 0) rfl) (pe_dget hu (pv 1) pe_str (fun _ _ => rfl)) (nomark _)))))) (pss_one (ps_ret pe_bl)) pss_nil)
  (pss_cons (ps_set (i := 3) sc__law_seen.nd rfl (by first | exact Or.inl rfl | exact Or.inr rfl) (pe_methE0 1 passE0 (hr.mono (by decide)) (pv 0)))
  (pss_cons (ps_if (PW.pt (pw_or (pt_not (pt_truth (pe_callB call_isi rfl T.isinstance bt_isi (pa_cons (pv 3) (pa_cons (pe_bltn rfl T.dict bt_dict (rel_ty _)) pa_nil))) (fun _ => rfl))) (pw_or (pt_cmpR (op_ne_d hu0) (pv 3) (pe_dget hu (pv 1) pe_str (fun _ _ => rfl)) (nomark _)) (pw_or1 (pt_cmpR (op_ne_list hu0) (pe_callTy (call_list_keys rfl) rfl T.list bt_list (pa_cons (pe_bm0 PySem.F.plainAttrs_dict PySem.F.slot_dict_keys PySem.F.type_dict_keys mt_keys (pv 3)) pa_nil)) (pv 2) (nomark _)))))) (pss_one (ps_ret pe_bl)) pss_nil)
  (pss_cons (ps_dput hu (pv 3) (pe_ix ix_list (pv 2) pe_int (fun _ _ => rfl)) pe_int rfl)
  (pss_cons (ps_set (i := 4) sc__law_seen.nd rfl (by first | exact Or.inl rfl | exact Or.inr rfl) (pe_methE0 5 passE0 (hr.mono (by decide)) (pv 0)))
  (pss_cons (ps_if (PW.pt (pw_or (pt_not (pt_truth (pe_callB call_isi rfl T.isinstance bt_isi (pa_cons (pv 4) (pa_cons (pe_bltn rfl T.tuple bt_tuple (rel_ty _)) pa_nil))) (fun _ => rfl))) (pw_or1 (pt_not (pt_truth (pe_callD D__law_wholes (hr.mono (by decide)) rfl (pa_cons (pe_callTy call_list_of rfl T.list bt_list (pa_cons (pv 4) pa_nil)) (pa_cons (pe_dget hu (pv 1) pe_str (fun _ _ => rfl)) pa_nil))) (fun _ => rfl)))))) (pss_one (ps_ret pe_bl)) pss_nil)
  (pss_cons (ps_if (pt_not (pt_truth (pe_callD D__law_wholes (hr.mono (by decide)) rfl (pa_cons (pe_comp (frees := [("_law_printer", 0)]) ⟨by decide +kernel, rfl, rfl, by decide +kernel, ⟨⟨rfl, rfl, rfl, by decide +kernel⟩, trivial⟩, by decide +kernel, cellsFor_at rfl, rfl⟩ rfl (pi_list (pv 2)) (fun _ _ _ _ => pifs_nil) (fun _ _ _ _ => by exact (pe_methEK (P := P) (w := w) (K := K) (mg := mg) (base := base) ⟨rfl, rfl, rfl, rfl, rfl⟩ 5 passE0 (hr.mono (by decide)) (pv 1) (pa_cons (pv 0) pa_nil)))) (pa_cons (pe_dget hu (pv 1) pe_str (fun _ _ => rfl)) pa_nil))) (fun _ => rfl))) (pss_one (ps_ret pe_bl)) pss_nil)
  (pss_cons (ps_set (i := 3) sc__law_seen.nd rfl (by first | exact Or.inl rfl | exact Or.inr rfl) (pe_methE0 1 passE0 (hr.mono (by decide)) (pv 0)))
  (pss_cons (ps_if (PW.pt (pw_or (pt_cmpR (op_ne_list hu0) (pv 3) (pe_lst pa_nil) (nomark _)) (pw_or (pt_not (pt_truth (pe_callB call_isi rfl T.isinstance bt_isi (pa_cons (pe_methE0 2 passE0 (hr.mono (by decide)) (pv 0)) (pa_cons (pe_bltn rfl T.str bt_str (rel_ty _)) pa_nil))) (fun _ => rfl))) (pw_or1 (pt_cmpR op_ne (pe_methE0 2 passE0 (hr.mono (by decide)) (pv 0)) (pe_dget hu (pv 1) pe_str (fun _ _ => rfl)) (nomark _)))))) (pss_one (ps_ret pe_bl)) pss_nil)
  (pss_cons (ps_expr (pe_bm PySem.F.plainAttrs_list PySem.F.slot_list_append PySem.F.type_list_append mt_append (pv 3) (pa_cons (pe_tup (pa_cons pe_str (pa_cons pe_int pa_nil))) pa_nil)))
  (pss_one (ps_ret pe_bl))))))))))))), ?_⟩
  refine ⟨_, rfl, e.wo, _, rfl, rg13 (.inl S.W) (w_rooms _ _ _ _ _ _ _ _ _), .inr (.inr (.inl ⟨rfl, .inl ⟨_, S.hro⟩⟩)), e.ro, _, rfl, rfl, S.hro, fun v nv => ⟨v, e.ro, _, rfl, upd_same, same_new nv _ _ _ S.hro, fun l nl => ?_⟩⟩
  rw [keys_dI]
  have k1 := (same_new nv (KW v e.ro)).trans (same_new nl (.lst ((e.d.rs.map (·.1)).map V.str)))
  have hl : upd (upd H v (KW v e.ro)) l (.lst ((e.d.rs.map (·.1)).map V.str)) l = some (.lst ((e.d.rs.map (·.1)).map V.str)) := upd_same
  generalize upd (upd H v (KW v e.ro)) l (.lst ((e.d.rs.map (·.1)).map V.str)) = H1 at k1 hl ⊢
  have S1 := S.same k1
  refine ⟨_, rfl, e.x, cPrinter, e.d.dx, _, _, rfl, S1.P.o, T.cl_Printer, T.n_Printer_name, rfl, _, rfl, e.wo, _, rfl, rg13 (.inl S1.W) (w_name _ _ _ _ _ _ _ _ _), rfl, _, rfl, ite2 (fun c => ?_) (fun _ => ?_)⟩
  · simp at c
  refine ⟨_, rfl, e.x, cPrinter, e.d.dx, _, _, rfl, S1.P.o, T.cl_Printer, T.n_Printer_can, rfl, _, rfl, e.wo, _, rfl, rg13 (.inl S1.W) (w_can _ _ _ _ _ _ _ _ _), e.ca, _, rfl, .inl ⟨SqL.of S1.hca, fun t nt => ?_⟩⟩
  have k2 := same_new nt (.tup (e.cs.map V.str))
  have ht : upd H1 t (.tup (e.cs.map V.str)) t = some (.tup (e.cs.map V.str)) := upd_same
  generalize upd H1 t (.tup (e.cs.map V.str)) = H2 at k2 ht ⊢
  have S2 := S1.same k2
  refine ⟨e.d.cn, t, _, _, rfl, rfl, SqT.of S2.cn, SqT.of ht, rfl, flat_s13 _, flat_s13 _, _, rfl, ?_⟩
  rw [if_pos rfl, eqVs_refl (flat_s13 _)]
  refine iteF ⟨_, rfl, e.x, cPrinter, e.d.dx, _, _, rfl, S2.P.o, T.cl_Printer, T.n_Printer_path, rfl, _, rfl, e.wo, _, rfl, rg13 (.inl S2.W) (w_path _ _ _ _ _ _ _ _ _), rfl, _, rfl, ite2 (fun c => ?_) (fun _ => ?_)⟩
  · simp at c
  refine ⟨_, rfl, e.x, _, e.d.dx, _, _, _, rfl, S2.P.o, rfl, T.cl_Printer, D_Printer_papers, e.x, e.d, rfl, S2.P, S2.rm, fun p H3 k3 np hp => ?_⟩
  have S3 := S2.same k3
  have hl3 := k3 _ _ (k2 _ _ hl)
  refine ⟨_, rfl, _, _, _, true, rfl, TyOf.dK hp, kit_same _, true, rfl, iteF ?_⟩
  refine ⟨_, rfl, _, rfl, e.wo, _, rfl, rg13 (.inl S3.W) (w_rooms _ _ _ _ _ _ _ _ _), p, e.ro, _, _, rfl, rfl, hp, S3.hro, flat_dI _, flat_dI _, _, rfl, ?_⟩
  rw [if_pos rfl, eqD_dI S.nd]
  refine iteF ⟨_, rfl, .inr (.inr (.inl ⟨rfl, .inl ⟨_, hp⟩⟩)), p, _, rfl, rfl, hp, fun v4 nv4 => ⟨v4, p, _, rfl, upd_same, same_new nv4 _ _ _ hp, fun l4 nl4 => ?_⟩⟩
  rw [keys_dI]
  have k4 := (same_new nv4 (KW v4 p)).trans (same_new nl4 (.lst ((e.d.rs.map (·.1)).map V.str)))
  have hl4 : upd (upd H3 v4 (KW v4 p)) l4 (.lst ((e.d.rs.map (·.1)).map V.str)) l4 = some (.lst ((e.d.rs.map (·.1)).map V.str)) := upd_same
  generalize upd (upd H3 v4 (KW v4 p)) l4 (.lst ((e.d.rs.map (·.1)).map V.str)) = H4 at k4 hl4 ⊢
  refine ⟨_, rfl, l4, l, _, _, rfl, rfl, SqL.of hl4, SqL.of (k4 _ _ hl3), flat_s13 _, flat_s13 _, _, rfl, ?_⟩
  rw [if_pos rfl, eqVs_refl (flat_s13 _)]
  obtain ⟨q0, er0⟩ : ∃ q0, e.d.rs[0]? = some q0 := by
    cases er : e.d.rs with
    | nil => exact absurd er S.n1
    | cons a r => exact ⟨a, rfl⟩
  have a0 : atI ((e.d.rs.map (·.1)).map V.str) 0 = some (V.str q0.1) := at_s13 (k := 0) (by rw [List.getElem?_map, er0]; rfl)
  refine iteF ⟨_, rfl, _, rfl, l, _, 0, _, rfl, rfl, SqL.of (k4 _ _ hl3), a0, p, _, rfl, DPut.k (k := Sum.inr q0.1) (k4 _ _ hp) (small1000 (by unfold dI; rw [List.length_map]; have := S.l9; omega)), ?_⟩
  have k05 : Same H _ := same_on ((k1.trans k2).free np) (k1.trans (k2.trans (k3.trans k4))) (.dK (putK (dI e.d.rs) (Sum.inr q0.1) (.int 0)))
  have k35 : ∀ b o, b ≠ p → H4 b = some o → upd H4 p (.dK (putK (dI e.d.rs) (Sum.inr q0.1) (.int 0))) b = some o := fun b o nb e1 => by rw [upd_ne nb]; exact e1
  have hl5 := k35 _ _ (ne_of (k4 _ _ hl3) (k4 _ _ hp) (by intro z; cases z)) (k4 _ _ hl3)
  generalize upd H4 p (.dK (putK (dI e.d.rs) (Sum.inr q0.1) (.int 0))) = H5 at k05 k35 hl5 ⊢
  have S5 := S.same k05
  refine ⟨_, rfl, e.x, _, e.d.dx, _, _, _, rfl, S5.P.o, rfl, T.cl_Printer, D_Printer_ink_left, e.x, e.d, rfl, S5.P, fun t6 H6 k6 ht6 => ?_⟩
  have S6 := S5.same k6
  refine ⟨_, rfl, _, _, _, true, rfl, TyOf.tup ht6, kit_same _, true, rfl, iteF ?_⟩
  refine ⟨_, rfl, t6, _, rfl, .inr (SqT.of ht6), fun l7 nl7 => ?_⟩
  have k7 := same_new nl7 (.lst [V.int e.d.b, V.int e.d.c])
  have hl7 : upd H6 l7 (.lst [V.int e.d.b, V.int e.d.c]) l7 = some (.lst ([e.d.b, e.d.c].map V.int)) := upd_same
  generalize upd H6 l7 (.lst [V.int e.d.b, V.int e.d.c]) = H7 at k7 hl7 ⊢
  have S7 := S6.same k7
  refine ⟨_, rfl, e.wo, _, rfl, rg13 (.inl S7.W) (w_inks _ _ _ _ _ _ _ _ _), l7, e.ik, [e.d.b, e.d.c], rfl, hl7, S7.hik, by show 2 ≤ 900; decide, true, rfl, iteF ?_⟩
  have hl7' := k7 _ _ (k6 _ _ hl5)
  refine ⟨_, rfl, l, rfl, ⟨_, SqL.of hl7'⟩, ?_⟩
  refine compB_seq (seq_list (K := K) (SqL.of hl7')) (fun _ => true) (fun v => match v with | .str n => .int ((e.d.am.lookup n).getD 0) | v => v) (small1000 (by rw [List.length_map, List.length_map]; have := S.l9; omega)) (fun v hv H' R _ r => r) (fun v hv H' R sm _ r => ?_) (fun l8 H8 k8 nl8 hl8 => ?_)
  · obtain ⟨n, hn, rfl⟩ := List.mem_map.mp hv
    have S8 := S7.same sm
    refine ⟨_, rfl, e.x, _, e.d.dx, _, _, _, rfl, S8.P.o, rfl, T.cl_Printer, D_Printer_paper_left, _, rfl, e.x, e.d, n, rfl, S8.P, fun v lv => ?_, fun z => absurd hn z⟩
    rw [show (match V.str n with | .str n => V.int ((e.d.am.lookup n).getD 0) | v => v) = V.int ((e.d.am.lookup n).getD 0) from rfl, lv] at r
    exact r
  have hl8' : H8 l8 = some (.lst ((e.d.am.map (·.2)).map V.int)) := by
    rw [hl8]
    refine congrArg (fun l => some (HO.lst l)) ?_
    rw [List.filter_eq_self.mpr fun _ _ => rfl, ← S.P.ka, ← look_all (by rw [S.P.ka]; exact S.nd)]
    simp only [List.map_map]
    rfl
  have S8 := S7.same k8
  refine ⟨_, rfl, e.wo, _, rfl, rg13 (.inl S8.W) (w_left _ _ _ _ _ _ _ _ _), l8, e.le, _, rfl, hl8', S8.hle, by rw [List.length_map]; have := S.P.la; omega, true, rfl, iteF ?_⟩
  refine ⟨_, rfl, e.x, _, e.d.dx, _, _, _, rfl, S8.P.o, rfl, T.cl_Printer, D_Printer_within, e.x, e.d, rfl, S8.P, fun l9 H9 k9 nl9 hl9 => ?_⟩
  rw [S.tg] at hl9
  have S9 := S8.same k9
  refine ⟨_, rfl, Nat.zero_le _, fun e0 ne0 => ⟨l9, e0, _, _, rfl, rfl, SqL.of (same_new ne0 _ _ _ hl9), SqL.of upd_same, rfl, rfl, _, rfl, iteF ?_⟩⟩
  have k10 := same_new ne0 (.lst [])
  generalize upd H9 e0 (.lst []) = H10 at k10 ⊢
  have S10 := S9.same k10
  refine ⟨_, rfl, e.x, _, e.d.dx, _, _, _, rfl, S10.P.o, rfl, T.cl_Printer, D_Printer_stands, e.x, e.d, rfl, S10.P, _, _, _, true, rfl, TyOf.str _, kit_same _, true, rfl, iteF ?_⟩
  refine ⟨_, rfl, e.x, _, e.d.dx, _, _, _, rfl, S10.P.o, rfl, T.cl_Printer, D_Printer_stands, e.x, e.d, rfl, S10.P, _, rfl, e.wo, _, rfl, rg13 (.inl S10.W) (w_stands _ _ _ _ _ _ _ _ _), rfl, _, rfl, ite2 (fun c => ?_) (fun _ => ?_)⟩
  · simp at c
  have hl10 := k10 _ _ hl9
  refine ⟨_, rfl, .inl ⟨rfl, _, SqL.of hl10⟩, z2, fun t11 n11 => ⟨l9, _, _, rfl, rfl, same_new n11 _ _ _ hl10, small1000 (by show 0 ≤ 1000; decide), ?_⟩⟩
  have kk : Same H8 _ := same_on nl9 (k9.trans (k10.trans (same_new n11 (.tup [V.str (Str.ofString "a"), V.int 0])))) (.lst ([] ++ [V.ref t11]))
  exact q _ (k05.trans (k6.trans (k7.trans (k8.trans kk))))

end
end My

namespace My
open PySem L2
open Blk (sg sg_inj sg_app)
section
variable {P : Program} {w : World} {K : PySem.W.Frag} {mg : Str → Option Value} {base : Heap}
/-! ### what a deed changes -/
structure Ch13 (e e' : E13) (H H' : Hp) : Prop where
  k : ∀ b o, b ∉ mA e → H b = some o → H' b = some o
  m : mA e' = mA e
  a : ∀ b ∈ aA e', b ∈ aA e ∨ H b = none
theorem Ch13.refl {e : E13} {H H' : Hp} (k : Same H H') : Ch13 e e H H' := ⟨fun b o _ e => k b o e, rfl, fun b hb => .inl hb⟩
theorem deq_pair {K : PySem.W.Frag} {H : Hp} (n : Int) (z : Str) : ∀ j, j < [V.int n, V.str z].length → Deq K H 0 ([V.int n, V.str z].getD j .non) ([V.int n, V.str z].getD j .non) := fun j hj => by
  match j, hj with
  | 0, _ => exact ⟨rfl, rfl⟩
  | 1, _ => exact ⟨rfl, rfl⟩
theorem set_snd : ∀ {am : List (Str × Int)} {i : Nat} {n : Str} {A v : Int}, (am.map (·.1)).Nodup → am[i]? = some (n, A) → (setA am n v).map (·.2) = (am.map (·.2)).set i v
  | [], i, _, _, _, _, h => by simp at h
  | (k, u) :: r, 0, n, A, v, nd, h => by
    obtain ⟨n1, n2⟩ := List.nodup_cons.mp nd
    have e := Option.some.inj h
    injection e with e1 e2
    have e1' : k = n := e1
    show (if k = n then (k, v) else (k, u)).2 :: ((setA r n v).map (·.2)) = v :: r.map (·.2)
    rw [if_pos e1']
    congr 1
    unfold setA
    rw [List.map_map]
    refine List.map_congr_left fun p hp => ?_
    show (if p.1 = n then (p.1, v) else p).2 = p.2
    rw [if_neg (fun z => n1 (by show k ∈ r.map (·.1); rw [e1', ← z]; exact List.mem_map.mpr ⟨p, hp, rfl⟩))]
  | (k, u) :: r, i + 1, n, A, v, nd, h => by
    obtain ⟨n1, n2⟩ := List.nodup_cons.mp nd
    have hm : n ∈ r.map (·.1) := List.mem_map.mpr ⟨_, List.mem_of_getElem? (show r[i]? = some (n, A) from h), rfl⟩
    have nk : ¬ k = n := fun z => n1 (by show k ∈ r.map (·.1); rw [z]; exact hm)
    show (if k = n then (k, v) else (k, u)).2 :: ((setA r n v).map (·.2)) = u :: (r.map (·.2)).set i v
    rw [if_neg nk, set_snd n2 (show r[i]? = some (n, A) from h)]
theorem look_at13 : ∀ {am : List (Str × Int)} {i : Nat} {n : Str} {A : Int}, (am.map (·.1)).Nodup → am[i]? = some (n, A) → am.lookup n = some A
  | [], i, _, _, _, h => by simp at h
  | (k, u) :: r, 0, n, A, nd, h => by
    have e := Option.some.inj h
    injection e with e1 e2
    subst e1 e2
    rw [List.lookup_cons, beq_self_eq_true]
  | (k, u) :: r, i + 1, n, A, nd, h => by
    obtain ⟨n1, n2⟩ := List.nodup_cons.mp nd
    have hm : n ∈ r.map (·.1) := List.mem_map.mpr ⟨_, List.mem_of_getElem? (show r[i]? = some (n, A) from h), rfl⟩
    rw [List.lookup_cons, beq_eq_false_iff_ne.mpr (fun z => n1 (by show k ∈ r.map (·.1); rw [← z]; exact hm))]
    exact look_at13 n2 h
theorem both_at13 {rs am : List (Str × Int)} {i : Nat} (ka : am.map (·.1) = rs.map (·.1)) (hi : i < rs.length) : ∃ n R A, rs[i]? = some (n, R) ∧ am[i]? = some (n, A) := by
  have l : am.length = rs.length := by have := congrArg List.length ka; rwa [List.length_map, List.length_map] at this
  obtain ⟨q, eq⟩ : ∃ q, rs[i]? = some q := ⟨_, List.getElem?_eq_getElem hi⟩
  obtain ⟨p, ep⟩ : ∃ p, am[i]? = some p := ⟨_, List.getElem?_eq_getElem (by omega)⟩
  have := congrArg (·[i]?) ka
  simp only [List.getElem?_map, eq, ep, Option.map_some] at this
  have e := Option.some.inj this
  exact ⟨q.1, q.2, p.2, eq, by rw [ep, ← e]⟩
theorem look_ne13 {n m : Str} {v : Int} (h : m ≠ n) : ∀ {am : List (Str × Int)}, (setA am n v).lookup m = am.lookup m
  | [] => rfl
  | (k, u) :: r => by
    show List.lookup m ((if k = n then (k, v) else (k, u)) :: setA r n v) = _
    by_cases c : k = n
    · rw [if_pos c, List.lookup_cons, List.lookup_cons, beq_eq_false_iff_ne.mpr (by rw [c]; exact h)]
      exact look_ne13 h
    · rw [if_neg c, List.lookup_cons, List.lookup_cons]
      cases (m == k) with
      | true => rfl
      | false => exact look_ne13 h
theorem look_eq13 {n : Str} {v : Int} : ∀ {am : List (Str × Int)}, n ∈ am.map (·.1) → (setA am n v).lookup n = some v
  | [], h => by cases h
  | (k, u) :: r, h => by
    show List.lookup n ((if k = n then (k, v) else (k, u)) :: setA r n v) = _
    by_cases c : k = n
    · rw [if_pos c, List.lookup_cons, beq_iff_eq.mpr c.symm]
    · rw [if_neg c, List.lookup_cons, beq_eq_false_iff_ne.mpr (Ne.symm c)]
      rcases List.mem_cons.mp h with e | e
      · exact absurd e.symm c
      · exact look_eq13 e
def sp__law_loaded (K : PySem.W.Frag) (cP cS cR cJ cA : Addr) : Sp := fun vs H Q _ => ∃ (a : Addr) (k : Int) (e : E13), vs = [.ref a, .int k, .ref e.x, .ref e.wo] ∧ Scr K H a ∧ 0 ≤ k ∧ k ≤ 5000 ∧ SAt13 cP cS cR cJ cA H e ∧ ∀ e' H', SAt13 cP cS cR cJ cA H' e' → Ch13 e e' H H' → Q (.bl true) H'
theorem sc__law_loaded : FnScope ["_law_script", "_law_k", "_law_printer", "_law_world_here", "_law_kinds", "_law_due", "_law_at", "_law_exact", "_law_many_here", "_law_told"] ["_law_script", "_law_k", "_law_printer", "_law_world_here"] (defScope s__law_loaded) := ⟨rfl, rfl, rfl, by decide +kernel, rfl, by decide +kernel, by decide +kernel⟩
theorem ok__law_loaded {fa cState cReady cJammed cAway cStock cPrinter cBadLine cBusy cDry cGoesRound cNoHeap cNoPrinter cNotNow cNoWay cNowhere cOver cTooMuch cTwice cUnknown cHallError : Addr} {fd : FuncData} (F : Fun K "_law_loaded" "_law_loaded" s__law_loaded fa fd) (T : Txt K mg cState cReady cJammed cAway cStock cPrinter cBadLine cBusy cDry cGoesRound cNoHeap cNoPrinter cNotNow cNoWay cNowhere cOver cTooMuch cTwice cUnknown cHallError) (D__law_by : Dfn P w K mg base 2 "_law_by" ["_law_script", "_law_k", "_law_many_here"] (sp__law_by K)) (D__law_many : Dfn P w K mg base 3 "_law_many" ["_law_script", "_law_k", "_law_exact"] (sp__law_many K)) (D__law_laid : Dfn P w K mg base 8 "_law_laid" ["_law_printer", "_law_way", "_law_kind", "_law_many_here", "_law_other"] (sp__law_laid cUnknown cTooMuch cPrinter cStock cReady cJammed cAway)) :
    FnOk P w K mg base CX0 9 fa fd ["_law_script", "_law_k", "_law_printer", "_law_world_here"] (sp__law_loaded K cPrinter cStock cReady cJammed cAway) := by
  refine F.ok sc__law_loaded (fun vs H Q E h => ?_) (fun cdv A outer s H vs Q E hr h => ?_)
  · obtain ⟨a, k, e, rfl, _⟩ := h
    rfl
  obtain ⟨a, k, e, rfl, hS, k0, k1, S, q⟩ := h
  have hu := hu_n hr 0 (by decide)
  have z2 : 2 ≤ sizeLine := small (by decide)
  refine ⟨_, (pss_cons (ps_set (i := 4) sc__law_loaded.nd rfl (by first | exact Or.inl rfl | exact Or.inr rfl) (pe_callTy (call_list_keys rfl) rfl T.list bt_list (pa_cons (pe_bm0 PySem.F.plainAttrs_dict PySem.F.slot_dict_keys PySem.F.type_dict_keys mt_keys (pe_dget hu (pv 3) pe_str (fun _ _ => rfl))) pa_nil)))
  (pss_cons (ps_if (pt_cmpR op_eq (pe_callD D__law_by (hr.mono (by decide)) rfl (pa_cons (pv 0) (pa_cons (pv 1) (pa_cons pe_int pa_nil)))) pe_int (nomark _)) (pss_cons (ps_set (i := 5) sc__law_loaded.nd rfl (by first | exact Or.inl rfl | exact Or.inr rfl) (pe_tup (pa_cons pe_int (pa_cons (pe_dget hu (pv 3) pe_str (fun _ _ => rfl)) pa_nil))))
  (pss_one (ps_ret (pe_and (pe_cmpR (op_eq_dq (n := 0) hu) (pe_callD D__law_laid (hr.mono (by decide)) rfl (pa_cons (pv 2) (pa_cons pe_int (pa_cons (pe_ix ix_tup (pv 5) pe_int (fun _ _ => rfl)) (pa_cons pe_int (pa_cons pe_int pa_nil)))))) (pv 5) (nomark _)) (pe_one (pe_cmpR (op_eq_dq (n := 0) hu) (pe_callD D__law_laid (hr.mono (by decide)) rfl (pa_cons (pv 2) (pa_cons pe_int (pa_cons (pe_ix ix_tup (pv 5) pe_int (fun _ _ => rfl)) (pa_cons pe_int (pa_cons pe_int pa_nil)))))) (pv 5) (nomark _))))))) pss_nil)
  (pss_cons (ps_set (i := 6) sc__law_loaded.nd rfl (by first | exact Or.inl rfl | exact Or.inr rfl) (pe_callD D__law_by (hr.mono (by decide)) rfl (pa_cons (pv 0) (pa_cons (pe_op op_add (pv 1) pe_int) (pa_cons (pe_callB call_len_seq rfl T.len PySem.boot_len (pa_cons (pv 4) pa_nil)) pa_nil)))))
  (pss_cons (ps_set (i := 7) sc__law_loaded.nd rfl (by first | exact Or.inl rfl | exact Or.inr rfl) (pe_op op_sub (pe_dget hu (pe_dget hu (pv 3) pe_str (fun _ _ => rfl)) (pe_ix ix_listA (pv 4) (pv 6) (fun _ _ => rfl)) (fun _ _ => rfl)) (pe_ix ix_listA (pe_dget hu (pv 3) pe_str (fun _ _ => rfl)) (pv 6) (fun _ _ => rfl))))
  (pss_cons (ps_set (i := 8) sc__law_loaded.nd rfl (by first | exact Or.inl rfl | exact Or.inr rfl) (pe_callD D__law_many (hr.mono (by decide)) rfl (pa_cons (pv 0) (pa_cons (pe_op op_add (pv 1) pe_int) (pa_cons (pv 7) pa_nil)))))
  (pss_cons (ps_set (i := 9) sc__law_loaded.nd rfl (by first | exact Or.inl rfl | exact Or.inr rfl) (pe_callD D__law_laid (hr.mono (by decide)) rfl (pa_cons (pv 2) (pa_cons pe_int (pa_cons (pe_ix ix_listA (pv 4) (pv 6) (fun _ _ => rfl)) (pa_cons (pv 8) (pa_cons pe_int pa_nil)))))))
  (pss_cons (ps_if (pt_cmpR op_gt (pv 8) (pv 7) (nomark _)) (pss_one (ps_ret (pe_cmpR (op_eq_dq (n := 0) hu) (pv 9) (pe_tup (pa_cons pe_int (pa_cons (pe_ix ix_listA (pv 4) (pv 6) (fun _ _ => rfl)) pa_nil))) (nomark _)))) pss_nil)
  (pss_cons (ps_asg (pe_op op_add (pe_ix ix_listA (pe_dget hu (pv 3) pe_str (fun _ _ => rfl)) (pv 6) (fun _ _ => rfl)) (pv 8)) (pg_sub (pe_dget hu (pv 3) pe_str (fun _ _ => rfl)) (pv 6) set_list))
  (pss_one (ps_ret (pe_cmpR (op_eq_dq (n := 0) hu) (pv 9) (pe_tup (pa_cons pe_int (pa_cons pe_str pa_nil))) (nomark _)))))))))))), ?_⟩
  refine ⟨_, rfl, e.wo, _, rfl, rg13 (.inl S.W) (w_rooms _ _ _ _ _ _ _ _ _), .inr (.inr (.inl ⟨rfl, .inl ⟨_, S.hro⟩⟩)), e.ro, _, rfl, rfl, S.hro, fun v nv => ⟨v, e.ro, _, rfl, upd_same, same_new nv _ _ _ S.hro, fun l nl => ?_⟩⟩
  rw [keys_dI]
  have s1 := (same_new nv (KW v e.ro)).trans (same_new nl (.lst ((e.d.rs.map (·.1)).map V.str)))
  have hl : upd (upd H v (KW v e.ro)) l (.lst ((e.d.rs.map (·.1)).map V.str)) l = some (.lst ((e.d.rs.map (·.1)).map V.str)) := upd_same
  generalize upd (upd H v (KW v e.ro)) l (.lst ((e.d.rs.map (·.1)).map V.str)) = H1 at s1 hl ⊢
  have S1 := S.same s1
  refine ⟨_, rfl, _, rfl, a, _, _, rfl, hS.same s1, by omega, by omega, by decide, fun r _ _ => ⟨rfl, _, rfl, ite2 (fun _ => ?_) (fun _ => ?_)⟩⟩
  · refine ⟨_, rfl, e.wo, _, rfl, rg13 (.inl S1.W) (w_strange _ _ _ _ _ _ _ _ _), z2, fun t nt => ?_⟩
    have s2 := same_new nt (.tup [V.int 12, V.str e.sg])
    have ht : upd H1 t (.tup [V.int 12, V.str e.sg]) t = some (.tup [V.int 12, V.str e.sg]) := upd_same
    generalize upd H1 t (.tup [V.int 12, V.str e.sg]) = H2 at s2 ht ⊢
    have S2 := S1.same s2
    refine ⟨_, rfl, _, rfl, t, _, 1, _, rfl, rfl, SqT.of ht, rfl, e.x, e.d, 0, e.sg, 0, 0, rfl, S2.P, .inl ⟨rfl, fun nn v3 H3 s3 pa => ?_, fun R A eR _ => absurd (look_some eR) S.sg⟩⟩
    obtain ⟨t3, rfl, ht3⟩ := pa
    refine ⟨_, rfl, t3, t, _, _, rfl, rfl, .inr ⟨SqT.of ht3, SqT.of (s3 _ _ ht)⟩, rfl, deq_pair (K := K) 12 e.sg, _, rfl, iteT ?_⟩
    have S3 := S2.same s3
    have ht3' := s3 _ _ ht
    refine ⟨_, rfl, _, rfl, t, _, 1, _, rfl, rfl, SqT.of ht3', rfl, e.x, e.d, 2, e.sg, 0, 0, rfl, S3.P, .inr (.inr ⟨rfl, S.sg, fun v4 H4 s4 pa => ?_⟩)⟩
    obtain ⟨t4, rfl, ht4⟩ := pa
    refine ⟨_, rfl, t4, t, _, _, rfl, rfl, .inr ⟨SqT.of ht4, SqT.of (s4 _ _ ht3')⟩, rfl, deq_pair (K := K) 12 e.sg, ?_⟩
    have sk := s1.trans (s2.trans (s3.trans s4))
    exact q e H4 (S.same sk) (Ch13.refl sk)
  have lk : (((((e.d.rs.map (·.1)).map V.str).length : Nat) : Int)) = (e.d.rs.length : Int) := by rw [List.length_map, List.length_map]
  have lpos : 0 < e.d.rs.length := List.length_pos_iff.mpr S.n1
  refine ⟨_, rfl, _, rfl, _, _, rfl, rfl, _, rfl, l, _, rfl, .inl (SqL.of hl), a, _, _, rfl, hS.same s1, by omega, by omega, by omega, fun at' a0 a1 => ?_⟩
  rw [lk] at a1
  obtain ⟨i, hi⟩ : ∃ i : Nat, at' = (i : Int) := ⟨at'.toNat, by omega⟩
  subst hi
  obtain ⟨n, R, A, eR, eA⟩ := both_at13 (i := i) S.P.ka (by omega)
  have lR := look_at13 S.nd eR
  have lA := look_at13 (by rw [S.P.ka]; exact S.nd) eA
  have hkn : ((e.d.rs.map (·.1)).map V.str)[i]? = some (V.str n) := by rw [List.getElem?_map, List.getElem?_map, eR]; rfl
  have hle : ((e.d.am.map (·.2)).map V.int)[i]? = some (V.int A) := by rw [List.getElem?_map, List.getElem?_map, eA]; rfl
  have lle : (((((e.d.am.map (·.2)).map V.int).length : Nat) : Int)) = (e.d.rs.length : Int) := by
    have := congrArg List.length S.P.ka
    rw [List.length_map, List.length_map] at this
    rw [List.length_map, List.length_map, this]
  have gR : DGet H1 e.ro (.str n) (some (.int R)) := rg13 (.inl S1.hro) (val_dI13 S.nd (List.mem_of_getElem? eR))
  refine ⟨_, rfl, e.wo, _, rfl, rg13 (.inl S1.W) (w_rooms _ _ _ _ _ _ _ _ _), _, rfl, _, rfl, l, _, _, rfl, rfl, SqL.of hl, by omega, by rw [lk]; omega, fun v1 h1 => ?_⟩
  rw [Int.toNat_natCast, hkn] at h1
  obtain rfl := Option.some.inj h1
  refine ⟨e.ro, _, rfl, gR, _, rfl, e.wo, _, rfl, rg13 (.inl S1.W) (w_left _ _ _ _ _ _ _ _ _), _, rfl, e.le, _, _, rfl, rfl, SqL.of S1.hle, by omega, by rw [lle]; omega, fun v1 h1 => ?_⟩
  rw [Int.toNat_natCast, hle] at h1
  obtain rfl := Option.some.inj h1
  refine ⟨_, _, rfl, rfl, ?_⟩
  have ge := S.bA n R A lR lA
  refine ⟨_, rfl, _, rfl, _, _, rfl, rfl, _, rfl, a, _, R - A, rfl, hS.same s1, by omega, by omega, by omega, fun m H2 s2 m0 => ?_⟩
  have S2 := S1.same s2
  have hl2 := s2 _ _ hl
  refine ⟨_, rfl, _, rfl, _, rfl, l, _, _, rfl, rfl, SqL.of hl2, by omega, by rw [lk]; omega, fun v1 h1 => ?_⟩
  rw [Int.toNat_natCast, hkn] at h1
  obtain rfl := Option.some.inj h1
  refine ⟨_, rfl, e.x, e.d, 0, n, m, 0, rfl, S2.P, .inl ⟨rfl, fun nn => absurd (List.mem_map.mpr ⟨_, List.mem_of_getElem? eR, rfl⟩) nn, fun R' A' eR' eA' => ?_⟩⟩
  rw [lR] at eR'
  rw [lA] at eA'
  obtain rfl := Option.some.inj eR'
  obtain rfl := Option.some.inj eA'
  refine ⟨fun c v3 H3 s3 pa => ?_, fun c v3 H3 kp P3 pa => ?_⟩
  · obtain ⟨t3, rfl, ht3⟩ := pa
    refine ⟨_, rfl, _, rfl, _, _, rfl, rfl, _, rfl, ite2 (fun _ => ?_) (fun c2 => absurd (decide_eq_true (show R - A < m by omega)) c2)⟩
    refine ⟨_, rfl, _, rfl, _, rfl, l, _, _, rfl, rfl, SqL.of (s3 _ _ hl2), by omega, by rw [lk]; omega, fun v1 h1 => ?_⟩
    rw [Int.toNat_natCast, hkn] at h1
    obtain rfl := Option.some.inj h1
    refine ⟨z2, fun t4 n4 => ⟨t3, t4, _, _, rfl, rfl, .inr ⟨SqT.of (same_new n4 _ _ _ ht3), SqT.of upd_same⟩, rfl, deq_pair (K := K) 10 n, ?_⟩⟩
    have sk := s1.trans (s2.trans (s3.trans (same_new n4 (.tup [V.int 10, V.str n]))))
    exact q e _ (S.same sk) (Ch13.refl sk)
  · obtain ⟨t3, rfl, ht3⟩ := pa
    refine ⟨_, rfl, _, rfl, _, _, rfl, rfl, _, rfl, ite2 (fun c2 => absurd (of_decide_eq_true c2) (by omega)) (fun _ => ?_)⟩
    have W3 := kp _ _ (Ne.symm S.w2) S2.W
    have le3 := kp _ _ (ne_of S2.hle S2.P.T.2.2.1 (by intro z; cases z)) S2.hle
    refine ⟨_, rfl, e.wo, _, rfl, rg13 (.inl W3) (w_left _ _ _ _ _ _ _ _ _), _, rfl, e.le, _, _, rfl, rfl, SqL.of le3, by omega, by rw [lle]; omega, fun v1 h1 => ?_⟩
    rw [Int.toNat_natCast, hle] at h1
    obtain rfl := Option.some.inj h1
    refine ⟨_, rfl, _, _, rfl, rfl, _, rfl, e.wo, _, rfl, rg13 (.inl W3) (w_left _ _ _ _ _ _ _ _ _), _, rfl, e.le, _, _, i, rfl, rfl, le3, ?_, ?_⟩
    · refine ixN_nat ?_
      have : ((e.d.am.map (·.2)).map V.int).length = e.d.rs.length := by omega
      omega
    rw [← List.map_set, ← set_snd (v := A + m) (by rw [S.P.ka]; exact S.nd) eA]
    have k4 : ∀ b o, b ≠ e.le → H3 b = some o → upd H3 e.le (.lst (((setA e.d.am n (A + m)).map (·.2)).map V.int)) b = some o := fun b o nb e1 => by rw [upd_ne nb]; exact e1
    have hle4 : upd H3 e.le (.lst (((setA e.d.am n (A + m)).map (·.2)).map V.int)) e.le = some (.lst (((setA e.d.am n (A + m)).map (·.2)).map V.int)) := upd_same
    have ht4 := k4 _ _ (ne_of ht3 le3 (by intro z; cases z)) ht3
    generalize upd H3 e.le (.lst (((setA e.d.am n (A + m)).map (·.2)).map V.int)) = H4 at k4 hle4 ht4 ⊢
    refine ⟨_, rfl, z2, fun t5 n5 => ⟨t3, t5, _, _, rfl, rfl, .inr ⟨SqT.of (same_new n5 _ _ _ ht4), SqT.of upd_same⟩, rfl, deq_pair (K := K) 0 (Str.ofString ""), ?_⟩⟩
    have s5 := same_new n5 (.tup [V.int 0, V.str (Str.ofString "")])
    generalize upd H4 t5 (.tup [V.int 0, V.str (Str.ofString "")]) = H5 at s5 ⊢
    have off : ∀ b o, b ≠ e.d.tr2 → b ≠ e.le → H b = some o → H5 b = some o := fun b o n1 n2 e1 => s5 _ _ (k4 b o n2 (kp b o n1 (s2 _ _ (s1 _ _ e1))))
    have P5 : PrAt cPrinter cStock cReady cJammed cAway H5 e.x { e.d with am := setA e.d.am n (A + m) } := by
      refine (P3.keepA fun b hb o e1 => k4 b o (fun z => ?_) e1).same s5
      subst z
      obtain ⟨⟨dt, ht⟩, t1, t2, _⟩ := id P3.T
      obtain ⟨⟨di, hi⟩, i1, i2, _⟩ := id P3.I
      obtain ⟨ds, hs⟩ := id P3.s
      simp only [List.mem_cons, List.not_mem_nil, or_false] at hb
      rcases hb with hb | hb | hb | hb | hb | hb | hb | hb | hb
      · rw [hb, P3.o] at le3; cases le3
      · rw [hb, ht] at le3; cases le3
      · rw [hb, t1] at le3; cases le3
      · rw [hb, t2] at le3; cases le3
      · rw [hb, hi] at le3; cases le3
      · rw [hb, i1] at le3; cases le3
      · rw [hb, i2] at le3; cases le3
      · rw [hb, hs] at le3; cases le3
      · exact S.m1 hb.symm
    refine q { e with d := { e.d with am := setA e.d.am n (A + m) } } H5 ?_ ⟨fun b o nb e1 => off b o (fun z => nb (by rw [z]; simp [mA])) (fun z => nb (by rw [z]; simp [mA])) e1, rfl, fun b hb => .inl hb⟩
    have tr2d := S.P.T.2.2.1
    refine { S with P := P5, W := off _ _ (Ne.symm S.w2) (ne_of S.W S.hle (by intro z; cases z)) S.W, hca := off _ _ (ne_of S.hca tr2d (by intro z; cases z)) S.m2 S.hca, cn := off _ _ (ne_of S.cn tr2d (by intro z; cases z)) (ne_of S.cn S.hle (by intro z; cases z)) S.cn, hro := off _ _ S.r2 (ne_of S.hro S.hle (by intro z; cases z)) S.hro, rm := off _ _ S.r3 (ne_of S.rm S.hle (by intro z; cases z)) S.rm, hle := s5 _ _ hle4, hik := off _ _ (ne_of S.hik tr2d (by intro z; cases z)) S.m3 S.hik, hmo := off _ _ (ne_of S.hmo tr2d (by intro z; cases z)) S.m4 S.hmo, bA := fun n' R' A' h1 h2 => ?_ }
    by_cases cn : n' = n
    · subst cn
      rw [lR] at h1
      rw [look_eq13 (look_some lA)] at h2
      obtain rfl := Option.some.inj h1
      obtain rfl := Option.some.inj h2
      omega
    · rw [look_ne13 cn] at h2
      exact S.bA n' R' A' h1 h2

end
end My

namespace My
open PySem L2
open Blk (sg sg_inj sg_app)
section
variable {P : Program} {w : World} {K : PySem.W.Frag} {mg : Str → Option Value} {base : Heap}
theorem SAt13.putW {cP cS cR cJ cA : Addr} {H : Hp} {e : E13} (h : SAt13 cP cS cR cJ cA H e) (P : PrAt cP cS cR cJ cA H e.x d') (hd : d'.tr = e.d.tr ∧ d'.tr1 = e.d.tr1 ∧ d'.tr2 = e.d.tr2 ∧ d'.ik = e.d.ik ∧ d'.ik1 = e.d.ik1 ∧ d'.ik2 = e.d.ik2 ∧ d'.st = e.d.st ∧ d'.ins = e.d.ins) (o : HO) : PrAt cP cS cR cJ cA (upd H e.wo o) e.x d' := by
  obtain ⟨e1, e2, e3, e4, e5, e6, e7, e8⟩ := hd
  refine P.keepA fun b hb o1 h1 => ?_
  rw [upd_ne]
  · exact h1
  intro z
  subst z
  obtain ⟨⟨dt, ht⟩, t1, t2, _⟩ := id h.P.T
  obtain ⟨⟨di, hi⟩, i1, i2, _⟩ := id h.P.I
  obtain ⟨ds, hs⟩ := id h.P.s
  have W := h.W
  rw [e1, e2, e3, e4, e5, e6, e7, e8] at hb
  simp only [List.mem_cons, List.not_mem_nil, or_false] at hb
  rcases hb with hb | hb | hb | hb | hb | hb | hb | hb | hb
  · rw [hb, h.P.o] at W; cases W
  · rw [hb, ht] at W; cases W
  · exact h.w1 hb.symm
  · exact h.w2 hb.symm
  · rw [hb, hi] at W; cases W
  · exact h.w3 hb.symm
  · exact h.w4 hb.symm
  · rw [hb, hs] at W; cases W
  · rw [hb, h.P.n] at W; cases W
theorem SAt13.other {cP cS cR cJ cA : Addr} {H H' : Hp} {e : E13} (h : SAt13 cP cS cR cJ cA H e) (k : ∀ b o, b ≠ e.wo → b ≠ e.x → b ≠ e.d.ik2 → H b = some o → H' b = some o) :
    H' e.ca = some (.lst (e.cs.map V.str)) ∧ H' e.d.cn = some (.tup (e.cs.map V.str)) ∧ H' e.ro = some (.dK (dI e.d.rs)) ∧ H' e.d.rm = some (.dK (dI e.d.rs)) ∧ H' e.le = some (.lst ((e.d.am.map (·.2)).map V.int)) ∧ H' e.ik = some (.lst ([e.d.b, e.d.c].map V.int)) ∧ H' e.mo = some (.lst ([e.d.rb, e.d.rc].map V.int)) := by
  have x := h.P.o
  have i2 := h.P.I.2.2.1
  refine ⟨k _ _ (ne_of h.hca h.W (by intro z; cases z)) (ne_of h.hca x (by intro z; cases z)) (ne_of h.hca i2 (by intro z; cases z)) h.hca, k _ _ (ne_of h.cn h.W (by intro z; cases z)) (ne_of h.cn x (by intro z; cases z)) (ne_of h.cn i2 (by intro z; cases z)) h.cn, k _ _ h.w6 (ne_of h.hro x (by intro z; cases z)) h.r4 h.hro, k _ _ h.w5 (ne_of h.rm x (by intro z; cases z)) h.r5 h.rm, k _ _ (ne_of h.hle h.W (by intro z; cases z)) (ne_of h.hle x (by intro z; cases z)) (ne_of h.hle i2 (by intro z; cases z)) h.hle, k _ _ (ne_of h.hik h.W (by intro z; cases z)) (ne_of h.hik x (by intro z; cases z)) (ne_of h.hik i2 (by intro z; cases z)) h.hik, k _ _ (ne_of h.hmo h.W (by intro z; cases z)) (ne_of h.hmo x (by intro z; cases z)) (ne_of h.hmo i2 (by intro z; cases z)) h.hmo⟩
def sp__law_inked (K : PySem.W.Frag) (cP cS cR cJ cA : Addr) : Sp := fun vs H Q _ => ∃ (a : Addr) (k : Int) (e : E13), vs = [.ref a, .int k, .ref e.x, .ref e.wo] ∧ Scr K H a ∧ 0 ≤ k ∧ k ≤ 5000 ∧ SAt13 cP cS cR cJ cA H e ∧ ∀ e' H', SAt13 cP cS cR cJ cA H' e' → Ch13 e e' H H' → Q (.bl true) H'
theorem sc__law_inked : FnScope ["_law_script", "_law_k", "_law_printer", "_law_world_here", "_law_exact", "_law_many_here", "_law_told", "_law_j"] ["_law_script", "_law_k", "_law_printer", "_law_world_here"] (defScope s__law_inked) := ⟨rfl, rfl, rfl, by decide +kernel, rfl, by decide +kernel, by decide +kernel⟩
theorem ok__law_inked {fa cState cReady cJammed cAway cStock cPrinter cBadLine cBusy cDry cGoesRound cNoHeap cNoPrinter cNotNow cNoWay cNowhere cOver cTooMuch cTwice cUnknown cHallError : Addr} {fd : FuncData} (F : Fun K "_law_inked" "_law_inked" s__law_inked fa fd) (T : Txt K mg cState cReady cJammed cAway cStock cPrinter cBadLine cBusy cDry cGoesRound cNoHeap cNoPrinter cNotNow cNoWay cNowhere cOver cTooMuch cTwice cUnknown cHallError) (D__law_laid : Dfn P w K mg base 8 "_law_laid" ["_law_printer", "_law_way", "_law_kind", "_law_many_here", "_law_other"] (sp__law_laid cUnknown cTooMuch cPrinter cStock cReady cJammed cAway)) (D__law_many : Dfn P w K mg base 3 "_law_many" ["_law_script", "_law_k", "_law_exact"] (sp__law_many K)) :
    FnOk P w K mg base CX0 9 fa fd ["_law_script", "_law_k", "_law_printer", "_law_world_here"] (sp__law_inked K cPrinter cStock cReady cJammed cAway) := by
  refine F.ok sc__law_inked (fun vs H Q E h => ?_) (fun cdv A outer s H vs Q E hr h => ?_)
  · obtain ⟨a, k, e, rfl, _⟩ := h
    rfl
  obtain ⟨a, k, e, rfl, hS, k0, k1, S, q⟩ := h
  have hu := hu_n hr 0 (by decide)
  have z2 : 2 ≤ sizeLine := small (by decide)
  refine ⟨_, (pss_cons (ps_comp (i := 4) (frees := [("_law_world_here", 3)]) ⟨by decide +kernel, rfl, rfl, by decide +kernel, ⟨⟨rfl, rfl, rfl, by decide +kernel⟩, trivial⟩, by decide +kernel, cellsFor_at rfl, rfl⟩ sc__law_inked.nd rfl rfl rfl (pi_range1 rfl T.range (pa_cons pe_int pa_nil)) (fun _ _ _ _ => pifs_nil) (fun _ _ _ _ => by exact (pe_op op_sub (pe_ixK (K := K) (r := rIxLA) rfl ix_listA (pe_dget hu (pv 1) pe_str (fun _ _ => rfl)) (pv 0) (fun _ _ => rfl)) (pe_ixK (K := K) (r := rIxLA) rfl ix_listA (pe_dget hu (pv 1) pe_str (fun _ _ => rfl)) (pv 0) (fun _ _ => rfl)))))
  (pss_cons (ps_set (i := 5) sc__law_inked.nd rfl (by first | exact Or.inl rfl | exact Or.inr rfl) (pe_lst (pa_cons (pe_callD D__law_many (hr.mono (by decide)) rfl (pa_cons (pv 0) (pa_cons (pv 1) (pa_cons (pe_ix ix_list (pv 4) pe_int (fun _ _ => rfl)) pa_nil)))) (pa_cons (pe_callD D__law_many (hr.mono (by decide)) rfl (pa_cons (pv 0) (pa_cons (pe_op op_add (pv 1) pe_int) (pa_cons (pe_ix ix_list (pv 4) pe_int (fun _ _ => rfl)) pa_nil)))) pa_nil))))
  (pss_cons (ps_set (i := 6) sc__law_inked.nd rfl (by first | exact Or.inl rfl | exact Or.inr rfl) (pe_callD D__law_laid (hr.mono (by decide)) rfl (pa_cons (pv 2) (pa_cons pe_int (pa_cons pe_str (pa_cons (pe_ix ix_list (pv 5) pe_int (fun _ _ => rfl)) (pa_cons (pe_ix ix_list (pv 5) pe_int (fun _ _ => rfl)) pa_nil)))))))
  (pss_cons (ps_for PassesOwn.never rfl (pi_range1 rfl T.range (pa_cons pe_int pa_nil)) (pg_name (i := 7) sc__law_inked.nd rfl (by first | exact Or.inl rfl | exact Or.inr rfl))
  (pss_one (ps_if (pt_cmpR op_gt (pe_ix ix_listA (pv 5) (pv 7) (fun _ _ => rfl)) (pe_ix ix_listA (pv 4) (pv 7) (fun _ _ => rfl)) (nomark _)) (pss_one (ps_ret (pe_cmpR (op_eq_dq (n := 0) hu) (pv 6) (pe_tup (pa_cons pe_int (pa_cons (pe_ix ix_listA (pe_lst (pa_cons pe_str (pa_cons pe_str pa_nil))) (pv 7) (fun _ _ => rfl)) pa_nil))) (nomark _)))) pss_nil)))
  (pss_cons (ps_dput hu (pv 3) pe_str (pe_comp (frees := [("_law_many_here", 5), ("_law_world_here", 3)]) ⟨by decide +kernel, rfl, rfl, by decide +kernel, ⟨⟨rfl, rfl, rfl, by decide +kernel⟩, ⟨⟨rfl, rfl, rfl, by decide +kernel⟩, trivial⟩⟩, by decide +kernel, cellsFor_at rfl, rfl⟩ rfl (pi_range1 rfl T.range (pa_cons pe_int pa_nil)) (fun _ _ _ _ => pifs_nil) (fun _ _ _ _ => by exact (pe_op op_add (pe_ixK (K := K) (r := rIxLA) rfl ix_listA (pe_dget hu (pv 2) pe_str (fun _ _ => rfl)) (pv 0) (fun _ _ => rfl)) (pe_ixK (K := K) (r := rIxLA) rfl ix_listA (pv 1) (pv 0) (fun _ _ => rfl))))) rfl)
  (pss_one (ps_ret (pe_cmpR (op_eq_dq (n := 0) hu) (pv 6) (pe_tup (pa_cons pe_int (pa_cons pe_str pa_nil))) (nomark _))))))))), ?_⟩
  refine ⟨_, rfl, by decide, by decide, compB_seq (seq_range 0 2 H) (fun _ => true) (fun v => match v with | .int c => .int ([e.d.rb - e.d.b, e.d.rc - e.d.c].getD c.toNat 0) | v => v) (by rw [List.length_map, List.length_range]; exact small1000 (by decide)) (fun x hx H' R _ r => r) (fun x hx H' R sm _ r => ?_) (fun l1 H1 s1 nl1 hl1 => ?_)⟩
  · obtain ⟨c, hc, rfl⟩ := List.mem_map.mp hx
    have hc2 := List.mem_range.mp hc
    have Sm := S.same sm
    refine ⟨_, rfl, e.wo, _, rfl, rg13 (.inl Sm.W) (w_most _ _ _ _ _ _ _ _ _), _, rfl, e.mo, _, _, rfl, rfl, SqL.of Sm.hmo, by omega, by show (0 : Int) + (c : Int) < 2; omega, fun v1 h1 => ?_⟩
    obtain rfl := at_int13 h1
    refine ⟨_, rfl, e.wo, _, rfl, rg13 (.inl Sm.W) (w_inks _ _ _ _ _ _ _ _ _), _, rfl, e.ik, _, _, rfl, rfl, SqL.of Sm.hik, by omega, by show (0 : Int) + (c : Int) < 2; omega, fun v1 h1 => ?_⟩
    obtain rfl := at_int13 h1
    refine ⟨_, _, rfl, rfl, ?_⟩
    have r' : R (.int ([e.d.rb - e.d.b, e.d.rc - e.d.c].getD (0 + (c : Int)).toNat 0)) H' := r
    have ee : [e.d.rb - e.d.b, e.d.rc - e.d.c].getD (0 + (c : Int)).toNat 0 = [e.d.rb, e.d.rc].getD (0 + (c : Int)).toNat 0 - [e.d.b, e.d.c].getD (0 + (c : Int)).toNat 0 := by
      match c, hc2 with
      | 0, _ => rfl
      | 1, _ => rfl
    rw [ee] at r'
    exact r'
  have hl1' : H1 l1 = some (.lst ([e.d.rb - e.d.b, e.d.rc - e.d.c].map V.int)) := hl1
  have S1 := S.same s1
  have ge0 := S.bb
  have ge1 := S.bc
  refine ⟨_, rfl, _, rfl, _, rfl, l1, _, 0, _, rfl, rfl, SqL.of hl1', rfl, a, _, _, rfl, hS.same s1, by omega, by omega, by omega, fun m0 H2 s2 m00 => ?_⟩
  refine ⟨_, rfl, _, rfl, _, _, rfl, rfl, _, rfl, l1, _, 1, _, rfl, rfl, SqL.of (s2 _ _ hl1'), rfl, a, _, _, rfl, (hS.same s1).same s2, by omega, by omega, by omega, fun m1 H3 s3 m10 => ⟨z2, fun l2 nl2 => ?_⟩⟩
  have s4 := same_new nl2 (.lst [V.int m0, V.int m1])
  have hl2 : upd H3 l2 (.lst [V.int m0, V.int m1]) l2 = some (.lst ([m0, m1].map V.int)) := upd_same
  generalize upd H3 l2 (.lst [V.int m0, V.int m1]) = H4 at s4 hl2 ⊢
  have s04 := s1.trans (s2.trans (s3.trans s4))
  have hl14 := s4 _ _ (s3 _ _ (s2 _ _ hl1'))
  have S4 := S.same s04
  refine ⟨_, rfl, _, rfl, l2, _, 0, _, rfl, rfl, SqL.of hl2, rfl, _, rfl, l2, _, 1, _, rfl, rfl, SqL.of hl2, rfl, e.x, e.d, 1, _, m0, m1, rfl, S4.P, .inr (.inl ⟨rfl, fun c0 v3 H5 s5 pa => ?_, fun c0 c1 v3 H5 s5 pa => ?_, fun c0 c1 v3 H5 kp P5 pa => ?_⟩)⟩
  · obtain ⟨t3, rfl, ht3⟩ := pa
    have h15 := s5 _ _ hl14
    have h25 := s5 _ _ hl2
    refine ⟨_, rfl, by decide, by decide, for_range (lo := 0) (n := 2) (fun i σ G => (∃ v7, σ = [some (.ref a), some (.int k), some (.ref e.x), some (.ref e.wo), some (.ref l1), some (.ref l2), some (.ref t3), v7]) ∧ G = H5 ∧ i = 0) ⟨⟨_, rfl⟩, rfl, rfl⟩ (fun i σ G hi z => ?_) (fun σ G z => ?_)⟩
    · obtain ⟨⟨v7, rfl⟩, rfl, rfl⟩ := z
      refine ⟨_, rfl, _, rfl, l2, _, _, rfl, rfl, SqL.of h25, by omega, by show (0 : Int) + ((0 : Nat) : Int) < 2; omega, fun v h1 => ?_⟩
      obtain rfl := at_int13 h1
      refine ⟨_, rfl, _, rfl, l1, _, _, rfl, rfl, SqL.of h15, by omega, by show (0 : Int) + ((0 : Nat) : Int) < 2; omega, fun v h1 => ?_⟩
      obtain rfl := at_int13 h1
      refine ⟨_, _, rfl, rfl, _, rfl, ite2 (fun _ => ?_) (fun c => absurd (decide_eq_true (show e.d.rb - e.d.b < m0 by omega)) c)⟩
      refine ⟨_, rfl, z2, fun lb nlb => ⟨_, rfl, lb, _, _, rfl, rfl, SqL.of upd_same, by omega, by show (0 : Int) + ((0 : Nat) : Int) < 2; omega, fun v h1 => ?_⟩⟩
      obtain rfl := Option.some.inj (show some (V.str (Str.ofString "black")) = some v from h1)
      have s6 := same_new nlb (.lst [V.str (Str.ofString "black"), V.str (Str.ofString "colour")])
      refine ⟨z2, fun t4 n4 => ⟨t3, t4, _, _, rfl, rfl, .inr ⟨SqT.of (same_new n4 _ _ _ (s6 _ _ ht3)), SqT.of upd_same⟩, rfl, deq_pair (K := K) 10 blW, ?_⟩⟩
      have sk := s04.trans (s5.trans (s6.trans (same_new n4 (.tup [V.int 10, V.str (Str.ofString "black")]))))
      exact q e _ (S.same sk) (Ch13.refl sk)
    · exact absurd z.2.2 (by decide)
  · obtain ⟨t3, rfl, ht3⟩ := pa
    have h15 := s5 _ _ hl14
    have h25 := s5 _ _ hl2
    refine ⟨_, rfl, by decide, by decide, for_range (lo := 0) (n := 2) (fun i σ G => (∃ v7, σ = [some (.ref a), some (.int k), some (.ref e.x), some (.ref e.wo), some (.ref l1), some (.ref l2), some (.ref t3), v7]) ∧ G = H5 ∧ i ≤ 1) ⟨⟨_, rfl⟩, rfl, by decide⟩ (fun i σ G hi z => ?_) (fun σ G z => ?_)⟩
    · obtain ⟨⟨v7, rfl⟩, rfl, i1⟩ := z
      refine ⟨_, rfl, _, rfl, l2, _, _, rfl, rfl, SqL.of h25, by omega, by show (0 : Int) + (i : Int) < 2; omega, fun v h1 => ?_⟩
      obtain rfl := at_int13 h1
      refine ⟨_, rfl, _, rfl, l1, _, _, rfl, rfl, SqL.of h15, by omega, by show (0 : Int) + (i : Int) < 2; omega, fun v h1 => ?_⟩
      obtain rfl := at_int13 h1
      match i, i1 with
      | 0, _ => exact ⟨_, _, rfl, rfl, _, rfl, ite2 (fun c => absurd (of_decide_eq_true c) (show ¬ e.d.rb - e.d.b < m0 by omega)) (fun c => ⟨⟨_, rfl⟩, rfl, by decide⟩)⟩
      | 1, _ =>
        refine ⟨_, _, rfl, rfl, _, rfl, ite2 (fun _ => ?_) (fun c => absurd (decide_eq_true (show e.d.rc - e.d.c < m1 by omega)) c)⟩
        refine ⟨_, rfl, z2, fun lb nlb => ⟨_, rfl, lb, _, _, rfl, rfl, SqL.of upd_same, by omega, by show (0 : Int) + ((1 : Nat) : Int) < 2; omega, fun v h1 => ?_⟩⟩
        obtain rfl := Option.some.inj (show some (V.str (Str.ofString "colour")) = some v from h1)
        have s6 := same_new nlb (.lst [V.str (Str.ofString "black"), V.str (Str.ofString "colour")])
        refine ⟨z2, fun t4 n4 => ⟨t3, t4, _, _, rfl, rfl, .inr ⟨SqT.of (same_new n4 _ _ _ (s6 _ _ ht3)), SqT.of upd_same⟩, rfl, deq_pair (K := K) 10 coW, ?_⟩⟩
        have sk := s04.trans (s5.trans (s6.trans (same_new n4 (.tup [V.int 10, V.str (Str.ofString "colour")]))))
        exact q e _ (S.same sk) (Ch13.refl sk)
    · exact absurd z.2.2 (by decide)
  · obtain ⟨t3, rfl, ht3⟩ := pa
    have i2d := S4.P.I.2.2.1
    have h15 := kp _ _ (ne_of hl14 i2d (by intro z; cases z)) hl14
    have h25 := kp _ _ (ne_of hl2 i2d (by intro z; cases z)) hl2
    have W5 := kp _ _ (Ne.symm S.w4) S4.W
    have ik5 := kp _ _ (ne_of S4.hik i2d (by intro z; cases z)) S4.hik
    refine ⟨_, rfl, by decide, by decide, for_range (lo := 0) (n := 2) (fun i σ G => (∃ v7, σ = [some (.ref a), some (.int k), some (.ref e.x), some (.ref e.wo), some (.ref l1), some (.ref l2), some (.ref t3), v7]) ∧ G = H5) ⟨⟨_, rfl⟩, rfl⟩ (fun i σ G hi z => ?_) (fun σ G z => ?_)⟩
    · obtain ⟨⟨v7, rfl⟩, rfl⟩ := z
      refine ⟨_, rfl, _, rfl, l2, _, _, rfl, rfl, SqL.of h25, by omega, by show (0 : Int) + (i : Int) < 2; omega, fun v h1 => ?_⟩
      obtain rfl := at_int13 h1
      refine ⟨_, rfl, _, rfl, l1, _, _, rfl, rfl, SqL.of h15, by omega, by show (0 : Int) + (i : Int) < 2; omega, fun v h1 => ?_⟩
      obtain rfl := at_int13 h1
      match i, hi with
      | 0, _ => exact ⟨_, _, rfl, rfl, _, rfl, ite2 (fun c => absurd (of_decide_eq_true c) (show ¬ e.d.rb - e.d.b < m0 by omega)) (fun c => ⟨⟨_, rfl⟩, rfl⟩)⟩
      | 1, _ => exact ⟨_, _, rfl, rfl, _, rfl, ite2 (fun c => absurd (of_decide_eq_true c) (show ¬ e.d.rc - e.d.c < m1 by omega)) (fun c => ⟨⟨_, rfl⟩, rfl⟩)⟩
    · obtain ⟨⟨v7, rfl⟩, rfl⟩ := z
      refine ⟨_, rfl, by decide, by decide, compB_seq (seq_range 0 2 _) (fun _ => true) (fun v => match v with | .int c => .int ([e.d.b + m0, e.d.c + m1].getD c.toNat 0) | v => v) (by rw [List.length_map, List.length_range]; exact small1000 (by decide)) (fun x hx H' R _ r => r) (fun x hx H' R sm _ r => ?_) (fun l6 H6 s6 nl6 hl6 => ?_)⟩
      · obtain ⟨c, hc, rfl⟩ := List.mem_map.mp hx
        have hc2 := List.mem_range.mp hc
        refine ⟨_, rfl, e.wo, _, rfl, rg13 (.inl (sm _ _ W5)) (w_inks _ _ _ _ _ _ _ _ _), _, rfl, e.ik, _, _, rfl, rfl, SqL.of (sm _ _ ik5), by omega, by show (0 : Int) + (c : Int) < 2; omega, fun v1 h1 => ?_⟩
        obtain rfl := at_int13 h1
        refine ⟨_, rfl, _, rfl, l2, _, _, rfl, rfl, SqL.of (sm _ _ h25), by omega, by show (0 : Int) + (c : Int) < 2; omega, fun v1 h1 => ?_⟩
        obtain rfl := at_int13 h1
        refine ⟨_, _, rfl, rfl, ?_⟩
        have r' : R (.int ([e.d.b + m0, e.d.c + m1].getD (0 + (c : Int)).toNat 0)) H' := r
        have ee : [e.d.b + m0, e.d.c + m1].getD (0 + (c : Int)).toNat 0 = [e.d.b, e.d.c].getD (0 + (c : Int)).toNat 0 + [m0, m1].getD (0 + (c : Int)).toNat 0 := by
          match c, hc2 with
          | 0, _ => rfl
          | 1, _ => rfl
        rw [ee] at r'
        exact r'
      have hl6' : H6 l6 = some (.lst ([e.d.b + m0, e.d.c + m1].map V.int)) := hl6
      refine ⟨_, rfl, e.wo, _, rfl, DPut.k (k := kw "inks") (s6 _ _ W5) (small1000 (by show 9 ≤ 1000; decide)), ?_⟩
      rw [put_inks]
      have k7 : ∀ b o, b ≠ e.wo → H6 b = some o → upd H6 e.wo (.dK (wD13 e.d.name e.ca e.d.path e.ro (wd e.d.S) e.sg e.le l6 e.mo)) b = some o := fun b o nb e1 => by rw [upd_ne nb]; exact e1
      have W7 : upd H6 e.wo (.dK (wD13 e.d.name e.ca e.d.path e.ro (wd e.d.S) e.sg e.le l6 e.mo)) e.wo = some (.dK (wD13 e.d.name e.ca e.d.path e.ro (wd e.d.S) e.sg e.le l6 e.mo)) := upd_same
      have P7 : PrAt cPrinter cStock cReady cJammed cAway (upd H6 e.wo (.dK (wD13 e.d.name e.ca e.d.path e.ro (wd e.d.S) e.sg e.le l6 e.mo))) e.x { e.d with b := e.d.b + m0, c := e.d.c + m1 } := by
        refine (P5.same s6).keepA fun b hb o1 h1 => ?_
        rw [upd_ne]
        · exact h1
        intro z
        subst z
        obtain ⟨⟨dt, ht⟩, t1, t2, _⟩ := id S.P.T
        obtain ⟨⟨di, hi⟩, i1, i2, _⟩ := id S.P.I
        obtain ⟨ds, hs⟩ := id S.P.s
        have W := S.W
        simp only [List.mem_cons, List.not_mem_nil, or_false] at hb
        rcases hb with hb | hb | hb | hb | hb | hb | hb | hb | hb
        · rw [hb, S.P.o] at W; cases W
        · rw [hb, ht] at W; cases W
        · exact S.w1 hb.symm
        · exact S.w2 hb.symm
        · rw [hb, hi] at W; cases W
        · exact S.w3 hb.symm
        · exact S.w4 hb.symm
        · rw [hb, hs] at W; cases W
        · rw [hb, S.P.n] at W; cases W
      have hl7 := k7 _ _ (ne_of hl6' (s6 _ _ W5) (by intro z; cases z)) hl6'
      have ht7 := k7 _ _ (ne_of (s6 _ _ ht3) (s6 _ _ W5) (by intro z; cases z)) (s6 _ _ ht3)
      generalize upd H6 e.wo (.dK (wD13 e.d.name e.ca e.d.path e.ro (wd e.d.S) e.sg e.le l6 e.mo)) = H7 at k7 W7 P7 hl7 ht7 ⊢
      refine ⟨_, rfl, z2, fun t8 n8 => ⟨t3, t8, _, _, rfl, rfl, .inr ⟨SqT.of (same_new n8 _ _ _ ht7), SqT.of upd_same⟩, rfl, deq_pair (K := K) 0 (Str.ofString ""), ?_⟩⟩
      have s8 := same_new n8 (.tup [V.int 0, V.str (Str.ofString "")])
      generalize upd H7 t8 (.tup [V.int 0, V.str (Str.ofString "")]) = H8 at s8 ⊢
      have off : ∀ b o, b ≠ e.wo → b ≠ e.d.ik2 → H b = some o → H8 b = some o := fun b o n1 n2 e1 => s8 _ _ (k7 b o n1 (s6 _ _ (kp b o n2 (s04 _ _ e1))))
      have fr : H l6 = none := by
        cases e0 : H l6 with
        | none => rfl
        | some o =>
          by_cases c : l6 = e.d.ik2
          · have hk := P5.I.2.2.1
            rw [← c, nl6] at hk
            cases hk
          · rw [kp _ _ c (s04 _ _ e0)] at nl6
            cases nl6
      obtain ⟨g1, g2, g3, g4, g5, g6, g7⟩ := S.other (H' := H8) fun b o n1 _ n3 e1 => off b o n1 n3 e1
      refine q { e with ik := l6, d := { e.d with b := e.d.b + m0, c := e.d.c + m1 } } H8 { S with P := P7.same s8, W := s8 _ _ W7, hca := g1, cn := g2, hro := g3, rm := g4, hle := g5, hik := s8 _ _ hl7, hmo := g7, bb := by show e.d.b + m0 ≤ e.d.rb; omega, bc := by show e.d.c + m1 ≤ e.d.rc; omega, m3 := fun z => ?_ } ⟨fun b o nb e1 => off b o (fun z => nb (by rw [z]; simp [mA])) (fun z => nb (by rw [z]; simp [mA])) e1, rfl, fun b hb => ?_⟩
      · have z' : l6 = e.le := z
        rw [z', S.hle] at fr
        cases fr
      · simp only [aA, List.mem_cons, List.not_mem_nil, or_false] at hb ⊢
        rcases hb with hb | hb | hb | hb | hb | hb | hb | hb | hb | hb | hb | hb | hb | hb | hb | hb | hb
        case inr.inr.inr.inr.inr.inr.inr.inr.inr.inr.inr.inr.inr.inr.inr.inl => exact .inr (by rw [hb]; exact fr)
        all_goals (left; simp [hb])

end
end My

namespace My
open PySem L2
open Blk (sg sg_inj sg_app)
section
variable {P : Program} {w : World} {K : PySem.W.Frag} {mg : Str → Option Value} {base : Heap}
theorem SAt13.turn {cP cS cR cJ cA : Addr} {H H2 H3 : Hp} {e : E13} {st il : Addr} {s' : S3} (h : SAt13 cP cS cR cJ cA H e) (h3 : s' = .rd ∨ s' = .jm ∨ s' = .aw false)
    (kp : ∀ b o, b ≠ e.x → upd H e.wo (.dK (wD13 e.d.name e.ca e.d.path e.ro (wd s') e.sg e.le e.ik e.mo)) b = some o → H2 b = some o) (P2 : PrAt cP cS cR cJ cA H2 e.x { e.d with st := st, S := s', ins := il, tags := [] })
    (ns : H st = none) (ni : il = e.d.ins ∨ H il = none) (k : Same H2 H3) : ∃ e', SAt13 cP cS cR cJ cA H3 e' ∧ Ch13 e e' H H3 := by
  have off : ∀ b o, b ≠ e.wo → b ≠ e.x → H b = some o → H3 b = some o := fun b o n1 n2 e1 => k _ _ (kp b o n2 (by rw [upd_ne n1]; exact e1))
  obtain ⟨g1, g2, g3, g4, g5, g6, g7⟩ := h.other (H' := H3) fun b o n1 n2 _ e1 => off b o n1 n2 e1
  refine ⟨{ e with d := { e.d with st := st, S := s', ins := il, tags := [] } }, { h with P := P2.same k, W := k _ _ (kp _ _ (ne_of h.W h.P.o (by intro z; cases z)) upd_same), hca := g1, cn := g2, hro := g3, rm := g4, hle := g5, hik := g6, hmo := g7, tg := rfl, s3 := h3, m1 := fun z => ?_ }, ⟨fun b o nb e1 => off b o (fun z => nb (by rw [z]; simp [mA])) (fun z => nb (by rw [z]; simp [mA])) e1, rfl, fun b hb => ?_⟩⟩
  · have z' : il = e.le := z
    rcases ni with n | n
    · exact h.m1 (n.symm.trans z')
    · rw [z', h.hle] at n
      cases n
  · simp only [aA, List.mem_cons, List.not_mem_nil, or_false] at hb ⊢
    rcases hb with hb | hb | hb | hb | hb | hb | hb | hb | hb | hb | hb | hb | hb | hb | hb | hb | hb
    case inr.inr.inr.inr.inr.inr.inr.inl => exact .inr (by rw [hb]; exact ns)
    case inr.inr.inr.inr.inr.inr.inr.inr.inl =>
      rcases ni with n | n
      · left; simp [hb, n]
      · exact .inr (by rw [hb]; exact n)
    all_goals (left; simp [hb])
theorem none_of13 {H : Hp} {w b : Addr} {o o1 : HO} (e : H w = some o1) (h : upd H w o b = none) : H b = none := by
  by_cases c : b = w
  · rw [c, upd_same] at h; cases h
  · rwa [upd_ne c] at h
def sp__law_turned (K : PySem.W.Frag) (cP cS cR cJ cA : Addr) : Sp := fun vs H Q _ => ∃ (a : Addr) (k : Int) (e : E13), vs = [.ref a, .int k, .ref e.x, .ref e.wo] ∧ Scr K H a ∧ 0 ≤ k ∧ k ≤ 5000 ∧ SAt13 cP cS cR cJ cA H e ∧ ∀ e' H', SAt13 cP cS cR cJ cA H' e' → Ch13 e e' H H' → Q (.bl true) H'
theorem sc__law_turned : FnScope ["_law_script", "_law_k", "_law_printer", "_law_world_here"] ["_law_script", "_law_k", "_law_printer", "_law_world_here"] (defScope s__law_turned) := ⟨rfl, rfl, rfl, by decide +kernel, rfl, by decide +kernel, by decide +kernel⟩
theorem ok__law_turned {fa cState cReady cJammed cAway cStock cPrinter cBadLine cBusy cDry cGoesRound cNoHeap cNoPrinter cNotNow cNoWay cNowhere cOver cTooMuch cTwice cUnknown cHallError : Addr} {fd : FuncData} (F : Fun K "_law_turned" "_law_turned" s__law_turned fa fd) (T : Txt K mg cState cReady cJammed cAway cStock cPrinter cBadLine cBusy cDry cGoesRound cNoHeap cNoPrinter cNotNow cNoWay cNowhere cOver cTooMuch cTwice cUnknown cHallError) (D__law_by : Dfn P w K mg base 2 "_law_by" ["_law_script", "_law_k", "_law_many_here"] (sp__law_by K)) (D_Printer_jam : MtE P w K mg base 5 "jam" cPrinter ["self", "saved"] (sp_Pr_jam cNotNow cTooMuch cPrinter cStock cReady cJammed cAway)) (D_Printer_leave : MtE P w K mg base 5 "leave" cPrinter ["self"] (sp_Pr_leave cNotNow cPrinter cStock cReady cJammed cAway)) (D_Printer_stands : MtE P w K mg base 2 "stands" cPrinter ["self"] (sp_Pr_stands cPrinter cStock cReady cJammed cAway)) (D_Printer_come : MtE P w K mg base 5 "come" cPrinter ["self"] (sp_Pr_turn 3 cNotNow cPrinter cStock cReady cJammed cAway)) (D_Printer_mend : MtE P w K mg base 5 "mend" cPrinter ["self"] (sp_Pr_turn 1 cNotNow cPrinter cStock cReady cJammed cAway)) :
    FnOk P w K mg base CX0 6 fa fd ["_law_script", "_law_k", "_law_printer", "_law_world_here"] (sp__law_turned K cPrinter cStock cReady cJammed cAway) := by
  refine F.ok sc__law_turned (fun vs H Q E h => ?_) (fun cdv A outer s H vs Q E hr h => ?_)
  · obtain ⟨a, k, e, rfl, _⟩ := h
    rfl
  obtain ⟨a, k, e, rfl, hS, k0, k1, S, q⟩ := h
  have hu1 := hu_n hr 1 (by decide)
  have hu := hu_n hr 0 (by decide)
  have hu0 := Nat.lt_of_le_of_lt (Nat.le_add_right _ _) hu
  have z2 : 2 ≤ sizeLine := small (by decide)
  refine ⟨_, (pss_cons (ps_if (PW.pt (pw_and (pt_cmpR op_eq (pe_dget hu (pv 3) pe_str (fun _ _ => rfl)) pe_str (nomark _)) (pw_and1 (pt_cmpR op_eq (pe_callD D__law_by (hr.mono (by decide)) rfl (pa_cons (pv 0) (pa_cons (pv 1) (pa_cons pe_int pa_nil)))) pe_int (nomark _))))) (pss_cons (ps_dput hu (pv 3) pe_str pe_str rfl)
  (pss_one (ps_ret (pe_cmpR (op_eq_dq (n := 1) hu1) (pe_methE 5 passE0 (hr.mono (by decide)) (pv 2) (pa_cons pe_int pa_nil)) (pe_tup (pa_cons (pe_lst pa_nil) (pa_cons (pe_lst pa_nil) pa_nil))) (nomark _))))) pss_nil)
  (pss_cons (ps_if (pt_cmpR op_eq (pe_dget hu (pv 3) pe_str (fun _ _ => rfl)) pe_str (nomark _)) (pss_cons (ps_dput hu (pv 3) pe_str pe_str rfl)
  (pss_one (ps_ret (pe_cmpR (op_eq_list hu0) (pe_methE0 5 passE0 (hr.mono (by decide)) (pv 2)) (pe_lst pa_nil) (nomark _))))) pss_nil)
  (pss_cons (ps_dput hu (pv 3) pe_str (pe_dget hu (pe_disp (pps_cons pe_str pe_str (pps_cons pe_str pe_str pps_nil)) rfl rfl (by decide) (by decide)) (pe_dget hu (pv 3) pe_str (fun _ _ => rfl)) (fun _ _ => rfl)) rfl)
  (pss_cons (ps_if (pt_cmpR op_eq (pe_methE0 2 passE0 (hr.mono (by decide)) (pv 2)) pe_str (nomark _)) (pss_one (ps_ret (pe_cmpR op_eq (pe_methE0 5 passE0 (hr.mono (by decide)) (pv 2)) pe_str (nomark _)))) pss_nil)
  (pss_one (ps_ret (pe_cmpR op_eq (pe_methE0 5 passE0 (hr.mono (by decide)) (pv 2)) pe_str (nomark _)))))))), ?_⟩
  have fin : ∀ (s' : S3) (st il : Addr) (H0 H2 H3 : Hp), Same H H0 → (s' = .rd ∨ s' = .jm ∨ s' = .aw false) → (∀ b o, b ≠ e.x → upd H0 e.wo (.dK (wD13 e.d.name e.ca e.d.path e.ro (wd s') e.sg e.le e.ik e.mo)) b = some o → H2 b = some o) → PrAt cPrinter cStock cReady cJammed cAway H2 e.x { e.d with st := st, S := s', ins := il, tags := [] } → H0 st = none → (il = e.d.ins ∨ H0 il = none) → Same H2 H3 → Q (.bl true) H3 := fun s' st il H0 H2 H3 s0 h3 kp P2 ns ni k => by
    obtain ⟨e', S', C'⟩ := (S.same s0).turn h3 kp P2 ns ni k
    exact q e' H3 S' ⟨fun b o nb e1 => C'.k b o nb (s0 _ _ e1), C'.m, fun b hb => (C'.a b hb).elim .inl fun n => .inr (s0.free n)⟩
  have PW : ∀ H0, Same H H0 → ∀ o, PrAt cPrinter cStock cReady cJammed cAway (upd H0 e.wo o) e.x e.d := fun H0 s0 o => (S.same s0).putW (S.same s0).P ⟨rfl, rfl, rfl, rfl, rfl, rfl, rfl, rfl⟩ o
  have sr : Same H H := fun _ _ z => z
  have W := S.W
  have cns : ∀ (s' : S3) (H0 : Hp), wD13 e.d.name e.ca e.d.path e.ro (wd s') e.sg e.le e.ik e.mo = wD13 e.d.name e.ca e.d.path e.ro (wd s') e.sg e.le e.ik e.mo := fun _ _ => rfl
  have back : wd e.d.S ≠ Str.ofString "ready" → (wd e.d.S = Str.ofString "jammed" ∧ e.d.S = .jm) ∨ (wd e.d.S = Str.ofString "off" ∧ e.d.S = .aw false) := fun n => by
    rcases S.s3 with s | s | s
    · exact absurd (by rw [s]; rfl) n
    · exact .inl ⟨by rw [s]; rfl, s⟩
    · exact .inr ⟨by rw [s]; rfl, s⟩
  by_cases s : e.d.S = .rd
  · have hw : wd e.d.S = Str.ofString "ready" := by rw [s]; rfl
    refine ⟨_, rfl, e.wo, _, rfl, rg13 (.inl W) (w_stands _ _ _ _ _ _ _ _ _), rfl, _, rfl, iteYes (congrArg V.str hw) ?_⟩
    refine ⟨_, rfl, _, rfl, a, _, _, rfl, hS, by omega, by omega, by decide, fun r _ _ => ⟨rfl, _, rfl, ite2 (fun _ => ?_) (fun _ => ?_)⟩⟩
    · refine ⟨_, rfl, e.wo, _, rfl, DPut.k (k := kw "stands") W (small1000 (by show 9 ≤ 1000; decide)), ?_⟩
      rw [put_stands]
      refine ⟨_, rfl, e.x, _, e.d.dx, _, _, _, rfl, (PW H sr _).o, rfl, T.cl_Printer, D_Printer_jam, e.x, e.d, 0, rfl, PW H sr _, fun n => absurd s n, fun _ l => absurd l (Nat.not_lt_zero _), fun _ _ t l1 l2 st il H2 ns _ _ _ _ _ kp ni _ ht h1 h2 P2 => ?_⟩
      rw [S.tg] at h1 h2
      refine ⟨Nat.zero_le _, fun a1 na1 => ⟨Nat.zero_le _, fun a2 na2 => ⟨z2, fun t2 nt2 => ?_⟩⟩⟩
      have u1 := same_new na1 (.lst [])
      have v1 : upd H2 a1 (.lst []) a1 = some (.lst []) := upd_same
      generalize upd H2 a1 (.lst []) = H3 at u1 v1 na2 nt2 ⊢
      have u2 := same_new na2 (.lst [])
      have v2 : upd H3 a2 (.lst []) a2 = some (.lst []) := upd_same
      generalize upd H3 a2 (.lst []) = H4 at u2 v2 nt2 ⊢
      have u3 := same_new nt2 (.tup [V.ref a1, V.ref a2])
      have u := u1.trans (u2.trans u3)
      refine ⟨t, t2, _, _, rfl, rfl, .inr ⟨SqT.of (u _ _ ht), SqT.of upd_same⟩, rfl, fun j hj => ?_, fin .jm st il H H2 _ sr (.inr (.inl rfl)) kp P2 (none_of13 W ns) (.inr (none_of13 W ni)) u⟩
      match j, hj with
      | 0, _ => exact .inr ⟨l1, a1, [], [], rfl, rfl, .inl ⟨SqL.of (u _ _ h1), SqL.of (u3 _ _ (u2 _ _ v1))⟩, rfl, fun j hj => absurd hj (Nat.not_lt_zero _)⟩
      | 1, _ => exact .inr ⟨l2, a2, [], [], rfl, rfl, .inl ⟨SqL.of (u _ _ h2), SqL.of (u3 _ _ v2)⟩, rfl, fun j hj => absurd hj (Nat.not_lt_zero _)⟩
    · refine ⟨_, rfl, e.wo, _, rfl, rg13 (.inl W) (w_stands _ _ _ _ _ _ _ _ _), rfl, _, rfl, iteYes (congrArg V.str hw) ?_⟩
      refine ⟨_, rfl, e.wo, _, rfl, DPut.k (k := kw "stands") W (small1000 (by show 9 ≤ 1000; decide)), ?_⟩
      rw [put_stands]
      refine ⟨_, rfl, e.x, _, e.d.dx, _, _, _, rfl, (PW H sr _).o, rfl, T.cl_Printer, D_Printer_leave, e.x, e.d, rfl, PW H sr _, fun s' es st il H2 ns kp ni P2 => ?_, fun n => ?_⟩
      · rw [s] at es
        obtain rfl := Option.some.inj es
        have hi := kp _ _ (ne_of S.P.n S.P.o (by intro z; cases z)) (PW H sr (.dK (wD13 e.d.name e.ca e.d.path e.ro (Str.ofString "off") e.sg e.le e.ik e.mo))).n
        rw [S.tg] at hi
        exact ⟨Nat.zero_le _, fun e0 ne0 => ⟨e.d.ins, e0, _, _, rfl, rfl, SqL.of (same_new ne0 _ _ _ hi), SqL.of upd_same, rfl, rfl, fin (.aw false) st il H H2 _ sr (.inr (.inr rfl)) kp P2 (none_of13 W ns) (.inr (none_of13 W ni)) (same_new ne0 _)⟩⟩
      · rw [s] at n
        cases n
  have hn : wd e.d.S ≠ Str.ofString "ready" := by
    rcases S.s3 with z | z | z
    · exact absurd z s
    · rw [z]; decide +kernel
    · rw [z]; decide +kernel
  refine ⟨_, rfl, e.wo, _, rfl, rg13 (.inl W) (w_stands _ _ _ _ _ _ _ _ _), rfl, _, rfl, iteNo (fun z => hn (by injection z)) (iteF ?_)⟩
  refine ⟨_, rfl, e.wo, _, rfl, rg13 (.inl W) (w_stands _ _ _ _ _ _ _ _ _), rfl, _, rfl, iteNo (fun z => hn (by injection z)) ?_⟩
  refine fun p np => ⟨upd_same, [(kw "jammed", .str (Str.ofString "ready")), (kw "off", .str (Str.ofString "ready"))], rfl, by decide, ?_⟩
  rw [upd_upd]
  have s0 := same_new np (.dK (mergeK [] [(kw "jammed", .str (Str.ofString "ready")), (kw "off", .str (Str.ofString "ready"))]))
  have hp : upd H p (.dK (mergeK [] [(kw "jammed", .str (Str.ofString "ready")), (kw "off", .str (Str.ofString "ready"))])) p = some (.dK (mergeK [] [(kw "jammed", .str (Str.ofString "ready")), (kw "off", .str (Str.ofString "ready"))])) := upd_same
  generalize upd H p (.dK (mergeK [] [(kw "jammed", .str (Str.ofString "ready")), (kw "off", .str (Str.ofString "ready"))])) = H0 at s0 hp ⊢
  have W0 := s0 _ _ W
  have g0 : DGet H0 p (.str (wd e.d.S)) (some (.str (Str.ofString "ready"))) := by
    rcases back hn with ⟨z, _⟩ | ⟨z, _⟩
    · rw [z]; exact rg13 (.inl hp) (by decide +kernel)
    · rw [z]; exact rg13 (.inl hp) (by decide +kernel)
  refine ⟨_, rfl, e.wo, _, rfl, rg13 (.inl W0) (w_stands _ _ _ _ _ _ _ _ _), p, _, rfl, g0, ?_⟩
  refine ⟨_, rfl, e.wo, _, rfl, DPut.k (k := kw "stands") W0 (small1000 (by show 9 ≤ 1000; decide)), ?_⟩
  rw [put_stands]
  have same_d : ∀ st, ({ e.d with st := st, S := .rd } : PD) = { e.d with st := st, S := .rd, ins := e.d.ins, tags := [] } := fun st => by rw [← S.tg]
  refine ⟨_, rfl, e.x, _, e.d.dx, _, _, _, rfl, (PW H0 s0 _).o, rfl, T.cl_Printer, D_Printer_stands, e.x, e.d, rfl, PW H0 s0 _, rfl, _, rfl, ?_⟩
  rcases back hn with ⟨z, zs⟩ | ⟨z, zs⟩
  · refine iteNo (fun y => absurd (z.symm.trans (by injection y)) (by decide +kernel)) ?_
    refine ⟨_, rfl, e.x, _, e.d.dx, _, _, _, rfl, (PW H0 s0 _).o, rfl, T.cl_Printer, D_Printer_mend, e.x, e.d, rfl, PW H0 s0 _, fun s' es st H2 ns kp P2 => ⟨rfl, ?_⟩, fun n => ?_⟩
    · rw [zs] at es
      obtain rfl := Option.some.inj es
      rw [decide_eq_true (show V.str (wd S3.rd) = V.str (Str.ofString "ready") from rfl)]
      exact fin .rd st e.d.ins H0 H2 H2 s0 (.inl rfl) kp (same_d st ▸ P2) (none_of13 W0 ns) (.inl rfl) (fun _ _ y => y)
    · rw [zs] at n
      cases n
  · refine iteYes (congrArg V.str z) ?_
    refine ⟨_, rfl, e.x, _, e.d.dx, _, _, _, rfl, (PW H0 s0 _).o, rfl, T.cl_Printer, D_Printer_come, e.x, e.d, rfl, PW H0 s0 _, fun s' es st H2 ns kp P2 => ⟨rfl, ?_⟩, fun n => ?_⟩
    · rw [zs] at es
      obtain rfl := Option.some.inj es
      rw [decide_eq_true (show V.str (wd (if false = true then S3.jm else .rd)) = V.str (Str.ofString "ready") from rfl)]
      exact fin .rd st e.d.ins H0 H2 H2 s0 (.inl rfl) kp (same_d st ▸ P2) (none_of13 W0 ns) (.inl rfl) (fun _ _ y => y)
    · rw [zs] at n
      cases n

end
end My

namespace My
open PySem L2
open Blk (sg sg_inj sg_app)
section
variable {P : Program} {w : World} {K : PySem.W.Frag} {mg : Str → Option Value} {base : Heap}
/-! ### a world as it is made -/
structure W13 where
  wo : Addr
  ca : Addr
  ro : Addr
  le : Addr
  ik : Addr
  mo : Addr
  nm : Str
  sg : Str
  p : Int
  rb : Int
  rc : Int
  cs : List Str
  rs : List (Str × Int)
def wA (w : W13) : List Addr := [w.wo, w.ca, w.ro, w.le, w.ik, w.mo]
structure WAt13 (H : Hp) (w : W13) : Prop where
  W : H w.wo = some (.dK (wD13 w.nm w.ca w.p w.ro (wd .rd) w.sg w.le w.ik w.mo))
  hca : H w.ca = some (.lst (w.cs.map V.str))
  hro : H w.ro = some (.dK (dI w.rs))
  hle : H w.le = some (.lst (w.rs.map fun _ => V.int 0))
  hik : H w.ik = some (.lst [V.int 0, V.int 0])
  hmo : H w.mo = some (.lst [V.int w.rb, V.int w.rc])
  nd : (w.rs.map (·.1)).Nodup
  n1 : w.rs ≠ []
  l9 : w.rs.length ≤ 9
  lc : w.cs.length ≤ 9
  sg : ¬ w.sg ∈ w.rs.map (·.1)
  b0 : ∀ q ∈ w.rs, 0 ≤ q.2
  b1 : 0 ≤ w.rb
  b2 : 0 ≤ w.rc
  o1 : w.ro ≠ w.wo
  m2 : w.ca ≠ w.le
  m3 : w.ik ≠ w.le
  m4 : w.mo ≠ w.le
theorem WAt13.same {H H' : Hp} {w : W13} (h : WAt13 H w) (k : Same H H') : WAt13 H' w :=
  { h with W := k _ _ h.W, hca := k _ _ h.hca, hro := k _ _ h.hro, hle := k _ _ h.hle, hik := k _ _ h.hik, hmo := k _ _ h.hmo }
theorem WAt13.all {H : Hp} {w : W13} (h : WAt13 H w) : ∀ b ∈ wA w, ∃ o, H b = some o := by
  intro b hb
  simp only [wA, List.mem_cons, List.not_mem_nil, or_false] at hb
  rcases hb with rfl | rfl | rfl | rfl | rfl | rfl
  · exact ⟨_, h.W⟩
  · exact ⟨_, h.hca⟩
  · exact ⟨_, h.hro⟩
  · exact ⟨_, h.hle⟩
  · exact ⟨_, h.hik⟩
  · exact ⟨_, h.hmo⟩
theorem val_out13 : ∀ {kvs : List (Key × V)} {k : Key}, (∀ k' ∈ kvs.map (·.1), k' ≠ k) → valV kvs k = none
  | [], _, _ => rfl
  | p :: r, k, h => by
    exact (valV_neg (h p.1 (by rw [List.map_cons]; exact List.mem_cons_self))).trans (val_out13 fun k' hk => h k' (by rw [List.map_cons]; exact List.mem_cons_of_mem _ hk))
theorem putX13 {kvs : List (Key × V)} {k : Key} {v : V} (h : ∀ k' ∈ kvs.map (·.1), k' ≠ k) : putK kvs k v = kvs ++ [(k, v)] := putK_new v (val_out13 h)
theorem merge5 (v1 v2 v3 v4 v5 : V) : mergeK [] [(kw "name", v1), (kw "can", v2), (kw "path", v3), (kw "rooms", v4), (kw "stands", v5)] = [(kw "name", v1), (kw "can", v2), (kw "path", v3), (kw "rooms", v4), (kw "stands", v5)] := by
  show putK (putK (putK (putK (putK [] (kw "name") v1) (kw "can") v2) (kw "path") v3) (kw "rooms") v4) (kw "stands") v5 = _
  rw [putX13 (kvs := []) (k := kw "name") (by simp only [List.map_append, List.map_cons, List.map_nil, List.nil_append, List.cons_append]; decide +kernel), putX13 (kvs := [] ++ [(kw "name", v1)]) (k := kw "can") (by simp only [List.map_append, List.map_cons, List.map_nil, List.nil_append, List.cons_append]; decide +kernel), putX13 (kvs := [] ++ [(kw "name", v1)] ++ [(kw "can", v2)]) (k := kw "path") (by simp only [List.map_append, List.map_cons, List.map_nil, List.nil_append, List.cons_append]; decide +kernel), putX13 (kvs := [] ++ [(kw "name", v1)] ++ [(kw "can", v2)] ++ [(kw "path", v3)]) (k := kw "rooms") (by simp only [List.map_append, List.map_cons, List.map_nil, List.nil_append, List.cons_append]; decide +kernel), putX13 (kvs := [] ++ [(kw "name", v1)] ++ [(kw "can", v2)] ++ [(kw "path", v3)] ++ [(kw "rooms", v4)]) (k := kw "stands") (by simp only [List.map_append, List.map_cons, List.map_nil, List.nil_append, List.cons_append]; decide +kernel)]
  rfl
theorem cut_to13 (xs : List V) (k : Nat) : cutV xs none (some (k : Int)) = xs.take k := by
  unfold cutV
  rw [HT.sIx_nat, HT.sIx_none]
  by_cases h : k ≤ xs.length
  · rw [Nat.min_eq_left h]
    rfl
  · rw [Nat.min_eq_right (by omega), List.drop_zero, Nat.sub_zero, List.take_of_length_le (Nat.le_refl _), List.take_of_length_le (by omega)]
theorem dI_key {rs : List (Str × Int)} {n : Str} (h : n ∉ rs.map (·.1)) : ∀ k' ∈ (dI rs).map (·.1), k' ≠ (Sum.inr n : Key) := fun k' z ek => by
  subst ek
  unfold dI at z
  rw [List.map_map] at z
  obtain ⟨p, hp, e⟩ := List.mem_map.mp z
  injection e with e
  exact h (List.mem_map.mpr ⟨p, hp, e⟩)
def sp__law_world (K : PySem.W.Frag) : Sp := fun vs H Q _ => ∃ (a kl : Addr) (b : Int) (nm : Str) (ks : List Str), vs = [.ref a, .int b, .str nm, .ref kl] ∧ Scr K H a ∧ 0 ≤ b ∧ b ≤ 5000 ∧ H kl = some (.lst (ks.map V.str)) ∧ ks.length = 5 ∧ ks.Nodup ∧ ∀ w H', Same H H' → WAt13 H' w → (∀ b ∈ wA w, H b = none) → Q (.ref w.wo) H'
theorem sc__law_world : FnScope ["_law_script", "_law_base", "_law_name", "_law_kinds", "_law_can", "_law_j", "_law_rooms", "_law_kind", "_law_world_here"] ["_law_script", "_law_base", "_law_name", "_law_kinds"] (defScope s__law_world) := ⟨rfl, rfl, rfl, by decide +kernel, rfl, by decide +kernel, by decide +kernel⟩
theorem ok__law_world {fa cState cReady cJammed cAway cStock cPrinter cBadLine cBusy cDry cGoesRound cNoHeap cNoPrinter cNotNow cNoWay cNowhere cOver cTooMuch cTwice cUnknown cHallError : Addr} {fd : FuncData} (F : Fun K "_law_world" "_law_world" s__law_world fa fd) (T : Txt K mg cState cReady cJammed cAway cStock cPrinter cBadLine cBusy cDry cGoesRound cNoHeap cNoPrinter cNotNow cNoWay cNowhere cOver cTooMuch cTwice cUnknown cHallError) (D__law_room : Dfn P w K mg base 3 "_law_room" ["_law_script", "_law_k", "_law_low"] (sp__law_room K)) (D__law_by : Dfn P w K mg base 2 "_law_by" ["_law_script", "_law_k", "_law_many_here"] (sp__law_by K)) :
    FnOk P w K mg base CX0 4 fa fd ["_law_script", "_law_base", "_law_name", "_law_kinds"] (sp__law_world K) := by
  refine F.ok sc__law_world (fun vs H Q E h => ?_) (fun cdv A outer s H vs Q E hr h => ?_)
  · obtain ⟨a, kl, b, nm, ks, rfl, _⟩ := h
    rfl
  obtain ⟨a, kl, b, nm, ks, rfl, hS, b0, b1, hkl, lk, ndk, q⟩ := h
  have hu := hu_n hr 0 (by decide)
  have z2 : 2 ≤ sizeLine := small (by decide)
  refine ⟨_, (pss_cons (ps_set (i := 4) sc__law_world.nd rfl (by first | exact Or.inl rfl | exact Or.inr rfl) (pe_lst pa_nil))
  (pss_cons (ps_for PassesOwn.never rfl (pi_range1 rfl T.range (pa_cons pe_int pa_nil)) (pg_name (i := 5) sc__law_world.nd rfl (by first | exact Or.inl rfl | exact Or.inr rfl))
  (pss_one (ps_if (pt_cmpR op_eq (pe_callD D__law_by (hr.mono (by decide)) rfl (pa_cons (pv 0) (pa_cons (pe_op op_add (pv 1) (pv 5)) (pa_cons pe_int pa_nil)))) pe_int (nomark _)) (pss_one (ps_expr (pe_bm PySem.F.plainAttrs_list PySem.F.slot_list_insert PySem.F.type_list_insert mt_insert (pv 4) (pa_cons (pe_callD D__law_by (hr.mono (by decide)) rfl (pa_cons (pv 0) (pa_cons (pe_op op_add (pe_op op_add (pv 1) pe_int) (pv 5)) (pa_cons (pe_op op_add (pe_callB call_len_seq rfl T.len PySem.boot_len (pa_cons (pv 4) pa_nil)) pe_int) pa_nil)))) (pa_cons (pe_ix ix_listA (pe_lst (pa_cons pe_str (pa_cons pe_str (pa_cons pe_str pa_nil)))) (pv 5) (fun _ _ => rfl)) pa_nil))))) pss_nil)))
  (pss_cons (ps_set (i := 6) sc__law_world.nd rfl (by first | exact Or.inl rfl | exact Or.inr rfl) pe_dnewK)
  (pss_cons (ps_for PassesOwn.never rfl (pi_list (pe_slice sl_list (pv 3) po_none (po_some (pe_op op_add pe_int (pe_callD D__law_by (hr.mono (by decide)) rfl (pa_cons (pv 0) (pa_cons (pe_op op_add (pv 1) pe_int) (pa_cons pe_int pa_nil)))))))) (pg_name (i := 7) sc__law_world.nd rfl (by first | exact Or.inl rfl | exact Or.inr rfl))
  (pss_one (ps_dput hu (pv 6) (pv 7) (pe_callD D__law_room (hr.mono (by decide)) rfl (pa_cons (pv 0) (pa_cons (pe_op op_add (pe_op op_add (pv 1) pe_int) (pe_op op_mul pe_int (pe_callB call_lenD rfl T.len PySem.boot_len (pa_cons (pv 6) pa_nil)))) (pa_cons pe_int pa_nil)))) rfl)))
  (pss_cons (ps_set (i := 8) sc__law_world.nd rfl (by first | exact Or.inl rfl | exact Or.inr rfl) (pe_disp (pps_cons pe_str (pv 2) (pps_cons pe_str (pv 4) (pps_cons pe_str (pe_op op_add pe_int (pe_callD D__law_by (hr.mono (by decide)) rfl (pa_cons (pv 0) (pa_cons (pe_op op_add (pv 1) pe_int) (pa_cons pe_int pa_nil))))) (pps_cons pe_str (pv 6) (pps_cons pe_str pe_str pps_nil))))) rfl rfl (by decide) (by decide)))
  (pss_cons (ps_dput hu (pv 8) pe_str (pe_ix ix_list (pv 3) pe_int (fun _ _ => rfl)) rfl)
  (pss_cons (ps_dput hu (pv 8) pe_str (pe_frz (pe_comp (frees := []) ⟨by decide +kernel, rfl, rfl, by decide +kernel, trivial, by decide +kernel, cellsFor_at rfl, rfl⟩ rfl (pi_dict (pv 6)) (fun _ _ _ _ => pifs_nil) (fun _ _ _ _ => by exact pe_int))) rfl)
  (pss_cons (ps_dput hu (pv 8) pe_str (pe_lst (pa_cons pe_int (pa_cons pe_int pa_nil))) rfl)
  (pss_cons (ps_dput hu (pv 8) pe_str (pe_lst (pa_cons (pe_callD D__law_room (hr.mono (by decide)) rfl (pa_cons (pv 0) (pa_cons (pe_op op_add (pv 1) pe_int) (pa_cons pe_int pa_nil)))) (pa_cons (pe_callD D__law_room (hr.mono (by decide)) rfl (pa_cons (pv 0) (pa_cons (pe_op op_add (pv 1) pe_int) (pa_cons pe_int pa_nil)))) pa_nil))) rfl)
  (pss_one (ps_ret (pv 8)))))))))))), ?_⟩
  have z3 : 3 ≤ sizeLine := small (by decide)
  refine ⟨Nat.zero_le _, fun ca nca => ?_⟩
  have sa := same_new nca (.lst [])
  have hca0 : upd H ca (.lst []) ca = some (.lst (([] : List Str).map V.str)) := upd_same
  generalize upd H ca (.lst []) = H0 at sa hca0 ⊢
  refine ⟨_, rfl, by decide, by decide, for_range (lo := 0) (n := 3) (fun i σ G => ∃ (cs : List Str) (v5 : Option V), σ = [some (.ref a), some (.int b), some (.str nm), some (.ref kl), some (.ref ca), v5, none, none, none] ∧ Same H G ∧ G ca = some (.lst (cs.map V.str)) ∧ cs.length ≤ i) ⟨[], _, rfl, sa, hca0, Nat.le_refl _⟩ (fun i σ G hi z => ?_) (fun σ H1 z => ?_)⟩
  · obtain ⟨cs, v5, rfl, sG, hca, lc⟩ := z
    refine ⟨_, rfl, _, rfl, _, rfl, _, _, rfl, rfl, a, _, _, rfl, hS.same sG, by omega, by omega, by decide, fun r _ _ => ⟨rfl, _, rfl, ite2 (fun _ => ?_) (fun _ => ⟨cs, _, rfl, sG, hca, by omega⟩)⟩⟩
    refine ⟨_, rfl, .inl ⟨rfl, _, SqL.of hca⟩, _, rfl, _, rfl, _, _, rfl, rfl, _, rfl, _, _, rfl, rfl, _, rfl, ca, _, rfl, .inl (SqL.of hca), _, _, rfl, rfl, a, _, _, rfl, hS.same sG, by omega, by omega, by omega, fun r r0 r1 => ⟨z3, fun lb nlb => ⟨_, rfl, lb, _, _, rfl, rfl, SqL.of upd_same, by omega, by show (0 : Int) + (i : Int) < 3; omega, fun v hv => ?_⟩⟩⟩
    obtain ⟨z, rfl⟩ : ∃ z, v = V.str z := by
      have hm := List.mem_of_getElem? hv
      simp only [List.mem_cons, List.not_mem_nil, or_false] at hm
      rcases hm with rfl | rfl | rfl <;> exact ⟨_, rfl⟩
    have s2 := same_new nlb (.lst [V.str (Str.ofString "both"), V.str (Str.ofString "colour"), V.str (Str.ofString "staple")])
    have hca2 := s2 _ _ hca
    rw [List.length_map] at r1
    refine ⟨ca, _, r, _, rfl, rfl, hca2, r0, by rw [List.length_map]; omega, small1000 (by rw [List.length_map]; omega), cs.take r.toNat ++ z :: cs.drop r.toNat, _, rfl, same_on nca (sG.trans s2) _, ?_, ?_⟩
    · rw [upd_same, List.map_append, List.map_cons, List.map_take, List.map_drop]
    · rw [List.length_append, List.length_cons, List.length_take, List.length_drop]
      omega
  obtain ⟨cs, v5, rfl, s1, hca1, lc⟩ := z
  refine fun ro nro => ?_
  have fro : H ro = none := s1.free nro
  have s2 := same_new nro (.dK [])
  have hro2 : upd H1 ro (.dK []) ro = some (.dK (dI [])) := upd_same
  generalize upd H1 ro (.dK []) = H2 at s2 hro2 ⊢
  have hS2 := (hS.same s1).same s2
  have hkl2 := s2 _ _ (s1 _ _ hkl)
  refine ⟨_, rfl, _, rfl, _, rfl, _, _, rfl, rfl, a, _, _, rfl, hS2, by omega, by omega, by decide, fun r r0 r1 => ⟨_, _, rfl, rfl, _, rfl, kl, _, rfl, SqL.of hkl2, fun sl nsl => ?_⟩⟩
  obtain ⟨m, rfl⟩ : ∃ m : Nat, r = (m : Int) := ⟨r.toNat, by omega⟩
  rw [show (1 : Int) + (m : Int) = ((m + 1 : Nat) : Int) by omega, cut_to13, ← List.map_take]
  have s3 := same_new nsl (.lst ((ks.take (m + 1)).map V.str))
  have hsl3 : upd H2 sl (.lst ((ks.take (m + 1)).map V.str)) sl = some (.lst ((ks.take (m + 1)).map V.str)) := upd_same
  generalize upd H2 sl (.lst ((ks.take (m + 1)).map V.str)) = H3 at s3 hsl3 ⊢
  have s13 := s2.trans s3
  have nrs : ro ≠ sl := ne_of (s3 _ _ hro2) hsl3 (by intro z; cases z)
  have nk : (ks.take (m + 1)).Nodup := (List.take_sublist _ _).nodup ndk
  have lt5 : (ks.take (m + 1)).length = m + 1 := by rw [List.length_take]; omega
  refine ⟨sl, rfl, ⟨_, SqL.of hsl3⟩, for_list (K := K) (a := sl) (xs := (ks.take (m + 1)).map V.str) (fun i σ G => ∃ (rs : List (Str × Int)) (v7 : Option V), σ = [some (.ref a), some (.int b), some (.str nm), some (.ref kl), some (.ref ca), v5, some (.ref ro), v7, none] ∧ Same H1 G ∧ G sl = some (.lst ((ks.take (m + 1)).map V.str)) ∧ G ro = some (.dK (dI rs)) ∧ rs.map (·.1) = (ks.take (m + 1)).take i ∧ ∀ q ∈ rs, 1 ≤ q.2) ⟨[], _, rfl, s13, hsl3, s3 _ _ hro2, rfl, fun q hq => absurd hq List.not_mem_nil⟩ (fun i σ G _ z => ?_) (fun i x σ G hx z => ?_) (fun σ G z => ?_)⟩
  · obtain ⟨rs, v7, rfl, _, hsl, _⟩ := z
    exact SqL.of hsl
  · obtain ⟨rs, v7, rfl, sG, hsl, hro, kr, ge⟩ := z
    rw [List.getElem?_map] at hx
    obtain ⟨n, en, rfl⟩ := Option.map_eq_some_iff.mp hx
    have li : i < m + 1 := by have := (List.getElem?_eq_some_iff.mp en).1; omega
    have lr : rs.length = i := by have := congrArg List.length kr; rw [List.length_map, List.length_take] at this; omega
    have ld : (dI rs).length = rs.length := by unfold dI; rw [List.length_map]
    have nn : n ∉ rs.map (·.1) := fun z => by
      rw [kr] at z
      obtain ⟨j, ej⟩ := List.mem_iff_getElem?.mp z
      have lj : j < i := by have := (List.getElem?_eq_some_iff.mp ej).1; rw [List.length_take] at this; omega
      rw [List.getElem?_take_of_lt lj] at ej
      have := (List.getElem?_inj (by omega) nk).mp (ej.trans en.symm)
      omega
    refine ⟨_, rfl, _, rfl, _, _, rfl, rfl, _, rfl, ro, _, rfl, hro, _, _, rfl, rfl, .inl ⟨by decide, by decide⟩, _, _, rfl, rfl, a, _, 1, rfl, (hS.same s1).same sG, by omega, by omega, fun rv r1' => ?_⟩
    refine ⟨_, rfl, _, rfl, ro, _, rfl, DPut.k (k := Sum.inr n) hro (small1000 (by omega)), rs ++ [(n, rv)], _, rfl, same_on nro sG _, ?_, ?_, ?_, ?_⟩
    · rw [upd_ne (Ne.symm nrs)]
      exact hsl
    · rw [upd_same, putX13 (dI_key nn)]
      unfold dI
      rw [List.map_append]
      rfl
    · have t1 := List.take_add_one (l := ks.take (m + 1)) (i := i)
      rw [en] at t1
      rw [List.map_append, kr, t1]
      rfl
    · intro q hq
      rcases List.mem_append.mp hq with z | z
      · exact ge q z
      · rw [List.mem_singleton.mp z]
        exact r1'
  obtain ⟨rs, v7, rfl, sG, hsl, hro, kr, ge⟩ := z
  rw [List.length_map, List.take_length] at kr
  have hcaG := sG _ _ hca1
  have hklG := sG _ _ (s1 _ _ hkl)
  have hSG := (hS.same s1).same sG
  have sHG := s1.trans sG
  clear hro2 s2 s3 s13 hsl3 nrs hsl
  obtain ⟨sg, esg⟩ : ∃ sg, ks[4]? = some sg := ⟨_, List.getElem?_eq_getElem (by omega)⟩
  refine fun wo nwo => ?_
  have fwo : H wo = none := sHG.free nwo
  have caw : ca ≠ wo := ne_of_none hcaG nwo
  have row : ro ≠ wo := ne_of_none hro nwo
  have klw : kl ≠ wo := ne_of_none hklG nwo
  have s5 := same_new nwo (.dK [])
  have hw5 : upd G wo (.dK []) wo = some (.dK []) := upd_same
  generalize upd G wo (.dK []) = G5 at s5 hw5 ⊢
  refine ⟨_, rfl, _, rfl, _, rfl, _, rfl, _, _, rfl, rfl, a, _, _, rfl, hSG.same s5, by omega, by omega, by decide, fun pp _ _ => ⟨_, _, rfl, rfl, _, rfl, hw5, [(kw "name", .str nm), (kw "can", .ref ca), (kw "path", .int (1 + pp)), (kw "rooms", .ref ro), (kw "stands", .str (Str.ofString "ready"))], rfl, by show 5 ≤ 15; decide, ?_⟩⟩
  rw [merge5]
  have put : ∀ (G : Hp) (o : HO), Same H G → Same H (upd G wo o) := fun G o z => same_on fwo z o
  have k6 : ∀ b o, b ≠ wo → G5 b = some o → upd G5 wo (.dK [(kw "name", .str nm), (kw "can", .ref ca), (kw "path", .int (1 + pp)), (kw "rooms", .ref ro), (kw "stands", .str (Str.ofString "ready"))]) b = some o := fun b o nb e1 => by rw [upd_ne nb]; exact e1
  have hw6 : upd G5 wo (.dK [(kw "name", .str nm), (kw "can", .ref ca), (kw "path", .int (1 + pp)), (kw "rooms", .ref ro), (kw "stands", .str (Str.ofString "ready"))]) wo = some (.dK [(kw "name", .str nm), (kw "can", .ref ca), (kw "path", .int (1 + pp)), (kw "rooms", .ref ro), (kw "stands", .str (Str.ofString "ready"))]) := upd_same
  have t6 := put G5 (.dK [(kw "name", .str nm), (kw "can", .ref ca), (kw "path", .int (1 + pp)), (kw "rooms", .ref ro), (kw "stands", .str (Str.ofString "ready"))]) (sHG.trans s5)
  have ca6 := k6 _ _ caw (s5 _ _ hcaG)
  have ro6 := k6 _ _ row (s5 _ _ hro)
  generalize upd G5 wo (.dK [(kw "name", .str nm), (kw "can", .ref ca), (kw "path", .int (1 + pp)), (kw "rooms", .ref ro), (kw "stands", .str (Str.ofString "ready"))]) = G6 at k6 hw6 t6 ca6 ro6 ⊢
  refine ⟨_, rfl, kl, _, 4, _, rfl, rfl, SqL.of (t6 _ _ hkl), at_s13 (k := 4) esg, _, rfl, wo, _, rfl, DPut.k (k := kw "strange") hw6 (small1000 (by show 5 ≤ 1000; decide)), ?_⟩
  rw [putX13 (kvs := [(kw "name", .str nm), (kw "can", .ref ca), (kw "path", .int (1 + pp)), (kw "rooms", .ref ro), (kw "stands", .str (Str.ofString "ready"))]) (k := kw "strange") (by simp only [List.map_append, List.map_cons, List.map_nil, List.nil_append, List.cons_append]; decide +kernel)]
  generalize eK : [(kw "name", V.str nm), (kw "can", .ref ca), (kw "path", .int (1 + pp)), (kw "rooms", .ref ro), (kw "stands", .str (Str.ofString "ready"))] ++ [(kw "strange", V.str sg)] = K6
  have kK : K6.map (·.1) = [kw "name", kw "can", kw "path", kw "rooms", kw "stands", kw "strange"] := by rw [← eK]; rfl
  have k7 : ∀ b o, b ≠ wo → G6 b = some o → upd G6 wo (.dK K6) b = some o := fun b o nb e1 => by rw [upd_ne nb]; exact e1
  have hw7 : upd G6 wo (.dK K6) wo = some (.dK K6) := upd_same
  have t7 := put G6 (.dK K6) t6
  have ca7 := k7 _ _ caw ca6
  have ro7 := k7 _ _ row ro6
  generalize upd G6 wo (.dK K6) = G7 at k7 hw7 t7 ca7 ro7 ⊢
  have lrs : (dI rs).length = rs.length := by unfold dI; rw [List.length_map]
  have lrs5 : rs.length ≤ 5 := by have := congrArg List.length kr; rw [List.length_map, List.length_take] at this; omega
  refine ⟨ro, _, ro7, fun o => ⟨_, rfl, ro, o, _, rfl, upd_same, compB_seq (seq_dict upd_same) (fun _ => true) (fun _ => .int 0) (small1000 (by rw [List.length_map]; omega)) (fun x _ H' R _ r => r) (fun x _ H' R _ _ r => r) (fun l8 F8 f8 nl8 hl8 => ⟨f8 _ _ upd_same, ?_⟩)⟩⟩
  have n8r : l8 ≠ ro := fun z => by rw [z, upd_same] at nl8; cases nl8
  rw [upd_ne n8r] at nl8
  have s78 : Same G7 (upd F8 ro (.dK (dI rs))) := fun b o1 e1 => by
    by_cases c : b = ro
    · subst c
      rw [ro7] at e1
      rw [upd_same]
      exact e1
    · rw [upd_ne c]
      exact f8 _ _ (by rw [upd_ne c]; exact e1)
  have hl8' : upd F8 ro (.dK (dI rs)) l8 = some (.lst (rs.map fun _ => V.int 0)) := by
    rw [upd_ne n8r, hl8, List.filter_eq_self.mpr fun _ _ => rfl]
    unfold dI
    rw [List.map_map, List.map_map]
    rfl
  generalize upd F8 ro (.dK (dI rs)) = G8 at s78 hl8' ⊢
  have f8n : H l8 = none := t7.free nl8
  have cal : ca ≠ l8 := ne_of_none ca7 nl8
  refine ⟨_, rfl, wo, _, rfl, DPut.k (k := kw "left") (s78 _ _ hw7) (small1000 (by rw [← eK]; show 6 ≤ 1000; decide)), ?_⟩
  rw [putX13 (kvs := K6) (k := kw "left") (by rw [kK]; decide +kernel)]
  have t8 := t7.trans s78
  have lw8 : l8 ≠ wo := ne_of hl8' (s78 _ _ hw7) (by intro z; cases z)
  have k9 : ∀ b o, b ≠ wo → G8 b = some o → upd G8 wo (.dK (K6 ++ [(kw "left", .ref l8)])) b = some o := fun b o nb e1 => by rw [upd_ne nb]; exact e1
  have hw9 : upd G8 wo (.dK (K6 ++ [(kw "left", .ref l8)])) wo = some (.dK (K6 ++ [(kw "left", .ref l8)])) := upd_same
  have t9 := put G8 (.dK (K6 ++ [(kw "left", .ref l8)])) t8
  generalize upd G8 wo (.dK (K6 ++ [(kw "left", .ref l8)])) = G9 at k9 hw9 t9 ⊢
  have ca9 := k9 _ _ caw (s78 _ _ ca7)
  have ro9 := k9 _ _ row (s78 _ _ ro7)
  have le9 := k9 _ _ lw8 hl8'
  refine ⟨z2, fun ik nik => ?_⟩
  have s10 := same_new nik (.lst [V.int 0, V.int 0])
  have ik10 : upd G9 ik (.lst [V.int 0, V.int 0]) ik = some (.lst [V.int 0, V.int 0]) := upd_same
  generalize upd G9 ik (.lst [V.int 0, V.int 0]) = G10 at s10 ik10 ⊢
  have fik : H ik = none := t9.free nik
  have ikl : ik ≠ l8 := Ne.symm (ne_of_none le9 nik)
  have ikw : ik ≠ wo := Ne.symm (ne_of_none hw9 nik)
  refine ⟨_, rfl, wo, _, rfl, DPut.k (k := kw "inks") (s10 _ _ hw9) (small1000 (by rw [← eK]; show 7 ≤ 1000; decide)), ?_⟩
  rw [putX13 (k := kw "inks") (kvs := K6 ++ [(kw "left", V.ref l8)]) (by rw [List.map_append, kK]; simp only [List.map_append, List.map_cons, List.map_nil, List.nil_append, List.cons_append]; decide +kernel)]
  have t10 := t9.trans s10
  have k11 : ∀ b o, b ≠ wo → G10 b = some o → upd G10 wo (.dK (K6 ++ [(kw "left", .ref l8)] ++ [(kw "inks", .ref ik)])) b = some o := fun b o nb e1 => by rw [upd_ne nb]; exact e1
  have hw11 : upd G10 wo (.dK (K6 ++ [(kw "left", .ref l8)] ++ [(kw "inks", .ref ik)])) wo = some (.dK (K6 ++ [(kw "left", .ref l8)] ++ [(kw "inks", .ref ik)])) := upd_same
  have t11 := put G10 (.dK (K6 ++ [(kw "left", .ref l8)] ++ [(kw "inks", .ref ik)])) t10
  generalize upd G10 wo (.dK (K6 ++ [(kw "left", .ref l8)] ++ [(kw "inks", .ref ik)])) = G11 at k11 hw11 t11 ⊢
  have ca11 := k11 _ _ caw (s10 _ _ ca9)
  have ro11 := k11 _ _ row (s10 _ _ ro9)
  have le11 := k11 _ _ lw8 (s10 _ _ le9)
  have ik11 := k11 _ _ ikw ik10
  refine ⟨_, rfl, _, rfl, _, _, rfl, rfl, a, _, _, rfl, hS.same t11, by omega, by omega, fun rb rb0 => ⟨_, rfl, _, rfl, _, _, rfl, rfl, a, _, _, rfl, hS.same t11, by omega, by omega, fun rc rc0 => ⟨z2, fun mo nmo => ?_⟩⟩⟩
  have s12 := same_new nmo (.lst [V.int rb, V.int rc])
  have mo12 : upd G11 mo (.lst [V.int rb, V.int rc]) mo = some (.lst [V.int rb, V.int rc]) := upd_same
  generalize upd G11 mo (.lst [V.int rb, V.int rc]) = G12 at s12 mo12 ⊢
  have fmo : H mo = none := t11.free nmo
  have mol : mo ≠ l8 := Ne.symm (ne_of_none le11 nmo)
  have mow : mo ≠ wo := Ne.symm (ne_of_none hw11 nmo)
  refine ⟨_, rfl, wo, _, rfl, DPut.k (k := kw "most") (s12 _ _ hw11) (small1000 (by rw [← eK]; show 8 ≤ 1000; decide)), ?_⟩
  rw [putX13 (k := kw "most") (kvs := K6 ++ [(kw "left", V.ref l8)] ++ [(kw "inks", V.ref ik)]) (by rw [List.map_append, List.map_append, kK]; simp only [List.map_append, List.map_cons, List.map_nil, List.nil_append, List.cons_append]; decide +kernel)]
  refine ⟨_, rfl, q ⟨wo, ca, ro, l8, ik, mo, nm, sg, 1 + pp, rb, rc, cs, rs⟩ _ (put G12 _ (t11.trans s12)) ?_ ?_⟩
  · have on : ∀ b o, b ≠ wo → G12 b = some o → upd G12 wo (.dK (K6 ++ [(kw "left", .ref l8)] ++ [(kw "inks", .ref ik)] ++ [(kw "most", .ref mo)])) b = some o := fun b o nb e1 => by rw [upd_ne nb]; exact e1
    refine { W := by rw [upd_same, ← eK]; rfl, hca := on _ _ caw (s12 _ _ ca11), hro := on _ _ row (s12 _ _ ro11), hle := on _ _ lw8 (s12 _ _ le11), hik := on _ _ ikw (s12 _ _ ik11), hmo := on _ _ mow mo12, nd := by show (rs.map (·.1)).Nodup; rw [kr]; exact nk, n1 := fun z => ?_, l9 := by show rs.length ≤ 9; omega, lc := by show cs.length ≤ 9; omega, sg := fun z => ?_, b0 := fun q hq => by have := ge q hq; omega, b1 := by show 0 ≤ rb; omega, b2 := by show 0 ≤ rc; omega, o1 := row, m2 := cal, m3 := ikl, m4 := mol }
    · have z' : rs = [] := z
      rw [z'] at kr
      have := congrArg List.length kr
      rw [lt5] at this
      simp at this
    · have z' : sg ∈ rs.map (·.1) := z
      rw [kr] at z'
      obtain ⟨j, ej⟩ := List.mem_iff_getElem?.mp z'
      have lj : j < m + 1 := by have := (List.getElem?_eq_some_iff.mp ej).1; omega
      rw [List.getElem?_take_of_lt lj] at ej
      have := (List.getElem?_inj (by omega) ndk).mp (ej.trans esg.symm)
      omega
  · intro b hb
    simp only [wA, List.mem_cons, List.not_mem_nil, or_false] at hb
    rcases hb with rfl | rfl | rfl | rfl | rfl | rfl
    · exact fwo
    · exact nca
    · exact fro
    · exact f8n
    · exact fik
    · exact fmo

end
end My

namespace My
open PySem L2
open Blk (sg sg_inj sg_app)
section
variable {P : Program} {w : World} {K : PySem.W.Frag} {mg : Str → Option Value} {base : Heap}
theorem for_seqB {J : It} {B : Hp} {xs : List V} (S : Seq J B xs) {g : TG} {tb : TS} {D : Ends} {σ : St} {H : Hp} (Pv : Nat → St → Hp → Prop) (h0 : Pv 0 σ H) (hk : ∀ i σ H, Pv i σ H → Same B H)
    (hs : ∀ i x σ H, xs[i]? = some x → Pv i σ H → g x σ H fun σ2 H2 => tb { D with nx := Pv (i + 1), ct := Pv (i + 1), bk := D.nx } σ2 H2) (hd : ∀ σ H, Pv xs.length σ H → D.nx σ H) :
    ∃ W : Nat → Nat → St → Hp → Prop, (∃ m, W 0 m σ H) ∧ ∀ i m σ H, W i m σ H →
      (J.stop i H ∧ D.nx σ H) ∨ (J.go i H ∧ ∃ N : St → Hp → Prop, (∀ σ' H', N σ' H' → ∃ m', m' < m ∧ W (i + 1) m' σ' H') ∧ ∀ x H', J.yld i H x H' → g x σ H' fun σ2 H2 => tb { D with nx := N, ct := N, bk := D.nx } σ2 H2) := by
  refine ⟨fun i m σ H => m = xs.length - i ∧ i ≤ xs.length ∧ Pv i σ H, ⟨xs.length, by simp, Nat.zero_le _, h0⟩, ?_⟩
  rintro i m σ H ⟨rfl, hi, p⟩
  have q := hk i σ H p
  by_cases hlt : i < xs.length
  · refine .inr ⟨S.go i H q hlt, Pv (i + 1), fun σ' H' p' => ⟨xs.length - (i + 1), by omega, rfl, hlt, p'⟩, fun x H' y => ?_⟩
    obtain ⟨e, hx⟩ := S.yld i H x H' q hlt y
    subst e
    exact hs i x σ H' hx p
  · have e : i = xs.length := by omega
    subst e
    exact .inl ⟨S.stop H q, hd σ H p⟩
theorem look_mem13 : ∀ {am : List (Str × Int)} {n : Str} {A : Int}, am.lookup n = some A → (n, A) ∈ am
  | [], _, _, h => by cases h
  | (k, u) :: r, n, A, h => by
    rw [List.lookup_cons] at h
    by_cases c : n = k
    · rw [beq_iff_eq.mpr c] at h
      have e : u = A := Option.some.inj h
      rw [e, c]
      exact List.mem_cons_self
    · rw [beq_eq_false_iff_ne.mpr c] at h
      exact List.mem_cons_of_mem _ (look_mem13 h)
theorem len_put13 {kvs : List (Key × V)} {k : Key} {v : V} : (putK kvs k v).length ≤ kvs.length + 1 := by
  unfold putK
  split
  · rw [List.length_map]; omega
  · rw [List.length_append]; exact Nat.le_refl _
def sp__law_made (cP cS cR cJ cA : Addr) : Sp := fun vs H Q _ => ∃ w : W13, vs = [.ref w.wo] ∧ WAt13 H w ∧ ∀ e H', Same H H' → SAt13 cP cS cR cJ cA H' e → e.wo = w.wo → (∀ b ∈ aA e, b ∈ wA w ∨ H b = none) → Q (.ref e.x) H'
theorem sc__law_made : FnScope ["_law_world_here", "_law_can", "_law_rooms", "_law_printer", "_law_kind"] ["_law_world_here"] (defScope s__law_made) := ⟨rfl, rfl, rfl, by decide +kernel, rfl, by decide +kernel, by decide +kernel⟩
theorem ok__law_made {fa cState cReady cJammed cAway cStock cPrinter cBadLine cBusy cDry cGoesRound cNoHeap cNoPrinter cNotNow cNoWay cNowhere cOver cTooMuch cTwice cUnknown cHallError : Addr} {fd : FuncData} (F : Fun K "_law_made" "_law_made" s__law_made fa fd) (T : Txt K mg cState cReady cJammed cAway cStock cPrinter cBadLine cBusy cDry cGoesRound cNoHeap cNoPrinter cNotNow cNoWay cNowhere cOver cTooMuch cTwice cUnknown cHallError) (M_Printer : MkD P w K mg base 4 "Printer" cPrinter ["self", "name", "can", "path", "papers", "black", "colour"] (sp_Pr_init cPrinter cStock cReady cJammed cAway)) :
    FnOk P w K mg base CX0 6 fa fd ["_law_world_here"] (sp__law_made cPrinter cStock cReady cJammed cAway) := by
  refine F.ok sc__law_made (fun vs H Q E h => ?_) (fun cdv A outer s H vs Q E hr h => ?_)
  · obtain ⟨w, rfl, _⟩ := h
    rfl
  obtain ⟨w, rfl, S, q⟩ := h
  have hu := hu_n hr 0 (by decide)
  have z2 : 2 ≤ sizeLine := small (by decide)
  refine ⟨_, (pss_cons (ps_set (i := 1) sc__law_made.nd rfl (by first | exact Or.inl rfl | exact Or.inr rfl) (pe_callTy call_list_of rfl T.list bt_list (pa_cons (pe_dget hu (pv 0) pe_str (fun _ _ => rfl)) pa_nil)))
  (pss_cons (ps_set (i := 2) sc__law_made.nd rfl (by first | exact Or.inl rfl | exact Or.inr rfl) (pe_callTy call_dict_copy rfl T.dict bt_dict (pa_cons (pe_dget hu (pv 0) pe_str (fun _ _ => rfl)) pa_nil)))
  (pss_cons (ps_set (i := 3) sc__law_made.nd rfl (by first | exact Or.inl rfl | exact Or.inr rfl) (pe_makeD M_Printer (hr.mono (by decide)) rfl (pa_cons (pe_dget hu (pv 0) pe_str (fun _ _ => rfl)) (pa_cons (pv 1) (pa_cons (pe_dget hu (pv 0) pe_str (fun _ _ => rfl)) (pa_cons (pv 2) (pa_cons (pe_ix ix_list (pe_dget hu (pv 0) pe_str (fun _ _ => rfl)) pe_int (fun _ _ => rfl)) (pa_cons (pe_ix ix_list (pe_dget hu (pv 0) pe_str (fun _ _ => rfl)) pe_int (fun _ _ => rfl)) pa_nil))))))))
  (pss_cons (ps_expr (pe_bm PySem.F.plainAttrs_list PySem.F.slot_list_append PySem.F.type_list_append mt_append (pv 1) (pa_cons pe_str pa_nil)))
  (pss_cons (ps_dput hu (pv 2) (pe_dget hu (pv 0) pe_str (fun _ _ => rfl)) pe_int rfl)
  (pss_cons (ps_frz (ps_for PassesOwn.never rfl (pi_dict (pe_dget hu (pv 0) pe_str (fun _ _ => rfl))) (pg_name (i := 4) sc__law_made.nd rfl (by first | exact Or.inl rfl | exact Or.inr rfl))
  (pss_one (ps_dput hu (pv 2) (pv 4) pe_int rfl))))
  (pss_one (ps_ret (pv 3))))))))), ?_⟩
  refine ⟨_, rfl, w.wo, _, rfl, rg13 (.inl S.W) (w_can _ _ _ _ _ _ _ _ _), w.ca, _, rfl, .inl (SqL.of S.hca), fun cl ncl => ?_⟩
  have s1 := same_new ncl (.lst (w.cs.map V.str))
  have hcl1 : upd H cl (.lst (w.cs.map V.str)) cl = some (.lst (w.cs.map V.str)) := upd_same
  generalize upd H cl (.lst (w.cs.map V.str)) = H1 at s1 hcl1 ⊢
  have S1 := S.same s1
  refine ⟨_, rfl, w.wo, _, rfl, rg13 (.inl S1.W) (w_rooms _ _ _ _ _ _ _ _ _), w.ro, _, rfl, .inl S1.hro, fun rp nrp => ?_⟩
  have s2 := same_new nrp (.dK (dI w.rs))
  have hrp2 : upd H1 rp (.dK (dI w.rs)) rp = some (.dK (dI w.rs)) := upd_same
  generalize upd H1 rp (.dK (dI w.rs)) = H2 at s2 hrp2 ⊢
  have S2 := S1.same s2
  have hcl2 := s2 _ _ hcl1
  have frp : H rp = none := s1.free nrp
  refine ⟨_, rfl, w.wo, _, rfl, rg13 (.inl S2.W) (w_name _ _ _ _ _ _ _ _ _), _, rfl, _, rfl, w.wo, _, rfl, rg13 (.inl S2.W) (w_path _ _ _ _ _ _ _ _ _), _, rfl, _, rfl, w.wo, _, rfl, rg13 (.inl S2.W) (w_most _ _ _ _ _ _ _ _ _), w.mo, _, 0, _, rfl, rfl, SqL.of S2.hmo, rfl, _, rfl, w.wo, _, rfl, rg13 (.inl S2.W) (w_most _ _ _ _ _ _ _ _ _), w.mo, _, 1, _, rfl, rfl, SqL.of S2.hmo, rfl, fun x dx nx ndx nde => ?_⟩
  have ki : ∀ b o, H2 b = some o → b ≠ x ∧ upd (upd H2 dx (.own x)) x (.ins cPrinter dx []) b = some o := fun b o e => by
    have b1 : b ≠ x := ne_of_none e nx
    exact ⟨b1, by rw [upd_ne b1, upd_ne (ne_of_none e ndx)]; exact e⟩
  have fr : ∀ b, upd (upd H2 dx (.own x)) x (.ins cPrinter dx []) b = none → H2 b = none := fun b hb => by
    cases e : H2 b with
    | none => rfl
    | some o => rw [(ki _ _ e).2] at hb; cases hb
  refine ⟨x, dx, cl, rp, w.nm, w.p, w.rb, w.rc, w.cs.map V.str, w.rs, rfl, upd_same, (ki _ _ hcl2).2, (ki _ _ hrp2).2, S.nd, by have := S.l9; omega, fun d H3 kp P3 en ep ers eam erb erc eb ec etg eS n1 n2 n3 n4 n5 n6 n7 n8 n9 n10 hcn hrm nr2 nr5 => ⟨rfl, ?_⟩⟩
  have s3 : Same H2 H3 := fun b o e => kp b o (ki b o e).1 (ki b o e).2
  have S3w := S2.same s3
  have n1 := fr _ n1
  have n2 := fr _ n2
  have n3 := fr _ n3
  have n4 := fr _ n4
  have n5 := fr _ n5
  have n6 := fr _ n6
  have n7 := fr _ n7
  have n8 := fr _ n8
  have n9 := fr _ n9
  have n10 := fr _ n10
  have SS : SAt13 cPrinter cStock cReady cJammed cAway H3 ⟨x, w.wo, w.ca, w.ro, w.le, w.ik, w.mo, w.sg, w.cs, d⟩ := by
    refine { P := P3, W := by show H3 w.wo = some (.dK (wD13 d.name w.ca d.path w.ro (wd d.S) w.sg w.le w.ik w.mo)); rw [en, ep, eS]; exact S3w.W, hca := S3w.hca, cn := hcn, hro := by show H3 w.ro = some (.dK (dI d.rs)); rw [ers]; exact S3w.hro, rm := by show H3 d.rm = some (.dK (dI d.rs)); rw [ers]; exact hrm, hle := by show H3 w.le = some (.lst ((d.am.map (·.2)).map V.int)); rw [eam, List.map_map, List.map_map]; exact S3w.hle, hik := by show H3 w.ik = some (.lst ([d.b, d.c].map V.int)); rw [eb, ec]; exact S3w.hik, hmo := by show H3 w.mo = some (.lst ([d.rb, d.rc].map V.int)); rw [erb, erc]; exact S3w.hmo, tg := etg, s3 := .inl eS, nd := by show (d.rs.map (·.1)).Nodup; rw [ers]; exact S.nd, n1 := by show d.rs ≠ []; rw [ers]; exact S.n1, l9 := by show d.rs.length ≤ 9; rw [ers]; exact S.l9, lc := S.lc, sg := by show ¬ w.sg ∈ d.rs.map (·.1); rw [ers]; exact S.sg, bA := fun n R A h1 h2 => ?_, bb := by show d.b ≤ d.rb; rw [eb, erb]; exact S.b1, bc := by show d.c ≤ d.rc; rw [ec, erc]; exact S.b2, r2 := ne_of_none S2.hro n2, r3 := nr2, r4 := ne_of_none S2.hro n4, r5 := nr5, w1 := Ne.symm (ne_of_none S2.W n1), w2 := Ne.symm (ne_of_none S2.W n2), w3 := Ne.symm (ne_of_none S2.W n3), w4 := Ne.symm (ne_of_none S2.W n4), w5 := Ne.symm (ne_of_none S2.W n10), w6 := S.o1, m1 := Ne.symm (ne_of_none S2.hle n5), m2 := S.m2, m3 := S.m3, m4 := S.m4 }
    have h1' : d.rs.lookup n = some R := h1
    have h2' : d.am.lookup n = some A := h2
    rw [ers] at h1'
    rw [eam] at h2'
    have a1 := S.b0 _ (look_mem13 h1')
    obtain ⟨p, _, e⟩ := List.mem_map.mp (look_mem13 h2')
    injection e with e1 e2
    have a1' : 0 ≤ R := a1
    omega
  have where_ : ∀ b ∈ aA ⟨x, w.wo, w.ca, w.ro, w.le, w.ik, w.mo, w.sg, w.cs, d⟩, b ∈ wA w ∨ H2 b = none := fun b hb => by
    simp only [aA, wA, List.mem_cons, List.not_mem_nil, or_false] at hb ⊢
    rcases hb with rfl | rfl | rfl | rfl | rfl | rfl | rfl | rfl | rfl | rfl | rfl | rfl | rfl | rfl | rfl | rfl | rfl
    · exact .inr nx
    · exact .inr n6
    · exact .inr n1
    · exact .inr n2
    · exact .inr n7
    · exact .inr n3
    · exact .inr n4
    · exact .inr n8
    · exact .inr n5
    · exact .inr n9
    · exact .inr n10
    all_goals (left; simp)
  have off : ∀ b ∈ aA ⟨x, w.wo, w.ca, w.ro, w.le, w.ik, w.mo, w.sg, w.cs, d⟩, b ≠ cl ∧ b ≠ rp := fun b hb => by
    rcases where_ b hb with z | z
    · obtain ⟨o, e⟩ := S.all b z
      exact ⟨ne_of_none e ncl, ne_of_none e frp⟩
    · exact ⟨fun c => (by rw [c, hcl2] at z; cases z), fun c => (by rw [c, hrp2] at z; cases z)⟩
  have hcl3 := s3 _ _ hcl2
  have hrp3 := s3 _ _ hrp2
  have s03 := s1.trans (s2.trans s3)
  have ncr : cl ≠ rp := ne_of hcl3 hrp3 (by intro z; cases z)
  refine ⟨_, rfl, .inl ⟨rfl, _, SqL.of hcl3⟩, cl, _, _, rfl, rfl, hcl3, small1000 (by rw [List.length_map]; have := S.lc; omega), ?_⟩
  have k4 : ∀ b o, b ≠ cl → H3 b = some o → upd H3 cl (.lst (w.cs.map V.str ++ [V.str (Str.ofString "both")])) b = some o := fun b o nb e1 => by rw [upd_ne nb]; exact e1
  generalize upd H3 cl (.lst (w.cs.map V.str ++ [V.str (Str.ofString "both")])) = H4 at k4 ⊢
  have kw4 : ∀ b o, H b = some o → H4 b = some o := fun b o e1 => k4 b o (ne_of_none e1 ncl) (s03 _ _ e1)
  have hrp4 := k4 _ _ (Ne.symm ncr) hrp3
  have ldI : (dI w.rs).length ≤ 9 := by unfold dI; rw [List.length_map]; exact S.l9
  refine ⟨_, rfl, _, rfl, w.wo, _, rfl, rg13 (.inl (kw4 _ _ S.W)) (w_strange _ _ _ _ _ _ _ _ _), rp, _, rfl, DPut.k (k := Sum.inr w.sg) hrp4 (small1000 (by omega)), ?_⟩
  have l5 : (putK (dI w.rs) (Sum.inr w.sg : Key) (V.int 5)).length ≤ 10 := by have := len_put13 (kvs := dI w.rs) (k := Sum.inr w.sg) (v := V.int 5); omega
  generalize putK (dI w.rs) (Sum.inr w.sg : Key) (V.int 5) = kv5 at l5 ⊢
  have k5 : ∀ b o, b ≠ rp → H4 b = some o → upd H4 rp (.dK kv5) b = some o := fun b o nb e1 => by rw [upd_ne nb]; exact e1
  have hrp5 : upd H4 rp (.dK kv5) rp = some (.dK kv5) := upd_same
  generalize upd H4 rp (.dK kv5) = H5 at k5 hrp5 ⊢
  have kw5 : ∀ b o, H b = some o → H5 b = some o := fun b o e1 => k5 b o (ne_of_none e1 frp) (kw4 b o e1)
  have rpo : rp ≠ w.ro := Ne.symm (ne_of_none S.hro frp)
  refine ⟨w.ro, _, kw5 _ _ S.hro, fun o => ?_⟩
  have k6 : ∀ b o', b ≠ w.ro → H5 b = some o' → upd H5 w.ro (.frz o (.dK (dI w.rs))) b = some o' := fun b o' nb e1 => by rw [upd_ne nb]; exact e1
  have f6 : upd H5 w.ro (.frz o (.dK (dI w.rs))) w.ro = some (.frz o (.dK (dI w.rs))) := upd_same
  generalize upd H5 w.ro (.frz o (.dK (dI w.rs))) = G0 at k6 f6 ⊢
  have sB : ∀ G : Hp, (∀ b o', b ≠ rp → G0 b = some o' → G b = some o') → Same (upd H w.ro (.frz o (.dK (dI w.rs)))) G := fun G kG b o' e1 => by
    by_cases c : b = w.ro
    · rw [c, upd_same] at e1
      rw [c]
      exact kG _ _ (Ne.symm rpo) (by rw [f6]; exact e1)
    · rw [upd_ne c] at e1
      exact kG _ _ (ne_of_none e1 frp) (k6 _ _ c (kw5 _ _ e1))
  refine ⟨_, rfl, w.wo, _, rfl, rg13 (.inl (k6 _ _ (Ne.symm S.o1) (kw5 _ _ S.W))) (w_rooms _ _ _ _ _ _ _ _ _), w.ro, o, _, rfl, f6, ?_⟩
  refine for_seqB (seq_dict (H1 := upd H w.ro (.frz o (.dK (dI w.rs)))) upd_same) (fun i σ G => ∃ (kvs : List (Key × V)) (v4 : Option V), σ = [some (.ref w.wo), some (.ref cl), some (.ref rp), some (.ref x), v4] ∧ G rp = some (.dK kvs) ∧ kvs.length ≤ 10 + i ∧ ∀ b o', b ≠ rp → G0 b = some o' → G b = some o') ⟨kv5, _, rfl, k6 _ _ rpo hrp5, by omega, fun b o' _ e1 => e1⟩ (fun i σ G z => let ⟨_, _, _, _, _, z⟩ := z; sB G z) (fun i y σ G hy z => ?_) (fun σ G z => ?_)
  · obtain ⟨kvs, v4, rfl, hrp, lk, kG⟩ := z
    rw [keys_dI, List.getElem?_map] at hy
    obtain ⟨n, en', rfl⟩ := Option.map_eq_some_iff.mp hy
    have li := (List.getElem?_eq_some_iff.mp en').1
    rw [List.length_map] at li
    have := S.l9
    refine ⟨_, rfl, _, rfl, rp, _, rfl, DPut.k (k := Sum.inr n) hrp (small1000 (by omega)), putK kvs (Sum.inr n) (.int 1), _, rfl, upd_same, ?_, fun b o' nb e1 => by rw [upd_ne nb]; exact kG b o' nb e1⟩
    have := len_put13 (kvs := kvs) (k := Sum.inr n) (v := V.int 1)
    omega
  obtain ⟨kvs, v4, rfl, hrp, lk, kG⟩ := z
  have keep : ∀ b o', b ≠ cl → b ≠ rp → H3 b = some o' → upd G w.ro (.dK (dI w.rs)) b = some o' := fun b o' nc np e1 => by
    by_cases c : b = w.ro
    · rw [c, upd_same]
      rw [c, S3w.hro] at e1
      exact e1
    · rw [upd_ne c]
      exact kG b o' np (k6 b o' c (k5 b o' np (k4 b o' nc e1)))
  refine ⟨kG _ _ (Ne.symm rpo) f6, _, rfl, q ⟨x, w.wo, w.ca, w.ro, w.le, w.ik, w.mo, w.sg, w.cs, d⟩ _ (fun b o' e1 => keep b o' (ne_of_none e1 ncl) (ne_of_none e1 frp) (s03 _ _ e1)) (SS.keepA fun b hb o' e1 => keep b o' (off b hb).1 (off b hb).2 e1) rfl fun b hb => (where_ b hb).imp id fun z => (s1.trans s2).free z⟩

end
end My

namespace My
open PySem L2
open Blk (sg sg_inj sg_app)
section
variable {P : Program} {w : World} {K : PySem.W.Frag} {mg : Str → Option Value} {base : Heap}
theorem mA_aA {e : E13} {b : Addr} (h : b ∈ mA e) : b ∈ aA e := by
  simp only [mA, aA, List.mem_cons, List.not_mem_nil, or_false] at h ⊢
  rcases h with rfl | rfl | rfl | rfl | rfl <;> simp
theorem cut_1of {xs : List V} (h : 1 ≤ xs.length) : cutV xs (some 1) none = xs.drop 1 := by
  unfold cutV
  rw [show (1 : Int) = ((1 : Nat) : Int) from rfl, HT.sIx_nat, HT.sIx_none, Nat.min_eq_left h, List.take_of_length_le (by rw [List.length_drop]; omega)]
structure Two (cP cS cR cJ cA : Addr) (H G : Hp) (wl pl : Addr) (lw lp : List V) (e f : E13) : Prop where
  s : Same H G
  Se : SAt13 cP cS cR cJ cA G e
  Sf : SAt13 cP cS cR cJ cA G f
  he : ∀ b ∈ aA e, H b = none
  hf : ∀ b ∈ aA f, H b = none
  dj : ∀ b ∈ aA e, b ∉ aA f
  hw : G wl = some (.lst lw)
  hp : G pl = some (.lst lp)
  we : wl ∉ aA e
  wf : wl ∉ aA f
  pe : pl ∉ aA e
  pf : pl ∉ aA f
theorem Two.swap {cP cS cR cJ cA : Addr} {H G : Hp} {wl pl : Addr} {lw lp : List V} {e f : E13} (T : Two cP cS cR cJ cA H G wl pl lw lp e f) : Two cP cS cR cJ cA H G wl pl lw lp f e :=
  ⟨T.s, T.Sf, T.Se, T.hf, T.he, fun b h1 h2 => T.dj b h2 h1, T.hw, T.hp, T.wf, T.we, T.pf, T.pe⟩
theorem Two.left {cP cS cR cJ cA : Addr} {H G G' : Hp} {wl pl : Addr} {lw lp : List V} {e e' f : E13} (T : Two cP cS cR cJ cA H G wl pl lw lp e f) (S' : SAt13 cP cS cR cJ cA G' e') (C : Ch13 e e' G G') : Two cP cS cR cJ cA H G' wl pl lw lp e' f where
  s := fun b o e1 => C.k b o (fun hb => by have := T.he b (mA_aA hb); rw [this] at e1; cases e1) (T.s _ _ e1)
  Se := S'
  Sf := T.Sf.keepA fun b hb o e1 => C.k b o (fun z => T.dj b (mA_aA z) hb) e1
  he := fun b hb => (C.a b hb).elim (T.he b) fun n => T.s.free n
  hf := T.hf
  dj := fun b hb h2 => (C.a b hb).elim (fun z => T.dj b z h2) fun n => by
    obtain ⟨o, e1⟩ := T.Sf.all b h2
    rw [n] at e1
    cases e1
  hw := C.k _ _ (fun z => T.we (mA_aA z)) T.hw
  hp := C.k _ _ (fun z => T.pe (mA_aA z)) T.hp
  we := fun z => (C.a _ z).elim T.we fun n => by rw [T.hw] at n; cases n
  wf := T.wf
  pe := fun z => (C.a _ z).elim T.pe fun n => by rw [T.hp] at n; cases n
  pf := T.pf
theorem Two.same {cP cS cR cJ cA : Addr} {H G G' : Hp} {wl pl : Addr} {lw lp : List V} {e f : E13} (T : Two cP cS cR cJ cA H G wl pl lw lp e f) (k : Same G G') : Two cP cS cR cJ cA H G' wl pl lw lp e f :=
  T.left (T.Se.same k) (Ch13.refl k)
theorem Ch13.eqs {e e' : E13} {H H' : Hp} (C : Ch13 e e' H H') : e'.x = e.x ∧ e'.wo = e.wo := by
  have := C.m
  unfold mA at this
  injection this with h1 h2
  injection h2 with h2 _
  exact ⟨h1, h2⟩
def sp_law (K : PySem.W.Frag) : Sp := fun vs H Q _ => ∃ a : Addr, vs = [.ref a] ∧ Scr K H a ∧ ∀ H', Q (.bl true) H'
theorem sc_law : FnScope ["_law_script", "_law_names_here", "_law_kinds", "_law_worlds", "_law_printers", "_law_k", "_law_j", "_law_way", "_law_good"] ["_law_script"] (defScope s_law) := ⟨rfl, rfl, rfl, by decide +kernel, rfl, by decide +kernel, by decide +kernel⟩
theorem ok_law {fa cState cReady cJammed cAway cStock cPrinter cBadLine cBusy cDry cGoesRound cNoHeap cNoPrinter cNotNow cNoWay cNowhere cOver cTooMuch cTwice cUnknown cHallError : Addr} {fd : FuncData} (F : Fun K "law" "law" s_law fa fd) (T : Txt K mg cState cReady cJammed cAway cStock cPrinter cBadLine cBusy cDry cGoesRound cNoHeap cNoPrinter cNotNow cNoWay cNowhere cOver cTooMuch cTwice cUnknown cHallError) (D__law_names : Dfn P w K mg base 3 "_law_names" ["_law_script", "_law_k", "_law_many_here"] (sp__law_names K)) (D__law_world : Dfn P w K mg base 4 "_law_world" ["_law_script", "_law_base", "_law_name", "_law_kinds"] (sp__law_world K)) (D__law_made : Dfn P w K mg base 6 "_law_made" ["_law_world_here"] (sp__law_made cPrinter cStock cReady cJammed cAway)) (D__law_by : Dfn P w K mg base 2 "_law_by" ["_law_script", "_law_k", "_law_many_here"] (sp__law_by K)) (D__law_loaded : Dfn P w K mg base 9 "_law_loaded" ["_law_script", "_law_k", "_law_printer", "_law_world_here"] (sp__law_loaded K cPrinter cStock cReady cJammed cAway)) (D__law_inked : Dfn P w K mg base 9 "_law_inked" ["_law_script", "_law_k", "_law_printer", "_law_world_here"] (sp__law_inked K cPrinter cStock cReady cJammed cAway)) (D__law_turned : Dfn P w K mg base 6 "_law_turned" ["_law_script", "_law_k", "_law_printer", "_law_world_here"] (sp__law_turned K cPrinter cStock cReady cJammed cAway)) (D__law_seen : Dfn P w K mg base 6 "_law_seen" ["_law_printer", "_law_world_here"] (sp__law_seen cPrinter cStock cReady cJammed cAway)) :
    FnOk P w K mg base CX0 10 fa fd ["_law_script"] (sp_law K) := by
  refine F.ok sc_law (fun vs H Q E h => ?_) (fun cdv A outer s H vs Q E hr h => ?_)
  · obtain ⟨a, rfl, _⟩ := h
    rfl
  obtain ⟨a, rfl, hS, q⟩ := h
  have hu := hu_n hr 0 (by decide)
  have hu0 := hr.units0
  have z2 : 2 ≤ sizeLine := small (by decide)
  refine ⟨_, (pss_cons (ps_set (i := 1) sc_law.nd rfl (by first | exact Or.inl rfl | exact Or.inr rfl) (pe_callD D__law_names (hr.mono (by decide)) rfl (pa_cons (pv 0) (pa_cons pe_int (pa_cons pe_int pa_nil)))))
  (pss_cons (ps_set (i := 2) sc_law.nd rfl (by first | exact Or.inl rfl | exact Or.inr rfl) (pe_slice sl_list (pe_callD D__law_names (hr.mono (by decide)) rfl (pa_cons (pv 0) (pa_cons pe_int (pa_cons pe_int pa_nil)))) (po_some pe_int) po_none))
  (pss_cons (ps_set (i := 3) sc_law.nd rfl (by first | exact Or.inl rfl | exact Or.inr rfl) (pe_lst (pa_cons (pe_callD D__law_world (hr.mono (by decide)) rfl (pa_cons (pv 0) (pa_cons pe_int (pa_cons (pe_ix ix_list (pv 1) pe_int (fun _ _ => rfl)) (pa_cons (pv 2) pa_nil))))) (pa_cons (pe_callD D__law_world (hr.mono (by decide)) rfl (pa_cons (pv 0) (pa_cons pe_int (pa_cons (pe_ix ix_list (pv 1) pe_int (fun _ _ => rfl)) (pa_cons (pv 2) pa_nil))))) pa_nil))))
  (pss_cons (ps_set (i := 4) sc_law.nd rfl (by first | exact Or.inl rfl | exact Or.inr rfl) (pe_lst (pa_cons (pe_callD D__law_made (hr.mono (by decide)) rfl (pa_cons (pe_ix ix_list (pv 3) pe_int (fun _ _ => rfl)) pa_nil)) (pa_cons (pe_callD D__law_made (hr.mono (by decide)) rfl (pa_cons (pe_ix ix_list (pv 3) pe_int (fun _ _ => rfl)) pa_nil)) pa_nil))))
  (pss_cons (ps_for PassesOwn.never rfl (pi_range1 rfl T.range (pa_cons pe_int pa_nil)) (pg_name (i := 5) sc_law.nd rfl (by first | exact Or.inl rfl | exact Or.inr rfl))
  (pss_cons (ps_set (i := 6) sc_law.nd rfl (by first | exact Or.inl rfl | exact Or.inr rfl) (pe_callD D__law_by (hr.mono (by decide)) rfl (pa_cons (pv 0) (pa_cons (pe_op op_add pe_int (pv 5)) (pa_cons pe_int pa_nil)))))
  (pss_cons (ps_set (i := 7) sc_law.nd rfl (by first | exact Or.inl rfl | exact Or.inr rfl) (pe_callD D__law_by (hr.mono (by decide)) rfl (pa_cons (pv 0) (pa_cons (pe_op op_add pe_int (pv 5)) (pa_cons pe_int pa_nil)))))
  (pss_cons (ps_if (pt_cmpR op_lt (pv 7) pe_int (nomark _)) (pss_one (ps_set (i := 8) sc_law.nd rfl (by first | exact Or.inl rfl | exact Or.inr rfl) (pe_callD D__law_loaded (hr.mono (by decide)) rfl (pa_cons (pv 0) (pa_cons (pe_op op_add pe_int (pe_op op_mul pe_int (pv 5))) (pa_cons (pe_ix ix_listA (pv 4) (pv 6) (fun _ _ => rfl)) (pa_cons (pe_ix ix_listA (pv 3) (pv 6) (fun _ _ => rfl)) pa_nil))))))) (pss_one (ps_if (pt_cmpR op_lt (pv 7) pe_int (nomark _)) (pss_one (ps_set (i := 8) sc_law.nd rfl (by first | exact Or.inl rfl | exact Or.inr rfl) (pe_callD D__law_inked (hr.mono (by decide)) rfl (pa_cons (pv 0) (pa_cons (pe_op op_add pe_int (pe_op op_mul pe_int (pv 5))) (pa_cons (pe_ix ix_listA (pv 4) (pv 6) (fun _ _ => rfl)) (pa_cons (pe_ix ix_listA (pv 3) (pv 6) (fun _ _ => rfl)) pa_nil))))))) (pss_one (ps_set (i := 8) sc_law.nd rfl (by first | exact Or.inl rfl | exact Or.inr rfl) (pe_callD D__law_turned (hr.mono (by decide)) rfl (pa_cons (pv 0) (pa_cons (pe_op op_add pe_int (pe_op op_mul pe_int (pv 5))) (pa_cons (pe_ix ix_listA (pv 4) (pv 6) (fun _ _ => rfl)) (pa_cons (pe_ix ix_listA (pv 3) (pv 6) (fun _ _ => rfl)) pa_nil))))))))))
  (pss_one (ps_if (PW.pt (pw_or (pt_not (pt_truth (pv 8) (fun _ => rfl))) (pw_or (pt_not (pt_truth (pe_callD D__law_seen (hr.mono (by decide)) rfl (pa_cons (pe_ix ix_list (pv 4) pe_int (fun _ _ => rfl)) (pa_cons (pe_ix ix_list (pv 3) pe_int (fun _ _ => rfl)) pa_nil))) (fun _ => rfl))) (pw_or1 (pt_not (pt_truth (pe_callD D__law_seen (hr.mono (by decide)) rfl (pa_cons (pe_ix ix_list (pv 4) pe_int (fun _ _ => rfl)) (pa_cons (pe_ix ix_list (pv 3) pe_int (fun _ _ => rfl)) pa_nil))) (fun _ => rfl))))))) (pss_one (ps_ret pe_bl)) pss_nil))))))
  (pss_one (ps_ret pe_bl))))))), ?_⟩
  refine ⟨_, rfl, a, 0, 2, rfl, hS, by decide, by decide, by decide, fun np ns H1 s1 _ hnp NO => ?_⟩
  refine ⟨_, rfl, a, 10, 6, rfl, hS.same s1, by decide, by decide, by decide, fun kp ks0 H2 s2 _ hkp KO => ⟨_, rfl, kp, _, rfl, SqL.of hkp, fun sl nsl => ?_⟩⟩
  rw [cut_1of (by rw [List.length_map, KO.len]; decide), ← List.map_drop]
  have s3 := same_new nsl (.lst ((ks0.drop 1).map V.str))
  have hsl : upd H2 sl (.lst ((ks0.drop 1).map V.str)) sl = some (.lst ((ks0.drop 1).map V.str)) := upd_same
  generalize upd H2 sl (.lst ((ks0.drop 1).map V.str)) = H3 at s3 hsl ⊢
  have lk : (ks0.drop 1).length = 5 := by rw [List.length_drop, KO.len]
  have ndk : (ks0.drop 1).Nodup := (List.drop_sublist _ _).nodup KO.nd
  obtain ⟨n0, e0⟩ : ∃ n, ns[0]? = some n := ⟨_, List.getElem?_eq_getElem (by rw [NO.len]; decide)⟩
  obtain ⟨n1, e1⟩ : ∃ n, ns[1]? = some n := ⟨_, List.getElem?_eq_getElem (by rw [NO.len]; decide)⟩
  have hnp3 := s3 _ _ (s2 _ _ hnp)
  have s03 := s1.trans (s2.trans s3)
  refine ⟨_, rfl, _, rfl, np, _, 0, _, rfl, rfl, SqL.of hnp3, at_s13 (k := 0) e0, _, rfl, a, sl, 30, n0, _, rfl, hS.same s03, by decide, by decide, hsl, lk, ndk, fun w4 H4 s4 W4 f4 => ?_⟩
  refine ⟨_, rfl, _, rfl, np, _, 1, _, rfl, rfl, SqL.of (s4 _ _ hnp3), at_s13 (k := 1) e1, _, rfl, a, sl, 60, n1, _, rfl, (hS.same s03).same s4, by decide, by decide, s4 _ _ hsl, lk, ndk, fun w5 H5 s5 W5 f5 => ⟨z2, fun wl nwl => ?_⟩⟩
  have s6 := same_new nwl (.lst [V.ref w4.wo, V.ref w5.wo])
  have hwl6 : upd H5 wl (.lst [V.ref w4.wo, V.ref w5.wo]) wl = some (.lst [V.ref w4.wo, V.ref w5.wo]) := upd_same
  generalize upd H5 wl (.lst [V.ref w4.wo, V.ref w5.wo]) = H6 at s6 hwl6 ⊢
  refine ⟨_, rfl, wl, _, 0, _, rfl, rfl, SqL.of hwl6, rfl, w4, rfl, (W4.same s5).same s6, fun e H7 s7 Se ee ae => ?_⟩
  refine ⟨_, rfl, wl, _, 1, _, rfl, rfl, SqL.of (s7 _ _ hwl6), rfl, w5, rfl, (W5.same s6).same s7, fun f H8 s8 Sf ef af => ⟨z2, fun pl npl => ?_⟩⟩
  have s9 := same_new npl (.lst [V.ref e.x, V.ref f.x])
  have hpl9 : upd H8 pl (.lst [V.ref e.x, V.ref f.x]) pl = some (.lst [V.ref e.x, V.ref f.x]) := upd_same
  generalize upd H8 pl (.lst [V.ref e.x, V.ref f.x]) = H9 at s9 hpl9 ⊢
  have fe : ∀ b ∈ aA e, H b = none := fun b hb => (ae b hb).elim (fun z => s03.free (f4 b z)) fun z => ((s03.trans s4).trans (s5.trans s6)).free z
  have ff : ∀ b ∈ aA f, H b = none := fun b hb => (af b hb).elim (fun z => (s03.trans s4).free (f5 b z)) fun z => (((s03.trans s4).trans (s5.trans s6)).trans s7).free z
  have dj : ∀ b ∈ aA e, b ∉ aA f := fun b hb h2 => by
    rcases ae b hb with z | z
    · obtain ⟨o, e1⟩ := W4.all b z
      rcases af b h2 with y | y
      · rw [f5 b y] at e1; cases e1
      · rw [s7 _ _ (s6 _ _ (s5 _ _ e1))] at y; cases y
    · rcases af b h2 with y | y
      · obtain ⟨o, e1⟩ := W5.all b y
        rw [s6 _ _ e1] at z; cases z
      · obtain ⟨o, e1⟩ := Se.all b hb
        rw [e1] at y; cases y
  have we : wl ∉ aA e := fun z => by
    rcases ae _ z with y | y
    · obtain ⟨o, e1⟩ := W4.all _ y
      rw [s5 _ _ e1] at nwl; cases nwl
    · rw [hwl6] at y; cases y
  have wf : wl ∉ aA f := fun z => by
    rcases af _ z with y | y
    · obtain ⟨o, e1⟩ := W5.all _ y
      rw [e1] at nwl; cases nwl
    · rw [s7 _ _ hwl6] at y; cases y
  have pe : pl ∉ aA e := fun z => by
    obtain ⟨o, e1⟩ := Se.all _ z
    rw [s8 _ _ e1] at npl; cases npl
  have pf : pl ∉ aA f := fun z => by
    obtain ⟨o, e1⟩ := Sf.all _ z
    rw [e1] at npl; cases npl
  have T9 : Two cPrinter cStock cReady cJammed cAway H H9 wl pl [V.ref e.wo, V.ref f.wo] [V.ref e.x, V.ref f.x] e f := ⟨(((s03.trans s4).trans (s5.trans s6)).trans s7).trans (s8.trans s9), (Se.same s8).same s9, Sf.same s9, fe, ff, dj, by rw [ee, ef]; exact s9 _ _ (s8 _ _ (s7 _ _ hwl6)), hpl9, we, wf, pe, pf⟩
  clear Se Sf ae af fe ff dj we wf pe pf hpl9 hwl6 ee ef s9 s8 s7 s6 s5 s4
  refine ⟨_, rfl, by decide, by decide, for_range (lo := 0) (n := 12) (fun i σ G => ∃ (e f : E13) (v5 v6 v7 v8 : Option V), σ = [some (.ref a), some (.ref np), some (.ref sl), some (.ref wl), some (.ref pl), v5, v6, v7, v8] ∧ Two cPrinter cStock cReady cJammed cAway H G wl pl [V.ref e.wo, V.ref f.wo] [V.ref e.x, V.ref f.x] e f) ⟨e, f, _, _, _, _, rfl, T9⟩ (fun i σ G hi z => ?_) (fun σ G z => ?_)⟩
  · obtain ⟨e, f, v5, v6, v7, v8, rfl, T0⟩ := z
    have hS0 := hS.same T0.s
    refine ⟨_, rfl, _, rfl, _, _, rfl, rfl, a, _, _, rfl, hS0, by omega, by omega, by decide, fun j j0 j1 => ?_⟩
    refine ⟨_, rfl, _, rfl, _, _, rfl, rfl, a, _, _, rfl, hS0, by omega, by omega, by decide, fun y y0 y1 => ?_⟩
    rcases (show j = 0 ∨ j = 1 by omega) with rfl | rfl
    · refine ⟨_, rfl, _, _, rfl, rfl, _, rfl, ite2 (fun _ => ?_) (fun _ => ⟨_, rfl, _, _, rfl, rfl, _, rfl, ite2 (fun _ => ?_) (fun _ => ?_)⟩)⟩
      · refine ⟨_, rfl, _, rfl, _, _, rfl, rfl, .inl ⟨by decide, by decide⟩, _, _, rfl, rfl, _, rfl, _, rfl, pl, _, _, rfl, rfl, SqL.of T0.hp, by decide, by show (0 : Int) < 2; decide, fun v hv => ?_⟩
        obtain rfl := Option.some.inj hv
        refine ⟨_, rfl, _, rfl, wl, _, _, rfl, rfl, SqL.of T0.hw, by decide, by show (0 : Int) < 2; decide, fun v hv => ?_⟩
        obtain rfl := Option.some.inj hv
        refine ⟨a, _, e, rfl, hS0, by omega, by omega, T0.Se, fun e' G' S' C' => ?_⟩
        have T1 := T0.left S' C'
        obtain ⟨ex, ew⟩ := C'.eqs
        rw [← ex, ← ew] at T1
        refine ⟨_, rfl, true, rfl, iteF ⟨_, rfl, pl, _, 0, _, rfl, rfl, SqL.of T1.hp, rfl, _, rfl, wl, _, 0, _, rfl, rfl, SqL.of T1.hw, rfl, _, rfl, T1.Se, fun G2 s2 => ⟨true, rfl, iteF ?_⟩⟩⟩
        have T2 := T1.same s2
        refine ⟨_, rfl, pl, _, 1, _, rfl, rfl, SqL.of T2.hp, rfl, _, rfl, wl, _, 1, _, rfl, rfl, SqL.of T2.hw, rfl, _, rfl, T2.Sf, fun G3 s3 => ⟨true, rfl, iteF ?_⟩⟩
        exact ⟨_, _, _, _, _, _, rfl, T2.same s3⟩
      · refine ⟨_, rfl, _, rfl, _, _, rfl, rfl, .inl ⟨by decide, by decide⟩, _, _, rfl, rfl, _, rfl, _, rfl, pl, _, _, rfl, rfl, SqL.of T0.hp, by decide, by show (0 : Int) < 2; decide, fun v hv => ?_⟩
        obtain rfl := Option.some.inj hv
        refine ⟨_, rfl, _, rfl, wl, _, _, rfl, rfl, SqL.of T0.hw, by decide, by show (0 : Int) < 2; decide, fun v hv => ?_⟩
        obtain rfl := Option.some.inj hv
        refine ⟨a, _, e, rfl, hS0, by omega, by omega, T0.Se, fun e' G' S' C' => ?_⟩
        have T1 := T0.left S' C'
        obtain ⟨ex, ew⟩ := C'.eqs
        rw [← ex, ← ew] at T1
        refine ⟨_, rfl, true, rfl, iteF ⟨_, rfl, pl, _, 0, _, rfl, rfl, SqL.of T1.hp, rfl, _, rfl, wl, _, 0, _, rfl, rfl, SqL.of T1.hw, rfl, _, rfl, T1.Se, fun G2 s2 => ⟨true, rfl, iteF ?_⟩⟩⟩
        have T2 := T1.same s2
        refine ⟨_, rfl, pl, _, 1, _, rfl, rfl, SqL.of T2.hp, rfl, _, rfl, wl, _, 1, _, rfl, rfl, SqL.of T2.hw, rfl, _, rfl, T2.Sf, fun G3 s3 => ⟨true, rfl, iteF ?_⟩⟩
        exact ⟨_, _, _, _, _, _, rfl, T2.same s3⟩
      · refine ⟨_, rfl, _, rfl, _, _, rfl, rfl, .inl ⟨by decide, by decide⟩, _, _, rfl, rfl, _, rfl, _, rfl, pl, _, _, rfl, rfl, SqL.of T0.hp, by decide, by show (0 : Int) < 2; decide, fun v hv => ?_⟩
        obtain rfl := Option.some.inj hv
        refine ⟨_, rfl, _, rfl, wl, _, _, rfl, rfl, SqL.of T0.hw, by decide, by show (0 : Int) < 2; decide, fun v hv => ?_⟩
        obtain rfl := Option.some.inj hv
        refine ⟨a, _, e, rfl, hS0, by omega, by omega, T0.Se, fun e' G' S' C' => ?_⟩
        have T1 := T0.left S' C'
        obtain ⟨ex, ew⟩ := C'.eqs
        rw [← ex, ← ew] at T1
        refine ⟨_, rfl, true, rfl, iteF ⟨_, rfl, pl, _, 0, _, rfl, rfl, SqL.of T1.hp, rfl, _, rfl, wl, _, 0, _, rfl, rfl, SqL.of T1.hw, rfl, _, rfl, T1.Se, fun G2 s2 => ⟨true, rfl, iteF ?_⟩⟩⟩
        have T2 := T1.same s2
        refine ⟨_, rfl, pl, _, 1, _, rfl, rfl, SqL.of T2.hp, rfl, _, rfl, wl, _, 1, _, rfl, rfl, SqL.of T2.hw, rfl, _, rfl, T2.Sf, fun G3 s3 => ⟨true, rfl, iteF ?_⟩⟩
        exact ⟨_, _, _, _, _, _, rfl, T2.same s3⟩
    · refine ⟨_, rfl, _, _, rfl, rfl, _, rfl, ite2 (fun _ => ?_) (fun _ => ⟨_, rfl, _, _, rfl, rfl, _, rfl, ite2 (fun _ => ?_) (fun _ => ?_)⟩)⟩
      · refine ⟨_, rfl, _, rfl, _, _, rfl, rfl, .inl ⟨by decide, by decide⟩, _, _, rfl, rfl, _, rfl, _, rfl, pl, _, _, rfl, rfl, SqL.of T0.hp, by decide, by show (1 : Int) < 2; decide, fun v hv => ?_⟩
        obtain rfl := Option.some.inj hv
        refine ⟨_, rfl, _, rfl, wl, _, _, rfl, rfl, SqL.of T0.hw, by decide, by show (1 : Int) < 2; decide, fun v hv => ?_⟩
        obtain rfl := Option.some.inj hv
        refine ⟨a, _, f, rfl, hS0, by omega, by omega, T0.Sf, fun e' G' S' C' => ?_⟩
        have T1 := (T0.swap.left S' C').swap
        obtain ⟨ex, ew⟩ := C'.eqs
        rw [← ex, ← ew] at T1
        refine ⟨_, rfl, true, rfl, iteF ⟨_, rfl, pl, _, 0, _, rfl, rfl, SqL.of T1.hp, rfl, _, rfl, wl, _, 0, _, rfl, rfl, SqL.of T1.hw, rfl, _, rfl, T1.Se, fun G2 s2 => ⟨true, rfl, iteF ?_⟩⟩⟩
        have T2 := T1.same s2
        refine ⟨_, rfl, pl, _, 1, _, rfl, rfl, SqL.of T2.hp, rfl, _, rfl, wl, _, 1, _, rfl, rfl, SqL.of T2.hw, rfl, _, rfl, T2.Sf, fun G3 s3 => ⟨true, rfl, iteF ?_⟩⟩
        exact ⟨_, _, _, _, _, _, rfl, T2.same s3⟩
      · refine ⟨_, rfl, _, rfl, _, _, rfl, rfl, .inl ⟨by decide, by decide⟩, _, _, rfl, rfl, _, rfl, _, rfl, pl, _, _, rfl, rfl, SqL.of T0.hp, by decide, by show (1 : Int) < 2; decide, fun v hv => ?_⟩
        obtain rfl := Option.some.inj hv
        refine ⟨_, rfl, _, rfl, wl, _, _, rfl, rfl, SqL.of T0.hw, by decide, by show (1 : Int) < 2; decide, fun v hv => ?_⟩
        obtain rfl := Option.some.inj hv
        refine ⟨a, _, f, rfl, hS0, by omega, by omega, T0.Sf, fun e' G' S' C' => ?_⟩
        have T1 := (T0.swap.left S' C').swap
        obtain ⟨ex, ew⟩ := C'.eqs
        rw [← ex, ← ew] at T1
        refine ⟨_, rfl, true, rfl, iteF ⟨_, rfl, pl, _, 0, _, rfl, rfl, SqL.of T1.hp, rfl, _, rfl, wl, _, 0, _, rfl, rfl, SqL.of T1.hw, rfl, _, rfl, T1.Se, fun G2 s2 => ⟨true, rfl, iteF ?_⟩⟩⟩
        have T2 := T1.same s2
        refine ⟨_, rfl, pl, _, 1, _, rfl, rfl, SqL.of T2.hp, rfl, _, rfl, wl, _, 1, _, rfl, rfl, SqL.of T2.hw, rfl, _, rfl, T2.Sf, fun G3 s3 => ⟨true, rfl, iteF ?_⟩⟩
        exact ⟨_, _, _, _, _, _, rfl, T2.same s3⟩
      · refine ⟨_, rfl, _, rfl, _, _, rfl, rfl, .inl ⟨by decide, by decide⟩, _, _, rfl, rfl, _, rfl, _, rfl, pl, _, _, rfl, rfl, SqL.of T0.hp, by decide, by show (1 : Int) < 2; decide, fun v hv => ?_⟩
        obtain rfl := Option.some.inj hv
        refine ⟨_, rfl, _, rfl, wl, _, _, rfl, rfl, SqL.of T0.hw, by decide, by show (1 : Int) < 2; decide, fun v hv => ?_⟩
        obtain rfl := Option.some.inj hv
        refine ⟨a, _, f, rfl, hS0, by omega, by omega, T0.Sf, fun e' G' S' C' => ?_⟩
        have T1 := (T0.swap.left S' C').swap
        obtain ⟨ex, ew⟩ := C'.eqs
        rw [← ex, ← ew] at T1
        refine ⟨_, rfl, true, rfl, iteF ⟨_, rfl, pl, _, 0, _, rfl, rfl, SqL.of T1.hp, rfl, _, rfl, wl, _, 0, _, rfl, rfl, SqL.of T1.hw, rfl, _, rfl, T1.Se, fun G2 s2 => ⟨true, rfl, iteF ?_⟩⟩⟩
        have T2 := T1.same s2
        refine ⟨_, rfl, pl, _, 1, _, rfl, rfl, SqL.of T2.hp, rfl, _, rfl, wl, _, 1, _, rfl, rfl, SqL.of T2.hw, rfl, _, rfl, T2.Sf, fun G3 s3 => ⟨true, rfl, iteF ?_⟩⟩
        exact ⟨_, _, _, _, _, _, rfl, T2.same s3⟩
  · exact q _

end
end My

def PySem.W.Fast.tw15169481846060381833 : Nat := 0
def PySem.W.Fast.tw3971764585796965407 : Nat := 0
def PySem.W.Fast.tw15035813650393809843 : Nat := 0
def PySem.W.Fast.tw17656474744683294797 : Nat := 0
def PySem.W.Fast.tw4370525625478613616 : Nat := 0
def PySem.W.Fast.tw13294883080223082530 : Nat := 0
def PySem.W.Fast.tw3524265279062585527 : Nat := 0
def PySem.W.Fast.tw5226743351906992032 : Nat := 0
def PySem.W.Fast.tw10399722826371494994 : Nat := 0
def PySem.W.Fast.tw13623056012218319594 : Nat := 0
def PySem.W.Fast.tw12923912335374527476 : Nat := 0
def PySem.W.Fast.tw14061136972255612139 : Nat := 0
def PySem.W.Fast.tw14368533630809726029 : Nat := 0
def PySem.W.Fast.tw13173214105056925706 : Nat := 0
def PySem.W.Fast.tw11036035501014185559 : Nat := 0
def PySem.W.Fast.tw8180022193659807644 : Nat := 0
def PySem.W.Fast.tw10940942845027104506 : Nat := 0
def PySem.W.Fast.tw8025727710390023417 : Nat := 0
def PySem.W.Fast.tw2386059009723470738 : Nat := 0
def PySem.W.Fast.tw6931217920779682003 : Nat := 0
def PySem.W.Fast.tw9666459438281568869 : Nat := 0
def PySem.W.Fast.tw5760606677811192096 : Nat := 0
def PySem.W.Fast.tw1948120598183643883 : Nat := 0
def PySem.W.Fast.tw8123145122802494298 : Nat := 0
def PySem.W.Fast.tw1318019951716246057 : Nat := 0
def PySem.W.Fast.tw3793528503155673525 : Nat := 0
def PySem.W.Fast.tw13938800520255200150 : Nat := 0
namespace My
open PySem L2
theorem all_mk {l : PySem.W.OpenLaw} {w : World} {K : PySem.W.Frag} {h : Heap} {mg : Str → Option Value} {fa cState cReady cJammed cAway cStock cPrinter cBadLine cBusy cDry cGoesRound cNoHeap cNoPrinter cNotNow cNoWay cNowhere cOver cTooMuch cTwice cUnknown cHallError f0 f1 f2 f3 f4 f5 f6 f7 f8 f9 f10 f11 f12 f13 f14 f15 f16 f17 f18 f19 f20 f21 f22 f23 f24 f25 f26 f27 f28 f29 f30 f31 f32 f33 f34 f35 f36 f37 f38 f39 f40 f41 f42 f43 f44 f45 f46 f47 f48 f49 f50 f51 f52 : Addr} (X : K.In h) (G : h.Ns mainGlobals mg) (hfa : mg "law" = some (.ref fa))
    {od0 an0 od1 an1 od2 an2 od3 an3 od4 an4 od5 an5 od6 an6 od7 an7 od8 an8 od9 an9 od10 an10 od11 an11 od12 an12 od13 an13 od14 an14 od15 an15 od16 an16 od17 an17 od18 an18 od19 an19 od20 an20 od21 an21 od22 an22 od23 an23 od24 an24 od25 an25 od26 an26 od27 an27 od28 an28 od29 an29 od30 an30 od31 an31 od32 an32 od33 an33 od34 an34 od35 an35 od36 an36 od37 an37 od38 an38 od39 an39 od40 an40 od41 an41 od42 an42 od43 an43 od44 an44 od45 an45 od46 an46 od47 an47 od48 an48 od49 an49 od50 an50 od51 an51 od52 an52 : Option Addr} {sl0 sl1 sl2 sl3 sl4 sl5 sl6 sl7 sl8 sl9 sl10 sl11 sl12 sl13 sl14 sl15 sl16 sl17 sl18 sl19 sl20 sl21 sl22 sl23 sl24 sl25 sl26 sl27 sl28 sl29 sl30 sl31 sl32 sl33 sl34 sl35 sl36 sl37 sl38 sl39 sl40 sl41 sl42 sl43 sl44 sl45 sl46 sl47 sl48 sl49 sl50 sl51 sl52 : Array (Option Value)}
    {oc0 kV0 dc0 pm0 cd0 ct0 oc1 kV1 dc1 pm1 cd1 ct1 oc2 kV2 dc2 pm2 cd2 ct2 oc3 kV3 dc3 pm3 cd3 ct3 oc4 kV4 dc4 pm4 cd4 ct4 oc5 kV5 dc5 pm5 cd5 ct5 oc6 kV6 dc6 pm6 cd6 ct6 oc7 kV7 dc7 pm7 cd7 ct7 oc8 kV8 dc8 pm8 cd8 ct8 oc9 kV9 dc9 pm9 cd9 ct9 oc10 kV10 dc10 pm10 cd10 ct10 oc11 kV11 dc11 pm11 cd11 ct11 oc12 kV12 dc12 pm12 cd12 ct12 oc13 kV13 dc13 pm13 cd13 ct13 oc14 kV14 dc14 pm14 cd14 ct14 oc15 kV15 dc15 pm15 cd15 ct15 oc16 kV16 dc16 pm16 cd16 ct16 oc17 kV17 dc17 pm17 cd17 ct17 oc18 kV18 dc18 pm18 cd18 ct18 oc19 kV19 dc19 pm19 cd19 ct19 oc20 kV20 dc20 pm20 cd20 ct20 oc21 kV21 dc21 pm21 cd21 ct21 oc22 kV22 dc22 pm22 cd22 ct22 oc23 kV23 dc23 pm23 cd23 ct23 oc24 kV24 dc24 pm24 cd24 ct24 oc25 kV25 dc25 pm25 cd25 ct25 oc26 kV26 dc26 pm26 cd26 ct26 oc27 kV27 dc27 pm27 cd27 ct27 oc28 kV28 dc28 pm28 cd28 ct28 oc29 kV29 dc29 pm29 cd29 ct29 oc30 kV30 dc30 pm30 cd30 ct30 oc31 kV31 dc31 pm31 cd31 ct31 oc32 kV32 dc32 pm32 cd32 ct32 oc33 kV33 dc33 pm33 cd33 ct33 oc34 kV34 dc34 pm34 cd34 ct34 oc35 kV35 dc35 pm35 cd35 ct35 oc36 kV36 dc36 pm36 cd36 ct36 oc37 kV37 dc37 pm37 cd37 ct37 oc38 kV38 dc38 pm38 cd38 ct38 oc39 kV39 dc39 pm39 cd39 ct39 oc40 kV40 dc40 pm40 cd40 ct40 oc41 kV41 dc41 pm41 cd41 ct41 oc42 kV42 dc42 pm42 cd42 ct42 oc43 kV43 dc43 pm43 cd43 ct43 oc44 kV44 dc44 pm44 cd44 ct44 oc45 kV45 dc45 pm45 cd45 ct45 oc46 kV46 dc46 pm46 cd46 ct46 oc47 kV47 dc47 pm47 cd47 ct47 oc48 kV48 dc48 pm48 cd48 ct48 oc49 kV49 dc49 pm49 cd49 ct49 oc50 kV50 dc50 pm50 cd50 ct50 oc51 kV51 dc51 pm51 cd51 ct51 oc52 kV52 dc52 pm52 cd52 ct52 : Value}
    (aC_State : PySem.W.nsIn K mainGlobals "State" = some (some (.ref cState)))
    (aC_Ready : PySem.W.nsIn K mainGlobals "Ready" = some (some (.ref cReady)))
    (aC_Jammed : PySem.W.nsIn K mainGlobals "Jammed" = some (some (.ref cJammed)))
    (aC_Away : PySem.W.nsIn K mainGlobals "Away" = some (some (.ref cAway)))
    (aC_Stock : PySem.W.nsIn K mainGlobals "Stock" = some (some (.ref cStock)))
    (aC_Printer : PySem.W.nsIn K mainGlobals "Printer" = some (some (.ref cPrinter)))
    (aC_BadLine : PySem.W.nsIn K mainGlobals "BadLine" = some (some (.ref cBadLine)))
    (aC_Busy : PySem.W.nsIn K mainGlobals "Busy" = some (some (.ref cBusy)))
    (aC_Dry : PySem.W.nsIn K mainGlobals "Dry" = some (some (.ref cDry)))
    (aC_GoesRound : PySem.W.nsIn K mainGlobals "GoesRound" = some (some (.ref cGoesRound)))
    (aC_NoHeap : PySem.W.nsIn K mainGlobals "NoHeap" = some (some (.ref cNoHeap)))
    (aC_NoPrinter : PySem.W.nsIn K mainGlobals "NoPrinter" = some (some (.ref cNoPrinter)))
    (aC_NotNow : PySem.W.nsIn K mainGlobals "NotNow" = some (some (.ref cNotNow)))
    (aC_NoWay : PySem.W.nsIn K mainGlobals "NoWay" = some (some (.ref cNoWay)))
    (aC_Nowhere : PySem.W.nsIn K mainGlobals "Nowhere" = some (some (.ref cNowhere)))
    (aC_Over : PySem.W.nsIn K mainGlobals "Over" = some (some (.ref cOver)))
    (aC_TooMuch : PySem.W.nsIn K mainGlobals "TooMuch" = some (some (.ref cTooMuch)))
    (aC_Twice : PySem.W.nsIn K mainGlobals "Twice" = some (some (.ref cTwice)))
    (aC_Unknown : PySem.W.nsIn K mainGlobals "Unknown" = some (some (.ref cUnknown)))
    (aC_HallError : PySem.W.nsIn K mainGlobals "HallError" = some (some (.ref cHallError)))
    (a0 : PySem.W.findIn K (.ref cUnknown) "__init__" = some (some (.ref f0)))
    (i0 : PySem.W.isFn K (.ref f0) = true)
    (l0 : K.lookup f0 = some ⟨oc0, od0, .func (PySem.W.fnOf "__init__" "Unknown.__init__" (defArgs s_Unknown_init) (defBody s_Unknown_init) (defScope s_Unknown_init) .none kV0 dc0 pm0 an0 cd0 ct0), sl0⟩)
    (c0 : PySem.W.codeIn K cd0 "Unknown.__init__" = true)
    (k0 : PySem.W.keepIn K (.ref f0) = true)
    (a1 : PySem.W.findIn K (.ref cNotNow) "__init__" = some (some (.ref f1)))
    (i1 : PySem.W.isFn K (.ref f1) = true)
    (l1 : K.lookup f1 = some ⟨oc1, od1, .func (PySem.W.fnOf "__init__" "NotNow.__init__" (defArgs s_NotNow_init) (defBody s_NotNow_init) (defScope s_NotNow_init) .none kV1 dc1 pm1 an1 cd1 ct1), sl1⟩)
    (c1 : PySem.W.codeIn K cd1 "NotNow.__init__" = true)
    (k1 : PySem.W.keepIn K (.ref f1) = true)
    (a2 : PySem.W.findIn K (.ref cTooMuch) "__init__" = some (some (.ref f2)))
    (i2 : PySem.W.isFn K (.ref f2) = true)
    (l2 : K.lookup f2 = some ⟨oc2, od2, .func (PySem.W.fnOf "__init__" "TooMuch.__init__" (defArgs s_TooMuch_init) (defBody s_TooMuch_init) (defScope s_TooMuch_init) .none kV2 dc2 pm2 an2 cd2 ct2), sl2⟩)
    (c2 : PySem.W.codeIn K cd2 "TooMuch.__init__" = true)
    (k2 : PySem.W.keepIn K (.ref f2) = true)
    (a3 : PySem.W.findIn K (.ref cState) "__init__" = some (some (.ref f3)))
    (i3 : PySem.W.isFn K (.ref f3) = true)
    (l3 : K.lookup f3 = some ⟨oc3, od3, .func (PySem.W.fnOf "__init__" "State.__init__" (defArgs s_State_init) (defBody s_State_init) (defScope s_State_init) .none kV3 dc3 pm3 an3 cd3 ct3), sl3⟩)
    (c3 : PySem.W.codeIn K cd3 "State.__init__" = true)
    (k3 : PySem.W.keepIn K (.ref f3) = true)
    (a4 : PySem.W.findIn K (.ref cState) "called" = some (some (.ref f4)))
    (i4 : PySem.W.isFn K (.ref f4) = true)
    (l4 : K.lookup f4 = some ⟨oc4, od4, .func (PySem.W.fnOf "called" "State.called" (defArgs s_State_called) (defBody s_State_called) (defScope s_State_called) .none kV4 dc4 pm4 an4 cd4 ct4), sl4⟩)
    (c4 : PySem.W.codeIn K cd4 "State.called" = true)
    (k4 : PySem.W.keepIn K (.ref f4) = true)
    (a5 : PySem.W.findIn K (.ref cState) "jam" = some (some (.ref f5)))
    (i5 : PySem.W.isFn K (.ref f5) = true)
    (l5 : K.lookup f5 = some ⟨oc5, od5, .func (PySem.W.fnOf "jam" "State.jam" (defArgs s_State_jam) (defBody s_State_jam) (defScope s_State_jam) .none kV5 dc5 pm5 an5 cd5 ct5), sl5⟩)
    (c5 : PySem.W.codeIn K cd5 "State.jam" = true)
    (k5 : PySem.W.keepIn K (.ref f5) = true)
    (a6 : PySem.W.findIn K (.ref cState) "mend" = some (some (.ref f6)))
    (i6 : PySem.W.isFn K (.ref f6) = true)
    (l6 : K.lookup f6 = some ⟨oc6, od6, .func (PySem.W.fnOf "mend" "State.mend" (defArgs s_State_mend) (defBody s_State_mend) (defScope s_State_mend) .none kV6 dc6 pm6 an6 cd6 ct6), sl6⟩)
    (c6 : PySem.W.codeIn K cd6 "State.mend" = true)
    (k6 : PySem.W.keepIn K (.ref f6) = true)
    (a7 : PySem.W.findIn K (.ref cState) "leave" = some (some (.ref f7)))
    (i7 : PySem.W.isFn K (.ref f7) = true)
    (l7 : K.lookup f7 = some ⟨oc7, od7, .func (PySem.W.fnOf "leave" "State.leave" (defArgs s_State_leave) (defBody s_State_leave) (defScope s_State_leave) .none kV7 dc7 pm7 an7 cd7 ct7), sl7⟩)
    (c7 : PySem.W.codeIn K cd7 "State.leave" = true)
    (k7 : PySem.W.keepIn K (.ref f7) = true)
    (a8 : PySem.W.findIn K (.ref cState) "come" = some (some (.ref f8)))
    (i8 : PySem.W.isFn K (.ref f8) = true)
    (l8 : K.lookup f8 = some ⟨oc8, od8, .func (PySem.W.fnOf "come" "State.come" (defArgs s_State_come) (defBody s_State_come) (defScope s_State_come) .none kV8 dc8 pm8 an8 cd8 ct8), sl8⟩)
    (c8 : PySem.W.codeIn K cd8 "State.come" = true)
    (k8 : PySem.W.keepIn K (.ref f8) = true)
    (a9 : PySem.W.findIn K (.ref cReady) "__init__" = some (some (.ref f9)))
    (i9 : PySem.W.isFn K (.ref f9) = true)
    (l9 : K.lookup f9 = some ⟨oc9, od9, .func (PySem.W.fnOf "__init__" "Ready.__init__" (defArgs s_Ready_init) (defBody s_Ready_init) (defScope s_Ready_init) .none kV9 dc9 pm9 an9 cd9 ct9), sl9⟩)
    (c9 : PySem.W.codeIn K cd9 "Ready.__init__" = true)
    (k9 : PySem.W.keepIn K (.ref f9) = true)
    (a10 : PySem.W.findIn K (.ref cReady) "jam" = some (some (.ref f10)))
    (i10 : PySem.W.isFn K (.ref f10) = true)
    (l10 : K.lookup f10 = some ⟨oc10, od10, .func (PySem.W.fnOf "jam" "Ready.jam" (defArgs s_Ready_jam) (defBody s_Ready_jam) (defScope s_Ready_jam) .none kV10 dc10 pm10 an10 cd10 ct10), sl10⟩)
    (c10 : PySem.W.codeIn K cd10 "Ready.jam" = true)
    (k10 : PySem.W.keepIn K (.ref f10) = true)
    (a11 : PySem.W.findIn K (.ref cReady) "leave" = some (some (.ref f11)))
    (i11 : PySem.W.isFn K (.ref f11) = true)
    (l11 : K.lookup f11 = some ⟨oc11, od11, .func (PySem.W.fnOf "leave" "Ready.leave" (defArgs s_Ready_leave) (defBody s_Ready_leave) (defScope s_Ready_leave) .none kV11 dc11 pm11 an11 cd11 ct11), sl11⟩)
    (c11 : PySem.W.codeIn K cd11 "Ready.leave" = true)
    (k11 : PySem.W.keepIn K (.ref f11) = true)
    (a12 : PySem.W.findIn K (.ref cJammed) "__init__" = some (some (.ref f12)))
    (i12 : PySem.W.isFn K (.ref f12) = true)
    (l12 : K.lookup f12 = some ⟨oc12, od12, .func (PySem.W.fnOf "__init__" "Jammed.__init__" (defArgs s_Jammed_init) (defBody s_Jammed_init) (defScope s_Jammed_init) .none kV12 dc12 pm12 an12 cd12 ct12), sl12⟩)
    (c12 : PySem.W.codeIn K cd12 "Jammed.__init__" = true)
    (k12 : PySem.W.keepIn K (.ref f12) = true)
    (a13 : PySem.W.findIn K (.ref cJammed) "mend" = some (some (.ref f13)))
    (i13 : PySem.W.isFn K (.ref f13) = true)
    (l13 : K.lookup f13 = some ⟨oc13, od13, .func (PySem.W.fnOf "mend" "Jammed.mend" (defArgs s_Jammed_mend) (defBody s_Jammed_mend) (defScope s_Jammed_mend) .none kV13 dc13 pm13 an13 cd13 ct13), sl13⟩)
    (c13 : PySem.W.codeIn K cd13 "Jammed.mend" = true)
    (k13 : PySem.W.keepIn K (.ref f13) = true)
    (a14 : PySem.W.findIn K (.ref cJammed) "leave" = some (some (.ref f14)))
    (i14 : PySem.W.isFn K (.ref f14) = true)
    (l14 : K.lookup f14 = some ⟨oc14, od14, .func (PySem.W.fnOf "leave" "Jammed.leave" (defArgs s_Jammed_leave) (defBody s_Jammed_leave) (defScope s_Jammed_leave) .none kV14 dc14 pm14 an14 cd14 ct14), sl14⟩)
    (c14 : PySem.W.codeIn K cd14 "Jammed.leave" = true)
    (k14 : PySem.W.keepIn K (.ref f14) = true)
    (a15 : PySem.W.findIn K (.ref cAway) "__init__" = some (some (.ref f15)))
    (i15 : PySem.W.isFn K (.ref f15) = true)
    (l15 : K.lookup f15 = some ⟨oc15, od15, .func (PySem.W.fnOf "__init__" "Away.__init__" (defArgs s_Away_init) (defBody s_Away_init) (defScope s_Away_init) .none kV15 dc15 pm15 an15 cd15 ct15), sl15⟩)
    (c15 : PySem.W.codeIn K cd15 "Away.__init__" = true)
    (k15 : PySem.W.keepIn K (.ref f15) = true)
    (a16 : PySem.W.findIn K (.ref cAway) "come" = some (some (.ref f16)))
    (i16 : PySem.W.isFn K (.ref f16) = true)
    (l16 : K.lookup f16 = some ⟨oc16, od16, .func (PySem.W.fnOf "come" "Away.come" (defArgs s_Away_come) (defBody s_Away_come) (defScope s_Away_come) .none kV16 dc16 pm16 an16 cd16 ct16), sl16⟩)
    (c16 : PySem.W.codeIn K cd16 "Away.come" = true)
    (k16 : PySem.W.keepIn K (.ref f16) = true)
    (a17 : PySem.W.findIn K (.ref cStock) "__init__" = some (some (.ref f17)))
    (i17 : PySem.W.isFn K (.ref f17) = true)
    (l17 : K.lookup f17 = some ⟨oc17, od17, .func (PySem.W.fnOf "__init__" "Stock.__init__" (defArgs s_Stock_init) (defBody s_Stock_init) (defScope s_Stock_init) .none kV17 dc17 pm17 an17 cd17 ct17), sl17⟩)
    (c17 : PySem.W.codeIn K cd17 "Stock.__init__" = true)
    (k17 : PySem.W.keepIn K (.ref f17) = true)
    (a18 : PySem.W.findIn K (.ref cStock) "held" = some (some (.ref f18)))
    (i18 : PySem.W.isFn K (.ref f18) = true)
    (l18 : K.lookup f18 = some ⟨oc18, od18, .func (PySem.W.fnOf "held" "Stock.held" (defArgs s_Stock_held) (defBody s_Stock_held) (defScope s_Stock_held) .none kV18 dc18 pm18 an18 cd18 ct18), sl18⟩)
    (c18 : PySem.W.codeIn K cd18 "Stock.held" = true)
    (k18 : PySem.W.keepIn K (.ref f18) = true)
    (a19 : PySem.W.findIn K (.ref cStock) "room" = some (some (.ref f19)))
    (i19 : PySem.W.isFn K (.ref f19) = true)
    (l19 : K.lookup f19 = some ⟨oc19, od19, .func (PySem.W.fnOf "room" "Stock.room" (defArgs s_Stock_room) (defBody s_Stock_room) (defScope s_Stock_room) .none kV19 dc19 pm19 an19 cd19 ct19), sl19⟩)
    (c19 : PySem.W.codeIn K cd19 "Stock.room" = true)
    (k19 : PySem.W.keepIn K (.ref f19) = true)
    (a20 : PySem.W.findIn K (.ref cStock) "know" = some (some (.ref f20)))
    (i20 : PySem.W.isFn K (.ref f20) = true)
    (l20 : K.lookup f20 = some ⟨oc20, od20, .func (PySem.W.fnOf "know" "Stock.know" (defArgs s_Stock_know) (defBody s_Stock_know) (defScope s_Stock_know) .none kV20 dc20 pm20 an20 cd20 ct20), sl20⟩)
    (c20 : PySem.W.codeIn K cd20 "Stock.know" = true)
    (k20 : PySem.W.keepIn K (.ref f20) = true)
    (a21 : PySem.W.findIn K (.ref cStock) "know_all" = some (some (.ref f21)))
    (i21 : PySem.W.isFn K (.ref f21) = true)
    (l21 : K.lookup f21 = some ⟨oc21, od21, .func (PySem.W.fnOf "know_all" "Stock.know_all" (defArgs s_Stock_know_all) (defBody s_Stock_know_all) (defScope s_Stock_know_all) .none kV21 dc21 pm21 an21 cd21 ct21), sl21⟩)
    (c21 : PySem.W.codeIn K cd21 "Stock.know_all" = true)
    (k21 : PySem.W.keepIn K (.ref f21) = true)
    (a22 : PySem.W.findIn K (.ref cStock) "put" = some (some (.ref f22)))
    (i22 : PySem.W.isFn K (.ref f22) = true)
    (l22 : K.lookup f22 = some ⟨oc22, od22, .func (PySem.W.fnOf "put" "Stock.put" (defArgs s_Stock_put) (defBody s_Stock_put) (defScope s_Stock_put) .none kV22 dc22 pm22 an22 cd22 ct22), sl22⟩)
    (c22 : PySem.W.codeIn K cd22 "Stock.put" = true)
    (k22 : PySem.W.keepIn K (.ref f22) = true)
    (a23 : PySem.W.findIn K (.ref cStock) "put_all" = some (some (.ref f23)))
    (i23 : PySem.W.isFn K (.ref f23) = true)
    (l23 : K.lookup f23 = some ⟨oc23, od23, .func (PySem.W.fnOf "put_all" "Stock.put_all" (defArgs s_Stock_put_all) (defBody s_Stock_put_all) (defScope s_Stock_put_all) .none kV23 dc23 pm23 an23 cd23 ct23), sl23⟩)
    (c23 : PySem.W.codeIn K cd23 "Stock.put_all" = true)
    (k23 : PySem.W.keepIn K (.ref f23) = true)
    (a24 : PySem.W.findIn K (.ref cPrinter) "__init__" = some (some (.ref f24)))
    (i24 : PySem.W.isFn K (.ref f24) = true)
    (l24 : K.lookup f24 = some ⟨oc24, od24, .func (PySem.W.fnOf "__init__" "Printer.__init__" (defArgs s_Printer_init) (defBody s_Printer_init) (defScope s_Printer_init) .none kV24 dc24 pm24 an24 cd24 ct24), sl24⟩)
    (c24 : PySem.W.codeIn K cd24 "Printer.__init__" = true)
    (k24 : PySem.W.keepIn K (.ref f24) = true)
    (a25 : PySem.W.findIn K (.ref cPrinter) "stands" = some (some (.ref f25)))
    (i25 : PySem.W.isFn K (.ref f25) = true)
    (l25 : K.lookup f25 = some ⟨oc25, od25, .func (PySem.W.fnOf "stands" "Printer.stands" (defArgs s_Printer_stands) (defBody s_Printer_stands) (defScope s_Printer_stands) .none kV25 dc25 pm25 an25 cd25 ct25), sl25⟩)
    (c25 : PySem.W.codeIn K cd25 "Printer.stands" = true)
    (k25 : PySem.W.keepIn K (.ref f25) = true)
    (a26 : PySem.W.findIn K (.ref cPrinter) "papers" = some (some (.ref f26)))
    (i26 : PySem.W.isFn K (.ref f26) = true)
    (l26 : K.lookup f26 = some ⟨oc26, od26, .func (PySem.W.fnOf "papers" "Printer.papers" (defArgs s_Printer_papers) (defBody s_Printer_papers) (defScope s_Printer_papers) .none kV26 dc26 pm26 an26 cd26 ct26), sl26⟩)
    (c26 : PySem.W.codeIn K cd26 "Printer.papers" = true)
    (k26 : PySem.W.keepIn K (.ref f26) = true)
    (a27 : PySem.W.findIn K (.ref cPrinter) "paper_left" = some (some (.ref f27)))
    (i27 : PySem.W.isFn K (.ref f27) = true)
    (l27 : K.lookup f27 = some ⟨oc27, od27, .func (PySem.W.fnOf "paper_left" "Printer.paper_left" (defArgs s_Printer_paper_left) (defBody s_Printer_paper_left) (defScope s_Printer_paper_left) .none kV27 dc27 pm27 an27 cd27 ct27), sl27⟩)
    (c27 : PySem.W.codeIn K cd27 "Printer.paper_left" = true)
    (k27 : PySem.W.keepIn K (.ref f27) = true)
    (a28 : PySem.W.findIn K (.ref cPrinter) "ink_left" = some (some (.ref f28)))
    (i28 : PySem.W.isFn K (.ref f28) = true)
    (l28 : K.lookup f28 = some ⟨oc28, od28, .func (PySem.W.fnOf "ink_left" "Printer.ink_left" (defArgs s_Printer_ink_left) (defBody s_Printer_ink_left) (defScope s_Printer_ink_left) .none kV28 dc28 pm28 an28 cd28 ct28), sl28⟩)
    (c28 : PySem.W.codeIn K cd28 "Printer.ink_left" = true)
    (k28 : PySem.W.keepIn K (.ref f28) = true)
    (a29 : PySem.W.findIn K (.ref cPrinter) "within" = some (some (.ref f29)))
    (i29 : PySem.W.isFn K (.ref f29) = true)
    (l29 : K.lookup f29 = some ⟨oc29, od29, .func (PySem.W.fnOf "within" "Printer.within" (defArgs s_Printer_within) (defBody s_Printer_within) (defScope s_Printer_within) .none kV29 dc29 pm29 an29 cd29 ct29), sl29⟩)
    (c29 : PySem.W.codeIn K cd29 "Printer.within" = true)
    (k29 : PySem.W.keepIn K (.ref f29) = true)
    (a30 : PySem.W.findIn K (.ref cPrinter) "load" = some (some (.ref f30)))
    (i30 : PySem.W.isFn K (.ref f30) = true)
    (l30 : K.lookup f30 = some ⟨oc30, od30, .func (PySem.W.fnOf "load" "Printer.load" (defArgs s_Printer_load) (defBody s_Printer_load) (defScope s_Printer_load) .none kV30 dc30 pm30 an30 cd30 ct30), sl30⟩)
    (c30 : PySem.W.codeIn K cd30 "Printer.load" = true)
    (k30 : PySem.W.keepIn K (.ref f30) = true)
    (a31 : PySem.W.findIn K (.ref cPrinter) "fill" = some (some (.ref f31)))
    (i31 : PySem.W.isFn K (.ref f31) = true)
    (l31 : K.lookup f31 = some ⟨oc31, od31, .func (PySem.W.fnOf "fill" "Printer.fill" (defArgs s_Printer_fill) (defBody s_Printer_fill) (defScope s_Printer_fill) .none kV31 dc31 pm31 an31 cd31 ct31), sl31⟩)
    (c31 : PySem.W.codeIn K cd31 "Printer.fill" = true)
    (k31 : PySem.W.keepIn K (.ref f31) = true)
    (a32 : PySem.W.findIn K (.ref cPrinter) "oldest" = some (some (.ref f32)))
    (i32 : PySem.W.isFn K (.ref f32) = true)
    (l32 : K.lookup f32 = some ⟨oc32, od32, .func (PySem.W.fnOf "oldest" "Printer.oldest" (defArgs s_Printer_oldest) (defBody s_Printer_oldest) (defScope s_Printer_oldest) .none kV32 dc32 pm32 an32 cd32 ct32), sl32⟩)
    (c32 : PySem.W.codeIn K cd32 "Printer.oldest" = true)
    (k32 : PySem.W.keepIn K (.ref f32) = true)
    (a33 : PySem.W.findIn K (.ref cPrinter) "jam" = some (some (.ref f33)))
    (i33 : PySem.W.isFn K (.ref f33) = true)
    (l33 : K.lookup f33 = some ⟨oc33, od33, .func (PySem.W.fnOf "jam" "Printer.jam" (defArgs s_Printer_jam) (defBody s_Printer_jam) (defScope s_Printer_jam) .none kV33 dc33 pm33 an33 cd33 ct33), sl33⟩)
    (c33 : PySem.W.codeIn K cd33 "Printer.jam" = true)
    (k33 : PySem.W.keepIn K (.ref f33) = true)
    (a34 : PySem.W.findIn K (.ref cPrinter) "leave" = some (some (.ref f34)))
    (i34 : PySem.W.isFn K (.ref f34) = true)
    (l34 : K.lookup f34 = some ⟨oc34, od34, .func (PySem.W.fnOf "leave" "Printer.leave" (defArgs s_Printer_leave) (defBody s_Printer_leave) (defScope s_Printer_leave) .none kV34 dc34 pm34 an34 cd34 ct34), sl34⟩)
    (c34 : PySem.W.codeIn K cd34 "Printer.leave" = true)
    (k34 : PySem.W.keepIn K (.ref f34) = true)
    (a35 : PySem.W.findIn K (.ref cPrinter) "mend" = some (some (.ref f35)))
    (i35 : PySem.W.isFn K (.ref f35) = true)
    (l35 : K.lookup f35 = some ⟨oc35, od35, .func (PySem.W.fnOf "mend" "Printer.mend" (defArgs s_Printer_mend) (defBody s_Printer_mend) (defScope s_Printer_mend) .none kV35 dc35 pm35 an35 cd35 ct35), sl35⟩)
    (c35 : PySem.W.codeIn K cd35 "Printer.mend" = true)
    (k35 : PySem.W.keepIn K (.ref f35) = true)
    (a36 : PySem.W.findIn K (.ref cPrinter) "come" = some (some (.ref f36)))
    (i36 : PySem.W.isFn K (.ref f36) = true)
    (l36 : K.lookup f36 = some ⟨oc36, od36, .func (PySem.W.fnOf "come" "Printer.come" (defArgs s_Printer_come) (defBody s_Printer_come) (defScope s_Printer_come) .none kV36 dc36 pm36 an36 cd36 ct36), sl36⟩)
    (c36 : PySem.W.codeIn K cd36 "Printer.come" = true)
    (k36 : PySem.W.keepIn K (.ref f36) = true)
    (a37 : PySem.W.nsIn K mainGlobals "_law_cell_at" = some (some (.ref f37)))
    (l37 : K.lookup f37 = some ⟨oc37, od37, .func (PySem.W.fnOf "_law_cell_at" "_law_cell_at" (defArgs s__law_cell_at) (defBody s__law_cell_at) (defScope s__law_cell_at) .none kV37 dc37 pm37 an37 cd37 ct37), sl37⟩)
    (c37 : PySem.W.codeIn K cd37 "_law_cell_at" = true)
    (k37 : PySem.W.keepIn K (.ref f37) = true)
    (a38 : PySem.W.nsIn K mainGlobals "_law_by" = some (some (.ref f38)))
    (l38 : K.lookup f38 = some ⟨oc38, od38, .func (PySem.W.fnOf "_law_by" "_law_by" (defArgs s__law_by) (defBody s__law_by) (defScope s__law_by) .none kV38 dc38 pm38 an38 cd38 ct38), sl38⟩)
    (c38 : PySem.W.codeIn K cd38 "_law_by" = true)
    (k38 : PySem.W.keepIn K (.ref f38) = true)
    (a39 : PySem.W.nsIn K mainGlobals "_law_names" = some (some (.ref f39)))
    (l39 : K.lookup f39 = some ⟨oc39, od39, .func (PySem.W.fnOf "_law_names" "_law_names" (defArgs s__law_names) (defBody s__law_names) (defScope s__law_names) .none kV39 dc39 pm39 an39 cd39 ct39), sl39⟩)
    (c39 : PySem.W.codeIn K cd39 "_law_names" = true)
    (k39 : PySem.W.keepIn K (.ref f39) = true)
    (a40 : PySem.W.nsIn K mainGlobals "_law_apart" = some (some (.ref f40)))
    (l40 : K.lookup f40 = some ⟨oc40, od40, .func (PySem.W.fnOf "_law_apart" "_law_apart" (defArgs s__law_apart) (defBody s__law_apart) (defScope s__law_apart) .none kV40 dc40 pm40 an40 cd40 ct40), sl40⟩)
    (c40 : PySem.W.codeIn K cd40 "_law_apart" = true)
    (k40 : PySem.W.keepIn K (.ref f40) = true)
    (a41 : PySem.W.nsIn K mainGlobals "_law_which" = some (some (.ref f41)))
    (l41 : K.lookup f41 = some ⟨oc41, od41, .func (PySem.W.fnOf "_law_which" "_law_which" (defArgs s__law_which) (defBody s__law_which) (defScope s__law_which) .none kV41 dc41 pm41 an41 cd41 ct41), sl41⟩)
    (c41 : PySem.W.codeIn K cd41 "_law_which" = true)
    (k41 : PySem.W.keepIn K (.ref f41) = true)
    (a42 : PySem.W.nsIn K mainGlobals "_law_room" = some (some (.ref f42)))
    (l42 : K.lookup f42 = some ⟨oc42, od42, .func (PySem.W.fnOf "_law_room" "_law_room" (defArgs s__law_room) (defBody s__law_room) (defScope s__law_room) .none kV42 dc42 pm42 an42 cd42 ct42), sl42⟩)
    (c42 : PySem.W.codeIn K cd42 "_law_room" = true)
    (k42 : PySem.W.keepIn K (.ref f42) = true)
    (a43 : PySem.W.nsIn K mainGlobals "_law_world" = some (some (.ref f43)))
    (l43 : K.lookup f43 = some ⟨oc43, od43, .func (PySem.W.fnOf "_law_world" "_law_world" (defArgs s__law_world) (defBody s__law_world) (defScope s__law_world) .none kV43 dc43 pm43 an43 cd43 ct43), sl43⟩)
    (c43 : PySem.W.codeIn K cd43 "_law_world" = true)
    (k43 : PySem.W.keepIn K (.ref f43) = true)
    (a44 : PySem.W.nsIn K mainGlobals "_law_made" = some (some (.ref f44)))
    (l44 : K.lookup f44 = some ⟨oc44, od44, .func (PySem.W.fnOf "_law_made" "_law_made" (defArgs s__law_made) (defBody s__law_made) (defScope s__law_made) .none kV44 dc44 pm44 an44 cd44 ct44), sl44⟩)
    (c44 : PySem.W.codeIn K cd44 "_law_made" = true)
    (k44 : PySem.W.keepIn K (.ref f44) = true)
    (a45 : PySem.W.nsIn K mainGlobals "_law_wholes" = some (some (.ref f45)))
    (l45 : K.lookup f45 = some ⟨oc45, od45, .func (PySem.W.fnOf "_law_wholes" "_law_wholes" (defArgs s__law_wholes) (defBody s__law_wholes) (defScope s__law_wholes) .none kV45 dc45 pm45 an45 cd45 ct45), sl45⟩)
    (c45 : PySem.W.codeIn K cd45 "_law_wholes" = true)
    (k45 : PySem.W.keepIn K (.ref f45) = true)
    (a46 : PySem.W.nsIn K mainGlobals "_law_seen" = some (some (.ref f46)))
    (l46 : K.lookup f46 = some ⟨oc46, od46, .func (PySem.W.fnOf "_law_seen" "_law_seen" (defArgs s__law_seen) (defBody s__law_seen) (defScope s__law_seen) .none kV46 dc46 pm46 an46 cd46 ct46), sl46⟩)
    (c46 : PySem.W.codeIn K cd46 "_law_seen" = true)
    (k46 : PySem.W.keepIn K (.ref f46) = true)
    (a47 : PySem.W.nsIn K mainGlobals "_law_laid" = some (some (.ref f47)))
    (l47 : K.lookup f47 = some ⟨oc47, od47, .func (PySem.W.fnOf "_law_laid" "_law_laid" (defArgs s__law_laid) (defBody s__law_laid) (defScope s__law_laid) .none kV47 dc47 pm47 an47 cd47 ct47), sl47⟩)
    (c47 : PySem.W.codeIn K cd47 "_law_laid" = true)
    (k47 : PySem.W.keepIn K (.ref f47) = true)
    (a48 : PySem.W.nsIn K mainGlobals "_law_many" = some (some (.ref f48)))
    (l48 : K.lookup f48 = some ⟨oc48, od48, .func (PySem.W.fnOf "_law_many" "_law_many" (defArgs s__law_many) (defBody s__law_many) (defScope s__law_many) .none kV48 dc48 pm48 an48 cd48 ct48), sl48⟩)
    (c48 : PySem.W.codeIn K cd48 "_law_many" = true)
    (k48 : PySem.W.keepIn K (.ref f48) = true)
    (a49 : PySem.W.nsIn K mainGlobals "_law_loaded" = some (some (.ref f49)))
    (l49 : K.lookup f49 = some ⟨oc49, od49, .func (PySem.W.fnOf "_law_loaded" "_law_loaded" (defArgs s__law_loaded) (defBody s__law_loaded) (defScope s__law_loaded) .none kV49 dc49 pm49 an49 cd49 ct49), sl49⟩)
    (c49 : PySem.W.codeIn K cd49 "_law_loaded" = true)
    (k49 : PySem.W.keepIn K (.ref f49) = true)
    (a50 : PySem.W.nsIn K mainGlobals "_law_inked" = some (some (.ref f50)))
    (l50 : K.lookup f50 = some ⟨oc50, od50, .func (PySem.W.fnOf "_law_inked" "_law_inked" (defArgs s__law_inked) (defBody s__law_inked) (defScope s__law_inked) .none kV50 dc50 pm50 an50 cd50 ct50), sl50⟩)
    (c50 : PySem.W.codeIn K cd50 "_law_inked" = true)
    (k50 : PySem.W.keepIn K (.ref f50) = true)
    (a51 : PySem.W.nsIn K mainGlobals "_law_turned" = some (some (.ref f51)))
    (l51 : K.lookup f51 = some ⟨oc51, od51, .func (PySem.W.fnOf "_law_turned" "_law_turned" (defArgs s__law_turned) (defBody s__law_turned) (defScope s__law_turned) .none kV51 dc51 pm51 an51 cd51 ct51), sl51⟩)
    (c51 : PySem.W.codeIn K cd51 "_law_turned" = true)
    (k51 : PySem.W.keepIn K (.ref f51) = true)
    (a52 : PySem.W.nsIn K mainGlobals "law" = some (some (.ref f52)))
    (l52 : K.lookup f52 = some ⟨oc52, od52, .func (PySem.W.fnOf "law" "law" (defArgs s_law) (defBody s_law) (defScope s_law) .none kV52 dc52 pm52 an52 cd52 ct52), sl52⟩)
    (c52 : PySem.W.codeIn K cd52 "law" = true)
    (k52 : PySem.W.keepIn K (.ref f52) = true)
    (pg_State : PySem.W.plainGet K cState Str.empty = true)
    (hd_State : PySem.W.hasDictIn K cState = true)
    (po_State : PySem.W.plainOver K cState = true)
    (sa_State : PySem.W.findIn K (.ref cState) "__setattr__" = some (some (.builtin "object.__setattr__")))
    (mk_State : PySem.W.makesIn K cState = true)
    (kc_State : PySem.W.keepIn K (.ref cState) = true)
    (na_State_word : PySem.W.findIn K (.ref cState) "word" = some none)
    (pg_Ready : PySem.W.plainGet K cReady Str.empty = true)
    (hd_Ready : PySem.W.hasDictIn K cReady = true)
    (po_Ready : PySem.W.plainOver K cReady = true)
    (sa_Ready : PySem.W.findIn K (.ref cReady) "__setattr__" = some (some (.builtin "object.__setattr__")))
    (mk_Ready : PySem.W.makesIn K cReady = true)
    (kc_Ready : PySem.W.keepIn K (.ref cReady) = true)
    (na_Ready_word : PySem.W.findIn K (.ref cReady) "word" = some none)
    (pg_Jammed : PySem.W.plainGet K cJammed Str.empty = true)
    (hd_Jammed : PySem.W.hasDictIn K cJammed = true)
    (po_Jammed : PySem.W.plainOver K cJammed = true)
    (sa_Jammed : PySem.W.findIn K (.ref cJammed) "__setattr__" = some (some (.builtin "object.__setattr__")))
    (mk_Jammed : PySem.W.makesIn K cJammed = true)
    (kc_Jammed : PySem.W.keepIn K (.ref cJammed) = true)
    (na_Jammed_word : PySem.W.findIn K (.ref cJammed) "word" = some none)
    (pg_Away : PySem.W.plainGet K cAway Str.empty = true)
    (hd_Away : PySem.W.hasDictIn K cAway = true)
    (po_Away : PySem.W.plainOver K cAway = true)
    (sa_Away : PySem.W.findIn K (.ref cAway) "__setattr__" = some (some (.builtin "object.__setattr__")))
    (mk_Away : PySem.W.makesIn K cAway = true)
    (kc_Away : PySem.W.keepIn K (.ref cAway) = true)
    (na_Away_word : PySem.W.findIn K (.ref cAway) "word" = some none)
    (na_Away_jammed : PySem.W.findIn K (.ref cAway) "jammed" = some none)
    (pg_Stock : PySem.W.plainGet K cStock Str.empty = true)
    (hd_Stock : PySem.W.hasDictIn K cStock = true)
    (po_Stock : PySem.W.plainOver K cStock = true)
    (sa_Stock : PySem.W.findIn K (.ref cStock) "__setattr__" = some (some (.builtin "object.__setattr__")))
    (mk_Stock : PySem.W.makesIn K cStock = true)
    (kc_Stock : PySem.W.keepIn K (.ref cStock) = true)
    (na_Stock_rooms : PySem.W.findIn K (.ref cStock) "rooms" = some none)
    (na_Stock_amounts : PySem.W.findIn K (.ref cStock) "amounts" = some none)
    (pg_Printer : PySem.W.plainGet K cPrinter Str.empty = true)
    (hd_Printer : PySem.W.hasDictIn K cPrinter = true)
    (po_Printer : PySem.W.plainOver K cPrinter = true)
    (sa_Printer : PySem.W.findIn K (.ref cPrinter) "__setattr__" = some (some (.builtin "object.__setattr__")))
    (mk_Printer : PySem.W.makesIn K cPrinter = true)
    (kc_Printer : PySem.W.keepIn K (.ref cPrinter) = true)
    (na_Printer_name : PySem.W.findIn K (.ref cPrinter) "name" = some none)
    (na_Printer_can : PySem.W.findIn K (.ref cPrinter) "can" = some none)
    (na_Printer_path : PySem.W.findIn K (.ref cPrinter) "path" = some none)
    (na_Printer_rooms : PySem.W.findIn K (.ref cPrinter) "rooms" = some none)
    (na_Printer_trays : PySem.W.findIn K (.ref cPrinter) "trays" = some none)
    (na_Printer_inks : PySem.W.findIn K (.ref cPrinter) "inks" = some none)
    (na_Printer_state : PySem.W.findIn K (.ref cPrinter) "state" = some none)
    (na_Printer_inside : PySem.W.findIn K (.ref cPrinter) "inside" = some none)
    (xc_BadLine : xcls K cBadLine ["place"] = true)
    (xm_BadLine : PySem.W.excMk K cBadLine = true)
    (kc_BadLine : PySem.W.keepIn K (.ref cBadLine) = true)
    (xc_Busy : xcls K cBusy ["job"] = true)
    (xm_Busy : PySem.W.excMk K cBusy = true)
    (kc_Busy : PySem.W.keepIn K (.ref cBusy) = true)
    (xc_Dry : xcls K cDry ["name"] = true)
    (xm_Dry : PySem.W.excMk K cDry = true)
    (kc_Dry : PySem.W.keepIn K (.ref cDry) = true)
    (xc_GoesRound : xcls K cGoesRound ["ring"] = true)
    (xm_GoesRound : PySem.W.excMk K cGoesRound = true)
    (kc_GoesRound : PySem.W.keepIn K (.ref cGoesRound) = true)
    (xc_NoHeap : xcls K cNoHeap ["place"] = true)
    (xm_NoHeap : PySem.W.excMk K cNoHeap = true)
    (kc_NoHeap : PySem.W.keepIn K (.ref cNoHeap) = true)
    (xc_NoPrinter : xcls K cNoPrinter ["job", "lacks"] = true)
    (xm_NoPrinter : PySem.W.excMk K cNoPrinter = true)
    (kc_NoPrinter : PySem.W.keepIn K (.ref cNoPrinter) = true)
    (xc_NotNow : xcls K cNotNow ["found"] = true)
    (xm_NotNow : PySem.W.excMk K cNotNow = true)
    (kc_NotNow : PySem.W.keepIn K (.ref cNotNow) = true)
    (xc_NoWay : xcls K cNoWay ["place"] = true)
    (xm_NoWay : PySem.W.excMk K cNoWay = true)
    (kc_NoWay : PySem.W.keepIn K (.ref cNoWay) = true)
    (xc_Nowhere : xcls K cNowhere ["job"] = true)
    (xm_Nowhere : PySem.W.excMk K cNowhere = true)
    (kc_Nowhere : PySem.W.keepIn K (.ref cNowhere) = true)
    (xc_Over : xcls K cOver ["job"] = true)
    (xm_Over : PySem.W.excMk K cOver = true)
    (kc_Over : PySem.W.keepIn K (.ref cOver) = true)
    (xc_TooMuch : xcls K cTooMuch ["name"] = true)
    (xm_TooMuch : PySem.W.excMk K cTooMuch = true)
    (kc_TooMuch : PySem.W.keepIn K (.ref cTooMuch) = true)
    (xc_Twice : xcls K cTwice ["name"] = true)
    (xm_Twice : PySem.W.excMk K cTwice = true)
    (kc_Twice : PySem.W.keepIn K (.ref cTwice) = true)
    (xc_Unknown : xcls K cUnknown ["name"] = true)
    (xm_Unknown : PySem.W.excMk K cUnknown = true)
    (kc_Unknown : PySem.W.keepIn K (.ref cUnknown) = true)
    (am_Stock_know : PySem.W.findIn K (.ref cStock) "know" = some (some (.ref f20)))
    (am_Stock_put_all : PySem.W.findIn K (.ref cStock) "put_all" = some (some (.ref f23)))
    (am_Stock_know_all : PySem.W.findIn K (.ref cStock) "know_all" = some (some (.ref f21)))
    (am_Ready_called : PySem.W.findIn K (.ref cReady) "called" = some (some (.ref f4)))
    (am_Jammed_called : PySem.W.findIn K (.ref cJammed) "called" = some (some (.ref f4)))
    (am_Away_called : PySem.W.findIn K (.ref cAway) "called" = some (some (.ref f4)))
    (am_Stock_held : PySem.W.findIn K (.ref cStock) "held" = some (some (.ref f18)))
    (am_Stock_put : PySem.W.findIn K (.ref cStock) "put" = some (some (.ref f22)))
    (am_Ready_jam : PySem.W.findIn K (.ref cReady) "jam" = some (some (.ref f10)))
    (am_Jammed_jam : PySem.W.findIn K (.ref cJammed) "jam" = some (some (.ref f5)))
    (am_Away_jam : PySem.W.findIn K (.ref cAway) "jam" = some (some (.ref f5)))
    (am_Ready_leave : PySem.W.findIn K (.ref cReady) "leave" = some (some (.ref f11)))
    (am_Jammed_leave : PySem.W.findIn K (.ref cJammed) "leave" = some (some (.ref f14)))
    (am_Away_leave : PySem.W.findIn K (.ref cAway) "leave" = some (some (.ref f7)))
    (am_Ready_mend : PySem.W.findIn K (.ref cReady) "mend" = some (some (.ref f6)))
    (am_Jammed_mend : PySem.W.findIn K (.ref cJammed) "mend" = some (some (.ref f13)))
    (am_Away_mend : PySem.W.findIn K (.ref cAway) "mend" = some (some (.ref f6)))
    (am_Printer_stands : PySem.W.findIn K (.ref cPrinter) "stands" = some (some (.ref f25)))
    (am_Ready_come : PySem.W.findIn K (.ref cReady) "come" = some (some (.ref f8)))
    (am_Jammed_come : PySem.W.findIn K (.ref cJammed) "come" = some (some (.ref f8)))
    (am_Away_come : PySem.W.findIn K (.ref cAway) "come" = some (some (.ref f16)))
    (am_Printer_within : PySem.W.findIn K (.ref cPrinter) "within" = some (some (.ref f29)))
    (am_Printer_papers : PySem.W.findIn K (.ref cPrinter) "papers" = some (some (.ref f26)))
    (am_Printer_ink_left : PySem.W.findIn K (.ref cPrinter) "ink_left" = some (some (.ref f28)))
    (am_Printer_paper_left : PySem.W.findIn K (.ref cPrinter) "paper_left" = some (some (.ref f27)))
    (am_Printer_load : PySem.W.findIn K (.ref cPrinter) "load" = some (some (.ref f30)))
    (am_Printer_fill : PySem.W.findIn K (.ref cPrinter) "fill" = some (some (.ref f31)))
    (am_Printer_jam : PySem.W.findIn K (.ref cPrinter) "jam" = some (some (.ref f33)))
    (am_Printer_leave : PySem.W.findIn K (.ref cPrinter) "leave" = some (some (.ref f34)))
    (am_Printer_come : PySem.W.findIn K (.ref cPrinter) "come" = some (some (.ref f36)))
    (am_Printer_mend : PySem.W.findIn K (.ref cPrinter) "mend" = some (some (.ref f35)))
    (ib1_State : PySem.W.specialIn K (.ref cState) "__getattribute__" = some (some (.builtin "type.__getattribute__")))
    (ib2_State : PySem.W.readsIn K cState (.type "type") = true)
    (ib3_State : PySem.W.findCls K (.ref cState) (.type "type") "__init__" = some (.val (.ref f3)))
    (xq_HallError : PySem.W.excMk K cHallError = true)
    (mh_Unknown_HallError : PySem.W.mroHas K cUnknown (.ref cHallError) = true)
    (mh_NotNow_HallError : PySem.W.mroHas K cNotNow (.ref cHallError) = true)
    (mh_TooMuch_HallError : PySem.W.mroHas K cTooMuch (.ref cHallError) = true)
    (xcn : PySem.W.specialIn K (.builtin "object.__class__") "__get__" = some (some (.builtin "getset_descriptor.__get__")))
    (xct : PySem.W.takesIn K (.builtin "object.__class__") = some true)
    (xb1 : PySem.W.specialIn K (.ref cHallError) "__getattribute__" = some (some (.builtin "type.__getattribute__")))
    (xb2 : PySem.W.readsIn K cHallError (.type "type") = true)
    (xb3 : PySem.W.findCls K (.ref cHallError) (.type "type") "__init__" = some (.val (.builtin "ValueError.__init__")))
    (xkt : kitTab K [cBadLine, cBusy, cDry, cGoesRound, cNoHeap, cNoPrinter, cNotNow, cNoWay, cNowhere, cOver, cTooMuch, cTwice, cUnknown] cHallError = true)
    {xREADY : Str} {tREADY : Tok}
    (gREADY : PySem.W.nsIn K mainGlobals "READY" = some (some (.str xREADY tREADY)))
    (eREADY : xREADY = Str.ofString "ready")
    {xJAMMED : Str} {tJAMMED : Tok}
    (gJAMMED : PySem.W.nsIn K mainGlobals "JAMMED" = some (some (.str xJAMMED tJAMMED)))
    (eJAMMED : xJAMMED = Str.ofString "jammed")
    {xOFF : Str} {tOFF : Tok}
    (gOFF : PySem.W.nsIn K mainGlobals "OFF" = some (some (.str xOFF tOFF)))
    (eOFF : xOFF = Str.ofString "off")
    {xBLACK : Str} {tBLACK : Tok}
    (gBLACK : PySem.W.nsIn K mainGlobals "BLACK" = some (some (.str xBLACK tBLACK)))
    (eBLACK : xBLACK = Str.ofString "black")
    {xCOLOUR : Str} {tCOLOUR : Tok}
    (gCOLOUR : PySem.W.nsIn K mainGlobals "COLOUR" = some (some (.str xCOLOUR tCOLOUR)))
    (eCOLOUR : xCOLOUR = Str.ofString "colour")
    {xWITHIN : Str} {tWITHIN : Tok}
    (gWITHIN : PySem.W.nsIn K mainGlobals "WITHIN" = some (some (.str xWITHIN tWITHIN)))
    (eWITHIN : xWITHIN = Str.ofString "within")
    (z_len : PySem.W.nsIn K mainGlobals "len" = some none)
    (z_range : PySem.W.nsIn K mainGlobals "range" = some none)
    (z_str : PySem.W.nsIn K mainGlobals "str" = some none)
    (z_int : PySem.W.nsIn K mainGlobals "int" = some none)
    (z_bool : PySem.W.nsIn K mainGlobals "bool" = some none)
    (z_tuple : PySem.W.nsIn K mainGlobals "tuple" = some none)
    (z_list : PySem.W.nsIn K mainGlobals "list" = some none)
    (z_isinstance : PySem.W.nsIn K mainGlobals "isinstance" = some none)
    (z_dict : PySem.W.nsIn K mainGlobals "dict" = some none)
    (z_ValueError : PySem.W.nsIn K mainGlobals "ValueError" = some none)
    : ∃ fd : FuncData, (∀ (s : Shared) (v : Value), BindsTo s fd ⟨[v], []⟩ [("_law_script", v)]) ∧ ∀ base : Heap, K.In base → base.Ns mainGlobals mg → FnOk l.prog w K mg base CX0 10 fa fd ["_law_script"] (sp_law K) := by
  have e := hfa.symm.trans (PySem.W.mg_of X G a52)
  cases e
  have F0 := fun_mk (st := s_Unknown_init) l0 c0 k0
  have F1 := fun_mk (st := s_NotNow_init) l1 c1 k1
  have F2 := fun_mk (st := s_TooMuch_init) l2 c2 k2
  have F3 := fun_mk (st := s_State_init) l3 c3 k3
  have F4 := fun_mk (st := s_State_called) l4 c4 k4
  have F5 := fun_mk (st := s_State_jam) l5 c5 k5
  have F6 := fun_mk (st := s_State_mend) l6 c6 k6
  have F7 := fun_mk (st := s_State_leave) l7 c7 k7
  have F8 := fun_mk (st := s_State_come) l8 c8 k8
  have F9 := fun_mk (st := s_Ready_init) l9 c9 k9
  have F10 := fun_mk (st := s_Ready_jam) l10 c10 k10
  have F11 := fun_mk (st := s_Ready_leave) l11 c11 k11
  have F12 := fun_mk (st := s_Jammed_init) l12 c12 k12
  have F13 := fun_mk (st := s_Jammed_mend) l13 c13 k13
  have F14 := fun_mk (st := s_Jammed_leave) l14 c14 k14
  have F15 := fun_mk (st := s_Away_init) l15 c15 k15
  have F16 := fun_mk (st := s_Away_come) l16 c16 k16
  have F17 := fun_mk (st := s_Stock_init) l17 c17 k17
  have F18 := fun_mk (st := s_Stock_held) l18 c18 k18
  have F19 := fun_mk (st := s_Stock_room) l19 c19 k19
  have F20 := fun_mk (st := s_Stock_know) l20 c20 k20
  have F21 := fun_mk (st := s_Stock_know_all) l21 c21 k21
  have F22 := fun_mk (st := s_Stock_put) l22 c22 k22
  have F23 := fun_mk (st := s_Stock_put_all) l23 c23 k23
  have F24 := fun_mk (st := s_Printer_init) l24 c24 k24
  have F25 := fun_mk (st := s_Printer_stands) l25 c25 k25
  have F26 := fun_mk (st := s_Printer_papers) l26 c26 k26
  have F27 := fun_mk (st := s_Printer_paper_left) l27 c27 k27
  have F28 := fun_mk (st := s_Printer_ink_left) l28 c28 k28
  have F29 := fun_mk (st := s_Printer_within) l29 c29 k29
  have F30 := fun_mk (st := s_Printer_load) l30 c30 k30
  have F31 := fun_mk (st := s_Printer_fill) l31 c31 k31
  have F32 := fun_mk (st := s_Printer_oldest) l32 c32 k32
  have F33 := fun_mk (st := s_Printer_jam) l33 c33 k33
  have F34 := fun_mk (st := s_Printer_leave) l34 c34 k34
  have F35 := fun_mk (st := s_Printer_mend) l35 c35 k35
  have F36 := fun_mk (st := s_Printer_come) l36 c36 k36
  have F37 := fun_mk (st := s__law_cell_at) l37 c37 k37
  have F38 := fun_mk (st := s__law_by) l38 c38 k38
  have F39 := fun_mk (st := s__law_names) l39 c39 k39
  have F40 := fun_mk (st := s__law_apart) l40 c40 k40
  have F41 := fun_mk (st := s__law_which) l41 c41 k41
  have F42 := fun_mk (st := s__law_room) l42 c42 k42
  have F43 := fun_mk (st := s__law_world) l43 c43 k43
  have F44 := fun_mk (st := s__law_made) l44 c44 k44
  have F45 := fun_mk (st := s__law_wholes) l45 c45 k45
  have F46 := fun_mk (st := s__law_seen) l46 c46 k46
  have F47 := fun_mk (st := s__law_laid) l47 c47 k47
  have F48 := fun_mk (st := s__law_many) l48 c48 k48
  have F49 := fun_mk (st := s__law_loaded) l49 c49 k49
  have F50 := fun_mk (st := s__law_inked) l50 c50 k50
  have F51 := fun_mk (st := s__law_turned) l51 c51 k51
  have F52 := fun_mk (st := s_law) l52 c52 k52
  have b0 := F0.binds (ps := ["self", "name"]) fun _ _ _ _ _ _ us hl => match us, hl with | [_, _], _ => rfl
  have b1 := F1.binds (ps := ["self", "found"]) fun _ _ _ _ _ _ us hl => match us, hl with | [_, _], _ => rfl
  have b2 := F2.binds (ps := ["self", "name"]) fun _ _ _ _ _ _ us hl => match us, hl with | [_, _], _ => rfl
  have b3 := F3.binds (ps := ["self", "word"]) fun _ _ _ _ _ _ us hl => match us, hl with | [_, _], _ => rfl
  have b4 := F4.binds (ps := ["self"]) fun _ _ _ _ _ _ us hl => match us, hl with | [_], _ => rfl
  have b5 := F5.binds (ps := ["self"]) fun _ _ _ _ _ _ us hl => match us, hl with | [_], _ => rfl
  have b6 := F6.binds (ps := ["self"]) fun _ _ _ _ _ _ us hl => match us, hl with | [_], _ => rfl
  have b7 := F7.binds (ps := ["self"]) fun _ _ _ _ _ _ us hl => match us, hl with | [_], _ => rfl
  have b8 := F8.binds (ps := ["self"]) fun _ _ _ _ _ _ us hl => match us, hl with | [_], _ => rfl
  have b9 := F9.binds (ps := ["self"]) fun _ _ _ _ _ _ us hl => match us, hl with | [_], _ => rfl
  have b10 := F10.binds (ps := ["self"]) fun _ _ _ _ _ _ us hl => match us, hl with | [_], _ => rfl
  have b11 := F11.binds (ps := ["self"]) fun _ _ _ _ _ _ us hl => match us, hl with | [_], _ => rfl
  have b12 := F12.binds (ps := ["self"]) fun _ _ _ _ _ _ us hl => match us, hl with | [_], _ => rfl
  have b13 := F13.binds (ps := ["self"]) fun _ _ _ _ _ _ us hl => match us, hl with | [_], _ => rfl
  have b14 := F14.binds (ps := ["self"]) fun _ _ _ _ _ _ us hl => match us, hl with | [_], _ => rfl
  have b15 := F15.binds (ps := ["self", "jammed"]) fun _ _ _ _ _ _ us hl => match us, hl with | [_, _], _ => rfl
  have b16 := F16.binds (ps := ["self"]) fun _ _ _ _ _ _ us hl => match us, hl with | [_], _ => rfl
  have b17 := F17.binds (ps := ["self", "rooms"]) fun _ _ _ _ _ _ us hl => match us, hl with | [_, _], _ => rfl
  have b18 := F18.binds (ps := ["self", "name"]) fun _ _ _ _ _ _ us hl => match us, hl with | [_, _], _ => rfl
  have b19 := F19.binds (ps := ["self", "name"]) fun _ _ _ _ _ _ us hl => match us, hl with | [_, _], _ => rfl
  have b20 := F20.binds (ps := ["self", "name"]) fun _ _ _ _ _ _ us hl => match us, hl with | [_, _], _ => rfl
  have b21 := F21.binds (ps := ["self", "rows"]) fun _ _ _ _ _ _ us hl => match us, hl with | [_, _], _ => rfl
  have b22 := F22.binds (ps := ["self", "name", "many"]) fun _ _ _ _ _ _ us hl => match us, hl with | [_, _, _], _ => rfl
  have b23 := F23.binds (ps := ["self", "gifts"]) fun _ _ _ _ _ _ us hl => match us, hl with | [_, _], _ => rfl
  have b24 := F24.binds (ps := ["self", "name", "can", "path", "papers", "black", "colour"]) fun _ _ _ _ _ _ us hl => match us, hl with | [_, _, _, _, _, _, _], _ => rfl
  have b25 := F25.binds (ps := ["self"]) fun _ _ _ _ _ _ us hl => match us, hl with | [_], _ => rfl
  have b26 := F26.binds (ps := ["self"]) fun _ _ _ _ _ _ us hl => match us, hl with | [_], _ => rfl
  have b27 := F27.binds (ps := ["self", "kind"]) fun _ _ _ _ _ _ us hl => match us, hl with | [_, _], _ => rfl
  have b28 := F28.binds (ps := ["self"]) fun _ _ _ _ _ _ us hl => match us, hl with | [_], _ => rfl
  have b29 := F29.binds (ps := ["self"]) fun _ _ _ _ _ _ us hl => match us, hl with | [_], _ => rfl
  have b30 := F30.binds (ps := ["self", "kind", "many"]) fun _ _ _ _ _ _ us hl => match us, hl with | [_, _, _], _ => rfl
  have b31 := F31.binds (ps := ["self", "black", "coloured"]) fun _ _ _ _ _ _ us hl => match us, hl with | [_, _, _], _ => rfl
  have b32 := F32.binds (ps := ["self"]) fun _ _ _ _ _ _ us hl => match us, hl with | [_], _ => rfl
  have b33 := F33.binds (ps := ["self", "saved"]) fun _ _ _ _ _ _ us hl => match us, hl with | [_, _], _ => rfl
  have b34 := F34.binds (ps := ["self"]) fun _ _ _ _ _ _ us hl => match us, hl with | [_], _ => rfl
  have b35 := F35.binds (ps := ["self"]) fun _ _ _ _ _ _ us hl => match us, hl with | [_], _ => rfl
  have b36 := F36.binds (ps := ["self"]) fun _ _ _ _ _ _ us hl => match us, hl with | [_], _ => rfl
  have b37 := F37.binds (ps := ["_law_script", "_law_k"]) fun _ _ _ _ _ _ us hl => match us, hl with | [_, _], _ => rfl
  have b38 := F38.binds (ps := ["_law_script", "_law_k", "_law_many_here"]) fun _ _ _ _ _ _ us hl => match us, hl with | [_, _, _], _ => rfl
  have b39 := F39.binds (ps := ["_law_script", "_law_k", "_law_many_here"]) fun _ _ _ _ _ _ us hl => match us, hl with | [_, _, _], _ => rfl
  have b40 := F40.binds (ps := ["_law_e", "_law_own"]) fun _ _ _ _ _ _ us hl => match us, hl with | [_, _], _ => rfl
  have b41 := F41.binds (ps := ["_law_caught"]) fun _ _ _ _ _ _ us hl => match us, hl with | [_], _ => rfl
  have b42 := F42.binds (ps := ["_law_script", "_law_k", "_law_low"]) fun _ _ _ _ _ _ us hl => match us, hl with | [_, _, _], _ => rfl
  have b43 := F43.binds (ps := ["_law_script", "_law_base", "_law_name", "_law_kinds"]) fun _ _ _ _ _ _ us hl => match us, hl with | [_, _, _, _], _ => rfl
  have b44 := F44.binds (ps := ["_law_world_here"]) fun _ _ _ _ _ _ us hl => match us, hl with | [_], _ => rfl
  have b45 := F45.binds (ps := ["_law_found", "_law_due"]) fun _ _ _ _ _ _ us hl => match us, hl with | [_, _], _ => rfl
  have b46 := F46.binds (ps := ["_law_printer", "_law_world_here"]) fun _ _ _ _ _ _ us hl => match us, hl with | [_, _], _ => rfl
  have b47 := F47.binds (ps := ["_law_printer", "_law_way", "_law_kind", "_law_many_here", "_law_other"]) fun _ _ _ _ _ _ us hl => match us, hl with | [_, _, _, _, _], _ => rfl
  have b48 := F48.binds (ps := ["_law_script", "_law_k", "_law_exact"]) fun _ _ _ _ _ _ us hl => match us, hl with | [_, _, _], _ => rfl
  have b49 := F49.binds (ps := ["_law_script", "_law_k", "_law_printer", "_law_world_here"]) fun _ _ _ _ _ _ us hl => match us, hl with | [_, _, _, _], _ => rfl
  have b50 := F50.binds (ps := ["_law_script", "_law_k", "_law_printer", "_law_world_here"]) fun _ _ _ _ _ _ us hl => match us, hl with | [_, _, _, _], _ => rfl
  have b51 := F51.binds (ps := ["_law_script", "_law_k", "_law_printer", "_law_world_here"]) fun _ _ _ _ _ _ us hl => match us, hl with | [_, _, _, _], _ => rfl
  have b52 := F52.binds (ps := ["_law_script"]) fun _ _ _ _ _ _ us hl => match us, hl with | [_], _ => rfl
  have T : Txt K mg cState cReady cJammed cAway cStock cPrinter cBadLine cBusy cDry cGoesRound cNoHeap cNoPrinter cNotNow cNoWay cNowhere cOver cTooMuch cTwice cUnknown cHallError := ⟨PySem.W.mg_none_of X G z_len, PySem.W.mg_none_of X G z_range, PySem.W.mg_none_of X G z_str, PySem.W.mg_none_of X G z_int, PySem.W.mg_none_of X G z_bool, PySem.W.mg_none_of X G z_tuple, PySem.W.mg_none_of X G z_list, PySem.W.mg_none_of X G z_isinstance, PySem.W.mg_none_of X G z_dict, PySem.W.mg_none_of X G z_ValueError, ⟨⟨tREADY, by rw [← eREADY]; exact PySem.W.mg_of X G gREADY⟩⟩, ⟨⟨tJAMMED, by rw [← eJAMMED]; exact PySem.W.mg_of X G gJAMMED⟩⟩, ⟨⟨tOFF, by rw [← eOFF]; exact PySem.W.mg_of X G gOFF⟩⟩, ⟨⟨tBLACK, by rw [← eBLACK]; exact PySem.W.mg_of X G gBLACK⟩⟩, ⟨⟨tCOLOUR, by rw [← eCOLOUR]; exact PySem.W.mg_of X G gCOLOUR⟩⟩, ⟨⟨tWITHIN, by rw [← eWITHIN]; exact PySem.W.mg_of X G gWITHIN⟩⟩, ⟨pg_State, hd_State, po_State, sa_State⟩, PySem.W.mg_of X G aC_State, na_State_word, ⟨pg_Ready, hd_Ready, po_Ready, sa_Ready⟩, PySem.W.mg_of X G aC_Ready, na_Ready_word, ⟨pg_Jammed, hd_Jammed, po_Jammed, sa_Jammed⟩, PySem.W.mg_of X G aC_Jammed, na_Jammed_word, ⟨pg_Away, hd_Away, po_Away, sa_Away⟩, PySem.W.mg_of X G aC_Away, na_Away_word, na_Away_jammed, ⟨pg_Stock, hd_Stock, po_Stock, sa_Stock⟩, PySem.W.mg_of X G aC_Stock, na_Stock_rooms, na_Stock_amounts, ⟨pg_Printer, hd_Printer, po_Printer, sa_Printer⟩, PySem.W.mg_of X G aC_Printer, na_Printer_name, na_Printer_can, na_Printer_path, na_Printer_rooms, na_Printer_trays, na_Printer_inks, na_Printer_state, na_Printer_inside, xq_HallError, mh_Unknown_HallError, mh_NotNow_HallError, mh_TooMuch_HallError, XCl.of xc_BadLine xm_BadLine xcn xct, PySem.W.mg_of X G aC_BadLine, XCl.of xc_Busy xm_Busy xcn xct, PySem.W.mg_of X G aC_Busy, XCl.of xc_Dry xm_Dry xcn xct, PySem.W.mg_of X G aC_Dry, XCl.of xc_GoesRound xm_GoesRound xcn xct, PySem.W.mg_of X G aC_GoesRound, XCl.of xc_NoHeap xm_NoHeap xcn xct, PySem.W.mg_of X G aC_NoHeap, XCl.of xc_NoPrinter xm_NoPrinter xcn xct, PySem.W.mg_of X G aC_NoPrinter, XCl.of xc_NotNow xm_NotNow xcn xct, PySem.W.mg_of X G aC_NotNow, XCl.of xc_NoWay xm_NoWay xcn xct, PySem.W.mg_of X G aC_NoWay, XCl.of xc_Nowhere xm_Nowhere xcn xct, PySem.W.mg_of X G aC_Nowhere, XCl.of xc_Over xm_Over xcn xct, PySem.W.mg_of X G aC_Over, XCl.of xc_TooMuch xm_TooMuch xcn xct, PySem.W.mg_of X G aC_TooMuch, XCl.of xc_Twice xm_Twice xcn xct, PySem.W.mg_of X G aC_Twice, XCl.of xc_Unknown xm_Unknown xcn xct, PySem.W.mg_of X G aC_Unknown, ⟨xb1, xb2, xb3⟩, PySem.W.mg_of X G aC_HallError, xkt⟩
  refine ⟨PySem.W.fnOf "law" "law" (defArgs s_law) (defBody s_law) (defScope s_law) .none kV52 dc52 pm52 an52 cd52 ct52, fun s v => .of_eq rfl, fun base _ _ => ?_⟩
  have D__law_cell_at : Dfn l.prog w K mg base 1 "_law_cell_at" ["_law_script", "_law_k"] (sp__law_cell_at K) := ⟨_, _, ok__law_cell_at F37 T, b37, k37, PySem.W.mg_of X G a37⟩
  have D__law_by : Dfn l.prog w K mg base 2 "_law_by" ["_law_script", "_law_k", "_law_many_here"] (sp__law_by K) := ⟨_, _, ok__law_by F38 T D__law_cell_at, b38, k38, PySem.W.mg_of X G a38⟩
  have D__law_names : Dfn l.prog w K mg base 3 "_law_names" ["_law_script", "_law_k", "_law_many_here"] (sp__law_names K) := ⟨_, _, ok__law_names F39 T D__law_by, b39, k39, PySem.W.mg_of X G a39⟩
  have D__law_room : Dfn l.prog w K mg base 3 "_law_room" ["_law_script", "_law_k", "_law_low"] (sp__law_room K) := ⟨_, _, ok__law_room F42 T D__law_by D__law_cell_at, b42, k42, PySem.W.mg_of X G a42⟩
  have D__law_world : Dfn l.prog w K mg base 4 "_law_world" ["_law_script", "_law_base", "_law_name", "_law_kinds"] (sp__law_world K) := ⟨_, _, ok__law_world F43 T D__law_room D__law_by, b43, k43, PySem.W.mg_of X G a43⟩
  have okk17 : FnOk l.prog w K mg base CX0 1 _ _ ["self", "rooms"] (sp_Stock_init cStock) := ok_Stock_init F17 T
  have M_Stock : MkD l.prog w K mg base 1 "Stock" cStock ["self", "rooms"] (sp_Stock_init cStock) := ⟨_, _, ⟨mk_Stock, a17, i17, kc_Stock⟩, okk17, b17, PySem.W.mg_of X G aC_Stock⟩
  have okk3 : FnOk l.prog w K mg base CX0 1 _ _ ["self", "word"] (sp_State_init K) := ok_State_init F3 T
  have M_State : MkD l.prog w K mg base 1 "State" cState ["self", "word"] (sp_State_init K) := ⟨_, _, ⟨mk_State, a3, i3, kc_State⟩, okk3, b3, PySem.W.mg_of X G aC_State⟩
  have I_State : InD l.prog w K mg base 1 "State" cState ["self", "word"] (sp_State_init K) := ⟨_, _, ⟨ib1_State, ib2_State, ib3_State⟩, okk3, b3, k3, PySem.W.mg_of X G aC_State⟩
  have okk9 : FnOk l.prog w K mg base CX0 2 _ _ ["self"] (sp_init0 cReady (fsOf .rd)) := ok_Ready_init F9 T I_State
  have M_Ready : MkD l.prog w K mg base 2 "Ready" cReady ["self"] (sp_init0 cReady (fsOf .rd)) := ⟨_, _, ⟨mk_Ready, a9, i9, kc_Ready⟩, okk9, b9, PySem.W.mg_of X G aC_Ready⟩
  have okk24 : FnOk l.prog w K mg base CX0 4 _ _ ["self", "name", "can", "path", "papers", "black", "colour"] (sp_Pr_init cPrinter cStock cReady cJammed cAway) := ok_Printer_init F24 T M_Stock M_Ready
  have M_Printer : MkD l.prog w K mg base 4 "Printer" cPrinter ["self", "name", "can", "path", "papers", "black", "colour"] (sp_Pr_init cPrinter cStock cReady cJammed cAway) := ⟨_, _, ⟨mk_Printer, a24, i24, kc_Printer⟩, okk24, b24, PySem.W.mg_of X G aC_Printer⟩
  have D__law_made : Dfn l.prog w K mg base 6 "_law_made" ["_law_world_here"] (sp__law_made cPrinter cStock cReady cJammed cAway) := ⟨_, _, ok__law_made F44 T M_Printer, b44, k44, PySem.W.mg_of X G a44⟩
  have D__law_many : Dfn l.prog w K mg base 3 "_law_many" ["_law_script", "_law_k", "_law_exact"] (sp__law_many K) := ⟨_, _, ok__law_many F48 T D__law_by, b48, k48, PySem.W.mg_of X G a48⟩
  have D__law_apart : Dfn l.prog w K mg base 1 "_law_apart" ["_law_e", "_law_own"] (sp__law_apart cBadLine cBusy cDry cGoesRound cNoHeap cNoPrinter cNotNow cNoWay cNowhere cOver cTooMuch cTwice cUnknown) := ⟨_, _, ok__law_apart F40 T, b40, k40, PySem.W.mg_of X G a40⟩
  have D__law_which : Dfn l.prog w K mg base 2 "_law_which" ["_law_caught"] (sp__law_which cBadLine cBusy cDry cGoesRound cNoHeap cNoPrinter cNotNow cNoWay cNowhere cOver cTooMuch cTwice cUnknown) := ⟨_, _, ok__law_which F41 T D__law_apart, b41, k41, PySem.W.mg_of X G a41⟩
  have X_TooMuch : MkXD l.prog w K mg base 1 "TooMuch" cTooMuch ["self", "name"] (sp_one cTooMuch "name") := ⟨⟨_, _, ⟨xm_TooMuch, a2, i2, kc_TooMuch⟩, ok_TooMuch_init F2 T, b2, PySem.W.mg_of X G aC_TooMuch⟩, by decide⟩
  have X_Unknown : MkXD l.prog w K mg base 1 "Unknown" cUnknown ["self", "name"] (sp_one cUnknown "name") := ⟨⟨_, _, ⟨xm_Unknown, a0, i0, kc_Unknown⟩, ok_Unknown_init F0 T, b0, PySem.W.mg_of X G aC_Unknown⟩, by decide⟩
  have okk20 : FnOk l.prog w K mg base (CXe l.prog w) 3 _ _ ["self", "name"] (sp_know cStock cUnknown) := ok_Stock_know F20 T X_Unknown
  have D_Stock_know : MtE l.prog w K mg base 3 "know" cStock ["self", "name"] (sp_know cStock cUnknown) := ⟨_, _, ⟨am_Stock_know, i20, k20⟩, okk20, b20⟩
  have okk21 : FnOk l.prog w K mg base (CXe l.prog w) 4 _ _ ["self", "rows"] (sp_know_all cStock cUnknown) := ok_Stock_know_all F21 T D_Stock_know
  have D_Stock_know_all : MtE l.prog w K mg base 4 "know_all" cStock ["self", "rows"] (sp_know_all cStock cUnknown) := ⟨_, _, ⟨am_Stock_know_all, i21, k21⟩, okk21, b21⟩
  have okk23 : FnOk l.prog w K mg base (CXe l.prog w) 5 _ _ ["self", "gifts"] (sp_all cStock cUnknown cTooMuch 1 tooMuch) := ok_Stock_put_all F23 T X_TooMuch D_Stock_know_all
  have D_Stock_put_all : MtE l.prog w K mg base 5 "put_all" cStock ["self", "gifts"] (sp_all cStock cUnknown cTooMuch 1 tooMuch) := ⟨_, _, ⟨am_Stock_put_all, i23, k23⟩, okk23, b23⟩
  have okk22 : FnOk l.prog w K mg base (CXe l.prog w) 6 _ _ ["self", "name", "many"] (sp_put cStock cUnknown cTooMuch) := ok_Stock_put F22 T D_Stock_put_all
  have D_Stock_put : MtE l.prog w K mg base 6 "put" cStock ["self", "name", "many"] (sp_put cStock cUnknown cTooMuch) := ⟨_, _, ⟨am_Stock_put, i22, k22⟩, okk22, b22⟩
  have okk30 : FnOk l.prog w K mg base (CXe l.prog w) 7 _ _ ["self", "kind", "many"] (sp_Pr_load cUnknown cTooMuch cPrinter cStock cReady cJammed cAway) := ok_Printer_load F30 T D_Stock_put
  have okk31 : FnOk l.prog w K mg base (CXe l.prog w) 6 _ _ ["self", "black", "coloured"] (sp_Pr_fill cTooMuch cPrinter cStock cReady cJammed cAway) := ok_Printer_fill F31 T D_Stock_put_all
  have okk18 : FnOk l.prog w K mg base (CXe l.prog w) 4 _ _ ["self", "name"] (sp_held cStock cUnknown) := ok_Stock_held F18 T D_Stock_know
  have D_Stock_held : MtE l.prog w K mg base 4 "held" cStock ["self", "name"] (sp_held cStock cUnknown) := ⟨_, _, ⟨am_Stock_held, i18, k18⟩, okk18, b18⟩
  have okk27 : FnOk l.prog w K mg base (CXe l.prog w) 5 _ _ ["self", "kind"] (sp_Pr_paper_left cUnknown cPrinter cStock cReady cJammed cAway) := ok_Printer_paper_left F27 T D_Stock_held
  have D_Printer_load : MtE l.prog w K mg base 7 "load" cPrinter ["self", "kind", "many"] (sp_Pr_load cUnknown cTooMuch cPrinter cStock cReady cJammed cAway) := ⟨_, _, ⟨am_Printer_load, i30, k30⟩, okk30, b30⟩
  have D_Printer_fill : MtE l.prog w K mg base 6 "fill" cPrinter ["self", "black", "coloured"] (sp_Pr_fill cTooMuch cPrinter cStock cReady cJammed cAway) := ⟨_, _, ⟨am_Printer_fill, i31, k31⟩, okk31, b31⟩
  have D_Printer_paper_left : MtE l.prog w K mg base 5 "paper_left" cPrinter ["self", "kind"] (sp_Pr_paper_left cUnknown cPrinter cStock cReady cJammed cAway) := ⟨_, _, ⟨am_Printer_paper_left, i27, k27⟩, okk27, b27⟩
  have D__law_laid : Dfn l.prog w K mg base 8 "_law_laid" ["_law_printer", "_law_way", "_law_kind", "_law_many_here", "_law_other"] (sp__law_laid cUnknown cTooMuch cPrinter cStock cReady cJammed cAway) := ⟨_, _, ok__law_laid F47 T D__law_which D_Printer_load D_Printer_fill D_Printer_paper_left, b47, k47, PySem.W.mg_of X G a47⟩
  have D__law_loaded : Dfn l.prog w K mg base 9 "_law_loaded" ["_law_script", "_law_k", "_law_printer", "_law_world_here"] (sp__law_loaded K cPrinter cStock cReady cJammed cAway) := ⟨_, _, ok__law_loaded F49 T D__law_by D__law_many D__law_laid, b49, k49, PySem.W.mg_of X G a49⟩
  have D__law_inked : Dfn l.prog w K mg base 9 "_law_inked" ["_law_script", "_law_k", "_law_printer", "_law_world_here"] (sp__law_inked K cPrinter cStock cReady cJammed cAway) := ⟨_, _, ok__law_inked F50 T D__law_laid D__law_many, b50, k50, PySem.W.mg_of X G a50⟩
  have okk12 : FnOk l.prog w K mg base CX0 2 _ _ ["self"] (sp_init0 cJammed (fsOf .jm)) := ok_Jammed_init F12 T I_State
  have M_Jammed : MkD l.prog w K mg base 2 "Jammed" cJammed ["self"] (sp_init0 cJammed (fsOf .jm)) := ⟨_, _, ⟨mk_Jammed, a12, i12, kc_Jammed⟩, okk12, b12, PySem.W.mg_of X G aC_Jammed⟩
  have okk10 : FnOk l.prog w K mg base CX0 4 _ _ ["self"] (sp_st cReady cJammed cAway cNotNow (fun s => s = .rd) 0) := ok_Ready_jam F10 T M_Jammed
  have X_NotNow : MkXD l.prog w K mg base 1 "NotNow" cNotNow ["self", "found"] (sp_one cNotNow "found") := ⟨⟨_, _, ⟨xm_NotNow, a1, i1, kc_NotNow⟩, ok_NotNow_init F1 T, b1, PySem.W.mg_of X G aC_NotNow⟩, by decide⟩
  have okk5 : FnOk l.prog w K mg base (CXe l.prog w) 3 _ _ ["self"] (sp_st cReady cJammed cAway cNotNow (fun s => nextS 0 s = none) 0) := ok_State_jam F5 T X_NotNow
  have D_Ready_jam : MtE l.prog w K mg base 4 "jam" cReady ["self"] (sp_st cReady cJammed cAway cNotNow (fun s => s = .rd) 0) := ⟨_, _, ⟨am_Ready_jam, i10, k10⟩, okk10.lift, b10⟩
  have D_Jammed_jam : MtE l.prog w K mg base 3 "jam" cJammed ["self"] (sp_st cReady cJammed cAway cNotNow (fun s => nextS 0 s = none) 0) := ⟨_, _, ⟨am_Jammed_jam, i5, k5⟩, okk5, b5⟩
  have D_Away_jam : MtE l.prog w K mg base 3 "jam" cAway ["self"] (sp_st cReady cJammed cAway cNotNow (fun s => nextS 0 s = none) 0) := ⟨_, _, ⟨am_Away_jam, i5, k5⟩, okk5, b5⟩
  have okk33 : FnOk l.prog w K mg base (CXe l.prog w) 5 _ _ ["self", "saved"] (sp_Pr_jam cNotNow cTooMuch cPrinter cStock cReady cJammed cAway) := ok_Printer_jam F33 T X_TooMuch D_Ready_jam D_Jammed_jam D_Away_jam
  have okk15 : FnOk l.prog w K mg base CX0 2 _ _ ["self", "jammed"] (sp_Away_init cAway) := ok_Away_init F15 T I_State
  have M_Away : MkD l.prog w K mg base 2 "Away" cAway ["self", "jammed"] (sp_Away_init cAway) := ⟨_, _, ⟨mk_Away, a15, i15, kc_Away⟩, okk15, b15, PySem.W.mg_of X G aC_Away⟩
  have okk11 : FnOk l.prog w K mg base CX0 4 _ _ ["self"] (sp_st cReady cJammed cAway cNotNow (fun s => s = .rd) 2) := ok_Ready_leave F11 T M_Away
  have okk14 : FnOk l.prog w K mg base CX0 4 _ _ ["self"] (sp_st cReady cJammed cAway cNotNow (fun s => s = .jm) 2) := ok_Jammed_leave F14 T M_Away
  have okk7 : FnOk l.prog w K mg base (CXe l.prog w) 3 _ _ ["self"] (sp_st cReady cJammed cAway cNotNow (fun s => nextS 2 s = none) 2) := ok_State_leave F7 T X_NotNow
  have D_Ready_leave : MtE l.prog w K mg base 4 "leave" cReady ["self"] (sp_st cReady cJammed cAway cNotNow (fun s => s = .rd) 2) := ⟨_, _, ⟨am_Ready_leave, i11, k11⟩, okk11.lift, b11⟩
  have D_Jammed_leave : MtE l.prog w K mg base 4 "leave" cJammed ["self"] (sp_st cReady cJammed cAway cNotNow (fun s => s = .jm) 2) := ⟨_, _, ⟨am_Jammed_leave, i14, k14⟩, okk14.lift, b14⟩
  have D_Away_leave : MtE l.prog w K mg base 3 "leave" cAway ["self"] (sp_st cReady cJammed cAway cNotNow (fun s => nextS 2 s = none) 2) := ⟨_, _, ⟨am_Away_leave, i7, k7⟩, okk7, b7⟩
  have okk34 : FnOk l.prog w K mg base (CXe l.prog w) 5 _ _ ["self"] (sp_Pr_leave cNotNow cPrinter cStock cReady cJammed cAway) := ok_Printer_leave F34 T D_Ready_leave D_Jammed_leave D_Away_leave
  have okk4 : FnOk l.prog w K mg base CX0 1 _ _ ["self"] (sp_called cReady cJammed cAway) := ok_State_called F4 T
  have D_Ready_called : MtE l.prog w K mg base 1 "called" cReady ["self"] (sp_called cReady cJammed cAway) := ⟨_, _, ⟨am_Ready_called, i4, k4⟩, okk4.lift, b4⟩
  have D_Jammed_called : MtE l.prog w K mg base 1 "called" cJammed ["self"] (sp_called cReady cJammed cAway) := ⟨_, _, ⟨am_Jammed_called, i4, k4⟩, okk4.lift, b4⟩
  have D_Away_called : MtE l.prog w K mg base 1 "called" cAway ["self"] (sp_called cReady cJammed cAway) := ⟨_, _, ⟨am_Away_called, i4, k4⟩, okk4.lift, b4⟩
  have okk25 : FnOk l.prog w K mg base CX0 2 _ _ ["self"] (sp_Pr_stands cPrinter cStock cReady cJammed cAway) := ok_Printer_stands F25 T D_Ready_called D_Jammed_called D_Away_called
  have okk8 : FnOk l.prog w K mg base (CXe l.prog w) 3 _ _ ["self"] (sp_st cReady cJammed cAway cNotNow (fun s => nextS 3 s = none) 3) := ok_State_come F8 T X_NotNow
  have okk16 : FnOk l.prog w K mg base CX0 4 _ _ ["self"] (sp_st cReady cJammed cAway cNotNow (fun s => ∃ b, s = .aw b) 3) := ok_Away_come F16 T M_Jammed M_Ready
  have D_Ready_come : MtE l.prog w K mg base 3 "come" cReady ["self"] (sp_st cReady cJammed cAway cNotNow (fun s => nextS 3 s = none) 3) := ⟨_, _, ⟨am_Ready_come, i8, k8⟩, okk8, b8⟩
  have D_Jammed_come : MtE l.prog w K mg base 3 "come" cJammed ["self"] (sp_st cReady cJammed cAway cNotNow (fun s => nextS 3 s = none) 3) := ⟨_, _, ⟨am_Jammed_come, i8, k8⟩, okk8, b8⟩
  have D_Away_come : MtE l.prog w K mg base 4 "come" cAway ["self"] (sp_st cReady cJammed cAway cNotNow (fun s => ∃ b, s = .aw b) 3) := ⟨_, _, ⟨am_Away_come, i16, k16⟩, okk16.lift, b16⟩
  have D_Printer_stands : MtE l.prog w K mg base 2 "stands" cPrinter ["self"] (sp_Pr_stands cPrinter cStock cReady cJammed cAway) := ⟨_, _, ⟨am_Printer_stands, i25, k25⟩, okk25.lift, b25⟩
  have okk36 : FnOk l.prog w K mg base (CXe l.prog w) 5 _ _ ["self"] (sp_Pr_turn 3 cNotNow cPrinter cStock cReady cJammed cAway) := ok_Printer_come F36 T D_Ready_come D_Jammed_come D_Away_come D_Printer_stands
  have okk6 : FnOk l.prog w K mg base (CXe l.prog w) 3 _ _ ["self"] (sp_st cReady cJammed cAway cNotNow (fun s => nextS 1 s = none) 1) := ok_State_mend F6 T X_NotNow
  have okk13 : FnOk l.prog w K mg base CX0 4 _ _ ["self"] (sp_st cReady cJammed cAway cNotNow (fun s => s = .jm) 1) := ok_Jammed_mend F13 T M_Ready
  have D_Ready_mend : MtE l.prog w K mg base 3 "mend" cReady ["self"] (sp_st cReady cJammed cAway cNotNow (fun s => nextS 1 s = none) 1) := ⟨_, _, ⟨am_Ready_mend, i6, k6⟩, okk6, b6⟩
  have D_Jammed_mend : MtE l.prog w K mg base 4 "mend" cJammed ["self"] (sp_st cReady cJammed cAway cNotNow (fun s => s = .jm) 1) := ⟨_, _, ⟨am_Jammed_mend, i13, k13⟩, okk13.lift, b13⟩
  have D_Away_mend : MtE l.prog w K mg base 3 "mend" cAway ["self"] (sp_st cReady cJammed cAway cNotNow (fun s => nextS 1 s = none) 1) := ⟨_, _, ⟨am_Away_mend, i6, k6⟩, okk6, b6⟩
  have okk35 : FnOk l.prog w K mg base (CXe l.prog w) 5 _ _ ["self"] (sp_Pr_turn 1 cNotNow cPrinter cStock cReady cJammed cAway) := ok_Printer_mend F35 T D_Ready_mend D_Jammed_mend D_Away_mend D_Printer_stands
  have D_Printer_jam : MtE l.prog w K mg base 5 "jam" cPrinter ["self", "saved"] (sp_Pr_jam cNotNow cTooMuch cPrinter cStock cReady cJammed cAway) := ⟨_, _, ⟨am_Printer_jam, i33, k33⟩, okk33, b33⟩
  have D_Printer_leave : MtE l.prog w K mg base 5 "leave" cPrinter ["self"] (sp_Pr_leave cNotNow cPrinter cStock cReady cJammed cAway) := ⟨_, _, ⟨am_Printer_leave, i34, k34⟩, okk34, b34⟩
  have D_Printer_come : MtE l.prog w K mg base 5 "come" cPrinter ["self"] (sp_Pr_turn 3 cNotNow cPrinter cStock cReady cJammed cAway) := ⟨_, _, ⟨am_Printer_come, i36, k36⟩, okk36, b36⟩
  have D_Printer_mend : MtE l.prog w K mg base 5 "mend" cPrinter ["self"] (sp_Pr_turn 1 cNotNow cPrinter cStock cReady cJammed cAway) := ⟨_, _, ⟨am_Printer_mend, i35, k35⟩, okk35, b35⟩
  have D__law_turned : Dfn l.prog w K mg base 6 "_law_turned" ["_law_script", "_law_k", "_law_printer", "_law_world_here"] (sp__law_turned K cPrinter cStock cReady cJammed cAway) := ⟨_, _, ok__law_turned F51 T D__law_by D_Printer_jam D_Printer_leave D_Printer_stands D_Printer_come D_Printer_mend, b51, k51, PySem.W.mg_of X G a51⟩
  have D__law_wholes : Dfn l.prog w K mg base 1 "_law_wholes" ["_law_found", "_law_due"] (sp__law_wholes K) := ⟨_, _, ok__law_wholes F45 T, b45, k45, PySem.W.mg_of X G a45⟩
  have okk29 : FnOk l.prog w K mg base CX0 1 _ _ ["self"] (sp_Pr_within cPrinter cStock cReady cJammed cAway) := ok_Printer_within F29 T
  have okk26 : FnOk l.prog w K mg base CX0 1 _ _ ["self"] (sp_Pr_papers cPrinter cStock cReady cJammed cAway) := ok_Printer_papers F26 T
  have okk28 : FnOk l.prog w K mg base (CXe l.prog w) 5 _ _ ["self"] (sp_Pr_ink_left cPrinter cStock cReady cJammed cAway) := ok_Printer_ink_left F28 T D_Stock_held
  have D_Printer_within : MtE l.prog w K mg base 1 "within" cPrinter ["self"] (sp_Pr_within cPrinter cStock cReady cJammed cAway) := ⟨_, _, ⟨am_Printer_within, i29, k29⟩, okk29.lift, b29⟩
  have D_Printer_papers : MtE l.prog w K mg base 1 "papers" cPrinter ["self"] (sp_Pr_papers cPrinter cStock cReady cJammed cAway) := ⟨_, _, ⟨am_Printer_papers, i26, k26⟩, okk26.lift, b26⟩
  have D_Printer_ink_left : MtE l.prog w K mg base 5 "ink_left" cPrinter ["self"] (sp_Pr_ink_left cPrinter cStock cReady cJammed cAway) := ⟨_, _, ⟨am_Printer_ink_left, i28, k28⟩, okk28, b28⟩
  have D__law_seen : Dfn l.prog w K mg base 6 "_law_seen" ["_law_printer", "_law_world_here"] (sp__law_seen cPrinter cStock cReady cJammed cAway) := ⟨_, _, ok__law_seen F46 T D__law_wholes D_Printer_stands D_Printer_within D_Printer_papers D_Printer_ink_left D_Printer_paper_left, b46, k46, PySem.W.mg_of X G a46⟩
  exact ok_law F52 T D__law_names D__law_world D__law_made D__law_by D__law_loaded D__law_inked D__law_turned D__law_seen
theorem walk {l : PySem.W.OpenLaw} {q : Program} {loose : List Str} {XP : (Str → Option Value) → Heap → Prop} {YP : World → Heap → Prop} {d : DefRec} {K : Params → PySem.W.Frag} (hn : l.most = some 63) (hdf : d.params.defaults = [])
    (hY : ∀ (w : World) (h : Heap), YP w h → (K w.params).In h)
    (F : ∀ (w : World) (mg : Str → Option Value) (fa : Addr) (h : Heap), (K w.params).In h → h.Ns mainGlobals mg → mg d.name = some (.ref fa) →
      ∃ fd : FuncData, (∀ (s : Shared) (u : Value), BindsTo s fd ⟨[u], []⟩ [("_law_script", u)]) ∧ ∀ base : Heap, (K w.params).In base → base.Ns mainGlobals mg → FnOk l.prog w (K w.params) mg base CX0 10 fa fd ["_law_script"] (sp_law (K w.params))) :
    PySem.W.WalkO q loose XP YP l.row.toRowW d [] (fun f vs => PySem.call f vs) :=
  L2.walk_of (n := 63) (k := 10) (x := "_law_script") (CX := fun _ => CX0) (sp := fun w => sp_law (K w.params)) hn (by decide) hdf ⟨rfl, by decide, by decide⟩ hY F (fun _ _ a ns hl _ hS => ⟨a, rfl, ⟨⟨ns, hS, hl⟩⟩, fun _ => rfl⟩) fun _ _ _ _ _ z => z
end My
open PySem PySem.W PyProof.Rows
set_option maxRecDepth 100000 in
set_option maxHeartbeats 0 in
theorem PySem.Challenge.cw_spoolhall_k13_a_printer_made_and_filled_holds : PySem.Challenge.rw_spoolhall_k13_a_printer_made_and_filled.Holds := by
  w_on; o_law; k_head; (case hw => w_witness2)
  k_fill
  refine My.walk (l := PySem.Challenge.rw_spoolhall_k13_a_printer_made_and_filled) rfl rfl (fun w h Y => PySem.W.kIn_of Y) ?F
  case F =>
    intro w mg fa h KX G hmg
    refine' My.all_mk KX G hmg ?aC_State ?aC_Ready ?aC_Jammed ?aC_Away ?aC_Stock ?aC_Printer ?aC_BadLine ?aC_Busy ?aC_Dry ?aC_GoesRound ?aC_NoHeap ?aC_NoPrinter ?aC_NotNow ?aC_NoWay ?aC_Nowhere ?aC_Over ?aC_TooMuch ?aC_Twice ?aC_Unknown ?aC_HallError ?a0 ?i0 ?l0 ?c0 ?k0 ?a1 ?i1 ?l1 ?c1 ?k1 ?a2 ?i2 ?l2 ?c2 ?k2 ?a3 ?i3 ?l3 ?c3 ?k3 ?a4 ?i4 ?l4 ?c4 ?k4 ?a5 ?i5 ?l5 ?c5 ?k5 ?a6 ?i6 ?l6 ?c6 ?k6 ?a7 ?i7 ?l7 ?c7 ?k7 ?a8 ?i8 ?l8 ?c8 ?k8 ?a9 ?i9 ?l9 ?c9 ?k9 ?a10 ?i10 ?l10 ?c10 ?k10 ?a11 ?i11 ?l11 ?c11 ?k11 ?a12 ?i12 ?l12 ?c12 ?k12 ?a13 ?i13 ?l13 ?c13 ?k13 ?a14 ?i14 ?l14 ?c14 ?k14 ?a15 ?i15 ?l15 ?c15 ?k15 ?a16 ?i16 ?l16 ?c16 ?k16 ?a17 ?i17 ?l17 ?c17 ?k17 ?a18 ?i18 ?l18 ?c18 ?k18 ?a19 ?i19 ?l19 ?c19 ?k19 ?a20 ?i20 ?l20 ?c20 ?k20 ?a21 ?i21 ?l21 ?c21 ?k21 ?a22 ?i22 ?l22 ?c22 ?k22 ?a23 ?i23 ?l23 ?c23 ?k23 ?a24 ?i24 ?l24 ?c24 ?k24 ?a25 ?i25 ?l25 ?c25 ?k25 ?a26 ?i26 ?l26 ?c26 ?k26 ?a27 ?i27 ?l27 ?c27 ?k27 ?a28 ?i28 ?l28 ?c28 ?k28 ?a29 ?i29 ?l29 ?c29 ?k29 ?a30 ?i30 ?l30 ?c30 ?k30 ?a31 ?i31 ?l31 ?c31 ?k31 ?a32 ?i32 ?l32 ?c32 ?k32 ?a33 ?i33 ?l33 ?c33 ?k33 ?a34 ?i34 ?l34 ?c34 ?k34 ?a35 ?i35 ?l35 ?c35 ?k35 ?a36 ?i36 ?l36 ?c36 ?k36 ?a37 ?l37 ?c37 ?k37 ?a38 ?l38 ?c38 ?k38 ?a39 ?l39 ?c39 ?k39 ?a40 ?l40 ?c40 ?k40 ?a41 ?l41 ?c41 ?k41 ?a42 ?l42 ?c42 ?k42 ?a43 ?l43 ?c43 ?k43 ?a44 ?l44 ?c44 ?k44 ?a45 ?l45 ?c45 ?k45 ?a46 ?l46 ?c46 ?k46 ?a47 ?l47 ?c47 ?k47 ?a48 ?l48 ?c48 ?k48 ?a49 ?l49 ?c49 ?k49 ?a50 ?l50 ?c50 ?k50 ?a51 ?l51 ?c51 ?k51 ?a52 ?l52 ?c52 ?k52 ?pg_State ?hd_State ?po_State ?sa_State ?mk_State ?kc_State ?na_State_word ?pg_Ready ?hd_Ready ?po_Ready ?sa_Ready ?mk_Ready ?kc_Ready ?na_Ready_word ?pg_Jammed ?hd_Jammed ?po_Jammed ?sa_Jammed ?mk_Jammed ?kc_Jammed ?na_Jammed_word ?pg_Away ?hd_Away ?po_Away ?sa_Away ?mk_Away ?kc_Away ?na_Away_word ?na_Away_jammed ?pg_Stock ?hd_Stock ?po_Stock ?sa_Stock ?mk_Stock ?kc_Stock ?na_Stock_rooms ?na_Stock_amounts ?pg_Printer ?hd_Printer ?po_Printer ?sa_Printer ?mk_Printer ?kc_Printer ?na_Printer_name ?na_Printer_can ?na_Printer_path ?na_Printer_rooms ?na_Printer_trays ?na_Printer_inks ?na_Printer_state ?na_Printer_inside ?xc_BadLine ?xm_BadLine ?kc_BadLine ?xc_Busy ?xm_Busy ?kc_Busy ?xc_Dry ?xm_Dry ?kc_Dry ?xc_GoesRound ?xm_GoesRound ?kc_GoesRound ?xc_NoHeap ?xm_NoHeap ?kc_NoHeap ?xc_NoPrinter ?xm_NoPrinter ?kc_NoPrinter ?xc_NotNow ?xm_NotNow ?kc_NotNow ?xc_NoWay ?xm_NoWay ?kc_NoWay ?xc_Nowhere ?xm_Nowhere ?kc_Nowhere ?xc_Over ?xm_Over ?kc_Over ?xc_TooMuch ?xm_TooMuch ?kc_TooMuch ?xc_Twice ?xm_Twice ?kc_Twice ?xc_Unknown ?xm_Unknown ?kc_Unknown ?am_Stock_know ?am_Stock_put_all ?am_Stock_know_all ?am_Ready_called ?am_Jammed_called ?am_Away_called ?am_Stock_held ?am_Stock_put ?am_Ready_jam ?am_Jammed_jam ?am_Away_jam ?am_Ready_leave ?am_Jammed_leave ?am_Away_leave ?am_Ready_mend ?am_Jammed_mend ?am_Away_mend ?am_Printer_stands ?am_Ready_come ?am_Jammed_come ?am_Away_come ?am_Printer_within ?am_Printer_papers ?am_Printer_ink_left ?am_Printer_paper_left ?am_Printer_load ?am_Printer_fill ?am_Printer_jam ?am_Printer_leave ?am_Printer_come ?am_Printer_mend ?ib1_State ?ib2_State ?ib3_State ?xq_HallError ?mh_Unknown_HallError ?mh_NotNow_HallError ?mh_TooMuch_HallError ?xcn ?xct ?xb1 ?xb2 ?xb3 ?xkt ?gREADY ?eREADY ?gJAMMED ?eJAMMED ?gOFF ?eOFF ?gBLACK ?eBLACK ?gCOLOUR ?eCOLOUR ?gWITHIN ?eWITHIN ?z_len ?z_range ?z_str ?z_int ?z_bool ?z_tuple ?z_list ?z_isinstance ?z_dict ?z_ValueError
    (case aC_State => k_is)
    (case aC_Ready => k_is)
    (case aC_Jammed => k_is)
    (case aC_Away => k_is)
    (case aC_Stock => k_is)
    (case aC_Printer => k_is)
    (case aC_BadLine => k_is)
    (case aC_Busy => k_is)
    (case aC_Dry => k_is)
    (case aC_GoesRound => k_is)
    (case aC_NoHeap => k_is)
    (case aC_NoPrinter => k_is)
    (case aC_NotNow => k_is)
    (case aC_NoWay => k_is)
    (case aC_Nowhere => k_is)
    (case aC_Over => k_is)
    (case aC_TooMuch => k_is)
    (case aC_Twice => k_is)
    (case aC_Unknown => k_is)
    (case aC_HallError => k_is)
    (case a0 => k_is)
    (case i0 => k_is)
    (case l0 => k_is)
    (case c0 => k_is)
    (case k0 => k_is)
    (case a1 => k_is)
    (case i1 => k_is)
    (case l1 => k_is)
    (case c1 => k_is)
    (case k1 => k_is)
    (case a2 => k_is)
    (case i2 => k_is)
    (case l2 => k_is)
    (case c2 => k_is)
    (case k2 => k_is)
    (case a3 => k_is)
    (case i3 => k_is)
    (case l3 => k_is)
    (case c3 => k_is)
    (case k3 => k_is)
    (case a4 => k_is)
    (case i4 => k_is)
    (case l4 => k_is)
    (case c4 => k_is)
    (case k4 => k_is)
    (case a5 => k_is)
    (case i5 => k_is)
    (case l5 => k_is)
    (case c5 => k_is)
    (case k5 => k_is)
    (case a6 => k_is)
    (case i6 => k_is)
    (case l6 => k_is)
    (case c6 => k_is)
    (case k6 => k_is)
    (case a7 => k_is)
    (case i7 => k_is)
    (case l7 => k_is)
    (case c7 => k_is)
    (case k7 => k_is)
    (case a8 => k_is)
    (case i8 => k_is)
    (case l8 => k_is)
    (case c8 => k_is)
    (case k8 => k_is)
    (case a9 => k_is)
    (case i9 => k_is)
    (case l9 => k_is)
    (case c9 => k_is)
    (case k9 => k_is)
    (case a10 => k_is)
    (case i10 => k_is)
    (case l10 => k_is)
    (case c10 => k_is)
    (case k10 => k_is)
    (case a11 => k_is)
    (case i11 => k_is)
    (case l11 => k_is)
    (case c11 => k_is)
    (case k11 => k_is)
    (case a12 => k_is)
    (case i12 => k_is)
    (case l12 => k_is)
    (case c12 => k_is)
    (case k12 => k_is)
    (case a13 => k_is)
    (case i13 => k_is)
    (case l13 => k_is)
    (case c13 => k_is)
    (case k13 => k_is)
    (case a14 => k_is)
    (case i14 => k_is)
    (case l14 => k_is)
    (case c14 => k_is)
    (case k14 => k_is)
    (case a15 => k_is)
    (case i15 => k_is)
    (case l15 => k_is)
    (case c15 => k_is)
    (case k15 => k_is)
    (case a16 => k_is)
    (case i16 => k_is)
    (case l16 => k_is)
    (case c16 => k_is)
    (case k16 => k_is)
    (case a17 => k_is)
    (case i17 => k_is)
    (case l17 => k_is)
    (case c17 => k_is)
    (case k17 => k_is)
    (case a18 => k_is)
    (case i18 => k_is)
    (case l18 => k_is)
    (case c18 => k_is)
    (case k18 => k_is)
    (case a19 => k_is)
    (case i19 => k_is)
    (case l19 => k_is)
    (case c19 => k_is)
    (case k19 => k_is)
    (case a20 => k_is)
    (case i20 => k_is)
    (case l20 => k_is)
    (case c20 => k_is)
    (case k20 => k_is)
    (case a21 => k_is)
    (case i21 => k_is)
    (case l21 => k_is)
    (case c21 => k_is)
    (case k21 => k_is)
    (case a22 => k_is)
    (case i22 => k_is)
    (case l22 => k_is)
    (case c22 => k_is)
    (case k22 => k_is)
    (case a23 => k_is)
    (case i23 => k_is)
    (case l23 => k_is)
    (case c23 => k_is)
    (case k23 => k_is)
    (case a24 => k_is)
    (case i24 => k_is)
    (case l24 => k_is)
    (case c24 => k_is)
    (case k24 => k_is)
    (case a25 => k_is)
    (case i25 => k_is)
    (case l25 => k_is)
    (case c25 => k_is)
    (case k25 => k_is)
    (case a26 => k_is)
    (case i26 => k_is)
    (case l26 => k_is)
    (case c26 => k_is)
    (case k26 => k_is)
    (case a27 => k_is)
    (case i27 => k_is)
    (case l27 => k_is)
    (case c27 => k_is)
    (case k27 => k_is)
    (case a28 => k_is)
    (case i28 => k_is)
    (case l28 => k_is)
    (case c28 => k_is)
    (case k28 => k_is)
    (case a29 => k_is)
    (case i29 => k_is)
    (case l29 => k_is)
    (case c29 => k_is)
    (case k29 => k_is)
    (case a30 => k_is)
    (case i30 => k_is)
    (case l30 => k_is)
    (case c30 => k_is)
    (case k30 => k_is)
    (case a31 => k_is)
    (case i31 => k_is)
    (case l31 => k_is)
    (case c31 => k_is)
    (case k31 => k_is)
    (case a32 => k_is)
    (case i32 => k_is)
    (case l32 => k_is)
    (case c32 => k_is)
    (case k32 => k_is)
    (case a33 => k_is)
    (case i33 => k_is)
    (case l33 => k_is)
    (case c33 => k_is)
    (case k33 => k_is)
    (case a34 => k_is)
    (case i34 => k_is)
    (case l34 => k_is)
    (case c34 => k_is)
    (case k34 => k_is)
    (case a35 => k_is)
    (case i35 => k_is)
    (case l35 => k_is)
    (case c35 => k_is)
    (case k35 => k_is)
    (case a36 => k_is)
    (case i36 => k_is)
    (case l36 => k_is)
    (case c36 => k_is)
    (case k36 => k_is)
    (case a37 => k_is)
    (case l37 => k_is)
    (case c37 => k_is)
    (case k37 => k_is)
    (case a38 => k_is)
    (case l38 => k_is)
    (case c38 => k_is)
    (case k38 => k_is)
    (case a39 => k_is)
    (case l39 => k_is)
    (case c39 => k_is)
    (case k39 => k_is)
    (case a40 => k_is)
    (case l40 => k_is)
    (case c40 => k_is)
    (case k40 => k_is)
    (case a41 => k_is)
    (case l41 => k_is)
    (case c41 => k_is)
    (case k41 => k_is)
    (case a42 => k_is)
    (case l42 => k_is)
    (case c42 => k_is)
    (case k42 => k_is)
    (case a43 => k_is)
    (case l43 => k_is)
    (case c43 => k_is)
    (case k43 => k_is)
    (case a44 => k_is)
    (case l44 => k_is)
    (case c44 => k_is)
    (case k44 => k_is)
    (case a45 => k_is)
    (case l45 => k_is)
    (case c45 => k_is)
    (case k45 => k_is)
    (case a46 => k_is)
    (case l46 => k_is)
    (case c46 => k_is)
    (case k46 => k_is)
    (case a47 => k_is)
    (case l47 => k_is)
    (case c47 => k_is)
    (case k47 => k_is)
    (case a48 => k_is)
    (case l48 => k_is)
    (case c48 => k_is)
    (case k48 => k_is)
    (case a49 => k_is)
    (case l49 => k_is)
    (case c49 => k_is)
    (case k49 => k_is)
    (case a50 => k_is)
    (case l50 => k_is)
    (case c50 => k_is)
    (case k50 => k_is)
    (case a51 => k_is)
    (case l51 => k_is)
    (case c51 => k_is)
    (case k51 => k_is)
    (case a52 => k_is)
    (case l52 => k_is)
    (case c52 => k_is)
    (case k52 => k_is)
    (case pg_State => k_is)
    (case hd_State => k_is)
    (case po_State => k_is)
    (case sa_State => k_is)
    (case mk_State => k_is)
    (case kc_State => k_is)
    (case na_State_word => k_is)
    (case pg_Ready => k_is)
    (case hd_Ready => k_is)
    (case po_Ready => k_is)
    (case sa_Ready => k_is)
    (case mk_Ready => k_is)
    (case kc_Ready => k_is)
    (case na_Ready_word => k_is)
    (case pg_Jammed => k_is)
    (case hd_Jammed => k_is)
    (case po_Jammed => k_is)
    (case sa_Jammed => k_is)
    (case mk_Jammed => k_is)
    (case kc_Jammed => k_is)
    (case na_Jammed_word => k_is)
    (case pg_Away => k_is)
    (case hd_Away => k_is)
    (case po_Away => k_is)
    (case sa_Away => k_is)
    (case mk_Away => k_is)
    (case kc_Away => k_is)
    (case na_Away_word => k_is)
    (case na_Away_jammed => k_is)
    (case pg_Stock => k_is)
    (case hd_Stock => k_is)
    (case po_Stock => k_is)
    (case sa_Stock => k_is)
    (case mk_Stock => k_is)
    (case kc_Stock => k_is)
    (case na_Stock_rooms => k_is)
    (case na_Stock_amounts => k_is)
    (case pg_Printer => k_is)
    (case hd_Printer => k_is)
    (case po_Printer => k_is)
    (case sa_Printer => k_is)
    (case mk_Printer => k_is)
    (case kc_Printer => k_is)
    (case na_Printer_name => k_is)
    (case na_Printer_can => k_is)
    (case na_Printer_path => k_is)
    (case na_Printer_rooms => k_is)
    (case na_Printer_trays => k_is)
    (case na_Printer_inks => k_is)
    (case na_Printer_state => k_is)
    (case na_Printer_inside => k_is)
    (case xc_BadLine => kernel_rfl)
    (case xm_BadLine => kernel_rfl)
    (case kc_BadLine => k_is)
    (case xc_Busy => kernel_rfl)
    (case xm_Busy => kernel_rfl)
    (case kc_Busy => k_is)
    (case xc_Dry => kernel_rfl)
    (case xm_Dry => kernel_rfl)
    (case kc_Dry => k_is)
    (case xc_GoesRound => kernel_rfl)
    (case xm_GoesRound => kernel_rfl)
    (case kc_GoesRound => k_is)
    (case xc_NoHeap => kernel_rfl)
    (case xm_NoHeap => kernel_rfl)
    (case kc_NoHeap => k_is)
    (case xc_NoPrinter => kernel_rfl)
    (case xm_NoPrinter => kernel_rfl)
    (case kc_NoPrinter => k_is)
    (case xc_NotNow => kernel_rfl)
    (case xm_NotNow => kernel_rfl)
    (case kc_NotNow => k_is)
    (case xc_NoWay => kernel_rfl)
    (case xm_NoWay => kernel_rfl)
    (case kc_NoWay => k_is)
    (case xc_Nowhere => kernel_rfl)
    (case xm_Nowhere => kernel_rfl)
    (case kc_Nowhere => k_is)
    (case xc_Over => kernel_rfl)
    (case xm_Over => kernel_rfl)
    (case kc_Over => k_is)
    (case xc_TooMuch => kernel_rfl)
    (case xm_TooMuch => kernel_rfl)
    (case kc_TooMuch => k_is)
    (case xc_Twice => kernel_rfl)
    (case xm_Twice => kernel_rfl)
    (case kc_Twice => k_is)
    (case xc_Unknown => kernel_rfl)
    (case xm_Unknown => kernel_rfl)
    (case kc_Unknown => k_is)
    (case am_Stock_know => k_is)
    (case am_Stock_put_all => k_is)
    (case am_Stock_know_all => k_is)
    (case am_Ready_called => k_is)
    (case am_Jammed_called => k_is)
    (case am_Away_called => k_is)
    (case am_Stock_held => k_is)
    (case am_Stock_put => k_is)
    (case am_Ready_jam => k_is)
    (case am_Jammed_jam => k_is)
    (case am_Away_jam => k_is)
    (case am_Ready_leave => k_is)
    (case am_Jammed_leave => k_is)
    (case am_Away_leave => k_is)
    (case am_Ready_mend => k_is)
    (case am_Jammed_mend => k_is)
    (case am_Away_mend => k_is)
    (case am_Printer_stands => k_is)
    (case am_Ready_come => k_is)
    (case am_Jammed_come => k_is)
    (case am_Away_come => k_is)
    (case am_Printer_within => k_is)
    (case am_Printer_papers => k_is)
    (case am_Printer_ink_left => k_is)
    (case am_Printer_paper_left => k_is)
    (case am_Printer_load => k_is)
    (case am_Printer_fill => k_is)
    (case am_Printer_jam => k_is)
    (case am_Printer_leave => k_is)
    (case am_Printer_come => k_is)
    (case am_Printer_mend => k_is)
    (case ib1_State => k_is)
    (case ib2_State => k_is)
    (case ib3_State => k_is)
    (case xq_HallError => kernel_rfl)
    (case mh_Unknown_HallError => kernel_rfl)
    (case mh_NotNow_HallError => kernel_rfl)
    (case mh_TooMuch_HallError => kernel_rfl)
    (case xcn => k_is)
    (case xct => k_is)
    (case xb1 => k_is)
    (case xb2 => k_is)
    (case xb3 => k_is)
    (case xkt => kernel_rfl)
    (case gREADY => k_is)
    (case eREADY => first | rfl | decide +kernel)
    (case gJAMMED => k_is)
    (case eJAMMED => first | rfl | decide +kernel)
    (case gOFF => k_is)
    (case eOFF => first | rfl | decide +kernel)
    (case gBLACK => k_is)
    (case eBLACK => first | rfl | decide +kernel)
    (case gCOLOUR => k_is)
    (case eCOLOUR => first | rfl | decide +kernel)
    (case gWITHIN => k_is)
    (case eWITHIN => first | rfl | decide +kernel)
    (case z_len => k_is)
    (case z_range => k_is)
    (case z_str => k_is)
    (case z_int => k_is)
    (case z_bool => k_is)
    (case z_tuple => k_is)
    (case z_list => k_is)
    (case z_isinstance => k_is)
    (case z_dict => k_is)
    (case z_ValueError => k_is)
#print axioms PySem.Challenge.cw_spoolhall_k13_a_printer_made_and_filled_holds
