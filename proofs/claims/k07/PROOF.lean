import PyProof.Rows.All
import Wide.All
import OpenK.AllK
import Wide.FinOn
import Lean
import PyProof.EqAt
import PyProof.EqKinds
import PyProof.TupleCall
import PyProof.EnumMake
import PyProof.Draws
import PySem.Challenge.RW_spoolhall_k07_written_and_read_back
set_option Elab.async false
set_option linter.all false
set_option maxRecDepth 100000
/-! THE HAND LAYER, for ints, bools, texts, own classes, LISTS and tuples (index, slices, in, append, pop ..), calls, loops. Paste it whole ahead of your own text; what your proof does not reach may be deleted. -/
namespace L2
open PySem PySem.Spec PyProof.Rows

/-- a key: an int or a str -/
abbrev Key := Sum Int Str
def keyIs : Key → Value → Bool
  | .inl k, v => Value.isInt k v
  | .inr x, v => Value.isStrOf x v
def keyH (w : World) : Key → Int
  | .inl k => hashInt k
  | .inr x => hashStr w x
theorem keyIs_shape : ∀ {k : Key} {v : Value}, keyIs k v = true → (∃ i t, k = Sum.inl i ∧ v = Value.int i t) ∨ (∃ x t, k = Sum.inr x ∧ v = Value.str x t)
  | .inl i, v, h => by
    obtain ⟨t, e⟩ := Value.isInt_shape (k := i) (v := v) h
    exact .inl ⟨i, t, rfl, e⟩
  | .inr x, v, h => by
    obtain ⟨t, e⟩ := Value.isStrOf_shape (x := x) (v := v) h
    exact .inr ⟨x, t, rfl, e⟩
theorem keyIs_int (i : Int) (t : Tok) : keyIs (.inl i) (.int i t) = true := by simp [keyIs, Value.isInt]
theorem keyIs_str (x : Str) (t : Tok) : keyIs (.inr x) (.str x t) = true := by simp [keyIs, Value.isStrOf]
theorem key_ll (a b : Int) : decide ((Sum.inl a : Key) = Sum.inl b) = (a == b) := by
  by_cases e : a = b
  · subst e; simp
  · have h : ¬ (Sum.inl a : Key) = Sum.inl b := fun q => e (Sum.inl.inj q)
    rw [decide_eq_false h]
    exact (beq_eq_false_iff_ne.mpr e).symm
theorem key_rr (a b : Str) : decide ((Sum.inr a : Key) = Sum.inr b) = decide (a = b) := by
  by_cases e : a = b
  · subst e; simp
  · have h : ¬ (Sum.inr a : Key) = Sum.inr b := fun q => e (Sum.inr.inj q)
    rw [decide_eq_false h, decide_eq_false e]
theorem key_lr (a : Int) (b : Str) : decide ((Sum.inl a : Key) = Sum.inr b) = false := decide_eq_false (fun q => nomatch q)
theorem key_rl (a : Str) (b : Int) : decide ((Sum.inr a : Key) = Sum.inl b) = false := decide_eq_false (fun q => nomatch q)

def mixKind (prog : Program) (w : World) : PySem.KeyKind prog w Key where
  is := keyIs
  hash := keyH w
  inj := fun v a b ha hb => by
    rcases keyIs_shape ha with ⟨i, t, rfl, rfl⟩ | ⟨x, t, rfl, rfl⟩
    · rcases keyIs_shape hb with ⟨j, u, rfl, e⟩ | ⟨y, u, rfl, e⟩
      · injection e with e1 _; rw [e1]
      · exact nomatch e
    · rcases keyIs_shape hb with ⟨j, u, rfl, e⟩ | ⟨y, u, rfl, e⟩
      · exact nomatch e
      · injection e with e1 _; rw [e1]
  byValue := fun k v h => by
    rcases keyIs_shape h with ⟨i, t, rfl, rfl⟩ | ⟨x, t, rfl, rfl⟩ <;> rfl
  pyHash := fun hv h => by
    rcases keyIs_shape hv with ⟨i, t, rfl, rfl⟩ | ⟨x, t, rfl, rfl⟩
    · exact wpAny_pyHash_int h
    · exact wpAny_pyHash_str h
  eqBool := fun hu hv h => by
    rcases keyIs_shape hu with ⟨i, t, rfl, rfl⟩ | ⟨x, t, rfl, rfl⟩
    · rcases keyIs_shape hv with ⟨j, u, rfl, rfl⟩ | ⟨y, u, rfl, rfl⟩
      · rw [key_ll] at h; exact wpAny_eqBool_int h
      · rw [key_lr] at h; exact SeqAt.EqAt.int_str i t y u _ _ _ _ h
    · rcases keyIs_shape hv with ⟨j, u, rfl, rfl⟩ | ⟨y, u, rfl, rfl⟩
      · rw [key_rl] at h; exact SeqAt.EqAt.str_int x t j u _ _ _ _ h
      · rw [key_rr] at h; exact wpAny_eqBool_str h
  «strs» := fun k x t v h => by
    rcases keyIs_shape h with ⟨i, u, rfl, e⟩ | ⟨y, u, rfl, e⟩
    · exact nomatch e
    · injection e with e1 _
      subst e1
      cases v <;> rfl

theorem mixKind_is (prog : Program) (w : World) (k : Key) (v : Value) : (mixKind prog w).is k v = keyIs k v := rfl
theorem mixKind_int (prog : Program) (w : World) (i : Int) (t : Tok) : (mixKind prog w).is (.inl i) (.int i t) = true := keyIs_int i t
theorem mixKind_str (prog : Program) (w : World) (x : Str) (t : Tok) : (mixKind prog w).is (.inr x) (.str x t) = true := keyIs_str x t
end L2

namespace L2
open PySem PySem.Spec PyProof.Rows

/-- a value, without the heap -/
inductive V where
  | non | bl (b : Bool) | int (i : Int) | str (x : Str) | byt (b : Array UInt8) | flt (b : UInt64) | ref (a : Addr) | ty (n : String)
  deriving DecidableEq

def RelV : V → Value → Prop
  | .non, u => u = Value.none
  | .bl b, u => u = Value.bool b
  | .int i, u => ∃ t, u = Value.int i t
  | .str x, u => ∃ t, u = Value.str x t
  | .byt b, u => ∃ t, u = Value.bytes b t
  | .flt b, u => ∃ t, u = Value.float b t
  | .ref a, u => u = Value.ref a
  | .ty n, u => u = Value.type n

abbrev Vals : List V → List Value → Prop := Paired RelV
theorem Vals.length {xs : List V} {us : List Value} (r : Vals xs us) : xs.length = us.length := Paired.length r
theorem Vals.get : ∀ {xs : List V} {us : List Value} {i : Nat} {x : V}, Vals xs us → xs[i]? = some x → ∃ u, us[i]? = some u ∧ RelV x u
  | _, _, _, _, .nil, e => by simp at e
  | _, _, 0, _, .cons r _, e => by simp at e; subst e; exact ⟨_, rfl, r⟩
  | _, _, i + 1, x, .cons _ t, e => by
    obtain ⟨u, h1, h2⟩ := Vals.get (i := i) (x := x) t (by simpa using e)
    exact ⟨u, by simpa using h1, h2⟩
theorem Vals.set {x : V} {u : Value} (r : RelV x u) : ∀ {xs : List V} {us : List Value} (i : Nat), Vals xs us → Vals (xs.set i x) (us.set i u)
  | _, _, _, .nil => .nil
  | _, _, 0, .cons _ t => .cons r t
  | _, _, i + 1, .cons q t => .cons q (Vals.set r i t)
theorem Vals.append : ∀ {xs ys : List V} {us ws : List Value}, Vals xs us → Vals ys ws → Vals (xs ++ ys) (us ++ ws)
  | _, _, _, _, .nil, s => s
  | _, _, _, _, .cons r t, s => .cons r (Vals.append t s)
theorem Vals.take : ∀ {xs : List V} {us : List Value} (n : Nat), Vals xs us → Vals (xs.take n) (us.take n)
  | _, _, 0, _ => .nil
  | _, _, _ + 1, .nil => .nil
  | _, _, n + 1, .cons r t => .cons r (Vals.take n t)
theorem Vals.drop : ∀ {xs : List V} {us : List Value} (n : Nat), Vals xs us → Vals (xs.drop n) (us.drop n)
  | _, _, 0, r => r
  | _, _, _ + 1, .nil => .nil
  | _, _, n + 1, .cons _ t => Vals.drop n t
theorem Vals.none_of : ∀ {xs : List V} {us : List Value} {i : Nat}, Vals xs us → xs[i]? = none → us[i]? = none := fun {xs us i} r e => by
  have h1 := r.length
  have h2 : xs.length ≤ i := List.getElem?_eq_none_iff.mp e
  exact List.getElem?_eq_none_iff.mpr (by omega)

def RelO : Option V → Option Value → Prop
  | some v, some u => RelV v u
  | none, none => True
  | _, _ => False
def KV {κ : Type} : List (κ × V) → List (κ × Value) → Prop := Paired fun (p : κ × V) (q : κ × Value) => p.1 = q.1 ∧ RelV p.2 q.2

/-- a key of a dict (00_mix): an int or a text -/
def kV : Key → V
  | .inl i => .int i
  | .inr x => .str x

/-- what stands at a tracked address -/
inductive HO where
  /-- a list -/
  | lst (xs : List V)
  /-- a tuple (never changes) -/
  | tup (xs : List V)
  /-- a dict whose keys are ints and texts; one whose keys are tuples of ints and texts (the empty one is both) -/
  | dK (kvs : List (Key × V)) | dT (kvs : List (List Key × V))
  /-- a set of ints: its members, its size -/
  | set (S : Int → Bool) (n : Nat)
  /-- an instance of the class at C, its dict at dx, its attributes -/
  | ins (C dx : Addr) (fs : List (Str × V))
  /-- the dict of the instance at x -/
  | own (x : Addr)
  /-- the dict of an exception -/
  | xd (fs : List (Str × V))
  /-- a bound method, f of x -/
  | met (f x : Addr)
  /-- a range object lo, lo + 1, .. below hi -/
  | rng (lo hi : Int)
  /-- a thing that is known to the object (the script; a dict while a loop walks it): read, never written while it is so -/
  | frz (o : Obj) (u : HO)
  /-- a code object's table -/
  | tbl (ps : Array Value)
  /-- any other thing, by what is true of its one object (a def of one's own: SetO a S n := HO.ext fun h => ..) -/
  | ext (φ : Heap → Prop)

abbrev Hp := Addr → Option HO
def upd (H : Hp) (a : Addr) (o : HO) : Hp := fun b => if b = a then some o else H b
theorem upd_same {H : Hp} {a : Addr} {o : HO} : upd H a o a = some o := by unfold upd; rw [if_pos rfl]
theorem upd_ne {H : Hp} {a b : Addr} {o : HO} (h : b ≠ a) : upd H a o b = H b := by unfold upd; rw [if_neg h]
theorem upd_upd {H : Hp} {a : Addr} {o u : HO} : upd (upd H a o) a u = upd H a u := by
  funext b; unfold upd; split <;> rfl
/-- two objects of different content stand apart -/
theorem ne_of {H : Hp} {a b : Addr} {o u : HO} (h : H a = some o) (h' : H b = some u) (d : o ≠ u) : a ≠ b := by
  intro e; subst e; rw [h] at h'; exact d (Option.some.inj h')
theorem ne_of_none {H : Hp} {a b : Addr} {o : HO} (h : H a = some o) (h' : H b = none) : a ≠ b := by
  intro e; subst e; rw [h] at h'; cases h'

section
variable (P : Program) (w : World)
def ObjOk (H : Hp) (h : Heap) (a : Addr) : HO → Prop
  | .lst xs => xs.length ≤ sizeLine ∧ ∃ (its : List Value) (n : Nat), Vals xs its ∧ h.get? a = some { cls := .type "list", data := .seq its.toArray n }
  | .tup xs => xs.length ≤ sizeLine ∧ ∃ its : List Value, Vals xs its ∧ IsTup h a its.toArray
  | .dK kvs => kvs.length ≤ sizeLine ∧ (a == sysModules) = false ∧ ∃ vs, KV kvs vs ∧ h.DictOf (mixKind P w) a vs
  | .dT kvs => kvs.length ≤ sizeLine ∧ (a == sysModules) = false ∧ ∃ xs : List (List Key × Addr × Value),
      Paired (fun (p : List Key × V) (q : List Key × Addr × Value) => p.1 = q.1 ∧ H q.2.1 = some (.tup (p.1.map kV)) ∧ RelV p.2 q.2.2) kvs xs ∧
      ∃ o es ep, h.get? a = some o ∧ o.ExactDict ∧ o.data = .dict es ep ∧ es.toList = xs.map (entryOfKey (tupleKind (mixKind P w))) ∧ (xs.map (·.1)).Nodup
  | .set S n => h.SetOf (intKind P w) a S n
  | .ins C dx fs => H dx = some (.own a) ∧ fs.length ≤ 1000 ∧ dx ≠ a ∧ h.get? a = some (PySem.W.instObj C dx) ∧
      ∃ mA, h.Ns1 dx mA ∧ (∀ f, RelO (fs.lookup f) (mA f)) ∧ PySem.Within mA (fs.map (·.1))
  | .own _ => ∃ o, h.get? a = some o
  | .xd fs => ∃ mA, h.Ns1 a mA ∧ ∀ f, RelO (fs.lookup f) (mA f)
  | .rng lo hi => ∃ t u v, h.get? a = some { cls := .type "range", data := .fields #[.int lo t, .int hi u, .int 1 v] }
  | .frz o u => h.get? a = some o ∧ ObjOk H h a u
  | .tbl ps => h.get? a = some { cls := .none, data := .fields ps }
  | .met f x => h.get? a = some (PySem.W.methodObj (.ref f) (.ref x))
  | .ext φ => φ h ∧ (∃ o, h.get? a = some o) ∧ ∀ h1 h2 : Heap, φ h1 → (∀ o, h1.get? a = some o → h2.get? a = some o) → φ h2
/-- the abstract heap is held -/
def HOk (H : Hp) (h : Heap) : Prop := ∀ a o, H a = some o → ObjOk P w H h a o
end

section
variable {P : Program} {w : World} {H H' : Hp} {h h' : Heap} {a : Addr} {o : HO}
theorem ObjOk.lt (x : ObjOk P w H h a o) : a < h.objs.size := by
  cases o with
  | lst xs => obtain ⟨_, _, _, _, e⟩ := x; exact Heap.lt_size e
  | tup xs => obtain ⟨_, _, _, p⟩ := x; exact p.lt
  | dK kvs => obtain ⟨_, _, _, _, o, _, _, e, _⟩ := x; exact Heap.lt_size e
  | dT kvs => obtain ⟨_, _, _, _, o, _, _, e, _⟩ := x; exact Heap.lt_size e
  | set S n => obtain ⟨o, _, _, _, e, _⟩ := x; exact Heap.lt_size e
  | ins C dx fs => obtain ⟨_, _, _, e, _⟩ := x; exact Heap.lt_size e
  | own y => obtain ⟨_, e⟩ := x; exact Heap.lt_size e
  | xd fs => obtain ⟨_, ⟨_, _, _, e, _⟩, _⟩ := x; exact Heap.lt_size e
  | rng lo hi => obtain ⟨_, _, _, e⟩ := x; exact Heap.lt_size e
  | frz ob u => obtain ⟨e, _⟩ := x; exact Heap.lt_size e
  | tbl ps => exact Heap.lt_size (show h.get? a = some _ from x)
  | met f y => exact Heap.lt_size (show h.get? a = some _ from x)
  | ext φ => obtain ⟨_, ⟨_, e⟩, _⟩ := x; exact Heap.lt_size e
theorem Paired.mapP {α β : Type} {F G : α → β → Prop} : ∀ {l₁ : List α} {l₂ : List β}, Paired F l₁ l₂ → (∀ a b, F a b → G a b) → Paired G l₁ l₂
  | _, _, .nil, _ => .nil
  | _, _, .cons r t, f => .cons (f _ _ r) (Paired.mapP t f)
theorem Paired.imp' {α β : Type} {F G : α → β → Prop} (f : ∀ a b, F a b → G a b) {l₁ : List α} {l₂ : List β} (r : Paired F l₁ l₂) : Paired G l₁ l₂ := Paired.mapP r f
/-- what an object's description leans on: its own object, its own dict, the tuples -/
theorem ObjOk.stay (x : ObjOk P w H h a o) (k : ∀ b u, (b = a ∨ H b = some (.own a)) → h.get? b = some u → h'.get? b = some u)
    (ho : ∀ b, H b = some (.own a) → H' b = some (.own a)) (ht : ∀ b xs, H b = some (.tup xs) → H' b = some (.tup xs)) : ObjOk P w H' h' a o := by
  induction o with
  | lst xs => obtain ⟨z, its, n, r, e⟩ := x; exact ⟨z, its, n, r, k _ _ (.inl rfl) e⟩
  | tup xs => obtain ⟨z, its, r, ob, e, c⟩ := x; exact ⟨z, its, r, ob, k _ _ (.inl rfl) e, c⟩
  | dK kvs => obtain ⟨z, y, vs, r, ob, es, ep, e, c⟩ := x; exact ⟨z, y, vs, r, ob, es, ep, k _ _ (.inl rfl) e, c⟩
  | dT kvs =>
    obtain ⟨z, y, xs, r, ob, es, ep, e, c⟩ := x
    exact ⟨z, y, xs, Paired.mapP r fun p q z => ⟨z.1, ht _ _ z.2.1, z.2.2⟩, ob, es, ep, k _ _ (.inl rfl) e, c⟩
  | set S n => obtain ⟨ob, es, ep, t, e, c⟩ := x; exact ⟨ob, es, ep, t, k _ _ (.inl rfl) e, c⟩
  | ins C dx fs =>
    obtain ⟨d, z, ne, e, mA, ⟨od, es, ep, e2, c⟩, r⟩ := x
    exact ⟨ho _ d, z, ne, k _ _ (.inl rfl) e, mA, ⟨od, es, ep, k _ _ (.inr d) e2, c⟩, r⟩
  | own y => obtain ⟨ob, e⟩ := x; exact ⟨ob, k _ _ (.inl rfl) e⟩
  | xd fs => obtain ⟨mA, ⟨od, es, ep, e, c⟩, r⟩ := x; exact ⟨mA, ⟨od, es, ep, k _ _ (.inl rfl) e, c⟩, r⟩
  | rng lo hi => obtain ⟨t, u, v, e⟩ := x; exact ⟨t, u, v, k _ _ (.inl rfl) e⟩
  | frz ob u ih => obtain ⟨e, q⟩ := x; exact ⟨k _ _ (.inl rfl) e, ih q⟩
  | tbl ps =>
    have e : h.get? a = some { cls := .none, data := .fields ps } := x
    show h'.get? a = some { cls := .none, data := .fields ps }
    exact k a _ (.inl rfl) e
  | met f y =>
    have e : h.get? a = some (PySem.W.methodObj (.ref f) (.ref y)) := x
    show h'.get? a = some (PySem.W.methodObj (.ref f) (.ref y))
    exact k a _ (.inl rfl) e
  | ext φ => obtain ⟨p, ⟨o, e⟩, st⟩ := x; exact ⟨st _ _ p fun o q => k _ _ (.inl rfl) q, ⟨o, k _ _ (.inl rfl) e⟩, st⟩
theorem HOk.lt (x : HOk P w H h) (e : H a = some o) : a < h.objs.size := (x a o e).lt
theorem HOk.fresh (x : HOk P w H h) (e : h.objs.size ≤ a) : H a = none := by
  cases q : H a with
  | none => rfl
  | some u => exact absurd (Nat.lt_of_lt_of_le (x.lt q) e) (Nat.lt_irrefl _)
/-- every object of the heap is kept -/
theorem HOk.kept (x : HOk P w H h) (k : ∀ b u, h.get? b = some u → h'.get? b = some u) : HOk P w H h' := fun a o e =>
  (x a o e).stay (fun b u _ q => k b u q) (fun _ q => q) fun _ _ q => q
/-- a new object is laid and tracked -/
theorem HOk.laid (x : HOk P w H h) (k : ∀ b u, h.get? b = some u → h'.get? b = some u) (hp : h.objs.size ≤ a) (new : ObjOk P w (upd H a o) h' a o) : HOk P w (upd H a o) h' := fun b u e => by
  have hn := x.fresh hp
  by_cases hb : b = a
  · subst hb; rw [upd_same] at e; cases e; exact new
  · rw [upd_ne hb] at e
    exact (x b u e).stay (fun c v _ q => k c v q) (fun c q => by rw [upd_ne (ne_of_none q hn)]; exact q) fun c xs q => by rw [upd_ne (ne_of_none q hn)]; exact q
end

/-- what may be read as u: it is u, or a known u -/
def Rd (H : Hp) (a : Addr) (u : HO) : Prop := H a = some u ∨ ∃ o, H a = some (.frz o u)
theorem Rd.of {H : Hp} {a : Addr} {u : HO} (h : H a = some u) : Rd H a u := .inl h
theorem Rd.ok {P : Program} {w : World} {H : Hp} {h : Heap} {a : Addr} {u : HO} (r : Rd H a u) (x : HOk P w H h) : ObjOk P w H h a u := by
  rcases r with r | ⟨o, r⟩
  · exact x a u r
  · obtain ⟨_, q⟩ := x a _ r
    exact q
/-- what may be written -/
def Mut : Option HO → Prop
  | some (.lst _) => True
  | some (.dK _) => True
  | some (.dT _) => True
  | some (.set _ _) => True
  | some (.ins _ _ _) => True
  | some (.ext _) => True
  | _ => False
section
variable {P : Program} {w : World} {H : Hp} {h h' : Heap} {x e : Addr} {o' : HO}
/-- the object at e is changed: x itself, or the dict of the instance x -/
theorem HOk.write (ok : HOk P w H h) (mu : Mut (H x)) (he : e = x ∨ H e = some (.own x)) (k : ∀ b u, b ≠ e → h.get? b = some u → h'.get? b = some u) (heo : ∃ u, h'.get? e = some u)
    (new : ObjOk P w (upd H x o') h' x o') : HOk P w (upd H x o') h' := fun b u q => by
  have nown : ∀ c y, H c = some (.own y) → c ≠ x := fun c y r z => by subst z; rw [r] at mu; exact mu
  have ntup : ∀ c xs, H c = some (.tup xs) → c ≠ x := fun c xs r z => by subst z; rw [r] at mu; exact mu
  by_cases hb : b = x
  · subst hb; rw [upd_same] at q; cases q; exact new
  · rw [upd_ne hb] at q
    by_cases hbe : b = e
    · have q' : H b = some (.own x) := by
        rcases he with z | z
        · exact absurd (hbe.trans z) hb
        · rw [hbe]; exact z
      rw [q] at q'; cases q'
      obtain ⟨v, hv⟩ := heo
      exact ⟨v, by rw [hbe]; exact hv⟩
    · refine (ok b u q).stay (fun c v hc r => k c v ?_ r) (fun c r => by rw [upd_ne (nown c b r)]; exact r) fun c xs r => by rw [upd_ne (ntup c xs r)]; exact r
      rcases hc with rfl | hc
      · exact hbe
      · rintro rfl
        rcases he with z | z
        · exact nown c b hc z
        · rw [hc] at z; cases z; exact hb rfl
end

/-! ### kept unless tracked; of the frames at fs (the callers') the slots may change (an exception that passes writes there); of the records at ex (iterators) nothing is said -/
structure Un (fs ex : List Addr) (H H' : Hp) (h h' : Heap) : Prop where
  keep : ∀ b o, h.get? b = some o → H b = none → b ∉ fs → b ∉ ex → h'.get? b = some o
  slot : ∀ b o, h.get? b = some o → H b = none → b ∈ fs → b ∉ ex → ∃ sl, h'.get? b = some { o with slots := sl }
  free : ∀ b o, h.get? b = some o → H b = none → b ∉ ex → H' b = none
  there : ∀ b o, h.get? b = some o → b ∉ ex → ∃ o', h'.get? b = some o'
  tups : ∀ b xs, H b = some (.tup xs) → H' b = some (.tup xs)
  frzs : ∀ b o u, H b = some (.frz o u) → H' b = some (.frz o u)
  tbls : ∀ b ps, H b = some (.tbl ps) → ∃ more, H' b = some (.tbl (ps ++ more))
section
variable {fs fs' ex ex' : List Addr} {H H1 H2 : Hp} {h h1 h2 h' : Heap} {a x e : Addr} {o : HO}
theorem Un.any (u : Un fs ex H H1 h h1) {b : Addr} {ob : Obj} (q : h.get? b = some ob) (n : H b = none) (hx : b ∉ ex) : ∃ sl, h1.get? b = some { ob with slots := sl } := by
  by_cases hb : b ∈ fs
  · exact u.slot b ob q n hb hx
  · exact ⟨ob.slots, u.keep b ob q n hb hx⟩
theorem Un.trans (a : Un fs ex H H1 h h1) (b : Un fs ex H1 H2 h1 h2) : Un fs ex H H2 h h2 where
  keep := fun c ob q n hc hx => b.keep c ob (a.keep c ob q n hc hx) (a.free c ob q n hx) hc hx
  slot := fun c ob q n hc hx => by
    obtain ⟨sl, e1⟩ := a.slot c ob q n hc hx
    obtain ⟨sl', e2⟩ := b.slot c _ e1 (a.free c ob q n hx) hc hx
    exact ⟨sl', e2⟩
  free := fun c ob q n hx => by
    obtain ⟨o', e1⟩ := a.there c ob q hx
    exact b.free c o' e1 (a.free c ob q n hx) hx
  there := fun c ob q hx => by
    obtain ⟨o', e1⟩ := a.there c ob q hx
    exact b.there c o' e1 hx
  tups := fun c xs q => b.tups c xs (a.tups c xs q)
  frzs := fun c ob xs q => b.frzs c ob xs (a.frzs c ob xs q)
  tbls := fun c ps q => by
    obtain ⟨m1, e1⟩ := a.tbls c ps q
    obtain ⟨m2, e2⟩ := b.tbls c _ e1
    exact ⟨m1 ++ m2, by rw [e2, Array.append_assoc]⟩
theorem Un.kept (k : ∀ b u, h.get? b = some u → h'.get? b = some u) : Un fs ex H H h h' :=
  ⟨fun b ob q _ _ _ => k b ob q, fun b ob q _ _ _ => ⟨ob.slots, k b ob q⟩, fun _ _ _ n _ => n, fun b ob q _ => ⟨ob, k b ob q⟩, fun _ _ q => q, fun _ _ _ q => q, fun _ ps q => ⟨#[], by rw [q]; simp⟩⟩
theorem Un.refl : Un fs ex H H h h := Un.kept fun _ _ q => q
theorem Un.laid (k : ∀ b u, h.get? b = some u → h'.get? b = some u) (hp : h.objs.size ≤ a) (hn : H a = none) : Un fs ex H (upd H a o) h h' where
  keep := fun b u q _ _ _ => k b u q
  slot := fun b u q _ _ _ => ⟨u.slots, k b u q⟩
  free := fun b u q n _ => by rw [upd_ne (Nat.ne_of_lt (Nat.lt_of_lt_of_le (Heap.lt_size q) hp))]; exact n
  there := fun b u q _ => ⟨u, k b u q⟩
  tups := fun b xs q => by rw [upd_ne (ne_of_none q hn)]; exact q
  frzs := fun b u xs q => by rw [upd_ne (ne_of_none q hn)]; exact q
  tbls := fun b ps q => ⟨#[], by rw [upd_ne (ne_of_none q hn), q]; simp⟩
theorem Un.write (mu : Mut (H x)) (he : e = x ∨ H e = some (.own x)) (k : ∀ b u, b ≠ e → h.get? b = some u → h'.get? b = some u) (heo : ∃ u, h'.get? e = some u) : Un fs ex H (upd H x o) h h' := by
  have hx : ∀ b, H b = none → b ≠ x := fun b n z => by subst z; rw [n] at mu; exact mu
  have hb : ∀ b, H b = none → b ≠ e := fun b n z => by
    subst z
    rcases he with r | r
    · exact hx b n r
    · rw [n] at r; cases r
  have hm : ∀ b u, H b = some u → ¬ Mut (some u) → b ≠ x := fun b u q nm z => by subst z; rw [q] at mu; exact nm mu
  refine ⟨fun b u q n _ _ => k b u (hb b n) q, fun b u q n _ _ => ⟨u.slots, k b u (hb b n) q⟩, fun b u q n _ => by rw [upd_ne (hx b n)]; exact n, fun b u q _ => ?_,
    fun b xs q => by rw [upd_ne (hm b _ q fun z => z)]; exact q, fun b u xs q => by rw [upd_ne (hm b _ q fun z => z)]; exact q, fun b ps q => ⟨#[], by rw [upd_ne (hm b _ q fun z => z), q]; simp⟩⟩
  by_cases hbe : b = e
  · subst hbe; exact heo
  · exact ⟨u, k b u hbe q⟩
theorem Un.mono (u : Un fs ex H H1 h h1) (hs : ∀ b ∈ fs, b ∈ fs') (hx : ∀ b ∈ ex, b ∈ ex') : Un fs' ex' H H1 h h1 :=
  ⟨fun b ob q n hb he => u.keep b ob q n (fun z => hb (hs b z)) fun z => he (hx b z), fun _ _ q n _ he => u.any q n fun z => he (hx _ z), fun b ob q n he => u.free b ob q n fun z => he (hx b z), fun b ob q he => u.there b ob q fun z => he (hx b z), u.tups, u.frzs, u.tbls⟩
end

/-! ### the heap without what is tracked -/
def trk (h : Heap) (H : Hp) : List Addr := (List.range h.objs.size).filter fun a => (H a).isSome
def hidT (h : Heap) (H : Hp) : Heap := PySem.W.hideAll h (trk h H)
theorem hidT_size (h : Heap) (H : Hp) : (hidT h H).objs.size = h.objs.size := PySem.W.hideAll_size _ _
theorem hidT_get {h : Heap} {H : Hp} {b : Addr} {o : Obj} (e : h.get? b = some o) (n : H b = none) : (hidT h H).get? b = some o :=
  PySem.W.hideAll_get _ e fun hm => by
    have q : (H b).isSome = true := (List.mem_filter.mp hm).2
    rw [n] at q; simp at q
theorem of_hidT {h : Heap} {H : Hp} {b : Addr} {o : Obj} (e : (hidT h H).get? b = some o) : h.get? b = some o ∧ H b = none := by
  have e' : h.get? b = some o := PySem.W.of_hideAll (trk h H) e
  refine ⟨e', ?_⟩
  cases q : H b with
  | none => rfl
  | some x =>
    have hm : b ∈ trk h H := List.mem_filter.mpr ⟨List.mem_range.mpr (Heap.lt_size e'), by simp [q]⟩
    have z : (hidT h H).get? b = none := PySem.W.hideAll_none (trk h H) hm
    rw [z] at e; cases e

/-! ### OpenK's ledger, filled with every new object but one -/
def allNews (g h : Heap) (L : Addr) : List (Addr × Obj) := (List.range h.objs.size).filterMap fun a => if a = L ∨ (g.get? a).isSome = true then none else (h.get? a).map fun o => (a, o)
theorem mem_allNews {g h : Heap} {L a : Addr} {o : Obj} (h1 : a ≠ L) (h2 : g.get? a = none) (h3 : h.get? a = some o) : (a, o) ∈ allNews g h L :=
  List.mem_filterMap.mpr ⟨a, List.mem_range.mpr (Heap.lt_size h3), by simp [h1, h2, h3]⟩
theorem of_mem_allNews {g h : Heap} {L : Addr} {p : Addr × Obj} (hp : p ∈ allNews g h L) : p.1 ≠ L ∧ g.get? p.1 = none ∧ h.get? p.1 = some p.2 := by
  obtain ⟨b, _, e⟩ := List.mem_filterMap.mp hp
  split at e
  · cases e
  · rename_i hn
    cases q : h.get? b with
    | none => rw [q] at e; simp at e
    | some u =>
      rw [q] at e
      simp only [Option.map_some, Option.some.injEq] at e
      subst e
      refine ⟨fun z => hn (.inl z), ?_, q⟩
      show g.get? b = none
      cases r : g.get? b with
      | none => rfl
      | some v => exact (hn (.inr (by simp [r]))).elim
def rest (g h : Heap) (L d : Addr) : List (Addr × Obj) := (allNews g h L).filter fun p => decide (p.1 ≠ d)
theorem rest_ne {g h : Heap} {L d : Addr} : ∀ p ∈ rest g h L d, p.1 ≠ d := fun p hp => of_decide_eq_true (List.mem_filter.mp hp).2
theorem mem_rest {g h : Heap} {L d a : Addr} {o : Obj} (h1 : a ≠ L) (h2 : g.get? a = none) (h3 : h.get? a = some o) (h4 : a ≠ d) : (a, o) ∈ rest g h L d :=
  List.mem_filter.mpr ⟨mem_allNews h1 h2 h3, decide_eq_true h4⟩
theorem news_all {g h : Heap} {L : Addr} : News g L h (allNews g h L) := fun p hp => let ⟨a, b, c⟩ := of_mem_allNews hp; ⟨c, a, b⟩
theorem news_at {g h : Heap} {L d : Addr} {o : Obj} (h1 : d ≠ L) (h2 : g.get? d = none) (h3 : h.get? d = some o) : News g L h ((d, o) :: rest g h L d) := fun p hp => by
  rcases List.mem_cons.mp hp with rfl | hp
  · exact ⟨h3, h1, h2⟩
  · exact news_all p (List.mem_filter.mp hp).1
/-- behind a rule that changed d alone: all else but the frame is kept -/
theorem kept_of_news {g h h' : Heap} {L d : Addr} {m : Str → Option Value} (k : ∀ b o, g.get? b = some o → h.get? b = some o) (F : Fr g L h' m) (N : News g L h' (rest g h L d)) :
    ∀ b o, b ≠ L → b ≠ d → h.get? b = some o → h'.get? b = some o := fun b o h1 h2 e => by
  cases q : g.get? b with
  | some u =>
    have := k b u q
    rw [e] at this; cases this
    exact F.keep b _ q
  | none => exact (N (b, o) (mem_rest h1 q e h2)).1
end L2

namespace L2
open PySem PySem.Spec PyProof.Rows

/-- the module's facts, over the base: the heap at the law's entry without what is tracked there -/
structure Mod (K : PySem.W.Frag) (mg : Str → Option Value) (base : Heap) : Prop where
  kin : K.In base
  glob : base.Ns mainGlobals mg
  blt : ∃ mb, base.Ns builtinsNs mb ∧ ∀ x : Str, x ≠ "__name__" → mb x = bootBuiltins x
  nolimit : base.NoLimit

/-- the context: a def's body (or a comprehension's block) running. base: fixed through the whole law; s₀, H₀: the entry; outer: the frames whose slots others may change (a def's callers); stack: all frames that run;
   ex: iterators that were made ahead of the entry and are walked here (a comprehension's); fn: the names whose cells were made at the entry (a def: all; a comprehension's block: its own); calm: not within an except suite; pn: pins that every state bears; xe: what is wanted of an exception that leaves the code -/
structure Cx where
  prog : Program
  w : World
  K : PySem.W.Frag
  mg : Str → Option Value
  base : Heap
  A : Around
  N : List Str
  s₀ : Shared
  H₀ : Hp
  env : Env
  outer : List Env
  stack : List Env
  ex : List Addr
  fn : Str → Bool
  calm : Bool
  pn : List (Addr × Obj)
  xe : Value → Shared → Prop
/-- the callers' frames -/
def frs (l : List Env) : List Addr := l.filterMap (·.frame)
abbrev Cx.fs (X : Cx) : List Addr := frs X.outer

def Vis (sc : Scope) (x : Str) : Prop := sc.names.lookup x = some .local ∨ sc.names.lookup x = some .cell ∨ sc.names.lookup x = some .free
def Loc (sc : Scope) (x : Str) : Prop := sc.names.lookup x = some .local ∨ sc.names.lookup x = some .cell
def Look (env : Env) (h : Heap) (m : Str → Option Value) (x : Str) (u : Value) : Prop :=
  (env.kindOf x = some .local ∧ m x = some u) ∨ ((env.kindOf x = some .cell ∨ env.kindOf x = some .free) ∧ ∃ c, env.cells.lookup x = some c ∧ h.IsCell c (some u))

structure Cx.Ok (X : Cx) : Prop where
  mod : Mod X.K X.mg X.base
  kind : X.env.scope.kind = .function
  glob : X.env.globals = mainGlobals
  blt : X.env.builtins = builtinsNs
  above : X.s₀.heap.objs.size ≤ X.env.locals
  inj : ∀ x y c, X.env.cells.lookup x = some c → X.env.cells.lookup y = some c → x = y
  has : ∀ x, (X.env.kindOf x = some .cell ∨ X.env.kindOf x = some .free) → ∃ c, X.env.cells.lookup x = some c
  cab : ∀ x c, X.fn x = true → X.env.cells.lookup x = some c → X.s₀.heap.objs.size ≤ c
  hd : X.calm = true → X.A.handled = none
  frames : X.A.frames = some X.stack
  stk : X.stack = X.outer ∨ (X.stack = X.env :: X.outer ∧ X.env.frame = some X.env.locals)
  exf : ∀ b ∈ X.ex, b ≠ X.env.locals ∧ ∀ x c, X.env.cells.lookup x = some c → c ≠ b
  bs : ∀ b o, X.base.get? b = some o → X.s₀.heap.get? b = some o ∧ X.H₀ b = none
  bsz : X.base.objs.size ≤ X.s₀.heap.objs.size
  noex : ∀ b o, X.base.get? b = some o → b ∉ X.ex
  exfs : ∀ b ∈ X.ex, b ∉ X.fs
  funs : X.s₀.heap.FunFrames X.base X.outer
  frf : ∀ b ∈ X.fs, X.H₀ b = none

structure Inv (X : Cx) (pins : List (Addr × Obj)) (σ : List (Option V)) (H : Hp) (s : Shared) : Prop where
  ok : X.Ok
  os : s.os = X.s₀.os
  bare : AllBare s.gens
  base : Un X.fs X.ex X.H₀ H X.s₀.heap s.heap
  loc : ∃ m, s.heap.Ns X.env.locals m ∧ ∀ (i : Nat) (x : Str) (v : V), X.N[i]? = some x → σ[i]? = some (some v) → Vis X.env.scope x → ∃ u, RelV v u ∧ Look X.env s.heap m x u
  cell : ∀ x c, X.env.cells.lookup x = some c → ∃ v, s.heap.IsCell c v
  free : H X.env.locals = none
  freeC : ∀ x c, X.env.cells.lookup x = some c → H c = none
  pin : ∀ p ∈ X.pn ++ pins, s.heap.get? p.1 = some p.2 ∧ H p.1 = none ∧ p.1 ≠ X.env.locals ∧ p.1 ∉ X.fs ∧ ∀ v, p.2.data ≠ .cell v
  hok : HOk X.prog X.w H s.heap
  len : σ.length = X.N.length

section
variable {X : Cx} {pins : List (Addr × Obj)} {σ : List (Option V)} {H H' : Hp} {s : Shared} {h' : Heap}

theorem Cx.Ok.nofr (ok : X.Ok) {b : Addr} {o : Obj} (e : X.base.get? b = some o) : b ∉ X.fs := fun hb => by
  have := (ok.funs.mem hb).1
  rw [e] at this; cases this
theorem Inv.bs (I : Inv X pins σ H s) : ∀ b o, X.base.get? b = some o → s.heap.get? b = some o ∧ H b = none := fun b o e =>
  ⟨I.base.keep b o (I.ok.bs b o e).1 (I.ok.bs b o e).2 (I.ok.nofr e) (I.ok.noex b o e), I.base.free b o (I.ok.bs b o e).1 (I.ok.bs b o e).2 (I.ok.noex b o e)⟩
theorem Inv.bk (I : Inv X pins σ H s) : ∀ b o, X.base.get? b = some o → s.heap.get? b = some o := fun b o e => (I.bs b o e).1
theorem Inv.mod (I : Inv X pins σ H s) : Mod X.K X.mg X.base := I.ok.mod
theorem Inv.kIn (I : Inv X pins σ H s) : X.K.In s.heap := I.ok.mod.kin.keeps I.bk
theorem Inv.nolimit (I : Inv X pins σ H s) : s.heap.NoLimit := I.ok.mod.nolimit.keeps I.bk
/-- the frame over the base: for OpenK's rules (K.In X.base is I.mod.kin) -/
theorem Inv.fr (I : Inv X pins σ H s) : ∃ m, Fr X.base X.env.locals s.heap m :=
  let ⟨m, hn, _⟩ := I.loc
  ⟨m, hn, I.bk, Nat.le_trans I.ok.bsz I.ok.above⟩
theorem Inv.lt (I : Inv X pins σ H s) : X.env.locals < s.heap.objs.size := let ⟨_, hn, _⟩ := I.loc; hn.lt
theorem Inv.sz (I : Inv X pins σ H s) : X.s₀.heap.objs.size ≤ s.heap.objs.size := Nat.le_trans I.ok.above (Nat.le_of_lt I.lt)
theorem Inv.nofs (I : Inv X pins σ H s) {a : Addr} (h : s.heap.objs.size ≤ a) : a ∉ X.fs := fun hb => by
  obtain ⟨_, o, ho, _⟩ := I.ok.funs.mem hb
  exact absurd (Nat.lt_of_lt_of_le (Heap.lt_size ho) (Nat.le_trans I.sz h)) (Nat.lt_irrefl _)
theorem Inv.cne (I : Inv X pins σ H s) : ∀ x c, X.env.cells.lookup x = some c → c ≠ X.env.locals := fun x c e z => by
  obtain ⟨v, o, ho, hd⟩ := I.cell x c e
  obtain ⟨m, ⟨o', es, ep, ho', hd', _⟩, _⟩ := I.loc
  rw [z, ho'] at ho; cases ho; rw [hd'] at hd; cases hd
theorem Inv.funs (I : Inv X pins σ H s) : s.heap.FunFrames X.base X.outer := by
  have all : ∀ (l : List Env), (∀ b ∈ frs l, b ∈ X.fs) → X.s₀.heap.FunFrames X.base l → s.heap.FunFrames X.base l := by
    intro l
    induction l with
    | nil => intro _ _; trivial
    | cons env r ih =>
      intro hs hl
      obtain ⟨hk, ⟨L, o, hf, hn, ho, hd⟩, hr⟩ := hl
      have hL : L ∈ X.fs := hs L (by unfold frs; rw [List.filterMap_cons, hf]; exact List.mem_cons_self)
      obtain ⟨sl, e⟩ := I.base.slot L o ho (I.ok.frf L hL) hL fun z => I.ok.exfs L z hL
      exact ⟨hk, ⟨L, _, hf, hn, e, hd⟩, ih (fun b hb => hs b (by unfold frs; rw [List.filterMap_cons, hf]; exact List.mem_cons_of_mem _ hb)) hr⟩
  exact all X.outer (fun _ hb => hb) I.ok.funs

/-- the frames that run, for a call -/
theorem Inv.stack (I : Inv X pins σ H s) : s.heap.FunFrames X.base X.stack := by
  rcases I.ok.stk with e | ⟨e, hf⟩
  · rw [e]; exact I.funs
  · rw [e]
    obtain ⟨m, hn, _⟩ := I.loc
    refine .cons (by rw [I.ok.kind]; decide) hf hn ?_ I.funs
    exact Heap.get?_none_of_le (Nat.le_trans I.ok.bsz I.ok.above)
theorem Inv.stkSub (I : Inv X pins σ H s) : ∀ b ∈ frs X.stack, b ∈ X.env.locals :: X.fs := fun b hb => by
  rcases I.ok.stk with e | ⟨e, hf⟩
  · rw [e] at hb; exact List.mem_cons_of_mem _ hb
  · rw [e] at hb
    unfold frs at hb
    rw [List.filterMap_cons, hf] at hb
    exact hb
theorem Inv.stkFree (I : Inv X pins σ H s) : ∀ b ∈ frs X.stack, H b = none := fun b hb => by
  rcases List.mem_cons.mp (I.stkSub b hb) with e | hb
  · rw [e]; exact I.free
  · obtain ⟨_, o, ho, _⟩ := I.ok.funs.mem hb
    exact I.base.free b o ho (I.ok.frf b hb) fun z => I.ok.exfs b z hb

/-- THE STEP: the untracked objects but the frame and the records at ch are kept (the callers' frames up to slots), the frame's map is kept, the new abstract heap is held -/
theorem Inv.step {g' : Array GenState} {t' : Nat} {d' : Drawn} {ch : List Addr} (I : Inv X pins σ H s)
    (hch : ∀ b ∈ ch, (b ∈ X.ex ∨ X.s₀.heap.objs.size ≤ b) ∧ b ≠ X.env.locals ∧ (∀ x c, X.env.cells.lookup x = some c → c ≠ b) ∧ ∀ p ∈ X.pn ++ pins, p.1 ≠ b)
    (keep : ∀ b o, b ≠ X.env.locals → b ∉ X.fs → b ∉ ch → s.heap.get? b = some o → H b = none → h'.get? b = some o)
    (slot : ∀ b o, b ≠ X.env.locals → b ∈ X.fs → b ∉ ch → s.heap.get? b = some o → H b = none → ∃ sl, h'.get? b = some { o with slots := sl }) (free : ∀ b o, b ∉ ch → s.heap.get? b = some o → H b = none → H' b = none)
    (there : ∀ b o, b ∉ ch → s.heap.get? b = some o → ∃ o', h'.get? b = some o')
    (tups : ∀ b xs, H b = some (.tup xs) → H' b = some (.tup xs)) (frzs : ∀ b o u, H b = some (.frz o u) → H' b = some (.frz o u)) (tbls : ∀ b ps, H b = some (.tbl ps) → ∃ more, H' b = some (.tbl (ps ++ more)))
    (ns : ∀ m, s.heap.Ns X.env.locals m → h'.Ns X.env.locals m) (hok : HOk X.prog X.w H' h') (hg : AllBare g') :
    Inv X pins σ H' { s with heap := h', gens := g', drawn := d', toks := t' } := by
  have neL : ∀ b o, X.s₀.heap.get? b = some o → b ≠ X.env.locals := fun b o e => Nat.ne_of_lt (Nat.lt_of_lt_of_le (Heap.lt_size e) I.ok.above)
  have neC : ∀ b o, X.s₀.heap.get? b = some o → b ∉ X.ex → b ∉ ch := fun b o e hx hb => by
    rcases (hch b hb).1 with z | z
    · exact hx z
    · exact absurd (Nat.lt_of_lt_of_le (Heap.lt_size e) z) (Nat.lt_irrefl _)
  have cellK : ∀ x c, X.env.cells.lookup x = some c → ∀ v, s.heap.IsCell c v → h'.IsCell c v := fun x c e v ⟨o, ho, hd⟩ => by
    have nch : c ∉ ch := fun z => (hch c z).2.2.1 x c e rfl
    by_cases hc : c ∈ X.fs
    · obtain ⟨sl, q⟩ := slot c o (I.cne x c e) hc nch ho (I.freeC x c e)
      exact ⟨_, q, hd⟩
    · exact ⟨o, keep c o (I.cne x c e) hc nch ho (I.freeC x c e), hd⟩
  refine ⟨I.ok, I.os, hg, ⟨fun b o e n hb hx => ?_, fun b o e n hb hx => ?_, fun b o e n hx => ?_, fun b o e hx => ?_, fun b xs e => tups b xs (I.base.tups b xs e), fun b o xs e => frzs b o xs (I.base.frzs b o xs e), fun b ps e => ?_⟩, ?_, fun x c e => ?_, ?_, fun x c e => ?_, fun p hp => ?_, hok, I.len⟩
  · exact keep b o (neL b o e) hb (neC b o e hx) (I.base.keep b o e n hb hx) (I.base.free b o e n hx)
  · obtain ⟨sl, e1⟩ := I.base.slot b o e n hb hx
    obtain ⟨sl', e2⟩ := slot b _ (neL b o e) hb (neC b o e hx) e1 (I.base.free b o e n hx)
    exact ⟨sl', e2⟩
  · obtain ⟨o', e1⟩ := I.base.there b o e hx
    exact free b o' (neC b o e hx) e1 (I.base.free b o e n hx)
  · obtain ⟨o', e1⟩ := I.base.there b o e hx
    exact there b o' (neC b o e hx) e1
  · obtain ⟨m1, e1⟩ := I.base.tbls b ps e
    obtain ⟨m2, e2⟩ := tbls b _ e1
    exact ⟨m1 ++ m2, by rw [e2, Array.append_assoc]⟩
  · obtain ⟨m, hn, hl⟩ := I.loc
    refine ⟨m, ns m hn, fun i x v e1 e2 e3 => ?_⟩
    obtain ⟨u, r, l⟩ := hl i x v e1 e2 e3
    refine ⟨u, r, ?_⟩
    rcases l with l | ⟨k, c, e, z⟩
    · exact .inl l
    · exact .inr ⟨k, c, e, cellK x c e _ z⟩
  · obtain ⟨v, z⟩ := I.cell x c e
    exact ⟨v, cellK x c e v z⟩
  · obtain ⟨m, ⟨o, _, _, ho, _⟩, _⟩ := I.loc
    exact free _ o (fun z => (hch _ z).2.1 rfl) ho I.free
  · obtain ⟨v, o, ho, hd⟩ := I.cell x c e
    exact free c o (fun z => (hch c z).2.2.1 x c e rfl) ho (I.freeC x c e)
  · obtain ⟨e, n, ne, nf, d⟩ := I.pin p hp
    have nch : p.1 ∉ ch := fun z => (hch p.1 z).2.2.2 p hp rfl
    exact ⟨keep p.1 p.2 ne nf nch e n, free p.1 p.2 nch e n, ne, nf, d⟩
/-- .. where the frame's own object is kept too -/
theorem Inv.un {t' : Nat} (I : Inv X pins σ H s) (u : Un X.fs [] H H' s.heap h') (hok : HOk X.prog X.w H' h') : Inv X pins σ H' { s with heap := h', toks := t' } := by
  obtain ⟨m, ⟨o, es, ep, ho, r⟩, _⟩ := id I.loc
  obtain ⟨sl, hL⟩ := u.any ho I.free (by simp)
  exact I.step (g' := s.gens) (d' := s.drawn) (ch := []) (fun _ z => nomatch z) (fun b o _ hb _ e n => u.keep b o e n hb (by simp)) (fun b o _ hb _ e n => u.slot b o e n hb (by simp)) (fun b o _ e n => u.free b o e n (by simp)) (fun b o _ e => u.there b o e (by simp)) u.tups u.frzs u.tbls (fun m' hm => by
    obtain ⟨o', es', ep', ho', r'⟩ := hm
    rw [ho] at ho'; cases ho'
    exact ⟨_, es', ep', hL, r'⟩) hok I.bare
/-- behind a call (or a comprehension's block): the slots of this frame may have changed too, the records at ch may have turned -/
theorem Inv.call {g' : Array GenState} {t' : Nat} {d' : Drawn} {ch : List Addr} (I : Inv X pins σ H s) (u : Un (frs X.stack) ch H H' s.heap h') (hok : HOk X.prog X.w H' h') (hg : AllBare g')
    (hch : ∀ b ∈ ch, (b ∈ X.ex ∨ X.s₀.heap.objs.size ≤ b) ∧ b ≠ X.env.locals ∧ (∀ x c, X.env.cells.lookup x = some c → c ≠ b) ∧ ∀ p ∈ X.pn ++ pins, p.1 ≠ b) :
    Inv X pins σ H' { s with heap := h', gens := g', drawn := d', toks := t' } := by
  obtain ⟨m, ⟨o, es, ep, ho, r⟩, _⟩ := id I.loc
  obtain ⟨sl, hL⟩ := u.any ho I.free fun z => (hch _ z).2.1 rfl
  exact I.step (ch := ch) hch (fun b o hL hb hc e n => u.keep b o e n (fun z => (List.mem_cons.mp (I.stkSub b z)).elim hL hb) hc) (fun b o _ _ hc e n => u.any e n hc) (fun b o hc e n => u.free b o e n hc) (fun b o hc e => u.there b o e hc) u.tups u.frzs u.tbls (fun m' hm => by
    obtain ⟨o', es', ep', ho', r'⟩ := hm
    rw [ho] at ho'; cases ho'
    exact ⟨_, es', ep', hL, r'⟩) hok hg
/-- an untracked record of ours (an iterator) has turned -/
theorem Inv.turned {t' : Nat} {it : Addr} (I : Inv X pins σ H s) (k : ∀ b o, b ≠ it → s.heap.get? b = some o → h'.get? b = some o) (hn : H it = none) (hL : it ≠ X.env.locals)
    (h1 : it ∈ X.ex ∨ X.s₀.heap.objs.size ≤ it) (h2 : ∀ x c, X.env.cells.lookup x = some c → c ≠ it) (h3 : ∀ p ∈ X.pn ++ pins, p.1 ≠ it) : Inv X pins σ H { s with heap := h', toks := t' } := by
  have nit : ∀ b u, H b = some u → b ≠ it := fun b u e z => by rw [z, hn] at e; cases e
  refine I.step (g' := s.gens) (d' := s.drawn) (ch := [it]) (fun b hb => ?_) (fun b o _ _ hc e _ => k b o (fun z => hc (by simp [z])) e) (fun b o _ _ hc e _ => ⟨o.slots, k b o (fun z => hc (by simp [z])) e⟩) (fun _ _ _ _ n => n)
    (fun b o hc e => ⟨o, k b o (fun z => hc (by simp [z])) e⟩) (fun _ _ e => e) (fun _ _ _ e => e) (fun b ps e => ⟨#[], by rw [e]; simp⟩) (fun m hm => ?_) (fun b u e => ?_) I.bare
  · have e : b = it := by simpa using hb
    subst e
    exact ⟨h1, hL, h2, h3⟩
  · obtain ⟨o, es, ep, ho, r⟩ := hm
    exact ⟨o, es, ep, k _ o (Ne.symm hL) ho, r⟩
  · refine (I.hok b u e).stay (fun c v hc q => k c v ?_ q) (fun _ q => q) fun _ _ q => q
    rcases hc with z | z
    · rw [z]; exact nit b u e
    · exact nit c _ z
theorem Inv.tok (I : Inv X pins σ H s) (t : Nat) : Inv X pins σ H { s with toks := t } := I.un (h' := s.heap) (t' := t) Un.refl I.hok
/-- all objects kept -/
theorem Inv.kept {t' : Nat} (I : Inv X pins σ H s) (k : ∀ b u, s.heap.get? b = some u → h'.get? b = some u) : Inv X pins σ H { s with heap := h', toks := t' } := I.un (Un.kept k) (I.hok.kept k)
/-- a new object laid and tracked -/
theorem Inv.laid {a : Addr} {o : HO} {t' : Nat} (I : Inv X pins σ H s) (k : ∀ b u, s.heap.get? b = some u → h'.get? b = some u) (hp : s.heap.objs.size ≤ a) (new : ObjOk X.prog X.w (upd H a o) h' a o) :
    Inv X pins σ (upd H a o) { s with heap := h', toks := t' } := I.un (Un.laid k hp (I.hok.fresh hp)) (I.hok.laid k hp new)
/-- an object written -/
theorem Inv.write {x e : Addr} {o : HO} {t' : Nat} (I : Inv X pins σ H s) (mu : Mut (H x)) (he : e = x ∨ H e = some (.own x)) (k : ∀ b u, b ≠ e → s.heap.get? b = some u → h'.get? b = some u) (heo : ∃ u, h'.get? e = some u)
    (new : ObjOk X.prog X.w (upd H x o) h' x o) : Inv X pins σ (upd H x o) { s with heap := h', toks := t' } := I.un (Un.write mu he k heo) (I.hok.write mu he k heo new)
/-- forgetting slots, pins -/
theorem Inv.weak {σ' : List (Option V)} (I : Inv X pins σ H s) (hl : σ'.length = σ.length) (w : ∀ (i : Nat) v, σ'[i]? = some (some v) → σ[i]? = some (some v)) : Inv X pins σ' H s :=
  ⟨I.ok, I.os, I.bare, I.base, let ⟨m, hn, hl'⟩ := I.loc; ⟨m, hn, fun i x v e1 e2 e3 => hl' i x v e1 (w i v e2) e3⟩, I.cell, I.free, I.freeC, I.pin, I.hok, hl.trans I.len⟩
theorem Inv.pins_of {pins' : List (Addr × Obj)} (I : Inv X pins σ H s) (h : ∀ p ∈ pins', s.heap.get? p.1 = some p.2 ∧ H p.1 = none ∧ p.1 ≠ X.env.locals ∧ p.1 ∉ X.fs ∧ ∀ v, p.2.data ≠ .cell v) : Inv X pins' σ H s :=
  ⟨I.ok, I.os, I.bare, I.base, I.loc, I.cell, I.free, I.freeC, fun p hp => (List.mem_append.mp hp).elim (fun z => I.pin p (List.mem_append_left _ z)) (h p), I.hok, I.len⟩

theorem nodup_ix {N : List Str} (hN : N.Nodup) {i j : Nat} {x : Str} (a : N[i]? = some x) (b : N[j]? = some x) : i = j := by
  obtain ⟨h1, e1⟩ := List.getElem?_eq_some_iff.mp a
  obtain ⟨h2, e2⟩ := List.getElem?_eq_some_iff.mp b
  exact (List.getElem_inj hN).mp (e1.trans e2.symm)

/-- a name is stored; what changed -/
theorem store_ok2 {M : Model} {A : Around} {E : Value → Shared → Prop} {i : Nat} {x : Str} {v : V} {u : Value} {Q : Unit → Shared → Prop} (I : Inv X pins σ H s) (hN : X.N.Nodup) (hi : X.N[i]? = some x) (hx : Loc X.env.scope x) (r : RelV v u)
    (h : ∀ s', Inv X pins (σ.set i (some v)) H s' → (∃ a, Heap.SameBut a s.heap s'.heap ∧ (a = X.env.locals ∨ X.env.cells.lookup x = some a)) → Q () s') (hf : X.fn x = true ∨ X.env.scope.names.lookup x = some .local := by first | exact .inl rfl | exact .inr rfl | assumption) : wpAny M A (storeName X.env x u) Q E s := by
  obtain ⟨m, hn, hl⟩ := id I.loc
  have hcls : (X.env.scope.kind == .class || (X.env.scope.kind == .module && X.env.locals != X.env.globals)) = false := by rw [I.ok.kind]; rfl
  have hiσ : i < σ.length := by rw [I.len]; exact (List.getElem?_eq_some_iff.mp hi).1
  have cne := I.cne
  have tracked : ∀ {a : Addr} {h' : Heap}, (∃ o, s.heap.get? a = some o ∧ H a = none) → Heap.SameBut a s.heap h' → HOk X.prog X.w H h' := fun {a h'} ha hs b ob e => by
    obtain ⟨_, _, hfree⟩ := ha
    refine (I.hok b ob e).stay (fun c w' hc q => (hs.2 c ?_).trans q) (fun _ q => q) fun _ _ q => q
    rintro rfl
    rcases hc with rfl | hc
    · rw [hfree] at e; cases e
    · rw [hfree] at hc; cases hc
  rcases hx with hk | hk
  · refine wpAny_storeName_local hk hn (fun h' hn' hs => ?_) hcls
    obtain ⟨oL, _, _, hoL, _⟩ := id hn
    refine h _ ⟨I.ok, I.os, I.bare, ⟨fun b o e n hb hx => ?_, fun b o e n hb hx => ?_, I.base.free, fun b o e hx => ?_, I.base.tups, I.base.frzs, I.base.tbls⟩, ⟨_, hn', fun j y v' e1 e2 e3 => ?_⟩, fun y c e => ?_, I.free, I.freeC, fun p hp => ?_, tracked ⟨oL, hoL, I.free⟩ hs, by simpa using I.len⟩ ⟨_, hs, .inl rfl⟩
    · exact (hs.2 b (Nat.ne_of_lt (Nat.lt_of_lt_of_le (Heap.lt_size e) I.ok.above))).trans (I.base.keep b o e n hb hx)
    · obtain ⟨sl, e1⟩ := I.base.slot b o e n hb hx
      exact ⟨sl, (hs.2 b (Nat.ne_of_lt (Nat.lt_of_lt_of_le (Heap.lt_size e) I.ok.above))).trans e1⟩
    · obtain ⟨o', e1⟩ := I.base.there b o e hx
      exact ⟨o', (hs.2 b (Nat.ne_of_lt (Nat.lt_of_lt_of_le (Heap.lt_size e) I.ok.above))).trans e1⟩
    · by_cases hj : j = i
      · subst hj
        rw [hi] at e1; cases e1
        rw [List.getElem?_set_self hiσ] at e2
        cases e2
        exact ⟨u, r, .inl ⟨hk, by simp⟩⟩
      · rw [List.getElem?_set_ne (Ne.symm hj)] at e2
        obtain ⟨u', r', q⟩ := hl j y v' e1 e2 e3
        refine ⟨u', r', ?_⟩
        rcases q with ⟨k, e⟩ | ⟨k, c, e, z⟩
        · refine .inl ⟨k, ?_⟩
          have : y ≠ x := fun e => hj (nodup_ix hN e1 (e ▸ hi))
          simp [this, e]
        · exact .inr ⟨k, c, e, z.sameBut hs (cne y c e)⟩
    · obtain ⟨w', z⟩ := I.cell y c e
      exact ⟨w', z.sameBut hs (cne y c e)⟩
    · obtain ⟨e, n, ne, nf, d⟩ := I.pin p hp
      exact ⟨(hs.2 p.1 ne).trans e, n, ne, nf, d⟩
  · have hfn : X.fn x = true := by
      rcases hf with z | z
      · exact z
      · rw [z] at hk; cases hk
    obtain ⟨c, hc⟩ := I.ok.has x (.inl hk)
    obtain ⟨w', z⟩ := I.cell x c hc
    refine wpAny_storeName_cell I.ok.kind hk hc z (fun h' hc' hs => ?_)
    obtain ⟨oc, hoc, hocd⟩ := id z
    refine h { s with heap := h' } ⟨I.ok, I.os, I.bare, ⟨fun b o e n hb hx => ?_, fun b o e n hb hx => ?_, I.base.free, fun b o e hx => ?_, I.base.tups, I.base.frzs, I.base.tbls⟩, ⟨m, hn.sameBut hs (Ne.symm (cne x c hc)), fun j y v' e1 e2 e3 => ?_⟩, fun y c' e => ?_, I.free, I.freeC, fun p hp => ?_, tracked ⟨oc, hoc, I.freeC x c hc⟩ hs, by simpa using I.len⟩ ⟨c, hs, .inr hc⟩
    · exact (hs.2 b (Nat.ne_of_lt (Nat.lt_of_lt_of_le (Heap.lt_size e) (I.ok.cab x c hfn hc)))).trans (I.base.keep b o e n hb hx)
    · obtain ⟨sl, e1⟩ := I.base.slot b o e n hb hx
      exact ⟨sl, (hs.2 b (Nat.ne_of_lt (Nat.lt_of_lt_of_le (Heap.lt_size e) (I.ok.cab x c hfn hc)))).trans e1⟩
    · obtain ⟨o', e1⟩ := I.base.there b o e hx
      exact ⟨o', (hs.2 b (Nat.ne_of_lt (Nat.lt_of_lt_of_le (Heap.lt_size e) (I.ok.cab x c hfn hc)))).trans e1⟩
    · by_cases hj : j = i
      · subst hj
        rw [hi] at e1; cases e1
        rw [List.getElem?_set_self hiσ] at e2
        cases e2
        exact ⟨u, r, .inr ⟨.inl hk, c, hc, hc'⟩⟩
      · rw [List.getElem?_set_ne (Ne.symm hj)] at e2
        obtain ⟨u', r', q⟩ := hl j y v' e1 e2 e3
        refine ⟨u', r', ?_⟩
        rcases q with q | ⟨k, c', e, z'⟩
        · exact .inl q
        · refine .inr ⟨k, c', e, z'.sameBut hs ?_⟩
          rintro rfl
          exact hj (nodup_ix hN e1 (I.ok.inj _ _ _ e hc ▸ hi))
    · by_cases hcc : c' = c
      · subst hcc; exact ⟨_, hc'⟩
      · obtain ⟨w2, z2⟩ := I.cell y c' e
        exact ⟨w2, z2.sameBut hs hcc⟩
    · obtain ⟨e, n, ne, nf, d⟩ := I.pin p hp
      refine ⟨(hs.2 p.1 ?_).trans e, n, ne, nf, d⟩
      intro q
      rw [q, hoc] at e
      have q' : oc = p.2 := Option.some.inj e
      exact d w' (by rw [← q']; exact hocd)
theorem store_ok {M : Model} {A : Around} {E : Value → Shared → Prop} {i : Nat} {x : Str} {v : V} {u : Value} {Q : Unit → Shared → Prop} (I : Inv X pins σ H s) (hN : X.N.Nodup) (hi : X.N[i]? = some x) (hx : Loc X.env.scope x) (r : RelV v u)
    (h : ∀ s', Inv X pins (σ.set i (some v)) H s' → Q () s') (hf : X.fn x = true ∨ X.env.scope.names.lookup x = some .local := by first | exact .inl rfl | exact .inr rfl | assumption) : wpAny M A (storeName X.env x u) Q E s :=
  store_ok2 I hN hi hx r (fun s' I' _ => h s' I') hf
/-- behind a call or a block, the state as it is -/
theorem Inv.call' {s' : Shared} {ch : List Addr} (I : Inv X pins σ H s) (ho : s'.os = s.os) (u : Un (frs X.stack) ch H H' s.heap s'.heap) (hok : HOk X.prog X.w H' s'.heap) (hg : AllBare s'.gens)
    (hch : ∀ b ∈ ch, (b ∈ X.ex ∨ X.s₀.heap.objs.size ≤ b) ∧ b ≠ X.env.locals ∧ (∀ x c, X.env.cells.lookup x = some c → c ≠ b) ∧ ∀ p ∈ X.pn ++ pins, p.1 ≠ b) : Inv X pins σ H' s' := by
  obtain ⟨h', g', d', t', o'⟩ := s'
  have e : o' = s.os := ho
  subst e
  exact I.call (g' := g') (t' := t') (d' := d') u hok hg hch
end

/-! ### the judgements -/
/-- an exception: its class, its own dict's address (where it has one), the abstract heap behind it -/
abbrev XK := Value → Option Addr → Hp → Prop
abbrev St := List (Option V)
abbrev VK := V → Hp → Prop
/-- an expression's reading; a test's; an argument list's -/
abbrev TE := St → Hp → VK → Prop
abbrev TT := St → Hp → (Bool → Hp → Prop) → Prop
abbrev TA := St → Hp → (List V → Hp → Prop) → Prop
/-- what is wanted behind a statement -/
structure Ends where
  nx : St → Hp → Prop
  rt : VK
  bk : St → Hp → Prop := fun _ _ => False
  ct : St → Hp → Prop := fun _ _ => False
abbrev TS := Ends → St → Hp → Prop

def EP (X : Cx) (pins : List (Addr × Obj)) (σ : St) (Q : VK) (u : Value) (s' : Shared) : Prop := ∃ v H', Inv X pins σ H' s' ∧ RelV v u ∧ Q v H'
def TP (X : Cx) (pins : List (Addr × Obj)) (σ : St) (Q : Bool → Hp → Prop) (b : Bool) (s' : Shared) : Prop := ∃ H', Inv X pins σ H' s' ∧ Q b H'
def AP (X : Cx) (pins : List (Addr × Obj)) (σ : St) (Q : List V → Hp → Prop) (us : List Value) (s' : Shared) : Prop := ∃ vs H', Inv X pins σ H' s' ∧ Vals vs us ∧ Q vs H'
def SP (X : Cx) (pins : List (Addr × Obj)) (D : Ends) (f : Flow) (s' : Shared) : Prop :=
  match f with
  | .next => ∃ σ' H', Inv X pins σ' H' s' ∧ D.nx σ' H'
  | .brk => ∃ σ' H', Inv X pins σ' H' s' ∧ D.bk σ' H'
  | .cont => ∃ σ' H', Inv X pins σ' H' s' ∧ D.ct σ' H'
  | .ret u => ∃ v σ' H', Inv X pins σ' H' s' ∧ RelV v u ∧ D.rt v H'

def PE (X : Cx) (e : Expr) (t : TE) : Prop :=
  ∀ (pins : List (Addr × Obj)) (s : Shared) (σ : St) (H : Hp) (Q : VK), Inv X pins σ H s → t σ H Q → wpAny (model X.prog X.w) X.A (eval e X.env) (EP X pins σ Q) X.xe s
def PT (X : Cx) (e : Expr) (t : TT) : Prop :=
  ∀ (pins : List (Addr × Obj)) (s : Shared) (σ : St) (H : Hp) (Q : Bool → Hp → Prop), Inv X pins σ H s → t σ H Q → wpAny (model X.prog X.w) X.A (isTrue e X.env (eval e X.env)) (TP X pins σ Q) X.xe s
/-- a test whatever its 'whole' is (and, or) -/
def PW (X : Cx) (e : Expr) (t : TT) : Prop :=
  ∀ (whole : Sem Value) (pins : List (Addr × Obj)) (s : Shared) (σ : St) (H : Hp) (Q : Bool → Hp → Prop), Inv X pins σ H s → t σ H Q → wpAny (model X.prog X.w) X.A (isTrue e X.env whole) (TP X pins σ Q) X.xe s
theorem PW.pt {X : Cx} {e : Expr} {t : TT} (h : PW X e t) : PT X e t := h _
/-- an argument list (no star), from the left -/
def PA (X : Cx) (es : List Expr) (t : TA) : Prop :=
  ∀ (pos : Pos) (pins : List (Addr × Obj)) (s : Shared) (σ : St) (H : Hp) (Q : List V → Hp → Prop), Inv X pins σ H s → t σ H Q → wpAny (model X.prog X.w) X.A (spliced (backTo pos (starEach es X.env))) (AP X pins σ Q) X.xe s
def PS (X : Cx) (st : Stmt) (t : TS) : Prop :=
  ∀ (pins : List (Addr × Obj)) (s : Shared) (σ : St) (H : Hp) (D : Ends), Inv X pins σ H s → t D σ H → wpAny (model X.prog X.w) X.A (exec st X.env) (SP X pins D) X.xe s
def PSs (X : Cx) (st : List Stmt) (t : TS) : Prop :=
  ∀ (pins : List (Addr × Obj)) (s : Shared) (σ : St) (H : Hp) (D : Ends), Inv X pins σ H s → t D σ H → wpAny (model X.prog X.w) X.A (execs st X.env) (SP X pins D) X.xe s
/-- weaken the end -/
theorem thn {α : Type} {t : Sem α} {Q Q' : α → Shared → Prop} {M : Model} {A : Around} {E : Value → Shared → Prop} {s : Shared} (h : wpAny M A t Q E s) (hQ : ∀ a s, Q a s → Q' a s) : wpAny M A t Q' E s := wpAny_mono h hQ fun _ _ x => x
end L2

namespace L2
open PySem PySem.Spec PyProof.Rows
section
variable {X : Cx}

/-- two expressions in a row -/
theorem bin {a b : Expr} {ta tb : TE} (ha : PE X a ta) (hb : PE X b tb) {pins : List (Addr × Obj)} {s : Shared} {σ : St} {H : Hp} {R : V → V → Hp → Prop} (I : Inv X pins σ H s) (h : ta σ H fun x H1 => tb σ H1 fun y H2 => R x y H2)
    {α : Type} {Q : α → Shared → Prop} {f : Value → Value → Sem α}
    (hf : ∀ v u s2 x y H2, Inv X pins σ H2 s2 → RelV x v → RelV y u → R x y H2 → wpAny (model X.prog X.w) X.A (f v u) Q X.xe s2) :
    wpAny (model X.prog X.w) X.A (eval a X.env) (fun v s₁ => wpAny (model X.prog X.w) X.A (eval b X.env) (fun u s₂ => wpAny (model X.prog X.w) X.A (f v u) Q X.xe s₂) X.xe s₁) X.xe s := by
  refine thn (ha pins s σ H _ I h) fun v s1 ⟨x, H1, I1, r1, q1⟩ => ?_
  refine thn (hb pins s1 σ H1 _ I1 q1) fun u s2 ⟨y, H2, I2, r2, q2⟩ => ?_
  exact hf v u s2 x y H2 I2 r1 r2 q2

/-! ### names and constants -/
def tVar (i : Nat) : TE := fun σ H Q => ∃ v, σ[i]? = some (some v) ∧ Q v H
def tC (v : V) : TE := fun _ H Q => Q v H
theorem pe_var {i : Nat} {x : Str} {pos : Pos} (hN : X.N[i]? = some x) (hv : Vis X.env.scope x) (hd : (x == ("__debug__" : Str)) = false := by decide) (hcd : (x == ("__classdict__" : Str)) = false := by decide) : PE X (.Name x pos) (tVar i) := by
  intro pins s σ H Q I h
  obtain ⟨v, e, h⟩ := h
  obtain ⟨m, hn, hl⟩ := I.loc
  obtain ⟨u, r, l⟩ := hl i x v hN e hv
  have fin : EP X pins σ Q u s := ⟨v, H, I, r, h⟩
  rcases l with ⟨hk, hm⟩ | ⟨hk, c, hc, hcell⟩
  · exact wpAny_Name (wpAny_loadName_local I.ok.kind hk hn hm fin) hd
  · rcases hk with hk | hk
    · exact wpAny_Name (wpAny_loadName_cell I.ok.kind hk hc hcell fin) hd
    · exact wpAny_Name (wpAny_loadName_free I.ok.kind hk hc hcell fin hcd) hd
theorem pe_int {i j pos} : PE X (.Constant (.int i) j pos) (tC (.int i)) := fun _ _ _ H _ I h => wpAny_Constant_int ⟨.int i, H, I.tok _, ⟨_, rfl⟩, h⟩
theorem pe_bl {b j pos} : PE X (.Constant (.bool b) j pos) (tC (.bl b)) := fun _ _ _ H _ I h => Constant_bool ⟨.bl b, H, I, rfl, h⟩
theorem pe_non {j pos} : PE X (.Constant .none j pos) (tC .non) := fun _ _ _ H _ I h => Constant_none ⟨.non, H, I, rfl, h⟩
theorem pe_str {x j pos} : PE X (.Constant (.str x) j pos) (tC (.str x)) := fun _ _ _ H _ I h => Calls.Constant_str ⟨.str x, H, I.tok _, ⟨_, rfl⟩, h⟩

/-- a global name of the def -/
def Gl (X : Cx) (x : Str) : Prop := X.env.kindOf x = some .globalImplicit
theorem ld_glob {E : Value → Shared → Prop} {pins : List (Addr × Obj)} {s : Shared} {σ : St} {H : Hp} {x : Str} {u : Value} {pos : Pos} {Q : Value → Shared → Prop} (I : Inv X pins σ H s) (hg : Gl X x) (hm : X.mg x = some u) (h : Q u s)
    (hd : (x == ("__debug__" : Str)) = false := by decide) : wpAny (model X.prog X.w) X.A (eval (.Name x pos) X.env) Q E s :=
  Calls.Name_function_global I.ok.kind hg (Calls.loadGlobal_global (by rw [I.ok.glob]; exact I.mod.glob.keeps I.bk) hm h) hd
theorem ld_blt {E : Value → Shared → Prop} {pins : List (Addr × Obj)} {s : Shared} {σ : St} {H : Hp} {x : Str} {u : Value} {pos : Pos} {Q : Value → Shared → Prop} (I : Inv X pins σ H s) (hg : Gl X x) (hm : X.mg x = none) (hv : bootBuiltins x = some u) (h : Q u s)
    (hn : x ≠ "__name__" := by decide) (hd : (x == ("__debug__" : Str)) = false := by decide) : wpAny (model X.prog X.w) X.A (eval (.Name x pos) X.env) Q E s := by
  obtain ⟨mb, h1, h2⟩ := I.mod.blt
  exact Calls.Name_function_global I.ok.kind hg (Calls.loadGlobal_builtin (by rw [I.ok.glob]; exact I.mod.glob.keeps I.bk) hm (by rw [I.ok.blt]; exact h1.keeps I.bk) ((h2 x hn).trans hv) h) hd
/-- a module's constant, a class, a function, as a value -/
theorem pe_glob {x : Str} {v : V} {u : Value} {pos : Pos} (hg : Gl X x) (hm : X.mg x = some u) (r : RelV v u) (hd : (x == ("__debug__" : Str)) = false := by decide) : PE X (.Name x pos) (tC v) :=
  fun _ _ _ H _ I h => ld_glob I hg hm ⟨v, H, I, r, h⟩ hd
theorem pe_bltn {x : Str} {v : V} {u : Value} {pos : Pos} (hg : Gl X x) (hm : X.mg x = none) (hv : bootBuiltins x = some u) (r : RelV v u) (hn : x ≠ "__name__" := by decide) (hd : (x == ("__debug__" : Str)) = false := by decide) : PE X (.Name x pos) (tC v) :=
  fun _ _ _ H _ I h => ld_blt I hg hm hv ⟨v, H, I, r, h⟩ hn hd

/-! ### arithmetic -/
/-- two ints -/
def t2I (ta tb : TE) (k : Int → Int → Hp → Prop) : St → Hp → Prop := fun σ H => ta σ H fun x H1 => tb σ H1 fun y H2 => ∃ i j, x = .int i ∧ y = .int j ∧ k i j H2
def tAdd (ta tb : TE) : TE := fun σ H Q => t2I ta tb (fun i j H2 => Q (.int (i + j)) H2) σ H
def tSub (ta tb : TE) : TE := fun σ H Q => t2I ta tb (fun i j H2 => Q (.int (i - j)) H2) σ H
/-- the left factor below 2^64 -/
def tMul (ta tb : TE) : TE := fun σ H Q => t2I ta tb (fun i j H2 => (-(2 ^ 64) < i ∧ i < 2 ^ 64) ∧ Q (.int (i * j)) H2) σ H
variable {a b : Expr} {ta tb : TE} {pos : Pos}
theorem pe_add (ha : PE X a ta) (hb : PE X b tb) : PE X (.BinOp a .Add b pos) (tAdd ta tb) := by
  intro pins s σ H Q I h
  refine wpAny_BinOp (bin ha hb I h fun v u s2 x y H2 I2 rx ry q => ?_)
  obtain ⟨i, j, rfl, rfl, q⟩ := q
  obtain ⟨t, rfl⟩ := rx
  obtain ⟨t', rfl⟩ := ry
  exact add_int ⟨.int _, H2, I2.tok _, ⟨_, rfl⟩, q⟩
theorem pe_sub (ha : PE X a ta) (hb : PE X b tb) : PE X (.BinOp a .Sub b pos) (tSub ta tb) := by
  intro pins s σ H Q I h
  refine wpAny_BinOp (bin ha hb I h fun v u s2 x y H2 I2 rx ry q => ?_)
  obtain ⟨i, j, rfl, rfl, q⟩ := q
  obtain ⟨t, rfl⟩ := rx
  obtain ⟨t', rfl⟩ := ry
  exact sub_int ⟨.int _, H2, I2.tok _, ⟨_, rfl⟩, q⟩
theorem pe_mul (ha : PE X a ta) (hb : PE X b tb) : PE X (.BinOp a .Mult b pos) (tMul ta tb) := by
  intro pins s σ H Q I h
  refine wpAny_BinOp (bin ha hb I h fun v u s2 x y H2 I2 rx ry q => ?_)
  obtain ⟨i, j, rfl, rfl, ⟨q1, q2⟩, q⟩ := q
  obtain ⟨t, rfl⟩ := rx
  obtain ⟨t', rfl⟩ := ry
  exact mul_int ⟨.int _, H2, I2.tok _, ⟨_, rfl⟩, q⟩ (.of_left (intBits_le_64 q1 q2))

/-! ### comparisons -/
def PC (X : Cx) (op : CmpOp) (a b : Expr) (t : TE) : Prop :=
  ∀ (pins : List (Addr × Obj)) (s : Shared) (σ : St) (H : Hp) (Q : VK), Inv X pins σ H s → t σ H Q →
    wpAny (model X.prog X.w) X.A (eval a X.env) (fun v s₁ => wpAny (model X.prog X.w) X.A (eval b X.env) (fun u s₂ => wpAny (model X.prog X.w) X.A (compareOp op v u) (EP X pins σ Q) X.xe s₂) X.xe s₁) X.xe s
theorem nobehind (b : Expr) {op : CmpOp} (h : op ≠ .In) (h2 : op ≠ .NotIn) : behindInMarks op b = false := by
  have e1 : (op == CmpOp.In) = false := by cases op <;> first | rfl | exact absurd rfl h
  have e2 : (op == CmpOp.NotIn) = false := by cases op <;> first | rfl | exact absurd rfl h2
  cases b <;> simp [behindInMarks, e1, e2]
def tCmp (p : Int → Int → Bool) (ta tb : TE) : TE := fun σ H Q => t2I ta tb (fun i j H2 => Q (.bl (p i j)) H2) σ H
abbrev tLt : TE → TE → TE := tCmp fun i j => decide (i < j)
abbrev tLe : TE → TE → TE := tCmp fun i j => decide (i ≤ j)
abbrev tGt : TE → TE → TE := tCmp fun i j => decide (j < i)
abbrev tGe : TE → TE → TE := tCmp fun i j => decide (j ≤ i)
abbrev tEqI : TE → TE → TE := tCmp fun i j => decide (i = j)
abbrev tNeI : TE → TE → TE := tCmp fun i j => !decide (i = j)
/-- a comparison of two ints, by its rule -/
theorem pc_int {op : CmpOp} {p : Int → Int → Bool} (ha : PE X a ta) (hb : PE X b tb)
    (rule : ∀ (i j : Int) (t u : Tok) (Q : Value → Shared → Prop) (s : Shared), Q (.bool (p i j)) s → wpAny (model X.prog X.w) X.A (compareOp op (.int i t) (.int j u)) Q X.xe s) : PC X op a b (tCmp p ta tb) := by
  intro pins s σ H Q I h
  refine bin ha hb I h fun v u s2 x y H2 I2 rx ry q => ?_
  obtain ⟨i, j, rfl, rfl, q⟩ := q
  obtain ⟨t, rfl⟩ := rx
  obtain ⟨t', rfl⟩ := ry
  exact rule i j t t' _ s2 ⟨.bl _, H2, I2, rfl, q⟩
theorem pc_lt (ha : PE X a ta) (hb : PE X b tb) : PC X .Lt a b (tLt ta tb) := pc_int ha hb fun _ _ _ _ _ _ h => lt_int h
theorem pc_le (ha : PE X a ta) (hb : PE X b tb) : PC X .LtE a b (tLe ta tb) := pc_int ha hb fun _ _ _ _ _ _ h => le_int h
theorem pc_gt (ha : PE X a ta) (hb : PE X b tb) : PC X .Gt a b (tGt ta tb) := pc_int ha hb fun _ _ _ _ _ _ h => gt_int h
theorem pc_ge (ha : PE X a ta) (hb : PE X b tb) : PC X .GtE a b (tGe ta tb) := pc_int ha hb fun _ _ _ _ _ _ h => ge_int h
theorem pc_eqI (ha : PE X a ta) (hb : PE X b tb) : PC X .Eq a b (tEqI ta tb) := pc_int ha hb fun _ _ _ _ _ _ h => eq_int (by rw [Bool.beq_eq_decide_eq]; exact h)
theorem pc_neI (ha : PE X a ta) (hb : PE X b tb) : PC X .NotEq a b (tNeI ta tb) := pc_int ha hb fun _ _ _ _ _ _ h => ne_int (by rw [bne, Bool.beq_eq_decide_eq]; exact h)
/-- is None -/
def tIsN (ta : TE) : TE := fun σ H Q => ta σ H fun x H1 => Q (.bl (decide (x = .non))) H1
def tNotN (ta : TE) : TE := fun σ H Q => ta σ H fun x H1 => Q (.bl (!decide (x = .non))) H1
theorem RelV.none_iff {x : V} {v : Value} (r : RelV x v) : (v == Value.none) = decide (x = .non) := by
  cases x with
  | non => cases r; rfl
  | bl _ => cases r; rfl
  | int _ => obtain ⟨t, rfl⟩ := r; rfl
  | str _ => obtain ⟨t, rfl⟩ := r; rfl
  | byt _ => obtain ⟨t, rfl⟩ := r; rfl
  | flt _ => obtain ⟨t, rfl⟩ := r; rfl
  | ref _ => cases r; rfl
  | ty _ => cases r; rfl
theorem pc_isN {j pos'} (ha : PE X a ta) : PC X .Is a (.Constant .none j pos') (tIsN ta) := by
  intro pins s σ H Q I h
  refine thn (ha pins s σ H _ I h) fun v s1 ⟨x, H1, I1, r1, q1⟩ => ?_
  exact Constant_none (is_none_gen ⟨.bl _, H1, I1, by rw [r1.none_iff]; rfl, q1⟩)
theorem pc_notN {j pos'} (ha : PE X a ta) : PC X .IsNot a (.Constant .none j pos') (tNotN ta) := by
  intro pins s σ H Q I h
  refine thn (ha pins s σ H _ I h) fun v s1 ⟨x, H1, I1, r1, q1⟩ => ?_
  exact Constant_none (isnot_none_gen ⟨.bl _, H1, I1, by rw [r1.none_iff]; rfl, q1⟩)
/-- a comparison as a value, as a test -/
def tB (t : TE) : TT := fun σ H Q => t σ H fun x H1 => ∃ c, x = .bl c ∧ Q c H1
theorem pe_cmp {op : CmpOp} {t : TE} (h : PC X op a b t) (h1 : behindInMarks op b = false := by first | exact nobehind _ (by decide) (by decide) | rfl) : PE X (.Compare a [op] [b] pos) t := fun pins s σ H Q I hw => wpAny_Compare1 (h pins s σ H Q I hw) h1
theorem pt_cmp {op : CmpOp} {t : TE} (h : PC X op a b t) (h1 : behindInMarks op b = false := by first | exact nobehind _ (by decide) (by decide) | rfl) : PT X (.Compare a [op] [b] pos) (tB t) := by
  intro pins s σ H Q I hw
  refine wpAny_isTrue_Compare1 (thn (h pins s σ H _ I hw) fun v s1 h1 => thn h1 fun u s2 h2 => thn h2 fun c s3 ⟨x, H1, I1, r1, q1⟩ => ?_) h1
  obtain ⟨d, rfl, q⟩ := q1
  cases r1
  exact wpAny_truthy_bool ⟨H1, I1, q⟩
/-- an expression whose value is a bool, as a test -/
theorem pt_val {e : Expr} {t : TE} (h : PE X e t) (he : ∀ whole, isTrue e X.env whole = (do let v ← whole; standAt e.pos; holding [v] (truthy v)) := by intro _; rfl) : PT X e (tB t) := by
  intro pins s σ H Q I hw
  refine isTrue_plain (thn (h pins s σ H _ I hw) fun v s1 ⟨x, H1, I1, r1, q1⟩ => ?_) (he _)
  obtain ⟨d, rfl, q⟩ := q1
  cases r1
  exact wpAny_truthy_bool ⟨H1, I1, q⟩

/-! ### and, or, not -/
variable {tA tB' : TT} {rest : List Expr}
def tAnd (t u : TT) : TT := fun σ H Q => t σ H fun c H1 => if c = true then u σ H1 Q else Q false H1
def tOr (t u : TT) : TT := fun σ H Q => t σ H fun c H1 => if c = true then Q true H1 else u σ H1 Q
def tNot (t : TT) : TT := fun σ H Q => t σ H fun c H1 => Q (!c) H1
theorem pw_and1 (ha : PT X a tA) : PW X (.BoolOp .And [a] pos) tA := by
  intro wh pins s σ H Q I h
  refine isTrue_and (thn (ha pins s σ H Q I h) fun c s1 e => ?_)
  cases c with
  | true => exact isTrue_and_nil e
  | false => exact e
theorem pw_or1 (ha : PT X a tA) : PW X (.BoolOp .Or [a] pos) tA := by
  intro wh pins s σ H Q I h
  refine isTrue_or (thn (ha pins s σ H Q I h) fun c s1 e => ?_)
  cases c with
  | false => exact isTrue_or_nil e
  | true => exact e
theorem pw_and (ha : PT X a tA) (hb : PW X (.BoolOp .And (b :: rest) pos) tB') : PW X (.BoolOp .And (a :: b :: rest) pos) (tAnd tA tB') := by
  intro wh pins s σ H Q I h
  refine isTrue_and (thn (ha pins s σ H _ I h) fun c s1 ⟨H1, I1, q1⟩ => ?_)
  cases c with
  | true => exact hb wh pins s1 σ H1 Q I1 q1
  | false => exact ⟨H1, I1, q1⟩
theorem pw_or (ha : PT X a tA) (hb : PW X (.BoolOp .Or (b :: rest) pos) tB') : PW X (.BoolOp .Or (a :: b :: rest) pos) (tOr tA tB') := by
  intro wh pins s σ H Q I h
  refine isTrue_or (thn (ha pins s σ H _ I h) fun c s1 ⟨H1, I1, q1⟩ => ?_)
  cases c with
  | true => exact ⟨H1, I1, q1⟩
  | false => exact hb wh pins s1 σ H1 Q I1 q1
theorem pt_not (ha : PT X a tA) : PT X (.UnaryOp .Not a pos) (tNot tA) := by
  intro pins s σ H Q I h
  exact isTrue_not (ha pins s σ H (fun c H1 => Q (!c) H1) I h)
/-- .. as values (bools) -/
def tAndV (ta tb : TE) : TE := fun σ H Q => ta σ H fun x H1 => ∃ c, x = .bl c ∧ if c = true then tb σ H1 Q else Q (.bl false) H1
def tOrV (ta tb : TE) : TE := fun σ H Q => ta σ H fun x H1 => ∃ c, x = .bl c ∧ if c = true then Q (.bl true) H1 else tb σ H1 Q
def tNotV (ta : TE) : TE := fun σ H Q => ta σ H fun x H1 => ∃ c, x = .bl c ∧ Q (.bl (!c)) H1
theorem pe_one {op} {t : TE} (h : PE X a t) : PE X (.BoolOp op [a] pos) t := fun pins s σ H Q I hw => BoolOp_one (h pins s σ H Q I hw)
theorem pe_and (ha : PE X a ta) (hb : PE X (.BoolOp .And (b :: rest) pos) tb) : PE X (.BoolOp .And (a :: b :: rest) pos) (tAndV ta tb) := by
  intro pins s σ H Q I h
  refine BoolOp_and (thn (ha pins s σ H _ I h) fun v s1 ⟨x, H1, I1, r1, q1⟩ => ?_)
  obtain ⟨c, rfl, q1⟩ := q1
  cases r1
  refine wpAny_truthy_bool ?_
  cases c with
  | true => exact hb pins s1 σ H1 Q I1 q1
  | false => exact ⟨.bl false, H1, I1, rfl, q1⟩
theorem pe_or (ha : PE X a ta) (hb : PE X (.BoolOp .Or (b :: rest) pos) tb) : PE X (.BoolOp .Or (a :: b :: rest) pos) (tOrV ta tb) := by
  intro pins s σ H Q I h
  refine BoolOp_or (thn (ha pins s σ H _ I h) fun v s1 ⟨x, H1, I1, r1, q1⟩ => ?_)
  obtain ⟨c, rfl, q1⟩ := q1
  cases r1
  refine wpAny_truthy_bool ?_
  cases c with
  | false => exact hb pins s1 σ H1 Q I1 q1
  | true => exact ⟨.bl true, H1, I1, rfl, q1⟩
theorem pe_not (ha : PE X a ta) : PE X (.UnaryOp .Not a pos) (tNotV ta) := by
  intro pins s σ H Q I h
  refine UnaryOp_ (thn (ha pins s σ H _ I h) fun v s1 ⟨x, H1, I1, r1, q1⟩ => ?_)
  obtain ⟨c, rfl, q1⟩ := q1
  cases r1
  exact not_of (wpAny_truthy_bool ⟨.bl (!c), H1, I1, rfl, q1⟩)
/-- a if t else b -/
def tIf (t : TT) (ta tb : TE) : TE := fun σ H Q => t σ H fun c H1 => if c = true then ta σ H1 Q else tb σ H1 Q
theorem pe_ifExp {c : Expr} (hc : PT X c tA) (ha : PE X a ta) (hb : PE X b tb) : PE X (.IfExp c a b pos) (tIf tA ta tb) := by
  intro pins s σ H Q I h
  refine wpAny_IfExp (thn (hc pins s σ H _ I h) fun d s1 ⟨H1, I1, q1⟩ => ?_)
  cases d with
  | true => exact ha pins s1 σ H1 Q I1 q1
  | false => exact hb pins s1 σ H1 Q I1 q1
end
end L2

namespace L2
open PySem PySem.Spec PyProof.Rows

/-! ### a list, a tuple that is read: tracked, frozen, or an object of the module -/
def SqL (K : PySem.W.Frag) (H : Hp) (a : Addr) (xs : List V) : Prop :=
  Rd H a (.lst xs) ∨
    ∃ (o : Obj) (its : Array Value) (n : Nat), K.lookup a = some o ∧ o.cls = .type "list" ∧ o.dict = none ∧ o.data = .seq its n ∧ its.size ≤ sizeLine ∧ Vals xs its.toList
def SqT (K : PySem.W.Frag) (H : Hp) (a : Addr) (xs : List V) : Prop :=
  Rd H a (.tup xs) ∨
    ∃ (o : Obj) (its : Array Value) (n : Nat), K.lookup a = some o ∧ o.cls = .type "tuple" ∧ o.data = .seq its n ∧ its.size ≤ sizeLine ∧ Vals xs its.toList
def absV : Value → Option V
  | .none => some .non
  | .bool b => some (.bl b)
  | .int i _ => some (.int i)
  | .str x _ => some (.str x)
  | .bytes b _ => some (.byt b)
  | .float b _ => some (.flt b)
  | .ref a => some (.ref a)
  | .type n => some (.ty n)
  | _ => none
theorem RelV.abs {x : V} {u : Value} (r : RelV x u) : absV u = some x := by
  cases x with
  | non => cases r; rfl
  | bl _ => cases r; rfl
  | int _ => obtain ⟨t, rfl⟩ := r; rfl
  | str _ => obtain ⟨t, rfl⟩ := r; rfl
  | byt _ => obtain ⟨t, rfl⟩ := r; rfl
  | flt _ => obtain ⟨t, rfl⟩ := r; rfl
  | ref _ => cases r; rfl
  | ty _ => cases r; rfl
theorem RelV.inj {x y : V} {u : Value} (r : RelV x u) (q : RelV y u) : x = y := Option.some.inj (r.abs.symm.trans q.abs)
theorem Vals.inj : ∀ {xs ys : List V} {us : List Value}, Vals xs us → Vals ys us → xs = ys
  | _, _, _, .nil, .nil => rfl
  | _, _, _, .cons r t, .cons r' t' => by rw [r.inj r', Vals.inj t t']
section
variable {X : Cx} {pins : List (Addr × Obj)} {σ : St} {H : Hp} {s : Shared} {a : Addr} {xs ys : List V}
theorem SqL.of {K : PySem.W.Frag} (h : H a = some (.lst xs)) : SqL K H a xs := .inl (.inl h)
theorem SqT.of {K : PySem.W.Frag} (h : H a = some (.tup xs)) : SqT K H a xs := .inl (.inl h)
theorem Inv.list (I : Inv X pins σ H s) (h : SqL X.K H a xs) : ∃ its : List Value, Vals xs its ∧ PlainL s.heap a its.toArray ∧ xs.length ≤ sizeLine := by
  rcases h with h | ⟨o, its, n, hk, hc, hd, hs, hz, r⟩
  · obtain ⟨z, its, n, r, e⟩ := h.ok I.hok
    exact ⟨its, r, ⟨_, n, e, rfl, rfl, rfl⟩, z⟩
  · refine ⟨its.toList, r, ⟨o, n, I.kIn a o hk, hc, hd, by simpa using hs⟩, ?_⟩
    have e := r.length
    simp only [Array.length_toList] at e
    omega
theorem Inv.tuple (I : Inv X pins σ H s) (h : SqT X.K H a xs) : ∃ its : List Value, Vals xs its ∧ IsTup s.heap a its.toArray ∧ xs.length ≤ sizeLine := by
  rcases h with h | ⟨o, its, n, hk, hc, hs, hz, r⟩
  · obtain ⟨z, its, r, p⟩ := h.ok I.hok
    exact ⟨its, r, p, z⟩
  · refine ⟨its.toList, r, ⟨o, I.kIn a o hk, hc, n, by simpa using hs⟩, ?_⟩
    have e := r.length
    simp only [Array.length_toList] at e
    omega
theorem Inv.list_inj (I : Inv X pins σ H s) (h : SqL X.K H a xs) (h' : SqL X.K H a ys) : xs = ys := by
  obtain ⟨its, r, ⟨o, n, e, _, _, d⟩, _⟩ := I.list h
  obtain ⟨its', r', ⟨o', n', e', _, _, d'⟩, _⟩ := I.list h'
  rw [e] at e'; cases e'
  rw [d] at d'
  injection d' with d1 _
  have : its = its' := by simpa using congrArg Array.toList d1
  subst this
  exact r.inj r'
theorem Inv.tuple_inj (I : Inv X pins σ H s) (h : SqT X.K H a xs) (h' : SqT X.K H a ys) : xs = ys := by
  obtain ⟨its, r, ⟨o, e, _, n, d⟩, _⟩ := I.tuple h
  obtain ⟨its', r', ⟨o', e', _, n', d'⟩, _⟩ := I.tuple h'
  rw [e] at e'; cases e'
  rw [d] at d'
  injection d' with d1 _
  have : its = its' := by simpa using congrArg Array.toList d1
  subst this
  exact r.inj r'
end

/-! ### another wish about exceptions -/
abbrev Cx.wish (X : Cx) (E : Value → Shared → Prop) : Cx := { X with xe := E }
/-- no exception leaves -/
abbrev Cx.nox (X : Cx) : Cx := X.wish fun _ _ => False
theorem Cx.Ok.wish {X : Cx} (ok : X.Ok) (E : Value → Shared → Prop) : (X.wish E).Ok :=
  ⟨ok.mod, ok.kind, ok.glob, ok.blt, ok.above, ok.inj, ok.has, ok.cab, ok.hd, ok.frames, ok.stk, ok.exf, ok.bs, ok.bsz, ok.noex, ok.exfs, ok.funs, ok.frf⟩
theorem Cx.Ok.unwish {X : Cx} {E : Value → Shared → Prop} (ok : (X.wish E).Ok) : X.Ok :=
  ⟨ok.mod, ok.kind, ok.glob, ok.blt, ok.above, ok.inj, ok.has, ok.cab, ok.hd, ok.frames, ok.stk, ok.exf, ok.bs, ok.bsz, ok.noex, ok.exfs, ok.funs, ok.frf⟩
section
variable {X : Cx} {pins : List (Addr × Obj)} {σ : St} {H : Hp} {s : Shared} {E : Value → Shared → Prop}
theorem Inv.wish (I : Inv X pins σ H s) (E : Value → Shared → Prop) : Inv (X.wish E) pins σ H s := ⟨I.ok.wish E, I.os, I.bare, I.base, I.loc, I.cell, I.free, I.freeC, I.pin, I.hok, I.len⟩
theorem Inv.unwish (I : Inv (X.wish E) pins σ H s) : Inv X pins σ H s := ⟨I.ok.unwish, I.os, I.bare, I.base, I.loc, I.cell, I.free, I.freeC, I.pin, I.hok, I.len⟩
theorem SP.unwish {D : Ends} {f : Flow} {s' : Shared} (h : SP (X.wish E) pins D f s') : SP X pins D f s' := by
  cases f with
  | next => obtain ⟨σ', H', I, q⟩ := h; exact ⟨σ', H', I.unwish, q⟩
  | brk => obtain ⟨σ', H', I, q⟩ := h; exact ⟨σ', H', I.unwish, q⟩
  | cont => obtain ⟨σ', H', I, q⟩ := h; exact ⟨σ', H', I.unwish, q⟩
  | ret u => obtain ⟨v, σ', H', I, r, q⟩ := h; exact ⟨v, σ', H', I.unwish, r, q⟩
theorem PE.nox {e : Expr} {t : TE} (h : PE X.nox e t) : PE X e t := fun pins s σ H Q I hw =>
  wpAny_mono (h pins s σ H Q (I.wish _) hw) (fun _ _ ⟨v, H', I', r, q⟩ => ⟨v, H', I'.unwish, r, q⟩) fun _ _ z => False.elim z
theorem PT.nox {e : Expr} {t : TT} (h : PT X.nox e t) : PT X e t := fun pins s σ H Q I hw =>
  wpAny_mono (h pins s σ H Q (I.wish _) hw) (fun _ _ ⟨H', I', q⟩ => ⟨H', I'.unwish, q⟩) fun _ _ z => False.elim z
theorem PSs.nox {st : List Stmt} {t : TS} (h : PSs X.nox st t) : PSs X st t := fun pins s σ H D I hw =>
  wpAny_mono (h pins s σ H D (I.wish _) hw) (fun _ _ q => q.unwish) fun _ _ z => False.elim z
end

/-! ### blocks and small statements -/
section
variable {X : Cx} {st : Stmt} {rest : List Stmt} {t u : TS} {e : Expr} {te : TE} {pos : Pos}
def tNext : TS := fun D σ H => D.nx σ H
def tSeq (t u : TS) : TS := fun D σ H => t { D with nx := u D } σ H
theorem pss_nil : PSs X [] tNext := fun _ _ σ H _ I h => wpAny_execs_nil ⟨σ, H, I, h⟩
theorem pss_cons (h1 : PS X st t) (h2 : PSs X rest u) : PSs X (st :: rest) (tSeq t u) := by
  intro pins s σ H D I h
  refine wpAny_execs_cons (thn (h1 pins s σ H { D with nx := u D } I h) fun f s1 q => ?_)
  cases f with
  | next =>
    obtain ⟨σ', H', I', q⟩ := q
    exact h2 pins s1 σ' H' D I' q
  | ret v => exact q
  | brk => exact q
  | cont => exact q
theorem pss_one (h1 : PS X st t) : PSs X [st] t := by
  intro pins s σ H D I h
  refine wpAny_execs_cons (thn (h1 pins s σ H D I h) fun f s1 q => ?_)
  cases f with
  | next => exact wpAny_execs_nil q
  | ret v => exact q
  | brk => exact q
  | cont => exact q
def tBreak : TS := fun D σ H => D.bk σ H
def tCont : TS := fun D σ H => D.ct σ H
theorem ps_pass : PS X (.Pass pos) tNext := fun _ _ σ H _ I h => wpAny_Pass ⟨σ, H, I, h⟩
theorem ps_break : PS X (.Break pos) tBreak := fun _ _ σ H _ I h => wpAny_Break ⟨σ, H, I, h⟩
theorem ps_continue : PS X (.Continue pos) tCont := fun _ _ σ H _ I h => wpAny_Continue ⟨σ, H, I, h⟩
/-- in a def's body nothing is shown -/
theorem Inv.quiet {pins : List (Addr × Obj)} {σ : St} {H : Hp} {s : Shared} (I : Inv X pins σ H s) : interactive X.env = false := by simp [interactive, I.ok.kind]
/-- a docstring -/
theorem ps_doc {x j pos pos'} : PS X (.Expr (.Constant (.str x) j pos) pos') tNext := fun _ s σ H _ I h => wpAny_Expr (Calls.Constant_str (show SP X _ _ .next { s with toks := s.toks + 1 } from ⟨σ, H, I.tok _, h⟩)) I.quiet
/-- an expression whose value is dropped -/
def tDrop (te : TE) : TS := fun D σ H => te σ H fun _ H1 => D.nx σ H1
theorem ps_expr (he : PE X e te) (hs : swapsWith e none pos.line X.env = pure false := by rfl) : PS X (.Expr e pos) (tDrop te) := by
  intro pins s σ H D I h
  exact wpAny_Expr_any (thn (he pins s σ H _ I h) fun v s1 ⟨x, H1, I1, r1, q1⟩ => ⟨σ, H1, I1, q1⟩) I.quiet hs
def tRet (te : TE) : TS := fun D σ H => te σ H D.rt
theorem ps_ret (he : PE X e te) : PS X (.Return (some e) pos) (tRet te) := by
  intro pins s σ H D I h
  exact wpAny_Return_some (thn (he pins s σ H _ I h) fun v s1 ⟨x, H1, I1, r1, q1⟩ => ⟨x, σ, H1, I1, r1, q1⟩)
def tRetN : TS := fun D _ H => D.rt .non H
theorem ps_retN : PS X (.Return none pos) tRetN := fun _ _ σ H _ I h => wpAny_Return_none ⟨.non, σ, H, I, rfl, h⟩
def tIfS (c : TT) (t u : TS) : TS := fun D σ H => c σ H fun b H1 => if b = true then t D σ H1 else u D σ H1
theorem ps_if {c : Expr} {a b : List Stmt} {tc : TT} (hc : PT X c tc) (ha : PSs X a t) (hb : PSs X b u) : PS X (.If c a b pos) (tIfS tc t u) := by
  intro pins s σ H D I h
  refine wpAny_If (thn (hc pins s σ H _ I h) fun d s1 ⟨H1, I1, q1⟩ => ?_)
  cases d with
  | true => exact ha pins s1 σ H1 D I1 q1
  | false => exact hb pins s1 σ H1 D I1 q1
/-- code that the proof never comes to -/
def tNever : TS := fun _ _ _ => False
theorem ps_never : PS X st tNever := fun _ _ _ _ _ _ h => h.elim
theorem pss_never {sts : List Stmt} : PSs X sts tNever := fun _ _ _ _ _ _ h => h.elim
end

/-! ### targets -/
abbrev TG := V → St → Hp → (St → Hp → Prop) → Prop
abbrev TGs := List V → St → Hp → (St → Hp → Prop) → Prop
def PG (X : Cx) (target : Expr) (t : TG) : Prop :=
  ∀ (pins : List (Addr × Obj)) (s : Shared) (σ : St) (H : Hp) (v : V) (u : Value) (Q : St → Hp → Prop), Inv X pins σ H s → RelV v u → t v σ H Q →
    wpAny (model X.prog X.w) X.A (assign target X.env u) (fun _ s' => ∃ σ' H', Inv X pins σ' H' s' ∧ Q σ' H') X.xe s
/-- several targets, one after another -/
def PGs (X : Cx) (ts : List Expr) (t : TGs) : Prop :=
  ∀ (pins : List (Addr × Obj)) (s : Shared) (σ : St) (H : Hp) (vs : List V) (us : List Value) (Q : St → Hp → Prop), Inv X pins σ H s → Vals vs us → t vs σ H Q →
    wpAny (model X.prog X.w) X.A (assignInOrder ((assignEach ts X.env).map (·.2)) us) (fun _ s' => ∃ σ' H', Inv X pins σ' H' s' ∧ Q σ' H') X.xe s
/-- o[i] = v, by values -/
abbrev TSet := V → V → V → Hp → (Hp → Prop) → Prop
def PSet (X : Cx) (t : TSet) : Prop :=
  ∀ (pins : List (Addr × Obj)) (s : Shared) (σ : St) (H : Hp) (o i v : V) (ov iv u : Value) (Q : Hp → Prop), Inv X pins σ H s → RelV o ov → RelV i iv → RelV v u → t o i v H Q →
    wpAny (model X.prog X.w) X.A (setItem ov iv u) (fun _ s' => ∃ H', Inv X pins σ H' s' ∧ Q H') X.xe s
/-- a op= b, by values -/
abbrev TIp := V → V → Hp → VK → Prop
def PIp (X : Cx) (op : Operator) (t : TIp) : Prop :=
  ∀ (pins : List (Addr × Obj)) (s : Shared) (σ : St) (H : Hp) (x y : V) (v u : Value) (Q : VK), Inv X pins σ H s → RelV x v → RelV y u → t x y H Q →
    wpAny (model X.prog X.w) X.A (inplaceOp op v u) (EP X pins σ Q) X.xe s
section
variable {X : Cx} {pos : Pos}
def gName (i : Nat) : TG := fun v σ H Q => Q (σ.set i (some v)) H
theorem pg_name {i : Nat} {x : Str} (hN : X.N.Nodup) (hi : X.N[i]? = some x) (hx : Loc X.env.scope x) (hf : X.fn x = true ∨ X.env.scope.names.lookup x = some .local := by first | exact .inl rfl | exact .inr rfl | assumption) : PG X (.Name x pos) (gName i) := by
  intro pins s σ H v u Q I r h
  exact wpAny_assign_Name (store_ok I hN hi hx r (fun s' I' => ⟨_, H, I', h⟩) hf)
def gNil : TGs := fun vs σ H Q => vs = [] ∧ Q σ H
def gCons (t : TG) (u : TGs) : TGs := fun vs σ H Q => ∃ v r, vs = v :: r ∧ t v σ H fun σ' H' => u r σ' H' Q
theorem pgs_nil : PGs X [] gNil := by
  intro pins s σ H vs us Q I r h
  obtain ⟨e, h⟩ := h
  subst e
  cases r
  exact assignInOrder_nil ⟨σ, H, I, h⟩
theorem pgs_cons {e : Expr} {es : List Expr} {t : TG} {u : TGs} (h1 : PG X e t) (h2 : PGs X es u)
    (hs : (assignEach (e :: es) X.env).map (·.2) = assign e X.env :: (assignEach es X.env).map (·.2) := by rfl) : PGs X (e :: es) (gCons t u) := by
  intro pins s σ H vs us Q I r h
  obtain ⟨v, vr, e1, h⟩ := h
  subst e1
  cases r with
  | cons r rr =>
    rw [hs]
    refine assignInOrder_cons (thn (h1 pins s σ H _ _ _ I r h) fun _ s1 ⟨σ1, H1, I1, q1⟩ => ?_)
    exact h2 pins s1 σ1 H1 _ _ Q I1 rr q1
/-- (a, b, ..) = a tuple of that length -/
def gTup (K : PySem.W.Frag) (n : Nat) (t : TGs) : TG := fun v σ H Q => ∃ a xs, v = .ref a ∧ SqT K H a xs ∧ xs.length = n ∧ t xs σ H Q
theorem pg_tup {es : List Expr} {k : Nat} {t : TGs} {n : Nat} (hc : X.calm = true) (h : PGs X es t)
    (hn : (assignEach es X.env).length = n := by rfl) (hst : (assignEach es X.env).findIdx? (·.1) = none := by rfl) : PG X (.Tuple es k pos) (gTup X.K n t) := by
  intro pins s σ H v u Q I r hw
  obtain ⟨a, xs, e1, hq, hl, hw⟩ := hw
  subst e1
  cases r
  obtain ⟨its, rv, ht, hz⟩ := I.tuple hq
  refine assign_Tuple_tuple (I.ok.hd hc) ht (by simp [hn, ← hl, rv.length]) hst fun h' hx => ?_
  have I1 : Inv X pins σ H { s with heap := h' } := I.kept (t' := s.toks) fun b o e => hx b o (Nat.ne_of_lt (Heap.lt_size e)) e
  exact h pins _ σ H xs _ Q I1 (by simpa using rv) hw
/-- o[i] = .. -/
def gSub (to ti : TE) (t : TSet) : TG := fun v σ H Q => to σ H fun o H1 => ti σ H1 fun i H2 => t o i v H2 fun H3 => Q σ H3
theorem pg_sub {o i : Expr} {to ti : TE} {t : TSet} (ho : PE X o to) (hi : PE X i ti) (hs : PSet X t)
    (ha : ∀ v, assign (.Subscript o i pos) X.env v = (do
      let ov ← holding [v] (eval o X.env)
      let iv ← holding [v, ov] (eval i X.env)
      standAt pos
      holding [v, ov, iv] (setItem ov iv v)
      release [v, ov, iv] []) := by intro _; rfl) : PG X (.Subscript o i pos) (gSub to ti t) := by
  intro pins s σ H v u Q I r h
  rw [ha]
  refine wpAny_bind (wpAny_holding (thn (ho pins s σ H _ I h) fun ov s1 ⟨x, H1, I1, r1, q1⟩ => ?_))
  refine wpAny_bind (wpAny_holding (thn (hi pins s1 σ H1 _ I1 q1) fun iv s2 ⟨y, H2, I2, r2, q2⟩ => ?_))
  refine wpAny_bind (wpAny_standAt (wpAny_bind (wpAny_holding (thn (hs pins s2 σ H2 x y v ov iv u _ I2 r1 r2 r q2) fun _ s3 ⟨H3, I3, q3⟩ => ?_))))
  exact wpAny_release ⟨σ, H3, I3, q3⟩
/-- target = value -/
def tAsg (te : TE) (g : TG) : TS := fun D σ H => te σ H fun x H1 => g x σ H1 D.nx
theorem ps_asg {tg e : Expr} {te : TE} {g : TG} (he : PE X e te) (hg : PG X tg g) (hs : swapsWithSole [tg] e pos.line X.env = pure false := by rfl) (hw : swappedStores [tg] e X.env = pure none := by rfl)
    (h1 : (assignEach [tg] X.env).map (·.2) = [assign tg X.env] := by rfl) : PS X (.Assign [tg] e pos) (tAsg te g) := by
  intro pins s σ H D I h
  refine wpAny_Assign_stores (thn (he pins s σ H _ I h) fun v s1 ⟨x, H1, I1, r1, q1⟩ => ?_) hs hw
  rw [h1]
  exact thn (hg pins s1 σ H1 x v _ I1 r1 q1) fun _ s2 q => q
/-- name = value -/
theorem ps_set {i : Nat} {x : Str} {e : Expr} {te : TE} {pos' : Pos} (hN : X.N.Nodup) (hi : X.N[i]? = some x) (hx : Loc X.env.scope x) (he : PE X e te) (hs : swapsWith e (some (.Name x pos')) pos.line X.env = pure false := by rfl) (hf : X.fn x = true ∨ X.env.scope.names.lookup x = some .local := by first | exact .inl rfl | exact .inr rfl | assumption) :
    PS X (.Assign [.Name x pos'] e pos) (tAsg te (gName i)) := by
  intro pins s σ H D I h
  refine wpAny_Assign_Name (thn (he pins s σ H _ I h) fun v s1 ⟨y, H1, I1, r1, q1⟩ => ?_) hs
  exact store_ok I1 hN hi hx r1 (fun s2 I2 => ⟨_, H1, I2, q1⟩) hf
/-- a, b = x, y with plain local names: stored from the right; the pair itself is not tracked (the opening rows as in PyProof/Rows/TupAssign.lean:23) -/
def tPar (i j : Nat) (ta : TA) : TS := fun D σ H => ta σ H fun vs H1 => ∃ v w, vs = [v, w] ∧ D.nx ((σ.set i (some v)).set j (some w)) H1
theorem ps_par {i j : Nat} {x y : Str} {a b : Expr} {ta : TA} {px py pt : Pos} {kt k2 pt2} (hc : X.calm = true) (hN : X.N.Nodup) (hi : X.N[i]? = some x) (hj : X.N[j]? = some y) (hij : i ≠ j)
    (hx : X.env.scope.names.lookup x = some .local) (hy : X.env.scope.names.lookup y = some .local) (ha : PA X [a, b] ta)
    (hw : swappedStores [.Tuple [.Name x px, .Name y py] kt pt] (.Tuple [a, b] k2 pt2) X.env = pure (some [x, y]))
    (hs : swapsWithSole [.Tuple [.Name x px, .Name y py] kt pt] (.Tuple [a, b] k2 pt2) pos.line X.env = pure false := by rfl) :
    PS X (.Assign [.Tuple [.Name x px, .Name y py] kt pt] (.Tuple [a, b] k2 pt2) pos) (tPar i j ta) := by
  intro pins s σ H D I h
  rw [exec_Assign_arm]
  refine wpAny_bind (wpAny_standAt ?_)
  rw [hs]
  refine wpAny_bind (wpAny_pure ?_)
  rw [if_neg (by decide)]
  refine wpAny_bind (Tuple_ (thn (ha _ pins s σ H _ I h) fun us s1 ⟨vs, H1, I1, r1, q1⟩ => ?_))
  obtain ⟨v, w, e1, q1⟩ := q1
  subst e1
  obtain ⟨u1, u2, rfl, rv, rw'⟩ : ∃ u1 u2, us = [u1, u2] ∧ RelV v u1 ∧ RelV w u2 := by
    cases r1 with
    | cons p q =>
      cases q with
      | cons p' q' =>
        cases q'
        exact ⟨_, _, rfl, p, p'⟩
  refine wpAny_newObj_type ?_ (by show 2 ≤ sizeLine; decide)
  have I2 : Inv X pins σ H1 { s1 with heap := s1.heap.push { cls := .type "tuple", data := .seq [u1, u2].toArray } } := I1.kept (t' := s1.toks) fun b o e => Heap.get?_push_of_some _ e
  rw [hw]
  refine wpAny_bind (wpAny_pure ?_)
  show wpAny (model X.prog X.w) X.A (do rule "assign.swapped-stores"; let items ← unpackItems (.ref s1.heap.objs.size) 2 none; assignInOrder [fun v => bindName X.env y v, fun v => bindName X.env x v] items.reverse; pure Flow.next) _ _ _
  refine wpAny_bind (wpAny_rule (wpAny_bind (unpackItems_tuple (items := #[u1, u2]) (I.ok.hd hc) (IsTup.new s1.heap _) fun h' hx' => ?_)))
  have I3 := I2.kept (h' := h') (t' := s1.toks) fun b o e => hx' b o (Nat.ne_of_lt (Heap.lt_size e)) e
  show wpAny _ _ (assignInOrder [fun v => bindName X.env y v, fun v => bindName X.env x v] [u2, u1] >>= fun _ => pure Flow.next) _ _ _
  refine wpAny_bind (assignInOrder_cons (wpAny_bindName (store_ok I3 hN hj (.inl hy) rw' (fun s2 I4 => ?_) (.inr hy))))
  refine assignInOrder_cons (wpAny_bindName (store_ok I4 hN hi (.inl hx) rv (fun s3 I5 => assignInOrder_nil (wpAny_pure ?_)) (.inr hx)))
  rw [List.set_comm _ _ (Ne.symm hij)] at I5
  exact ⟨_, H1, I5, q1⟩
/-- name op= e -/
def tAug (i : Nat) (te : TE) (ti : TIp) : TS := fun D σ H => ∃ x, σ[i]? = some (some x) ∧ te σ H fun y H1 => ti x y H1 fun z H2 => D.nx (σ.set i (some z)) H2
theorem ps_aug {i : Nat} {x : Str} {e : Expr} {te : TE} {op : Operator} {ti : TIp} {pos' : Pos} (hN : X.N.Nodup) (hi : X.N[i]? = some x) (hx : Loc X.env.scope x) (he : PE X e te) (ho : PIp X op ti) (hf : X.fn x = true ∨ X.env.scope.names.lookup x = some .local := by first | exact .inl rfl | exact .inr rfl | assumption) :
    PS X (.AugAssign (.Name x pos') op e pos) (tAug i te ti) := by
  intro pins s σ H D I h
  obtain ⟨v, e1, h⟩ := h
  obtain ⟨m, hn, hl⟩ := I.loc
  have vis : Vis X.env.scope x := by rcases hx with k | k; exact .inl k; exact .inr (.inl k)
  obtain ⟨u, r, l⟩ := hl i x v hi e1 vis
  refine wpAny_AugAssign_Name ?_
  have go : wpAny (model X.prog X.w) X.A (eval e X.env) (fun w s₂ => wpAny (model X.prog X.w) X.A (inplaceOp op u w) (fun r s₃ => wpAny (model X.prog X.w) X.A (storeName X.env x r) (fun _ => SP X pins D .next) X.xe s₃) X.xe s₂) X.xe s := by
    refine thn (he pins s σ H _ I h) fun w s1 ⟨y, H1, I1, r1, q1⟩ => ?_
    refine thn (ho pins s1 σ H1 v y u w _ I1 r r1 q1) fun z s2 ⟨zv, H2, I2, r2, q2⟩ => ?_
    exact store_ok I2 hN hi hx r2 (fun s3 I3 => ⟨_, H2, I3, q2⟩) hf
  rcases l with ⟨hk, hm⟩ | ⟨hk, c, hc, hcell⟩
  · exact wpAny_loadName_local I.ok.kind hk hn hm go
  · rcases hk with hk | hk
    · exact wpAny_loadName_cell I.ok.kind hk hc hcell go
    · rcases hx with k | k
      · have : X.env.scope.names.lookup x = some .free := hk
        rw [k] at this; cases this
      · have : X.env.scope.names.lookup x = some .free := hk
        rw [k] at this; cases this
/-- o[i] op= e -/
def tAugS (to ti te : TE) (tget : V → V → Hp → VK → Prop) (tip : TIp) (tset : TSet) : TS := fun D σ H => to σ H fun o H1 => ti σ H1 fun i H2 => tget o i H2 fun x H3 => te σ H3 fun y H4 => tip x y H4 fun z H5 => tset o i z H5 fun H6 => D.nx σ H6
/-- o[i], by values -/
def PGet (X : Cx) (t : V → V → Hp → VK → Prop) : Prop :=
  ∀ (pins : List (Addr × Obj)) (s : Shared) (σ : St) (H : Hp) (o i : V) (ov iv : Value) (Q : VK), Inv X pins σ H s → RelV o ov → RelV i iv → t o i H Q →
    wpAny (model X.prog X.w) X.A (getItem ov iv) (EP X pins σ Q) X.xe s
theorem ps_augS {o i e : Expr} {to ti te : TE} {tget : V → V → Hp → VK → Prop} {tip : TIp} {tset : TSet} {op : Operator} {tpos : Pos} (ho : PE X o to) (hi : PE X i ti) (hg : PGet X tget) (he : PE X e te) (hp : PIp X op tip) (hs : PSet X tset)
    (ha : ∀ ov iv new, augStore i ov iv new = (do holding [new, ov, iv] (setItem ov iv new); release [new, ov, iv] []; pure .next) := by intros; rfl) : PS X (.AugAssign (.Subscript o i tpos) op e pos) (tAugS to ti te tget tip tset) := by
  intro pins s σ H D I h
  refine wpAny_AugAssign_SubscriptAny (thn (ho pins s σ H _ I h) fun ov s1 ⟨x1, H1, I1, r1, q1⟩ => ?_) ha
  refine thn (hi pins s1 σ H1 _ I1 q1) fun iv s2 ⟨x2, H2, I2, r2, q2⟩ => ?_
  refine thn (hg pins s2 σ H2 x1 x2 ov iv _ I2 r1 r2 q2) fun old s3 ⟨x3, H3, I3, r3, q3⟩ => ?_
  refine thn (he pins s3 σ H3 _ I3 q3) fun v s4 ⟨x4, H4, I4, r4, q4⟩ => ?_
  refine thn (hp pins s4 σ H4 x3 x4 old v _ I4 r3 r4 q4) fun new s5 ⟨x5, H5, I5, r5, q5⟩ => ?_
  exact thn (hs pins s5 σ H5 x1 x2 x5 ov iv new _ I5 r1 r2 r5 q5) fun _ s6 ⟨H6, I6, q6⟩ => ⟨σ, H6, I6, q6⟩
/-- ints -/
def ipI (f : Int → Int → Int) : TIp := fun x y H Q => ∃ i j, x = .int i ∧ y = .int j ∧ Q (.int (f i j)) H
theorem ip_add : PIp X .Add (ipI fun i j => i + j) := by
  intro pins s σ H x y v u Q I r1 r2 h
  obtain ⟨i, j, e1, e2, q⟩ := h
  subst e1; subst e2
  obtain ⟨t, rfl⟩ := r1
  obtain ⟨t', rfl⟩ := r2
  exact iadd_int ⟨.int _, H, I.tok _, ⟨_, rfl⟩, q⟩
theorem ip_sub : PIp X .Sub (ipI fun i j => i - j) := by
  intro pins s σ H x y v u Q I r1 r2 h
  obtain ⟨i, j, e1, e2, q⟩ := h
  subst e1; subst e2
  obtain ⟨t, rfl⟩ := r1
  obtain ⟨t', rfl⟩ := r2
  exact isub_int ⟨.int _, H, I.tok _, ⟨_, rfl⟩, q⟩
end

/-! ### while -/
section
variable {X : Cx} {pos : Pos}
/-- the invariant W with its measure -/
def tWhile (c : TT) (tb : TS) : TS := fun D σ H => ∃ W : Nat → St → Hp → Prop, (∃ m, W m σ H) ∧ ∀ m σ H, W m σ H →
  c σ H fun b H1 => if b = true then ∃ N : St → Hp → Prop, (∀ σ' H', N σ' H' → ∃ m', m' < m ∧ W m' σ' H') ∧ tb { D with nx := N, ct := N, bk := D.nx } σ H1 else D.nx σ H1
theorem ps_while {c : Expr} {body : List Stmt} {tc : TT} {tb : TS} (hp : PassesOwn (model X.prog X.w) X.A X.env X.xe) (hc : PT X c tc) (hb : PSs X body tb) : PS X (.While c body [] pos) (tWhile tc tb) := by
  intro pins s σ H D I h
  obtain ⟨W, ⟨m0, w0⟩, turn⟩ := h
  refine wpAny_While (codeAny_whileLoop (fun n s' => ∃ σ' H', Inv X pins σ' H' s' ∧ W n σ' H') ?_ m0 ⟨σ, H, I, w0⟩)
  rintro n s1 ⟨σ1, H1, I1, w1⟩
  refine wpAny_passesOwn hp (thn (hc pins s1 σ1 H1 _ I1 (turn n σ1 H1 w1)) fun b s2 ⟨H2, I2, q2⟩ => ?_)
  cases b with
  | true =>
    obtain ⟨N, hN, q2⟩ := q2
    rw [if_pos rfl]
    refine wpAny_passesOwn hp (thn (hb pins s2 σ1 H2 _ I2 q2) fun f s3 q3 => ?_)
    cases f with
    | next =>
      obtain ⟨σ3, H3, I3, n3⟩ := q3
      obtain ⟨m', hm, w3⟩ := hN σ3 H3 n3
      exact ⟨m', hm, σ3, H3, I3, w3⟩
    | cont =>
      obtain ⟨σ3, H3, I3, n3⟩ := q3
      obtain ⟨m', hm, w3⟩ := hN σ3 H3 n3
      exact ⟨m', hm, σ3, H3, I3, w3⟩
    | brk => exact q3
    | ret v => exact q3
  | false =>
    rw [if_neg Bool.false_ne_true]
    exact wpAny_execs_nil ⟨σ1, H2, I2, q2⟩
end

/-! ### what a loop or a comprehension walks -/
/-- at turn i: it yields x (the heap may grow), or it stops -/
structure It where
  go : Nat → Hp → Prop
  yld : Nat → Hp → V → Hp → Prop
  stop : Nat → Hp → Prop
/-- the iterator's own objects may turn: they are not the frame's, not pinned, younger than the entry (or a comprehension's own) -/
def FpOk (X : Cx) (pins : List (Addr × Obj)) (H : Hp) (b : Addr) : Prop :=
  H b = none ∧ b ≠ X.env.locals ∧ b ∉ X.fs ∧ (b ∈ X.ex ∨ X.s₀.heap.objs.size ≤ b) ∧ (∀ x c, X.env.cells.lookup x = some c → c ≠ b) ∧ ∀ p ∈ X.pn ++ pins, p.1 ≠ b
theorem Inv.fpOk {X : Cx} {pins : List (Addr × Obj)} {σ : St} {H H' : Hp} {s : Shared} {b : Addr} (I : Inv X pins σ H s) (hb : s.heap.objs.size ≤ b) (hn : H' b = none) : FpOk X pins H' b := by
  refine ⟨hn, Nat.ne_of_gt (Nat.lt_of_lt_of_le I.lt hb), I.nofs hb, .inr (Nat.le_trans I.sz hb), fun x c e z => ?_, fun p hp z => ?_⟩
  · obtain ⟨v, q⟩ := I.cell x c e
    exact absurd (Nat.lt_of_lt_of_le q.lt (by rw [z]; exact hb)) (Nat.lt_irrefl _)
  · exact absurd (Nat.lt_of_lt_of_le (Heap.lt_size (I.pin p hp).1) (by rw [z]; exact hb)) (Nat.lt_irrefl _)
structure Turn (P : Program) (w : World) (K : PySem.W.Frag) (tg : Expr) (J : It) (fp : List Addr) (it : Addr) (tn : Nat → Heap → Prop) : Prop where
  mem : it ∈ fp
  obj : ∀ i h, tn i h → ∀ b ∈ fp, ∃ o, h.get? b = some o ∧ ∀ v, o.data ≠ .cell v
  keep : ∀ i h h', tn i h → (∀ b ∈ fp, ∀ o, h.get? b = some o → h'.get? b = some o) → tn i h'
  item : ∀ (X : Cx), X.prog = P → X.w = w → X.K = K → X.calm = true → ∀ (i : Nat) (pins : List (Addr × Obj)) (s : Shared) (σ : St) (H : Hp) (E : Value → Shared → Prop), Inv X pins σ H s → (∀ b ∈ fp, FpOk X pins H b) → tn i s.heap → J.go i H →
    wpAny (model P w) X.A (pyNext (.ref it)) (fun r s1 => ∃ u, r = some u ∧
      wpAny (model P w) X.A (letOwnedTupleGo tg (.ref it) u) (fun _ s2 => ∃ x H', Inv X pins σ H' s2 ∧ RelV x u ∧ J.yld i H x H' ∧ tn (i + 1) s2.heap ∧ ∀ b ∈ fp, H' b = none) E s1) E s
  done : ∀ (X : Cx), X.prog = P → X.w = w → X.K = K → X.calm = true → ∀ (i : Nat) (pins : List (Addr × Obj)) (s : Shared) (σ : St) (H : Hp) (E : Value → Shared → Prop), Inv X pins σ H s → (∀ b ∈ fp, FpOk X pins H b) → tn i s.heap → J.stop i H →
    wpAny (model P w) X.A (pyNext (.ref it)) (fun r s1 => r = none ∧ Inv X pins σ H s1) E s
  self : ∀ (A : Around) (i : Nat) (s : Shared) (Q : Value → Shared → Prop) (E : Value → Shared → Prop), tn i s.heap → Q (.ref it) s → wpAny (model P w) A (pyIter (.ref it)) Q E s
abbrev TI := St → Hp → (It → Hp → Prop) → Prop
/-- an iterator has come -/
def PIE (X : Cx) (pins : List (Addr × Obj)) (σ : St) (tg : Expr) (R : It → Hp → Prop) (itv : Value) (s2 : Shared) : Prop :=
  ∃ (it : Addr) (fp : List Addr) (tn : Nat → Heap → Prop) (J : It) (H' : Hp), itv = .ref it ∧ Inv X pins σ H' s2 ∧ Turn X.prog X.w X.K tg J fp it tn ∧ tn 0 s2.heap ∧ (∀ b ∈ fp, FpOk X pins H' b) ∧ R J H'
def PI (X : Cx) (tg iter : Expr) (wi : TI) : Prop :=
  ∀ (pins : List (Addr × Obj)) (s : Shared) (σ : St) (H : Hp) (R : It → Hp → Prop), Inv X pins σ H s → wi σ H R →
    wpAny (model X.prog X.w) X.A (eval iter X.env) (fun v s1 => wpAny (model X.prog X.w) X.A (pyIter v) (PIE X pins σ tg R) X.xe s1) X.xe s

/-- the step ahead of the store is nothing for an iterator that keeps no tuple -/
theorem go_of {M : Model} {A : Around} {E : Value → Shared → Prop} {s : Shared} {tg : Expr} {it : Addr} {u : Value} {o : Obj} {n : String} {vs : Array Value} {Q : Unit → Shared → Prop} (ho : s.heap.get? it = some o) (hc : o.cls = .type n) (hd : o.data = .fields vs)
    (hn : ["enumerate", "zip", "dict_itemiterator", "dict_reverseitemiterator", "odict_iterator", "itertools.zip_longest", "itertools.pairwise"].contains n = false) (hQ : Q () s) : wpAny M A (letOwnedTupleGo tg (.ref it) u) Q E s := by
  unfold letOwnedTupleGo
  cases tg <;> first
    | exact wpAny_pure hQ
    | (cases u <;> first
        | exact wpAny_pure hQ
        | (refine wpAny_bind (wpAny_load ho ?_)
           rw [hc, hd]
           show wpAny M A (if (["enumerate", "zip", "dict_itemiterator", "dict_reverseitemiterator", "odict_iterator", "itertools.zip_longest", "itertools.pairwise"].contains n && vs[0]? == some (rawInt _)) = true then _ else _) Q E s
           rw [if_neg (by intro h; rw [hn, Bool.false_and] at h; cases h)]
           exact wpAny_pure hQ))

/-- the list at a, as it stands at each turn (a loop may append to it) -/
def Itl (K : PySem.W.Frag) (a : Addr) : It :=
  ⟨fun i H => ∃ xs x, SqL K H a xs ∧ xs[i]? = some x, fun i H x H' => H' = H ∧ ∀ xs, SqL K H a xs → xs[i]? = some x, fun i H => ∃ xs, SqL K H a xs ∧ xs.length ≤ i⟩
def Itt (K : PySem.W.Frag) (a : Addr) : It :=
  ⟨fun i H => ∃ xs x, SqT K H a xs ∧ xs[i]? = some x, fun i H x H' => H' = H ∧ ∀ xs, SqT K H a xs → xs[i]? = some x, fun i H => ∃ xs, SqT K H a xs ∧ xs.length ≤ i⟩
/-- lo, lo + 1, .. (n of them) -/
def Itr (lo : Int) (n : Nat) : It := ⟨fun i _ => i < n, fun i H x H' => H' = H ∧ x = .int (lo + i), fun i _ => n ≤ i⟩
theorem turn_list {P : Program} {w : World} {K : PySem.W.Frag} {tg : Expr} (a it : Addr) : Turn P w K tg (Itl K a) [it] it (fun i h => h.IsListIter it a i) where
  mem := by simp
  obj := fun i h st b hb => by
    have e : b = it := by simpa using hb
    subst e
    obtain ⟨o, e, c, d⟩ := st
    exact ⟨o, e, fun v z => by rw [d] at z; cases z⟩
  keep := fun i h h' st k => st.at fun o e => k it (by simp) o e
  item := by
    intro X hP hw hK hc i pins s σ H E I hf st hg
    subst hP hw hK
    obtain ⟨xs, x, hq, hx⟩ := hg
    obtain ⟨its, rv, p, hz⟩ := I.list hq
    obtain ⟨u, hu, ru⟩ := rv.get hx
    obtain ⟨f0, f1, f2, f3, f4, f5⟩ := hf it (by simp)
    refine wpAny_pyNext_list_item st p.isList (x := u) (by simpa using hu) fun h' st' sb => ?_
    have I1 : Inv X pins σ H { s with heap := h' } := I.turned (t' := s.toks) (fun b o hb e => (sb.2 b hb).trans e) f0 f1 f3 f4 f5
    obtain ⟨o, e, c, d⟩ := id st'
    exact ⟨u, rfl, go_of (s := { s with heap := h' }) e c d (by decide) ⟨x, H, I1, ru, ⟨rfl, fun ys hy => by rw [I.list_inj hy hq]; exact hx⟩, st', fun b hb => (hf b hb).1⟩⟩
  done := by
    intro X hP hw hK hc i pins s σ H E I hf st hg
    subst hP hw hK
    obtain ⟨xs, hq, hx⟩ := hg
    obtain ⟨its, rv, p, hz⟩ := I.list hq
    obtain ⟨f0, f1, f2, f3, f4, f5⟩ := hf it (by simp)
    have hl := rv.length
    exact wpAny_pyNext_list_end (I.ok.hd hc) st p.isList (by simp; omega) fun h' eb => ⟨rfl, I.turned (t' := s.toks) (fun b o hb e => eb b o hb e) f0 f1 f3 f4 f5⟩
  self := fun _ _ _ _ _ st h => wpAny_pyIter_listiter st h
theorem turn_tuple {P : Program} {w : World} {K : PySem.W.Frag} {tg : Expr} (a it : Addr) : Turn P w K tg (Itt K a) [it] it (fun i h => h.IsTupleIter it a i) where
  mem := by simp
  obj := fun i h st b hb => by
    have e : b = it := by simpa using hb
    subst e
    obtain ⟨o, e, c, d⟩ := st
    exact ⟨o, e, fun v z => by rw [d] at z; cases z⟩
  keep := fun i h h' st k => st.at fun o e => k it (by simp) o e
  item := by
    intro X hP hw hK hc i pins s σ H E I hf st hg
    subst hP hw hK
    obtain ⟨xs, x, hq, hx⟩ := hg
    obtain ⟨its, rv, p, hz⟩ := I.tuple hq
    obtain ⟨u, hu, ru⟩ := rv.get hx
    obtain ⟨f0, f1, f2, f3, f4, f5⟩ := hf it (by simp)
    refine wpAny_pyNext_tuple_item st (show s.heap.IsTuple a its.toArray from p) (x := u) (by simpa using hu) fun h' st' sb => ?_
    have I1 : Inv X pins σ H { s with heap := h' } := I.turned (t' := s.toks) (fun b o hb e => (sb.2 b hb).trans e) f0 f1 f3 f4 f5
    obtain ⟨o, e, c, d⟩ := id st'
    exact ⟨u, rfl, go_of (s := { s with heap := h' }) e c d (by decide) ⟨x, H, I1, ru, ⟨rfl, fun ys hy => by rw [I.tuple_inj hy hq]; exact hx⟩, st', fun b hb => (hf b hb).1⟩⟩
  done := by
    intro X hP hw hK hc i pins s σ H E I hf st hg
    subst hP hw hK
    obtain ⟨xs, hq, hx⟩ := hg
    obtain ⟨its, rv, p, hz⟩ := I.tuple hq
    obtain ⟨f0, f1, f2, f3, f4, f5⟩ := hf it (by simp)
    have hl := rv.length
    exact wpAny_pyNext_tuple_end (I.ok.hd hc) st (show s.heap.IsTuple a its.toArray from p) (by simp; omega) fun h' eb => ⟨rfl, I.turned (t' := s.toks) (fun b o hb e => eb b o hb e) f0 f1 f3 f4 f5⟩
  self := fun _ _ _ _ _ st h => wpAny_pyIter_tupleiter st h
theorem turn_range {P : Program} {w : World} {K : PySem.W.Frag} {tg : Expr} (it : Addr) (lo : Int) (n : Nat) : Turn P w K tg (Itr lo n) [it] it (fun i h => IsRangeIter h it (lo + (i : Nat) * 1) ((n : Int) - (i : Nat)) 1) where
  mem := by simp
  obj := fun i h st b hb => by
    have e : b = it := by simpa using hb
    subst e
    exact ⟨_, st, fun v z => by
      have z' : Data.fields _ = Data.cell v := z
      cases z'⟩
  keep := fun i h h' st k => k it (by simp) _ st
  item := by
    intro X hP hw hK hc i pins s σ H E I hf st hg
    subst hP hw hK
    obtain ⟨f0, f1, f2, f3, f4, f5⟩ := hf it (by simp)
    have W := Walks.range (prog := X.prog) (w := X.w) (I.ok.hd hc) it lo 1 n
    refine W.item i s _ _ hg st fun v h' tk hv st' kk => ?_
    obtain ⟨t, rfl⟩ := hv
    have I1 : Inv X pins σ H { s with heap := h', toks := tk } := I.turned (fun b o hb e => kk b o (by simpa using hb) e) f0 f1 f3 f4 f5
    refine ⟨_, rfl, go_of (s := { s with heap := h', toks := tk }) (n := "range_iterator") st' rfl rfl (by decide) ⟨.int (lo + i), H, I1, ⟨t, ?_⟩, ⟨rfl, rfl⟩, st', fun b hb => (hf b hb).1⟩⟩
    rw [Int.mul_one]
  done := by
    intro X hP hw hK hc i pins s σ H E I hf st hg
    subst hP hw hK
    obtain ⟨f0, f1, f2, f3, f4, f5⟩ := hf it (by simp)
    exact wpAny_pyNext_range_end (I.ok.hd hc) st (by have : n ≤ i := hg; omega) fun h' eb => ⟨rfl, I.turned (t' := s.toks) (fun b o hb e => eb b o hb e) f0 f1 f3 f4 f5⟩
  self := fun _ _ _ _ _ st h => wpAny_pyIter_rangeiter st h
end L2

namespace L2
open PySem PySem.Spec PyProof.Rows
section
variable {X : Cx} {tg : Expr}
def iList (K : PySem.W.Frag) (tl : TE) : TI := fun σ H R => tl σ H fun x H1 => ∃ a, x = .ref a ∧ (∃ xs, SqL K H1 a xs) ∧ R (Itl K a) H1
def iTup (K : PySem.W.Frag) (tl : TE) : TI := fun σ H R => tl σ H fun x H1 => ∃ a, x = .ref a ∧ (∃ xs, SqT K H1 a xs) ∧ R (Itt K a) H1
theorem pi_list {l : Expr} {tl : TE} (hl : PE X l tl) : PI X tg l (iList X.K tl) := by
  intro pins s σ H R I h
  refine thn (hl pins s σ H _ I h) fun v s1 ⟨x, H1, I1, r1, q1⟩ => ?_
  obtain ⟨a, e, ⟨xs, hq⟩, q⟩ := q1
  subst e
  cases r1
  obtain ⟨its, rv, p, hz⟩ := I1.list hq
  refine wpAny_pyIter_list p.isList ?_
  refine ⟨s1.heap.objs.size, [s1.heap.objs.size], _, _, H1, rfl, I1.kept (t' := s1.toks) fun b o e => Heap.get?_push_of_some _ e, turn_list a _, ⟨_, Heap.get?_push_size _ rfl, rfl, rfl⟩, fun b hb => ?_, q⟩
  have e : b = s1.heap.objs.size := by simpa using hb
  subst e
  exact I1.fpOk (Nat.le_refl _) (I1.hok.fresh (Nat.le_refl _))
theorem pi_tup {l : Expr} {tl : TE} (hl : PE X l tl) : PI X tg l (iTup X.K tl) := by
  intro pins s σ H R I h
  refine thn (hl pins s σ H _ I h) fun v s1 ⟨x, H1, I1, r1, q1⟩ => ?_
  obtain ⟨a, e, ⟨xs, hq⟩, q⟩ := q1
  subst e
  cases r1
  obtain ⟨its, rv, p, hz⟩ := I1.tuple hq
  refine wpAny_pyIter_tuple (show s1.heap.IsTuple a its.toArray from p) ?_
  refine ⟨s1.heap.objs.size, [s1.heap.objs.size], _, _, H1, rfl, I1.kept (t' := s1.toks) fun b o e => Heap.get?_push_of_some _ e, turn_tuple a _, ⟨_, Heap.get?_push_size _ rfl, rfl, rfl⟩, fun b hb => ?_, q⟩
  have e : b = s1.heap.objs.size := by simpa using hb
  subst e
  exact I1.fpOk (Nat.le_refl _) (I1.hok.fresh (Nat.le_refl _))
/-- a range object just made, walked -/
theorem range_it {pins : List (Addr × Obj)} {σ : St} {H : Hp} {s : Shared} {R : It → Hp → Prop} {E : Value → Shared → Prop} {lo hi : Int} {t u v : Tok} {tk : Nat} (I : Inv X pins σ H s) (h1 : -(2 ^ 62) ≤ lo) (h2 : lo < 2 ^ 62) (h3 : -(2 ^ 62) ≤ hi) (h4 : hi < 2 ^ 62)
    (q : R (Itr lo (hi - lo).toNat) H) : wpAny (model X.prog X.w) X.A (pyIter (.ref s.heap.objs.size)) (PIE X pins σ tg R) E { s with heap := s.heap.push { cls := .type "range", data := .fields #[.int lo t, .int hi u, .int 1 v] }, toks := tk } := by
  refine wpAny_pyIter_range (IsRange.new ..) (small_one h1 h2 h3 h4) ?_
  have I1 : Inv X pins σ H { s with heap := s.heap.push { cls := .type "range", data := .fields #[.int lo t, .int hi u, .int 1 v] }, toks := tk } := I.kept fun b o e => Heap.get?_push_of_some _ e
  refine ⟨(s.heap.push { cls := .type "range", data := .fields #[.int lo t, .int hi u, .int 1 v] }).objs.size, [(s.heap.push { cls := .type "range", data := .fields #[.int lo t, .int hi u, .int 1 v] }).objs.size], _, _, H, rfl,
    I1.kept (t' := tk) fun b o e => Heap.get?_push_of_some _ e, turn_range _ lo (hi - lo).toNat, ?_, fun b hb => ?_, q⟩
  · have e1 : lo + ((0 : Nat) : Int) * 1 = lo := by simp
    have e2 : (((hi - lo).toNat : Nat) : Int) - ((0 : Nat) : Int) = Builtin.Range.rangeSize lo hi 1 := by rw [rangeSize_one]; split <;> omega
    show IsRangeIter _ _ (lo + ((0 : Nat) : Int) * 1) ((((hi - lo).toNat : Nat) : Int) - ((0 : Nat) : Int)) 1
    rw [e1, e2]
    exact Heap.get?_push_size _ rfl
  · have e : b = (s.heap.push { cls := .type "range", data := .fields #[.int lo t, .int hi u, .int 1 v] }).objs.size := by simpa using hb
    subst e
    exact I1.fpOk (Nat.le_refl _) (I1.hok.fresh (Nat.le_refl _))
def iRng1 (ta : TA) : TI := fun σ H R => ta σ H fun vs H1 => ∃ j : Int, vs = [.int j] ∧ -(2 ^ 62) ≤ j ∧ j < 2 ^ 62 ∧ R (Itr 0 j.toNat) H1
def iRng2 (ta : TA) : TI := fun σ H R => ta σ H fun vs H1 => ∃ i j : Int, vs = [.int i, .int j] ∧ (-(2 ^ 62) ≤ i ∧ i < 2 ^ 62 ∧ -(2 ^ 62) ≤ j ∧ j < 2 ^ 62) ∧ R (Itr i (j - i).toNat) H1
theorem pi_range1 {a : Expr} {ta : TA} {p pos : Pos} (hg : Gl X "range") (hm : X.mg "range" = none) (ha : PA X [a] ta) (hs : starEach [a] X.env = [(false, eval a X.env)] := by rfl) : PI X tg (.Call (.Name "range" p) [a] [] pos) (iRng1 ta) := by
  intro pins s σ H R I h
  refine Call_ (ld_blt I hg hm boot_range (PyProof.Rows.callWith_type1 (thn (ha pos pins s σ H _ I h) fun us s1 ⟨vs, H1, I1, r1, q1⟩ => ?_) hs rfl))
  obtain ⟨j, e, q1, q2, q⟩ := q1
  subst e
  cases r1 with
  | cons r rr =>
    cases rr
    obtain ⟨t, rfl⟩ := r
    exact call_range_1 (range_it I1 (by omega) (by omega) q1 q2 (by simpa using q))
theorem pi_range2 {a b : Expr} {ta : TA} {p pos : Pos} (hg : Gl X "range") (hm : X.mg "range" = none) (ha : PA X [a, b] ta) (hs : starEach [a, b] X.env = [(false, eval a X.env), (false, eval b X.env)] := by rfl) (hs2 : starEach [b] X.env = [(false, eval b X.env)] := by rfl) :
    PI X tg (.Call (.Name "range" p) [a, b] [] pos) (iRng2 ta) := by
  intro pins s σ H R I h
  refine Call_ (ld_blt I hg hm boot_range (PyProof.Rows.callWith_type1 (thn (ha pos pins s σ H _ I h) fun us s1 ⟨vs, H1, I1, r1, q1⟩ => ?_) (by rw [hs, hs2]) (by rw [hs2]; rfl)))
  obtain ⟨i, j, e, ⟨q1, q2, q3, q4⟩, q⟩ := q1
  subst e
  cases r1 with
  | cons r rr =>
    cases rr with
    | cons r' rr =>
      cases rr
      obtain ⟨t, rfl⟩ := r
      obtain ⟨t', rfl⟩ := r'
      exact call_range_2 (range_it I1 q1 q2 q3 q4 q)

/-! ### for -/
/-- W: the invariant by the turn and a measure; N: what the body is to reach -/
def tFor (wi : TI) (g : TG) (tb : TS) : TS := fun D σ H => wi σ H fun J H1 => ∃ W : Nat → Nat → St → Hp → Prop, (∃ m, W 0 m σ H1) ∧ ∀ i m σ H, W i m σ H →
  (J.stop i H ∧ D.nx σ H) ∨ (J.go i H ∧ ∃ N : St → Hp → Prop, (∀ σ' H', N σ' H' → ∃ m', m' < m ∧ W (i + 1) m' σ' H') ∧ ∀ x H', J.yld i H x H' → g x σ H' fun σ2 H2 => tb { D with nx := N, ct := N, bk := D.nx } σ2 H2)
/-- the records at fp as they stand -/
def pinsAt (fp : List Addr) (h : Heap) : List (Addr × Obj) := fp.filterMap fun b => (h.get? b).map fun o => (b, o)
theorem mem_pinsAt {fp : List Addr} {h : Heap} {b : Addr} {o : Obj} (hb : b ∈ fp) (e : h.get? b = some o) : (b, o) ∈ pinsAt fp h := List.mem_filterMap.mpr ⟨b, hb, by rw [e]; rfl⟩
theorem of_pinsAt {fp : List Addr} {h : Heap} {p : Addr × Obj} (hp : p ∈ pinsAt fp h) : p.1 ∈ fp ∧ h.get? p.1 = some p.2 := by
  obtain ⟨b, hb, e⟩ := List.mem_filterMap.mp hp
  cases q : h.get? b with
  | none => rw [q] at e; cases e
  | some o =>
    rw [q] at e
    have e' : (b, o) = p := Option.some.inj e
    subst e'
    exact ⟨hb, q⟩
theorem Inv.pinned {pins : List (Addr × Obj)} {σ : St} {H : Hp} {s : Shared} {fp : List Addr} (I : Inv X pins σ H s) (hf : ∀ b ∈ fp, FpOk X pins H b) (ho : ∀ b ∈ fp, ∃ o, s.heap.get? b = some o ∧ ∀ v, o.data ≠ .cell v) : Inv X (pins ++ pinsAt fp s.heap) σ H s :=
  I.pins_of fun p hp => (List.mem_append.mp hp).elim (fun z => I.pin p (List.mem_append_right _ z)) fun z => by
    obtain ⟨hb, e⟩ := of_pinsAt z
    obtain ⟨f0, f1, f2, _⟩ := hf p.1 hb
    obtain ⟨o, e', d⟩ := ho p.1 hb
    rw [e] at e'; cases e'
    exact ⟨e, f0, f1, f2, d⟩
theorem Inv.unpinned {pins pl : List (Addr × Obj)} {σ : St} {H : Hp} {s : Shared} (I : Inv X (pins ++ pl) σ H s) : Inv X pins σ H s := I.pins_of fun p hp => I.pin p (List.mem_append_right _ (List.mem_append_left _ hp))
theorem ps_for {iter : Expr} {body : List Stmt} {wi : TI} {g : TG} {tb : TS} {pos : Pos} (hp : PassesOwn (model X.prog X.w) X.A X.env X.xe) (hc : X.calm = true) (hi : PI X tg iter wi) (hg : PG X tg g) (hb : PSs X body tb)
    (hs : ∀ x, foldedSetIterable iter X.env x = pure x := by intro _; rfl) : PS X (.For tg iter body [] pos) (tFor wi g tb) := by
  intro pins s σ H D I h
  refine wpAny_For (thn (hi pins s σ H _ I h) fun v s1 h1 => thn h1 fun itv s2 h2 => ?_) hs
  obtain ⟨it, fp, tn, J, H2, e, I2, T, st2, f2, W, ⟨m0, w0⟩, turn⟩ := h2
  subst e
  -- what stays true of the iterator's objects through the loop
  have stat : ∀ {H' : Hp}, (∀ b ∈ fp, H' b = none) → ∀ b ∈ fp, FpOk X pins H' b := fun hn b hb => ⟨hn b hb, (f2 b hb).2⟩
  refine codeAny_forLoop_any (fun n s' => ∃ i σ' H', Inv X pins σ' H' s' ∧ tn i s'.heap ∧ (∀ b ∈ fp, H' b = none) ∧ W i n σ' H') ?_ m0 ⟨0, σ, H2, I2, st2, fun b hb => (f2 b hb).1, w0⟩
  rintro n s3 ⟨i, σ3, H3, I3, st3, fr3, w3⟩
  rcases turn i n σ3 H3 w3 with ⟨stop, qn⟩ | ⟨go, N, hN, step⟩
  · refine wpAny_passesOwn hp (thn (T.done X rfl rfl rfl hc i pins s3 σ3 H3 X.xe I3 (stat fr3) st3 stop) fun r s4 ⟨hr, I4⟩ => ?_)
    subst hr
    exact wpAny_execs_nil ⟨σ3, H3, I4, qn⟩
  · refine wpAny_passesOwn hp (thn (T.item X rfl rfl rfl hc i pins s3 σ3 H3 X.xe I3 (stat fr3) st3 go) fun r s4 ⟨u, hr, h4⟩ => ?_)
    subst hr
    refine wpAny_passesOwn hp (thn h4 fun _ s5 ⟨x, H5, I5, r5, y5, st5, fr5⟩ => ?_)
    have I5' := I5.pinned (stat fr5) (T.obj _ _ st5)
    refine wpAny_passesOwn hp (thn (hg _ s5 σ3 H5 x u _ I5' r5 (step x H5 y5)) fun _ s6 ⟨σ6, H6, I6, q6⟩ => ?_)
    refine wpAny_passesOwn hp (thn (hb _ s6 σ6 H6 _ I6 q6) fun f s7 q7 => ?_)
    have again : ∀ {σ7 : St} {H7 : Hp}, Inv X (pins ++ pinsAt fp s5.heap) σ7 H7 s7 → N σ7 H7 → ∃ m, m < n ∧ ∃ i σ' H', Inv X pins σ' H' s7 ∧ tn i s7.heap ∧ (∀ b ∈ fp, H' b = none) ∧ W i m σ' H' := fun {σ7 H7} I7 n7 => by
      obtain ⟨m', hm, w7⟩ := hN σ7 H7 n7
      refine ⟨m', hm, i + 1, σ7, H7, I7.unpinned, T.keep _ _ _ st5 fun b hb o e => (I7.pin (b, o) (List.mem_append_right _ (List.mem_append_right _ (mem_pinsAt hb e)))).1, fun b hb => ?_, w7⟩
      obtain ⟨o, e, d⟩ := T.obj _ _ st5 b hb
      exact (I7.pin (b, o) (List.mem_append_right _ (List.mem_append_right _ (mem_pinsAt hb e)))).2.1
    cases f with
    | next => obtain ⟨σ7, H7, I7, n7⟩ := q7; exact again I7 n7
    | cont => obtain ⟨σ7, H7, I7, n7⟩ := q7; exact again I7 n7
    | brk => obtain ⟨σ7, H7, I7, q7⟩ := q7; exact ⟨σ7, H7, I7.unpinned, q7⟩
    | ret v => obtain ⟨x7, σ7, H7, I7, r7, q7⟩ := q7; exact ⟨x7, σ7, H7, I7.unpinned, r7, q7⟩
end

/-! ### the forms one uses -/
/-- over a list that the body leaves as it is -/
theorem for_list {K : PySem.W.Frag} {a : Addr} {xs : List V} {g : TG} {tb : TS} {D : Ends} {σ : St} {H : Hp} (Pv : Nat → St → Hp → Prop) (h0 : Pv 0 σ H) (hl : ∀ i σ H, i ≤ xs.length → Pv i σ H → SqL K H a xs)
    (hs : ∀ i x σ H, xs[i]? = some x → Pv i σ H → g x σ H fun σ2 H2 => tb { D with nx := Pv (i + 1), ct := Pv (i + 1), bk := D.nx } σ2 H2) (hd : ∀ σ H, Pv xs.length σ H → D.nx σ H) :
    ∃ W : Nat → Nat → St → Hp → Prop, (∃ m, W 0 m σ H) ∧ ∀ i m σ H, W i m σ H →
      ((Itl K a).stop i H ∧ D.nx σ H) ∨ ((Itl K a).go i H ∧ ∃ N : St → Hp → Prop, (∀ σ' H', N σ' H' → ∃ m', m' < m ∧ W (i + 1) m' σ' H') ∧ ∀ x H', (Itl K a).yld i H x H' → g x σ H' fun σ2 H2 => tb { D with nx := N, ct := N, bk := D.nx } σ2 H2) := by
  refine ⟨fun i m σ H => m = xs.length - i ∧ i ≤ xs.length ∧ Pv i σ H, ⟨xs.length, by simp, Nat.zero_le _, h0⟩, ?_⟩
  rintro i m σ H ⟨rfl, hi, p⟩
  have q := hl i σ H hi p
  by_cases hlt : i < xs.length
  · refine .inr ⟨⟨xs, xs[i], q, by simp [hlt]⟩, Pv (i + 1), fun σ' H' p' => ⟨xs.length - (i + 1), by omega, rfl, hlt, p'⟩, fun x H' y => ?_⟩
    obtain ⟨e, y⟩ := y
    subst e
    exact hs i x σ _ (y xs q) p
  · have e : i = xs.length := by omega
    subst e
    exact .inl ⟨⟨xs, q, Nat.le_refl _⟩, hd σ H p⟩
theorem for_tup {K : PySem.W.Frag} {a : Addr} {xs : List V} {g : TG} {tb : TS} {D : Ends} {σ : St} {H : Hp} (Pv : Nat → St → Hp → Prop) (h0 : Pv 0 σ H) (hl : ∀ i σ H, i ≤ xs.length → Pv i σ H → SqT K H a xs)
    (hs : ∀ i x σ H, xs[i]? = some x → Pv i σ H → g x σ H fun σ2 H2 => tb { D with nx := Pv (i + 1), ct := Pv (i + 1), bk := D.nx } σ2 H2) (hd : ∀ σ H, Pv xs.length σ H → D.nx σ H) :
    ∃ W : Nat → Nat → St → Hp → Prop, (∃ m, W 0 m σ H) ∧ ∀ i m σ H, W i m σ H →
      ((Itt K a).stop i H ∧ D.nx σ H) ∨ ((Itt K a).go i H ∧ ∃ N : St → Hp → Prop, (∀ σ' H', N σ' H' → ∃ m', m' < m ∧ W (i + 1) m' σ' H') ∧ ∀ x H', (Itt K a).yld i H x H' → g x σ H' fun σ2 H2 => tb { D with nx := N, ct := N, bk := D.nx } σ2 H2) := by
  refine ⟨fun i m σ H => m = xs.length - i ∧ i ≤ xs.length ∧ Pv i σ H, ⟨xs.length, by simp, Nat.zero_le _, h0⟩, ?_⟩
  rintro i m σ H ⟨rfl, hi, p⟩
  have q := hl i σ H hi p
  by_cases hlt : i < xs.length
  · refine .inr ⟨⟨xs, xs[i], q, by simp [hlt]⟩, Pv (i + 1), fun σ' H' p' => ⟨xs.length - (i + 1), by omega, rfl, hlt, p'⟩, fun x H' y => ?_⟩
    obtain ⟨e, y⟩ := y
    subst e
    exact hs i x σ _ (y xs q) p
  · have e : i = xs.length := by omega
    subst e
    exact .inl ⟨⟨xs, q, Nat.le_refl _⟩, hd σ H p⟩
theorem for_range {lo : Int} {n : Nat} {g : TG} {tb : TS} {D : Ends} {σ : St} {H : Hp} (Pv : Nat → St → Hp → Prop) (h0 : Pv 0 σ H)
    (hs : ∀ i σ H, i < n → Pv i σ H → g (.int (lo + i)) σ H fun σ2 H2 => tb { D with nx := Pv (i + 1), ct := Pv (i + 1), bk := D.nx } σ2 H2) (hd : ∀ σ H, Pv n σ H → D.nx σ H) :
    ∃ W : Nat → Nat → St → Hp → Prop, (∃ m, W 0 m σ H) ∧ ∀ i m σ H, W i m σ H →
      ((Itr lo n).stop i H ∧ D.nx σ H) ∨ ((Itr lo n).go i H ∧ ∃ N : St → Hp → Prop, (∀ σ' H', N σ' H' → ∃ m', m' < m ∧ W (i + 1) m' σ' H') ∧ ∀ x H', (Itr lo n).yld i H x H' → g x σ H' fun σ2 H2 => tb { D with nx := N, ct := N, bk := D.nx } σ2 H2) := by
  refine ⟨fun i m σ H => m = n - i ∧ i ≤ n ∧ Pv i σ H, ⟨n, by simp, Nat.zero_le _, h0⟩, ?_⟩
  rintro i m σ H ⟨rfl, hi, p⟩
  by_cases hlt : i < n
  · refine .inr ⟨hlt, Pv (i + 1), fun σ' H' p' => ⟨n - (i + 1), by omega, rfl, hlt, p'⟩, fun x H' y => ?_⟩
    obtain ⟨e, y⟩ := y
    subst e y
    exact hs i σ _ hlt p
  · have e : i = n := by omega
    subst e
    exact .inl ⟨Nat.le_refl _, hd σ H p⟩
/-- while, by a word and a measure of the state -/
theorem while_by {c : TT} {tb : TS} {D : Ends} {σ : St} {H : Hp} (Pv : St → Hp → Prop) (μ : St → Hp → Nat) (h0 : Pv σ H)
    (hs : ∀ σ H, Pv σ H → c σ H fun b H1 => if b = true then tb { D with nx := fun σ' H' => Pv σ' H' ∧ μ σ' H' < μ σ H, ct := fun σ' H' => Pv σ' H' ∧ μ σ' H' < μ σ H, bk := D.nx } σ H1 else D.nx σ H1)
    (mono : ∀ σ H Q Q', (∀ b H1, Q b H1 → Q' b H1) → c σ H Q → c σ H Q') : tWhile c tb D σ H := by
  refine ⟨fun m σ H => m = μ σ H ∧ Pv σ H, ⟨_, rfl, h0⟩, ?_⟩
  rintro m σ H ⟨rfl, p⟩
  refine mono σ H _ _ (fun b H1 q => ?_) (hs σ H p)
  cases b with
  | true => exact ⟨_, fun σ' H' ⟨p', l⟩ => ⟨_, l, rfl, p'⟩, q⟩
  | false => exact q
end L2

namespace L2
open PySem PySem.Spec PyProof.Rows

abbrev R2 := V → V → Hp → VK → Prop
/-- a two-place operation on values: f is binaryOp op, inplaceOp op or compareOp op -/
def OpR (X : Cx) (f : Value → Value → Sem Value) (r : R2) : Prop :=
  ∀ (pins : List (Addr × Obj)) (s : Shared) (σ : St) (H : Hp) (x y : V) (v u : Value) (Q : VK), Inv X pins σ H s → RelV x v → RelV y u → r x y H Q →
    wpAny (model X.prog X.w) X.A (f v u) (EP X pins σ Q) X.xe s
/-- a one-place operation -/
def UnR (X : Cx) (f : Value → Sem Value) (r : V → Hp → VK → Prop) : Prop :=
  ∀ (pins : List (Addr × Obj)) (s : Shared) (σ : St) (H : Hp) (x : V) (v : Value) (Q : VK), Inv X pins σ H s → RelV x v → r x H Q →
    wpAny (model X.prog X.w) X.A (f v) (EP X pins σ Q) X.xe s
/-- a call of a value that is known (a builtin, a type) with values -/
def CallR (X : Cx) (f : Value) (r : List V → Hp → VK → Prop) : Prop :=
  ∀ (pins : List (Addr × Obj)) (s : Shared) (σ : St) (H : Hp) (xs : List V) (us : List Value) (Q : VK), Inv X pins σ H s → Vals xs us → r xs H Q →
    wpAny (model X.prog X.w) X.A (call f us) (EP X pins σ Q) X.xe s
/-- a value's truth -/
def TruR (X : Cx) (r : V → Hp → (Bool → Hp → Prop) → Prop) : Prop :=
  ∀ (pins : List (Addr × Obj)) (s : Shared) (σ : St) (H : Hp) (x : V) (v : Value) (Q : Bool → Hp → Prop), Inv X pins σ H s → RelV x v → r x H Q →
    wpAny (model X.prog X.w) X.A (truthy v) (TP X pins σ Q) X.xe s

def tOp (r : R2) (ta tb : TE) : TE := fun σ H Q => ta σ H fun x H1 => tb σ H1 fun y H2 => r x y H2 Q
def tUn (r : V → Hp → VK → Prop) (ta : TE) : TE := fun σ H Q => ta σ H fun x H1 => r x H1 Q
/-- ints in, under C, and a value out -/
def rI (C : Int → Int → Prop) (g : Int → Int → V) : R2 := fun x y H Q => ∃ i j, x = .int i ∧ y = .int j ∧ C i j ∧ Q (g i j) H
def rI0 (g : Int → Int → V) : R2 := fun x y H Q => ∃ i j, x = .int i ∧ y = .int j ∧ Q (g i j) H
def rU (g : Int → V) : V → Hp → VK → Prop := fun x H Q => ∃ i, x = .int i ∧ Q (g i) H

section
variable {X : Cx} {a b c : Expr} {ta tb tc : TE} {pos : Pos}

theorem binT (ha : PE X a ta) (hb : PE X b tb) {pins : List (Addr × Obj)} {s : Shared} {σ : St} {H : Hp} {R : V → V → Hp → Prop} (I : Inv X pins σ H s)
    (h : ta σ H fun x H1 => tb σ H1 fun y H2 => R x y H2) {Q : Value → Shared → Prop} {f : Value → Value → Sem Value}
    (hf : ∀ v u s2 x y H2, Inv X pins σ H2 s2 → RelV x v → RelV y u → R x y H2 → wpAny (model X.prog X.w) X.A (f v u) Q X.xe s2) :
    wpAny (model X.prog X.w) X.A (eval a X.env) (fun v s₁ => wpAny (model X.prog X.w) X.A (eval b X.env) (fun u s₂ => wpAny (model X.prog X.w) X.A (f v u) Q X.xe s₂) X.xe s₁) X.xe s := by
  refine thn (ha pins s σ H _ I h) fun v s1 ⟨x, H1, I1, r1, q1⟩ => ?_
  refine thn (hb pins s1 σ H1 _ I1 q1) fun u s2 ⟨y, H2, I2, r2, q2⟩ => ?_
  exact hf v u s2 x y H2 I2 r1 r2 q2

theorem pe_op {op : Operator} {r : R2} (ho : OpR X (binaryOp op) r) (ha : PE X a ta) (hb : PE X b tb) : PE X (.BinOp a op b pos) (tOp r ta tb) := by
  intro pins s σ H Q I h
  exact wpAny_BinOp (binT ha hb I h fun v u s2 x y H2 I2 rx ry q => ho pins s2 σ H2 x y v u Q I2 rx ry q)
theorem pe_un {op : UnaryOp} {r : V → Hp → VK → Prop} (ho : UnR X (unaryOp op) r) (ha : PE X a ta) : PE X (.UnaryOp op a pos) (tUn r ta) := by
  intro pins s σ H Q I h
  exact UnaryOp_ (thn (ha pins s σ H _ I h) fun v s1 ⟨x, H1, I1, r1, q1⟩ => ho pins s1 σ H1 x v Q I1 r1 q1)
/-- a op= e at a name: the name's slot i -/
theorem augR {op : Operator} {r : R2} (ho : OpR X (inplaceOp op) r) {pins : List (Addr × Obj)} {s : Shared} {σ : St} {H : Hp} {x y : V} {v u : Value} {Q : VK} (I : Inv X pins σ H s)
    (rx : RelV x v) (ry : RelV y u) (q : r x y H Q) : wpAny (model X.prog X.w) X.A (inplaceOp op v u) (EP X pins σ Q) X.xe s := ho pins s σ H x y v u Q I rx ry q

/-! ### ints -/
theorem opI {f : Value → Value → Sem Value} {C : Int → Int → Prop} {g : Int → Int → Int}
    (rule : ∀ (i j : Int) (t u : Tok) (s : Shared) (Q : Value → Shared → Prop) (E : Value → Shared → Prop), C i j → Q (.int (g i j) s.toks) { s with toks := s.toks + 1 } → wpAny (model X.prog X.w) X.A (f (.int i t) (.int j u)) Q E s) :
    OpR X f (rI C fun i j => .int (g i j)) := by
  intro pins s σ H x y v u Q I rx ry h
  obtain ⟨i, j, rfl, rfl, hc, q⟩ := h
  obtain ⟨t, rfl⟩ := rx
  obtain ⟨t', rfl⟩ := ry
  exact rule i j t t' s _ _ hc ⟨.int (g i j), H, I.tok _, ⟨_, rfl⟩, q⟩
theorem opI0 {f : Value → Value → Sem Value} {g : Int → Int → Int}
    (rule : ∀ (i j : Int) (t u : Tok) (s : Shared) (Q : Value → Shared → Prop) (E : Value → Shared → Prop), Q (.int (g i j) s.toks) { s with toks := s.toks + 1 } → wpAny (model X.prog X.w) X.A (f (.int i t) (.int j u)) Q E s) :
    OpR X f (rI0 fun i j => .int (g i j)) := by
  intro pins s σ H x y v u Q I rx ry h
  obtain ⟨i, j, rfl, rfl, q⟩ := h
  obtain ⟨t, rfl⟩ := rx
  obtain ⟨t', rfl⟩ := ry
  exact rule i j t t' s _ _ ⟨.int (g i j), H, I.tok _, ⟨_, rfl⟩, q⟩
theorem opB0 {f : Value → Value → Sem Value} {g : Int → Int → Bool}
    (rule : ∀ (i j : Int) (t u : Tok) (s : Shared) (Q : Value → Shared → Prop) (E : Value → Shared → Prop), Q (.bool (g i j)) s → wpAny (model X.prog X.w) X.A (f (.int i t) (.int j u)) Q E s) :
    OpR X f (rI0 fun i j => .bl (g i j)) := by
  intro pins s σ H x y v u Q I rx ry h
  obtain ⟨i, j, rfl, rfl, q⟩ := h
  obtain ⟨t, rfl⟩ := rx
  obtain ⟨t', rfl⟩ := ry
  exact rule i j t t' s _ _ ⟨.bl (g i j), H, I, rfl, q⟩

def CDiv (i j : Int) : Prop := 0 < j ∧ j < 1073741824
def CDivN (i j : Int) : Prop := j ≠ 0 ∧ j.natAbs < 1073741824
def CPow (i j : Int) : Prop := 0 ≤ j ∧ j ≤ 1000000 ∧ i.natAbs < 2 ^ 64
def CMul (i j : Int) : Prop := (-(2 ^ 64) < i ∧ i < 2 ^ 64) ∨ (-(2 ^ 64) < j ∧ j < 2 ^ 64)
theorem CMul.ok {i j : Int} (h : CMul i j) : IntMulOk i j := by
  rcases h with ⟨h1, h2⟩ | ⟨h1, h2⟩
  · exact .of_left (intBits_le_64 h1 h2)
  · exact .of_right (intBits_le_64 h1 h2)
theorem two_pow_nn (k : Nat) : (0 : Int) ≤ 2 ^ k := by
  rw [two_pow_cast]
  exact Int.natCast_nonneg _

theorem op_add : OpR X (binaryOp .Add) (rI0 fun i j => .int (i + j)) := opI0 fun _ _ _ _ _ _ _ q => add_int q
theorem op_sub : OpR X (binaryOp .Sub) (rI0 fun i j => .int (i - j)) := opI0 fun _ _ _ _ _ _ _ q => sub_int q
theorem op_mul : OpR X (binaryOp .Mult) (rI CMul fun i j => .int (i * j)) := opI fun _ _ _ _ _ _ _ hc q => mul_int q hc.ok
/-- // by a positive divisor -/
theorem op_fdiv : OpR X (binaryOp .FloorDiv) (rI CDiv fun i j => .int (i / j)) := opI fun i j _ _ _ _ _ hc q => by
  have h1 : (0 : Int) < j := hc.1
  have h2 : j < 1073741824 := hc.2
  exact floordiv_int (by omega) (by rw [Int.fdiv_eq_ediv_of_nonneg i (by omega)]; exact q) (.inl (PyProof.noPylong_small (by omega)))
theorem op_fdivN : OpR X (binaryOp .FloorDiv) (rI CDivN fun i j => .int (i.fdiv j)) := opI fun _ _ _ _ _ _ _ hc q => floordiv_int hc.1 q (.inl (PyProof.noPylong_small hc.2))
/-- % by a positive divisor of any size -/
theorem op_mod : OpR X (binaryOp .Mod) (rI (fun _ j => 0 < j) fun i j => .int (i % j)) := opI fun i j _ _ _ _ _ hc q => by
  have h1 : (0 : Int) < j := hc
  exact mod_int' (by omega) (by rw [Int.fmod_eq_emod_of_nonneg i (by omega)]; exact q)
theorem op_modN : OpR X (binaryOp .Mod) (rI (fun _ j => j ≠ 0) fun i j => .int (i.fmod j)) := opI fun _ _ _ _ _ _ _ hc q => mod_int' hc q
theorem op_pow : OpR X (binaryOp .Pow) (rI CPow fun i j => .int (i ^ j.toNat)) := opI fun _ _ _ _ _ _ _ hc q => pow_int_small hc.1 hc.2.1 hc.2.2 q
theorem op_shl : OpR X (binaryOp .LShift) (rI CPow fun i j => .int (i * 2 ^ j.toNat)) := opI fun _ _ _ _ _ _ _ hc q => lshift_int_small hc.1 hc.2.1 hc.2.2 q
theorem op_shr : OpR X (binaryOp .RShift) (rI (fun _ j => 0 ≤ j) fun i j => .int (i / 2 ^ j.toNat)) := opI fun i j _ _ _ _ _ hc q =>
  rshift_int hc (by rw [Int.fdiv_eq_ediv_of_nonneg i (two_pow_nn _)]; exact q)
theorem op_and : OpR X (binaryOp .BitAnd) (rI0 fun i j => .int (Builtin.bitAnd i j)) := opI0 fun _ _ _ _ _ _ _ q => and_int q
theorem op_or : OpR X (binaryOp .BitOr) (rI0 fun i j => .int (Builtin.bitOr i j)) := opI0 fun _ _ _ _ _ _ _ q => or_int q
theorem op_xor : OpR X (binaryOp .BitXor) (rI0 fun i j => .int (Builtin.bitXor i j)) := opI0 fun _ _ _ _ _ _ _ q => xor_int q

theorem iop_add : OpR X (inplaceOp .Add) (rI0 fun i j => .int (i + j)) := opI0 fun _ _ _ _ _ _ _ q => iadd_int q
theorem iop_sub : OpR X (inplaceOp .Sub) (rI0 fun i j => .int (i - j)) := opI0 fun _ _ _ _ _ _ _ q => isub_int q
theorem iop_mul : OpR X (inplaceOp .Mult) (rI CMul fun i j => .int (i * j)) := opI fun _ _ _ _ _ _ _ hc q => imul_int q hc.ok
theorem iop_fdiv : OpR X (inplaceOp .FloorDiv) (rI CDiv fun i j => .int (i / j)) := opI fun i j _ _ _ _ _ hc q => by
  have h1 : (0 : Int) < j := hc.1
  have h2 : j < 1073741824 := hc.2
  exact ifloordiv_int (by omega) (by rw [Int.fdiv_eq_ediv_of_nonneg i (by omega)]; exact q) (.inl (PyProof.noPylong_small (by omega)))
theorem iop_mod : OpR X (inplaceOp .Mod) (rI (fun _ j => 0 < j) fun i j => .int (i % j)) := opI fun i j _ _ _ _ _ hc q => by
  have h1 : (0 : Int) < j := hc
  exact imod_int (by omega) (by rw [Int.fmod_eq_emod_of_nonneg i (by omega)]; exact q)
theorem iop_shl : OpR X (inplaceOp .LShift) (rI CPow fun i j => .int (i * 2 ^ j.toNat)) := opI fun _ _ _ _ _ _ _ hc q => ilshift_int_small hc.1 hc.2.1 hc.2.2 q
theorem iop_shr : OpR X (inplaceOp .RShift) (rI (fun _ j => 0 ≤ j) fun i j => .int (i / 2 ^ j.toNat)) := opI fun i j _ _ _ _ _ hc q =>
  irshift_int hc (by rw [Int.fdiv_eq_ediv_of_nonneg i (two_pow_nn _)]; exact q)
theorem iop_and : OpR X (inplaceOp .BitAnd) (rI0 fun i j => .int (Builtin.bitAnd i j)) := opI0 fun _ _ _ _ _ _ _ q => iand_int q
theorem iop_or : OpR X (inplaceOp .BitOr) (rI0 fun i j => .int (Builtin.bitOr i j)) := opI0 fun _ _ _ _ _ _ _ q => ior_int q
theorem iop_xor : OpR X (inplaceOp .BitXor) (rI0 fun i j => .int (Builtin.bitXor i j)) := opI0 fun _ _ _ _ _ _ _ q => ixor_int q

theorem unI {f : Value → Sem Value} {g : Int → Int}
    (rule : ∀ (i : Int) (t : Tok) (s : Shared) (Q : Value → Shared → Prop) (E : Value → Shared → Prop), Q (.int (g i) s.toks) { s with toks := s.toks + 1 } → wpAny (model X.prog X.w) X.A (f (.int i t)) Q E s) :
    UnR X f (rU fun i => .int (g i)) := by
  intro pins s σ H x v Q I rx h
  obtain ⟨i, rfl, q⟩ := h
  obtain ⟨t, rfl⟩ := rx
  exact rule i t s _ _ ⟨.int (g i), H, I.tok _, ⟨_, rfl⟩, q⟩
theorem un_neg : UnR X (unaryOp .USub) (rU fun i => .int (-i)) := unI fun _ _ _ _ _ q => neg_int q
theorem un_inv : UnR X (unaryOp .Invert) (rU fun i => .int (Builtin.bitNot i)) := unI fun _ _ _ _ _ q => invert_int q

/-! ### bools among ints: n += (a < b) -/
theorem op_add_ib : OpR X (binaryOp .Add) (fun x y H Q => ∃ i k, x = .int i ∧ y = .bl k ∧ Q (.int (i + b2i k)) H) := by
  intro pins s σ H x y v u Q I rx ry h
  obtain ⟨i, k, rfl, rfl, q⟩ := h
  obtain ⟨t, rfl⟩ := rx
  cases ry
  exact add_int_bool ⟨.int (i + b2i k), H, I.tok _, ⟨_, rfl⟩, q⟩
end

/-! ### comparisons -/
/-- the scalars that == tells apart as data does -/
def scal : V → V → Bool
  | .non, .non => true | .non, .int _ => true | .int _, .non => true | .non, .bl _ => true | .bl _, .non => true | .non, .str _ => true | .str _, .non => true
  | .int _, .int _ => true | .bl _, .bl _ => true | .str _, .str _ => true | .byt _, .byt _ => true
  | .int _, .str _ => true | .str _, .int _ => true | .bl _, .str _ => true | .str _, .bl _ => true
  | _, _ => false
def rEq : R2 := fun x y H Q => scal x y = true ∧ Q (.bl (decide (x = y))) H
def rNe : R2 := fun x y H Q => scal x y = true ∧ Q (.bl (!decide (x = y))) H

theorem dec_int {i j : Int} : decide (V.int i = V.int j) = (i == j) := by
  rw [Bool.eq_iff_iff]
  simp
theorem dec_bl {i j : Bool} : decide (V.bl i = V.bl j) = (i == j) := by
  rw [Bool.eq_iff_iff]
  simp
theorem dec_str {i j : Str} : decide (V.str i = V.str j) = (i == j) := by
  rw [Bool.eq_iff_iff]
  simp
theorem dec_byt {i j : Array UInt8} : decide (V.byt i = V.byt j) = (i.toList == j.toList) := by
  rw [Bool.eq_iff_iff]
  cases i
  cases j
  simp

section
variable {X : Cx} {a b c : Expr} {ta tb tc : TE} {pos : Pos}
theorem fin_bl {pins : List (Addr × Obj)} {σ : St} {H : Hp} {s : Shared} {Q : VK} {k k' : Bool} (I : Inv X pins σ H s) (q : Q (.bl k) H) (e : k = k') : EP X pins σ Q (.bool k') s := by
  subst e
  exact ⟨.bl k, H, I, rfl, q⟩
theorem op_eq : OpR X (compareOp .Eq) rEq := by
  intro pins s σ H x y v u Q I rx ry h
  obtain ⟨hs, q⟩ := h
  cases x with
  | non =>
    cases rx
    cases y with
    | non => cases ry; exact PySem.EqNone.eq_none_none (fin_bl I q (by simp))
    | bl j => cases ry; exact PySem.EqNone.eq_none_bool (fin_bl I q (by simp))
    | int j => obtain ⟨t', rfl⟩ := ry; exact PySem.EqNone.eq_none_int (fin_bl I q (by simp))
    | str j => obtain ⟨t', rfl⟩ := ry; exact PySem.EqNone.eq_none_str (fin_bl I q (by simp))
    | _ => exact absurd (show false = true from hs) Bool.false_ne_true
  | bl i =>
    cases rx
    cases y with
    | non => cases ry; exact PySem.EqNone.eq_bool_none (fin_bl I q (by simp))
    | bl j => cases ry; exact eq_bool (fin_bl I q dec_bl)
    | str j => obtain ⟨t', rfl⟩ := ry; exact PySem.EqMixed.eq_bool_str (fin_bl I q (by simp))
    | _ => exact absurd (show false = true from hs) Bool.false_ne_true
  | int i =>
    obtain ⟨t, rfl⟩ := rx
    cases y with
    | non => cases ry; exact PySem.EqNone.eq_int_none (fin_bl I q (by simp))
    | int j => obtain ⟨t', rfl⟩ := ry; exact eq_int (fin_bl I q dec_int)
    | str j => obtain ⟨t', rfl⟩ := ry; exact PySem.EqMixed.eq_int_str (fin_bl I q (by simp))
    | _ => exact absurd (show false = true from hs) Bool.false_ne_true
  | str i =>
    obtain ⟨t, rfl⟩ := rx
    cases y with
    | non => cases ry; exact PySem.EqNone.eq_str_none (fin_bl I q (by simp))
    | bl j => cases ry; exact PySem.EqMixed.eq_str_bool (fin_bl I q (by simp))
    | int j => obtain ⟨t', rfl⟩ := ry; exact PySem.EqMixed.eq_str_int (fin_bl I q (by simp))
    | str j => obtain ⟨t', rfl⟩ := ry; exact eq_str (fin_bl I q dec_str)
    | _ => exact absurd (show false = true from hs) Bool.false_ne_true
  | byt i =>
    obtain ⟨t, rfl⟩ := rx
    cases y with
    | byt j => obtain ⟨t', rfl⟩ := ry; exact PySem.W.eq_bytes (fin_bl I q dec_byt)
    | _ => exact absurd (show false = true from hs) Bool.false_ne_true
  | _ => cases y <;> exact absurd (show false = true from hs) Bool.false_ne_true
theorem op_ne : OpR X (compareOp .NotEq) rNe := by
  intro pins s σ H x y v u Q I rx ry h
  obtain ⟨hs, q⟩ := h
  cases x with
  | non =>
    cases rx
    cases y with
    | non => cases ry; exact PySem.EqNone.ne_none_none (fin_bl I q (by simp))
    | bl j => cases ry; exact PySem.EqNone.ne_none_bool (fin_bl I q (by simp))
    | int j => obtain ⟨t', rfl⟩ := ry; exact PySem.EqNone.ne_none_int (fin_bl I q (by simp))
    | str j => obtain ⟨t', rfl⟩ := ry; exact PySem.EqNone.ne_none_str (fin_bl I q (by simp))
    | _ => exact absurd (show false = true from hs) Bool.false_ne_true
  | bl i =>
    cases rx
    cases y with
    | non => cases ry; exact PySem.EqNone.ne_bool_none (fin_bl I q (by simp))
    | bl j => cases ry; exact ne_bool (fin_bl I q (congrArg not dec_bl))
    | str j => obtain ⟨t', rfl⟩ := ry; exact PySem.EqMixed.ne_bool_str (fin_bl I q (by simp))
    | _ => exact absurd (show false = true from hs) Bool.false_ne_true
  | int i =>
    obtain ⟨t, rfl⟩ := rx
    cases y with
    | non => cases ry; exact PySem.EqNone.ne_int_none (fin_bl I q (by simp))
    | int j => obtain ⟨t', rfl⟩ := ry; exact ne_int (fin_bl I q (congrArg not dec_int))
    | str j => obtain ⟨t', rfl⟩ := ry; exact PySem.EqMixed.ne_int_str (fin_bl I q (by simp))
    | _ => exact absurd (show false = true from hs) Bool.false_ne_true
  | str i =>
    obtain ⟨t, rfl⟩ := rx
    cases y with
    | non => cases ry; exact PySem.EqNone.ne_str_none (fin_bl I q (by simp))
    | bl j => cases ry; exact PySem.EqMixed.ne_str_bool (fin_bl I q (by simp))
    | int j => obtain ⟨t', rfl⟩ := ry; exact PySem.EqMixed.ne_str_int (fin_bl I q (by simp))
    | str j => obtain ⟨t', rfl⟩ := ry; exact ne_str (fin_bl I q (congrArg not dec_str))
    | _ => exact absurd (show false = true from hs) Bool.false_ne_true
  | byt i =>
    obtain ⟨t, rfl⟩ := rx
    cases y with
    | byt j => obtain ⟨t', rfl⟩ := ry; exact PySem.W.ne_bytes (fin_bl I q (congrArg not dec_byt))
    | _ => exact absurd (show false = true from hs) Bool.false_ne_true
  | _ => cases y <;> exact absurd (show false = true from hs) Bool.false_ne_true

theorem op_lt : OpR X (compareOp .Lt) (rI0 fun i j => .bl (decide (i < j))) := opB0 fun _ _ _ _ _ _ _ q => lt_int q
theorem op_le : OpR X (compareOp .LtE) (rI0 fun i j => .bl (decide (i ≤ j))) := opB0 fun _ _ _ _ _ _ _ q => le_int q
theorem op_gt : OpR X (compareOp .Gt) (rI0 fun i j => .bl (decide (j < i))) := opB0 fun _ _ _ _ _ _ _ q => gt_int q
theorem op_ge : OpR X (compareOp .GtE) (rI0 fun i j => .bl (decide (j ≤ i))) := opB0 fun _ _ _ _ _ _ _ q => ge_int q
theorem op_lt_str : OpR X (compareOp .Lt) (fun x y H Q => ∃ i j, x = .str i ∧ y = .str j ∧ Q (.bl (decide (i.cps.toList < j.cps.toList))) H) := by
  intro pins s σ H x y v u Q I rx ry h
  obtain ⟨i, j, rfl, rfl, q⟩ := h
  obtain ⟨t, rfl⟩ := rx
  obtain ⟨t', rfl⟩ := ry
  exact lt_str (fin_bl I q rfl)
/-- the one string within the other -/
theorem op_in_str : OpR X (compareOp .In) (fun x y H Q => ∃ i j, x = .str i ∧ y = .str j ∧ Q (.bl (!(Builtin.Str.occurrences j i 0 j.length 1).isEmpty)) H) := by
  intro pins s σ H x y v u Q I rx ry h
  obtain ⟨i, j, rfl, rfl, q⟩ := h
  obtain ⟨t, rfl⟩ := rx
  obtain ⟨t', rfl⟩ := ry
  exact in_str (fin_bl I q rfl)

/-- is None, is not None: the right side a value none -/
theorem op_isN : OpR X (compareOp .Is) (fun x y H Q => y = .non ∧ Q (.bl (decide (x = .non))) H) := by
  intro pins s σ H x y v u Q I rx ry h
  obtain ⟨rfl, q⟩ := h
  cases ry
  refine is_none_gen (fin_bl I q ?_)
  cases x <;> first
    | (cases rx; rfl)
    | (obtain ⟨t, rfl⟩ := rx; rfl)
theorem op_notN : OpR X (compareOp .IsNot) (fun x y H Q => y = .non ∧ Q (.bl (!decide (x = .non))) H) := by
  intro pins s σ H x y v u Q I rx ry h
  obtain ⟨rfl, q⟩ := h
  cases ry
  refine isnot_none_gen (fin_bl I q ?_)
  cases x <;> first
    | (cases rx; rfl)
    | (obtain ⟨t, rfl⟩ := rx; rfl)

theorem op_notin_str : OpR X (compareOp .NotIn) (fun x y H Q => ∃ i j, x = .str i ∧ y = .str j ∧ Q (.bl (!(!(Builtin.Str.occurrences j i 0 j.length 1).isEmpty))) H) := by
  intro pins s σ H x y v u Q I rx ry h
  obtain ⟨i, j, rfl, rfl, q⟩ := h
  obtain ⟨t, rfl⟩ := rx
  obtain ⟨t', rfl⟩ := ry
  exact notIn_str (fin_bl I q rfl)
/-- is, is not of two objects that are tracked lists or instances -/
def isObj : HO → Bool
  | .lst _ => true
  | .ins _ _ _ => true
  | _ => false
theorem obj_there {pins : List (Addr × Obj)} {s : Shared} {σ : St} {H : Hp} {a : Addr} {o : HO} (I : Inv X pins σ H s) (h : H a = some o) (p : isObj o = true) : ∃ ob, s.heap.get? a = some ob ∧ ob.cls ≠ .type "tuple" := by
  cases o with
  | lst xs =>
    obtain ⟨_, its, n, _, e⟩ : xs.length ≤ sizeLine ∧ ∃ (its : List Value) (n : Nat), Vals xs its ∧ s.heap.get? a = some { cls := .type "list", data := .seq its.toArray n } := I.hok a _ h
    exact ⟨_, e, (by show Value.type "list" ≠ .type "tuple"; decide +kernel)⟩
  | ins C dx fs =>
    have x := I.hok a _ h
    obtain ⟨_, _, _, e, _⟩ := x
    exact ⟨_, e, (by show Value.ref C ≠ .type "tuple"; exact fun z => by cases z)⟩
  | _ => exact absurd (show false = true from p) Bool.false_ne_true
theorem op_is_ref : OpR X (compareOp .Is) (fun x y H Q => ∃ a b oa ob, x = .ref a ∧ y = .ref b ∧ H a = some oa ∧ isObj oa = true ∧ H b = some ob ∧ isObj ob = true ∧ Q (.bl (decide (a = b))) H) := by
  intro pins s σ H x y v u Q I rx ry h
  obtain ⟨a, b, oa, ob, rfl, rfl, ha, pa, hb, pb, q⟩ := h
  cases rx
  cases ry
  obtain ⟨o1, e1, n1⟩ := obj_there I ha pa
  obtain ⟨o2, e2, _⟩ := obj_there I hb pb
  by_cases z : a = b
  · subst z
    exact wpAny_is_ref_self (fin_bl I q (by simp))
  · exact wpAny_is_ref_other z e1 e2 n1 (fin_bl I q (by simp [z]))
theorem op_isnot_ref : OpR X (compareOp .IsNot) (fun x y H Q => ∃ a b oa ob, x = .ref a ∧ y = .ref b ∧ H a = some oa ∧ isObj oa = true ∧ H b = some ob ∧ isObj ob = true ∧ Q (.bl (!decide (a = b))) H) := by
  intro pins s σ H x y v u Q I rx ry h
  obtain ⟨a, b, oa, ob, rfl, rfl, ha, pa, hb, pb, q⟩ := h
  cases rx
  cases ry
  obtain ⟨o1, e1, n1⟩ := obj_there I ha pa
  obtain ⟨o2, e2, _⟩ := obj_there I hb pb
  by_cases z : a = b
  · subst z
    exact wpAny_isNot_ref_self (fin_bl I q (by simp))
  · exact wpAny_isNot_ref_other z e1 e2 n1 (fin_bl I q (by simp [z]))

/-- two rules for one operation: by cases -/
theorem OpR.or {f : Value → Value → Sem Value} {r r' : R2} (h : OpR X f r) (h' : OpR X f r') : OpR X f (fun x y H Q => r x y H Q ∨ r' x y H Q) := by
  intro pins s σ H x y v u Q I rx ry q
  rcases q with q | q
  · exact h pins s σ H x y v u Q I rx ry q
  · exact h' pins s σ H x y v u Q I rx ry q

theorem nomark (b : Expr) {op : CmpOp} (h : op ≠ .In := by decide) (h2 : op ≠ .NotIn := by decide) : behindInMarks op b = false := by
  have e1 : (op == CmpOp.In) = false := by cases op <;> first | rfl | exact absurd rfl h
  have e2 : (op == CmpOp.NotIn) = false := by cases op <;> first | rfl | exact absurd rfl h2
  cases b <;> simp [behindInMarks, e1, e2]
/-- a comparison as a value; hm: nomark b, or (for in, not in) by with_unfolding_all rfl -/
theorem pe_cmpR {op : CmpOp} {r : R2} (ho : OpR X (compareOp op) r) (ha : PE X a ta) (hb : PE X b tb) (hm : behindInMarks op b = false) : PE X (.Compare a [op] [b] pos) (tOp r ta tb) := by
  intro pins s σ H Q I h
  exact wpAny_Compare1 (binT ha hb I h fun v u s2 x y H2 I2 rx ry q => ho pins s2 σ H2 x y v u Q I2 rx ry q) hm
/-- a reading of a value as a test -/
def tTest (t : TE) : TT := fun σ H Q => t σ H fun x H' => ∃ k, x = .bl k ∧ Q k H'
theorem pt_cmpR {op : CmpOp} {r : R2} (ho : OpR X (compareOp op) r) (ha : PE X a ta) (hb : PE X b tb) (hm : behindInMarks op b = false) : PT X (.Compare a [op] [b] pos) (tTest (tOp r ta tb)) := by
  intro pins s σ H Q I h
  refine wpAny_isTrue_Compare1 (thn (ha pins s σ H _ I h) fun v s1 ⟨x, H1, I1, r1, q1⟩ => thn (hb pins s1 σ H1 _ I1 q1) fun u s2 ⟨y, H2, I2, r2, q2⟩ =>
    thn (ho pins s2 σ H2 x y v u _ I2 r1 r2 q2) fun c s3 ⟨z, H3, I3, r3, k, e, q3⟩ => ?_) hm
  subst e
  cases r3
  exact wpAny_truthy_bool ⟨H3, I3, q3⟩
/-- a op1 b op2 c -/
def tChain (r r' : R2) (ta tb tc : TE) : TE := fun σ H Q => ta σ H fun x H1 => tb σ H1 fun y H2 => r x y H2 fun z H3 => ∃ k, z = .bl k ∧
  (if k = true then tc σ H3 fun w' H4 => r' y w' H4 Q else Q (.bl false) H3)
theorem pe_chain {op op' : CmpOp} {r r' : R2} (ho : OpR X (compareOp op) r) (ho' : OpR X (compareOp op') r') (ha : PE X a ta) (hb : PE X b tb) (hc : PE X c tc)
    (hm : lastMarks [op, op'] [b, c] = false := by with_unfolding_all rfl) : PE X (.Compare a [op, op'] [b, c] pos) (tChain r r' ta tb tc) := by
  intro pins s σ H Q I h
  refine Compare_chain (thn (ha pins s σ H _ I h) fun v s1 ⟨x, H1, I1, r1, q1⟩ => chain_link (thn (hb pins s1 σ H1 _ I1 q1) fun u s2 ⟨y, H2, I2, r2, q2⟩ =>
    thn (ho pins s2 σ H2 x y v u _ I2 r1 r2 q2) fun d s3 ⟨z, H3, I3, r3, k, e, q3⟩ => ?_)) hm
  subst e
  cases r3
  refine wpAny_truthy_bool ?_
  cases k with
  | false => exact ite_ff ⟨.bl false, H3, I3, rfl, q3⟩
  | true => exact ite_tt (chain_last (thn (hc pins s3 σ H3 _ I3 q3) fun w' s4 ⟨z', H4, I4, r4, q4⟩ => ho' pins s4 σ H4 y z' u w' Q I4 r2 r4 q4))
theorem pt_chain {op op' : CmpOp} {r r' : R2} (ho : OpR X (compareOp op) r) (ho' : OpR X (compareOp op') r') (ha : PE X a ta) (hb : PE X b tb) (hc : PE X c tc)
    (hm : lastMarks [op, op'] [b, c] = false := by with_unfolding_all rfl) : PT X (.Compare a [op, op'] [b, c] pos) (tTest (tChain r r' ta tb tc)) := by
  intro pins s σ H Q I h
  refine isTrue_chain (thn (ha pins s σ H _ I h) fun v s1 ⟨x, H1, I1, r1, q1⟩ => test_link (thn (hb pins s1 σ H1 _ I1 q1) fun u s2 ⟨y, H2, I2, r2, q2⟩ =>
    thn (ho pins s2 σ H2 x y v u _ I2 r1 r2 q2) fun d s3 ⟨z, H3, I3, r3, k, e, q3⟩ => ?_)) hm
  subst e
  cases r3
  refine wpAny_truthy_bool ?_
  cases k with
  | false =>
    obtain ⟨k', e', q'⟩ := q3
    cases e'
    exact ite_ff ⟨H3, I3, q'⟩
  | true =>
    refine ite_tt (test_last (thn (hc pins s3 σ H3 _ I3 q3) fun w' s4 ⟨z', H4, I4, r4, q4⟩ => thn (ho' pins s4 σ H4 y z' u w' _ I4 r2 r4 q4) fun d' s5 ⟨z2, H5, I5, r5, k2, e2, q5⟩ => ?_))
    subst e2
    cases r5
    exact wpAny_truthy_bool ⟨H5, I5, q5⟩

/-! ### truth -/
/-- a value's truth by the abstract heap -/
def TruV (K : PySem.W.Frag) (x : V) (H : Hp) (k : Bool) : Prop :=
  match x with
  | .non => k = false
  | .bl b => k = b
  | .int i => k = (i != 0)
  | .str y => y.length ≤ sizeLine ∧ k = ((y.length : Int) != 0)
  | .byt y => y.size ≤ sizeLine ∧ k = ((y.size : Int) != 0)
  | .ref p => (∃ xs, SqL K H p xs ∧ k = !xs.isEmpty) ∨ (∃ xs, SqT K H p xs ∧ k = !xs.isEmpty) ∨ ∃ kvs, H p = some (.dK kvs) ∧ k = !kvs.isEmpty
  | _ => False
theorem isEmpty_kv {κ : Type} {kvs : List (κ × V)} {vs : List (κ × Value)} (r : KV kvs vs) : (!vs.isEmpty) = !kvs.isEmpty := by
  cases r <;> rfl
theorem isEmpty_of {xs : List V} {its : List Value} (r : Vals xs its) : (!its.toArray.isEmpty) = !xs.isEmpty := by
  cases r <;> simp
theorem line63 : (sizeLine : Nat) < 2 ^ 63 := by rw [sizeLine_eq]; decide
theorem tru_ok : TruR X (fun x H Q => ∃ k, TruV X.K x H k ∧ Q k H) := by
  intro pins s σ H x v Q I rx h
  obtain ⟨k, e, q⟩ := h
  have hl := line63
  have hs : sizeLine = 16777216 := sizeLine_eq
  cases x with
  | non =>
    cases rx
    have e' : k = false := e
    subst e'
    exact truthy_none ⟨H, I, q⟩
  | bl b =>
    cases rx
    have e' : k = b := e
    subst e'
    exact wpAny_truthy_bool ⟨H, I, q⟩
  | int i =>
    obtain ⟨t, rfl⟩ := rx
    have e' : k = (i != 0) := e
    subst e'
    exact PySem.P.truthy_int ⟨H, I, q⟩
  | str y =>
    obtain ⟨t, rfl⟩ := rx
    obtain ⟨hy, e'⟩ : y.length ≤ sizeLine ∧ k = ((y.length : Int) != 0) := e
    subst e'
    exact PySem.P.truthy_str (by omega) ⟨H, I.tok _, q⟩
  | byt y =>
    obtain ⟨t, rfl⟩ := rx
    obtain ⟨hy, e'⟩ : y.size ≤ sizeLine ∧ k = ((y.size : Int) != 0) := e
    subst e'
    exact PySem.W.truthy_bytes (by omega) ⟨H, I.tok _, q⟩
  | ref p =>
    cases rx
    have e' : (∃ xs, SqL X.K H p xs ∧ k = !xs.isEmpty) ∨ (∃ xs, SqT X.K H p xs ∧ k = !xs.isEmpty) ∨ ∃ kvs, H p = some (.dK kvs) ∧ k = !kvs.isEmpty := e
    rcases e' with ⟨xs, hx, e'⟩ | ⟨xs, hx, e'⟩ | ⟨kvs, hx, e'⟩
    · subst e'
      obtain ⟨its, r, pl, hz⟩ := I.list hx
      have hlen := r.length
      exact wpAny_truthy_list pl.isList (by simp only [List.size_toArray]; omega) ⟨H, I.tok _, by rw [isEmpty_of r]; exact q⟩
    · subst e'
      obtain ⟨its, r, pl, hz⟩ := I.tuple hx
      have hlen := r.length
      exact truthy_tuple pl (by simp only [List.size_toArray]; omega) ⟨H, I.tok _, by rw [isEmpty_of r]; exact q⟩
    · subst e'
      obtain ⟨hz, hS, vs, r, m⟩ : kvs.length ≤ sizeLine ∧ (p == sysModules) = false ∧ ∃ vs, KV kvs vs ∧ s.heap.DictOf (mixKind X.prog X.w) p vs := I.hok p _ hx
      have hlen : kvs.length = vs.length := Paired.length r
      exact wpAny_truthy_dict hS m (by omega) ⟨H, I.tok _, by rw [isEmpty_kv r]; exact q⟩
  | _ => exact (show False from e).elim
/-- any expression whose test is its value's truth (a name, a call, a subscript, a field ..: he by fun _ => rfl) -/
theorem pt_truth (ha : PE X a ta) (he : ∀ whole, isTrue a X.env whole = (do let v ← whole; standAt a.pos; holding [v] (truthy v))) :
    PT X a (fun σ H Q => ta σ H fun x H' => ∃ k, TruV X.K x H' k ∧ Q k H') := by
  intro pins s σ H Q I h
  exact isTrue_plain (thn (ha pins s σ H _ I h) fun v s1 ⟨x, H1, I1, r1, q1⟩ => tru_ok pins s1 σ H1 x v Q I1 r1 q1) (he _)

/-! ### strs and bytes -/
theorem pe_byt {x : List UInt8} {k : Nat} : PE X (.Constant (.bytes x) k pos) (fun _ H Q => Q (.byt x.toArray) H) := fun _ _ _ H _ I h => PySem.W.Constant_bytes ⟨.byt x.toArray, H, I.tok _, ⟨_, rfl⟩, h⟩
theorem op_add_str : OpR X (binaryOp .Add) (fun x y H Q => ∃ i j, x = .str i ∧ y = .str j ∧ i.length + j.length ≤ sizeLine ∧ Q (.str (i ++ j)) H) := by
  intro pins s σ H x y v u Q I rx ry h
  obtain ⟨i, j, rfl, rfl, hz, q⟩ := h
  obtain ⟨t, rfl⟩ := rx
  obtain ⟨t', rfl⟩ := ry
  exact add_str (fun t' tk => ⟨.str (i ++ j), H, I.tok _, ⟨_, rfl⟩, q⟩) hz
theorem iop_add_str : OpR X (inplaceOp .Add) (fun x y H Q => ∃ i j, x = .str i ∧ y = .str j ∧ i.length + j.length ≤ sizeLine ∧ Q (.str (i ++ j)) H) := by
  intro pins s σ H x y v u Q I rx ry h
  obtain ⟨i, j, rfl, rfl, hz, q⟩ := h
  obtain ⟨t, rfl⟩ := rx
  obtain ⟨t', rfl⟩ := ry
  exact iadd_str (fun t' tk => ⟨.str (i ++ j), H, I.tok _, ⟨_, rfl⟩, q⟩) hz
theorem op_add_byt : OpR X (binaryOp .Add) (fun x y H Q => ∃ i j, x = .byt i ∧ y = .byt j ∧ i.size + j.size ≤ 16777216 ∧ Q (.byt (i ++ j)) H) := by
  intro pins s σ H x y v u Q I rx ry h
  obtain ⟨i, j, rfl, rfl, hz, q⟩ := h
  obtain ⟨t, rfl⟩ := rx
  obtain ⟨t', rfl⟩ := ry
  exact PySem.W.KBy.add_bytes hz (fun t' tk => ⟨.byt (i ++ j), H, I.tok _, ⟨_, rfl⟩, q⟩)

def PlainIxT (b : Expr) : Prop := ∀ o i, subscripted b false o i = operate [o, i] (getItem o i)
/-- s[i], 0 ≤ i < len -/
theorem pe_item_str (ha : PE X a ta) (hb : PE X b tb) (hs : PlainIxT b) :
    PE X (.Subscript a b pos) (tOp (fun x y H Q => ∃ z i c, x = .str z ∧ y = .int i ∧ 0 ≤ i ∧ i < 2 ^ 63 ∧ i < z.length ∧ z.cps[i.toNat]? = some c ∧ Q (.str ⟨#[c]⟩) H) ta tb) := by
  intro pins s σ H Q I h
  refine Subscript_ (binT ha hb I h fun v u s2 x y H2 I2 rx ry q => ?_)
  obtain ⟨z, i, c, rfl, rfl, h0, h63, h1, hc, q⟩ := q
  obtain ⟨t, rfl⟩ := rx
  obtain ⟨t', rfl⟩ := ry
  have e : seqIndex? i z.length = some i.toNat := PySem.StrLaws.seqIndex_nonneg h0 h1
  exact tail_any (typeIs_str s2 z t) slot_str_getitem.lookup (getItem_str (c := c) (by
    have e1 : decide (i < -(2 ^ 63 : Int)) = false := decide_eq_false (by omega)
    have e2 : decide (i ≥ 2 ^ 63) = false := decide_eq_false (by omega)
    rw [e1, e2] <;> rfl) (by rw [e]; exact hc) ⟨.str ⟨#[c]⟩, H2, I2.tok _, ⟨_, rfl⟩, q⟩) (hs _ _)
/-- b[i], 0 ≤ i < len -/
theorem pe_item_byt (ha : PE X a ta) (hb : PE X b tb) (hs : PlainIxT b) :
    PE X (.Subscript a b pos) (tOp (fun x y H Q => ∃ (z : List UInt8) (i : Int), x = .byt z.toArray ∧ y = .int i ∧ z.length ≤ sizeLine ∧ 0 ≤ i ∧ i < z.length ∧ Q (.int ((z.getD i.toNat 0).toNat : Nat)) H) ta tb) := by
  intro pins s σ H Q I h
  refine Subscript_ (binT ha hb I h fun v u s2 x y H2 I2 rx ry q => ?_)
  obtain ⟨z, i, rfl, rfl, hz, h0, h1, q⟩ := q
  obtain ⟨t, rfl⟩ := rx
  obtain ⟨t', rfl⟩ := ry
  have hl : sizeLine = 16777216 := sizeLine_eq
  exact tail_any (PySem.W.typeIs_bytes s2 z.toArray t) PySem.W.FB.slot_bytes_getitem.lookup (PySem.W.getItem_bytes (by omega) h0 h1 ⟨.int ((z.getD i.toNat 0).toNat : Nat), H2, I2.tok _, ⟨_, rfl⟩, q⟩) (hs _ _)

/-! ### scalar builtins, by CallR -/
theorem vals1 {x : V} {us : List Value} (r : Vals [x] us) : ∃ u, us = [u] ∧ RelV x u := by
  cases r with
  | cons r1 r2 => cases r2; exact ⟨_, rfl, r1⟩
theorem vals2 {x y : V} {us : List Value} (r : Vals [x, y] us) : ∃ u w', us = [u, w'] ∧ RelV x u ∧ RelV y w' := by
  cases r with
  | cons r1 r2 =>
    cases r2 with
    | cons r3 r4 => cases r4; exact ⟨_, _, rfl, r1, r3⟩
theorem call_abs : CallR X (.builtin "abs") (fun xs H Q => ∃ i, xs = [.int i] ∧ Q (.int (if i < 0 then -i else i)) H) := by
  intro pins s σ H xs us Q I r h
  obtain ⟨i, rfl, q⟩ := h
  obtain ⟨u, rfl, t, rfl⟩ := vals1 r
  exact call_abs_int fun u tk => ⟨.int (if i < 0 then -i else i), H, I.tok _, ⟨_, rfl⟩, q⟩
theorem call_max2 (hc : X.calm = true) : CallR X (.builtin "max") (fun xs H Q => ∃ i j, xs = [.int i, .int j] ∧ Q (.int (if j > i then j else i)) H) := by
  intro pins s σ H xs us Q I r h
  obtain ⟨i, j, rfl, q⟩ := h
  obtain ⟨u, w', rfl, ⟨t, rfl⟩, ⟨t', rfl⟩⟩ := vals2 r
  refine max_two_ints (I.ok.hd hc) fun h' tk k => ⟨_, H, I.kept k, ?_, q⟩
  by_cases hj : j > i
  · rw [if_pos hj, if_pos hj]; exact ⟨_, rfl⟩
  · rw [if_neg hj, if_neg hj]; exact ⟨_, rfl⟩
theorem call_min2 (hc : X.calm = true) : CallR X (.builtin "min") (fun xs H Q => ∃ i j, xs = [.int i, .int j] ∧ Q (.int (if j < i then j else i)) H) := by
  intro pins s σ H xs us Q I r h
  obtain ⟨i, j, rfl, q⟩ := h
  obtain ⟨u, w', rfl, ⟨t, rfl⟩, ⟨t', rfl⟩⟩ := vals2 r
  refine min_two_ints (I.ok.hd hc) fun h' tk k => ⟨_, H, I.kept k, ?_, q⟩
  by_cases hj : j < i
  · rw [if_pos hj, if_pos hj]; exact ⟨_, rfl⟩
  · rw [if_neg hj, if_neg hj]; exact ⟨_, rfl⟩
theorem call_int1 : CallR X (.type "int") (fun xs H Q => (∃ i, xs = [.int i] ∧ Q (.int i) H) ∨ ∃ k, xs = [.bl k] ∧ Q (.int (if k then 1 else 0)) H) := by
  intro pins s σ H xs us Q I r h
  rcases h with ⟨i, rfl, q⟩ | ⟨k, rfl, q⟩
  · obtain ⟨u, rfl, t, rfl⟩ := vals1 r
    exact call_int_int ⟨.int i, H, I, ⟨_, rfl⟩, q⟩
  · obtain ⟨u, rfl, r1⟩ := vals1 r
    cases r1
    exact call_int_bool ⟨.int (if k then 1 else 0), H, I.tok _, ⟨_, rfl⟩, q⟩
theorem call_bool1 : CallR X (.type "bool") (fun xs H Q => (∃ i, xs = [.int i] ∧ Q (.bl (i != 0)) H) ∨ ∃ k, xs = [.bl k] ∧ Q (.bl k) H) := by
  intro pins s σ H xs us Q I r h
  rcases h with ⟨i, rfl, q⟩ | ⟨k, rfl, q⟩
  · obtain ⟨u, rfl, t, rfl⟩ := vals1 r
    exact call_bool_int ⟨.bl (i != 0), H, I, rfl, q⟩
  · obtain ⟨u, rfl, r1⟩ := vals1 r
    cases r1
    exact call_bool_bool ⟨.bl k, H, I, rfl, q⟩
theorem call_str_int : CallR X (.type "str") (fun xs H Q => ∃ i, xs = [.int i] ∧ i.natAbs.log2 < 1920 ∧ Q (.str (toString i)) H) := by
  intro pins s σ H xs us Q I r h
  obtain ⟨i, rfl, hz, q⟩ := h
  obtain ⟨u, rfl, t, rfl⟩ := vals1 r
  exact PySem.P.str_of_int hz ⟨.str _, H, I.tok _, ⟨_, rfl⟩, q⟩
theorem call_ord : CallR X (.builtin "ord") (fun xs H Q => ∃ x, xs = [.str x] ∧ x.length = 1 ∧ Q (.int (x.cps.getD 0 0 : Nat)) H) := by
  intro pins s σ H xs us Q I r h
  obtain ⟨x, rfl, hz, q⟩ := h
  obtain ⟨u, rfl, t, rfl⟩ := vals1 r
  exact ord_of_one hz ⟨.int _, H, I.tok _, ⟨_, rfl⟩, q⟩
theorem call_chr : CallR X (.builtin "chr") (fun xs H Q => ∃ i, xs = [.int i] ∧ 0 ≤ i ∧ i ≤ 1114111 ∧ Q (.str ⟨#[i.toNat]⟩) H) := by
  intro pins s σ H xs us Q I r h
  obtain ⟨i, rfl, h0, h1, q⟩ := h
  obtain ⟨u, rfl, t, rfl⟩ := vals1 r
  exact chr_of_range h0 h1 ⟨.str _, H, I.tok _, ⟨_, rfl⟩, q⟩
/-- len of a str, a bytes, a list, a tuple -/
def LenV (K : PySem.W.Frag) (x : V) (H : Hp) (n : Nat) : Prop :=
  match x with
  | .str y => y.length ≤ sizeLine ∧ n = y.length
  | .byt y => y.size ≤ sizeLine ∧ n = y.size
  | .ref p => (∃ xs, SqL K H p xs ∧ n = xs.length) ∨ ∃ xs, SqT K H p xs ∧ n = xs.length
  | _ => False
theorem call_len : CallR X (.builtin "len") (fun xs H Q => ∃ x n, xs = [x] ∧ LenV X.K x H n ∧ Q (.int n) H) := by
  intro pins s σ H xs us Q I r h
  obtain ⟨x, n, rfl, e, q⟩ := h
  obtain ⟨u, rfl, rx⟩ := vals1 r
  have hl := line63
  have hs : sizeLine = 16777216 := sizeLine_eq
  cases x with
  | str y =>
    obtain ⟨t, rfl⟩ := rx
    obtain ⟨hy, e'⟩ : y.length ≤ sizeLine ∧ n = y.length := e
    subst e'
    exact len_str (by omega) ⟨.int _, H, I.tok _, ⟨_, rfl⟩, q⟩
  | byt y =>
    obtain ⟨t, rfl⟩ := rx
    obtain ⟨hy, e'⟩ : y.size ≤ sizeLine ∧ n = y.size := e
    subst e'
    exact PySem.W.len_bytes (by omega) ⟨.int _, H, I.tok _, ⟨_, rfl⟩, q⟩
  | ref p =>
    cases rx
    have e' : (∃ xs, SqL X.K H p xs ∧ n = xs.length) ∨ ∃ xs, SqT X.K H p xs ∧ n = xs.length := e
    rcases e' with ⟨xs, hx, e'⟩ | ⟨xs, hx, e'⟩
    · subst e'
      obtain ⟨its, r', pl, hz⟩ := I.list hx
      have hlen := r'.length
      exact Calls.call_len_list pl.isList (by simp only [List.size_toArray]; omega) ⟨.int xs.length, H, I.tok _, ⟨_, by simp only [List.size_toArray]; rw [hlen]⟩, q⟩
    · subst e'
      obtain ⟨its, r', pl, hz⟩ := I.tuple hx
      have hlen := r'.length
      exact len_tuple pl (by simp only [List.size_toArray]; omega) ⟨.int xs.length, H, I.tok _, ⟨_, by simp only [List.size_toArray]; rw [hlen]⟩, q⟩
  | _ => exact (show False from e).elim
/-- divmod: a new tuple -/
theorem call_divmod : CallR X (.builtin "divmod") (fun xs H Q => ∃ i j, xs = [.int i, .int j] ∧ CDiv i j ∧ ∀ p, H p = none → Q (.ref p) (upd H p (.tup [.int (i / j), .int (i % j)]))) := by
  intro pins s σ H xs us Q I r h
  obtain ⟨i, j, rfl, ⟨h1, h2⟩, q⟩ := h
  obtain ⟨u, w', rfl, ⟨t, rfl⟩, ⟨t', rfl⟩⟩ := vals2 r
  refine divmod_int (by omega) ?_ (.inl (PyProof.noPylong_small (by omega)))
  rw [Int.fdiv_eq_ediv_of_nonneg i (by omega), Int.fmod_eq_emod_of_nonneg i (by omega)]
  have hn : H s.heap.objs.size = none := I.hok.fresh (Nat.le_refl _)
  refine ⟨.ref s.heap.objs.size, _, ?_, rfl, q _ hn⟩
  refine I.laid (fun b o e => Heap.get?_push_of_some _ e) (Nat.le_refl _) ⟨by simp only [List.length_cons, List.length_nil]; rw [sizeLine_eq]; decide, [.int (i / j) s.toks, .int (i % j) (s.toks + 1)], .cons ⟨_, rfl⟩ (.cons ⟨_, rfl⟩ .nil), ?_⟩
  exact ⟨_, Heap.get?_push_size s.heap rfl, rfl, 0, rfl⟩
end
end L2

namespace L2
open PySem PySem.Spec PyProof.Rows

/-! ### an instance, its attributes a map -/
structure ObjM (h : Heap) (x dx C : Addr) (mA : Str → Option Value) : Prop where
  obj : h.get? x = some (PySem.W.instObj C dx)
  ns : h.Ns1 dx mA
  ne : dx ≠ x

theorem lookIn_ns {h : Heap} {dx : Addr} {mA : Str → Option Value} (n : h.Ns1 dx mA) : ∃ od, h.get? dx = some od ∧ ∀ name, PySem.W.lookIn name od = some (mA name) := by
  obtain ⟨o, es, ep, ho, hd, hk, _, hm⟩ := n
  refine ⟨o, ho, fun name => ?_⟩
  have e := hm name
  unfold nsFind findBy at e
  rw [← Array.find?_toList] at e
  unfold PySem.W.lookIn
  rw [hd]
  dsimp only
  split
  · rename_i y q
    rw [q] at e
    exact congrArg some e
  · rename_i q
    rw [q] at e
    have a : es.toList.any (·.refKey) = false := by
      rw [List.any_eq_false]
      intro y hy
      obtain ⟨z, t, hkey⟩ := hk y (Array.mem_toList_iff.mp hy)
      simp [DictEntry.refKey, hkey]
    have a' : ¬ es.toList.any (·.refKey) = true := by rw [a]; exact Bool.false_ne_true
    rw [if_neg a']
    exact congrArg some e

theorem ObjM.look {h : Heap} {x dx C : Addr} {mA : Str → Option Value} (I : ObjM h x dx C mA) : ∃ od, PySem.W.InstAt h x (PySem.W.instObj C dx) C (some od) ∧ ∀ name, PySem.W.lookIn name od = some (mA name) :=
  let ⟨od, ho, hl⟩ := lookIn_ns I.ns
  ⟨od, ⟨I.obj, rfl, rfl, ho⟩, hl⟩

section
variable {prog : Program} {w : World} {A : Around} {E : Value → Shared → Prop} {s : Shared} {K : PySem.W.Frag} {x dx C f : Addr} {mA : Str → Option Value} {name : Str} {v : Value}

theorem get_map {expr : Bool} {Q : Value → Shared → Prop} (X : K.In s.heap) (I : ObjM s.heap x dx C mA) (hg : PySem.W.plainGet K C name = true) (hh : PySem.W.hasDictIn K C = true)
    (ha : PySem.W.findIn K (.ref C) name = some none) (hv : mA name = some v) (hv' : PySem.W.handedIn v = true) (h : Q v { s with toks := s.toks + 1 }) :
    wpAny (model prog w) A (getAttr (.ref x) name expr) Q E s := by
  obtain ⟨od, J, hl⟩ := I.look
  exact PySem.W.get_value X J (PySem.W.plainGet_of hg).1 (PySem.W.findObj_own hh ha rfl (by rw [hl, hv])) hv' h

theorem get_const {expr : Bool} {a : Value} {Q : Value → Shared → Prop} (X : K.In s.heap) (I : ObjM s.heap x dx C mA) (hg : PySem.W.plainGet K C name = true) (hh : PySem.W.hasDictIn K C = true)
    (ha : PySem.W.findIn K (.ref C) name = some (some a)) (hn : PySem.W.specialIn K a "__get__" = some none) (hc : PySem.W.copiedNames.contains name = false) (hv : mA name = none) (hv' : PySem.W.handedIn a = true)
    (h : Q a { s with toks := s.toks + 1 }) : wpAny (model prog w) A (getAttr (.ref x) name expr) Q E s := by
  obtain ⟨od, J, hl⟩ := I.look
  exact PySem.W.get_value X J (PySem.W.plainGet_of hg).1 (PySem.W.findObj_cls hh ha hn hv' hc (by rw [hl, hv])) hv' h

theorem get_meth {pl : Sem Bool} {Q : Value × List Value → Shared → Prop} (X : K.In s.heap) (I : ObjM s.heap x dx C mA) (hg : PySem.W.plainGet K C name = true)
    (hf : PySem.W.findIn K (.ref C) name = some (some (.ref f))) (ht : PySem.W.isFn K (.ref f) = true) (hv : mA name = none) (h : Q (.ref f, [.ref x]) s) :
    wpAny (model prog w) A (getMethod (.ref x) name pl) Q E s := by
  obtain ⟨od, J, hl⟩ := I.look
  exact PySem.W.method_fn X J (PySem.W.plainGet_of hg).1 (PySem.W.plainGet_of hg).2 hf (beq_iff_eq.mp ht) (by show (PySem.W.lookIn name od).map (·.isSome) = some false; rw [hl, hv]; rfl) h

theorem set_map {ns : List Str} {Q : Unit → Shared → Prop} (X : K.In s.heap) (I : ObjM s.heap x dx C mA)
    (hs : PySem.W.findIn K (.ref C) "__setattr__" = some (some (.builtin "object.__setattr__"))) (hp : PySem.W.plainOver K C = true) (ht : PySem.W.takerIn K C name = some none) (hh : PySem.W.hasDictIn K C = true)
    (hw : PySem.Within mA ns) (hsz : ns.length ≤ sizeLine)
    (h : ∀ h', ObjM h' x dx C (fun y => if y = name then some v else mA y) → Heap.SameBut dx s.heap h' → Q () { s with heap := h', toks := s.toks + 2 }) :
    wpAny (model prog w) A (setAttr (.ref x) name v) Q E s := by
  obtain ⟨od, J, hl⟩ := I.look
  refine PySem.W.set_plain X J hs (PySem.W.osa_open (s := { s with toks := s.toks + 1 }) (r := none) X J hp ht fun b => ?_)
  obtain ⟨cd, hc, hd'⟩ := PySem.W.any_some hh
  have hx : s.heap.get? x = some ⟨.ref C, some dx, .plain, #[]⟩ := I.obj
  refine wpAny_bind (wpAny_pure (wpAny_bind (wpAny_bind (wpAny_loadPart hx (wpAny_bind (PySem.W.Looks.here (s := { s with toks := s.toks + 1 }) (PySem.W.looks_clsIn X hc) ?_))))))
  rw [hd']
  refine wpAny_pure (a := some dx) (wpAny_bind (wpAny_pure (wpAny_bind ?_)))
  refine wpAny_nsSet1 (s := { s with toks := s.toks + 1 }) I.ns fun h' hn2 hs2 => ?_
  obtain ⟨oD, esD, epD, hoD, hdD, hcD⟩ := hn2.count (PySem.Within.cons name v hw)
  refine wpAny_bind (wpAny_lookBehind hoD (by rw [hdD]; exact pastItsLine_dict (Nat.le_trans hcD (by rw [List.length_cons]; omega))) ?_)
  exact wpAny_pure (h _ ⟨(hs2.2 _ (Ne.symm I.ne)).trans I.obj, hn2, I.ne⟩ hs2)

/-- C(..): the dict at the heap's end, the instance behind it; then its __init__ -/
theorem make_map {R : Result → Shared → Prop} {vs : List Value} {kw : List (Str × Value)} (X : K.In s.heap) (hm : PySem.W.makesIn K C = true)
    (hi : PySem.W.findIn K (.ref C) "__init__" = some (some (.ref f))) (hf : PySem.W.typeIn K (.ref f) = some (.type "function"))
    (h : codeAny (model prog w) (A.under (.builtin "type.__call__" ⟨.ref C :: vs, kw⟩)) (.call (.ref f) ⟨.ref (s.heap.objs.size + 1) :: vs, kw⟩) (PySem.W.InitBack (s.heap.objs.size + 1) R)
      { s with heap := (s.heap.push PySem.W.emptyDict).push (PySem.W.instObj C s.heap.objs.size) }) :
    codeAny (model prog w) A (.call (.ref C) ⟨vs, kw⟩) R s := by
  obtain ⟨hh, g, d, t, os⟩ := s
  exact PySem.W.make_core (PySem.W.makes_of X hm) (PySem.W.looks_findIn X hi) (fun self => PySem.W.bind_fn X self hf) (.inl rfl) h
/-- C() where there is no __init__ but object's -/
theorem make_map0 {R : Result → Shared → Prop} (X : K.In s.heap) (hm : PySem.W.makesIn K C = true)
    (hi : PySem.W.findIn K (.ref C) "__init__" = some (some (.builtin "object.__init__")))
    (hb : ∀ self, PySem.W.Looks (model prog w) s.heap (bindSpecial (.builtin "object.__init__") self) (.builtin "object.__init__", [self]))
    (h : codeAny (model prog w) (A.under (.builtin "type.__call__" ⟨[.ref C], []⟩)) (.call (.builtin "object.__init__") ⟨[.ref (s.heap.objs.size + 1)], []⟩) (PySem.W.InitBack (s.heap.objs.size + 1) R)
      { s with heap := (s.heap.push PySem.W.emptyDict).push (PySem.W.instObj C s.heap.objs.size) }) :
    codeAny (model prog w) A (.call (.ref C) ⟨[], []⟩) R s := by
  obtain ⟨hh, g, d, t, os⟩ := s
  exact PySem.W.make_core (PySem.W.makes_of X hm) (PySem.W.looks_findIn X hi) hb (.inr ⟨rfl, rfl⟩) h
end

/-! ### the attributes as a list of pairs -/
def putF (f : Str) (v : V) : List (Str × V) → List (Str × V)
  | [] => [(f, v)]
  | (g, x) :: r => if g = f then (g, v) :: r else (g, x) :: putF f v r
theorem lookup_putF (f g : Str) (v : V) : ∀ fs : List (Str × V), (putF f v fs).lookup g = if g = f then some v else fs.lookup g
  | [] => by
    show List.lookup g [(f, v)] = _
    by_cases h : g = f
    · have hb : (g == f) = true := beq_iff_eq.mpr h
      simp only [List.lookup, hb, if_pos h]
    · have hb : (g == f) = false := beq_eq_false_iff_ne.mpr h
      simp only [List.lookup, hb, if_neg h]
  | (k, x) :: r => by
    have ih := lookup_putF f g v r
    rw [show putF f v ((k, x) :: r) = (if k = f then (k, v) :: r else (k, x) :: putF f v r) from rfl]
    by_cases hk : k = f
    · rw [if_pos hk]
      by_cases h : g = k
      · have hb : (g == k) = true := beq_iff_eq.mpr h
        simp only [List.lookup, hb, if_pos (h.trans hk)]
      · have hb : (g == k) = false := beq_eq_false_iff_ne.mpr h
        simp only [List.lookup, hb, if_neg (fun e : g = f => h (e.trans hk.symm))]
    · rw [if_neg hk]
      by_cases h : g = k
      · have hb : (g == k) = true := beq_iff_eq.mpr h
        simp only [List.lookup, hb, if_neg (fun e : g = f => hk (h.symm.trans e))]
      · have hb : (g == k) = false := beq_eq_false_iff_ne.mpr h
        simp only [List.lookup, hb]
        exact ih
theorem keys_putF (f : Str) (v : V) : ∀ fs : List (Str × V), f ∈ (putF f v fs).map (·.1) ∧ ∀ g, g ∈ fs.map (·.1) → g ∈ (putF f v fs).map (·.1)
  | [] => ⟨by simp [putF], fun g h => by simp at h⟩
  | (k, x) :: r => by
    obtain ⟨i1, i2⟩ := keys_putF f v r
    rw [show putF f v ((k, x) :: r) = (if k = f then (k, v) :: r else (k, x) :: putF f v r) from rfl]
    by_cases hk : k = f
    · rw [if_pos hk]
      subst hk
      exact ⟨by simp, fun g h => by simpa using h⟩
    · rw [if_neg hk]
      refine ⟨?_, fun g h => ?_⟩
      · rw [List.map_cons]
        exact List.mem_cons_of_mem _ i1
      · rw [List.map_cons] at h ⊢
        rcases List.mem_cons.mp h with e | e
        · exact List.mem_cons.mpr (.inl e)
        · exact List.mem_cons_of_mem _ (i2 g e)
theorem length_putF (f : Str) (v : V) : ∀ fs : List (Str × V), (putF f v fs).length ≤ fs.length + 1
  | [] => by simp [putF]
  | (k, x) :: r => by
    have ih := length_putF f v r
    rw [show putF f v ((k, x) :: r) = (if k = f then (k, v) :: r else (k, x) :: putF f v r) from rfl]
    by_cases hk : k = f
    · rw [if_pos hk, List.length_cons, List.length_cons]; omega
    · rw [if_neg hk, List.length_cons, List.length_cons]; omega

theorem RelO.some_of {v : V} {o : Option Value} (r : RelO (some v) o) : ∃ u, o = some u ∧ RelV v u := by
  cases o with
  | none => exact (show False from r).elim
  | some u => exact ⟨u, rfl, r⟩
theorem RelO.none_of {o : Option Value} (r : RelO none o) : o = none := by
  cases o with
  | none => rfl
  | some u => exact (show False from r).elim
theorem handed_of {v : V} {u : Value} (r : RelV v u) : PySem.W.handedIn u = true := by
  cases v with
  | non => cases (show u = Value.none from r); rfl
  | bl b => cases (show u = Value.bool b from r); rfl
  | int i => obtain ⟨t, e⟩ := (show ∃ t, u = Value.int i t from r); cases e; rfl
  | str x => obtain ⟨t, e⟩ := (show ∃ t, u = Value.str x t from r); cases e; rfl
  | byt b => obtain ⟨t, e⟩ := (show ∃ t, u = Value.bytes b t from r); cases e; rfl
  | flt b => obtain ⟨t, e⟩ := (show ∃ t, u = Value.float b t from r); cases e; rfl
  | ref a => cases (show u = Value.ref a from r); rfl
  | ty n => cases (show u = Value.type n from r); rfl

section
variable {P : Program} {w : World} {H H' : Hp} {h h' : Heap} {a C dx : Addr} {fs fs' : List (Str × V)}
theorem ins_get (hok : HOk P w H h) (e : H a = some (.ins C dx fs)) : ∃ mA, ObjM h a dx C mA ∧ (∀ f, RelO (fs.lookup f) (mA f)) ∧ PySem.Within mA (fs.map (·.1)) ∧ fs.length ≤ 1000 ∧ H dx = some (.own a) := by
  obtain ⟨d, z, ne, ob, mA, n, r, q⟩ := (show ObjOk P w H h a (.ins C dx fs) from hok a _ e)
  exact ⟨mA, ⟨ob, n, ne⟩, r, q, z, d⟩
end

/-! ### what of the text a class must have -/
structure Cls (K : PySem.W.Frag) (C : Addr) : Prop where
  pg : PySem.W.plainGet K C Str.empty = true
  hd : PySem.W.hasDictIn K C = true
  po : PySem.W.plainOver K C = true
  sa : PySem.W.findIn K (.ref C) "__setattr__" = some (some (.builtin "object.__setattr__"))
theorem Cls.get {K : PySem.W.Frag} {C : Addr} (c : Cls K C) (f : Str) : PySem.W.plainGet K C f = true := c.pg
/-- no class of it has the name -/
def NoAttr (K : PySem.W.Frag) (C : Addr) (f : Str) : Prop := PySem.W.findIn K (.ref C) f = some none
theorem NoAttr.taker {K : PySem.W.Frag} {C : Addr} {f : Str} (n : NoAttr K C f) : PySem.W.takerIn K C f = some none := by
  unfold PySem.W.takerIn
  rw [show PySem.W.findIn K (.ref C) f = some none from n]
  rfl
/-- a constant of the class -/
structure Con (K : PySem.W.Frag) (C : Addr) (f : Str) (v : V) (u : Value) : Prop where
  at_ : PySem.W.findIn K (.ref C) f = some (some u)
  rel : RelV v u
  get : PySem.W.specialIn K u "__get__" = some none
  cp : PySem.W.copiedNames.contains f = false
/-- a method: a plain def of the class or of one above it -/
structure Meth (K : PySem.W.Frag) (C : Addr) (m : Str) (f : Addr) : Prop where
  at_ : PySem.W.findIn K (.ref C) m = some (some (.ref f))
  fn : PySem.W.isFn K (.ref f) = true
  kp : PySem.W.keepIn K (.ref f) = true

section
variable {X : Cx} {pins : List (Addr × Obj)} {σ : St} {H : Hp} {s : Shared} {a C dx : Addr} {fs : List (Str × V)} {f : Str} {v : V} {A : Around} {E : Value → Shared → Prop}

theorem getattr_ok {b : Bool} {Q : Value → Shared → Prop} (I : Inv X pins σ H s) (e : H a = some (.ins C dx fs)) (c : Cls X.K C) (n : NoAttr X.K C f) (l : fs.lookup f = some v)
    (h : ∀ u s', Inv X pins σ H s' → RelV v u → Q u s') : wpAny (model X.prog X.w) A (getAttr (.ref a) f b) Q E s := by
  obtain ⟨mA, O, r, _, _, _⟩ := ins_get I.hok e
  obtain ⟨u, hu, ru⟩ := RelO.some_of (v := v) (o := mA f) (by rw [← l]; exact r f)
  exact get_map I.kIn O (c.get f) c.hd n hu (handed_of ru) (h u _ (I.tok _) ru)

theorem getcon_ok {b : Bool} {u : Value} {Q : Value → Shared → Prop} (I : Inv X pins σ H s) (e : H a = some (.ins C dx fs)) (c : Cls X.K C) (k : Con X.K C f v u) (l : fs.lookup f = none)
    (h : ∀ s', Inv X pins σ H s' → Q u s') : wpAny (model X.prog X.w) A (getAttr (.ref a) f b) Q E s := by
  obtain ⟨mA, O, r, _, _, _⟩ := ins_get I.hok e
  have hn : mA f = none := RelO.none_of (by rw [← l]; exact r f)
  exact get_const I.kIn O (c.get f) c.hd k.at_ k.get k.cp hn (handed_of k.rel) (h _ (I.tok _))

theorem getmeth_ok {m : Str} {g : Addr} {pl : Sem Bool} {Q : Value × List Value → Shared → Prop} (I : Inv X pins σ H s) (e : H a = some (.ins C dx fs)) (c : Cls X.K C) (k : Meth X.K C m g) (l : fs.lookup m = none)
    (h : Q (.ref g, [.ref a]) s) : wpAny (model X.prog X.w) A (getMethod (.ref a) m pl) Q E s := by
  obtain ⟨mA, O, r, _, _, _⟩ := ins_get I.hok e
  have hn : mA m = none := RelO.none_of (by rw [← l]; exact r m)
  exact get_meth I.kIn O (c.get m) k.at_ k.fn hn h

theorem setattr_ok {y : V} {u : Value} {Q : Unit → Shared → Prop} (I : Inv X pins σ H s) (e : H a = some (.ins C dx fs)) (c : Cls X.K C) (n : NoAttr X.K C f) (hl : fs.length < 1000) (ry : RelV y u)
    (h : ∀ s', Inv X pins σ (upd H a (.ins C dx (putF f y fs))) s' → Q () s') : wpAny (model X.prog X.w) A (setAttr (.ref a) f u) Q E s := by
  obtain ⟨mA, O, r, wi, _, ho⟩ := ins_get I.hok e
  have hz : (fs.map (·.1)).length ≤ sizeLine := by rw [List.length_map, sizeLine_eq]; omega
  refine set_map I.kIn O c.sa c.po n.taker c.hd wi hz fun h' O' sb => h _ ?_
  have hd : ∃ o, h'.get? dx = some o := let ⟨o, _, _, e', _⟩ := O'.ns; ⟨o, e'⟩
  refine I.write (x := a) (e := dx) (by rw [e]; exact True.intro) (.inr ho) (fun b q hb z => (sb.2 b hb).trans z) hd ?_
  refine ⟨by rw [upd_ne O.ne]; exact ho, ?_, O.ne, O'.obj, _, O'.ns, fun g => ?_, fun g hg => ?_⟩
  · have := length_putF f y fs; omega
  · show RelO ((putF f y fs).lookup g) (if g = f then some u else mA g)
    rw [lookup_putF]
    by_cases q : g = f
    · rw [if_pos q, if_pos q]; exact ry
    · rw [if_neg q, if_neg q]; exact r g
  · by_cases q : g = f
    · rw [q]; exact (keys_putF f y fs).1
    · refine (keys_putF f y fs).2 g (wi g fun z => hg ?_)
      show (if g = f then some u else mA g) = none
      rw [if_neg q]; exact z

/-- a new instance, tracked, without attributes -/
theorem Inv.made (I : Inv X pins σ H s) : Inv X pins σ (upd (upd H s.heap.objs.size (.own (s.heap.objs.size + 1))) (s.heap.objs.size + 1) (.ins C s.heap.objs.size []))
    { s with heap := (s.heap.push PySem.W.emptyDict).push (PySem.W.instObj C s.heap.objs.size) } := by
  have e1 : (s.heap.push PySem.W.emptyDict).get? s.heap.objs.size = some PySem.W.emptyDict := Heap.get?_push_size s.heap rfl
  have e2 : ((s.heap.push PySem.W.emptyDict).push (PySem.W.instObj C s.heap.objs.size)).get? (s.heap.objs.size + 1) = some (PySem.W.instObj C s.heap.objs.size) := by
    have := Heap.get?_push_size (s.heap.push PySem.W.emptyDict) (o := PySem.W.instObj C s.heap.objs.size) rfl
    rwa [Heap.size_push] at this
  have e3 : (s.heap.push PySem.W.emptyDict).Ns s.heap.objs.size (fun _ => none) := ⟨PySem.W.emptyDict, #[], _, e1, rfl, (fun e he => absurd he (by simp)), fun _ => rfl⟩
  have I1 := I.laid (a := s.heap.objs.size) (o := .own (s.heap.objs.size + 1)) (h' := s.heap.push PySem.W.emptyDict) (t' := s.toks) (fun b u q => Heap.get?_push_of_some _ q) (Nat.le_refl _) ⟨_, e1⟩
  refine I1.laid (a := s.heap.objs.size + 1) (o := .ins C s.heap.objs.size []) (t' := s.toks) (fun b u q => Heap.get?_push_of_some _ q) (Nat.le_of_eq (Heap.size_push _ _)) ?_
  have ne : s.heap.objs.size ≠ s.heap.objs.size + 1 := Nat.ne_of_lt (Nat.lt_succ_self _)
  refine ⟨by rw [upd_ne ne, upd_same], Nat.zero_le _, ne, e2, fun _ => none, (Heap.Ns1.of_empty e3).at fun o q => Heap.get?_push_of_some _ q, fun _ => True.intro, fun y hy => absurd rfl hy⟩

/-- e.f where nothing but the object is asked: through attributeBase (super) and the last hold -/
theorem attr_of {prog : Program} {w : World} {env : Env} {e : Expr} {f : Str} {pos : Pos} {s : Shared} {Q : Value → Shared → Prop} (hb : attributeBase e f env (eval e env) = eval e env)
    (h : wpAny (model prog w) A (eval e env) (fun o s₁ => wpAny (model prog w) A (getAttr o f true) Q E s₁) E s) : wpAny (model prog w) A (eval (.Attribute e f pos) env) Q E s :=
  Attribute_any_ h (by rw [arm_eval_Attribute, hb])
end

/-! ### readings and rules -/
/-- e.f, an attribute of the instance -/
def tFld (K : PySem.W.Frag) (ta : TE) (f : Str) : TE := fun σ H Q => ta σ H fun x H1 => ∃ a C dx fs v, x = .ref a ∧ H1 a = some (.ins C dx fs) ∧ Cls K C ∧ NoAttr K C f ∧ fs.lookup f = some v ∧ Q v H1
/-- e.f, a constant of the class -/
def tCon (K : PySem.W.Frag) (ta : TE) (f : Str) : TE := fun σ H Q => ta σ H fun x H1 => ∃ a C dx fs v u, x = .ref a ∧ H1 a = some (.ins C dx fs) ∧ Cls K C ∧ Con K C f v u ∧ fs.lookup f = none ∧ Q v H1
/-- e.f = value -/
def sFld (K : PySem.W.Frag) (ta tv : TE) (f : Str) : TS := fun D σ H => tv σ H fun y H1 => ta σ H1 fun x H2 => ∃ a C dx fs, x = .ref a ∧ H2 a = some (.ins C dx fs) ∧ Cls K C ∧ NoAttr K C f ∧ fs.length < 1000 ∧
  D.nx σ (upd H2 a (.ins C dx (putF f y fs)))
/-- an augmented operator on two values -/
def InOp (X : Cx) (op : Operator) (rd : V → V → Hp → VK → Prop) : Prop :=
  ∀ (pins : List (Addr × Obj)) (s : Shared) (σ : St) (H : Hp) (x y : V) (u v : Value) (Q : VK), Inv X pins σ H s → RelV x u → RelV y v → rd x y H Q → wpAny (model X.prog X.w) X.A (inplaceOp op u v) (EP X pins σ Q) X.xe s
/-- e.f op= value -/
def sFldAug (K : PySem.W.Frag) (ta tv : TE) (rd : V → V → Hp → VK → Prop) (f : Str) : TS := fun D σ H => ta σ H fun x H1 => ∃ a C dx fs v, x = .ref a ∧ H1 a = some (.ins C dx fs) ∧ Cls K C ∧ NoAttr K C f ∧ fs.lookup f = some v ∧
  tv σ H1 fun y H2 => rd v y H2 fun z H3 => ∃ dx' fs', H3 a = some (.ins C dx' fs') ∧ fs'.length < 1000 ∧ D.nx σ (upd H3 a (.ins C dx' (putF f z fs')))

section
variable {X : Cx} {o e value : Expr} {f : Str} {pos pos' tpos : Pos} {ta tv : TE}
theorem pe_fld (he : PE X e ta) (hb : attributeBase e f X.env (eval e X.env) = eval e X.env) : PE X (.Attribute e f pos) (tFld X.K ta f) := by
  intro pins s σ H Q I h
  refine attr_of hb (thn (he pins s σ H _ I h) fun u s1 ⟨x, H1, I1, rx, a, C, dx, fs, v, ex, ea, c, n, l, q⟩ => ?_)
  subst ex
  obtain rfl : u = Value.ref a := rx
  exact getattr_ok I1 ea c n l fun u' s2 I2 ru => ⟨v, H1, I2, ru, q⟩
theorem pe_con (he : PE X e ta) (hb : attributeBase e f X.env (eval e X.env) = eval e X.env) : PE X (.Attribute e f pos) (tCon X.K ta f) := by
  intro pins s σ H Q I h
  refine attr_of hb (thn (he pins s σ H _ I h) fun u s1 ⟨x, H1, I1, rx, a, C, dx, fs, v, u0, ex, ea, c, k, l, q⟩ => ?_)
  subst ex
  obtain rfl : u = Value.ref a := rx
  exact getcon_ok I1 ea c k l fun s2 I2 => ⟨v, H1, I2, k.rel, q⟩
theorem ps_fld (ha : PE X o ta) (hv : PE X value tv) (hs : swapsWith value (some (.Attribute o f pos')) pos.line X.env = pure false) : PS X (.Assign [.Attribute o f pos'] value pos) (sFld X.K ta tv f) := by
  intro pins s σ H D I h
  refine plainObj_wpAny_Assign_Attribute (thn (hv pins s σ H _ I h) fun u s1 ⟨y, H1, I1, ry, q⟩ => thn (ha pins s1 σ H1 _ I1 q) fun ov s2 ⟨x, H2, I2, rx, a, C, dx, fs, ex, ea, c, n, l, q2⟩ => ?_) hs
  subst ex
  obtain rfl : ov = Value.ref a := rx
  exact setattr_ok I2 ea c n l ry fun s3 I3 => ⟨σ, _, I3, q2⟩
theorem ps_fldaug {op : Operator} {rd : V → V → Hp → VK → Prop} (ha : PE X o ta) (hv : PE X value tv) (hop : InOp X op rd) : PS X (.AugAssign (.Attribute o f tpos) op value pos) (sFldAug X.K ta tv rd f) := by
  intro pins s σ H D I h
  refine wpAny_AugAssign_AttributeAny (thn (ha pins s σ H _ I h) fun ov s1 ⟨x, H1, I1, rx, a, C, dx, fs, v, ex, ea, c, n, l, q⟩ => ?_)
  subst ex
  obtain rfl : ov = Value.ref a := rx
  refine getattr_ok I1 ea c n l fun u s2 I2 ru => thn (hv pins s2 σ H1 _ I2 q) fun w3 s3 ⟨y, H2, I3, ry, q3⟩ => thn (hop pins s3 σ H2 v y u w3 _ I3 ru ry q3) fun w4 s4 ⟨z, H3, I4, rz, dx', fs', ea', l', q4⟩ => ?_
  exact setattr_ok I4 ea' c n l' rz fun s5 I5 => ⟨σ, _, I5, q4⟩
def rAdd : V → V → Hp → VK → Prop := fun x y H Q => ∃ i j, x = .int i ∧ y = .int j ∧ Q (.int (i + j)) H
def rSub : V → V → Hp → VK → Prop := fun x y H Q => ∃ i j, x = .int i ∧ y = .int j ∧ Q (.int (i - j)) H
theorem in_add : InOp X .Add rAdd := by
  rintro pins s σ H x y u v Q I rx ry ⟨i, j, rfl, rfl, q⟩
  obtain ⟨t, rfl⟩ := (show ∃ t, u = Value.int i t from rx)
  obtain ⟨t', rfl⟩ := (show ∃ t', v = Value.int j t' from ry)
  exact PyProof.Rows.iadd_int ⟨.int (i + j), H, I.tok _, ⟨_, rfl⟩, q⟩
theorem in_sub : InOp X .Sub rSub := by
  rintro pins s σ H x y u v Q I rx ry ⟨i, j, rfl, rfl, q⟩
  obtain ⟨t, rfl⟩ := (show ∃ t, u = Value.int i t from rx)
  obtain ⟨t', rfl⟩ := (show ∃ t', v = Value.int j t' from ry)
  exact PyProof.Rows.isub_int ⟨.int (i - j), H, I.tok _, ⟨_, rfl⟩, q⟩

/-- what is between an instance and its method: the tree of a method call -/
theorem methcall_of {pl : Sem Bool} {m : Str} {apos : Pos} {args : List Expr} {pins : List (Addr × Obj)} {s : Shared} {σ : St} {H : Hp} {Q : Value → Shared → Prop} {te : TE} (he : PE X e te) (I : Inv X pins σ H s)
    (h : te σ H fun x H1 => ∃ a C dx fs g, x = .ref a ∧ H1 a = some (.ins C dx fs) ∧ Cls X.K C ∧ Meth X.K C m g ∧ fs.lookup m = none ∧
      ∀ s1, Inv X pins σ H1 s1 → wpAny (model X.prog X.w) X.A (callWith pos (.ref g) [.ref a] (backTo pos (starEach args X.env)) (backToKw pos (keywordEach [] X.env))) Q X.xe s1)
    (ht : eval (.Call (.Attribute e m apos) args [] pos) X.env = (do
      let ov ← eval e X.env
      standAt apos.atName
      let (f, first) ← holding [ov] (getMethod ov m pl)
      callWith pos f first (backTo pos (starEach args X.env)) (backToKw pos (keywordEach [] X.env)))) :
    wpAny (model X.prog X.w) X.A (eval (.Call (.Attribute e m apos) args [] pos) X.env) Q X.xe s := by
  refine PySem.W.methodCall_KW (pl := pl) (thn (he pins s σ H _ I h) fun u s1 ⟨x, H1, I1, rx, a, C, dx, fs, g, ex, ea, c, k, l, q⟩ => ?_) ht
  subst ex
  obtain rfl : u = Value.ref a := rx
  exact getmeth_ok I1 ea c k l (q s1 I1)
end

/-! ### isinstance -/
section
variable {X : Cx} {pins : List (Addr × Obj)} {σ : St} {H : Hp} {s : Shared} {A : Around} {E : Value → Shared → Prop} {Q : Value → Shared → Prop} {c : Value} {b : Bool}
/-- the type of a value, as the fragment's deciders take it; for an instance its class -/
inductive TyOf (K : PySem.W.Frag) (H : Hp) : V → Value → Prop where
  | non : TyOf K H .non (.type "NoneType")
  | bl (x : Bool) : TyOf K H (.bl x) (.type "bool")
  | int (i : Int) : TyOf K H (.int i) (.type "int")
  | str (x : Str) : TyOf K H (.str x) (.type "str")
  | flt (x : UInt64) : TyOf K H (.flt x) (.type "float")
  | lst {a : Addr} {xs : List V} (e : H a = some (.lst xs)) : TyOf K H (.ref a) (.type "list")
  | frz {a : Addr} {o : Obj} {xs : List V} (e : H a = some (.frz o (.lst xs))) : TyOf K H (.ref a) (.type "list")
  | tup {a : Addr} {xs : List V} (e : H a = some (.tup xs)) : TyOf K H (.ref a) (.type "tuple")
  | dK {a : Addr} {kvs : List (Key × V)} (e : H a = some (.dK kvs)) : TyOf K H (.ref a) (.type "dict")
  | dT {a : Addr} {kvs : List (List Key × V)} (e : H a = some (.dT kvs)) : TyOf K H (.ref a) (.type "dict")
  | ins {a C dx : Addr} {fs : List (Str × V)} (e : H a = some (.ins C dx fs)) (cl : Cls K C) (ha : PySem.W.findIn K (.ref C) "__class__" = some (some (.builtin "object.__class__")))
      (hn : PySem.W.specialIn K (.builtin "object.__class__") "__get__" = some (some (.builtin "getset_descriptor.__get__"))) (htk : PySem.W.takesIn K (.builtin "object.__class__") = some true)
      (hm : PySem.W.mroIn K C (.type "object") = some true) : TyOf K H (.ref a) (.ref C)
/-- isinstance(x, c) for one class c, a built-in or an own one: kitOne's answer -/
theorem isinst_ok {x : V} {u t : Value} (I : Inv X pins σ H s) (rx : RelV x u) (ty : TyOf X.K H x t) (e : PySem.W.kitOne X.K t c = some b) (h : ∀ tk, Q (.bool b) { s with toks := tk }) :
    wpAny (model X.prog X.w) A (call (.builtin "isinstance") [u, c]) Q E s := by
  cases ty with
  | non => cases (show u = Value.none from rx); exact PySem.W.kia_one PySem.W.kitx_none I.kIn True.intro e (fun z => nomatch z) h
  | bl y => cases (show u = Value.bool y from rx); exact PySem.W.kia_one PySem.W.kitx_bool I.kIn True.intro e (fun z => nomatch z) h
  | int i => obtain ⟨t, q⟩ := (show ∃ t, u = Value.int i t from rx); cases q; exact PySem.W.kia_one PySem.W.kitx_int I.kIn True.intro e (fun z => nomatch z) h
  | str y => obtain ⟨t, q⟩ := (show ∃ t, u = Value.str y t from rx); cases q; exact PySem.W.kia_one PySem.W.kitx_str I.kIn True.intro e (fun z => nomatch z) h
  | flt y => obtain ⟨t, q⟩ := (show ∃ t, u = Value.float y t from rx); cases q; exact PySem.W.kia_one PySem.W.kitx_float I.kIn True.intro e (fun z => nomatch z) h
  | @lst a xs ea =>
    cases (show u = Value.ref a from rx)
    obtain ⟨_, _, n, _, h1⟩ := (show ObjOk X.prog X.w H s.heap a (.lst xs) from I.hok a _ ea)
    exact PySem.W.kia_one PySem.W.kitx_list I.kIn ⟨_, h1, rfl⟩ e (fun z => nomatch z) h
  | @frz a ob xs ea =>
    cases (show u = Value.ref a from rx)
    obtain ⟨_, _, _, n, _, h1⟩ := (show ObjOk X.prog X.w H s.heap a (.frz ob (.lst xs)) from I.hok a _ ea)
    exact PySem.W.kia_one PySem.W.kitx_list I.kIn ⟨_, h1, rfl⟩ e (fun z => nomatch z) h
  | @tup a xs ea =>
    cases (show u = Value.ref a from rx)
    obtain ⟨_, _, _, p⟩ := (show ObjOk X.prog X.w H s.heap a (.tup xs) from I.hok a _ ea)
    obtain ⟨o, h1, h2, _⟩ := p
    exact PySem.W.kia_one PySem.W.kitx_tuple I.kIn ⟨o, h1, h2⟩ e (fun z => nomatch z) h
  | @dK a kvs ea =>
    cases (show u = Value.ref a from rx)
    obtain ⟨_, _, vs, _, p⟩ := (show ObjOk X.prog X.w H s.heap a (.dK kvs) from I.hok a _ ea)
    obtain ⟨o, es, ep, h1, h2, _⟩ := p
    exact PySem.W.kia_one PySem.W.kitx_dict I.kIn ⟨o, h1, h2.1⟩ e (fun z => nomatch z) h
  | @dT a kvs ea =>
    cases (show u = Value.ref a from rx)
    obtain ⟨_, _, xs, _, o, es, ep, h1, h2, _⟩ := (show ObjOk X.prog X.w H s.heap a (.dT kvs) from I.hok a _ ea)
    exact PySem.W.kia_one PySem.W.kitx_dict I.kIn ⟨o, h1, h2.1⟩ e (fun z => nomatch z) h
  | @ins a C dx fs ea cl ha hn htk hm =>
    cases (show u = Value.ref a from rx)
    obtain ⟨mA, O, _⟩ := ins_get I.hok ea
    obtain ⟨od, J, _⟩ := O.look
    exact PySem.W.kia_one (PySem.W.kitx_own (cl.get _) cl.hd ha hn htk hm) I.kIn J e (fun z => nomatch z) h
end
end L2

namespace L2
open PySem PySem.Spec PyProof.Rows

/-! ### room -/
structure Room (k : Nat) (A : Around) : Prop where
  hd : A.handled = none
  dp : A.depth + 3 * k + 5 < recursionLimit
  un : A.units + 16 * k + 200 < cLine
theorem Room.mono {j k : Nat} {A : Around} (r : Room k A) (h : j ≤ k) : Room j A := ⟨r.hd, by have := r.dp; omega, by have := r.un; omega⟩
theorem Room.deeper {k : Nat} {A : Around} (r : Room (k + 1) A) (env : Env) : Room k (A.deeper env) :=
  ⟨r.hd, by have := r.dp; show A.depth + 1 + 3 * k + 5 < _; omega, by have := r.un; show A.units + 3 + 16 * k + 200 < _; omega⟩
theorem Room.in1 {k : Nat} {A : Around} (r : Room (k + 1) A) : Room k A.in1 :=
  ⟨r.hd, by have := r.dp; show A.depth + 3 * k + 5 < _; omega, by have := r.un; show A.units + 1 + 16 * k + 200 < _; omega⟩
theorem make_depth {A : Around} {C : Addr} {us : List Value} {kw : List (Str × Value)} : (A.under (.builtin "type.__call__" ⟨.ref C :: us, kw⟩)).depth = A.depth + 1 := by
  first | rfl | simp [Around.under, Code.weight, Code.isCreation, Code.isGuard, Code.isCaller, Code.frames, Code.isFrame, guardIds]
theorem make_units {A : Around} {C : Addr} {us : List Value} {kw : List (Str × Value)} : (A.under (.builtin "type.__call__" ⟨.ref C :: us, kw⟩)).units = A.units + 1 := by
  first | rfl | simp [Around.under, Code.cUnits, Code.frames, Code.isFrame]
theorem Room.make {k : Nat} {A : Around} (r : Room (k + 1) A) (C : Addr) (us : List Value) (kw : List (Str × Value)) : Room k (A.under (.builtin "type.__call__" ⟨.ref C :: us, kw⟩)) :=
  ⟨r.hd, by have := r.dp; rw [make_depth]; omega, by have := r.un; rw [make_units]; omega⟩
theorem Room.depth {k : Nat} {A : Around} (r : Room k A) : A.depth < recursionLimit := by have := r.dp; omega
theorem Room.units {k : Nat} {A : Around} (r : Room k A) : A.units + 64 < cLine := by have := r.un; omega
theorem Room.units0 {k : Nat} {A : Around} (r : Room k A) : A.units < cLine := by have := r.un; omega

/-! ### argument lists and displays -/
def tNil : TA := fun _ H Q => Q [] H
def tCons (ta : TE) (tr : TA) : TA := fun σ H Q => ta σ H fun x H1 => tr σ H1 fun xs H2 => Q (x :: xs) H2
section
variable {X : Cx} {e : Expr} {es : List Expr} {te : TE} {t : TA} {pos : Pos}
theorem pa_nil : PA X [] tNil := fun _ _ _ _ H Q I h => Calls.spliced_nil ⟨[], H, I, .nil, h⟩
theorem pa_cons (ha : PE X e te) (hr : PA X es t) (hs : starEach (e :: es) X.env = (false, eval e X.env) :: starEach es X.env := by rfl) : PA X (e :: es) (tCons te t) := by
  intro pos pins s σ H Q I h
  rw [hs]
  show wpAny _ _ (spliced ((false, eval e X.env) :: backTo pos (starEach es X.env))) _ _ s
  refine Calls.spliced_cons (thn (ha pins s σ H _ I h) fun u s1 ⟨x, H1, I1, r1, q1⟩ => ?_)
  exact thn (hr pos pins s1 σ H1 _ I1 q1) fun us s2 ⟨xs, H2, I2, r2, q2⟩ => ⟨x :: xs, H2, I2, .cons r1 r2, q2⟩

/-- a tuple, a list of written items -/
def tTup (t : TA) : TE := fun σ H Q => t σ H fun xs H1 => xs.length ≤ sizeLine ∧ ∀ p, H1 p = none → Q (.ref p) (upd H1 p (.tup xs))
def tLst (t : TA) : TE := fun σ H Q => t σ H fun xs H1 => xs.length ≤ sizeLine ∧ ∀ p, H1 p = none → Q (.ref p) (upd H1 p (.lst xs))
theorem pe_tup {x1} (h : PA X es t) : PE X (.Tuple es x1 pos) (tTup t) := by
  intro pins s σ H Q I hq
  refine wpAny_Tuple_spliced (thn (h pos pins s σ H _ I hq) fun us s1 ⟨xs, H1, I1, r, z, q⟩ => ⟨by rw [← r.length]; exact z, ?_⟩)
  have hf : H1 s1.heap.objs.size = none := I1.hok.fresh (Nat.le_refl _)
  refine ⟨.ref s1.heap.objs.size, upd H1 s1.heap.objs.size (.tup xs), I1.laid (t' := s1.toks) (fun b u e => Heap.get?_push_of_some _ e) (Nat.le_refl _) ?_, rfl, q _ hf⟩
  exact ⟨z, us, r, ⟨_, Heap.get?_push_size _ rfl, rfl, _, rfl⟩⟩
theorem pe_lst (h : PA X es t) : PE X (.List es pos) (tLst t) := by
  intro pins s σ H Q I hq
  refine wpAny_List_spliced (thn (h pos pins s σ H _ I hq) fun us s1 ⟨xs, H1, I1, r, z, q⟩ => ⟨by rw [← r.length]; exact z, ?_⟩)
  have hf : H1 s1.heap.objs.size = none := I1.hok.fresh (Nat.le_refl _)
  refine ⟨.ref s1.heap.objs.size, upd H1 s1.heap.objs.size (.lst xs), I1.laid (t' := s1.toks) (fun b u e => Heap.get?_push_of_some _ e) (Nat.le_refl _) ?_, rfl, q _ hf⟩
  exact ⟨z, us, 0, r, Heap.get?_push_size _ rfl⟩
end

/-! ### what a def promises -/
/-- a def's promise: the bound arguments in the parameters' order, the heap, the wanted end, the wanted exception -/
abbrev Sp := List V → Hp → VK → XK → Prop
/-- how an exception lies behind a call (file 08 gives it): the callers' frames, abstract heap and state ahead of the call, the wish, the exception, the state -/
abbrev CXT := List Env → Hp → Shared → XK → Value → Shared → Prop

/-- the state at a call -/
structure Env0 (P : Program) (w : World) (K : PySem.W.Frag) (mg : Str → Option Value) (base : Heap) (A : Around) (outer : List Env) (s : Shared) (H : Hp) : Prop where
  frames : A.frames = some outer
  mod : Mod K mg base
  bs : ∀ b o, base.get? b = some o → s.heap.get? b = some o ∧ H b = none
  bsz : base.objs.size ≤ s.heap.objs.size
  funs : s.heap.FunFrames base outer
  frf : ∀ b ∈ frs outer, H b = none
  hok : HOk P w H s.heap
  bare : AllBare s.gens
/-- a call's end -/
def CE (outer : List Env) (P : Program) (w : World) (H : Hp) (s : Shared) (Q : VK) (u : Value) (s' : Shared) : Prop :=
  ∃ v H', s'.os = s.os ∧ AllBare s'.gens ∧ Un (frs outer) [] H H' s.heap s'.heap ∧ HOk P w H' s'.heap ∧ RelV v u ∧ Q v H'
def CR (CX : CXT) (outer : List Env) (P : Program) (w : World) (H : Hp) (s : Shared) (Q : VK) (E : XK) (r : Result) (s' : Shared) : Prop :=
  match r with
  | .ok (.ret u) => CE outer P w H s Q u s'
  | .ok _ => False
  | .error e => CX outer H s E e s'
structure FnOk (P : Program) (w : World) (K : PySem.W.Frag) (mg : Str → Option Value) (base : Heap) (CX : CXT) (k : Nat) (f : Addr) (fd : FuncData) (ps : List Str) (sp : Sp) : Prop where
  len : ∀ vs H Q E, sp vs H Q E → vs.length = ps.length
  run : ∀ (A : Around) (outer : List Env) (s : Shared) (H : Hp) (args : Args) (us : List Value) (vs : List V) (Q : VK) (E : XK), Room k A → Env0 P w K mg base A outer s H → BindsTo s fd args (ps.zip us) → Vals vs us → sp vs H Q E →
    codeAny (model P w) A (.call (.ref f) args) (CR CX outer P w H s Q E) s
theorem FnOk.mono {P : Program} {w : World} {K : PySem.W.Frag} {mg : Str → Option Value} {base : Heap} {CX : CXT} {j k : Nat} {f : Addr} {fd : FuncData} {ps : List Str} {sp : Sp} (F : FnOk P w K mg base CX j f fd ps sp) (h : j ≤ k) :
    FnOk P w K mg base CX k f fd ps sp := ⟨F.len, fun A outer s H args us vs Q E hr => F.run A outer s H args us vs Q E (hr.mono h)⟩
/-- a weaker promise -/
theorem FnOk.imp {P : Program} {w : World} {K : PySem.W.Frag} {mg : Str → Option Value} {base : Heap} {CX : CXT} {k : Nat} {f : Addr} {fd : FuncData} {ps : List Str} {sp sp' : Sp} (F : FnOk P w K mg base CX k f fd ps sp)
    (h : ∀ vs H Q E, sp' vs H Q E → sp vs H Q E) : FnOk P w K mg base CX k f fd ps sp' :=
  ⟨fun vs H Q E q => F.len vs H Q E (h _ _ _ _ q), fun A outer s H args us vs Q E hr he hb hv hs => F.run A outer s H args us vs Q E hr he hb hv (h _ _ _ _ hs)⟩

theorem Env0.make {P : Program} {w : World} {K : PySem.W.Frag} {mg : Str → Option Value} {base : Heap} {A : Around} {outer : List Env} {s : Shared} {H : Hp} (e : Env0 P w K mg base A outer s H) (C : Addr) (us : List Value) (kw : List (Str × Value)) :
    Env0 P w K mg base (A.under (.builtin "type.__call__" ⟨.ref C :: us, kw⟩)) outer s H := ⟨by first | exact e.frames | (simpa [Around.under, Code.envs, Code.isFrame, pushEnvs] using e.frames), e.mod, e.bs, e.bsz, e.funs, e.frf, e.hok, e.bare⟩
theorem Env0.in1 {P : Program} {w : World} {K : PySem.W.Frag} {mg : Str → Option Value} {base : Heap} {A : Around} {outer : List Env} {s : Shared} {H : Hp} (e : Env0 P w K mg base A outer s H) :
    Env0 P w K mg base A.in1 outer s H := ⟨e.frames, e.mod, e.bs, e.bsz, e.funs, e.frf, e.hok, e.bare⟩

section
variable {X : Cx} {pins : List (Addr × Obj)} {σ : St} {H : Hp} {s s' : Shared}
/-- from a body: what a callee wants -/
theorem Inv.env0 (I : Inv X pins σ H s) : Env0 X.prog X.w X.K X.mg X.base X.A X.stack s H :=
  ⟨I.ok.frames, I.ok.mod, I.bs, Nat.le_trans I.ok.bsz I.sz, I.stack, I.stkFree, I.hok, I.bare⟩
/-- behind a call -/
theorem Inv.after {Q : VK} {u : Value} (I : Inv X pins σ H s) (h : CE X.stack X.prog X.w H s Q u s') : EP X pins σ Q u s' := by
  obtain ⟨v, H', os, bare, un, hok, r, q⟩ := h
  obtain ⟨hh, g, d, t, os'⟩ := s'
  obtain rfl : os' = s.os := os
  exact ⟨v, H', I.call (h' := hh) (g' := g) (d' := d) (t' := t) (ch := []) un hok bare (fun b z => absurd z (by simp)), r, q⟩
end

/-! ### calls -/
/-- f(..): the written arguments, then the defaults dvs; E: what is wanted of an exception -/
def tCall (sp : Sp) (dvs : List V) (E : XK) (t : TA) : TE := fun σ H Q => t σ H fun vs H1 => sp (vs ++ dvs) H1 Q E
/-- o.m(..) of an instance of the class at C -/
def tMeth (C : Addr) (m : Str) (sp : Sp) (dvs : List V) (E : XK) (ta : TE) (t : TA) : TE := fun σ H Q => ta σ H fun x H1 => ∃ a dx fs, x = .ref a ∧ H1 a = some (.ins C dx fs) ∧ fs.lookup m = none ∧
  t σ H1 fun vs H2 => sp (x :: (vs ++ dvs)) H2 Q E
/-- C(..): a new instance and its dict, then __init__ -/
def tMake (C : Addr) (sp : Sp) (dvs : List V) (E : XK) (t : TA) : TE := fun σ H Q => t σ H fun vs H1 => ∀ x dx, H1 x = none → H1 dx = none → dx ≠ x →
  sp (.ref x :: (vs ++ dvs)) (upd (upd H1 dx (.own x)) x (.ins C dx [])) (fun v H2 => v = .non ∧ Q (.ref x) H2) E

/-- how the parameters are bound: us the positional arguments, kw the keywords' values by name, ds the defaults that fill up -/
def Binds (K : PySem.W.Frag) (fd : FuncData) (ps : List Str) (ds : List Value) : Prop :=
  ∀ (s : Shared) (us : List Value), K.In s.heap → (us ++ ds).length = ps.length → BindsTo s fd ⟨us, []⟩ (ps.zip (us ++ ds))
/-- every parameter is given -/
theorem Binds.all {K : PySem.W.Frag} {fd : FuncData} {ps : List Str} (h : ∀ us : List Value, us.length = ps.length → bindArgs fd ⟨us, []⟩ = pure (ps.zip us)) : Binds K fd ps [] := fun s us _ hl => by
  rw [List.append_nil] at hl ⊢
  exact .of_eq (h us hl)

/-- an exception of a callee reaches what this body wants of exceptions -/
def Passes (CX : CXT) (X : Cx) (E : XK) : Prop := ∀ (pins : List (Addr × Obj)) (σ : St) (H : Hp) (s : Shared) (e : Value) (s' : Shared), Inv X pins σ H s → CX X.stack H s E e s' → X.xe e s'

section
variable {X : Cx} {CX : CXT} {k : Nat} {f C : Addr} {fd : FuncData} {ps : List Str} {sp : Sp} {dvs : List V} {ds : List Value} {E : XK} {x m : Str} {p pos apos : Pos} {e o : Expr} {es : List Expr} {ta : TE} {t : TA}

/-- the callee runs -/
theorem run_fn {pins : List (Addr × Obj)} {σ : St} {H : Hp} {s : Shared} {Q : VK} {us : List Value} {vs : List V} (F : FnOk X.prog X.w X.K X.mg X.base CX k f fd ps sp) (hr : Room k X.A) (hb : Binds X.K fd ps ds) (hd : Vals dvs ds) (hx : Passes CX X E)
    (I : Inv X pins σ H s) (r : Vals vs us) (h : sp (vs ++ dvs) H Q E) : wpAny (model X.prog X.w) X.A (call (.ref f) us) (EP X pins σ Q) X.xe s := by
  have r2 : Vals (vs ++ dvs) (us ++ ds) := r.append hd
  have hl : (us ++ ds).length = ps.length := by rw [← r2.length]; exact F.len _ _ _ _ h
  refine wpAny_call (codeAny_mono (F.run X.A X.stack s H ⟨us, []⟩ (us ++ ds) (vs ++ dvs) Q E hr I.env0 (hb s us I.kIn hl) r2 h) fun r s' hq => ?_)
  cases r with
  | error e => exact hx pins σ H s e s' I hq
  | ok fl =>
    cases fl with
    | ret u => exact I.after hq
    | next => exact False.elim hq
    | brk => exact False.elim hq
    | cont => exact False.elim hq

theorem pe_call (F : FnOk X.prog X.w X.K X.mg X.base CX k f fd ps sp) (hr : Room k X.A) (hg : Gl X x) (hm : X.mg x = some (.ref f)) (hk : PySem.W.keepIn X.K (.ref f) = true) (hb : Binds X.K fd ps ds) (hd : Vals dvs ds) (hx : Passes CX X E)
    (ha : PA X (e :: es) t) (hdb : (x == ("__debug__" : Str)) = false := by decide) (he : starEach (e :: es) X.env = (false, eval e X.env) :: starEach es X.env := by rfl) (hpl : (backTo pos (starEach es X.env)).any (·.1) = false := by rfl) :
    PE X (.Call (.Name x p) (e :: es) [] pos) (tCall sp dvs E t) := by
  intro pins s σ H Q I h
  refine wpAny_Call_Name_kw (ld_glob I hg hm ?_ hdb)
  refine PySem.W.callWith_K (h₀ := X.base) I.ok.mod.kin hk (thn (ha pos pins s σ H _ I h) fun us s1 ⟨vs, H1, I1, r, q⟩ => ⟨I1.kIn, ?_⟩) he hpl
  exact run_fn F hr hb hd hx I1 r q
theorem pe_call0 (F : FnOk X.prog X.w X.K X.mg X.base CX k f fd ps sp) (hr : Room k X.A) (hg : Gl X x) (hm : X.mg x = some (.ref f)) (hk : PySem.W.keepIn X.K (.ref f) = true) (hb : Binds X.K fd ps ds) (hd : Vals dvs ds) (hx : Passes CX X E)
    (hdb : (x == ("__debug__" : Str)) = false := by decide) : PE X (.Call (.Name x p) [] [] pos) (tCall sp dvs E tNil) := by
  intro pins s σ H Q I h
  refine wpAny_Call_Name_kw (ld_glob I hg hm ?_ hdb)
  exact PySem.W.callWith_K0 I.kIn hk (run_fn (us := []) F hr hb hd hx I .nil h)

/-- o.m(e, ..) -/
theorem pe_meth {pl : Sem Bool} (he : PE X o ta) (c : Cls X.K C) (hm : Meth X.K C m f) (F : FnOk X.prog X.w X.K X.mg X.base CX k f fd ps sp) (hr : Room k X.A) (hb : Binds X.K fd ps ds) (hd : Vals dvs ds) (hx : Passes CX X E) (ha : PA X (e :: es) t)
    (hst : starEach (e :: es) X.env = (false, eval e X.env) :: starEach es X.env := by rfl) (hpl : (backTo pos (starEach es X.env)).any (·.1) = false := by rfl)
    (ht : eval (.Call (.Attribute o m apos) (e :: es) [] pos) X.env = (do
      let ov ← eval o X.env
      standAt apos.atName
      let (f, first) ← holding [ov] (getMethod ov m pl)
      callWith pos f first (backTo pos (starEach (e :: es) X.env)) (backToKw pos (keywordEach [] X.env))) := by rfl) :
    PE X (.Call (.Attribute o m apos) (e :: es) [] pos) (tMeth C m sp dvs E ta t) := by
  intro pins s σ H Q I h
  refine PySem.W.methodCall_KW (pl := pl) (thn (he pins s σ H _ I h) fun u s1 ⟨x, H1, I1, rx, a, dx, fs, ex, ea, l, q⟩ => ?_) ht
  subst ex
  obtain rfl : u = Value.ref a := rx
  refine getmeth_ok I1 ea c hm l ?_
  refine PySem.W.callWith_K (first := [.ref a]) (h₀ := X.base) I.ok.mod.kin hm.kp (thn (ha pos pins s1 σ H1 _ I1 q) fun us s2 ⟨vs, H2, I2, r, q2⟩ => ⟨I2.kIn, ?_⟩) hst hpl
  exact run_fn (us := .ref a :: us) (vs := .ref a :: vs) F hr hb hd hx I2 (.cons rfl r) q2
/-- o.m() -/
theorem pe_meth0 {pl : Sem Bool} (he : PE X o ta) (c : Cls X.K C) (hm : Meth X.K C m f) (F : FnOk X.prog X.w X.K X.mg X.base CX k f fd ps sp) (hr : Room k X.A) (hb : Binds X.K fd ps ds) (hd : Vals dvs ds) (hx : Passes CX X E)
    (ht : eval (.Call (.Attribute o m apos) [] [] pos) X.env = (do
      let ov ← eval o X.env
      standAt apos.atName
      let (f, first) ← holding [ov] (getMethod ov m pl)
      callWith pos f first (backTo pos (starEach [] X.env)) (backToKw pos (keywordEach [] X.env))) := by rfl) :
    PE X (.Call (.Attribute o m apos) [] [] pos) (tMeth C m sp dvs E ta tNil) := by
  intro pins s σ H Q I h
  refine PySem.W.methodCall_KW (pl := pl) (thn (he pins s σ H _ I h) fun u s1 ⟨x, H1, I1, rx, a, dx, fs, ex, ea, l, q⟩ => ?_) ht
  subst ex
  obtain rfl : u = Value.ref a := rx
  refine getmeth_ok I1 ea c hm l ?_
  exact PySem.W.callWith_K0 (first := [.ref a]) I1.kIn hm.kp (run_fn (us := [.ref a]) (vs := [.ref a]) F hr hb hd hx I1 (.cons rfl .nil) q)

/-- what a class must have to be made -/
structure Mk (K : PySem.W.Frag) (C f : Addr) : Prop where
  makes : PySem.W.makesIn K C = true
  init : PySem.W.findIn K (.ref C) "__init__" = some (some (.ref f))
  fn : PySem.W.isFn K (.ref f) = true
  kp : PySem.W.keepIn K (.ref C) = true

theorem run_make {pins : List (Addr × Obj)} {σ : St} {H : Hp} {s : Shared} {Q : VK} {us : List Value} {vs : List V} (M : Mk X.K C f) (F : FnOk X.prog X.w X.K X.mg X.base CX k f fd ps sp) (hr : Room (k + 1) X.A) (hb : Binds X.K fd ps ds) (hd : Vals dvs ds)
    (hx : Passes CX X E) (I : Inv X pins σ H s) (r : Vals vs us)
    (h : ∀ x dx, H x = none → H dx = none → dx ≠ x → sp (.ref x :: (vs ++ dvs)) (upd (upd H dx (.own x)) x (.ins C dx [])) (fun v H2 => v = .non ∧ Q (.ref x) H2) E) :
    wpAny (model X.prog X.w) X.A (call (.ref C) us) (EP X pins σ Q) X.xe s := by
  have hq := h (s.heap.objs.size + 1) s.heap.objs.size (I.hok.fresh (Nat.le_succ _)) (I.hok.fresh (Nat.le_refl _)) (Nat.ne_of_lt (Nat.lt_succ_self _))
  have I2 := Inv.made (C := C) I
  have r2 : Vals (V.ref (s.heap.objs.size + 1) :: (vs ++ dvs)) (Value.ref (s.heap.objs.size + 1) :: (us ++ ds)) := .cons rfl (r.append hd)
  have hl : (Value.ref (s.heap.objs.size + 1) :: us ++ ds).length = ps.length := by
    have e := r2.length
    rw [F.len _ _ _ _ hq] at e
    exact e.symm
  refine wpAny_call (make_map (f := f) I.kIn M.makes M.init (beq_iff_eq.mp M.fn) (codeAny_mono (F.run _ X.stack _ _ ⟨Value.ref (s.heap.objs.size + 1) :: us, []⟩ (Value.ref (s.heap.objs.size + 1) :: (us ++ ds)) _ _ E (hr.make C us [])
    (I2.env0.make C us []) (hb _ (Value.ref (s.heap.objs.size + 1) :: us) I2.kIn hl) r2 hq) fun r s' hq' => ?_))
  cases r with
  | error e => exact hx pins σ _ _ e s' I2 hq'
  | ok fl =>
    cases fl with
    | ret u =>
      obtain ⟨v, H', I3, rv, ev, q3⟩ := I2.after hq'
      subst ev
      exact ⟨rv, ⟨V.ref (s.heap.objs.size + 1), H', I3, rfl, q3⟩⟩
    | next => exact False.elim hq'
    | brk => exact False.elim hq'
    | cont => exact False.elim hq'
theorem pe_make (M : Mk X.K C f) (F : FnOk X.prog X.w X.K X.mg X.base CX k f fd ps sp) (hr : Room (k + 1) X.A) (hg : Gl X x) (hm : X.mg x = some (.ref C)) (hb : Binds X.K fd ps ds) (hd : Vals dvs ds) (hx : Passes CX X E)
    (ha : PA X (e :: es) t) (hdb : (x == ("__debug__" : Str)) = false := by decide) (he : starEach (e :: es) X.env = (false, eval e X.env) :: starEach es X.env := by rfl) (hpl : (backTo pos (starEach es X.env)).any (·.1) = false := by rfl) :
    PE X (.Call (.Name x p) (e :: es) [] pos) (tMake C sp dvs E t) := by
  intro pins s σ H Q I h
  refine wpAny_Call_Name_kw (ld_glob I hg hm ?_ hdb)
  refine PySem.W.callWith_K (h₀ := X.base) I.ok.mod.kin M.kp (thn (ha pos pins s σ H _ I h) fun us s1 ⟨vs, H1, I1, r, q⟩ => ⟨I1.kIn, ?_⟩) he hpl
  exact run_make M F hr hb hd hx I1 r q
theorem pe_make0 (M : Mk X.K C f) (F : FnOk X.prog X.w X.K X.mg X.base CX k f fd ps sp) (hr : Room (k + 1) X.A) (hg : Gl X x) (hm : X.mg x = some (.ref C)) (hb : Binds X.K fd ps ds) (hd : Vals dvs ds) (hx : Passes CX X E)
    (hdb : (x == ("__debug__" : Str)) = false := by decide) : PE X (.Call (.Name x p) [] [] pos) (tMake C sp dvs E tNil) := by
  intro pins s σ H Q I h
  refine wpAny_Call_Name_kw (ld_glob I hg hm ?_ hdb)
  exact PySem.W.callWith_K0 I.kIn M.kp (run_make (us := []) M F hr hb hd hx I .nil h)
end

/-! ### keywords -/
/-- the values of the keywords, from the left -/
def PK (X : Cx) (kws : List Keyword) (t : TA) : Prop :=
  ∀ (pos : Pos) (pins : List (Addr × Obj)) (s : Shared) (σ : St) (H : Hp) (Q : List V → Hp → Prop), Inv X pins σ H s → t σ H Q → wpAny (model X.prog X.w) X.A (evalAll ((backToKw pos (keywordEach kws X.env)).map (·.2))) (AP X pins σ Q) X.xe s
section
variable {X : Cx} {CX : CXT} {k : Nat} {f C : Addr} {fd : FuncData} {ps ks : List Str} {sp : Sp} {E : XK} {x m : Str} {p pos apos kpos : Pos} {e o : Expr} {es : List Expr} {kws : List Keyword} {te ta : TE} {t tk : TA} {nm : Option Str}
theorem pk_nil : PK X [] tNil := fun _ _ _ _ H Q I h => wpAny_evalAll_nil ⟨[], H, I, .nil, h⟩
theorem pk_cons (ha : PE X e te) (hr : PK X kws t) : PK X (⟨nm, e, kpos⟩ :: kws) (tCons te t) := by
  intro pos pins s σ H Q I h
  show wpAny _ _ (evalAll ((do let v ← eval e X.env; standAt pos; pure v) :: (backToKw pos (keywordEach kws X.env)).map (·.2))) _ _ s
  refine wpAny_evalAll_cons (wpAny_bind (thn (ha pins s σ H _ I h) fun u s1 ⟨x, H1, I1, r1, q1⟩ => wpAny_bind (wpAny_standAt (wpAny_pure ?_))))
  exact thn (hr pos pins s1 σ H1 _ I1 q1) fun us s2 ⟨xs, H2, I2, r2, q2⟩ => ⟨x :: xs, H2, I2, .cons r1 r2, q2⟩

/-- how a call with keywords binds: g puts the positional values us and the keywords' values ws (names ks) in the parameters' order, defaults among them -/
structure KBinds (K : PySem.W.Frag) (fd : FuncData) (ps ks : List Str) (g : List Value → List Value → List Value) (gV : List V → List V → List V) : Prop where
  to : ∀ (s : Shared) (us ws : List Value), K.In s.heap → (g us ws).length = ps.length → BindsTo s fd ⟨us, ks.zip ws⟩ (ps.zip (g us ws))
  rel : ∀ {vs : List V} {us : List Value} {zs : List V} {ws : List Value}, Vals vs us → Vals zs ws → Vals (gV vs zs) (g us ws)
def tCallK (sp : Sp) (gV : List V → List V → List V) (E : XK) (t tk : TA) : TE := fun σ H Q => t σ H fun vs H1 => tk σ H1 fun zs H2 => sp (gV vs zs) H2 Q E
variable {g : List Value → List Value → List Value} {gV : List V → List V → List V}
theorem run_fnk {pins : List (Addr × Obj)} {σ : St} {H : Hp} {s : Shared} {Q : VK} {us ws : List Value} {vs zs : List V} (F : FnOk X.prog X.w X.K X.mg X.base CX k f fd ps sp) (hr : Room k X.A) (hb : KBinds X.K fd ps ks g gV) (hx : Passes CX X E)
    (I : Inv X pins σ H s) (r : Vals vs us) (rz : Vals zs ws) (h : sp (gV vs zs) H Q E) : wpAny (model X.prog X.w) X.A (call (.ref f) us (ks.zip ws)) (EP X pins σ Q) X.xe s := by
  have r2 := hb.rel r rz
  have hl : (g us ws).length = ps.length := by rw [← r2.length]; exact F.len _ _ _ _ h
  refine wpAny_call (codeAny_mono (F.run X.A X.stack s H ⟨us, ks.zip ws⟩ (g us ws) (gV vs zs) Q E hr I.env0 (hb.to s us ws I.kIn hl) r2 h) fun r s' hq => ?_)
  cases r with
  | error e => exact hx pins σ H s e s' I hq
  | ok fl =>
    cases fl with
    | ret u => exact I.after hq
    | next => exact False.elim hq
    | brk => exact False.elim hq
    | cont => exact False.elim hq
/-- f(e, .., k = v, ..) -/
theorem pe_callK (F : FnOk X.prog X.w X.K X.mg X.base CX k f fd ps sp) (hr : Room k X.A) (hg : Gl X x) (hm : X.mg x = some (.ref f)) (hk : PySem.W.keepIn X.K (.ref f) = true) (hb : KBinds X.K fd ps ks g gV) (hx : Passes CX X E)
    (ha : PA X (e :: es) t) (hkw : PK X kws tk) (hall : (backToKw pos (keywordEach kws X.env)).all (·.1.isSome) = true := by rfl) (hks : (backToKw pos (keywordEach kws X.env)).filterMap (·.1) = ks := by rfl)
    (hdb : (x == ("__debug__" : Str)) = false := by decide) (he : starEach (e :: es) X.env = (false, eval e X.env) :: starEach es X.env := by rfl)
    (hpl : ((backTo pos (starEach (e :: es) X.env)).any (·.1) || (backToKw pos (keywordEach kws X.env)).any (·.1.isNone)) = false := by rfl) :
    PE X (.Call (.Name x p) (e :: es) kws pos) (tCallK sp gV E t tk) := by
  intro pins s σ H Q I h
  refine wpAny_Call_Name_kw (ld_glob I hg hm ?_ hdb)
  refine PySem.W.callWith_KW (h₀ := X.base) I.ok.mod.kin hk hall (thn (ha pos pins s σ H _ I h) fun us s1 ⟨vs, H1, I1, r, q⟩ => ?_) hpl he
  refine thn (hkw pos pins s1 σ H1 _ I1 q) fun ws s2 ⟨zs, H2, I2, rz, q2⟩ => ⟨I2.kIn, ?_⟩
  rw [hks]
  exact run_fnk F hr hb hx I2 r rz q2
end

/-! ### a def's body keeps its promise -/
/-- names: the parameters first -/
structure FnScope (N P : List Str) (sc : Scope) : Prop where
  kind : sc.kind = .function
  co : sc.isCoroutine = false
  gen : sc.isGenerator = false
  nd : N.Nodup
  pre : N.take P.length = P
  par : ∀ x ∈ P, sc.names.lookup x = some .local ∨ sc.names.lookup x = some .cell
  nofree : ∀ y ∈ sc.names, y.2 ≠ .free

theorem bindL_out {kindOf : Str → Option NameKind} {x : Str} : ∀ {binds : List (Str × Value)} {m : Str → Option Value}, (∀ v, (x, v) ∉ binds) → bindL kindOf binds m x = m x
  | [], _, _ => rfl
  | (n, v) :: r, m, h => by
    unfold bindL
    rw [bindL_out fun w hw => h w (List.mem_cons_of_mem _ hw)]
    split
    · have : x ≠ n := by rintro rfl; exact h v List.mem_cons_self
      simp [this]
    · rfl
theorem bindC_out {kindOf : Str → Option NameKind} {x : Str} : ∀ {binds : List (Str × Value)} {m : Str → Option Value}, (∀ v, (x, v) ∉ binds) → bindC kindOf binds m x = m x
  | [], _, _ => rfl
  | (n, v) :: r, m, h => by
    unfold bindC
    rw [bindC_out fun w hw => h w (List.mem_cons_of_mem _ hw)]
    split
    · rfl
    · have : x ≠ n := by rintro rfl; exact h v List.mem_cons_self
      simp [this]
theorem bindL_get {kindOf : Str → Option NameKind} {x : Str} {v : Value} : ∀ {P : List Str} {vs : List Value} {i : Nat} {m : Str → Option Value}, P.Nodup → P[i]? = some x → vs[i]? = some v → kindOf x = some .local →
    bindL kindOf (P.zip vs) m x = some v
  | [], _, _, _, _, h, _, _ => by simp at h
  | _ :: _, [], _, _, _, _, h, _ => by simp at h
  | p :: P, w :: vs, 0, m, nd, h1, h2, hk => by
    simp at h1 h2; subst h1; subst h2
    show bindL kindOf ((p, w) :: P.zip vs) m p = _
    unfold bindL
    rw [bindL_out fun v hv => (List.nodup_cons.mp nd).1 (List.of_mem_zip hv).1, if_pos hk]
    simp
  | p :: P, w :: vs, i + 1, m, nd, h1, h2, hk => by
    show bindL kindOf ((p, w) :: P.zip vs) m x = _
    unfold bindL
    exact bindL_get (i := i) (List.nodup_cons.mp nd).2 (by simpa using h1) (by simpa using h2) hk
theorem bindC_get {kindOf : Str → Option NameKind} {x : Str} {v : Value} : ∀ {P : List Str} {vs : List Value} {i : Nat} {m : Str → Option Value}, P.Nodup → P[i]? = some x → vs[i]? = some v → kindOf x ≠ some .local →
    bindC kindOf (P.zip vs) m x = some v
  | [], _, _, _, _, h, _, _ => by simp at h
  | _ :: _, [], _, _, _, _, h, _ => by simp at h
  | p :: P, w :: vs, 0, m, nd, h1, h2, hk => by
    simp at h1 h2; subst h1; subst h2
    show bindC kindOf ((p, w) :: P.zip vs) m p = _
    unfold bindC
    rw [bindC_out fun v hv => (List.nodup_cons.mp nd).1 (List.of_mem_zip hv).1, if_neg hk]
    simp
  | p :: P, w :: vs, i + 1, m, nd, h1, h2, hk => by
    show bindC kindOf ((p, w) :: P.zip vs) m x = _
    unfold bindC
    exact bindC_get (i := i) (List.nodup_cons.mp nd).2 (by simpa using h1) (by simpa using h2) hk

/-- the names' values at the entry -/
def start (N : List Str) (vs : List V) : St := vs.map some ++ List.replicate (N.length - vs.length) none

/-- the context of a def's body, at its entry; an exception leaves the frame, then lies as CX says -/
def cxOf (CX : CXT) (P : Program) (w : World) (K : PySem.W.Frag) (mg : Str → Option Value) (base : Heap) (N : List Str) (qual : Str) (scope : Scope) (f : Addr) (cd : Value) (A : Around) (outer : List Env) (s : Shared) (H : Hp) (E : XK) : Cx where
  prog := P
  w := w
  K := K
  mg := mg
  base := base
  A := A.deeper (envOfC qual scope s.heap.objs.size f cd)
  N := N
  s₀ := s
  H₀ := H
  env := envOfC qual scope s.heap.objs.size f cd
  outer := outer
  stack := envOfC qual scope s.heap.objs.size f cd :: outer
  ex := []
  calm := true
  fn := fun _ => true
  pn := []
  xe := fun e s' => wpAny (model P w) (A.deeper (envOfC qual scope s.heap.objs.size f cd)) (leaving (envOfC qual scope s.heap.objs.size f cd) e) (fun _ s'' => CX outer H s E e s'') (fun e' s'' => CX outer H s E e' s'') s'

theorem cell_has {sc : Scope} {n : Nat} {x : Str} (h : sc.names.lookup x = some .cell) : ∃ c, (cellsFrom n sc.names []).lookup x = some c := by
  have q := PySem.W.cellsFrom_some sc.names n [] (.inl h)
  exact Option.isSome_iff_exists.mp q

theorem inv_start {CX : CXT} {P : Program} {w : World} {K : PySem.W.Frag} {mg : Str → Option Value} {base : Heap} {N ps : List Str} {qual : Str} {scope : Scope} {f : Addr} {cd : Value} {A : Around} {outer : List Env} {s s1 : Shared} {H : Hp} {E : XK} {us : List Value} {vs : List V}
    (S : FnScope N ps scope) (hd : A.handled = none) (e0 : Env0 P w K mg base A outer s H) (hl : vs.length = ps.length) (r : Vals vs us)
    (x : InCallC s s.heap.objs.size (bindL (envOfC qual scope s.heap.objs.size f cd).kindOf (ps.zip us) fun _ => none) (cellsFrom (s.heap.objs.size + 1) scope.names []) (bindC (envOfC qual scope s.heap.objs.size f cd).kindOf (ps.zip us) fun _ => none) s1) :
    Inv (cxOf CX P w K mg base N qual scope f cd A outer s H E) [] (start N vs) H s1 := by
  have hpl : ps.length ≤ N.length := by have := congrArg List.length S.pre; rw [List.length_take] at this; omega
  obtain ⟨h1, tk, rfl, hk⟩ := x.done
  have noA : ∀ b : Addr, b ∉ (cxOf CX P w K mg base N qual scope f cd A outer s H E).ex := fun b z => absurd (show b ∈ ([] : List Addr) from z) (by simp)
  refine ⟨⟨e0.mod, S.kind, rfl, rfl, Nat.le_refl _, fun y z c h1 h2 => ?_, fun y hy => ?_, fun y c _ h => ?_, fun _ => hd, Around.frames_deeper e0.frames, .inr ⟨rfl, rfl⟩, fun b z => absurd z (noA b), e0.bs, e0.bsz, fun b _ _ => noA b, fun b z => absurd z (noA b), e0.funs, e0.frf⟩,
    rfl, e0.bare, Un.kept hk, ⟨_, x.toInCall.ns, fun i y v h1 h2 h3 => ?_⟩, fun y c h => ⟨_, x.cell y c h⟩, e0.hok.fresh (Nat.le_refl _), fun y c h => ?_, fun p hp => absurd (show p ∈ ([] : List (Addr × Obj)) from hp) (by simp), e0.hok.kept hk, ?_⟩
  · exact name_of_addr x.apart (PySem.mem_of_lookup h1) (PySem.mem_of_lookup h2)
  · have hy : scope.names.lookup y = some .cell ∨ scope.names.lookup y = some .free := hy
    rcases hy with hy | hy
    · exact cell_has hy
    · exact absurd rfl (S.nofree _ (PySem.mem_of_lookup hy))
  · exact Nat.le_of_lt (x.above y c (PySem.mem_of_lookup h))
  · have hi : i < vs.length := by
      unfold start at h2
      by_cases hi : i < vs.length
      · exact hi
      · rw [List.getElem?_append_right (by simpa using hi)] at h2
        rw [List.getElem?_replicate] at h2
        split at h2 <;> cases h2
    have ha : vs[i]? = some v := by
      unfold start at h2
      rw [List.getElem?_append_left (by simpa using hi), List.getElem?_map] at h2
      cases e : vs[i]? with
      | none => rw [e] at h2; cases h2
      | some a => rw [e] at h2; cases h2; rfl
    obtain ⟨u, hu, rv⟩ := r.get ha
    have hp : ps[i]? = some y := by
      rw [← S.pre, List.getElem?_take_of_lt (by omega)]; exact h1
    have ndP : ps.Nodup := by rw [← S.pre]; exact S.nd.sublist (List.take_sublist _ _)
    refine ⟨u, rv, ?_⟩
    rcases S.par y (List.mem_of_getElem? hp) with k | k
    · exact .inl ⟨k, bindL_get ndP hp hu k⟩
    · obtain ⟨c, e⟩ := cell_has (n := s.heap.objs.size + 1) k
      refine .inr ⟨.inl k, c, e, ?_⟩
      have q := x.cell y c e
      rw [bindC_get ndP hp hu (by show scope.names.lookup y ≠ _; rw [k]; decide)] at q
      exact q
  · exact e0.hok.fresh (Nat.le_of_lt (x.above y c (PySem.mem_of_lookup h)))
  · unfold start
    show _ = N.length
    rw [List.length_append, List.length_map, List.length_replicate]
    omega

/-- THE RULE: a def (or a method) of the text, by its body. The body's reading t is chosen for each entry; it is run at the parameters' values -/
theorem fn_of {CX : CXT} {P : Program} {w : World} {K : PySem.W.Frag} {mg : Str → Option Value} {base : Heap} {k : Nat} {f : Addr} {name qual : Str} {params : Arguments} {body : List Stmt} {scope : Scope} {dV kV doc pm cdv ct oc : Value} {an od : Option Addr}
    {osl : Array (Option Value)} {N ps : List Str} {sp : Sp} (lk : K.lookup f = some ⟨oc, od, .func (PySem.W.fnOf name qual params body scope dV kV doc pm an cdv ct), osl⟩) (hcd : PySem.W.codeIn K cdv qual = true) (S : FnScope N ps scope)
    (len : ∀ vs H Q E, sp vs H Q E → vs.length = ps.length)
    (hbody : ∀ (A : Around) (outer : List Env) (s : Shared) (H : Hp) (vs : List V) (Q : VK) (E : XK), Room k (A.deeper (envOfC qual scope s.heap.objs.size f cdv)) → sp vs H Q E →
      ∃ t, PSs (cxOf CX P w K mg base N qual scope f cdv A outer s H E) body t ∧ t { nx := fun _ H' => Q .non H', rt := Q } (start N vs) H) :
    FnOk P w K mg base CX (k + 1) f (PySem.W.fnOf name qual params body scope dV kV doc pm an cdv ct) ps sp := by
  refine ⟨len, fun A outer s H args us vs Q E hr e0 hb r hsp => ?_⟩
  have hl := len _ _ _ _ hsp
  have KX : K.In s.heap := e0.mod.kin.keeps fun b o e => (e0.bs b o e).1
  have lim : s.heap.NoLimit := e0.mod.nolimit.keeps fun b o e => (e0.bs b o e).1
  have hkind : ∀ y ∈ ps.zip us, scope.names.lookup y.1 = some .local ∨ (scope.names.lookup y.1 = some .cell ∧ ((cellsFrom (s.heap.objs.size + 1) scope.names []).lookup y.1).isSome = true) := fun ⟨n, v⟩ hy => by
    rcases S.par n (List.of_mem_zip hy).1 with q | q
    · exact .inl q
    · exact .inr ⟨q, PySem.W.cellsFrom_some _ _ _ (.inl q)⟩
  refine codeAny_call_function hr.depth (KX _ _ lk) rfl S.co S.gen rfl (PySem.W.codeRec_of KX hcd) (hb _ _ _ _ ?_)
  refine wpAny_newFunctionEnv_cells S.kind hkind fun env he s1 x => ?_
  subst he
  refine ⟨lim.keeps x.toInCall.keep, codeAny_func ?_⟩
  obtain ⟨t, ht, hq⟩ := hbody A outer s H vs Q E (hr.deeper _) hsp
  have I : Inv (cxOf CX P w K mg base N qual scope f cdv A outer s H E) [] (start N vs) H s1 := inv_start S hr.hd e0 hl r x
  refine wpAny_mono (ht [] s1 (start N vs) H _ I hq) (fun fl s' hs => ?_) fun e s' hs => hs
  have fin : ∀ {σ' : St} {H' : Hp} {v : V} {u : Value}, Inv (cxOf CX P w K mg base N qual scope f cdv A outer s H E) [] σ' H' s' → RelV v u → Q v H' → CE outer P w H s Q u s' :=
    fun {σ' H' v u} J rv q => ⟨v, H', J.os, J.bare, J.base, J.hok, rv, q⟩
  cases fl with
  | ret u =>
    obtain ⟨v, σ', H', J, rv, q⟩ := hs
    exact fin J rv q
  | next =>
    obtain ⟨σ', H', J, q⟩ := hs
    exact fin (v := V.non) (u := Value.none) J rfl q
  | brk =>
    obtain ⟨_, _, _, q⟩ := hs
    exact False.elim q
  | cont =>
    obtain ⟨_, _, _, q⟩ := hs
    exact False.elim q
end L2

namespace L2
open PySem PySem.Spec PyProof.Rows
section
variable {X : Cx} {x : Str} {p pos : Pos} {e : Expr} {es : List Expr} {t : TA} {id T : String} {r : List V → Hp → VK → Prop}

def tCB (r : List V → Hp → VK → Prop) (t : TA) : TE := fun σ H Q => t σ H fun vs H1 => r vs H1 Q
/-- f(e, ..), f a built-in function -/
theorem pe_callB (hc : CallR X (.builtin id) r) (hg : Gl X x) (hm : X.mg x = none) (hv : bootBuiltins x = some (.builtin id)) (ha : PA X (e :: es) t) (hn : x ≠ "__name__" := by decide) (hdb : (x == ("__debug__" : Str)) = false := by decide)
    (he : starEach (e :: es) X.env = (false, eval e X.env) :: starEach es X.env := by rfl) (hpl : (backTo pos (starEach es X.env)).any (·.1) = false := by rfl) : PE X (.Call (.Name x p) (e :: es) [] pos) (tCB r t) := by
  intro pins s σ H Q I h
  refine wpAny_Call_Name_kw (ld_blt I hg hm hv ?_ hn hdb)
  exact PyProof.Rows.callWith_builtin1 (thn (ha pos pins s σ H _ I h) fun us s1 ⟨vs, H1, I1, r1, q1⟩ => hc pins s1 σ H1 vs us Q I1 r1 q1) he hpl
/-- T(e, ..), T a built-in type -/
theorem pe_callTy (hc : CallR X (.type T) r) (hg : Gl X x) (hm : X.mg x = none) (hv : bootBuiltins x = some (.type T)) (ha : PA X (e :: es) t) (hn : x ≠ "__name__" := by decide) (hdb : (x == ("__debug__" : Str)) = false := by decide)
    (he : starEach (e :: es) X.env = (false, eval e X.env) :: starEach es X.env := by rfl) (hpl : (backTo pos (starEach es X.env)).any (·.1) = false := by rfl) : PE X (.Call (.Name x p) (e :: es) [] pos) (tCB r t) := by
  intro pins s σ H Q I h
  refine wpAny_Call_Name_kw (ld_blt I hg hm hv ?_ hn hdb)
  exact PyProof.Rows.callWith_type1 (thn (ha pos pins s σ H _ I h) fun us s1 ⟨vs, H1, I1, r1, q1⟩ => hc pins s1 σ H1 vs us Q I1 r1 q1) he hpl
/-- T() -/
theorem pe_callTy0 (hc : CallR X (.type T) r) (hg : Gl X x) (hm : X.mg x = none) (hv : bootBuiltins x = some (.type T)) (hn : x ≠ "__name__" := by decide) (hdb : (x == ("__debug__" : Str)) = false := by decide) :
    PE X (.Call (.Name x p) [] [] pos) (tCB r tNil) := by
  intro pins s σ H Q I h
  refine wpAny_Call_Name_kw (ld_blt I hg hm hv ?_ hn hdb)
  exact PyProof.Rows.callWith_type0 (hc pins s σ H [] [] Q I .nil h)
end
end L2

namespace HT
open PySem PyProof.Rows

/-- t < u of tuples of ints -/
def lexLt : List Int → List Int → Bool
  | [], [] => false
  | [], _ :: _ => true
  | _ :: _, [] => false
  | x :: xs, y :: ys => if x = y then lexLt xs ys else decide (x < y)
theorem lexLt_cons (x y : Int) (xs ys : List Int) : lexLt (x :: xs) (y :: ys) = if x = y then lexLt xs ys else decide (x < y) := rfl
theorem lexLt_nil_nil : lexLt [] [] = false := rfl
theorem lexLt_nil_cons (y : Int) (ys : List Int) : lexLt [] (y :: ys) = true := rfl
theorem lexLt_cons_nil (x : Int) (xs : List Int) : lexLt (x :: xs) [] = false := rfl

theorem eqAt_int (A : Around) (s : Shared) (a : Int) (t : Tok) (c : Int) (u : Tok) : ∃ e, SeqAt.EqAt A s (.int a t) (.int c u) e ∧ (e = true ↔ a = c) :=
  ⟨(a == c), SeqAt.EqAt.int_int a t c u, by simp⟩
theorem rcLt_int (A : Around) (s : Shared) (a : Int) (t : Tok) (c : Int) (u : Tok) (prog : Program) (w : World) (E : Value → Shared → Prop) (Q : Value → Shared → Prop) (h : Q (.bool (decide (a < c))) s) :
    wpAny (model prog w) A (richCompare .Lt (.int a t) (.int c u)) Q E s :=
  (PyProof.Rows.lt_int h : wpAny (model prog w) A (compareOp .Lt (.int a t) (.int c u)) Q E s)

section
open PySem.SeqAt
open PySem.AutoSeq1 (wpAny_loadPart')
open PySem.MeetsSeq PySem.MeetsSeq2 PySem.MeetsSeq3

theorem tuple_lt_ints (l b : Addr) (items items2 : Array Value) (n n2 : Nat) (dd dd2 : Option Addr) (sl sl2 : Array (Option Value)) (ns ms : List Int) (hi : IntsAre items.toList ns) (hj : IntsAre items2.toList ms) :
    Meets (Builtin.«tuple.__lt__» ⟨[.ref l, .ref b], []⟩)
      (fun _ R s => s.heap.get? l = some { cls := .type "tuple", dict := dd, data := .seq items n, slots := sl } ∧ s.heap.get? b = some { cls := .type "tuple", dict := dd2, data := .seq items2 n2, slots := sl2 } ∧
        R (.ok (.ret (.bool (lexLt ns ms)))) s) :=
  .of_wp fun prog w A R s h => by
    obtain ⟨hp, g, d, tk, os⟩ := s; obtain ⟨hl, hb, h⟩ := h
    have f2 := AutoSeq1.sub_tuple_tuple
    have z1 : items.size = ns.length := by rw [← hi.length]; simp
    have z2 : items2.size = ms.length := by rw [← hj.length]; simp
    wp_walk using wpAny_loadPart' hl, wpAny_loadPart' hb, wpAny_forIn_list _ (fun rest b s' => b.1 = none ∧ s' = ⟨hp, g, d, tk, os⟩ ∧ ∃ (vs ws : List Value) (ns' ms' : List Int), rest = vs.zip ws ∧
      IntsAre vs ns' ∧ IntsAre ws ms' ∧ ns'.length + items2.size = ms'.length + items.size ∧ R (.ok (.ret (.bool (lexLt ns' ms')))) ⟨hp, g, d, tk, os⟩) _
    case turn =>
      rintro ⟨y, x⟩ rest b s' ⟨hb', rfl, vs, ws, ns', ms', hz, hvi, hwi, hlen, hR⟩
      cases hvi with
      | nil => rw [List.zip_nil_left] at hz; cases hz
      | cons a t hvi' =>
        cases hwi with
        | nil => rw [List.zip_nil_right] at hz; cases hz
        | cons c u hwi' =>
          rw [List.zip_cons_cons] at hz
          injection hz with hyx hrest
          injection hyx with hy hx
          subst hy hx
          rw [lexLt_cons] at hR
          simp only [List.length_cons] at hlen
          obtain ⟨e, he, hiff⟩ := eqAt_int A.in1 ⟨hp, g, d, tk, os⟩ a t c u
          refine wpAny_bind (he prog w _ _ ?_)
          cases e with
          | true =>
            rw [if_pos (hiff.mp rfl)] at hR
            wp_walk
            exact ⟨rfl, rfl, _, _, _, _, hrest, hvi', hwi', by omega, hR⟩
          | false =>
            rw [if_neg (fun q => absurd (hiff.mpr q) Bool.false_ne_true)] at hR
            have hri := rcLt_int A.in1 ⟨hp, g, d, tk, os⟩ a t c u prog w
            wp_walk using hri
            exact ⟨_, rfl, by simpa using hR⟩
    case fin =>
      rintro ⟨b1, b2⟩ s' ⟨hb', rfl, vs, ws, ns', ms', hz, hvi, hwi, hlen, hR⟩
      simp only at hb'
      subst hb'
      have hv : lexLt ns' ms' = decide (items.size < items2.size) := by
        cases hvi with
        | nil =>
          cases hwi with
          | nil =>
            simp only [List.length_nil] at hlen
            rw [lexLt_nil_nil]
            exact (decide_eq_false (by omega)).symm
          | cons c u hw =>
            simp only [List.length_nil, List.length_cons] at hlen
            rw [lexLt_nil_cons]
            exact (decide_eq_true (by omega)).symm
        | cons a t hv =>
          cases hwi with
          | nil =>
            simp only [List.length_nil, List.length_cons] at hlen
            rw [lexLt_cons_nil]
            exact (decide_eq_false (by omega)).symm
          | cons c u hw =>
            rw [List.zip_cons_cons] at hz
            cases hz
      rw [hv] at hR
      wp_walk
      exact ⟨_, rfl, by simpa [Builtin.Tuple.tupleCompareSizes] using hR⟩
    case h =>
      exact ⟨rfl, rfl, items.toList, items2.toList, ns, ms, rfl, hi, hj, by omega, h⟩
end

section
variable {prog : Program} {w : World} {A : Around} {E : Value → Shared → Prop} {s : Shared}

theorem lt_tupInts {l b : Addr} {items items2 : Array Value} {ns ms : List Int} {Q : Value → Shared → Prop} (hl : IsTup s.heap l items) (hb : IsTup s.heap b items2) (hi : IntsAre items.toList ns) (hj : IntsAre items2.toList ms)
    (hu : A.units < cLine) (h : Q (.bool (lexLt ns ms)) s) : wpAny (model prog w) A (compareOp .Lt (.ref l) (.ref b)) Q E s := by
  obtain ⟨⟨cls, dd, data, sl⟩, ho, hc, n, hd⟩ := id hl
  obtain ⟨⟨cls2, dd2, data2, sl2⟩, ho2, hc2, n2, hd2⟩ := id hb
  simp only at hc hd hc2 hd2
  subst hc hd hc2 hd2
  exact richCompare_meets_room (op := .Lt) ⟨_, ho, rfl⟩ ⟨_, ho2, rfl⟩ PySem.F.slot_tuple_lt PySem.F.entry_tuple_lt (PySem.F.args_tuple_lt_2 _ _) (tuple_lt_ints l b items items2 n n2 dd dd2 sl sl2 ns ms hi hj)
    ⟨ho, ho2, show Value.bool (lexLt ns ms) ≠ Value.notImplemented ∧ Q (.bool (lexLt ns ms)) s from ⟨(fun x => nomatch x), h⟩⟩ hu

/-- t + u, t not empty -/
theorem cat_tup {t b : Addr} {vs ws : List Value} {Q : Value → Shared → Prop} (ht : IsTup s.heap t vs.toArray) (hb : IsTup s.heap b ws.toArray) (hv : vs ≠ [])
    (h1 : ws = [] → Q (.ref t) s) (h2 : ws ≠ [] → Q (.ref s.heap.objs.size) { s with heap := s.heap.push { cls := .type "tuple", data := .seq (vs ++ ws).toArray } })
    (hsz : vs.length + ws.length ≤ sizeLine) : wpAny (model prog w) A (binaryOp .Add (.ref t) (.ref b)) Q E s := by
  obtain ⟨⟨cls, dd, data, sl⟩, ho, hc, n, hd⟩ := id ht
  obtain ⟨⟨cls2, dd2, data2, sl2⟩, ho2, hc2, n2, hd2⟩ := id hb
  simp only at hc hd hc2 hd2
  subst hc hd hc2 hd2
  have e : vs.toArray ++ ws.toArray = (vs ++ ws).toArray := by simp
  by_cases hw : ws = []
  · exact concat_meets ⟨_, ho, rfl⟩ ⟨_, ho2, rfl⟩ noFill_tuple_add seq_tuple_add PySem.F.slot_tuple_add PySem.F.entry_tuple_add (PySem.F.args_tuple_add_2 _ _)
      (tuple_addW1 t b vs.toArray ws.toArray n n2 dd dd2 sl sl2 (by simpa using hv) (by simp [hw])) ⟨ho, ho2, h1 hw⟩
  · refine concat_meets ⟨_, ho, rfl⟩ ⟨_, ho2, rfl⟩ noFill_tuple_add seq_tuple_add PySem.F.slot_tuple_add PySem.F.entry_tuple_add (PySem.F.args_tuple_add_2 _ _)
      (tuple_addW2 t b vs.toArray ws.toArray n n2 dd dd2 sl sl2 (by simpa using hv) (by simpa using hw) (by rw [List.size_toArray, List.size_toArray]; exact hsz)) ⟨ho, ho2, ?_⟩
    rw [e]
    exact h2 hw

/-! ### t[a:b], not the whole -/
/-- a slice's bound as a place among n (d where it is left out) -/
def sIx (n d : Nat) : Option Int → Nat
  | none => d
  | some v => if v < 0 then (v + (n : Int)).toNat else min v.toNat n
theorem sIx_none (n d : Nat) : sIx n d none = d := rfl
theorem sIx_nat (n d k : Nat) : sIx n d (some (k : Int)) = min k n := by
  show (if (k : Int) < 0 then ((k : Int) + (n : Int)).toNat else min (k : Int).toNat n) = min k n
  rw [if_neg (by omega), Int.toNat_natCast]
theorem sIx_le (n d : Nat) (hd : d ≤ n) (o : Option Int) : sIx n d o ≤ n := by
  cases o with
  | none => exact hd
  | some v =>
    show (if v < 0 then (v + (n : Int)).toNat else min v.toNat n) ≤ n
    by_cases hv : v < 0
    · rw [if_pos hv]; omega
    · rw [if_neg hv]; exact Nat.min_le_right _ _
theorem clip_eq (v : Int) (n d : Nat) : (if v < 0 then max (v + (n : Int)) 0 else min v (n : Int)) = ((sIx n d (some v) : Nat) : Int) := by
  show (if v < 0 then max (v + (n : Int)) 0 else min v (n : Int)) = (((if v < 0 then (v + (n : Int)).toNat else min v.toNat n) : Nat) : Int)
  by_cases hv : v < 0
  · simp only [if_pos hv]; omega
  · simp only [if_neg hv]; omega
theorem adjust_gen (lo hi : Option Int) (n : Nat) : Builtin.Slice.sliceAdjust lo hi 1 (n : Int) = (((sIx n 0 lo : Nat) : Int), ((sIx n n hi : Nat) : Int)) := by
  have h1 : ¬ ((1 : Int) < 0) := by omega
  unfold Builtin.Slice.sliceAdjust
  simp only [h1, if_false]
  refine Prod.ext ?_ ?_
  · cases lo with
    | none => rfl
    | some v => exact clip_eq v n 0
  · cases hi with
    | none => rfl
    | some v => exact clip_eq v n n
theorem places_gen (i j : Nat) : Builtin.Slice.slicePlaces (i : Int) (j : Int) 1 = j - i := by
  unfold Builtin.Slice.slicePlaces
  have h1 : (1 : Int) > 0 := by omega
  simp only [h1, if_true, Int.ediv_one]
  split <;> omega
theorem slicePart_ {v : Value} {o : Option Int} {Q : Option Int → Shared → Prop} (p : IsPart v o) (h : Q o s) : wpAny (model prog w) A (Builtin.Slice.slicePartIndex v) Q E s := by
  cases p with
  | none => exact slicePart_none h
  | int i t => exact slicePart_int h
theorem sliceApplied_gen {sl : Addr} {vl vu : Value} {lo hi : Option Int} {n : Nat} {Q : Int × Int × Nat → Shared → Prop} (hs : s.heap.IsSliceOf sl vl vu .none) (pl : IsPart vl lo) (pu : IsPart vu hi)
    (h : Q (((sIx n 0 lo : Nat) : Int), 1, sIx n n hi - sIx n 0 lo) s) : wpAny (model prog w) A (Builtin.Slice.sliceApplied (.ref sl) (pure (n : Int))) Q E s := by
  obtain ⟨os, hos, hcs, hds⟩ := id hs
  unfold Builtin.Slice.sliceApplied Builtin.Slice.sliceFields
  refine wpAny_bind (wpAny_bind (wpAny_field hos hds (x := vl) rfl (wpAny_bind (wpAny_field hos hds (x := vu) rfl (wpAny_bind (wpAny_field hos hds (x := .none) rfl (wpAny_pure ?_)))))))
  refine wpAny_bind (slicePart_none ?_)
  show wpAny _ _ (if ((1 : Int) == 0) = true then _ else _) _ _ s
  rw [if_neg (by decide)]
  refine wpAny_bind (slicePart_ pl (wpAny_bind (slicePart_ pu (wpAny_bind (wpAny_pure ?_)))))
  show wpAny _ _ (match Builtin.Slice.sliceAdjust lo hi 1 (n : Int) with | (lo, hi) => pure (lo, (1 : Int), Builtin.Slice.slicePlaces lo hi 1)) _ _ s
  rw [adjust_gen lo hi n]
  show wpAny _ _ (pure (((sIx n 0 lo : Nat) : Int), (1 : Int), Builtin.Slice.slicePlaces ((sIx n 0 lo : Nat) : Int) ((sIx n n hi : Nat) : Int) 1)) _ _ s
  rw [places_gen]
  exact wpAny_pure h
theorem pick_gen (xs : Array Value) (i k : Nat) : ((List.range k).filterMap fun (m : Nat) => xs[((i : Int) + (m : Int) * 1).toNat]?).toArray = ((xs.toList.drop i).take k).toArray := by
  have e : (fun (m : Nat) => xs[((i : Int) + (m : Int) * 1).toNat]?) = fun m => xs[i + m]? := by
    funext m
    have : ((i : Int) + (m : Int) * 1).toNat = i + m := by omega
    rw [this]
  rw [e]
  have := pick_run xs i k
  rw [List.filterMap_map] at this
  have e2 : ((fun x => xs[x]?) ∘ fun x => i + x) = fun m => xs[i + m]? := rfl
  rw [e2] at this
  rw [this]

theorem getItem_tuple_cut {t sl : Addr} {items : Array Value} {vl vu : Value} {lo hi : Option Int} {Q : Value → Shared → Prop} (ht : IsTup s.heap t items) (hs : s.heap.IsSliceOf sl vl vu .none) (pl : IsPart vl lo) (pu : IsPart vu hi)
    (hw : ¬ (sIx items.size 0 lo = 0 ∧ sIx items.size items.size hi = items.size))
    (h : Q (.ref s.heap.objs.size) { s with heap := s.heap.push { cls := .type "tuple", data := .seq ((items.toList.drop (sIx items.size 0 lo)).take (sIx items.size items.size hi - sIx items.size 0 lo)).toArray } })
    (hsz : items.size ≤ sizeLine) : wpAny (model prog w) A (getItem (.ref t) (.ref sl)) Q E s := by
  have htake : sizeOk (.seq ((items.toList.drop (sIx items.size 0 lo)).take (sIx items.size items.size hi - sIx items.size 0 lo)).toArray) := by
    show ((items.toList.drop (sIx items.size 0 lo)).take (sIx items.size items.size hi - sIx items.size 0 lo)).toArray.size ≤ sizeLine
    rw [List.size_toArray, List.length_take, List.length_drop, Array.length_toList]
    omega
  have hj : sIx items.size items.size hi ≤ items.size := sIx_le _ _ (Nat.le_refl _) hi
  obtain ⟨os, hos, hcs, hds⟩ := id hs
  have hTs : s.TypeIs (.ref sl) "slice" := ⟨os, hos, hcs⟩
  unfold getItem
  try with_reducible refine wpAny_holding ?_
  first | refine wpAny_bind (wpAny_pure ?_) | skip
  refine wpAny_bind (wpAny_sequenceKey ht.typeIs (by decide) ?_)
  refine wpAny_bind (wpAny_callSpecial?_slot (name := Str.ofString "__getitem__") ht.typeIs PyProof.Rows.slot_tuple_getitem
    (wpAny_call_entry PyProof.Rows.slot_tuple_getitem ht.typeIs entry_tuple_getitem ?_ (args_tuple_getitem _ _)))
  show wpAny _ _ (Builtin.Tuple.tupleItemsOf (.ref t) >>= _) _ _ s
  refine wpAny_bind (tupleItemsOf_ ht ?_)
  refine wpAny_bind (wpAny_typeOf hTs ?_)
  rw [if_pos (by decide)]
  refine wpAny_bind (sliceApplied_gen hs pl pu ?_)
  have hno : ¬ ((((sIx items.size 0 lo : Nat) : Int) == 0 && (1 : Int) == 1 && (sIx items.size items.size hi - sIx items.size 0 lo) == items.size) = true) := by
    intro q
    rw [Bool.and_eq_true, Bool.and_eq_true] at q
    have q1 : ((sIx items.size 0 lo : Nat) : Int) = 0 := eq_of_beq q.1.1
    have q2 : sIx items.size items.size hi - sIx items.size 0 lo = items.size := eq_of_beq q.2
    exact hw ⟨by omega, by omega⟩
  show wpAny _ _ (if (((sIx items.size 0 lo : Nat) : Int) == 0 && (1 : Int) == 1 && (sIx items.size items.size hi - sIx items.size 0 lo) == items.size) = true then _ else _) _ _ s
  rw [if_neg hno, pick_gen]
  first
    | exact wpAny_bind (m := Builtin.Tuple.tupleExact _) (wpAny_newObj_type (wpAny_pure ⟨_, rfl, wpAny_pure h⟩) htake)
    | exact wpAny_bind (m := Builtin.Tuple.tupleExact _) (wpAny_newObj_type (wpAny_bind (wpAny_pure (wpAny_pure ⟨_, rfl, wpAny_pure h⟩))) htake)
    | exact wpAny_bind (wpAny_bind (m := Builtin.Tuple.tupleExact _) (wpAny_newObj_type (wpAny_pure (wpAny_pure ⟨_, rfl, wpAny_pure h⟩)) htake))
    | exact wpAny_bind (wpAny_bind (m := Builtin.Tuple.tupleExact _) (wpAny_newObj_type (wpAny_pure ⟨_, rfl, wpAny_pure h⟩) htake))
end
end HT

namespace L2
open PySem PySem.Spec PyProof.Rows

/-! ### the parts of a slice -/
abbrev TO := St → Hp → (Option Int → Hp → Prop) → Prop
/-- a slice's part (left out, or an int) -/
def PO (X : Cx) (e : Option Expr) (t : TO) : Prop :=
  ∀ (pins : List (Addr × Obj)) (s : Shared) (σ : St) (H : Hp) (Q : Option Int → Hp → Prop), Inv X pins σ H s → t σ H Q →
    wpAny (model X.prog X.w) X.A (evalPart e X.env) (fun u s' => ∃ o H', Inv X pins σ H' s' ∧ IsPart u o ∧ Q o H') X.xe s
def tNoPart : TO := fun _ H Q => Q none H
def tPart (t : TE) : TO := fun σ H Q => t σ H fun x H1 => ∃ i, x = .int i ∧ Q (some i) H1

theorem intsAre_of {ns : List Int} : ∀ {us : List Value}, Vals (ns.map V.int) us → IntsAre us ns := by
  induction ns with
  | nil => intro us r; rw [List.map_nil] at r; cases r; exact .nil
  | cons n ns ih =>
    intro us r
    rw [List.map_cons] at r
    cases r with
    | cons r1 r2 =>
      obtain ⟨t, e⟩ := r1
      subst e
      exact .cons n t (ih r2)

section
variable {X : Cx} {e : Expr} {te : TE} {lo hi : Option Expr} {tl th : TO} {pos p2 : Pos}

theorem po_none : PO X none tNoPart := by
  intro pins s σ H Q I h
  rw [evalPart_none]
  exact wpAny_pure ⟨none, H, I, .none, h⟩
theorem po_some (h : PE X e te) : PO X (some e) (tPart te) := by
  intro pins s σ H Q I hw
  rw [evalPart_some]
  refine thn (h pins s σ H _ I hw) fun u s1 ⟨x, H1, I1, r1, q1⟩ => ?_
  obtain ⟨i, rfl, q⟩ := q1
  obtain ⟨t, rfl⟩ := r1
  exact ⟨some i, H1, I1, .int i t, q⟩

/-- what a slice of a value is, by values: the slice object stands at sl -/
def SlR (X : Cx) (r : V → Option Int → Option Int → Hp → VK → Prop) : Prop :=
  ∀ (pins : List (Addr × Obj)) (s : Shared) (σ : St) (H : Hp) (x : V) (v vl vu : Value) (lo hi : Option Int) (sl : Addr) (Q : VK), Inv X pins σ H s → RelV x v → s.heap.IsSliceOf sl vl vu .none → IsPart vl lo → IsPart vu hi → r x lo hi H Q →
    ∃ T id, typeLookup (.type T) "__getitem__" = pure (some (.builtin id)) ∧ s.TypeIs v T ∧ wpAny (model X.prog X.w) X.A (getItem v (.ref sl)) (EP X pins σ Q) X.xe s
theorem SlR.or {r r' : V → Option Int → Option Int → Hp → VK → Prop} (h : SlR X r) (h' : SlR X r') : SlR X (fun x lo hi H Q => r x lo hi H Q ∨ r' x lo hi H Q) := by
  intro pins s σ H x v vl vu lo hi sl Q I rx hs pl pu q
  rcases q with q | q
  · exact h pins s σ H x v vl vu lo hi sl Q I rx hs pl pu q
  · exact h' pins s σ H x v vl vu lo hi sl Q I rx hs pl pu q
def tSl (r : V → Option Int → Option Int → Hp → VK → Prop) (te : TE) (tl th : TO) : TE := fun σ H Q => te σ H fun x H1 => tl σ H1 fun l H2 => th σ H2 fun u H3 => r x l u H3 Q
/-- a[lo:hi], any a -/
theorem pe_slice {r : V → Option Int → Option Int → Hp → VK → Prop} (hr : SlR X r) (he : PE X e te) (hl : PO X lo tl) (hu : PO X hi th) : PE X (.Subscript e (.Slice lo hi none p2) pos) (tSl r te tl th) := by
  intro pins s σ H Q I h
  refine Subscript_ (thn (he pins s σ H _ I h) fun v s1 ⟨x, H1, I1, r1, q1⟩ => ?_)
  refine wpAny_Slice (thn (hl pins s1 σ H1 _ I1 q1) fun vl s2 ⟨l, H2, I2, pl, q2⟩ => thn (hu pins s2 σ H2 _ I2 q2) fun vu s3 ⟨u, H3, I3, pu, q3⟩ => ?_)
  rw [evalPart_none]
  refine wpAny_pure ?_
  have I4 : Inv X pins σ H3 { s3 with heap := s3.heap.push { cls := .type "slice", data := .fields #[vl, vu, .none] } } := I3.kept (t' := s3.toks) fun b ob q => Heap.get?_push_of_some _ q
  obtain ⟨T, id, hT, ht, hg⟩ := hr pins { s3 with heap := s3.heap.push { cls := .type "slice", data := .fields #[vl, vu, .none] } } σ H3 x v vl vu l u s3.heap.objs.size Q I4 r1 (Heap.IsSliceOf.new ..) pl pu q3
  show wpAny (model X.prog X.w) X.A (subscriptTail e (.Slice lo hi none p2) v (.ref s3.heap.objs.size)) (EP X pins σ Q) X.xe { s3 with heap := s3.heap.push { cls := .type "slice", data := .fields #[vl, vu, .none] } }
  exact tail_any (ops := [.ref s3.heap.objs.size, v]) ht hT hg (by with_unfolding_all rfl)

/-- the items of xs[lo:hi] -/
def cutV (xs : List V) (lo hi : Option Int) : List V := (xs.drop (HT.sIx xs.length 0 lo)).take (HT.sIx xs.length xs.length hi - HT.sIx xs.length 0 lo)
theorem cutV_length (xs : List V) (lo hi : Option Int) : (cutV xs lo hi).length ≤ xs.length := by
  unfold cutV
  rw [List.length_take, List.length_drop]
  omega
/-- t[lo:hi], not the whole of it (the whole would be t itself) -/
def rSlT (K : PySem.W.Frag) : V → Option Int → Option Int → Hp → VK → Prop := fun x lo hi H Q => ∃ a xs, x = .ref a ∧ SqT K H a xs ∧
  ¬ (HT.sIx xs.length 0 lo = 0 ∧ HT.sIx xs.length xs.length hi = xs.length) ∧ ∀ p, H p = none → Q (.ref p) (upd H p (.tup (cutV xs lo hi)))
theorem sl_tup : SlR X (rSlT X.K) := by
  intro pins s σ H x v vl vu lo hi sl Q I rx hs pl pu h
  obtain ⟨a, xs, rfl, hx, hw, q⟩ := h
  cases rx
  obtain ⟨its, r, ht, hz⟩ := I.tuple hx
  have hlen : its.toArray.size = xs.length := by rw [List.size_toArray]; exact r.length.symm
  refine ⟨"tuple", _, PyProof.Rows.slot_tuple_getitem.lookup, ht.typeIs, ?_⟩
  refine HT.getItem_tuple_cut ht hs pl pu (by rw [hlen]; exact hw) ?_ (by rw [hlen]; exact hz)
  rw [hlen]
  refine ⟨.ref s.heap.objs.size, _, I.laid (t' := s.toks) (o := .tup (cutV xs lo hi)) (fun b ob q => Heap.get?_push_of_some _ q) (Nat.le_refl _) ?_, rfl, q _ (I.hok.fresh (Nat.le_refl _))⟩
  exact ⟨Nat.le_trans (cutV_length xs lo hi) hz, _, (r.drop (HT.sIx xs.length 0 lo)).take (HT.sIx xs.length xs.length hi - HT.sIx xs.length 0 lo), IsTup.new _ _⟩

/-! ### t < u, t + u -/
def rLtT (K : PySem.W.Frag) : R2 := fun x y H Q => ∃ a b ns ms, x = .ref a ∧ y = .ref b ∧ SqT K H a (ns.map V.int) ∧ SqT K H b (ms.map V.int) ∧ Q (.bl (HT.lexLt ns ms)) H
theorem op_ltT (hu : X.A.units < cLine) : OpR X (compareOp .Lt) (rLtT X.K) := by
  intro pins s σ H x y v u Q I rx ry h
  obtain ⟨a, b, ns, ms, rfl, rfl, ha, hb, q⟩ := h
  cases rx
  cases ry
  obtain ⟨its, r1, p1, _⟩ := I.tuple ha
  obtain ⟨its2, r2, p2, _⟩ := I.tuple hb
  have i1 : IntsAre its.toArray.toList ns := intsAre_of r1
  have i2 : IntsAre its2.toArray.toList ms := intsAre_of r2
  exact HT.lt_tupInts p1 p2 i1 i2 hu ⟨.bl (HT.lexLt ns ms), H, I, rfl, q⟩
/-- t + u, t not empty: u empty gives t itself -/
def rCatT (K : PySem.W.Frag) : R2 := fun x y H Q => ∃ a b xs ys, x = .ref a ∧ y = .ref b ∧ SqT K H a xs ∧ SqT K H b ys ∧ xs ≠ [] ∧ xs.length + ys.length ≤ sizeLine ∧
  (ys = [] → Q (.ref a) H) ∧ (ys ≠ [] → ∀ p, H p = none → Q (.ref p) (upd H p (.tup (xs ++ ys))))
theorem Vals.nil_iff {xs : List V} {us : List Value} (r : Vals xs us) : us = [] ↔ xs = [] := by
  cases r with
  | nil => simp
  | cons _ _ => simp
theorem op_catT : OpR X (binaryOp .Add) (rCatT X.K) := by
  intro pins s σ H x y v u Q I rx ry h
  obtain ⟨a, b, xs, ys, rfl, rfl, ha, hb, hx, hz, q1, q2⟩ := h
  cases rx
  cases ry
  obtain ⟨its, r1, p1, _⟩ := I.tuple ha
  obtain ⟨its2, r2, p2, _⟩ := I.tuple hb
  refine HT.cat_tup p1 p2 (fun z => hx (r1.nil_iff.mp z)) (fun z => ⟨.ref a, H, I, rfl, q1 (r2.nil_iff.mp z)⟩) (fun z => ?_) (by rw [← r1.length, ← r2.length]; exact hz)
  refine ⟨.ref s.heap.objs.size, _, I.laid (t' := s.toks) (o := .tup (xs ++ ys)) (fun b ob q => Heap.get?_push_of_some _ q) (Nat.le_refl _) ?_, rfl, q2 (fun w => z (r2.nil_iff.mpr w)) _ (I.hok.fresh (Nat.le_refl _))⟩
  exact ⟨by rw [List.length_append]; exact hz, _, r1.append r2, IsTup.new _ _⟩
/-- tuple(t) -/
theorem call_tupleT : CallR X (.type "tuple") (fun xs H Q => ∃ a ys, xs = [.ref a] ∧ SqT X.K H a ys ∧ Q (.ref a) H) := by
  intro pins s σ H xs us Q I r h
  obtain ⟨a, ys, rfl, ha, q⟩ := h
  obtain ⟨u, rfl, ru⟩ := vals1 r
  cases ru
  obtain ⟨its, _, p1, _⟩ := I.tuple ha
  exact call_tuple_same (items := its.toArray) p1 ⟨.ref a, H, I, rfl, q⟩
end
end L2

namespace L2
open PySem PySem.Spec PyProof.Rows

/-! ### places -/
/-- the place that an index of any sign means -/
def ixN (n : Nat) (i : Int) : Option Nat := if 0 ≤ i then (if i < n then some i.toNat else none) else if -(n : Int) ≤ i then some (i + n).toNat else none
def atI {α : Type} (xs : List α) (i : Int) : Option α := (ixN xs.length i).bind fun j => xs[j]?
theorem ixN_seq {n : Nat} {i : Int} {j : Nat} (h : ixN n i = some j) : seqIndex? i n = some j ∧ j < n ∧ -(n : Int) ≤ i ∧ i < n := by
  unfold ixN at h
  by_cases h0 : 0 ≤ i
  · rw [if_pos h0] at h
    by_cases h1 : i < n
    · rw [if_pos h1] at h
      have e : i.toNat = j := Option.some.inj h
      exact ⟨by rw [seqIndex_of h0 h1, e], by omega, by omega, h1⟩
    · rw [if_neg h1] at h; cases h
  · rw [if_neg h0] at h
    by_cases h1 : -(n : Int) ≤ i
    · rw [if_pos h1] at h
      have e : (i + n).toNat = j := Option.some.inj h
      exact ⟨by rw [seqIndex_neg (by omega) h1, e], by omega, h1, by omega⟩
    · rw [if_neg h1] at h; cases h
theorem atI_get {α : Type} {xs : List α} {i : Int} {v : α} (h : atI xs i = some v) : ∃ j, seqIndex? i xs.length = some j ∧ xs[j]? = some v ∧ j < xs.length ∧ -(xs.length : Int) ≤ i ∧ i < xs.length := by
  unfold atI at h
  cases e : ixN xs.length i with
  | none => rw [e] at h; cases h
  | some j =>
    rw [e] at h
    obtain ⟨h1, h2, h3, h4⟩ := ixN_seq e
    exact ⟨j, h1, h, h2, h3, h4⟩
theorem atI_nat {α : Type} {xs : List α} {j : Nat} {v : α} (h : xs[j]? = some v) : atI xs (j : Int) = some v := by
  have hj : j < xs.length := (List.getElem?_eq_some_iff.mp h).1
  have e : ixN xs.length (j : Int) = some j := by
    unfold ixN
    rw [if_pos (by omega), if_pos (by omega)]; simp
  unfold atI; rw [e]; exact h
theorem atI_last {α : Type} (xs : List α) (v : α) : atI (xs ++ [v]) (-1) = some v := by
  have hl : (xs ++ [v]).length = xs.length + 1 := by simp
  have e : ixN (xs ++ [v]).length (-1) = some xs.length := by
    unfold ixN
    rw [hl, if_neg (by decide), if_pos (by omega)]
    congr 1
    omega
  unfold atI
  rw [e]
  show (xs ++ [v])[xs.length]? = some v
  simp

/-! ### what may be subscripted -/
/-- what stands as an index of a plain subscript -/
def PlainIx (b : Expr) : Prop := ∀ o i, subscripted b false o i = operate [o, i] (getItem o i)
/-- a subscript by values -/
def IxR (X : Cx) (r : R2) : Prop :=
  ∀ (value slice : Expr) (pins : List (Addr × Obj)) (s : Shared) (σ : St) (H : Hp) (x y : V) (v u : Value) (Q : VK), Inv X pins σ H s → RelV x v → RelV y u → r x y H Q →
    subscripted slice false v u = operate [v, u] (getItem v u) → wpAny (model X.prog X.w) X.A (subscriptTail value slice v u) (EP X pins σ Q) X.xe s
/-- a call of a builtin's method by values: the receiver, the arguments -/
def MtR (X : Cx) (id : String) (r : V → List V → Hp → VK → Prop) : Prop :=
  ∀ (pins : List (Addr × Obj)) (s : Shared) (σ : St) (H : Hp) (x : V) (xs : List V) (v : Value) (us : List Value) (Q : VK), Inv X pins σ H s → RelV x v → Vals xs us → r x xs H Q →
    wpAny (model X.prog X.w) X.A (call (.builtin id) (v :: us)) (EP X pins σ Q) X.xe s
section
variable {X : Cx} {a b : Expr} {ta tb : TE} {pos : Pos}
theorem IxR.or {r r' : R2} (h : IxR X r) (h' : IxR X r') : IxR X (fun x y H Q => r x y H Q ∨ r' x y H Q) := by
  intro value slice pins s σ H x y v u Q I rx ry q hs
  rcases q with q | q
  · exact h value slice pins s σ H x y v u Q I rx ry q hs
  · exact h' value slice pins s σ H x y v u Q I rx ry q hs
theorem MtR.or {id : String} {r r' : V → List V → Hp → VK → Prop} (h : MtR X id r) (h' : MtR X id r') : MtR X id (fun x xs H Q => r x xs H Q ∨ r' x xs H Q) := by
  intro pins s σ H x xs v us Q I rx rs q
  rcases q with q | q
  · exact h pins s σ H x xs v us Q I rx rs q
  · exact h' pins s σ H x xs v us Q I rx rs q
/-- a[b] -/
theorem pe_ix {r : R2} (hr : IxR X r) (ha : PE X a ta) (hb : PE X b tb) (hs : PlainIx b) : PE X (.Subscript a b pos) (tOp r ta tb) := by
  intro pins s σ H Q I h
  exact Subscript_ (binT ha hb I h fun v u s2 x y H2 I2 rx ry q => hr a b pins s2 σ H2 x y v u Q I2 rx ry q (hs _ _))

def rIxL (K : PySem.W.Frag) : R2 := fun x y H Q => ∃ p xs i v, x = .ref p ∧ y = .int i ∧ SqL K H p xs ∧ atI xs i = some v ∧ Q v H
def rIxT (K : PySem.W.Frag) : R2 := fun x y H Q => ∃ p xs i v, x = .ref p ∧ y = .int i ∧ SqT K H p xs ∧ atI xs i = some v ∧ Q v H
def rIxS : R2 := fun x y H Q => ∃ z i c, x = .str z ∧ y = .int i ∧ z.length ≤ sizeLine ∧ atI z.cps.toList i = some c ∧ Q (.str ⟨#[c]⟩) H
theorem ix_list : IxR X (rIxL X.K) := by
  intro value slice pins s σ H x y v u Q I rx ry h hs
  obtain ⟨p, xs, i, z, rfl, rfl, hq, he, q⟩ := h
  cases rx
  obtain ⟨t, rfl⟩ := ry
  obtain ⟨its, r, pl, hz⟩ := I.list hq
  obtain ⟨j, h1, h2, h3, h4, h5⟩ := atI_get he
  obtain ⟨w, ew, rw'⟩ := r.get h2
  have hl := r.length
  have hn := line63
  have fin : EP X pins σ Q w s := ⟨z, H, I, rw', q⟩
  by_cases h0 : 0 ≤ i
  · have hj : i.toNat = j := by
      rw [seqIndex_of h0 h5] at h1
      exact Option.some.inj h1
    exact item_listR pl.isList h0 (by omega) (by rw [hj]; simpa using ew) fin hs
  · have hj : (i + (its.toArray.size : Int)).toNat = j := by
      rw [seqIndex_neg (by omega) h4] at h1
      rw [List.size_toArray, ← hl]
      exact Option.some.inj h1
    exact subscriptTail_builtinR (x := w) pl.isList.typeIs slot_list_getitem.lookup
      (wpAny_getItem_list_neg (Q := fun r s' => r = w ∧ EP X pins σ Q r s') pl.isList (by omega) (by rw [List.size_toArray] <;> omega) (by omega) (by rw [hj]; simpa using ew) ⟨rfl, fin⟩) hs
theorem ix_tup : IxR X (rIxT X.K) := by
  intro value slice pins s σ H x y v u Q I rx ry h hs
  obtain ⟨p, xs, i, z, rfl, rfl, hq, he, q⟩ := h
  cases rx
  obtain ⟨t, rfl⟩ := ry
  obtain ⟨its, r, pl, hz⟩ := I.tuple hq
  obtain ⟨j, h1, h2, h3, h4, h5⟩ := atI_get he
  obtain ⟨w, ew, rw'⟩ := r.get h2
  have hl := r.length
  have hn := line63
  have fin : EP X pins σ Q w s := ⟨z, H, I, rw', q⟩
  exact subscriptTail_builtinR (x := w) pl.typeIs slot_tuple_getitem.lookup
    (getItem_tuple (j := j) (Q := fun r s' => r = w ∧ EP X pins σ Q r s') pl (by omega) (by omega) (by rw [List.size_toArray, ← hl]; exact h1) (by simpa using ew) ⟨rfl, fin⟩) hs
theorem ix_str : IxR X rIxS := by
  intro value slice pins s σ H x y v u Q I rx ry h hs
  obtain ⟨z, i, c, rfl, rfl, hz, he, q⟩ := h
  obtain ⟨t, rfl⟩ := rx
  obtain ⟨t', rfl⟩ := ry
  obtain ⟨j, h1, h2, h3, h4, h5⟩ := atI_get he
  have hl : z.cps.toList.length = z.length := by simp [Str.length]
  rw [hl] at h1 h4 h5
  have hn := line63
  exact tail_any (typeIs_str s z t) slot_str_getitem.lookup (getItem_str (c := c) (by
    have e1 : decide (i < -(2 ^ 63 : Int)) = false := decide_eq_false (by omega)
    have e2 : decide (i ≥ 2 ^ 63) = false := decide_eq_false (by omega)
    rw [e1, e2, Bool.or_false]) (by rw [h1]; simpa using h2) ⟨.str ⟨#[c]⟩, H, I.tok _, ⟨_, rfl⟩, q⟩) hs
/-- list, tuple or str -/
def rIx (K : PySem.W.Frag) : R2 := fun x y H Q => rIxL K x y H Q ∨ rIxT K x y H Q ∨ rIxS x y H Q
theorem ix_seq : IxR X (rIx X.K) := ix_list.or (ix_tup.or ix_str)

/-! ### xs[i] = v, any sign -/
/-- the list's object behind a store -/
theorem mapSeq_set (its : List Value) (n j : Nat) (u : Value) : Obj.mapSeq (·.setIfInBounds j u) { cls := .type "list", data := .seq its.toArray n } = { cls := .type "list", data := .seq (its.set j u).toArray n } := by
  simp [Obj.mapSeq]
theorem Inv.lst {pins : List (Addr × Obj)} {σ : St} {H : Hp} {s : Shared} {p : Addr} {xs : List V} (I : Inv X pins σ H s) (h : H p = some (.lst xs)) :
    ∃ (its : List Value) (n : Nat), Vals xs its ∧ s.heap.get? p = some { cls := .type "list", data := .seq its.toArray n } ∧ xs.length ≤ sizeLine := by
  obtain ⟨z, its, n, r, e⟩ := I.hok p _ h
  exact ⟨its, n, r, e, z⟩
/-- the list at p is written by an update of its object -/
theorem Inv.lstUpd {pins : List (Addr × Obj)} {σ : St} {H : Hp} {s : Shared} {p : Addr} {xs ys : List V} {its its' : List Value} {n n' : Nat} {f : Obj → Obj} (I : Inv X pins σ H s) (h : H p = some (.lst xs))
    (ho : s.heap.get? p = some { cls := .type "list", data := .seq its.toArray n }) (hf : f { cls := .type "list", data := .seq its.toArray n } = { cls := .type "list", data := .seq its'.toArray n' }) (r : Vals ys its') (hz : ys.length ≤ sizeLine) (t : Nat) :
    Inv X pins σ (upd H p (.lst ys)) { s with heap := s.heap.update p f, toks := t } := by
  have e : (s.heap.update p f).get? p = some { cls := .type "list", data := .seq its'.toArray n' } := by
    rw [Heap.get?_update_self f ho (by rw [hf] <;> rfl), hf]
  refine I.write (x := p) (e := p) (by rw [h]; trivial) (.inl rfl) (fun b u hb q => (Heap.get?_update_other _ _ (Ne.symm hb)).trans q) ⟨_, e⟩ ?_
  exact ⟨hz, its', n', r, e⟩
def rSetL : V → V → V → Hp → (Hp → Prop) → Prop := fun o i v H Q => ∃ p xs k j, o = .ref p ∧ i = .int k ∧ H p = some (.lst xs) ∧ ixN xs.length k = some j ∧ Q (upd H p (.lst (xs.set j v)))
theorem set_list : PSet X rSetL := by
  intro pins s σ H o i v ov iv u Q I ro ri rv h
  obtain ⟨p, xs, k, j, rfl, rfl, hp, hj, q⟩ := h
  cases ro
  obtain ⟨t, rfl⟩ := ri
  obtain ⟨its, n, r, ho, hz⟩ := I.lst hp
  obtain ⟨h1, h2, h3, h4⟩ := ixN_seq hj
  have hl := r.length
  have hn := line63
  have I' : Inv X pins σ (upd H p (.lst (xs.set j v))) { s with heap := s.heap.update p (Obj.mapSeq (·.setIfInBounds j u)) } :=
    I.lstUpd hp ho (mapSeq_set its n j u) (r.set rv j) (by rw [List.length_set]; exact hz) s.toks
  by_cases h0 : 0 ≤ k
  · have hk : k.toNat = j := by
      rw [seqIndex_of h0 h4] at h1
      exact Option.some.inj h1
    exact PySem.W.ki_setAt ho h0 (by omega) (by rw [List.size_toArray, ← hl]; exact h4) (by rw [hk]; exact ⟨_, I', q⟩)
  · have hk : (k + (its.toArray.size : Int)).toNat = j := by
      rw [seqIndex_neg (by omega) h3] at h1
      rw [List.size_toArray, ← hl]
      exact Option.some.inj h1
    exact PySem.W.ki_setBack ho (by omega) (by rw [List.size_toArray, ← hl]; exact h3) (by omega) (by rw [hk]; exact ⟨_, I', q⟩)

/-! ### slices -/
theorem slice_bounds (lo hi : Option Int) (n : Nat) : (sliceBounds lo hi none n).1 = ((HT.sIx n 0 lo : Nat) : Int) ∧ (sliceBounds lo hi none n).2.1 = ((HT.sIx n n hi : Nat) : Int) ∧ (sliceBounds lo hi none n).2.2 = 1 := by
  refine ⟨?_, ?_, rfl⟩
  · cases lo with
    | none => simp [sliceBounds, HT.sIx]
    | some i =>
      simp only [sliceBounds, HT.sIx, Option.getD_none, show (1 : Int) > 0 by decide, if_true]
      by_cases h : i < 0
      · simp only [h, if_true] <;> omega
      · simp only [h, if_false] <;> omega
  · cases hi with
    | none => simp [sliceBounds, HT.sIx]
    | some i =>
      simp only [sliceBounds, HT.sIx, Option.getD_none, show (1 : Int) > 0 by decide, if_true]
      by_cases h : i < 0
      · simp only [h, if_true] <;> omega
      · simp only [h, if_false] <;> omega
theorem slicePick_cut (its : List Value) (lo hi : Option Int) : slicePick its.toArray lo hi none = ((its.drop (HT.sIx its.length 0 lo)).take (HT.sIx its.length its.length hi - HT.sIx its.length 0 lo)).toArray := by
  obtain ⟨h1, h2, h3⟩ := slice_bounds lo hi its.toArray.size
  unfold slicePick
  rw [h1, h2, h3]
  simp only [sliceRange_one, pick_run, List.size_toArray] <;> rfl
/-- xs[lo:hi] of a list: a new list -/
def rSlL (K : PySem.W.Frag) : V → Option Int → Option Int → Hp → VK → Prop := fun x lo hi H Q => ∃ a xs, x = .ref a ∧ SqL K H a xs ∧ ∀ p, H p = none → Q (.ref p) (upd H p (.lst (cutV xs lo hi)))
theorem sl_list : SlR X (rSlL X.K) := by
  intro pins s σ H x v vl vu lo hi sl Q I rx hs pl pu h
  obtain ⟨a, xs, rfl, hx, q⟩ := h
  cases rx
  obtain ⟨its, r, ht, hz⟩ := I.list hx
  have hlen := r.length
  refine ⟨"list", _, slot_list_getitem.lookup, ht.isList.typeIs, ?_⟩
  refine wpAny_getItem_list_slice ht.isList hs pl pu .none (by simp) ?_ (by rw [List.size_toArray] <;> omega)
  rw [slicePick_cut, ← hlen]
  refine ⟨.ref s.heap.objs.size, _, I.laid (t' := s.toks) (o := .lst (cutV xs lo hi)) (fun b ob q => Heap.get?_push_of_some _ q) (Nat.le_refl _) ?_, rfl, q _ (I.hok.fresh (Nat.le_refl _))⟩
  exact ⟨Nat.le_trans (cutV_length xs lo hi) hz, _, 0, (r.drop (HT.sIx xs.length 0 lo)).take (HT.sIx xs.length xs.length hi - HT.sIx xs.length 0 lo), Heap.get?_push_size _ rfl⟩

/-! ### in, not in: flat items -/
def flatV : V → Bool
  | .non => true
  | .bl _ => true
  | .int _ => true
  | .str _ => true
  | _ => false
/-- == of flat values -/
def eqV : V → V → Bool
  | .non, .non => true
  | .bl a, .bl b => a == b
  | .bl a, .int b => (if a then 1 else 0) == b
  | .int a, .bl b => a == (if b then 1 else 0)
  | .int a, .int b => a == b
  | .str a, .str b => a == b
  | _, _ => false
theorem eqAt_V {A : Around} {s : Shared} {y x : V} {u v : Value} (ry : RelV y u) (rx : RelV x v) (fy : flatV y = true) (fx : flatV x = true) : SeqAt.EqAt A s u v (eqV y x) := by
  cases y with
  | non =>
    cases ry
    cases x with
    | non => cases rx; exact SeqAt.EqAt.same _
    | bl b => cases rx; exact SeqAt.EqAt.none_bool b
    | int b => obtain ⟨t, rfl⟩ := rx; exact SeqAt.EqAt.none_int b t
    | str b => obtain ⟨t, rfl⟩ := rx; exact SeqAt.EqAt.none_str b t
    | _ => exact absurd (show false = true from fx) Bool.false_ne_true
  | bl a =>
    cases ry
    cases x with
    | non => cases rx; exact SeqAt.EqAt.bool_none a
    | bl b => cases rx; exact SeqAt.EqAt.bool_bool a b
    | int b => obtain ⟨t, rfl⟩ := rx; exact SeqAt.EqAt.bool_int a b t
    | str b => obtain ⟨t, rfl⟩ := rx; exact SeqAt.EqAt.bool_str a b t
    | _ => exact absurd (show false = true from fx) Bool.false_ne_true
  | int a =>
    obtain ⟨t', rfl⟩ := ry
    cases x with
    | non => cases rx; exact SeqAt.EqAt.int_none a t'
    | bl b => cases rx; exact SeqAt.EqAt.int_bool a t' b
    | int b => obtain ⟨t, rfl⟩ := rx; exact SeqAt.EqAt.int_int a t' b t
    | str b => obtain ⟨t, rfl⟩ := rx; exact SeqAt.EqAt.int_str a t' b t
    | _ => exact absurd (show false = true from fx) Bool.false_ne_true
  | str a =>
    obtain ⟨t', rfl⟩ := ry
    cases x with
    | non => cases rx; exact SeqAt.EqAt.str_none a t'
    | bl b => cases rx; exact SeqAt.EqAt.str_bool a t' b
    | int b => obtain ⟨t, rfl⟩ := rx; exact SeqAt.EqAt.str_int a t' b t
    | str b => obtain ⟨t, rfl⟩ := rx; exact SeqAt.EqAt.str_str a t' b t
    | _ => exact absurd (show false = true from fx) Bool.false_ne_true
  | _ => exact absurd (show false = true from fy) Bool.false_ne_true
/-- the items' answers, read off the values (a value's own answer does not lean on its token) -/
def eqU (x : V) (u : Value) : Bool := match u with
  | .none => eqV .non x
  | .bool b => eqV (.bl b) x
  | .int i _ => eqV (.int i) x
  | .str z _ => eqV (.str z) x
  | _ => false
theorem eqU_of {x y : V} {u : Value} (r : RelV y u) (f : flatV y = true) : eqU x u = eqV y x := by
  cases y with
  | non => cases r; rfl
  | bl b => cases r; rfl
  | int i => obtain ⟨t, rfl⟩ := r; rfl
  | str z => obtain ⟨t, rfl⟩ := r; rfl
  | _ => exact absurd (show false = true from f) Bool.false_ne_true
theorem any_eqU {x : V} : ∀ {xs : List V} {us : List Value}, Vals xs us → xs.all flatV = true → us.any (eqU x) = xs.any fun y => eqV y x
  | _, _, .nil, _ => rfl
  | y :: xs, u :: us, .cons r t, f => by
    rw [List.all_cons, Bool.and_eq_true] at f
    rw [List.any_cons, List.any_cons, eqU_of r f.1, any_eqU t f.2]
theorem mem_eqAt {A : Around} {s : Shared} {x : V} {v : Value} (rx : RelV x v) (fx : flatV x = true) : ∀ {xs : List V} {us : List Value}, Vals xs us → xs.all flatV = true → ∀ u ∈ us, SeqAt.EqAt A s u v (eqU x u)
  | _, _, .nil, _ => fun u hu => by cases hu
  | y :: xs, u :: us, .cons r t, f => fun u' hu => by
    rw [List.all_cons, Bool.and_eq_true] at f
    rcases List.mem_cons.mp hu with rfl | hu
    · rw [eqU_of r f.1]; exact eqAt_V r rx f.1 fx
    · exact mem_eqAt rx fx t f.2 u' hu
def inV (x : V) (xs : List V) : Bool := xs.any fun y => eqV y x
/-- x in a list or tuple of flat items -/
def rIn (K : PySem.W.Frag) (neg : Bool) : R2 := fun x y H Q => ∃ p xs, y = .ref p ∧ (SqL K H p xs ∨ SqT K H p xs) ∧ flatV x = true ∧ xs.all flatV = true ∧ Q (.bl (if neg then !inV x xs else inV x xs)) H
theorem op_in_seq : OpR X (compareOp .In) (rIn X.K false) := by
  intro pins s σ H x y v u Q I rx ry h
  obtain ⟨p, xs, rfl, hq, fx, fs, q⟩ := h
  cases ry
  rcases hq with hq | hq
  · obtain ⟨its, r, pl, hz⟩ := I.list hq
    refine SeqAt.in_listAt (eqU x) pl.isList (fun w hw => mem_eqAt rx fx r fs w (by simpa using hw)) ⟨.bl _, H, I, rfl, ?_⟩
    rw [show its.toArray.any (eqU x) = its.any (eqU x) by simp, any_eqU r fs]
    exact q
  · obtain ⟨its, r, pl, hz⟩ := I.tuple hq
    refine SeqAt.in_tupleAt (eqU x) pl (fun w hw => mem_eqAt rx fx r fs w (by simpa using hw)) ⟨.bl _, H, I, rfl, ?_⟩
    rw [show its.toArray.any (eqU x) = its.any (eqU x) by simp, any_eqU r fs]
    exact q
theorem op_notIn_seq : OpR X (compareOp .NotIn) (rIn X.K true) := by
  intro pins s σ H x y v u Q I rx ry h
  obtain ⟨p, xs, rfl, hq, fx, fs, q⟩ := h
  cases ry
  rcases hq with hq | hq
  · obtain ⟨its, r, pl, hz⟩ := I.list hq
    refine SeqAt.notIn_listAt (eqU x) pl.isList (fun w hw => mem_eqAt rx fx r fs w (by simpa using hw)) ⟨.bl _, H, I, rfl, ?_⟩
    rw [show its.toArray.any (eqU x) = its.any (eqU x) by simp, any_eqU r fs]
    exact q
  · obtain ⟨its, r, pl, hz⟩ := I.tuple hq
    refine SeqAt.notIn_tupleAt (eqU x) pl (fun w hw => mem_eqAt rx fx r fs w (by simpa using hw)) ⟨.bl _, H, I, rfl, ?_⟩
    rw [show its.toArray.any (eqU x) = its.any (eqU x) by simp, any_eqU r fs]
    exact q
theorem op_notIn_str : OpR X (compareOp .NotIn) (fun x y H Q => ∃ i j, x = .str i ∧ y = .str j ∧ Q (.bl (!(!(Builtin.Str.occurrences j i 0 j.length 1).isEmpty))) H) := by
  intro pins s σ H x y v u Q I rx ry h
  obtain ⟨i, j, rfl, rfl, q⟩ := h
  obtain ⟨t, rfl⟩ := rx
  obtain ⟨t', rfl⟩ := ry
  exact notIn_str ⟨.bl _, H, I, rfl, q⟩

/-! ### len, list(x), tuple(x) of any list or tuple that is read -/
theorem call_len_seq : CallR X (.builtin "len") (fun xs H Q => ∃ p ys, xs = [.ref p] ∧ (SqL X.K H p ys ∨ SqT X.K H p ys) ∧ Q (.int ys.length) H) := by
  intro pins s σ H xs us Q I r h
  obtain ⟨p, ys, rfl, hq, q⟩ := h
  obtain ⟨u, rfl, rx⟩ := vals1 r
  cases rx
  have hn := line63
  rcases hq with hq | hq
  · obtain ⟨its, r', pl, hz⟩ := I.list hq
    have hlen := r'.length
    exact Calls.call_len_list pl.isList (by simp only [List.size_toArray] <;> omega) ⟨.int ys.length, H, I.tok _, ⟨s.toks + 1, by rw [List.size_toArray, hlen]⟩, q⟩
  · obtain ⟨its, r', pl, hz⟩ := I.tuple hq
    have hlen := r'.length
    exact len_tuple pl (by simp only [List.size_toArray] <;> omega) ⟨.int ys.length, H, I.tok _, ⟨s.toks + 1, by rw [List.size_toArray, hlen]⟩, q⟩
theorem call_len_str : CallR X (.builtin "len") (fun xs H Q => ∃ z, xs = [.str z] ∧ z.length ≤ sizeLine ∧ Q (.int z.length) H) := by
  intro pins s σ H xs us Q I r h
  obtain ⟨z, rfl, hz, q⟩ := h
  obtain ⟨u, rfl, t, rfl⟩ := vals1 r
  have hn := line63
  exact len_str (by omega) ⟨.int z.length, H, I.tok _, ⟨_, rfl⟩, q⟩
theorem CallR.or {f : Value} {r r' : List V → Hp → VK → Prop} (h : CallR X f r) (h' : CallR X f r') : CallR X f (fun xs H Q => r xs H Q ∨ r' xs H Q) := by
  intro pins s σ H xs us Q I rs q
  rcases q with q | q
  · exact h pins s σ H xs us Q I rs q
  · exact h' pins s σ H xs us Q I rs q
theorem call_list_of : CallR X (.type "list") (fun xs H Q => ∃ p ys, xs = [.ref p] ∧ (SqL X.K H p ys ∨ SqT X.K H p ys) ∧ ∀ l, H l = none → Q (.ref l) (upd H l (.lst ys))) := by
  intro pins s σ H xs us Q I r h
  obtain ⟨p, ys, rfl, hq, q⟩ := h
  obtain ⟨u, rfl, rx⟩ := vals1 r
  cases rx
  have fin : ∀ (its : List Value), Vals ys its → ys.length ≤ sizeLine → ∀ (h' : Heap) (c' : Nat), (∀ b o', s.heap.get? b = some o' → h'.get? b = some o') →
      h'.get? s.heap.objs.size = some { cls := .type "list", dict := none, data := .seq its.toArray c', slots := #[] } → EP X pins σ Q (.ref s.heap.objs.size) { s with heap := h' } := fun its r' hz h' c' kp e =>
    ⟨.ref s.heap.objs.size, _, I.laid (t' := s.toks) kp (Nat.le_refl _) (show ObjOk X.prog X.w _ h' _ (.lst ys) from ⟨hz, its, c', r', e⟩), rfl, q _ (I.hok.fresh (Nat.le_refl _))⟩
  rcases hq with hq | hq
  · obtain ⟨its, r', pl, hz⟩ := I.list hq
    have hlen := r'.length
    obtain ⟨o, ho, hc, n, hd⟩ := pl.isList
    exact call_list_seq p (.inl rfl) ho hc hd (fun h' c' kp e => fin its r' hz h' c' kp e) (by simp only [List.size_toArray] <;> omega)
  · obtain ⟨its, r', pl, hz⟩ := I.tuple hq
    have hlen := r'.length
    obtain ⟨o, ho, hc, n, hd⟩ := pl
    exact call_list_seq p (.inr rfl) ho hc hd (fun h' c' kp e => fin its r' hz h' c' kp e) (by simp only [List.size_toArray] <;> omega)
theorem call_tuple_of : CallR X (.type "tuple") (fun xs H Q => ∃ p ys, xs = [.ref p] ∧ ((SqL X.K H p ys ∧ ∀ l, H l = none → Q (.ref l) (upd H l (.tup ys))) ∨ (SqT X.K H p ys ∧ Q (.ref p) H))) := by
  intro pins s σ H xs us Q I r h
  obtain ⟨p, ys, rfl, h⟩ := h
  obtain ⟨u, rfl, rx⟩ := vals1 r
  cases rx
  rcases h with ⟨hq, q⟩ | ⟨hq, q⟩
  · obtain ⟨its, r', pl, hz⟩ := I.list hq
    have hlen := r'.length
    refine call_tuple_list pl.isList (fun h' kp => ?_) (by simp only [List.size_toArray] <;> omega)
    have I1 : Inv X pins σ H { s with heap := h' } := I.kept (t' := s.toks) kp
    have I2 : Inv X pins σ (upd H h'.objs.size (.tup ys)) { s with heap := h'.push { cls := .type "tuple", data := .seq its.toArray } } :=
      I1.laid (t' := s.toks) (fun b o e => Heap.get?_push_of_some _ e) (Nat.le_refl _) (show ObjOk X.prog X.w _ _ _ (.tup ys) from ⟨hz, its, r', IsTup.new _ _⟩)
    exact ⟨.ref h'.objs.size, _, I2, rfl, q _ (I1.hok.fresh (Nat.le_refl _))⟩
  · obtain ⟨its, r', pl, hz⟩ := I.tuple hq
    exact call_tuple_same pl ⟨.ref p, H, I, rfl, q⟩

/-! ### the call of a builtin's method: o.m(..) -/
/-- the value is of that builtin type -/
def tyV (K : PySem.W.Frag) (T : String) (x : V) (H : Hp) : Prop := match x with
  | .str _ => T = "str"
  | .int _ => T = "int"
  | .ref p => (T = "list" ∧ ∃ xs, SqL K H p xs) ∨ (T = "tuple" ∧ ∃ o, K.lookup p = some o ∧ o.cls = .type "tuple" ∧ o.dict = none) ∨
      (T = "dict" ∧ ((∃ kvs, H p = some (.dK kvs)) ∨ ∃ kvs, H p = some (.dT kvs))) ∨ (T = "set" ∧ ∃ S n, H p = some (.set S n))
  | _ => False
theorem tyV_is {pins : List (Addr × Obj)} {σ : St} {H : Hp} {s : Shared} {T : String} {x : V} {v : Value} (I : Inv X pins σ H s) (r : RelV x v) (ty : tyV X.K T x H) :
    s.TypeIs v T ∧ ∀ a, v = .ref a → ∃ ob, s.heap.get? a = some ob ∧ ob.dict = none := by
  cases x with
  | str z =>
    obtain ⟨t, rfl⟩ := r
    cases (show T = "str" from ty)
    exact ⟨typeIs_str s z t, fun _ e => nomatch e⟩
  | int i =>
    obtain ⟨t, rfl⟩ := r
    cases (show T = "int" from ty)
    exact ⟨typeIs_int s i t, fun _ e => nomatch e⟩
  | ref p =>
    cases r
    rcases ty with ⟨rfl, xs, hq⟩ | ⟨rfl, o, hk, hc, hd⟩ | ⟨rfl, hk⟩ | ⟨rfl, S, n, hk⟩
    · obtain ⟨its, _, pl, _⟩ := I.list hq
      refine ⟨pl.isList.typeIs, fun a e => ?_⟩
      cases e
      obtain ⟨o, n, e, c, hd, _⟩ := pl
      exact ⟨o, e, hd⟩
    · refine ⟨⟨o, I.kIn p o hk, hc⟩, fun a e => ?_⟩
      cases e
      exact ⟨o, I.kIn _ o hk, hd⟩
    · have z : ∃ o, s.heap.get? p = some o ∧ o.ExactDict := by
        rcases hk with ⟨kvs, hk⟩ | ⟨kvs, hk⟩
        · obtain ⟨_, _, _, _, o, _, _, e, ex, _⟩ := I.hok p _ hk
          exact ⟨o, e, ex⟩
        · obtain ⟨_, _, _, _, o, _, _, e, ex, _⟩ := I.hok p _ hk
          exact ⟨o, e, ex⟩
      obtain ⟨o, e, ex⟩ := z
      refine ⟨⟨o, e, ex.1⟩, fun a e2 => ?_⟩
      cases e2
      exact ⟨o, e, ex.2.1⟩
    · obtain ⟨o, _, _, _, e, ex, _⟩ := I.hok p _ hk
      refine ⟨⟨o, e, ex.1⟩, fun a e2 => ?_⟩
      cases e2
      exact ⟨o, e, ex.2.1⟩
  | _ => exact False.elim ty
def tBM0 (K : PySem.W.Frag) (T : String) (r : V → List V → Hp → VK → Prop) (to : TE) : TE := fun σ H Q => to σ H fun x H1 => tyV K T x H1 ∧ r x [] H1 Q
def tBM (K : PySem.W.Frag) (T : String) (r : V → List V → Hp → VK → Prop) (to : TE) (t : TA) : TE := fun σ H Q => to σ H fun x H1 => tyV K T x H1 ∧ t σ H1 fun xs H2 => r x xs H2 Q
variable {o e : Expr} {es : List Expr} {to : TE} {t : TA} {name : Str} {apos cpos : Pos} {T id : String} {r : V → List V → Hp → VK → Prop}
theorem pe_bm0 (pa : PlainAttrs T) (slot : Slot T name id) (hty : typeOf (.builtin id) = pure (.type "method_descriptor")) (hm : MtR X id r) (ho : PE X o to)
    (hbase : attributeBase o name X.env (eval o X.env) = eval o X.env := by rfl) (hline : (apos.endLine == cpos.line) = true := by rfl) : PE X (.Call (.Attribute o name apos) [] [] cpos) (tBM0 X.K T r to) := by
  intro pins s σ H Q I h
  refine wpAny_Call_method0_late hbase hline (thn (ho pins s σ H _ I h) fun v s1 ⟨x, H1, I1, r1, ty, q1⟩ => ?_)
  obtain ⟨h1, h2⟩ := tyV_is I1 r1 ty
  exact ⟨T, id, pa, slot, hty, h1, h2, Calls.callWith_builtin rfl (PySem.evalArgs_none (hm pins s1 σ H1 x [] v [] Q I1 r1 .nil q1))⟩
theorem pe_bm (pa : PlainAttrs T) (slot : Slot T name id) (hty : typeOf (.builtin id) = pure (.type "method_descriptor")) (hm : MtR X id r) (ho : PE X o to) (ha : PA X (e :: es) t)
    (hbase : attributeBase o name X.env (eval o X.env) = eval o X.env := by rfl)
    (hfew : ((backTo cpos (starEach (e :: es) X.env)).all (fun x => !x.1) && (backToKw cpos (keywordEach [] X.env)).all (fun x => x.1.isSome)
      && decide ((e :: es).length + ([] : List Keyword).length + (if ([] : List Keyword).isEmpty then 0 else 1) < 30)) = true := by rfl)
    (hline : (apos.endLine == cpos.line) = true := by rfl) (hs : starEach (e :: es) X.env = (false, eval e X.env) :: starEach es X.env := by rfl) (hplain : (backTo cpos (starEach es X.env)).any (·.1) = false := by rfl) :
    PE X (.Call (.Attribute o name apos) (e :: es) [] cpos) (tBM X.K T r to t) := by
  intro pins s σ H Q I h
  refine wpAny_Call_method_late hbase hfew hline rfl (thn (ho pins s σ H _ I h) fun v s1 ⟨x, H1, I1, r1, ty, q1⟩ => ?_)
  obtain ⟨h1, h2⟩ := tyV_is I1 r1 ty
  refine ⟨T, id, pa, slot, hty, h1, h2, ?_⟩
  have hA := ha cpos pins s1 σ H1 _ I1 q1
  rw [hs] at hA ⊢
  refine Calls.callWith_builtin (by show (false || (backTo cpos (starEach es X.env)).any (·.1)) = false; rw [hplain] <;> rfl) (Calls.evalArgs_plain ?_)
  exact thn hA fun us s2 ⟨vs, H2, I2, r2, q2⟩ => hm pins s2 σ H2 x vs v us Q I2 r1 r2 q2
/- xs.append(e), list.index on a module's tuple .. are MtR facts of 06m -/
end
end L2

namespace L2
open PySem PySem.Spec PyProof.Rows

def MtM (X : Cx) (id : String) (r : V → List V → Hp → VK → Prop) : Prop :=
  ∀ (pins : List (Addr × Obj)) (s : Shared) (σ : St) (H : Hp) (x : V) (xs : List V) (v : Value) (us : List Value) (Q : VK), Inv X pins σ H s → RelV x v → Vals xs us → r x xs H Q →
    wpAny (model X.prog X.w) X.A (call (.builtin id) (v :: us)) (EP X pins σ Q) X.xe s

/-! ### lists of values -/
theorem Vals.one : ∀ {x : V} {us : List Value}, Vals [x] us → ∃ u, us = [u] ∧ RelV x u
  | _, _, .cons r .nil => ⟨_, rfl, r⟩
theorem Vals.two : ∀ {x y : V} {us : List Value}, Vals [x, y] us → ∃ u v, us = [u, v] ∧ RelV x u ∧ RelV y v
  | _, _, _, .cons r (.cons q .nil) => ⟨_, _, rfl, r, q⟩
theorem Vals.zero : ∀ {us : List Value}, Vals [] us → us = []
  | _, .nil => rfl
theorem Vals.dropLast {xs : List V} {us : List Value} (h : Vals xs us) : Vals xs.dropLast us.dropLast := by
  induction h with
  | nil => exact .nil
  | cons r t ih =>
    cases t with
    | nil => exact .nil
    | cons q t' => exact .cons r ih
theorem Vals.eraseIdx : ∀ {xs : List V} {us : List Value} (i : Nat), Vals xs us → Vals (xs.eraseIdx i) (us.eraseIdx i)
  | _, _, _, .nil => .nil
  | _, _, 0, .cons _ t => t
  | _, _, i + 1, .cons r t => .cons r (Vals.eraseIdx i t)
theorem Vals.reverse {xs : List V} {us : List Value} (h : Vals xs us) : Vals xs.reverse us.reverse := by
  induction h with
  | nil => exact .nil
  | cons r t ih => rw [List.reverse_cons, List.reverse_cons]; exact Vals.append ih (.cons r .nil)
theorem Vals.rep {xs : List V} {us : List Value} (h : Vals xs us) : ∀ k : Nat, Vals (List.replicate k xs).flatten (List.replicate k us).flatten
  | 0 => .nil
  | k + 1 => by
    rw [List.replicate_succ, List.replicate_succ, List.flatten_cons, List.flatten_cons]
    exact Vals.append h (Vals.rep h k)
theorem erase_last {α : Type} (l : List α) : l.eraseIdx (l.length - 1) = l.dropLast := by
  induction l with
  | nil => rfl
  | cons a r ih =>
    cases r with
    | nil => rfl
    | cons b r =>
      have e : (a :: b :: r).length - 1 = ((b :: r).length - 1) + 1 := by
        have h1 : (a :: b :: r).length = r.length + 2 := rfl
        have h2 : (b :: r).length = r.length + 1 := rfl
        omega
      rw [e, List.eraseIdx_cons_succ, ih]
      all_goals rfl
theorem len_erase {α : Type} : ∀ (l : List α) (i : Nat), (l.eraseIdx i).length ≤ l.length
  | [], _ => Nat.le_refl _
  | _ :: _, 0 => Nat.le_succ _
  | _ :: r, i + 1 => Nat.succ_le_succ (len_erase r i)
theorem foldl_rep (its : List Value) : ∀ (k : Nat) (acc : List Value),
    List.foldl (fun x1 x2 => x1 ++ x2) acc.toArray (List.replicate k its.toArray) = (acc ++ (List.replicate k its).flatten).toArray
  | 0, acc => by simp
  | k + 1, acc => by
    have e : acc.toArray ++ its.toArray = (acc ++ its).toArray := by simp
    have e2 : (acc ++ its) ++ (List.replicate k its).flatten = acc ++ (List.replicate (k + 1) its).flatten := by
      rw [List.replicate_succ, List.flatten_cons, List.append_assoc]
    rw [← e2, ← foldl_rep its k (acc ++ its), ← e, List.replicate_succ, List.foldl_cons]

section
variable {X : Cx} {pins : List (Addr × Obj)} {σ : St} {H : Hp} {s : Shared} {l b : Addr} {xs ys zs : List V}

/-! ### the two steps: a tracked list is rewritten, a new list is laid -/
theorem Inv.lset {its its' : List Value} {n : Nat} {f : Array Value → Array Value} {t' : Nat} (I : Inv X pins σ H s) (hH : H l = some (.lst xs))
    (e : s.heap.get? l = some { cls := .type "list", data := .seq its.toArray n }) (hf : f its.toArray = its'.toArray) (hv : Vals ys its') (hz : ys.length ≤ sizeLine) :
    Inv X pins σ (upd H l (.lst ys)) { s with heap := s.heap.update l (Obj.mapSeq f), toks := t' } := by
  have q := PySem.IsL.update e f
  rw [hf] at q
  refine I.write (x := l) (e := l) (by rw [hH]; exact trivial) (.inl rfl) (fun b' u hb hu => (Heap.get?_update_other s.heap (Obj.mapSeq f) (Ne.symm hb)).trans hu) ⟨_, q⟩ ?_
  exact ⟨hz, its', _, hv, q⟩
theorem Inv.lnew {its : List Value} {t' : Nat} (I : Inv X pins σ H s) (hv : Vals ys its) (hz : ys.length ≤ sizeLine) :
    Inv X pins σ (upd H s.heap.objs.size (.lst ys)) { s with heap := s.heap.push { cls := .type "list", data := .seq its.toArray }, toks := t' } :=
  I.laid (fun _ _ q => Heap.get?_push_of_some _ q) (Nat.le_refl _) ⟨hz, its, 0, hv, Heap.get?_push_size _ rfl⟩
theorem Inv.fresh (I : Inv X pins σ H s) : H s.heap.objs.size = none := I.hok.fresh (Nat.le_refl _)
theorem Inv.lstM (I : Inv X pins σ H s) (hH : H l = some (.lst xs)) : xs.length ≤ sizeLine ∧ ∃ (its : List Value) (n : Nat), Vals xs its ∧ xs.length = its.length ∧ s.heap.get? l = some { cls := .type "list", data := .seq its.toArray n } := by
  obtain ⟨z, its, n, r, e⟩ := I.hok l _ hH
  exact ⟨z, its, n, r, r.length, e⟩

theorem notLongL {n : Nat} (h : n ≤ sizeLine) : Builtin.List.listTooLong n = false := by
  unfold Builtin.List.listTooLong
  exact decide_eq_false (by omega)
end

section
variable {X : Cx}

/-! ### methods -/
def rAppend : V → List V → Hp → VK → Prop := fun x vs H Q => ∃ l xs y, x = .ref l ∧ vs = [y] ∧ H l = some (.lst xs) ∧ xs.length < sizeLine ∧ Q .non (upd H l (.lst (xs ++ [y])))
theorem mt_append : MtM X "list.append" rAppend := by
  intro pins s σ H x vs v us Q I rx rv h
  obtain ⟨l, xs, y, rfl, rfl, hH, hz, q⟩ := h
  cases rx
  obtain ⟨u, rfl, ru⟩ := rv.one
  obtain ⟨z, its, n, r, hl, e⟩ := I.lstM hH
  refine call_meets F.slot_list_append ⟨_, e, rfl⟩ F.entry_list_append (F.args_list_append_2 _ _) (PySem.list_append l its.toArray n u (by rw [List.size_toArray]; omega)) ⟨e, ?_⟩
  refine ⟨.non, _, I.lset (its' := its ++ [u]) hH e (by simp) (r.append (.cons ru .nil)) ?_, rfl, q⟩
  rw [List.length_append, List.length_singleton]
  omega

def rExtend : V → List V → Hp → VK → Prop := fun x vs H Q => ∃ l b xs zs, x = .ref l ∧ vs = [.ref b] ∧ H l = some (.lst xs) ∧ H b = some (.lst zs) ∧ xs.length + zs.length ≤ sizeLine ∧ Q .non (upd H l (.lst (xs ++ zs)))
theorem mt_extend : MtM X "list.extend" rExtend := by
  intro pins s σ H x vs v us Q I rx rv h
  obtain ⟨l, b, xs, zs, rfl, rfl, hH, hB, hz, q⟩ := h
  cases rx
  obtain ⟨u, rfl, ru⟩ := rv.one
  cases ru
  obtain ⟨z, its, n, r, hl, e⟩ := I.lstM hH
  obtain ⟨z2, its2, n2, r2, hl2, e2⟩ := I.lstM hB
  have hsz : its.toArray.size + its2.toArray.size ≤ sizeLine := by rw [List.size_toArray, List.size_toArray]; omega
  have hlong : ¬ (!its.toArray.isEmpty && Builtin.List.listTooLong (its.toArray.size + its2.toArray.size)) = true := by
    rw [notLongL hsz, Bool.and_false]
    exact Bool.false_ne_true
  refine call_meets F.slot_list_extend ⟨_, e, rfl⟩ F.entry_list_extend (F.args_list_extend_2 _ _)
    (AutoSeq1.list_extend_list_list_0 l its.toArray n b its2.toArray n2 hlong (by rw [List.size_toArray]; omega) (by omega)) ⟨e, e2, ?_⟩
  refine ⟨.non, _, I.lset (its' := its ++ its2) hH e (by simp) (r.append r2) ?_, rfl, q⟩
  rw [List.length_append]
  omega

def rPop : V → List V → Hp → VK → Prop := fun x vs H Q => ∃ l xs y, x = .ref l ∧ vs = [] ∧ H l = some (.lst xs) ∧ xs[xs.length - 1]? = some y ∧ Q y (upd H l (.lst xs.dropLast))
theorem mt_pop : MtM X "list.pop" rPop := by
  intro pins s σ H x vs v us Q I rx rv h
  obtain ⟨l, xs, y, rfl, rfl, hH, hy, q⟩ := h
  cases rx
  have hus := rv.zero
  subst hus
  obtain ⟨z, its, n, r, hl, e⟩ := I.lstM hH
  obtain ⟨u, hu, ru⟩ := r.get hy
  have hy' : its.toArray[its.toArray.size - 1]? = some u := by
    show its.toArray[its.length - 1]? = some u
    rw [← Array.getElem?_toList, ← hl]
    exact hu
  refine call_meets F.slot_list_pop ⟨_, e, rfl⟩ F.entry_list_pop (F.args_list_pop_1 _) (MeetsSeq.list_pop_last l its.toArray n u hy' (by rw [List.size_toArray]; omega)) ⟨e, ?_⟩
  refine ⟨y, _, I.lset (its' := its.dropLast) hH e ?_ r.dropLast ?_, ru, q⟩
  · show its.toArray.eraseIdxIfInBounds (its.toArray.size - 1) = its.dropLast.toArray
    rw [List.size_toArray, List.eraseIdxIfInBounds_toArray, erase_last]
  · rw [List.length_dropLast]
    omega

def rPopAt : V → List V → Hp → VK → Prop := fun x vs H Q => ∃ l xs i k y, x = .ref l ∧ vs = [.int i] ∧ H l = some (.lst xs) ∧ -(2 ^ 63) ≤ i ∧ i < 2 ^ 63 ∧ seqIndex? i xs.length = some k ∧ xs[k]? = some y ∧ Q y (upd H l (.lst (xs.eraseIdx k)))
theorem mt_popAt : MtM X "list.pop" rPopAt := by
  intro pins s σ H x vs v us Q I rx rv h
  obtain ⟨l, xs, i, k, y, rfl, rfl, hH, h1, h2, hk, hy, q⟩ := h
  cases rx
  obtain ⟨u, rfl, ru⟩ := rv.one
  obtain ⟨t, rfl⟩ := ru
  obtain ⟨z, its, n, r, hl, e⟩ := I.lstM hH
  obtain ⟨w, hw, rw'⟩ := r.get hy
  refine call_meets F.slot_list_pop ⟨_, e, rfl⟩ F.entry_list_pop (F.args_list_pop_2 _ _)
    (MeetsSeq.list_pop_at l its.toArray n i t k w (fitsIndex_both h1 h2) (by rw [List.size_toArray, ← hl]; exact hk) (by rw [← Array.getElem?_toList]; exact hw) (by rw [List.size_toArray]; omega)) ⟨e, ?_⟩
  refine ⟨y, _, I.lset (its' := its.eraseIdx k) hH e ?_ (r.eraseIdx k) ?_, rw', q⟩
  · show its.toArray.eraseIdxIfInBounds k = (its.eraseIdx k).toArray
    rw [List.eraseIdxIfInBounds_toArray]
  · have := len_erase xs k
    omega

def rReverse : V → List V → Hp → VK → Prop := fun x vs H Q => ∃ l xs, x = .ref l ∧ vs = [] ∧ H l = some (.lst xs) ∧ Q .non (upd H l (.lst xs.reverse))
theorem mt_reverse : MtM X "list.reverse" rReverse := by
  intro pins s σ H x vs v us Q I rx rv h
  obtain ⟨l, xs, rfl, rfl, hH, q⟩ := h
  cases rx
  have hus := rv.zero
  subst hus
  obtain ⟨z, its, n, r, hl, e⟩ := I.lstM hH
  refine call_meets F.slot_list_reverse ⟨_, e, rfl⟩ F.entry_list_reverse (F.args_list_reverse_1 _) (AutoSeq1.list_reverse_list_0 l its.toArray n (by rw [List.size_toArray]; omega)) ⟨e, ?_⟩
  refine ⟨.non, _, I.lset (its' := its.reverse) hH e (by simp) r.reverse ?_, rfl, q⟩
  rw [List.length_reverse]
  omega

def rClear : V → List V → Hp → VK → Prop := fun x vs H Q => ∃ l xs, x = .ref l ∧ vs = [] ∧ H l = some (.lst xs) ∧ Q .non (upd H l (.lst []))
theorem mt_clear : MtM X "list.clear" rClear := by
  intro pins s σ H x vs v us Q I rx rv h
  obtain ⟨l, xs, rfl, rfl, hH, q⟩ := h
  cases rx
  have hus := rv.zero
  subst hus
  obtain ⟨z, its, n, r, hl, e⟩ := I.lstM hH
  refine call_meets F.slot_list_clear ⟨_, e, rfl⟩ F.entry_list_clear (F.args_list_clear_1 _) (AutoSeq1.list_clear_list_0 l its.toArray n (by rw [List.size_toArray]; omega)) ⟨e, ?_⟩
  exact ⟨.non, _, I.lset (its' := []) (ys := []) hH e rfl .nil (Nat.zero_le _), rfl, q⟩

/-! ### list + list, list += list, list * int -/
def rCat : R2 := fun x y H Q => ∃ l b xs zs, x = .ref l ∧ y = .ref b ∧ H l = some (.lst xs) ∧ H b = some (.lst zs) ∧ xs.length + zs.length ≤ sizeLine ∧ ∀ p, H p = none → Q (.ref p) (upd H p (.lst (xs ++ zs)))
theorem op_cat : OpR X (binaryOp .Add) rCat := by
  intro pins s σ H x y v u Q I rx ry h
  obtain ⟨l, b, xs, zs, rfl, rfl, hH, hB, hz, q⟩ := h
  cases rx
  cases ry
  obtain ⟨z, its, n, r, hl, e⟩ := I.lstM hH
  obtain ⟨z2, its2, n2, r2, hl2, e2⟩ := I.lstM hB
  refine PySem.P.add_list e e2 ?_ (by rw [List.size_toArray, List.size_toArray]; omega)
  have ea : its.toArray ++ its2.toArray = (its ++ its2).toArray := by simp
  rw [ea]
  exact ⟨.ref _, _, I.lnew (t' := s.toks) (r.append r2) (by rw [List.length_append]; omega), rfl, q _ I.fresh⟩
/-- a list times an int (a negative one is nothing) -/
def rRep : R2 := fun x y H Q => ∃ l k xs, x = .ref l ∧ y = .int k ∧ H l = some (.lst xs) ∧ -(2 ^ 63) ≤ k ∧ k < 2 ^ 63 ∧ xs.length * k.toNat ≤ sizeLine ∧
  ∀ p, H p = none → Q (.ref p) (upd H p (.lst (List.replicate k.toNat xs).flatten))
theorem len_rep {α : Type} (xs : List α) (k : Nat) : (List.replicate k xs).flatten.length = k * xs.length := by
  induction k with
  | zero => simp
  | succ k ih => rw [List.replicate_succ, List.flatten_cons, List.length_append, ih, Nat.succ_mul, Nat.add_comm]
theorem op_rep : OpR X (binaryOp .Mult) rRep := by
  intro pins s σ H x y v u Q I rx ry h
  obtain ⟨l, k, xs, rfl, rfl, hH, h1, h2, hz, q⟩ := h
  cases rx
  obtain ⟨t, rfl⟩ := ry
  obtain ⟨z, its, n, r, hl, e⟩ := I.lstM hH
  have hlen : its.toArray.size * k.toNat ≤ sizeLine := by rw [List.size_toArray, ← hl]; exact hz
  have hcap : ¬ its.toArray.size * k.toNat > (2 ^ 63 - 1) / 8 := by
    have : (sizeLine : Nat) ≤ (2 ^ 63 - 1) / 8 := by decide
    omega
  have hfit : ¬ (!Builtin.List.listFitsIndex k) = true := by
    rw [fitsIndex_both h1 h2]
    exact Bool.false_ne_true
  have hlong : ¬ Builtin.List.listTooLong (its.toArray.size * k.toNat) = true := by
    rw [notLongL hlen]
    exact Bool.false_ne_true
  have hnew : List.foldl (fun x1 x2 => x1 ++ x2) #[] (List.replicate (if its.toArray.isEmpty = true then 0 else k.toNat) its.toArray) = (List.replicate k.toNat its).flatten.toArray := by
    have f0 : ∀ m : Nat, List.foldl (fun x1 x2 => x1 ++ x2) #[] (List.replicate m its.toArray) = (List.replicate m its).flatten.toArray := fun m => by
      have := foldl_rep its m []
      rw [List.nil_append] at this
      exact this
    rw [f0]
    cases its with
    | nil => simp
    | cons a r' => rw [if_neg (by simp)]
  refine wpAny_binaryOp_repeat_ref (T := "list") (U := "int") (by decide) ⟨_, e, rfl⟩ (fun s' => typeIs_int s' k t) noFill_list_mul F.fills_int_mul F.slot_int_rmul repeat_list F.slot_int_index.lookup
    (call_meets F.slot_int_rmul (typeIs_int s k t) F.entry_int_rmul (F.args_int_rmul_2 _ _) (int___rmul___int_list k t l its.toArray n)
      ⟨e, rfl, ⟨_, e, rfl⟩, call_meets F.slot_list_mul ⟨_, e, rfl⟩ F.entry_list_mul (F.args_list_mul_2 _ _) (AutoListH.list___mul___list_int_3 l its.toArray n k t hfit hcap hlong) ⟨e, ?_⟩⟩)
  rw [hnew]
  exact ⟨.ref _, _, I.lnew (t' := s.toks) (r.rep k.toNat) (by rw [len_rep, Nat.mul_comm]; exact hz), rfl, q _ I.fresh⟩

/-! ### del xs[i] -/
theorem del_list {pins : List (Addr × Obj)} {s : Shared} {σ : St} {H : Hp} {l : Addr} {xs : List V} {i : Int} {t : Tok} {k : Nat} {Q : Unit → Shared → Prop} (I : Inv X pins σ H s) (hH : H l = some (.lst xs))
    (h1 : -(2 ^ 63) ≤ i) (h2 : i < 2 ^ 63) (hk : seqIndex? i xs.length = some k) (h : ∀ s', Inv X pins σ (upd H l (.lst (xs.eraseIdx k))) s' → Q () s') :
    wpAny (model X.prog X.w) X.A (delItem (.ref l) (.int i t)) Q X.xe s := by
  obtain ⟨z, its, n, r, hl, e⟩ := I.lstM hH
  refine PySem.P.delItem_list (k := k) e (fitsIndex_both h1 h2) (by rw [List.size_toArray, ← hl]; exact hk) (h _ ?_) (by rw [List.size_toArray]; omega)
  refine I.lset (its' := its.eraseIdx k) (t' := s.toks) hH e ?_ (r.eraseIdx k) ?_
  · show its.toArray.eraseIdxIfInBounds k = (its.eraseIdx k).toArray
    rw [List.eraseIdxIfInBounds_toArray]
  · have := len_erase xs k
    omega
end

/-! ### xs[a:b] = ys -/
section
variable {prog : Program} {w : World} {A : Around} {E : Value → Shared → Prop} {s : Shared}
theorem splice_eq (its its2 : List Value) (a c : Nat) : its.toArray.extract 0 a ++ its2.toArray ++ its.toArray.extract c its.toArray.size = (its.take a ++ its2 ++ its.drop c).toArray := by
  apply Array.toList_inj.mp
  first
    | (simp
       exact List.take_of_length_le (by simp))
    | simp [List.take_of_length_le]
    | simp
theorem bounds_run {a c n : Nat} (hac : a ≤ c) (hc : c ≤ n) : sliceBounds (some (a : Int)) (some (c : Int)) none n = ((a : Int), (c : Int), 1) := by
  simp only [sliceBounds, Option.getD_none]
  have h1 : ¬ ((a : Int) < 0) := by omega
  have h2 : ¬ ((c : Int) < 0) := by omega
  simp only [h1, h2, if_false, show (1 : Int) > 0 by decide, if_true]
  congr 1
  · omega
  · congr 1; omega
set_option maxRecDepth 100000 in
/-- list.__setitem__ with a slice of step one and another list -/
theorem setItem_slice {l b sl : Addr} {items new : Array Value} {n n2 : Nat} {vl vu : Value} {a c : Nat} {Q : Unit → Shared → Prop}
    (e : s.heap.get? l = some { cls := .type "list", data := .seq items n }) (e2 : s.heap.get? b = some { cls := .type "list", data := .seq new n2 }) (hne : l ≠ b)
    (hs : s.heap.IsSliceOf sl vl vu .none) (pl : IsPart vl (some (a : Int))) (pu : IsPart vu (some (c : Int))) (hac : a ≤ c) (hc : c ≤ items.size)
    (hsz : items.size + new.size ≤ sizeLine) (h : Q () { s with heap := s.heap.update l (Obj.mapSeq fun xs => xs.extract 0 a ++ new ++ xs.extract c xs.size) }) :
    wpAny (model prog w) A (setItem (.ref l) (.ref sl) (.ref b)) Q E s := by
  have hl : s.heap.IsList l items := PySem.IsL.isList e
  have hb : s.heap.IsList b new := PySem.IsL.isList e2
  obtain ⟨os, hos, hcs, hds⟩ := id hs
  have hTs : s.TypeIs (.ref sl) "slice" := ⟨os, hos, hcs⟩
  have hstep : ¬ ((rawPart none == rawInt 0) = true) := Bool.false_ne_true
  have hsame : Builtin.List.listSameRef (.ref l) (.ref b) = false := by
    unfold Builtin.List.listSameRef
    exact beq_eq_false_iff_ne.mpr hne
  have hmax : (max (a : Int) (c : Int)).toNat = c := by omega
  have hz' : ((fun xs : Array Value => xs.extract 0 a ++ new ++ xs.extract c xs.size) items).size ≤ sizeLine + 1 := by
    simp only [Array.size_append, Array.size_extract]
    omega
  unfold setItem
  try with_reducible refine wpAny_holding ?_
  first | refine wpAny_bind (wpAny_pure ?_) | skip
  refine wpAny_bind (wpAny_sequenceKey hl.typeIs (by decide) ?_)
  refine wpAny_bind (wpAny_callSpecial?_slot (name := Str.ofString "__setitem__") hl.typeIs slot_list_setitem
    (wpAny_call_entry slot_list_setitem hl.typeIs entry_list_setitem ?_ (args_list_setitem _ _ _)))
  show wpAny _ _ (Builtin.List.listSubscript? (.ref sl) >>= _) _ _ s
  refine wpAny_bind ?_
  unfold Builtin.List.listSubscript?
  refine wpAny_bind (wpAny_specialOf hTs slice_no_index ?_)
  simp only [Option.isNone_none, if_true]
  refine wpAny_pure ?_
  show wpAny _ _ (typeOf (.ref sl) >>= _) _ _ s
  refine wpAny_bind (wpAny_typeOf hTs ?_)
  first
    | rw [if_neg (by decide)]
    | refine PySem.W.KFB.if_not (by decide) ?_
  rw [listSliceParts_eq]
  refine wpAny_bind (wpAny_bind (wpAny_field hos hds (x := .none) rfl (wpAny_bind (wpAny_listPart .none ?_))))
  rw [if_neg hstep]
  refine wpAny_bind (wpAny_field hos hds (x := vl) rfl (wpAny_bind (wpAny_listPart pl ?_)))
  refine wpAny_bind (wpAny_field hos hds (x := vu) rfl (wpAny_bind (wpAny_listPart pu (wpAny_pure ?_))))
  first
    | simp only [hsame, Bool.false_eq_true, if_false]
    | refine PySem.W.KFB.if_not hsame ?_
    | (dsimp only
       rw [if_neg (by rw [hsame]; exact Bool.false_ne_true)])
  refine wpAny_bind (m := Builtin.List.listAllItems (.ref b) "must assign iterable to extended slice") ?_
  unfold Builtin.List.listAllItems
  refine wpAny_bind (wpAny_typeOf hb.typeIs ?_)
  first
    | refine PySem.W.KFB.if_so (by decide) ?_
    | rw [if_pos (by decide)]
    | simp only [beq_self_eq_true, Bool.true_or, if_true]
  unfold Builtin.List.listItems
  refine wpAny_bind (wpAny_seqItems e2 rfl (wpAny_pure ?_))
  refine wpAny_bind (wpAny_bind (wpAny_seqItems e rfl (wpAny_pure ?_)))
  refine wpAny_bind (wpAny_of_eq ((sliceIndices_raw (some (a : Int)) (some (c : Int)) none items.size (by simp)).trans (congrArg (pure : Int × Int × Int → Sem (Int × Int × Int)) (bounds_run hac hc))) ?_)
  show wpAny _ _ (if ((1 : Int) == 1) = true then _ else _) _ _ s
  rw [if_pos (by decide)]
  refine wpAny_bind (wpAny_rule ?_)
  first
    | simp only [notLongL hsz, Bool.false_eq_true, if_false]
    | refine PySem.W.KFB.if_not (notLongL hsz) ?_
  first | refine wpAny_bind (wpAny_pure ?_) | skip
  show wpAny _ _ (updateSeq l (fun xs => xs.extract 0 ((a : Int)).toNat ++ new ++ xs.extract (max (a : Int) (c : Int)).toNat xs.size) >>= _) _ _ s
  rw [hmax, Int.toNat_natCast]
  refine wpAny_bind (wpAny_updateSeq (hz := Nat.le_trans (Nat.le_add_right _ _) hsz) (_hz' := hz') e rfl ?_)
  refine wpAny_bind (wpAny_letGo ?_)
  first
    | exact wpAny_bind (wpAny_pure (wpAny_pure ⟨.none, rfl, wpAny_pure h⟩))
    | exact wpAny_pure ⟨.none, rfl, wpAny_pure h⟩
end

section
variable {X : Cx}
/-- xs[a:c] = ys of another list, at the value level: sl is the slice object that was just made -/
theorem set_slice {pins : List (Addr × Obj)} {s : Shared} {σ : St} {H : Hp} {l b sl : Addr} {xs ys : List V} {a c : Int} {vl vu : Value} {Q : Unit → Shared → Prop} (I : Inv X pins σ H s)
    (hH : H l = some (.lst xs)) (hB : H b = some (.lst ys)) (hne : l ≠ b) (hs : s.heap.IsSliceOf sl vl vu .none) (ra : RelV (.int a) vl) (rc : RelV (.int c) vu) (h0 : 0 ≤ a) (hac : a ≤ c) (hc : c ≤ xs.length)
    (hz : xs.length + ys.length ≤ sizeLine) (h : ∀ s', Inv X pins σ (upd H l (.lst (xs.take a.toNat ++ ys ++ xs.drop c.toNat))) s' → Q () s') :
    wpAny (model X.prog X.w) X.A (setItem (.ref l) (.ref sl) (.ref b)) Q X.xe s := by
  obtain ⟨ta, rfl⟩ := ra
  obtain ⟨tc, rfl⟩ := rc
  obtain ⟨z, its, n, r, hl, e⟩ := I.lstM hH
  obtain ⟨z2, its2, n2, r2, hl2, e2⟩ := I.lstM hB
  obtain ⟨a', rfl⟩ := Int.eq_ofNat_of_zero_le h0
  obtain ⟨c', rfl⟩ := Int.eq_ofNat_of_zero_le (Int.le_trans h0 hac)
  simp only [Int.toNat_natCast] at h
  refine setItem_slice (a := a') (c := c') e e2 hne hs (.int _ _) (.int _ _) (by omega) (by rw [List.size_toArray]; omega) (by rw [List.size_toArray, List.size_toArray]; omega) (h _ ?_)
  refine I.lset (its' := its.take a' ++ its2 ++ its.drop c') (t' := s.toks) hH e ?_ (Vals.append (Vals.append (r.take _) r2) (r.drop _)) ?_
  · exact splice_eq its its2 a' c'
  · rw [List.length_append, List.length_append, List.length_take, List.length_drop]
    omega
end
end L2

namespace Att
open PySem PySem.W PySem.Calls PyProof.Rows

/-! ### the script -/
theorem ints_of_wellAll {P : Params} {h : Heap} : ∀ (ns : List Int) (vs : List Value), WellAll P h vs (ns.map WData.int) → IntsAre vs ns := by
  intro ns
  induction ns with
  | nil =>
    intro vs w
    rw [List.map_nil] at w
    cases w
    exact .nil
  | cons n ns ih =>
    intro vs w
    rw [List.map_cons] at w
    cases w with
    | cons a b =>
      cases a
      exact .cons _ _ (ih _ b)

theorem script_of {l : OpenLaw} {n : Nat} (hn : l.most = some n) {P : Params} {h : Heap} {args : List WData} {vals : List Value}
    (hpre : l.row.toRowW.claim.pre args = true) (hwl : WellAll P h vals args) :
    ∃ a vs ns, vals = [Value.ref a] ∧ args = [WData.list (ns.map WData.int)] ∧ h.get? a = some { cls := .type "list", data := .seq vs.toArray } ∧ IntsAre vs ns ∧ ns.length ≤ n := by
  have hsh : WShape.hasAll [] args [.list .int] = true := (pre_splitW hpre).1
  have hc : l.pre.holds [] { args := args } = true := (pre_splitW hpre).2
  obtain ⟨d, r, rfl, h1, h2⟩ := hasAllW_cons hsh
  obtain rfl := hasAllW_nil h2
  obtain ⟨xs, rfl, h3⟩ := hasW_list h1
  obtain ⟨ns, rfl⟩ := items_int h3
  have hlen : ns.length ≤ n := by
    unfold OpenLaw.pre at hc
    have h4 : (WTm.not (.lt (.lit (.int (n : Int))) (.len (.arg 0)))).holds [] { args := [.list (ns.map .int)] } = true := by
      have h4 := (holds_andW hc).1
      rw [hn] at h4
      exact h4
    have h5 := condW_of h4 (w_not (w_lt w_lit (w_len_list (w_arg rfl))))
    rw [List.length_map] at h5
    refine Nat.le_of_not_lt fun q => ?_
    have q' : (n : Int) < ((ns.length : Nat) : Int) := by omega
    first
      | (rw [decide_eq_true q'] at h5; exact absurd h5 (by decide))
      | (simp at h5; omega)
  cases hwl with
  | cons w1 w2 =>
    cases w2
    cases w1 with
    | list ho hall => exact ⟨_, _, ns, rfl, rfl, ho, ints_of_wellAll ns _ hall, hlen⟩

theorem post_true (l : OpenLaw) (args : List WData) : l.row.toRowW.claim.post args (.bool true) args = true :=
  postW_of (r := l.row.toRowW) (X := (true == true))
    (show WShape.has [] (.bool true) .bool = true by first | rfl | decide | simp [WShape.has, WShape.arms, WShape.armsAll])
    (show (WTm.eq .res (.lit (.bool true))).value [] { args := args, res := some (.bool true), after := args } = some (.bool (true == true)) from w_eq_bool (w_res rfl) w_lit) rfl

/-! ### the attachment: holds_open's last premise (the goal 'hc' behind k_head) from a wpAny of the law's body -/
theorem attach {l : OpenLaw} {n : Nat} {q : Program} {loose : List Str} {XP : (Str → Option Value) → Heap → Prop} {YP : World → Heap → Prop} {d : DefRec} {x : Str}
    (hn : l.most = some n) (hdf : d.params.defaults = [])
    (hbind : ∀ pm cd doc v : Value, bindArgs (docDef d.name d.params d.body d.scope pm cd doc) ⟨[v], []⟩ = pure [(x, v)])
    (hx : d.scope.names.lookup x = some .local ∨ d.scope.names.lookup x = some .cell)
    (hk : d.scope.kind = .function) (hco : d.scope.isCoroutine = false) (hgen : d.scope.isGenerator = false)
    (body : ∀ (w : World) (s₀ s₁ s : Shared) (mg mb : Str → Option Value) (fa : Addr) (o : Obj) (pm cd doc : Value) (a : Addr) (vs : List Value) (ns : List Int),
      Ground q loose [] XP w s₀ mg mb s₁.heap → YP w s₁.heap →
      s₁.heap.get? fa = some o → o.data = .func (docDef d.name d.params d.body d.scope pm cd doc) → s₁.heap.CodeRec cd d.name → mg d.name = some (.ref fa) →
      s₁.heap.get? a = some { cls := .type "list", data := .seq vs.toArray } → IntsAre vs ns → ns.length ≤ n →
      s.gens = #[] → s.os = s₁.os →
      Fr s₁.heap s₁.heap.objs.size s.heap (bindL (envOfC d.name d.scope s₁.heap.objs.size fa cd).kindOf [(x, .ref a)] fun _ => none) →
      Cl s₁.heap.objs.size (cellsFrom (s₁.heap.objs.size + 1) d.scope.names []) s.heap (bindC (envOfC d.name d.scope s₁.heap.objs.size fa cd).kindOf [(x, .ref a)] fun _ => none) →
      wpAny (model l.prog w) (callerA.deeper (envOfC d.name d.scope s₁.heap.objs.size fa cd)) (execs d.body (envOfC d.name d.scope s₁.heap.objs.size fa cd))
        (fun f s' => f = .ret (.bool true) ∧ OldK s₁.heap s'.heap ∧ s'.os = s₁.os ∧ AllBare s'.gens) (fun _ _ => False) s) :
    WalkO q loose XP YP l.row.toRowW d [] (fun f vs => PySem.call f vs) := by
  intro w s₀ s₁ mg mb G Y fa o pm cd doc dV kV ho hd hcd hD hmg hg args vals as hpre hlay hrd hwl hlo
  obtain rfl : dV = .none := Dflts.none hD hdf
  obtain rfl : kV = .none := Dflts.noKw hD
  obtain ⟨a, vs, ns, rfl, rfl, hobj, hints, hlen⟩ := script_of hn hpre hwl
  refine enter_call ?_
  refine call_cells_ret (o := o) (by rw [depth_caller]; decide) ho (fd_plain hd) G.T.nolimit hcd (hbind pm cd doc (.ref a)) (fun y hy => ?_) (fun h₁ tk F X => ?_) hco hgen hk
  · obtain rfl : y = (x, Value.ref a) := List.mem_singleton.mp hy
    rcases hx with e | e
    · exact .inl e
    · exact .inr ⟨e, cellsFrom_some _ _ _ (.inl e)⟩
  · refine wpAny_mono (body w s₀ s₁ { s₁ with heap := h₁, toks := tk } mg mb fa o pm cd doc a vs ns G Y ho (fd_plain hd) hcd hmg hobj hints hlen hg rfl F X) (fun f s' hq => ?_) (fun _ _ hq => hq)
    obtain ⟨rfl, h2, h3, h4⟩ := hq
    exact ⟨.inl ⟨.bool true, .bool true, [], rfl, fun _ => rfl, .bool true, post_true l _, fun _ => ⟨List.Pairwise.nil, fun _ hm => (nomatch hm)⟩⟩, h2, h3, h4⟩

/-- the same from a codeAny of the CALL (for a layer whose function contracts speak of calls) -/
theorem attach_call {l : OpenLaw} {n : Nat} {q : Program} {loose : List Str} {XP : (Str → Option Value) → Heap → Prop} {YP : World → Heap → Prop} {d : DefRec}
    (hn : l.most = some n) (hdf : d.params.defaults = [])
    (call : ∀ (w : World) (s₀ s₁ : Shared) (mg mb : Str → Option Value) (fa : Addr) (o : Obj) (pm cd doc : Value) (a : Addr) (vs : List Value) (ns : List Int),
      Ground q loose [] XP w s₀ mg mb s₁.heap → YP w s₁.heap →
      s₁.heap.get? fa = some o → o.data = .func (docDef d.name d.params d.body d.scope pm cd doc) → s₁.heap.CodeRec cd d.name → mg d.name = some (.ref fa) →
      s₁.heap.get? a = some { cls := .type "list", data := .seq vs.toArray } → IntsAre vs ns → ns.length ≤ n → s₁.gens = #[] →
      codeAny (model l.prog w) callerA (.call (.ref fa) ⟨[.ref a], []⟩) (fun r s' => r = .ok (.ret (.bool true)) ∧ OldK s₁.heap s'.heap ∧ s'.os = s₁.os ∧ AllBare s'.gens) s₁) :
    WalkO q loose XP YP l.row.toRowW d [] (fun f vs => PySem.call f vs) := by
  intro w s₀ s₁ mg mb G Y fa o pm cd doc dV kV ho hd hcd hD hmg hg args vals as hpre hlay hrd hwl hlo
  obtain rfl : dV = .none := Dflts.none hD hdf
  obtain rfl : kV = .none := Dflts.noKw hD
  obtain ⟨a, vs, ns, rfl, rfl, hobj, hints, hlen⟩ := script_of hn hpre hwl
  refine enter_call (codeAny_mono (call w s₀ s₁ mg mb fa o pm cd doc a vs ns G Y ho (fd_plain hd) hcd hmg hobj hints hlen hg) fun r s' hq => ?_)
  obtain ⟨rfl, h2, h3, h4⟩ := hq
  exact ⟨.inl ⟨.bool true, .bool true, [], rfl, fun _ => rfl, .bool true, post_true l _, fun _ => ⟨List.Pairwise.nil, fun _ hm => (nomatch hm)⟩⟩, h2, h3, h4⟩

/-- the same where the top left finished generators (o_head chose holds_openN): nothing may have changed at all and no generator may be left -/
theorem attachN {l : OpenLaw} {n : Nat} {q : Program} {loose : List Str} {XP : (Str → Option Value) → Heap → Prop} {YP : World → Heap → Prop} {d : DefRec} {x : Str}
    (hn : l.most = some n) (hdf : d.params.defaults = [])
    (hbind : ∀ pm cd doc v : Value, bindArgs (docDef d.name d.params d.body d.scope pm cd doc) ⟨[v], []⟩ = pure [(x, v)])
    (hx : d.scope.names.lookup x = some .local ∨ d.scope.names.lookup x = some .cell)
    (hk : d.scope.kind = .function) (hco : d.scope.isCoroutine = false) (hgen : d.scope.isGenerator = false)
    (body : ∀ (w : World) (s₀ s₁ s : Shared) (mg mb : Str → Option Value) (fa : Addr) (o : Obj) (pm cd doc : Value) (a : Addr) (vs : List Value) (ns : List Int),
      Ground q loose [] XP w s₀ mg mb s₁.heap → YP w s₁.heap →
      s₁.heap.get? fa = some o → o.data = .func (docDef d.name d.params d.body d.scope pm cd doc) → s₁.heap.CodeRec cd d.name → mg d.name = some (.ref fa) →
      s₁.heap.get? a = some { cls := .type "list", data := .seq vs.toArray } → IntsAre vs ns → ns.length ≤ n →
      s.gens = #[] → s.os = s₁.os →
      Fr s₁.heap s₁.heap.objs.size s.heap (bindL (envOfC d.name d.scope s₁.heap.objs.size fa cd).kindOf [(x, .ref a)] fun _ => none) →
      Cl s₁.heap.objs.size (cellsFrom (s₁.heap.objs.size + 1) d.scope.names []) s.heap (bindC (envOfC d.name d.scope s₁.heap.objs.size fa cd).kindOf [(x, .ref a)] fun _ => none) →
      wpAny (model l.prog w) (callerA.deeper (envOfC d.name d.scope s₁.heap.objs.size fa cd)) (execs d.body (envOfC d.name d.scope s₁.heap.objs.size fa cd))
        (fun f s' => f = .ret (.bool true) ∧ (∀ b o, s₁.heap.get? b = some o → s'.heap.get? b = some o) ∧ s'.os = s₁.os ∧ s'.gens = #[]) (fun _ _ => False) s) :
    WalkN q loose XP YP l.row.toRowW d [] (fun f vs => PySem.call f vs) := by
  intro w s₀ s₁ mg mb G Y fa o pm cd doc dV kV ho hd hcd hD hmg hg args vals as hpre hlay hrd hwl hlo
  obtain rfl : dV = .none := Dflts.none hD hdf
  obtain rfl : kV = .none := Dflts.noKw hD
  obtain ⟨a, vs, ns, rfl, rfl, hobj, hints, hlen⟩ := script_of hn hpre hwl
  refine enter_callW ?_
  refine call_cells_ret (o := o) (by rw [depth_caller]; decide) ho (fd_plain hd) G.T.nolimit hcd (hbind pm cd doc (.ref a)) (fun y hy => ?_) (fun h₁ tk F X => ?_) hco hgen hk
  · obtain rfl : y = (x, Value.ref a) := List.mem_singleton.mp hy
    rcases hx with e | e
    · exact .inl e
    · exact .inr ⟨e, cellsFrom_some _ _ _ (.inl e)⟩
  · refine wpAny_mono (body w s₀ s₁ { s₁ with heap := h₁, toks := tk } mg mb fa o pm cd doc a vs ns G Y ho (fd_plain hd) hcd hmg hobj hints hlen hg rfl F X) (fun f s' hq => ?_) (fun _ _ hq => hq)
    obtain ⟨rfl, h2, h3, h4⟩ := hq
    exact ⟨.inl ⟨.bool true, .bool true, [], rfl, fun _ => rfl, .bool true, post_true l _, fun _ => ⟨List.Pairwise.nil, fun _ hm => (nomatch hm)⟩⟩, h2, h3, h4⟩

/-! ### rules over ANY heap (no ledger) from facts about the written part K: the library's own take a ledger (News) for what they write -/
section
variable {prog : Program} {w : World} {A : Around} {E : Value → Shared → Prop} {s : Shared} {K : Frag}

/-- a def of the module, or a method (qual 'C.m'), entered: the frame is the next address; cells behind it -/
theorem call_fn {R : Result → Shared → Prop} {name qual : Str} {params : Arguments} {body : List Stmt} {scope : Scope} {dV kV doc pm cdv ct oc : Value} {an od : Option Addr} {osl : Array (Option Value)} {f : Addr} {args : Args} {binds : List (Str × Value)}
    (X : K.In s.heap) (hlim : s.heap.NoLimit) (ho : K.lookup f = some ⟨oc, od, .func (fnOf name qual params body scope dV kV doc pm an cdv ct), osl⟩) (hcd : codeIn K cdv qual = true) (hroom : A.depth < recursionLimit)
    (hbind : BindsTo s (fnOf name qual params body scope dV kV doc pm an cdv ct) args binds)
    (hkind : (binds.all fun y => scope.names.lookup y.1 == some .local || scope.names.lookup y.1 == some .cell) = true)
    (h : ∀ s₁, InCallC s s.heap.objs.size (bindL (envOfC qual scope s.heap.objs.size f cdv).kindOf binds fun _ => none) (cellsFrom (s.heap.objs.size + 1) scope.names [])
        (bindC (envOfC qual scope s.heap.objs.size f cdv).kindOf binds fun _ => none) s₁ →
      wpAny (model prog w) (A.deeper (envOfC qual scope s.heap.objs.size f cdv)) (execs body (envOfC qual scope s.heap.objs.size f cdv))
        (fun fl s' => R (.ok (.ret (match fl with | .ret v => v | _ => .none))) s')
        (fun e s' => wpAny (model prog w) (A.deeper (envOfC qual scope s.heap.objs.size f cdv)) (leaving (envOfC qual scope s.heap.objs.size f cdv) e) (fun _ s'' => R (.error e) s'') (fun e' s'' => R (.error e') s'') s') s₁)
    (hco : scope.isCoroutine = false) (hgen : scope.isGenerator = false) (hk : scope.kind = .function) : codeAny (model prog w) A (.call (.ref f) args) R s := by
  refine codeAny_call_function hroom (X _ _ ho) rfl hco hgen rfl (codeRec_of X hcd) (hbind _ _ _ _ ?_)
  refine wpAny_newFunctionEnv_cells hk (kindsX hkind _) fun env he s₁ x => ?_
  subst he
  exact ⟨hlim.keeps x.toInCall.keep, codeAny_func (h s₁ x)⟩

/-- C(..): dict at size, instance at size + 1, then __init__ -/
theorem make_obj {R : Result → Shared → Prop} {C fI : Addr} {rest : List Value} {kw : List (Str × Value)}
    (X : K.In s.heap) (hm : makesIn K C = true) (hi : findIn K (.ref C) "__init__" = some (some (.ref fI))) (hf : isFn K (.ref fI) = true)
    (h : codeAny (model prog w) (A.under (.builtin "type.__call__" ⟨.ref C :: rest, kw⟩)) (.call (.ref fI) ⟨.ref (s.heap.objs.size + 1) :: rest, kw⟩) (InitBack (s.heap.objs.size + 1) R)
      { s with heap := (s.heap.push emptyDict).push (instObj C s.heap.objs.size) }) : codeAny (model prog w) A (.call (.ref C) ⟨rest, kw⟩) R s := by
  obtain ⟨hh, g, d, t, os⟩ := s
  exact make_core (makes_of X hm) (looks_findIn X hi) (fun self => bind_fn X self (beq_iff_eq.mp hf)) (.inl rfl) h

/-- x.name where the instance's dict holds the name and the class does not -/
theorem get_field {x C : Addr} {ox : Obj} {es : List DictEntry} {n : Nat} {name : Str} {expr : Bool} {v : Value} {Q : Value → Shared → Prop}
    (X : K.In s.heap) (I : PySem.W.InstAt s.heap x ox C (some (dictOf es n))) (hg : plainGet K C name = true) (hh : hasDictIn K C = true) (ha : findIn K (.ref C) name = some none)
    (hl : getL name es = some (some v)) (hv : handedIn v = true) (h : Q v { s with toks := s.toks + 1 }) : wpAny (model prog w) A (getAttr (.ref x) name expr) Q E s :=
  get_value X I (plainGet_of hg).1 (findObj_own hh ha rfl hl) hv h

/-- x.m(..): the method found in the class -/
theorem get_method {x C f : Addr} {ox : Obj} {es : List DictEntry} {n : Nat} {name : Str} {pl : Sem Bool} {Q : Value × List Value → Shared → Prop}
    (X : K.In s.heap) (I : PySem.W.InstAt s.heap x ox C (some (dictOf es n))) (hg : plainGet K C name = true) (hf : findIn K (.ref C) name = some (some (.ref f))) (ht : isFn K (.ref f) = true)
    (hl : getL name es = some none) (h : Q (.ref f, [.ref x]) s) : wpAny (model prog w) A (getMethod (.ref x) name pl) Q E s :=
  method_fn X I (plainGet_of hg).1 (plainGet_of hg).2 hf (beq_iff_eq.mp ht) (by show (lookIn name (dictOf es n)).map _ = _; rw [lookIn_dict, hl]; rfl) h

/-! the whole heap as the ledger: makes every rule that writes through a ledger a rule over any heap -/
def noObjs (h : Heap) : Heap := { h with objs := #[] }
theorem noObjs_get (h : Heap) (b : Addr) : (noObjs h).get? b = none := by
  cases e : (noObjs h).get? b with
  | none => rfl
  | some o => exact absurd (Heap.lt_size e) (Nat.not_lt_zero _)
def ledger (h : Heap) (L d : Addr) : List (Addr × Obj) := (List.range h.objs.size).filterMap fun a => if a = L ∨ a = d then none else (h.get? a).map fun o => (a, o)
theorem mem_ledger {h : Heap} {L d a : Addr} {o : Obj} : (a, o) ∈ ledger h L d ↔ a ≠ L ∧ a ≠ d ∧ h.get? a = some o := by
  unfold ledger
  rw [List.mem_filterMap]
  constructor
  · rintro ⟨b, _, e⟩
    split at e
    · cases e
    · rename_i hb
      obtain ⟨o', ho, e'⟩ := Option.map_eq_some_iff.mp e
      cases e'
      exact ⟨fun q => hb (.inl q), fun q => hb (.inr q), ho⟩
  · rintro ⟨n1, n2, ho⟩
    refine ⟨a, List.mem_range.mpr (Heap.lt_size ho), ?_⟩
    rw [if_neg (show ¬ (a = L ∨ a = d) from fun q => q.elim n1 n2), ho] <;> rfl
theorem news_ledger {h : Heap} {L d : Addr} {od : Obj} (hne : d ≠ L) (ho : h.get? d = some od) : News (noObjs h) L h ([] ++ (d, od) :: ledger h L d) := by
  rintro ⟨a, o⟩ hp
  rcases List.mem_cons.mp hp with e | hp
  · cases e
    exact ⟨ho, hne, noObjs_get _ _⟩
  · obtain ⟨n1, n2, e⟩ := mem_ledger.mp hp
    exact ⟨e, n1, noObjs_get _ _⟩
theorem fr_all {h : Heap} {L : Addr} {m : Str → Option Value} (n : h.Ns L m) : Fr (noObjs h) L h m :=
  ⟨n, fun b o e => (by rw [noObjs_get] at e; cases e), Nat.zero_le _⟩
/-- Upd of the head entry (for append_K, setItem_K ..) -/
theorem upd_ledger {h : Heap} {L d : Addr} {o o' : Obj} : Upd d o o' ((d, o) :: ledger h L d) ((d, o') :: ledger h L d) :=
  .head fun ⟨_, _⟩ hp => (mem_ledger.mp hp).2.1

/-- x.name = v over any heap: L is any namespace of the heap (the frame's, say): its map stays, its object is not told; all else but the dict stays -/
theorem set_field {x C dx L : Addr} {ox : Obj} {m : Str → Option Value} {es es' : List DictEntry} {n n' : Nat} {name : Str} {v : Value} {Q : Unit → Shared → Prop}
    (X : K.In s.heap) (I : PySem.W.InstAt s.heap x ox C (some (dictOf es n))) (hd : ox.dict = some dx) (hL : s.heap.Ns L m) (hne : dx ≠ L)
    (hs : findIn K (.ref C) "__setattr__" = some (some (.builtin "object.__setattr__"))) (hp : plainOver K C = true) (ht : takerIn K C name = some none) (hh : hasDictIn K C = true) (hl : (getL name es).isSome = true)
    (e : (putL name (PyData.keyHash w.params name) (.str name (s.toks + 1)) v es, putN name es n) = (es', n')) (hz : es'.length ≤ 1000)
    (h : ∀ h' : Heap, h'.Ns L m → h'.get? dx = some (dictOf es' n') → (∀ b o, b ≠ dx → b ≠ L → s.heap.get? b = some o → h'.get? b = some o) → Q () { s with heap := h', toks := s.toks + 2 }) :
    wpAny (model prog w) A (setAttr (.ref x) name v) Q E s := by
  obtain ⟨e1, e2⟩ := Prod.mk.inj e
  have hdx : s.heap.get? dx = some (dictOf es n) := by
    have := I.dict
    rw [hd] at this
    exact this
  refine set_plain X I hs (osa_dict (s := { s with toks := s.toks + 1 }) (h₀ := noObjs s.heap) (L := L) (m := m) (od := dictOf es n) (od' := dictOf es' n') (es := es') (n := n') (pre := []) (post := ledger s.heap L dx)
    (fr_all hL) (news_ledger hne hdx) X I hd hp ht hh hl (fun _ q => nomatch q) (fun ⟨_, _⟩ q => (mem_ledger.mp q).2.1) (by rw [putName_dict, e1, e2]) rfl hz fun h' F' N' => ?_)
  exact h h' F'.ns (N'.get (List.Mem.head _)) fun b o n1 n2 ho => N'.get (List.Mem.tail _ (mem_ledger.mpr ⟨n2, n1, ho⟩))
end
end Att

namespace L2
open PySem PySem.Spec PyProof.Rows

theorem vals_ints : ∀ {vs : List Value} {ns : List Int}, IntsAre vs ns → Vals (ns.map V.int) vs
  | _, _, .nil => .nil
  | _, _, .cons n t h => .cons ⟨t, rfl⟩ (vals_ints h)

/-- nothing is tracked but the script, known to the object (or it is an object of the module) -/
def Only (H : Hp) : Prop := ∀ b, H b = none ∨ ∃ o xs, H b = some (.frz o (.lst xs))

/-- THE HEAD: the law's promise, at the heap behind the top. F, the promise of the law's def, may use that base is part of the heap (so K.In base, base.Ns mainGlobals mg stand in Mod) -/
theorem law_call {P : Program} {w : World} {K : PySem.W.Frag} {mg mb : Str → Option Value} {CX : CXT} {k : Nat} {fa a : Addr} {fd : FuncData} {x : Str} {sp : Sp} {s₁ : Shared} {vs : List Value} {ns : List Int}
    (KX : K.In s₁.heap) (hns : s₁.heap.Ns mainGlobals mg) (hb : s₁.heap.Ns builtinsNs mb) (hbb : ∀ x : Str, x ≠ "__name__" → mb x = bootBuiltins x) (hlim : s₁.heap.NoLimit) (hg : s₁.gens = #[])
    (ha : s₁.heap.get? a = some { cls := .type "list", data := .seq vs.toArray }) (hi : IntsAre vs ns) (hl : ns.length ≤ sizeLine) (hr : Room k callerA)
    (F : ∀ base : Heap, K.In base → base.Ns mainGlobals mg → FnOk P w K mg base CX k fa fd [x] sp) (hbind : ∀ (s : Shared) (u : Value), BindsTo s fd ⟨[u], []⟩ [(x, u)])
    (hsp : ∀ H : Hp, Only H → SqL K H a (ns.map V.int) → sp [.ref a] H (fun v _ => v = .bl true) fun _ _ _ => False)
    (hCX : ∀ H e s', CX [] H s₁ (fun _ _ _ => False) e s' → False) :
    codeAny (model P w) callerA (.call (.ref fa) ⟨[.ref a], []⟩) (fun r s' => r = .ok (.ret (.bool true)) ∧ OldK s₁.heap s'.heap ∧ s'.os = s₁.os ∧ AllBare s'.gens) s₁ := by
  have rv := vals_ints hi
  have lenV := hi.length
  -- from an abstract heap in which nothing but the script may be tracked
  have core : ∀ H : Hp, Only H → SqL K H a (ns.map V.int) → HOk P w H s₁.heap → (∀ b, H b ≠ none → b = a) → (H a ≠ none → K.lookup a = none) →
      codeAny (model P w) callerA (.call (.ref fa) ⟨[.ref a], []⟩) (fun r s' => r = .ok (.ret (.bool true)) ∧ OldK s₁.heap s'.heap ∧ s'.os = s₁.os ∧ AllBare s'.gens) s₁ := by
    intro H hO hS hok hA hK
    have base_of : ∀ {b : Addr} {o : Obj}, s₁.heap.get? b = some o → H b = none → (hidT s₁.heap H).get? b = some o := fun e n => hidT_get e n
    have noA : ∀ {b : Addr} {o : Obj} {es : Array DictEntry} {ep : Nat}, s₁.heap.get? b = some o → o.data = .dict es ep → H b = none := fun {b o es ep} e d => by
      cases q : H b with
      | none => rfl
      | some u =>
        have e' : b = a := hA b (by rw [q]; simp)
        subst e'
        rw [ha] at e; cases e
        have d' : Data.seq vs.toArray _ = Data.dict es ep := d
        cases d'
    have nsK : ∀ {b : Addr} {m : Str → Option Value}, s₁.heap.Ns b m → (hidT s₁.heap H).Ns b m := fun {b m} ⟨o, es, ep, e, d, r⟩ => ⟨o, es, ep, base_of e (noA e d), d, r⟩
    have hKb : K.In (hidT s₁.heap H) := fun b o e => base_of (KX b o e) (by
      cases q : H b with
      | none => rfl
      | some u =>
        have e' : b = a := hA b (by rw [q]; simp)
        subst e'
        rw [hK (by rw [q]; simp)] at e; cases e)
    have hM : Mod K mg (hidT s₁.heap H) := ⟨hKb, nsK hns, ⟨mb, nsK hb, hbb⟩, let ⟨mc, h1, h2⟩ := hlim; ⟨mc, nsK h1, h2⟩⟩
    have e0 : Env0 P w K mg (hidT s₁.heap H) callerA [] s₁ H := ⟨rfl, hM, fun b o e => of_hidT e, Nat.le_of_eq (hidT_size _ _), trivial, fun b hb => absurd (show b ∈ ([] : List Addr) from hb) (by simp), hok, .of_eq hg⟩
    refine codeAny_mono ((F _ hKb (nsK hns)).run callerA [] s₁ H ⟨[.ref a], []⟩ [.ref a] [.ref a] _ _ hr e0 (hbind s₁ (.ref a)) (.cons rfl .nil) (hsp H hO hS)) fun r s' h => ?_
    cases r with
    | error e => exact (hCX H e s' h).elim
    | ok fl =>
      cases fl with
      | next => exact False.elim h
      | brk => exact False.elim h
      | cont => exact False.elim h
      | ret u =>
        obtain ⟨v, H', os, bare, un, hok', r', q⟩ := h
        have q' : v = .bl true := q
        subst q'
        obtain rfl : u = Value.bool true := r'
        refine ⟨rfl, OldK.of_keep fun b o e => ?_, os, bare⟩
        cases q : H b with
        | none => exact un.keep b o e q (by intro z; exact absurd (show b ∈ ([] : List Addr) from z) (by simp)) (by simp)
        | some u =>
          rcases hO b with z | ⟨ob, xs, z⟩
          · rw [q] at z; cases z
          · have z2 := un.frzs b ob _ z
            obtain ⟨e1, _⟩ := hok b _ z
            obtain ⟨e2, _⟩ := hok' b _ z2
            rw [e] at e1; cases e1
            exact e2
  cases hk : K.lookup a with
  | some o =>
    -- the script is one of the module's own objects
    have e := KX a o hk
    rw [ha] at e
    cases e
    refine core (fun _ => none) (fun _ => .inl rfl) (.inr ⟨_, vs.toArray, _, hk, rfl, rfl, rfl, by rw [List.size_toArray, lenV]; exact hl, by simpa using rv⟩) (fun b u z => by have z' : (none : Option HO) = some u := z; cases z') (fun b z => absurd rfl z) fun z => absurd rfl z
  | none =>
    refine core (fun b => if b = a then some (.frz { cls := .type "list", data := .seq vs.toArray } (.lst (ns.map V.int))) else none) (fun b => ?_) (.inl (.inr ⟨{ cls := .type "list", data := .seq vs.toArray }, if_pos rfl⟩)) (fun b u z => ?_) (fun b z => ?_) fun _ => hk
    · by_cases hb : b = a
      · exact .inr ⟨_, _, if_pos hb⟩
      · exact .inl (if_neg hb)
    · by_cases hb : b = a
      · have z' := (if_pos hb).symm.trans z
        cases z'
        subst hb
        exact ⟨ha, by rw [List.length_map]; exact hl, vs, _, rv, ha⟩
      · have z' := (if_neg hb).symm.trans z
        cases z'
    · by_cases hb : b = a
      · exact hb
      · exact absurd (if_neg hb) z
end L2

namespace L2
open PySem PySem.Spec PyProof.Rows

abbrev KOf {K : PySem.W.Frag} {h : Heap} (_ : K.In h) : PySem.W.Frag := K

/-- the goal that k_head leaves (case hc), from the law's promise. F gives the function object fd (K's own) once, then the promise over every base -/
theorem walk_of {l : PySem.W.OpenLaw} {n k : Nat} {q : Program} {loose : List Str} {XP : (Str → Option Value) → Heap → Prop} {YP : World → Heap → Prop} {d : DefRec} {K : Params → PySem.W.Frag} {CX : World → CXT} {sp : World → Sp} {x : Str}
    (hn : l.most = some n) (hn2 : n ≤ sizeLine) (hdf : d.params.defaults = []) (hr : Room k callerA)
    (hY : ∀ (w : World) (h : Heap), YP w h → (K w.params).In h)
    (F : ∀ (w : World) (mg : Str → Option Value) (fa : Addr) (h : Heap), (K w.params).In h → h.Ns mainGlobals mg → mg d.name = some (.ref fa) →
      ∃ fd : FuncData, (∀ (s : Shared) (u : Value), BindsTo s fd ⟨[u], []⟩ [(x, u)]) ∧
        ∀ base : Heap, (K w.params).In base → base.Ns mainGlobals mg → FnOk l.prog w (K w.params) mg base (CX w) k fa fd [x] (sp w))
    (hsp : ∀ (w : World) (H : Hp) (a : Addr) (ns : List Int), ns.length ≤ n → Only H → SqL (K w.params) H a (ns.map V.int) → sp w [.ref a] H (fun v _ => v = .bl true) fun _ _ _ => False)
    (hCX : ∀ (w : World) (H : Hp) (s : Shared) (e : Value) (s' : Shared), CX w [] H s (fun _ _ _ => False) e s' → False) :
    PySem.W.WalkO q loose XP YP l.row.toRowW d [] (fun f vs => PySem.call f vs) := by
  refine Att.attach_call hn hdf fun w s₀ s₁ mg mb fa o pm cd doc a vs ns G Y ho hd hcd hmg hobj hints hlen hg => ?_
  have KX := hY w _ Y
  obtain ⟨fd, hb, hF⟩ := F w mg fa _ KX G.T.g hmg
  exact law_call KX G.T.g G.T.b G.T.builtins G.T.nolimit hg hobj hints (Nat.le_trans hlen hn2) hr hF hb (fun H hO hS => hsp w H a ns hlen hO hS) fun H e s' => hCX w H s₁ e s'
/-- the same where the promise hangs on the written part alone: (sp := My.sp_law), no hole under a binder -/
theorem walk_ofK {l : PySem.W.OpenLaw} {n k : Nat} {q : Program} {loose : List Str} {XP : (Str → Option Value) → Heap → Prop} {YP : World → Heap → Prop} {d : DefRec} {K : Params → PySem.W.Frag} {CX : CXT} {sp : PySem.W.Frag → Sp} {x : Str}
    (hn : l.most = some n) (hn2 : n ≤ sizeLine) (hdf : d.params.defaults = []) (hr : Room k callerA)
    (hY : ∀ (w : World) (h : Heap), YP w h → (K w.params).In h)
    (F : ∀ (w : World) (mg : Str → Option Value) (fa : Addr) (h : Heap), (K w.params).In h → h.Ns mainGlobals mg → mg d.name = some (.ref fa) →
      ∃ fd : FuncData, (∀ (s : Shared) (u : Value), BindsTo s fd ⟨[u], []⟩ [(x, u)]) ∧
        ∀ base : Heap, (K w.params).In base → base.Ns mainGlobals mg → FnOk l.prog w (K w.params) mg base CX k fa fd [x] (sp (K w.params)))
    (hsp : ∀ (K : PySem.W.Frag) (H : Hp) (a : Addr) (ns : List Int), ns.length ≤ n → Only H → SqL K H a (ns.map V.int) → sp K [.ref a] H (fun v _ => v = .bl true) fun _ _ _ => False)
    (hCX : ∀ (H : Hp) (s : Shared) (e : Value) (s' : Shared), CX [] H s (fun _ _ _ => False) e s' → False) :
    PySem.W.WalkO q loose XP YP l.row.toRowW d [] (fun f vs => PySem.call f vs) :=
  walk_of (K := K) (CX := fun _ => CX) (sp := fun w => sp (K w.params)) hn hn2 hdf hr hY F (fun w H a ns h1 h2 h3 => hsp (K w.params) H a ns h1 h2 h3) fun _ H s e s' => hCX H s e s'
end L2

/- THE LAST THEOREM (shape; LID, My.* are yours):
   My.Adr: a structure of the addresses that your layer names (classes, functions); My.Txt K t: a structure (Prop) of the equations over K;
   My.txt_mk : {K} {implicit addresses ..} (e1 : nsIn K mainGlobals "law" = some (some (.ref f))) (e2 : K.lookup f = some ⟨oc, od, .func (fnOf "law" "law" params body scope dV kV doc pm an cdv ct), sl⟩) (e3 : codeIn K cdv "law" = true) .. : ∃ t, My.Txt K t

set_option maxRecDepth 100000 in
set_option maxHeartbeats 0 in
theorem PySem.Challenge.cw_LID_holds : PySem.Challenge.rw_LID.Holds := by
  w_on; o_law; k_head; (case hw => w_witness2)
  k_fill
  refine L2.walk_of (l := PySem.Challenge.rw_LID) (n := 63) (k := 40) (x := "script") (CX := fun w => ..) (sp := fun _ => My.sp_law) rfl (by decide) rfl ⟨rfl, by decide, by decide⟩ (fun w h Y => PySem.W.kIn_of Y) ?F ?S ?C
  case F =>
    intro w mg fa h KX G hmg
    have T : ∃ t, My.Txt (L2.KOf KX) t := by
      dsimp only [L2.KOf]                          -- K must stand as «<heap const> w.params» for k_is
      refine' My.txt_mk ?e1 ?e2 ?e3 ..
      (case e1 => PySem.W.k_is)                    -- in the order: a name -> its address -> its object -> its parts
      (case e2 => PySem.W.k_is)
      ..
    obtain ⟨t, T⟩ := T
    have e0 := hmg.symm.trans (PySem.W.mg_of KX G T.law)
    cases e0                                       -- fa is the law's own address
    exact ⟨_, fun s u => .of_eq rfl, fun base kb nb => My.law_fn T kb nb⟩     -- if «.of_eq rfl» comes too early: refine' ⟨_, ?b, fun base kb nb => My.law_fn T kb nb⟩; exact fun s u => .of_eq rfl
  case S => exact fun w H a ns hl hO hS => ..
  case C => exact ..
(the tactic k_is has no namespace: write k_is) -/

/-! SHORT WORDS over the layer: a def of the text, its body, what a loop and a test want. -/
namespace L2
open PySem PySem.Spec PyProof.Rows

/-! ### the text by places -/
/-- the j-th statement of a class's body -/
def inClass (s : Stmt) (j : Nat) : Stmt := match s with
  | .ClassDef _ _ _ body _ _ _ _ _ _ _ => body.getD j (.Pass ⟨0, 0, 0, 0⟩)
  | _ => .Pass ⟨0, 0, 0, 0⟩
def defArgs (s : Stmt) : Arguments := match s with
  | .FunctionDef _ a _ _ _ _ _ _ _ _ => a
  | _ => { posonlyargs := [], args := [], vararg := none, kwonlyargs := [], kw_defaults := [], kwarg := none, defaults := [] }
def defBody (s : Stmt) : List Stmt := match s with
  | .FunctionDef _ _ b _ _ _ _ _ _ _ => b
  | _ => []
def defScope (s : Stmt) : Scope := match s with
  | .FunctionDef _ _ _ _ _ _ sc _ _ _ => sc
  | _ => { kind := .function, names := [], isGenerator := false, isCoroutine := false }

/-! ### no exception leaves a def -/
abbrev CX0 : CXT := fun _ _ _ _ _ _ => False
abbrev E0 : XK := fun _ _ _ => False
theorem pass0 {X : Cx} : Passes CX0 X E0 := fun _ _ _ _ _ _ _ h => h.elim

/-! ### a def (or method) of the text as it stands behind the top -/
structure Fun (K : PySem.W.Frag) (x qual : Str) (st : Stmt) (f : Addr) (fd : FuncData) : Prop where
  ex : ∃ (oc : Value) (od : Option Addr) (kV doc pm : Value) (an : Option Addr) (cdv ct : Value) (osl : Array (Option Value)),
    fd = PySem.W.fnOf x qual (defArgs st) (defBody st) (defScope st) .none kV doc pm an cdv ct ∧ K.lookup f = some ⟨oc, od, .func fd, osl⟩ ∧ PySem.W.codeIn K cdv qual = true
  kp : PySem.W.keepIn K (.ref f) = true
section
variable {P : Program} {w : World} {K : PySem.W.Frag} {mg : Str → Option Value} {base : Heap}
/-- THE RULE for a def: its body as a term of rules, and the reading of that term -/
theorem Fun.ok {x qual : Str} {st : Stmt} {f : Addr} {fd : FuncData} {N ps : List Str} {k : Nat} {sp : Sp} (F : Fun K x qual st f fd) (S : FnScope N ps (defScope st)) (len : ∀ vs H Q E, sp vs H Q E → vs.length = ps.length)
    (hbody : ∀ (cdv : Value) (A : Around) (outer : List Env) (s : Shared) (H : Hp) (vs : List V) (Q : VK) (E : XK), Room k (A.deeper (envOfC qual (defScope st) s.heap.objs.size f cdv)) → sp vs H Q E →
      ∃ t, PSs (cxOf CX0 P w K mg base N qual (defScope st) f cdv A outer s H E).nox (defBody st) t ∧ t { nx := fun _ H' => Q .non H', rt := Q } (start N vs) H) : FnOk P w K mg base CX0 (k + 1) f fd ps sp := by
  obtain ⟨oc, od, kV, doc, pm, an, cdv, ct, osl, rfl, lk, hcd⟩ := F.ex
  refine fn_of lk hcd S len fun A outer s H vs Q E hr hsp => ?_
  obtain ⟨t, h, q⟩ := hbody cdv A outer s H vs Q E hr hsp
  exact ⟨t, h.nox, q⟩
/-- how its arguments bind (no defaults): h is «fun _ _ _ _ _ _ us hl => match us, hl with | [_, _], _ => rfl», one _ a parameter -/
theorem Fun.binds {x qual : Str} {st : Stmt} {f : Addr} {fd : FuncData} {ps : List Str} (F : Fun K x qual st f fd)
    (h : ∀ (kV doc pm : Value) (an : Option Addr) (cdv ct : Value) (us : List Value), us.length = ps.length → bindArgs (PySem.W.fnOf x qual (defArgs st) (defBody st) (defScope st) .none kV doc pm an cdv ct) ⟨us, []⟩ = pure (ps.zip us)) : Binds K fd ps [] := by
  obtain ⟨oc, od, kV, doc, pm, an, cdv, ct, osl, rfl, lk, hcd⟩ := F.ex
  exact .all (h kV doc pm an cdv ct)
theorem fun_mk {x qual : Str} {st : Stmt} {f : Addr} {oc : Value} {od an : Option Addr} {osl : Array (Option Value)} {kV doc pm cdv ct : Value} (l : K.lookup f = some ⟨oc, od, .func (PySem.W.fnOf x qual (defArgs st) (defBody st) (defScope st) .none kV doc pm an cdv ct), osl⟩)
    (c : PySem.W.codeIn K cdv qual = true) (k : PySem.W.keepIn K (.ref f) = true) : Fun K x qual st f (PySem.W.fnOf x qual (defArgs st) (defBody st) (defScope st) .none kV doc pm an cdv ct) := ⟨⟨oc, od, kV, doc, pm, an, cdv, ct, osl, rfl, l, c⟩, k⟩
end
theorem hu_of {A : Around} {k : Nat} (hr : Room k A) : A.units + 1 < cLine := Nat.lt_of_le_of_lt (Nat.add_le_add_left (by decide : 1 ≤ 64) _) hr.units
theorem small1000 {n : Nat} (h : n ≤ 1000) : n < sizeLine := Nat.lt_of_le_of_lt h (by decide)

/-! ### expressions in short: the name that stands in the i-th slot -/
section
variable {X : Cx}
theorem pv (i : Nat) {x : Str} {pos : Pos} (hN : X.N[i]? = some x := by rfl) (hv : Vis X.env.scope x := by first | exact Or.inl rfl | exact Or.inr (Or.inl rfl) | exact Or.inr (Or.inr rfl)) (hd : (x == ("__debug__" : Str)) = false := by decide)
    (hcd : (x == ("__classdict__" : Str)) = false := by decide) : PE X (.Name x pos) (tVar i) := pe_var hN hv hd hcd
end

/-! ### tests -/
theorem iteF {A B : Prop} (h : B) : if false = true then A else B := by
  rw [if_neg Bool.false_ne_true]
  exact h
theorem iteT {A B : Prop} (h : A) : if true = true then A else B := by
  rw [if_pos rfl]
  exact h
theorem ite2 {c A B : Prop} [Decidable c] (h1 : c → A) (h2 : ¬ c → B) : if c then A else B := by
  by_cases h : c
  · rw [if_pos h]
    exact h1 h
  · rw [if_neg h]
    exact h2 h
theorem iteNS {c A B : Prop} [Decidable c] (hc : c) (h : B) : if (!decide c) = true then A else B := by
  rw [decide_eq_true hc]
  exact iteF h

/-! ### heaps -/
/-- all that was tracked is as it was -/
def Same (H H' : Hp) : Prop := ∀ b o, H b = some o → H' b = some o
theorem Same.refl (H : Hp) : Same H H := fun _ _ h => h
theorem Same.trans {H H1 H2 : Hp} (a : Same H H1) (b : Same H1 H2) : Same H H2 := fun c o h => b c o (a c o h)
theorem Same.free {H H' : Hp} (e : Same H H') {l : Addr} (h : H' l = Option.none) : H l = Option.none := by
  cases q : H l with
  | none => rfl
  | some o =>
    rw [e l o q] at h
    cases h
theorem Same.seq {K : PySem.W.Frag} {H H' : Hp} {a : Addr} {xs : List V} (e : Same H H') (h : SqL K H a xs) : SqL K H' a xs := by
  rcases h with (h | ⟨o, h⟩) | h
  · exact .inl (.inl (e _ _ h))
  · exact .inl (.inr ⟨o, e _ _ h⟩)
  · exact .inr h

end L2

set_option maxHeartbeats 4000000
namespace L2
open PySem PySem.Spec PyProof.Rows
/-! ### lists of pairs as tables -/
section
variable {κ : Type} [DecidableEq κ]
def valV (kvs : List (κ × V)) (k : κ) : Option V := (kvs.find? fun kv => decide (kv.1 = k)).map (·.2)
/-- in its place, or at the end -/
def putK (kvs : List (κ × V)) (k : κ) (v : V) : List (κ × V) :=
  if (kvs.any fun kv => decide (kv.1 = k)) = true then kvs.map (fun kv => if kv.1 = k then (kv.1, v) else kv) else kvs ++ [(k, v)]
def dropK (kvs : List (κ × V)) (k : κ) : List (κ × V) := kvs.filter fun kv => decide (kv.1 ≠ k)

theorem valV_nil {k : κ} : valV ([] : List (κ × V)) k = none := rfl
theorem valV_pos {p : κ × V} {r : List (κ × V)} {k : κ} (e : p.1 = k) : valV (p :: r) k = some p.2 := by simp [valV, List.find?_cons, e]
theorem valV_neg {p : κ × V} {r : List (κ × V)} {k : κ} (e : ¬ p.1 = k) : valV (p :: r) k = valV r k := by simp [valV, List.find?_cons, e]
theorem valV_any (k : κ) : ∀ kvs : List (κ × V), (kvs.any fun kv => decide (kv.1 = k)) = (valV kvs k).isSome
  | [] => rfl
  | p :: r => by
    rw [List.any_cons]
    by_cases e : p.1 = k
    · simp only [valV_pos e, decide_eq_true e, Bool.true_or, Option.isSome_some]
    · rw [valV_neg e, decide_eq_false e, Bool.false_or]; exact valV_any k r
theorem valV_map (k j : κ) (y : V) : ∀ kvs : List (κ × V), valV (kvs.map fun kv => if kv.1 = k then (kv.1, y) else kv) j = (valV kvs j).map fun x => if j = k then y else x
  | [] => rfl
  | p :: r => by
    have ih := valV_map k j y r
    rw [List.map_cons]
    by_cases h : p.1 = k
    · rw [if_pos h]
      by_cases e : p.1 = j
      · rw [valV_pos (p := (p.1, y)) e, valV_pos e, Option.map_some, if_pos (e.symm.trans h)]
      · rw [valV_neg (p := (p.1, y)) e, valV_neg e, ih]
    · rw [if_neg h]
      by_cases e : p.1 = j
      · rw [valV_pos (p := p) e, valV_pos e, Option.map_some, if_neg (fun z => h (e.trans z))]
      · rw [valV_neg (p := p) e, valV_neg e, ih]
theorem valV_snoc (k j : κ) (y : V) : ∀ kvs : List (κ × V), valV kvs k = none → valV (kvs ++ [(k, y)]) j = if j = k then some y else valV kvs j
  | [], _ => by
    by_cases e : k = j
    · rw [if_pos e.symm]; exact valV_pos (p := (k, y)) e
    · rw [if_neg (fun z => e z.symm)]; exact valV_neg (p := (k, y)) e
  | p :: r, hn => by
    rw [List.cons_append]
    have hk : ¬ p.1 = k := fun z => by rw [valV_pos z] at hn; cases hn
    rw [valV_neg hk] at hn
    have ih := valV_snoc k j y r hn
    by_cases e : p.1 = j
    · rw [valV_pos e, valV_pos e, if_neg (fun z => hk (e.trans z))]
    · rw [valV_neg e, valV_neg e, ih]
theorem valV_put (kvs : List (κ × V)) (k j : κ) (y : V) : valV (putK kvs k y) j = if j = k then some y else valV kvs j := by
  unfold putK
  by_cases a : (kvs.any fun kv => decide (kv.1 = k)) = true
  · rw [if_pos a, valV_map]
    rw [valV_any] at a
    by_cases e : j = k
    · obtain ⟨x, hx⟩ := Option.isSome_iff_exists.mp a
      rw [if_pos e, e, hx, Option.map_some, if_pos rfl]
    · rw [if_neg e]
      cases valV kvs j with
      | none => rfl
      | some x => rw [Option.map_some, if_neg e]
  · rw [if_neg a]
    refine valV_snoc k j y kvs ?_
    rw [valV_any] at a
    cases q : valV kvs k with
    | none => rfl
    | some x => rw [q] at a; exact (a rfl).elim
theorem length_putK (kvs : List (κ × V)) (k : κ) (v : V) : (putK kvs k v).length ≤ kvs.length + 1 := by
  unfold putK
  split
  · rw [List.length_map]; omega
  · rw [List.length_append, List.length_cons, List.length_nil]; omega
theorem putK_new {kvs : List (κ × V)} {k : κ} (v : V) (h : valV kvs k = none) : putK kvs k v = kvs ++ [(k, v)] := by
  unfold putK
  rw [valV_any, h]
  exact if_neg (by decide)

theorem RelO.isSome_eq {o : Option V} {u : Option Value} (r : RelO o u) : o.isSome = u.isSome := by
  cases o with
  | none => cases u with
    | none => rfl
    | some _ => exact (show False from r).elim
  | some _ => cases u with
    | none => exact (show False from r).elim
    | some _ => rfl
theorem RelO.getD {o : Option V} {u : Option Value} {d : V} {d' : Value} (r : RelO o u) (rd : RelV d d') : RelV (o.getD d) (u.getD d') := by
  cases o with
  | none => cases u with
    | none => exact rd
    | some _ => exact (show False from r).elim
  | some _ => cases u with
    | none => exact (show False from r).elim
    | some _ => exact r

/-- raw tables of the same keys -/
theorem KV.val {kvs : List (κ × V)} {vs : List (κ × Value)} (r : KV kvs vs) (k : κ) : RelO (valV kvs k) (valueAt vs k) := by
  unfold KV at r
  induction r with
  | nil => exact True.intro
  | @cons p q ps qs h t ih =>
    obtain ⟨h1, h2⟩ := h
    by_cases e : p.1 = k
    · have e' : q.1 = k := h1.symm.trans e
      have b : valueAt (q :: qs) k = some q.2 := by simp [valueAt, List.find?_cons, e']
      rw [valV_pos e, b]; exact h2
    · have e' : ¬ q.1 = k := fun z => e (h1.trans z)
      have b : valueAt (q :: qs) k = valueAt qs k := by simp [valueAt, List.find?_cons, e']
      rw [valV_neg e, b]; exact ih
theorem KV.any {kvs : List (κ × V)} {vs : List (κ × Value)} (r : KV kvs vs) (k : κ) : (kvs.any fun kv => decide (kv.1 = k)) = vs.any fun kv => decide (kv.1 = k) := by
  unfold KV at r
  induction r with
  | nil => rfl
  | cons h t ih => rw [List.any_cons, List.any_cons, ih, h.1]
theorem KV.repl {kvs : List (κ × V)} {vs : List (κ × Value)} (r : KV kvs vs) (k : κ) {y : V} {u : Value} (ry : RelV y u) :
    KV (kvs.map fun kv => if kv.1 = k then (kv.1, y) else kv) (vs.map fun kv => if kv.1 = k then (kv.1, u) else kv) := by
  unfold KV at r ⊢
  induction r with
  | nil => exact .nil
  | @cons p q ps qs h t ih =>
    rw [List.map_cons, List.map_cons]
    refine .cons ?_ ih
    obtain ⟨h1, h2⟩ := h
    by_cases e : p.1 = k
    · rw [if_pos e, if_pos (h1.symm.trans e)]; exact ⟨h1, ry⟩
    · rw [if_neg e, if_neg (fun z => e (h1.trans z))]; exact ⟨h1, h2⟩
theorem KV.put {kvs : List (κ × V)} {vs : List (κ × Value)} (r : KV kvs vs) (k : κ) {y : V} {u : Value} (ry : RelV y u) : KV (putK kvs k y) (stored vs k u) := by
  unfold putK stored
  rw [r.any k]
  by_cases e : (vs.any fun kv => decide (kv.1 = k)) = true
  · rw [if_pos e, if_pos e]; exact r.repl k ry
  · rw [if_neg e, if_neg e]; exact Paired.snoc r ⟨rfl, ry⟩
theorem KV.drop {kvs : List (κ × V)} {vs : List (κ × Value)} (r : KV kvs vs) (k : κ) : KV (dropK kvs k) (without vs k) := by
  unfold KV at r ⊢
  unfold dropK without
  induction r with
  | nil => exact .nil
  | @cons p q ps qs h t ih =>
    obtain ⟨h1, h2⟩ := h
    rw [List.filter_cons, List.filter_cons]
    by_cases e : p.1 = k
    · have a : ¬ decide (p.1 ≠ k) = true := by simp [e]
      have b : ¬ decide (q.1 ≠ k) = true := by simp [h1.symm.trans e]
      rw [if_neg a, if_neg b]; exact ih
    · have e' : ¬ q.1 = k := fun z => e (h1.trans z)
      have a : decide (p.1 ≠ k) = true := by simp [e]
      have b : decide (q.1 ≠ k) = true := by simp [e']
      rw [if_pos a, if_pos b]; exact .cons ⟨h1, h2⟩ ih
theorem KV.keys {kvs : List (κ × V)} {vs : List (κ × Value)} (r : KV kvs vs) : kvs.map (·.1) = vs.map (·.1) := by
  unfold KV at r
  induction r with
  | nil => rfl
  | cons h t ih => rw [List.map_cons, List.map_cons, ih, h.1]
theorem KV.length {kvs : List (κ × V)} {vs : List (κ × Value)} (r : KV kvs vs) : kvs.length = vs.length := Paired.length r
theorem dropK_le (kvs : List (κ × V)) (k : κ) : (dropK kvs k).length ≤ kvs.length := List.length_filter_le _ _
end


/-! ### a tracked dict, its keys ints and texts or tuples of these -/
theorem kV_is {P : Program} {w : World} {k : Key} {u : Value} (r : RelV (kV k) u) : (mixKind P w).is k u = true := by
  cases k with
  | inl i => obtain ⟨t, e⟩ := (show ∃ t, u = Value.int i t from r); subst e; exact mixKind_int P w i t
  | inr x => obtain ⟨t, e⟩ := (show ∃ t, u = Value.str x t from r); subst e; exact mixKind_str P w x t
theorem kV_inj {a b : Key} (e : kV a = kV b) : a = b := by
  cases a with
  | inl i => cases b with
    | inl j => have e' : V.int i = V.int j := e; injection e' with e'; rw [e']
    | inr y => exact nomatch (show V.int i = V.str y from e)
  | inr x => cases b with
    | inl j => exact nomatch (show V.str x = V.int j from e)
    | inr y => have e' : V.str x = V.str y := e; injection e' with e'; rw [e']
theorem kVs_inj : ∀ {a b : List Key}, a.map kV = b.map kV → a = b
  | [], [], _ => rfl
  | [], _ :: _, e => by simp at e
  | _ :: _, [], e => by simp at e
  | x :: xs, y :: ys, e => by
    rw [List.map_cons, List.map_cons] at e
    injection e with e1 e2
    rw [kV_inj e1, kVs_inj e2]
theorem items_are {P : Program} {w : World} : ∀ {ks : List Key} {us : List Value}, Vals (ks.map kV) us → ItemsAre (mixKind P w) ks us
  | [], _, r => by rw [List.map_nil] at r; cases r; exact .nil
  | k :: ks, _, r => by
    rw [List.map_cons] at r
    cases r with
    | cons h t => exact .cons (kV_is h) (items_are t)

/-- raw entries of a dict with tuple keys -/
abbrev KT (H : Hp) : List (List Key × V) → List (List Key × Addr × Value) → Prop := Paired fun p q => p.1 = q.1 ∧ H q.2.1 = some (.tup (p.1.map kV)) ∧ RelV p.2 q.2.2
theorem KT.val {H : Hp} {kvs : List (List Key × V)} {xs : List (List Key × Addr × Value)} (r : KT H kvs xs) (k : List Key) : RelO (valV kvs k) ((atKey xs k).map (·.2)) := by
  induction r with
  | nil => exact True.intro
  | @cons p q ps qs h t ih =>
    obtain ⟨h1, _, h2⟩ := h
    by_cases e : p.1 = k
    · have e' : q.1 = k := h1.symm.trans e
      have b : atKey (q :: qs) k = some q.2 := by simp [atKey, List.find?_cons, e']
      rw [valV_pos e, b]; exact h2
    · have e' : ¬ q.1 = k := fun z => e (h1.trans z)
      have b : atKey (q :: qs) k = atKey qs k := by simp [atKey, List.find?_cons, e']
      rw [valV_neg e, b]; exact ih
theorem KT.repl {H : Hp} {kvs : List (List Key × V)} {xs : List (List Key × Addr × Value)} (r : KT H kvs xs) (k : List Key) {y : V} {u : Value} (ry : RelV y u) :
    KT H (kvs.map fun kv => if kv.1 = k then (kv.1, y) else kv) (xs.map (putAt k u)) := by
  induction r with
  | nil => exact .nil
  | @cons p q ps qs h t ih =>
    rw [List.map_cons, List.map_cons]
    refine .cons ?_ ih
    obtain ⟨h1, h2, h3⟩ := h
    unfold putAt
    by_cases e : p.1 = k
    · rw [if_pos e, if_pos (h1.symm.trans e)]; exact ⟨h1, h2, ry⟩
    · rw [if_neg e, if_neg (fun z => e (h1.trans z))]; exact ⟨h1, h2, h3⟩
theorem KT.put {H : Hp} {kvs : List (List Key × V)} {xs : List (List Key × Addr × Value)} (r : KT H kvs xs) (k : List Key) {b : Addr} {y : V} {u : Value} (hb : H b = some (.tup (k.map kV))) (ry : RelV y u) :
    KT H (putK kvs k y) (storedH xs k b u) := by
  have e : (kvs.any fun kv => decide (kv.1 = k)) = (atKey xs k).isSome := by
    rw [valV_any, (r.val k).isSome_eq, Option.isSome_map]
  unfold putK storedH
  rw [e]
  by_cases q : (atKey xs k).isSome = true
  · rw [if_pos q, if_pos q]; exact r.repl k ry
  · rw [if_neg q, if_neg q]; exact Paired.snoc r ⟨rfl, hb, ry⟩
theorem KT.keeps {H H' : Hp} {kvs : List (List Key × V)} {xs : List (List Key × Addr × Value)} (r : KT H kvs xs) (ht : ∀ b ys, H b = some (.tup ys) → H' b = some (.tup ys)) : KT H' kvs xs :=
  Paired.mapP r fun _ _ z => ⟨z.1, ht _ _ z.2.1, z.2.2⟩

section
variable {P : Program} {w : World} {H : Hp} {h : Heap} {a : Addr}
theorem rd_of {u : HO} (ok : HOk P w H h) (e : Rd H a u) : ObjOk P w H h a u := e.ok ok
theorem dk_rd {kvs : List (Key × V)} (ok : HOk P w H h) (e : Rd H a (.dK kvs)) : kvs.length ≤ sizeLine ∧ (a == sysModules) = false ∧ ∃ vs, KV kvs vs ∧ h.DictOf (mixKind P w) a vs :=
  show ObjOk P w H h a (.dK kvs) from rd_of ok e
theorem dk_of {kvs : List (Key × V)} (ok : HOk P w H h) (e : H a = some (.dK kvs)) : kvs.length ≤ sizeLine ∧ (a == sysModules) = false ∧ ∃ vs, KV kvs vs ∧ h.DictOf (mixKind P w) a vs := dk_rd ok (.inl e)
/-- a tracked tuple of ints and texts is a key -/
theorem key_of {ks : List Key} (ok : HOk P w H h) (e : H a = some (.tup (ks.map kV))) : (tupleKind (mixKind P w)).is h ks a := by
  obtain ⟨_, its, r, o, h1, h2, n, h3⟩ := (show ObjOk P w H h a (.tup (ks.map kV)) from ok a _ e)
  exact ⟨o, its.toArray, n, h1, h2, h3, by simpa using items_are r⟩
theorem dt_rd {kvs : List (List Key × V)} (ok : HOk P w H h) (e : Rd H a (.dT kvs)) : kvs.length ≤ sizeLine ∧ (a == sysModules) = false ∧
    ∃ xs, KT H kvs xs ∧ h.DictOfH (tupleKind (mixKind P w)) a xs := by
  obtain ⟨z, y, xs, r, o, es, ep, h1, h2, h3, h4, h5⟩ := (show ObjOk P w H h a (.dT kvs) from rd_of ok e)
  refine ⟨z, y, xs, r, o, es, ep, h1, h2, h3, h4, fun x hx => ?_, h5⟩
  have all : ∀ {l : List (List Key × V)} {m : List (List Key × Addr × Value)}, KT H l m → ∀ x ∈ m, (tupleKind (mixKind P w)).is h x.1 x.2.1 := by
    intro l m q
    induction q with
    | nil => intro x hx; exact nomatch hx
    | @cons p q ps qs hq t ih =>
      intro x hx
      rcases List.mem_cons.mp hx with e | hx
      · subst e
        exact key_of ok (by rw [← hq.1]; exact hq.2.1)
      · exact ih x hx
  exact all r x hx
theorem dt_of {kvs : List (List Key × V)} (ok : HOk P w H h) (e : H a = some (.dT kvs)) : kvs.length ≤ sizeLine ∧ (a == sysModules) = false ∧
    ∃ xs, KT H kvs xs ∧ h.DictOfH (tupleKind (mixKind P w)) a xs := dt_rd ok (.inl e)
end

/-- what the dict at a holds at the key y -/
def DGet (H : Hp) (a : Addr) (y : V) (r : Option V) : Prop :=
  (∃ kvs k, Rd H a (.dK kvs) ∧ y = kV k ∧ r = valV kvs k) ∨ ∃ kvs k b, Rd H a (.dT kvs) ∧ y = .ref b ∧ H b = some (.tup (k.map kV)) ∧ r = valV kvs k
/-- the heap behind a[y] = v -/
def DPut (H : Hp) (a : Addr) (y v : V) (H' : Hp) : Prop :=
  (∃ kvs k, H a = some (.dK kvs) ∧ y = kV k ∧ kvs.length < sizeLine ∧ H' = upd H a (.dK (putK kvs k v))) ∨
  ∃ kvs k b, H a = some (.dT kvs) ∧ y = .ref b ∧ H b = some (.tup (k.map kV)) ∧ kvs.length < sizeLine ∧ H' = upd H a (.dT (putK kvs k v))
theorem DGet.k {H : Hp} {a : Addr} {kvs : List (Key × V)} {k : Key} (e : H a = some (.dK kvs)) : DGet H a (kV k) (valV kvs k) := .inl ⟨kvs, k, .inl e, rfl, rfl⟩
theorem DGet.t {H : Hp} {a b : Addr} {kvs : List (List Key × V)} {k : List Key} (e : H a = some (.dT kvs)) (eb : H b = some (.tup (k.map kV))) : DGet H a (.ref b) (valV kvs k) := .inr ⟨kvs, k, b, .inl e, rfl, eb, rfl⟩
theorem DPut.k {H : Hp} {a : Addr} {kvs : List (Key × V)} {k : Key} {v : V} (e : H a = some (.dK kvs)) (hl : kvs.length < sizeLine) : DPut H a (kV k) v (upd H a (.dK (putK kvs k v))) := .inl ⟨kvs, k, e, rfl, hl, rfl⟩
theorem DPut.t {H : Hp} {a b : Addr} {kvs : List (List Key × V)} {k : List Key} {v : V} (e : H a = some (.dT kvs)) (eb : H b = some (.tup (k.map kV))) (hl : kvs.length < sizeLine) :
    DPut H a (.ref b) v (upd H a (.dT (putK kvs k v))) := .inr ⟨kvs, k, b, e, rfl, eb, hl, rfl⟩


section
variable {X : Cx} {pins : List (Addr × Obj)} {σ : St} {H : Hp} {s : Shared} {a : Addr} {y v : V} {u r : Value} {o : Option V} {A : Around} {E : Value → Shared → Prop}

theorem Inv.big (I : Inv X pins σ H s) : sysModules < s.heap.objs.size := by
  have h : mainGlobals < s.heap.objs.size := (I.mod.glob.keeps I.bk).lt
  exact Nat.lt_trans (by decide) h

/-- d[y], there -/
theorem d_getItem {Q : Value → Shared → Prop} (hu : A.units + 1 < cLine) (I : Inv X pins σ H s) (g : DGet H a y (some v)) (ry : RelV y u) (h : ∀ w' s', Inv X pins σ H s' → RelV v w' → Q w' s') :
    wpAny (model X.prog X.w) A (getItem (.ref a) u) Q E s := by
  rcases g with ⟨kvs, k, e, ey, l⟩ | ⟨kvs, k, b, e, ey, eb, l⟩
  · subst ey
    obtain ⟨z, hd, vs, rel, dd⟩ := dk_rd I.hok e
    obtain ⟨w', hw, rw'⟩ := RelO.some_of (v := v) (o := valueAt vs k) (by rw [l]; exact rel.val k)
    exact wpAny_getItem_of (kV_is ry) dd.mapOf hw (h w' _ (I.tok _) rw')
  · subst ey
    cases (show u = Value.ref b from ry)
    obtain ⟨z, hd, xs, rel, dd⟩ := dt_rd I.hok e
    obtain ⟨w', hw, rw'⟩ := RelO.some_of (v := v) (o := (atKey xs k).map (·.2)) (by rw [l]; exact rel.val k)
    obtain ⟨p, hp, hp2⟩ := Option.map_eq_some_iff.mp hw
    refine wpAny_getItem_heap (tupleKind_room_in1 hu) (key_of I.hok eb) dd hp ?_
    rw [hp2]
    exact h w' _ (I.tok _) rw'
/-- y in d -/
theorem d_in {Q : Value → Shared → Prop} (hu : A.units + 1 < cLine) (I : Inv X pins σ H s) (g : DGet H a y o) (ry : RelV y u) (h : ∀ s', Inv X pins σ H s' → Q (.bool o.isSome) s') :
    wpAny (model X.prog X.w) A (compareOp .In u (.ref a)) Q E s := by
  rcases g with ⟨kvs, k, e, ey, l⟩ | ⟨kvs, k, b, e, ey, eb, l⟩
  · subst ey
    obtain ⟨z, hd, vs, rel, dd⟩ := dk_rd I.hok e
    refine wpAny_in_of (kV_is ry) hd dd.mapOf ?_
    rw [← (rel.val k).isSome_eq, ← l]
    exact h _ (I.tok _)
  · subst ey
    cases (show u = Value.ref b from ry)
    obtain ⟨z, hd, xs, rel, dd⟩ := dt_rd I.hok e
    refine wpAny_in_heap (tupleKind_room_in1 hu) (key_of I.hok eb) hd dd ?_
    have q := (rel.val k).isSome_eq
    rw [Option.isSome_map] at q
    rw [← q, ← l]
    exact h _ (I.tok _)
theorem d_notIn {Q : Value → Shared → Prop} (hu : A.units + 1 < cLine) (I : Inv X pins σ H s) (g : DGet H a y o) (ry : RelV y u) (h : ∀ s', Inv X pins σ H s' → Q (.bool (!o.isSome)) s') :
    wpAny (model X.prog X.w) A (compareOp .NotIn u (.ref a)) Q E s := by
  rcases g with ⟨kvs, k, e, ey, l⟩ | ⟨kvs, k, b, e, ey, eb, l⟩
  · subst ey
    obtain ⟨z, hd, vs, rel, dd⟩ := dk_rd I.hok e
    refine wpAny_notIn_of (kV_is ry) hd dd.mapOf ?_
    rw [← (rel.val k).isSome_eq, ← l]
    exact h _ (I.tok _)
  · subst ey
    cases (show u = Value.ref b from ry)
    obtain ⟨z, hd, xs, rel, dd⟩ := dt_rd I.hok e
    refine wpAny_notIn_heap (tupleKind_room_in1 hu) (key_of I.hok eb) hd dd ?_
    have q := (rel.val k).isSome_eq
    rw [Option.isSome_map] at q
    rw [← q, ← l]
    exact h _ (I.tok _)
/-- a dict's object is replaced -/
theorem d_write {h' : Heap} {t' : Nat} {ob : HO} (I : Inv X pins σ H s) (mu : Mut (H a)) (hs : Heap.SameBut a s.heap h') (he : ∃ q, h'.get? a = some q) (new : ObjOk X.prog X.w (upd H a ob) h' a ob) :
    Inv X pins σ (upd H a ob) { s with heap := h', toks := t' } :=
  I.write (x := a) (e := a) mu (.inl rfl) (fun b q hb z => (hs.2 b hb).trans z) he new
theorem dk_new {P : Program} {w : World} {H' : Hp} {h' : Heap} {kvs : List (Key × V)} {vs : List (Key × Value)} (z : kvs.length ≤ sizeLine) (hd : (a == sysModules) = false) (rel : KV kvs vs) (dd : h'.DictOf (mixKind P w) a vs) :
    ObjOk P w H' h' a (.dK kvs) := ⟨z, hd, vs, rel, dd⟩
/-- d[y] = v -/
theorem d_setItem {H' : Hp} {Q : Unit → Shared → Prop} (hu : A.units + 1 < cLine) (I : Inv X pins σ H s) (g : DPut H a y v H') (ry : RelV y u) (rv : RelV v r) (h : ∀ s', Inv X pins σ H' s' → Q () s') :
    wpAny (model X.prog X.w) A (setItem (.ref a) u r) Q E s := by
  rcases g with ⟨kvs, k, e, ey, l, eH⟩ | ⟨kvs, k, b, e, ey, eb, l, eH⟩
  · subst ey eH
    obtain ⟨z, hd, vs, rel, dd⟩ := dk_of I.hok e
    have hz : vs.length ≤ sizeLine := by rw [← rel.length]; exact z
    have hl : (putK kvs k v).length ≤ sizeLine := by have := length_putK kvs k v; omega
    refine wpAny_setItem_pairs (hsz := hz) (kV_is ry) dd fun h' dd' hs => h _ ?_
    have he : ∃ q, h'.get? a = some q := let ⟨q, _, _, hq, _⟩ := dd'; ⟨q, hq⟩
    exact d_write I (by rw [e]; exact True.intro) hs he (dk_new hl hd (rel.put k rv) dd')
  · subst ey eH
    cases (show u = Value.ref b from ry)
    obtain ⟨z, hd, xs, rel, dd⟩ := dt_of I.hok e
    have hz : xs.length ≤ sizeLine := by rw [← Paired.length rel]; exact z
    have hl : (putK kvs k v).length ≤ sizeLine := by have := length_putK kvs k v; omega
    refine wpAny_setItem_heap (hsz := hz) (tupleKind_room_in1 hu) (key_of I.hok eb) dd fun h' dd' hs => h _ ?_
    obtain ⟨q, es, ep, hq, h2, h3, h4, _, h5⟩ := dd'
    refine d_write I (by rw [e]; exact True.intro) hs ⟨q, hq⟩ ⟨hl, hd, _, (rel.put k eb rv).keeps fun c ys ec => ?_, q, es, ep, hq, h2, h3, h4, h5⟩
    rw [upd_ne (ne_of ec e (fun z => nomatch z))]
    exact ec
end

section
variable {X : Cx} {pins : List (Addr × Obj)} {σ : St} {H : Hp} {s : Shared} {a : Addr} {kvs : List (Key × V)} {k : Key} {u : Value} {A : Around} {E : Value → Shared → Prop}
/-- del d[k] -/
theorem d_delItem {Q : Unit → Shared → Prop} (I : Inv X pins σ H s) (e : H a = some (.dK kvs)) (ry : RelV (kV k) u) (l : (valV kvs k).isSome = true) (h : ∀ s', Inv X pins σ (upd H a (.dK (dropK kvs k))) s' → Q () s') :
    wpAny (model X.prog X.w) A (delItem (.ref a) u) Q E s := by
  obtain ⟨z, hd, vs, rel, dd⟩ := dk_of I.hok e
  refine wpAny_delItem_slot dd.typeIs (by decide) PySem.F.slot_dict_delitem
    (call_meetsIn PySem.F.slot_dict_delitem dd.typeIs PySem.F.entry_dict_delitem (PySem.F.args_dict_delitem_2 _ _) (meets_dict_delitem_pairs (mixKind X.prog X.w) a (kV_is ry)) ⟨vs, dd, by rw [← rel.length]; exact z, by rw [← (rel.val k).isSome_eq]; exact l, fun h' dd' hs => h _ ?_⟩)
  have he : ∃ q, h'.get? a = some q := let ⟨q, _, _, hq, _⟩ := dd'; ⟨q, hq⟩
  exact d_write I (by rw [e]; exact True.intro) hs he (dk_new (Nat.le_trans (dropK_le kvs k) z) hd (rel.drop k) dd')
/-- d.pop(k[, x]), there -/
theorem d_pop {v : V} {more : List Value} {Q : Value → Shared → Prop} (I : Inv X pins σ H s) (e : H a = some (.dK kvs)) (ry : RelV (kV k) u) (l : valV kvs k = some v) (hm : more = [] ∨ ∃ x, more = [x])
    (h : ∀ w' s', Inv X pins σ (upd H a (.dK (dropK kvs k))) s' → RelV v w' → Q w' s') : wpAny (model X.prog X.w) A (call (.builtin "dict.pop") (.ref a :: u :: more)) Q E s := by
  obtain ⟨z, hd, vs, rel, dd⟩ := dk_of I.hok e
  obtain ⟨w', hw, rw'⟩ := RelO.some_of (v := v) (o := valueAt vs k) (by rw [← l]; exact rel.val k)
  have hp : (keyPart u).isSome = true := by
    cases k with
    | inl i => obtain ⟨t, q⟩ := (show ∃ t, u = Value.int i t from ry); subst q; rfl
    | inr x => obtain ⟨t, q⟩ := (show ∃ t, u = Value.str x t from ry); subst q; rfl
  have ha : argsOk "dict.pop" ⟨.ref a :: u :: more, []⟩ := by
    rcases hm with q | ⟨x, q⟩
    · subst q; exact PySem.F.args_dict_pop_2 _ _
    · subst q; exact PySem.F.args_dict_pop_3 _ _ _
  refine call_meetsIn PySem.F.slot_dict_pop dd.typeIs PySem.F.entry_dict_pop ha (meets_dict_pop_there (mixKind X.prog X.w) a (kV_is ry) more hm hp)
    ⟨vs, w', dd, by rw [← rel.length]; exact z, hw, fun h' dd' hs => h w' _ ?_ rw'⟩
  have he : ∃ q, h'.get? a = some q := let ⟨q, _, _, hq, _⟩ := dd'; ⟨q, hq⟩
  exact d_write I (by rw [e]; exact True.intro) hs he (dk_new (Nat.le_trans (dropK_le kvs k) z) hd (rel.drop k) dd')
/-- d.pop(k, x), not there -/
theorem d_popD {r : Value} {Q : Value → Shared → Prop} (I : Inv X pins σ H s) (e : H a = some (.dK kvs)) (ry : RelV (kV k) u) (l : valV kvs k = none) (h : ∀ s', Inv X pins σ H s' → Q r s') :
    wpAny (model X.prog X.w) A (call (.builtin "dict.pop") [.ref a, u, r]) Q E s := by
  obtain ⟨z, hd, vs, rel, dd⟩ := dk_of I.hok e
  have hn : valueAt vs k = none := RelO.none_of (by rw [← l]; exact rel.val k)
  have hp : (keyPart u).isSome = true := by
    cases k with
    | inl i => obtain ⟨t, q⟩ := (show ∃ t, u = Value.int i t from ry); subst q; rfl
    | inr x => obtain ⟨t, q⟩ := (show ∃ t, u = Value.str x t from ry); subst q; rfl
  exact call_meetsIn PySem.F.slot_dict_pop dd.typeIs PySem.F.entry_dict_pop (PySem.F.args_dict_pop_3 _ _ _) (meets_dict_pop_default (mixKind X.prog X.w) a (kV_is ry) hd hp r) ⟨vs, dd, hn, h _ (I.tok _)⟩
/-- d.clear() -/
theorem d_clear {Q : Value → Shared → Prop} (I : Inv X pins σ H s) (e : H a = some (.dK kvs)) (h : ∀ s', Inv X pins σ (upd H a (.dK [])) s' → Q .none s') : wpAny (model X.prog X.w) A (call (.builtin "dict.clear") [.ref a]) Q E s := by
  obtain ⟨z, hd, vs, rel, dd⟩ := dk_of I.hok e
  refine call_meetsIn PySem.F.slot_dict_clear dd.typeIs PySem.F.entry_dict_clear (PySem.F.args_dict_clear_1 _) (meets_dict_clear (mixKind X.prog X.w) a) ⟨vs, dd, by rw [← rel.length]; exact z, fun h' dd' hs => h _ ?_⟩
  have he : ∃ q, h'.get? a = some q := let ⟨q, _, _, hq, _⟩ := dd'; ⟨q, hq⟩
  exact d_write (t' := s.toks) I (by rw [e]; exact True.intro) hs he (dk_new (Nat.zero_le _) hd .nil dd')
/-- len(d) -/
theorem d_len {Q : Value → Shared → Prop} (I : Inv X pins σ H s) (e : Rd H a (.dK kvs)) (h : ∀ t s', Inv X pins σ H s' → Q (.int kvs.length t) s') : wpAny (model X.prog X.w) A (call (.builtin "len") [.ref a]) Q E s := by
  obtain ⟨z, hd, vs, rel, dd⟩ := dk_rd I.hok e
  refine call_len_dict hd dd (by rw [← rel.length]; rw [sizeLine_eq] at z; omega) ?_
  rw [← rel.length]
  exact h _ _ (I.tok _)
/-- if d -/
theorem d_truth {Q : Bool → Shared → Prop} (I : Inv X pins σ H s) (e : Rd H a (.dK kvs)) (h : ∀ s', Inv X pins σ H s' → Q (!kvs.isEmpty) s') : wpAny (model X.prog X.w) A (truthy (.ref a)) Q E s := by
  obtain ⟨z, hd, vs, rel, dd⟩ := dk_rd I.hok e
  refine wpAny_truthy_dict hd dd (by rw [← rel.length]; rw [sizeLine_eq] at z; omega) ?_
  have q : kvs.isEmpty = vs.isEmpty := by cases rel <;> rfl
  rw [← q]
  exact h _ (I.tok _)
end


/-! ### readings and rules -/
/-- the element of a subscription, not a slice -/
def NoSl (i : Expr) : Prop := ∀ ov iv, subscripted i false ov iv = operate [ov, iv] (getItem ov iv)
theorem subD_of {prog : Program} {w : World} {A : Around} {E : Value → Shared → Prop} {s : Shared} {env : Env} {value slice : Expr} {pos : Pos} {T id : String} {Q : Value → Shared → Prop}
    (hl : typeLookup (.type T) "__getitem__" = pure (some (.builtin id))) (hs : NoSl slice)
    (h : wpAny (model prog w) A (eval value env) (fun o s₁ => wpAny (model prog w) A (eval slice env) (fun i s₂ => s₂.TypeIs o T ∧ wpAny (model prog w) A (getItem o i) Q E s₂) E s₁) E s) :
    wpAny (model prog w) A (eval (.Subscript value slice pos) env) Q E s := by
  refine Subscript_ (wpAny_mono h (fun o s₁ h₁ => wpAny_mono h₁ (fun i s₂ h₂ => ?_) fun _ _ x => x) fun _ _ x => x)
  obtain ⟨hT, h₂⟩ := h₂
  unfold subscriptTail
  refine wpAny_bind ?_
  rw [getitemInPython_of_ne hT.not_modules]
  refine wpAny_bind (wpAny_specialOf hT hl ?_)
  have fin : wpAny (model prog w) A (subscripted slice false o i) (fun r s₃ => wpAny (model prog w) A (letTemporaryGo value o r >>= fun _ => pure r) Q E s₃) E s₂ := by
    rw [hs o i]
    exact wpAny_operating (wpAny_mono h₂ (fun r s₃ h₃ => wpAny_bind (wpAny_letTemporaryGo (wpAny_pure h₃))) fun _ _ x => x)
  first
    | exact wpAny_pure (wpAny_bind fin)
    | exact wpAny_bind (wpAny_pure (wpAny_bind fin))
    | exact wpAny_bind fin

theorem dict_typeIs {X : Cx} {pins : List (Addr × Obj)} {σ : St} {H : Hp} {s : Shared} {a : Addr} {y : V} {o : Option V} (I : Inv X pins σ H s) (g : DGet H a y o) : s.TypeIs (.ref a) "dict" := by
  rcases g with ⟨kvs, k, e, _, _⟩ | ⟨kvs, k, b, e, _, _, _⟩
  · obtain ⟨_, _, vs, _, dd⟩ := dk_rd I.hok e
    exact dd.typeIs
  · obtain ⟨_, _, xs, _, dd⟩ := dt_rd I.hok e
    exact dd.typeIs
theorem dict_noDict {X : Cx} {pins : List (Addr × Obj)} {σ : St} {H : Hp} {s : Shared} {a : Addr} {y : V} {o : Option V} (I : Inv X pins σ H s) (g : DGet H a y o) :
    ∀ b, Value.ref a = .ref b → ∃ ob, s.heap.get? b = some ob ∧ ob.dict = none := fun b q => by
  cases q
  rcases g with ⟨kvs, k, e, _, _⟩ | ⟨kvs, k, b, e, _, _, _⟩
  · obtain ⟨_, _, vs, _, ob, _, _, h1, h2, _⟩ := dk_rd I.hok e
    exact ⟨ob, h1, h2.2.1⟩
  · obtain ⟨_, _, xs, _, ob, _, _, h1, h2, _⟩ := dt_rd I.hok e
    exact ⟨ob, h1, h2.2.1⟩

/-- d[y] -/
def tDGet (td ty : TE) : TE := fun σ H Q => td σ H fun x H1 => ty σ H1 fun y H2 => ∃ a v, x = .ref a ∧ DGet H2 a y (some v) ∧ Q v H2
/-- y in d, y not in d -/
def tDIn (ty td : TE) : TE := fun σ H Q => ty σ H fun y H1 => td σ H1 fun x H2 => ∃ a o, x = .ref a ∧ DGet H2 a y o ∧ Q (.bl o.isSome) H2
def tDNotIn (ty td : TE) : TE := fun σ H Q => ty σ H fun y H1 => td σ H1 fun x H2 => ∃ a o, x = .ref a ∧ DGet H2 a y o ∧ Q (.bl (!o.isSome)) H2
/-- d[y] = v -/
def sDPut (td ty tv : TE) : TS := fun D σ H => tv σ H fun v H1 => td σ H1 fun x H2 => ty σ H2 fun y H3 => ∃ a H4, x = .ref a ∧ DPut H3 a y v H4 ∧ D.nx σ H4
/-- d[y] op= v -/
def sDAug (td ty tv : TE) (rd : V → V → Hp → VK → Prop) : TS := fun D σ H => td σ H fun x H1 => ty σ H1 fun y H2 => ∃ a v, x = .ref a ∧ DGet H2 a y (some v) ∧
  tv σ H2 fun y2 H3 => rd v y2 H3 fun z H4 => ∃ H5, DPut H4 a y z H5 ∧ D.nx σ H5
/-- del d[y] -/
def sDDel (td ty : TE) : TS := fun D σ H => td σ H fun x H1 => ty σ H1 fun y H2 => ∃ a kvs k, x = .ref a ∧ H2 a = some (.dK kvs) ∧ y = kV k ∧ (valV kvs k).isSome = true ∧ D.nx σ (upd H2 a (.dK (dropK kvs k)))

section
variable {X : Cx} {o i e value : Expr} {pos pos' tpos : Pos} {td ty tv : TE}
theorem pe_dget (hu : X.A.units + 1 < cLine) (ho : PE X o td) (hi : PE X i ty) (hs : NoSl i) : PE X (.Subscript o i pos) (tDGet td ty) := by
  intro pins s σ H Q I h
  refine subD_of PySem.F.slot_dict_getitem.lookup hs (thn (ho pins s σ H _ I h) fun u s1 ⟨x, H1, I1, rx, q1⟩ => thn (hi pins s1 σ H1 _ I1 q1) fun iv s2 ⟨y, H2, I2, ry, a, v, ex, g, q2⟩ => ?_)
  subst ex
  obtain rfl : u = Value.ref a := rx
  exact ⟨dict_typeIs I2 g, d_getItem hu I2 g ry fun w' s3 I3 rw' => ⟨v, H2, I3, rw', q2⟩⟩
theorem pc_din (hu : X.A.units + 1 < cLine) (hi : PE X i ty) (ho : PE X o td) : PC X .In i o (tDIn ty td) := by
  intro pins s σ H Q I h
  refine thn (hi pins s σ H _ I h) fun iv s1 ⟨y, H1, I1, ry, q1⟩ => thn (ho pins s1 σ H1 _ I1 q1) fun u s2 ⟨x, H2, I2, rx, a, ov, ex, g, q2⟩ => ?_
  subst ex
  obtain rfl : u = Value.ref a := rx
  exact d_in hu I2 g ry fun s3 I3 => ⟨.bl ov.isSome, H2, I3, rfl, q2⟩
theorem pc_dnotin (hu : X.A.units + 1 < cLine) (hi : PE X i ty) (ho : PE X o td) : PC X .NotIn i o (tDNotIn ty td) := by
  intro pins s σ H Q I h
  refine thn (hi pins s σ H _ I h) fun iv s1 ⟨y, H1, I1, ry, q1⟩ => thn (ho pins s1 σ H1 _ I1 q1) fun u s2 ⟨x, H2, I2, rx, a, ov, ex, g, q2⟩ => ?_
  subst ex
  obtain rfl : u = Value.ref a := rx
  exact d_notIn hu I2 g ry fun s3 I3 => ⟨.bl (!ov.isSome), H2, I3, rfl, q2⟩
theorem ps_dput (hu : X.A.units + 1 < cLine) (ho : PE X o td) (hi : PE X i ty) (hv : PE X value tv) (hs : swapsWith value (some (.Subscript o i pos')) pos.line X.env = pure false) :
    PS X (.Assign [.Subscript o i pos'] value pos) (sDPut td ty tv) := by
  intro pins s σ H D I h
  refine wpAny_Assign_Subscript (thn (hv pins s σ H _ I h) fun r s1 ⟨v, H1, I1, rv, q1⟩ => thn (ho pins s1 σ H1 _ I1 q1) fun u s2 ⟨x, H2, I2, rx, q2⟩ => thn (hi pins s2 σ H2 _ I2 q2) fun iv s3 ⟨y, H3, I3, ry, a, H4, ex, g, q3⟩ => ?_) hs
  subst ex
  obtain rfl : u = Value.ref a := rx
  exact d_setItem hu I3 g ry rv fun s4 I4 => ⟨σ, H4, I4, q3⟩
theorem ps_daug {op : Operator} {rd : V → V → Hp → VK → Prop} (hu : X.A.units + 1 < cLine) (ho : PE X o td) (hi : PE X i ty) (hv : PE X value tv) (hop : InOp X op rd)
    (ha : ∀ ov iv new, augStore i ov iv new = (do holding [new, ov, iv] (setItem ov iv new); release [new, ov, iv] []; pure .next)) : PS X (.AugAssign (.Subscript o i tpos) op value pos) (sDAug td ty tv rd) := by
  intro pins s σ H D I h
  refine wpAny_AugAssign_SubscriptAny (thn (ho pins s σ H _ I h) fun u s1 ⟨x, H1, I1, rx, q1⟩ => thn (hi pins s1 σ H1 _ I1 q1) fun iv s2 ⟨y, H2, I2, ry, a, v, ex, g, q2⟩ => ?_) ha
  subst ex
  obtain rfl : u = Value.ref a := rx
  refine d_getItem hu I2 g ry fun w' s3 I3 rw' => thn (hv pins s3 σ H2 _ I3 q2) fun w2 s4 ⟨y2, H3, I4, ry2, q3⟩ => thn (hop pins s4 σ H3 v y2 w' w2 _ I4 rw' ry2 q3) fun w3 s5 ⟨z, H4, I5, rz, H5, g5, q4⟩ => ?_
  exact d_setItem hu I5 g5 ry rz fun s6 I6 => ⟨σ, H5, I6, q4⟩
theorem ps_ddel (ho : PE X o td) (hi : PE X i ty) : PS X (.Delete [.Subscript o i tpos] pos) (sDDel td ty) := by
  intro pins s σ H D I h
  refine wpAny_Delete (wpAny_deleteEach_cons (wpAny_delete_Subscript (thn (ho pins s σ H _ I h) fun u s1 ⟨x, H1, I1, rx, q1⟩ => thn (hi pins s1 σ H1 _ I1 q1) fun iv s2 ⟨y, H2, I2, ry, a, kvs, k, ex, e, ey, l, q2⟩ => ?_)))
  subst ex ey
  obtain rfl : u = Value.ref a := rx
  exact d_delItem I2 e ry l fun s3 I3 => wpAny_deleteEach_nil ⟨σ, _, I3, q2⟩
end


/-! ### displays -/
theorem dk_empty {P : Program} {w : World} {H : Hp} (h : Heap) (hb : sysModules < h.objs.size) : ObjOk P w H (h.push { cls := .type "dict", data := .dict #[] }) h.objs.size (.dK []) :=
  ⟨Nat.zero_le _, beq_eq_false_iff_ne.mpr (Ne.symm (Nat.ne_of_lt hb)), [], .nil, Heap.DictOf.new h⟩
theorem dt_empty {P : Program} {w : World} {H : Hp} (h : Heap) (hb : sysModules < h.objs.size) : ObjOk P w H (h.push { cls := .type "dict", data := .dict #[] }) h.objs.size (.dT []) :=
  ⟨Nat.zero_le _, beq_eq_false_iff_ne.mpr (Ne.symm (Nat.ne_of_lt hb)), [], .nil, _, #[], 0, Heap.get?_push_size _ rfl, ⟨rfl, rfl, rfl⟩, rfl, rfl, List.nodup_nil⟩
/-- {}, to be a dict of the kind that is wanted -/
def tDNewK : TE := fun _ H Q => ∀ p, H p = none → Q (.ref p) (upd H p (.dK []))
def tDNewT : TE := fun _ H Q => ∀ p, H p = none → Q (.ref p) (upd H p (.dT []))
section
variable {X : Cx} {pos : Pos}
theorem pe_dnewK : PE X (.Dict [] [] pos) tDNewK := fun pins s σ H Q I h =>
  wpAny_Dict_empty ⟨.ref s.heap.objs.size, _, I.laid (a := s.heap.objs.size) (o := .dK []) (t' := s.toks) (fun _ _ q => Heap.get?_push_of_some _ q) (Nat.le_refl _) (dk_empty s.heap I.big), rfl, h _ (I.hok.fresh (Nat.le_refl _))⟩
theorem pe_dnewT : PE X (.Dict [] [] pos) tDNewT := fun pins s σ H Q I h =>
  wpAny_Dict_empty ⟨.ref s.heap.objs.size, _, I.laid (a := s.heap.objs.size) (o := .dT []) (t' := s.toks) (fun _ _ q => Heap.get?_push_of_some _ q) (Nat.le_refl _) (dt_empty s.heap I.big), rfl, h _ (I.hok.fresh (Nat.le_refl _))⟩
end

/-- the pairs of a display, from the left -/
def tPairs : List (TE × TE) → St → Hp → (List (V × V) → Hp → Prop) → Prop
  | [], _, H, Q => Q [] H
  | (tk, tv) :: r, σ, H, Q => tk σ H fun x H1 => tv σ H1 fun y H2 => tPairs r σ H2 fun ps H3 => Q ((x, y) :: ps) H3
abbrev VV : List (V × V) → List (Value × Value) → Prop := Paired fun p q => RelV p.1 q.1 ∧ RelV p.2 q.2
def PPs (X : Cx) (pos : Pos) (keys : List (Option Expr)) (values : List Expr) (trs : List (TE × TE)) : Prop :=
  ∀ (pins : List (Addr × Obj)) (s : Shared) (σ : St) (H : Hp) (Q : List (V × V) → Hp → Prop), Inv X pins σ H s → tPairs trs σ H Q →
    wpAny (model X.prog X.w) X.A (evalPairs (pairTrees keys values X.env pos)) (fun vs s' => ∃ ps H', Inv X pins σ H' s' ∧ VV ps vs ∧ Q ps H') X.xe s
theorem pps_nil {X : Cx} {pos : Pos} : PPs X pos [] [] [] := fun pins s σ H Q I h => pairTrees_nil_walk ⟨[], H, I, .nil, h⟩
theorem pps_cons {X : Cx} {pos : Pos} {k v : Expr} {ks : List (Option Expr)} {vs : List Expr} {tk tv : TE} {trs : List (TE × TE)} (hk : PE X k tk) (hv : PE X v tv) (hr : PPs X pos ks vs trs) :
    PPs X pos (some k :: ks) (v :: vs) ((tk, tv) :: trs) := fun pins s σ H Q I h =>
  pairTrees_cons_walk (thn (hk pins s σ H _ I h) fun u s1 ⟨x, H1, I1, rx, q1⟩ => thn (hv pins s1 σ H1 _ I1 q1) fun w2 s2 ⟨y, H2, I2, ry, q2⟩ =>
    thn (hr pins s2 σ H2 _ I2 q2) fun ws s3 ⟨ps, H3, I3, rel, q3⟩ => ⟨(x, y) :: ps, H3, I3, .cons ⟨rx, ry⟩ rel, q3⟩)

def mergeK (kvs more : List (Key × V)) : List (Key × V) := more.foldl (fun acc kv => putK acc kv.1 kv.2) kvs
theorem KV.merge : ∀ {more : List (Key × V)} {rs : List (Key × Value)} {kvs : List (Key × V)} {vs : List (Key × Value)}, KV more rs → KV kvs vs → KV (mergeK kvs more) (merged vs rs) := by
  intro more rs kvs vs r
  unfold KV at r
  induction r generalizing kvs vs with
  | nil => intro q; exact q
  | @cons p q ps qs h t ih =>
    intro r0
    have e : KV (putK kvs p.1 p.2) (stored vs q.1 q.2) := by
      have := r0.put p.1 h.2
      rw [← h.1]; exact this
    exact ih e
theorem length_mergeK : ∀ (more kvs : List (Key × V)), (mergeK kvs more).length ≤ kvs.length + more.length
  | [], kvs => by show kvs.length ≤ kvs.length + 0; omega
  | p :: r, kvs => by
    have h1 := length_mergeK r (putK kvs p.1 p.2)
    have h2 := length_putK kvs p.1 p.2
    show (mergeK (putK kvs p.1 p.2) r).length ≤ _
    rw [List.length_cons]; omega
theorem carries_of {P : Program} {w : World} : ∀ {kvs : List (Key × V)} {ws : List (Value × Value)}, VV (kvs.map fun kv => (kV kv.1, kv.2)) ws → ∃ rs, Carries (mixKind P w) ws rs ∧ KV kvs rs
  | [], _, r => by rw [List.map_nil] at r; cases r; exact ⟨[], True.intro, .nil⟩
  | p :: kvs, _, r => by
    rw [List.map_cons] at r
    cases r with
    | @cons a b as bs h t =>
      obtain ⟨rs, c, q⟩ := carries_of (P := P) (w := w) t
      obtain ⟨b1, b2⟩ := b
      exact ⟨(p.1, b2) :: rs, ⟨kV_is h.1, rfl, c⟩, .cons ⟨rfl, h.2⟩ q⟩
/-- {k: v, ..} with keys ints and texts; the new dict stands empty while the pairs are made -/
def tDisp (trs : List (TE × TE)) : TE := fun σ H Q => ∀ p, H p = none → tPairs trs σ (upd H p (.dK [])) fun ps H2 => H2 p = some (.dK []) ∧ ∃ kvs : List (Key × V), ps = kvs.map (fun kv => (kV kv.1, kv.2)) ∧ kvs.length ≤ 15 ∧ Q (.ref p) (upd H2 p (.dK (mergeK [] kvs)))
theorem pe_disp {X : Cx} {pos : Pos} {keys : List (Option Expr)} {values : List Expr} {trs : List (TE × TE)} (h : PPs X pos keys values trs) (hall : keys.all (·.isSome) = true) (hl : keys.length = values.length) (h0 : keys ≠ [])
    (h15 : keys.length ≤ 15) : PE X (.Dict keys values pos) (tDisp trs) := by
  intro pins s σ H Q I q
  have hn := I.hok.fresh (Nat.le_refl s.heap.objs.size)
  have I1 := I.laid (a := s.heap.objs.size) (o := .dK []) (h' := s.heap.push { cls := .type "dict", data := .dict #[] }) (t' := s.toks) (fun _ _ q => Heap.get?_push_of_some _ q) (Nat.le_refl _) (dk_empty s.heap I.big)
  refine wpAny_Dict_walk (knd := mixKind X.prog X.w) hall hl h0 h15 (thn (h pins _ σ _ _ I1 (q _ hn)) fun ws s2 ⟨ps, H2, I2, rel, e, kvs, ep, lk, q2⟩ => ?_)
  subst ep
  obtain ⟨rs, c, rk⟩ := carries_of (P := X.prog) (w := X.w) rel
  obtain ⟨z, hd, vs0, r0, dd⟩ := dk_of I2.hok e
  cases r0
  refine ⟨rs, c, dd, fun h' dd' hs => ⟨.ref s.heap.objs.size, _, ?_, rfl, q2⟩⟩
  have hz : (mergeK [] kvs).length ≤ sizeLine := by
    have h1 := length_mergeK kvs []
    rw [List.length_nil] at h1
    rw [sizeLine_eq]; omega
  have he : ∃ q, h'.get? s.heap.objs.size = some q := let ⟨q, _, _, hq, _⟩ := dd'; ⟨q, hq⟩
  exact d_write I2 (by rw [e]; exact True.intro) hs he (dk_new hz hd (rk.merge .nil) dd')


/-! ### methods -/
/-- a method call o.m(e) of a built-in, with one argument: what must be seen of the text -/
structure M1 (X : Cx) (o : Expr) (m : Str) (apos : Pos) (e : Expr) (cpos : Pos) : Prop where
  base : attributeBase o m X.env (eval o X.env) = eval o X.env
  few : ((backTo cpos (starEach [e] X.env)).all (fun x => !x.1) && (backToKw cpos (keywordEach [] X.env)).all (fun x => x.1.isSome)
    && decide (([e] : List Expr).length + ([] : List Keyword).length + (if ([] : List Keyword).isEmpty then 0 else 1) < 30)) = true
  line : (apos.endLine == cpos.line) = true
  trees : backTo cpos (starEach [e] X.env) = [(false, eval e X.env)]
structure M2 (X : Cx) (o : Expr) (m : Str) (apos : Pos) (e f : Expr) (cpos : Pos) : Prop where
  base : attributeBase o m X.env (eval o X.env) = eval o X.env
  few : ((backTo cpos (starEach [e, f] X.env)).all (fun x => !x.1) && (backToKw cpos (keywordEach [] X.env)).all (fun x => x.1.isSome)
    && decide (([e, f] : List Expr).length + ([] : List Keyword).length + (if ([] : List Keyword).isEmpty then 0 else 1) < 30)) = true
  line : (apos.endLine == cpos.line) = true
  trees : backTo cpos (starEach [e, f] X.env) = [(false, eval e X.env), (false, eval f X.env)]

/-- a is a dict, whatever its keys -/
def IsD (H : Hp) (a : Addr) : Prop := (∃ kvs, Rd H a (.dK kvs)) ∨ ∃ kvs, Rd H a (.dT kvs)
theorem isD_at {X : Cx} {pins : List (Addr × Obj)} {σ : St} {H : Hp} {s : Shared} {a : Addr} (I : Inv X pins σ H s) (d : IsD H a) :
    s.TypeIs (.ref a) "dict" ∧ (∀ b, Value.ref a = .ref b → ∃ ob, s.heap.get? b = some ob ∧ ob.dict = none) ∧ (a == sysModules) = false := by
  rcases d with ⟨kvs, e⟩ | ⟨kvs, e⟩
  · obtain ⟨_, hd, vs, _, dd⟩ := dk_rd I.hok e
    refine ⟨dd.typeIs, fun b q => ?_, hd⟩
    cases q
    obtain ⟨ob, _, _, h1, h2, _⟩ := dd
    exact ⟨ob, h1, h2.2.1⟩
  · obtain ⟨_, hd, xs, _, dd⟩ := dt_rd I.hok e
    refine ⟨dd.typeIs, fun b q => ?_, hd⟩
    cases q
    obtain ⟨ob, _, _, h1, h2, _⟩ := dd
    exact ⟨ob, h1, h2.2.1⟩

section
variable {X : Cx} {pins : List (Addr × Obj)} {σ : St} {H : Hp} {s : Shared} {a : Addr} {y d : V} {u r : Value} {o : Option V} {A : Around} {E : Value → Shared → Prop}
/-- d.get(y) -/
theorem d_get1 {Q : Value → Shared → Prop} (hu : A.units + 1 < cLine) (I : Inv X pins σ H s) (g : DGet H a y o) (ry : RelV y u) (h : ∀ w' s', Inv X pins σ H s' → RelV (o.getD .non) w' → Q w' s') :
    wpAny (model X.prog X.w) A (call (.builtin "dict.get") [.ref a, u]) Q E s := by
  rcases g with ⟨kvs, k, e, ey, l⟩ | ⟨kvs, k, b, e, ey, eb, l⟩
  · subst ey
    obtain ⟨z, hd, vs, rel, dd⟩ := dk_rd I.hok e
    refine call_meetsIn PySem.F.slot_dict_get dd.typeIs PySem.F.entry_dict_get (PySem.F.args_dict_get_2 _ _) (meets_dict_get (mixKind X.prog X.w) a (kV_is ry) hd) ⟨_, dd.mapOf, h _ _ (I.tok _) ?_⟩
    rw [l]
    exact (rel.val k).getD rfl
  · subst ey
    cases (show u = Value.ref b from ry)
    obtain ⟨z, hd, xs, rel, dd⟩ := dt_rd I.hok e
    refine call_meetsIn PySem.F.slot_dict_get dd.typeIs PySem.F.entry_dict_get (PySem.F.args_dict_get_2 _ _) (meetsH_dict_get (tupleKind (mixKind X.prog X.w)) a b hd) ⟨tupleKind_room_in1 hu, k, xs, key_of I.hok eb, dd, h _ _ (I.tok _) ?_⟩
    rw [l]
    exact (rel.val k).getD rfl
/-- d.get(y, x) -/
theorem d_get2 {Q : Value → Shared → Prop} (hu : A.units + 1 < cLine) (I : Inv X pins σ H s) (g : DGet H a y o) (ry : RelV y u) (rd : RelV d r) (h : ∀ w' s', Inv X pins σ H s' → RelV (o.getD d) w' → Q w' s') :
    wpAny (model X.prog X.w) A (call (.builtin "dict.get") [.ref a, u, r]) Q E s := by
  rcases g with ⟨kvs, k, e, ey, l⟩ | ⟨kvs, k, b, e, ey, eb, l⟩
  · subst ey
    obtain ⟨z, hd, vs, rel, dd⟩ := dk_rd I.hok e
    refine call_meetsIn PySem.F.slot_dict_get dd.typeIs PySem.F.entry_dict_get (PySem.F.args_dict_get_3 _ _ _) (meets_dict_get_default (mixKind X.prog X.w) a (kV_is ry) hd r) ⟨_, dd.mapOf, h _ _ (I.tok _) ?_⟩
    rw [l]
    exact (rel.val k).getD rd
  · subst ey
    cases (show u = Value.ref b from ry)
    obtain ⟨z, hd, xs, rel, dd⟩ := dt_rd I.hok e
    refine call_meetsIn PySem.F.slot_dict_get dd.typeIs PySem.F.entry_dict_get (PySem.F.args_dict_get_3 _ _ _) (meetsH_dict_get_default (tupleKind (mixKind X.prog X.w)) a b hd r) ⟨tupleKind_room_in1 hu, k, xs, key_of I.hok eb, dd, h _ _ (I.tok _) ?_⟩
    rw [l]
    exact (rel.val k).getD rd
end

def tDGet1 (td ty : TE) : TE := fun σ H Q => td σ H fun x H1 => ∃ a, x = .ref a ∧ IsD H1 a ∧ ty σ H1 fun y H2 => ∃ o, DGet H2 a y o ∧ Q (o.getD .non) H2
def tDGet2 (td ty tx : TE) : TE := fun σ H Q => td σ H fun x H1 => ∃ a, x = .ref a ∧ IsD H1 a ∧ ty σ H1 fun y H2 => tx σ H2 fun z H3 => ∃ o, DGet H3 a y o ∧ Q (o.getD z) H3
/-- d.pop(k): there; d.pop(k, x): there or not -/
def tDPop1 (td ty : TE) : TE := fun σ H Q => td σ H fun x H1 => ∃ a, x = .ref a ∧ IsD H1 a ∧ ty σ H1 fun y H2 => ∃ kvs k v, H2 a = some (.dK kvs) ∧ y = kV k ∧ valV kvs k = some v ∧ Q v (upd H2 a (.dK (dropK kvs k)))
def tDPop2 (td ty tx : TE) : TE := fun σ H Q => td σ H fun x H1 => ∃ a, x = .ref a ∧ IsD H1 a ∧ ty σ H1 fun y H2 => tx σ H2 fun z H3 => ∃ kvs k, H3 a = some (.dK kvs) ∧ y = kV k ∧
  (∀ v, valV kvs k = some v → Q v (upd H3 a (.dK (dropK kvs k)))) ∧ (valV kvs k = none → Q z H3)
section
variable {X : Cx} {o e f : Expr} {apos cpos : Pos} {td ty tx : TE}
theorem pe_dget1 (hu : X.A.units + 1 < cLine) (ho : PE X o td) (he : PE X e ty) (m : M1 X o "get" apos e cpos) : PE X (.Call (.Attribute o "get" apos) [e] [] cpos) (tDGet1 td ty) := by
  intro pins s σ H Q I h
  refine wpAny_Call_method m.base m.few m.line PySem.F.plainAttrs_dict PySem.F.slot_dict_get PySem.F.type_dict_get (thn (ho pins s σ H _ I h) fun u s1 ⟨x, H1, I1, rx, a, ex, d, q1⟩ => ?_)
  subst ex
  obtain rfl : u = Value.ref a := rx
  obtain ⟨t1, t2, _⟩ := isD_at I1 d
  refine ⟨t1, t2, ?_⟩
  rw [m.trees]
  refine Calls.callWith_builtin rfl (Calls.evalArgs_plain (Calls.spliced_cons (thn (he pins s1 σ H1 _ I1 q1) fun iv s2 ⟨y, H2, I2, ry, ov, g, q2⟩ => Calls.spliced_nil ?_)))
  exact d_get1 hu I2 g ry fun w' s3 I3 rw' => ⟨_, H2, I3, rw', q2⟩
theorem pe_dget2 (hu : X.A.units + 1 < cLine) (ho : PE X o td) (he : PE X e ty) (hf : PE X f tx) (m : M2 X o "get" apos e f cpos) : PE X (.Call (.Attribute o "get" apos) [e, f] [] cpos) (tDGet2 td ty tx) := by
  intro pins s σ H Q I h
  refine wpAny_Call_method m.base m.few m.line PySem.F.plainAttrs_dict PySem.F.slot_dict_get PySem.F.type_dict_get (thn (ho pins s σ H _ I h) fun u s1 ⟨x, H1, I1, rx, a, ex, d, q1⟩ => ?_)
  subst ex
  obtain rfl : u = Value.ref a := rx
  obtain ⟨t1, t2, _⟩ := isD_at I1 d
  refine ⟨t1, t2, ?_⟩
  rw [m.trees]
  refine Calls.callWith_builtin rfl (Calls.evalArgs_plain (Calls.spliced_cons (thn (he pins s1 σ H1 _ I1 q1) fun iv s2 ⟨y, H2, I2, ry, q2⟩ =>
    Calls.spliced_cons (thn (hf pins s2 σ H2 _ I2 q2) fun fv s3 ⟨z, H3, I3, rz, ov, g, q3⟩ => Calls.spliced_nil ?_))))
  exact d_get2 hu I3 g ry rz fun w' s4 I4 rw' => ⟨_, H3, I4, rw', q3⟩
theorem pe_dpop1 (ho : PE X o td) (he : PE X e ty) (m : M1 X o "pop" apos e cpos) : PE X (.Call (.Attribute o "pop" apos) [e] [] cpos) (tDPop1 td ty) := by
  intro pins s σ H Q I h
  refine wpAny_Call_method m.base m.few m.line PySem.F.plainAttrs_dict PySem.F.slot_dict_pop PySem.F.type_dict_pop (thn (ho pins s σ H _ I h) fun u s1 ⟨x, H1, I1, rx, a, ex, d, q1⟩ => ?_)
  subst ex
  obtain rfl : u = Value.ref a := rx
  obtain ⟨t1, t2, _⟩ := isD_at I1 d
  refine ⟨t1, t2, ?_⟩
  rw [m.trees]
  refine Calls.callWith_builtin rfl (Calls.evalArgs_plain (Calls.spliced_cons (thn (he pins s1 σ H1 _ I1 q1) fun iv s2 ⟨y, H2, I2, ry, kvs, k, v, ea, ey, l, q2⟩ => Calls.spliced_nil ?_)))
  subst ey
  exact d_pop I2 ea ry l (.inl rfl) fun w' s3 I3 rw' => ⟨v, _, I3, rw', q2⟩
theorem pe_dpop2 (ho : PE X o td) (he : PE X e ty) (hf : PE X f tx) (m : M2 X o "pop" apos e f cpos) : PE X (.Call (.Attribute o "pop" apos) [e, f] [] cpos) (tDPop2 td ty tx) := by
  intro pins s σ H Q I h
  refine wpAny_Call_method m.base m.few m.line PySem.F.plainAttrs_dict PySem.F.slot_dict_pop PySem.F.type_dict_pop (thn (ho pins s σ H _ I h) fun u s1 ⟨x, H1, I1, rx, a, ex, d, q1⟩ => ?_)
  subst ex
  obtain rfl : u = Value.ref a := rx
  obtain ⟨t1, t2, _⟩ := isD_at I1 d
  refine ⟨t1, t2, ?_⟩
  rw [m.trees]
  refine Calls.callWith_builtin rfl (Calls.evalArgs_plain (Calls.spliced_cons (thn (he pins s1 σ H1 _ I1 q1) fun iv s2 ⟨y, H2, I2, ry, q2⟩ =>
    Calls.spliced_cons (thn (hf pins s2 σ H2 _ I2 q2) fun fv s3 ⟨z, H3, I3, rz, kvs, k, ea, ey, q3, q4⟩ => Calls.spliced_nil ?_))))
  subst ey
  cases l : valV kvs k with
  | some v => exact d_pop I3 ea ry l (.inr ⟨fv, rfl⟩) fun w' s4 I4 rw' => ⟨v, _, I4, rw', q3 v l⟩
  | none => exact d_popD I3 ea ry l fun s4 I4 => ⟨z, H3, I4, rz, q4 l⟩
end

/-! ### dict(d): a copy -/
section
variable {X : Cx} {pins : List (Addr × Obj)} {σ : St} {H : Hp} {s : Shared} {a : Addr} {kvs : List (Key × V)} {A : Around} {E : Value → Shared → Prop}
theorem d_copyOf {Q : Value → Shared → Prop} (I : Inv X pins σ H s) (e : Rd H a (.dK kvs)) (h : ∀ p s', H p = none → Inv X pins σ (upd H p (.dK kvs)) s' → Q (.ref p) s') : wpAny (model X.prog X.w) A (call (.type "dict") [.ref a]) Q E s := by
  obtain ⟨z, hd, vs, rel, dd⟩ := dk_rd I.hok e
  refine kt_call_dict hd dd (by rw [← rel.length]; exact z) fun h' dd' hs => ?_
  refine h _ _ (I.hok.fresh (Nat.le_refl _)) (I.laid (a := s.heap.objs.size) (o := .dK kvs) (t' := s.toks) (fun b q hq => ?_) (Nat.le_refl _) (dk_new z (beq_eq_false_iff_ne.mpr (Ne.symm (Nat.ne_of_lt I.big))) rel dd'))
  exact (hs.2 b (Nat.ne_of_lt (Heap.lt_size hq))).trans (Heap.get?_push_of_some _ hq)
end


section
variable {X : Cx} {pins : List (Addr × Obj)} {σ : St} {H : Hp} {s : Shared} {a : Addr} {y : V} {u : Value} {A : Around} {E : Value → Shared → Prop}
/-- d[y], not there: a KeyError -/
theorem d_missing {Q : Value → Shared → Prop} (hu : A.units + 1 < cLine) (hh : A.handled = none) (I : Inv X pins σ H s) (g : DGet H a y none) (ry : RelV y u)
    (h : ∀ h' e t', Heap.NewExc s.heap h' e "KeyError" → E (.ref e) { s with heap := h', toks := t' }) : wpAny (model X.prog X.w) A (getItem (.ref a) u) Q E s := by
  rcases g with ⟨kvs, k, e, ey, l⟩ | ⟨kvs, k, b, e, ey, eb, l⟩
  · subst ey
    obtain ⟨z, hd, vs, rel, dd⟩ := dk_rd I.hok e
    have hn : valueAt vs k = none := RelO.none_of (by rw [l]; exact rel.val k)
    exact wpAny_getItem_missing_of (kV_is ry) hd hh dd.mapOf hn fun h' ex ne => h h' ex _ ne
  · subst ey
    cases (show u = Value.ref b from ry)
    obtain ⟨z, hd, xs, rel, dd⟩ := dt_rd I.hok e
    have hn : (atKey xs k).map (·.2) = none := RelO.none_of (by rw [l]; exact rel.val k)
    exact wpAny_getItem_missing_heap (tupleKind_room_in1 hu) (key_of I.hok eb) hd hh dd (Option.map_eq_none_iff.mp hn) fun h' ex ne => h h' ex _ ne
end
end L2

namespace L2
open PySem PySem.Spec PyProof.Rows
section
variable {X : Cx}
/-- len of a dict -/
theorem call_lenD : CallR X (.builtin "len") (fun xs H Q => ∃ a kvs, xs = [V.ref a] ∧ H a = some (.dK kvs) ∧ Q (.int kvs.length) H) := by
  intro pins s σ H xs us Q I r h
  obtain ⟨a, kvs, rfl, ha, q⟩ := h
  obtain ⟨u, rfl, ru⟩ := vals1 r
  cases ru
  exact d_len I (.inl ha) fun t s' I' => ⟨.int kvs.length, H, I', ⟨t, rfl⟩, q⟩
end
/-! ### a dict's pairs: keys that differ -/
section
variable {κ : Type} [DecidableEq κ]
theorem valV_not {kvs : List (κ × V)} {k : κ} (h : valV kvs k = none) : ¬ k ∈ kvs.map (·.1) := by
  intro m
  obtain ⟨p, hp, e⟩ := List.mem_map.mp m
  have q : (kvs.any fun kv => decide (kv.1 = k)) = true := List.any_eq_true.mpr ⟨p, hp, decide_eq_true e⟩
  rw [valV_any, h] at q
  exact absurd q (by simp)
theorem valV_in {kvs : List (κ × V)} {k : κ} {v : V} (h : valV kvs k = some v) : k ∈ kvs.map (·.1) := by
  have q : (kvs.any fun kv => decide (kv.1 = k)) = true := by
    rw [valV_any, h]
    all_goals rfl
  obtain ⟨p, hp, e⟩ := List.any_eq_true.mp q
  exact List.mem_map.mpr ⟨p, hp, of_decide_eq_true e⟩
theorem nd_snoc : ∀ {l : List κ} {k : κ}, l.Nodup → ¬ k ∈ l → (l ++ [k]).Nodup
  | [], k, _, _ => by simp
  | a :: r, k, h, hk => by
    obtain ⟨h1, h2⟩ := List.nodup_cons.mp h
    show (a :: (r ++ [k])).Nodup
    refine List.nodup_cons.mpr ⟨fun m => ?_, nd_snoc h2 fun m => hk (List.mem_cons.mpr (Or.inr m))⟩
    rcases List.mem_append.mp m with q | q
    · exact h1 q
    · exact hk (List.mem_cons.mpr (Or.inl (List.mem_singleton.mp q).symm))
theorem nd_putK {kvs : List (κ × V)} {k : κ} (v : V) (hn : (kvs.map (·.1)).Nodup) (h : valV kvs k = none) : ((putK kvs k v).map (·.1)).Nodup := by
  rw [putK_new v h, List.map_append]
  exact nd_snoc hn (valV_not h)
theorem dropK_pos {p : κ × V} {r : List (κ × V)} {k : κ} (e : p.1 = k) : dropK (p :: r) k = dropK r k := by
  unfold dropK
  rw [List.filter_cons, if_neg (by simp [e])]
theorem dropK_neg {p : κ × V} {r : List (κ × V)} {k : κ} (e : ¬ p.1 = k) : dropK (p :: r) k = p :: dropK r k := by
  unfold dropK
  rw [List.filter_cons, if_pos (by simp [e])]
theorem dropK_no : ∀ {kvs : List (κ × V)} {k : κ}, ¬ k ∈ kvs.map (·.1) → dropK kvs k = kvs
  | [], _, _ => rfl
  | p :: r, k, h => by
    have h' : ¬ k ∈ r.map (·.1) := fun m => by
      obtain ⟨q, hq, e⟩ := List.mem_map.mp m
      exact h (List.mem_map.mpr ⟨q, List.mem_cons.mpr (Or.inr hq), e⟩)
    rw [dropK_neg fun e => h (List.mem_map.mpr ⟨p, List.mem_cons.mpr (Or.inl rfl), e⟩), dropK_no h']
theorem dropK_mem {kvs : List (κ × V)} {k : κ} {p : κ × V} (h : p ∈ dropK kvs k) : p ∈ kvs := (List.mem_filter.mp h).1
theorem nd_dropK : ∀ {kvs : List (κ × V)} {k : κ}, (kvs.map (·.1)).Nodup → ((dropK kvs k).map (·.1)).Nodup
  | [], _, _ => List.nodup_nil
  | p :: r, k, h => by
    have h : (p.1 :: r.map (·.1)).Nodup := h
    obtain ⟨h1, h2⟩ := List.nodup_cons.mp h
    by_cases e : p.1 = k
    · rw [dropK_pos e]
      exact nd_dropK h2
    · rw [dropK_neg e]
      show (p.1 :: (dropK r k).map (·.1)).Nodup
      refine List.nodup_cons.mpr ⟨fun m => h1 ?_, nd_dropK h2⟩
      obtain ⟨q, hq, eq⟩ := List.mem_map.mp m
      exact List.mem_map.mpr ⟨q, dropK_mem hq, eq⟩
theorem dropK_len : ∀ {kvs : List (κ × V)} {k : κ}, (kvs.map (·.1)).Nodup → k ∈ kvs.map (·.1) → (dropK kvs k).length + 1 = kvs.length
  | [], _, _, m => by simp at m
  | p :: r, k, h, m => by
    have h : (p.1 :: r.map (·.1)).Nodup := h
    have m : k = p.1 ∨ k ∈ r.map (·.1) := List.mem_cons.mp m
    obtain ⟨h1, h2⟩ := List.nodup_cons.mp h
    by_cases e : p.1 = k
    · subst e
      rw [dropK_pos rfl, dropK_no h1]
      all_goals rfl
    · have m' : k ∈ r.map (·.1) := m.resolve_left fun z => e z.symm
      have q := dropK_len h2 m'
      rw [dropK_neg e, List.length_cons, List.length_cons]
      omega
end
end L2

namespace Blk
open PySem
/-- parts joined by a blank -/
def J : List (List Nat) → List Nat
  | [] => []
  | [x] => x
  | x :: y :: r => x ++ 32 :: J (y :: r)
/-- cut at blanks -/
def C : List Nat → List (List Nat)
  | [] => [[]]
  | c :: r => if c = 32 then [] :: C r else match C r with
    | [] => [[c]]
    | p :: ps => (c :: p) :: ps
theorem C_free : ∀ (x : List Nat), 32 ∉ x → C x = [x]
  | [], _ => rfl
  | c :: r, h => by
    have h1 : ¬ c = 32 := fun e => h (by rw [e]; exact List.mem_cons_self)
    have ih := C_free r fun m => h (List.mem_cons_of_mem _ m)
    show (if c = 32 then _ else _) = _
    rw [if_neg h1, ih]
theorem C_app : ∀ (x r : List Nat), 32 ∉ x → C (x ++ 32 :: r) = x :: C r
  | [], r, _ => by
    show (if 32 = 32 then _ else _) = _
    rw [if_pos rfl]
  | c :: x, r, h => by
    have h1 : ¬ c = 32 := fun e => h (by rw [e]; exact List.mem_cons_self)
    have ih := C_app x r fun m => h (List.mem_cons_of_mem _ m)
    show (if c = 32 then _ else match C (x ++ 32 :: r) with | [] => [[c]] | p :: ps => (c :: p) :: ps) = _
    rw [if_neg h1, ih]
theorem C_J : ∀ (ps : List (List Nat)), ps ≠ [] → (∀ p ∈ ps, 32 ∉ p) → C (J ps) = ps
  | [], h, _ => absurd rfl h
  | [x], _, h => C_free x (h x List.mem_cons_self)
  | x :: y :: r, _, h => by
    show C (x ++ 32 :: J (y :: r)) = _
    rw [C_app x _ (h x List.mem_cons_self), C_J (y :: r) (by intro e; cases e) fun p hp => h p (List.mem_cons_of_mem _ hp)]
theorem J_snoc : ∀ (ws : List (List Nat)) (w : List Nat), J (ws ++ [w]) = (ws.map (· ++ [32])).flatten ++ w
  | [], w => rfl
  | [x], w => by
    show x ++ 32 :: w = _
    simp
  | x :: y :: r, w => by
    have ih := J_snoc (y :: r) w
    show x ++ 32 :: J (y :: r ++ [w]) = _
    rw [ih]
    simp
/-- texts by their signs -/
def sg (x : Str) : List Nat := x.cps.toList
theorem sg_inj {x y : Str} (h : sg x = sg y) : x = y := by
  obtain ⟨a⟩ := x
  obtain ⟨b⟩ := y
  have e : a.toList = b.toList := h
  rw [Array.toList_inj.mp e]
theorem sg_app (x y : Str) : sg (x ++ y) = sg x ++ sg y := Array.toList_append ..
theorem map_sg_inj : ∀ {a b : List Str}, a.map sg = b.map sg → a = b
  | [], [], _ => rfl
  | [], _ :: _, h => by cases h
  | _ :: _, [], h => by cases h
  | x :: a, y :: b, h => by
    have e := List.cons.inj h
    rw [sg_inj e.1, map_sg_inj e.2]
theorem J_join : ∀ ps : List Str, ps ≠ [] → sg (Str.join ⟨#[32]⟩ ps) = J (ps.map sg)
  | [], h => absurd rfl h
  | [x], _ => rfl
  | x :: y :: r, _ => by
    have ih := J_join (y :: r) (by intro e; cases e)
    show sg (x ++ ⟨#[32]⟩ ++ Str.join ⟨#[32]⟩ (y :: r)) = sg x ++ 32 :: J ((y :: r).map sg)
    rw [sg_app, sg_app, ih]
    show sg x ++ [32] ++ _ = _
    rw [List.append_assoc] <;> rfl
/-- two ways to part one text at its blanks are one -/
theorem part_unique {z : Str} {a b : List Str} (ha : a ≠ []) (hb : b ≠ []) (fa : ∀ p ∈ a, 32 ∉ sg p) (fb : ∀ p ∈ b, 32 ∉ sg p) (ja : J (a.map sg) = sg z) (jb : J (b.map sg) = sg z) : a = b := by
  have h1 := C_J (a.map sg) (by simpa using ha) (by intro p hp; obtain ⟨q, hq, rfl⟩ := List.mem_map.mp hp; exact fa q hq)
  have h2 := C_J (b.map sg) (by simpa using hb) (by intro p hp; obtain ⟨q, hq, rfl⟩ := List.mem_map.mp hp; exact fb q hq)
  rw [ja] at h1
  rw [jb] at h2
  exact map_sg_inj (h1.symm.trans h2)
/-- what holds between two turns of the parting loop: the parts that are done, the one under way -/
structure Parts (pre : List Nat) (ws : List Str) (w : Str) : Prop where
  free : ∀ p ∈ ws ++ [w], 32 ∉ sg p
  join : ((ws.map sg).map (· ++ [32])).flatten ++ sg w = pre
  many : ws.length ≤ pre.length
  len : w.length ≤ pre.length
theorem Parts.start : Parts [] [] ⟨#[]⟩ := by
  refine ⟨?_, rfl, Nat.le_refl _, Nat.le_refl _⟩
  intro p hp
  rw [List.mem_singleton.mp hp]
  intro h
  cases h
theorem Parts.blank {pre : List Nat} {ws : List Str} {w : Str} (P : Parts pre ws w) : Parts (pre ++ [32]) (ws ++ [w]) ⟨#[]⟩ := by
  refine ⟨?_, ?_, ?_, Nat.zero_le _⟩
  · intro p hp
    rcases List.mem_append.mp hp with h | h
    · exact P.free p h
    · rw [List.mem_singleton.mp h]
      intro h
      cases h
  · rw [← P.join]
    simp [sg]
  · have := P.many
    simp only [List.length_append, List.length_singleton]
    omega
theorem Parts.sign {pre : List Nat} {ws : List Str} {w : Str} {c : Nat} (P : Parts pre ws w) (h : c ≠ 32) : Parts (pre ++ [c]) ws (w ++ ⟨#[c]⟩) := by
  have e : sg (w ++ ⟨#[c]⟩) = sg w ++ [c] := sg_app ..
  refine ⟨?_, ?_, ?_, ?_⟩
  · intro p hp
    rcases List.mem_append.mp hp with q | q
    · exact P.free p (List.mem_append_left _ q)
    · rw [List.mem_singleton.mp q, e]
      intro m
      rcases List.mem_append.mp m with m | m
      · exact P.free w (List.mem_append_right _ (List.mem_singleton.mpr rfl)) m
      · exact h (List.mem_singleton.mp m).symm
  · rw [← P.join, e, List.append_assoc]
  · have := P.many
    simp only [List.length_append, List.length_singleton]
    omega
  · have := P.len
    have e2 := congrArg List.length e
    simp only [List.length_append, List.length_singleton] at e2 ⊢
    have e3 : (sg (w ++ ⟨#[c]⟩)).length = (w ++ ⟨#[c]⟩ : Str).length := by simp [sg, Str.length]
    have e4 : (sg w).length = w.length := by simp [sg, Str.length]
    omega
theorem Parts.done {z : Str} {ws : List Str} {w : Str} (P : Parts (sg z) ws w) {b : List Str} (hb : b ≠ []) (fb : ∀ p ∈ b, 32 ∉ sg p) (jb : Str.join ⟨#[32]⟩ b = z) : ws ++ [w] = b := by
  refine part_unique (z := z) (by simp) hb P.free fb ?_ ?_
  · rw [List.map_append, List.map_singleton, J_snoc]
    exact P.join
  · rw [← J_join b hb, jb]
end Blk

namespace L2
open PySem PySem.Spec PyProof.Rows
theorem small {n : Nat} (h : n ≤ 1000) : n ≤ sizeLine := Nat.le_of_lt (small1000 h)
theorem len_app (x y : Str) : (x ++ y).length = x.length + y.length := by
  show (x.cps ++ y.cps).size = x.cps.size + y.cps.size
  exact Array.size_append
theorem len_toList (z : Str) : z.cps.toList.length = z.length := by simp [Str.length]
theorem at_in {α : Type} {xs : List α} {i : Int} (h0 : 0 ≤ i) (h1 : i < (xs.length : Int)) : ∃ v, xs[i.toNat]? = some v ∧ atI xs i = some v := by
  have hk : i.toNat < xs.length := by omega
  have q : atI xs ((i.toNat : Nat) : Int) = some xs[i.toNat] := atI_nat (List.getElem?_eq_getElem hk)
  have e : ((i.toNat : Nat) : Int) = i := by omega
  rw [e] at q
  exact ⟨_, List.getElem?_eq_getElem hk, q⟩
theorem bt_list : bootBuiltins "list" = some (.type "list") := by decide +kernel
theorem bt_str : bootBuiltins "str" = some (.type "str") := by decide +kernel
theorem bt_bool : bootBuiltins "bool" = some (.type "bool") := by decide +kernel
theorem bt_int : bootBuiltins "int" = some (.type "int") := by decide +kernel
theorem bt_isi : bootBuiltins "isinstance" = some (.builtin "isinstance") := by decide +kernel
theorem bt_all : bootBuiltins "all" = some (.builtin "all") := by decide +kernel
theorem bt_min : bootBuiltins "min" = some (.builtin "min") := by decide +kernel
theorem bt_max : bootBuiltins "max" = some (.builtin "max") := by decide +kernel
theorem bt_tuple : bootBuiltins "tuple" = some (.type "tuple") := by decide +kernel
theorem rel_ty (n : String) : RelV (.ty n) (.type n) := rfl
theorem rel_str (x : Str) (t : Tok) : RelV (.str x) (.str x t) := ⟨t, rfl⟩
theorem rel_int (x : Int) (t : Tok) : RelV (.int x) (.int x t) := ⟨t, rfl⟩
/-! ### a text walked sign by sign -/
def Itx (z : Str) : It := ⟨fun i _ => i < z.cps.size, fun i H x H' => H' = H ∧ ∃ c, z.cps[i]? = some c ∧ x = .str ⟨#[c]⟩, fun i _ => i = z.cps.size⟩
theorem strIter_cases (z : Str) : (z.cps.all (· < 128) = true ∧ strIterType z = "str_ascii_iterator") ∨ (z.cps.all (· < 128) = false ∧ strIterType z = "str_iterator") := by
  unfold strIterType
  cases ha : z.cps.all (· < 128)
  · exact .inr ⟨rfl, by rfl⟩
  · exact .inl ⟨rfl, by rfl⟩
theorem walks_str {P : Program} {w : World} {A : Around} (hh : A.handled = none) (it : Addr) (z : Str) (t : Tok) :
    Walks P w A it [it] [it] z.cps.size (SignAt z) (fun i h => h.IsStrIter it (strIterType z) z t i) := by
  rcases strIter_cases z with ⟨_, e⟩ | ⟨_, e⟩
  · rw [e]; exact Walks.strAscii hh it z t
  · rw [e]; exact Walks.strWide hh it z t
theorem strIter_plain (z : Str) : ["enumerate", "zip", "dict_itemiterator", "dict_reverseitemiterator", "odict_iterator", "itertools.zip_longest", "itertools.pairwise"].contains (strIterType z) = false := by
  rcases strIter_cases z with ⟨_, e⟩ | ⟨_, e⟩
  · rw [e]; decide
  · rw [e]; decide
theorem turn_str {P : Program} {w : World} {K : PySem.W.Frag} {tg : Expr} (z : Str) (t : Tok) (it : Addr) : Turn P w K tg (Itx z) [it] it (fun i h => h.IsStrIter it (strIterType z) z t i) where
  mem := by simp
  obj := fun i h st b hb => by
    have e : b = it := by simpa using hb
    subst e
    obtain ⟨o, e, c, d⟩ := st
    exact ⟨o, e, fun v z => by rw [d] at z; cases z⟩
  keep := fun i h h' st k => by
    obtain ⟨o, e, r⟩ := st
    exact ⟨o, k it (by simp) o e, r⟩
  item := by
    intro X hP hw hK hc i pins s σ H E I hf st hg
    subst hP hw hK
    obtain ⟨f0, f1, f2, f3, f4, f5⟩ := hf it (by simp)
    have W := walks_str (P := X.prog) (w := X.w) (I.ok.hd hc) it z t
    refine W.item i s _ _ hg st fun v h' tk hv st' kk => ?_
    obtain ⟨c, u, hx, rfl⟩ := hv
    have I1 : Inv X pins σ H { s with heap := h', toks := tk } := I.turned (fun b o hb e => kk b o (by simpa using hb) e) f0 f1 f3 f4 f5
    obtain ⟨o, e, cc, d⟩ := id st'
    exact ⟨_, rfl, go_of (s := { s with heap := h', toks := tk }) e cc d (strIter_plain z) ⟨.str ⟨#[c]⟩, H, I1, ⟨u, rfl⟩, ⟨rfl, c, hx, rfl⟩, st', fun b hb => (hf b hb).1⟩⟩
  done := by
    intro X hP hw hK hc i pins s σ H E I hf st hg
    subst hP hw hK
    obtain ⟨f0, f1, f2, f3, f4, f5⟩ := hf it (by simp)
    have W := walks_str (P := X.prog) (w := X.w) (I.ok.hd hc) it z t
    have e : i = z.cps.size := hg
    subst e
    exact W.done s _ _ st fun h' tk kk => ⟨rfl, I.turned (t' := tk) (fun b o hb e => kk b o (by simpa using hb) e) f0 f1 f3 f4 f5⟩
  self := fun A i s Q E st h => by
    have st' : s.heap.IsStrIter it (strIterType z) z t i := st
    rcases strIter_cases z with ⟨_, e⟩ | ⟨_, e⟩
    · rw [e] at st'; exact wpAny_pyIter_striter_ascii st' h
    · rw [e] at st'; exact wpAny_pyIter_striter_wide st' h
section
variable {X : Cx} {tg : Expr}
def iStr (tl : TE) : TI := fun σ H R => tl σ H fun x H1 => ∃ z, x = .str z ∧ R (Itx z) H1
theorem pi_str {l : Expr} {tl : TE} (hl : PE X l tl) : PI X tg l (iStr tl) := by
  intro pins s σ H R I h
  refine thn (hl pins s σ H _ I h) fun v s1 ⟨x, H1, I1, r1, q1⟩ => ?_
  obtain ⟨z, e, q⟩ := q1
  subst e
  obtain ⟨t, rfl⟩ := r1
  refine wpAny_pyIter_strU ?_
  refine ⟨s1.heap.objs.size, [s1.heap.objs.size], _, _, H1, rfl, I1.kept (t' := s1.toks) fun b o e => Heap.get?_push_of_some _ e, turn_str z t _, ⟨_, Heap.get?_push_size _ rfl, rfl, rfl⟩, fun b hb => ?_, q⟩
  have e : b = s1.heap.objs.size := by simpa using hb
  subst e
  exact I1.fpOk (Nat.le_refl _) (I1.hok.fresh (Nat.le_refl _))
end
theorem for_str {z : Str} {g : TG} {tb : TS} {D : Ends} {σ : St} {H : Hp} (Pv : Nat → St → Hp → Prop) (h0 : Pv 0 σ H)
    (hs : ∀ i c σ H, z.cps[i]? = some c → Pv i σ H → g (.str ⟨#[c]⟩) σ H fun σ2 H2 => tb { D with nx := Pv (i + 1), ct := Pv (i + 1), bk := D.nx } σ2 H2) (hd : ∀ σ H, Pv z.cps.size σ H → D.nx σ H) :
    ∃ W : Nat → Nat → St → Hp → Prop, (∃ m, W 0 m σ H) ∧ ∀ i m σ H, W i m σ H →
      ((Itx z).stop i H ∧ D.nx σ H) ∨ ((Itx z).go i H ∧ ∃ N : St → Hp → Prop, (∀ σ' H', N σ' H' → ∃ m', m' < m ∧ W (i + 1) m' σ' H') ∧ ∀ x H', (Itx z).yld i H x H' → g x σ H' fun σ2 H2 => tb { D with nx := N, ct := N, bk := D.nx } σ2 H2) := by
  refine ⟨fun i m σ H => m = z.cps.size - i ∧ i ≤ z.cps.size ∧ Pv i σ H, ⟨z.cps.size, by simp, Nat.zero_le _, h0⟩, ?_⟩
  rintro i m σ H ⟨rfl, hi, p⟩
  by_cases hlt : i < z.cps.size
  · refine .inr ⟨hlt, Pv (i + 1), fun σ' H' p' => ⟨z.cps.size - (i + 1), by omega, rfl, hlt, p'⟩, fun x H' y => ?_⟩
    obtain ⟨e, c, hc, hx⟩ := y
    subst e hx
    exact hs i c σ _ hc p
  · have e : i = z.cps.size := by omega
    subst e
    exact .inl ⟨rfl, hd σ H p⟩
section
variable {X : Cx}
/-! ### a sign of a text, at a place that lies in it -/
def rIxSA : R2 := fun x y H Q => ∃ z i, x = .str z ∧ y = .int i ∧ z.length ≤ sizeLine ∧ 0 ≤ i ∧ i < ((z.length : Nat) : Int) ∧ ∀ c, z.cps.toList[i.toNat]? = some c → Q (.str ⟨#[c]⟩) H
theorem ix_strA : IxR X rIxSA := by
  intro value slice pins s σ H x y v u Q I rx ry h hs
  obtain ⟨z, i, rfl, rfl, hz, h0, h1, q⟩ := h
  obtain ⟨c, e1, e2⟩ := at_in (xs := z.cps.toList) h0 (by rw [len_toList]; exact h1)
  exact ix_str value slice pins s σ H _ _ v u Q I rx ry ⟨z, i, c, rfl, rfl, hz, e2, q c e1⟩ hs
/-! ### isinstance(x, a built-in class) -/
def rIsi (K : PySem.W.Frag) : List V → Hp → VK → Prop := fun xs H Q => ∃ x n t b, xs = [x, .ty n] ∧ TyOf K H x t ∧ PySem.W.kitOne K t (.type n) = some b ∧ Q (.bl b) H
theorem call_isi : CallR X (.builtin "isinstance") (rIsi X.K) := by
  intro pins s σ H xs us Q I r h
  obtain ⟨x, n, t, b, rfl, ty, e, q⟩ := h
  obtain ⟨u, w', rfl, r1, r2⟩ := vals2 r
  cases (show w' = Value.type n from r2)
  exact isinst_ok I r1 ty e fun tk => ⟨.bl b, H, I.tok tk, rfl, q⟩
theorem kit_same {K : PySem.W.Frag} (n : String) : PySem.W.kitOne K (.type n) (.type n) = some true := by
  unfold PySem.W.kitOne
  rw [if_pos (beq_self_eq_true _)]
/-! ### lists of flat things: == and != -/
def eqVs (xs ys : List V) : Bool := xs.length == ys.length && (List.range xs.length).all fun j => eqV (xs.getD j .non) (ys.getD j .non)
theorem flat_at {xs : List V} (f : xs.all flatV = true) (j : Nat) : flatV (xs.getD j .non) = true := by
  by_cases h : j < xs.length
  · rw [List.getD_eq_getElem?_getD, List.getElem?_eq_getElem h]
    exact (List.all_eq_true.mp f) _ (List.getElem_mem h)
  · rw [List.getD_eq_getElem?_getD, List.getElem?_eq_none (by omega)]
    rfl
theorem vals_at {xs : List V} {us : List Value} (r : Vals xs us) (j : Nat) (h : j < us.toArray.size) : RelV (xs.getD j .non) (us.toArray[j]) := by
  have hl := r.length
  have h' : j < us.length := by simpa using h
  have h2 : j < xs.length := by omega
  obtain ⟨u, e1, e2⟩ := r.get (List.getElem?_eq_getElem h2)
  rw [List.getD_eq_getElem?_getD, List.getElem?_eq_getElem h2]
  have e3 : us.toArray[j] = u := by
    rw [List.getElem?_eq_getElem h'] at e1
    simpa using Option.some.inj e1
  rw [e3]
  exact e2
def rEqL (K : PySem.W.Frag) (neg : Bool) : R2 := fun x y H Q => ∃ p q xs ys, x = .ref p ∧ y = .ref q ∧ SqL K H p xs ∧ SqL K H q ys ∧ xs.all flatV = true ∧ ys.all flatV = true ∧ Q (.bl (if neg then !eqVs xs ys else eqVs xs ys)) H
theorem op_ne_list (hu : X.A.units < cLine) : OpR X (compareOp .NotEq) (rEqL X.K true) := by
  intro pins s σ H x y v u Q I rx ry h
  obtain ⟨p, q, xs, ys, rfl, rfl, hp, hq, fx, fy, k⟩ := h
  cases rx
  cases ry
  obtain ⟨its, r1, l1, z1⟩ := I.list hp
  obtain ⟨jts, r2, l2, z2⟩ := I.list hq
  have e1 := r1.length
  have e2 := r2.length
  have fin : ∀ b, b = eqVs xs ys → EP X pins σ Q (.bool (!b)) s := fun b e => ⟨.bl (!b), H, I, rfl, by rw [e]; exact k⟩
  by_cases hs : xs.length = ys.length
  · refine SeqAt.RcNeAt.lists (e := fun j => eqV (xs.getD j .non) (ys.getD j .non)) l1.isList l2.isList (by simp; omega) hu (fun j h1 h2 => ?_) X.prog X.w _ _ (fin _ ?_)
    · exact eqAt_V (vals_at r1 j h1) (vals_at r2 j h2) (flat_at fx j) (flat_at fy j)
    · unfold eqVs
      rw [List.size_toArray, ← e1, hs, beq_self_eq_true, Bool.true_and]
  · refine SeqAt.RcNeAt.lists_lengths l1.isList l2.isList (by simp [bne_iff_ne]; omega) hu X.prog X.w _ _ (fin false ?_)
    unfold eqVs
    rw [beq_eq_false_iff_ne.mpr hs, Bool.false_and]
theorem op_eq_list (hu : X.A.units < cLine) : OpR X (compareOp .Eq) (rEqL X.K false) := by
  intro pins s σ H x y v u Q I rx ry h
  obtain ⟨p, q, xs, ys, rfl, rfl, hp, hq, fx, fy, k⟩ := h
  cases rx
  cases ry
  obtain ⟨its, r1, l1, z1⟩ := I.list hp
  obtain ⟨jts, r2, l2, z2⟩ := I.list hq
  have e1 := r1.length
  have e2 := r2.length
  have fin : ∀ b, b = eqVs xs ys → EP X pins σ Q (.bool b) s := fun b e => ⟨.bl b, H, I, rfl, by rw [e]; exact k⟩
  by_cases hs : xs.length = ys.length
  · refine SeqAt.RcAt.lists (e := fun j => eqV (xs.getD j .non) (ys.getD j .non)) l1.isList l2.isList (by simp; omega) hu (fun j h1 h2 => ?_) X.prog X.w _ _ (fin _ ?_)
    · exact eqAt_V (vals_at r1 j h1) (vals_at r2 j h2) (flat_at fx j) (flat_at fy j)
    · unfold eqVs
      rw [List.size_toArray, ← e1, hs, beq_self_eq_true, Bool.true_and]
  · refine SeqAt.RcAt.lists_lengths l1.isList l2.isList (by simp [bne_iff_ne]; omega) hu X.prog X.w _ _ (fin false ?_)
    unfold eqVs
    rw [beq_eq_false_iff_ne.mpr hs, Bool.false_and]
theorem flat_strs (as : List Str) : (as.map V.str).all flatV = true := by
  rw [List.all_map]
  exact List.all_eq_true.mpr fun _ _ => rfl
theorem eqV_refl {x : V} (f : flatV x = true) : eqV x x = true := by
  cases x with
  | non => rfl
  | bl b => exact beq_self_eq_true b
  | int i => exact beq_self_eq_true i
  | str z => exact beq_self_eq_true z
  | _ => exact absurd (show false = true from f) Bool.false_ne_true
theorem eqVs_refl {xs : List V} (f : xs.all flatV = true) : eqVs xs xs = true := by
  unfold eqVs
  rw [beq_self_eq_true, Bool.true_and]
  exact List.all_eq_true.mpr fun j _ => eqV_refl (flat_at f j)
/-! ### x.split(y) -/
theorem vals_strs : ∀ (l : List (Str × Tok)), Vals ((l.map (·.1)).map V.str) (strValues l)
  | [] => .nil
  | (x, t) :: r => .cons ⟨t, rfl⟩ (vals_strs r)
def rSplit : V → List V → Hp → VK → Prop := fun x vs H Q => ∃ z y, x = .str z ∧ vs = [.str y] ∧ (y.length == 0) = false ∧ z.length + 2 ≤ sizeLine ∧ ∀ p, H p = none → Q (.ref p) (upd H p (.lst ((Txt.split z y).map V.str)))
theorem mt_split : MtR X "str.split" rSplit := by
  intro pins s σ H x vs v us Q I rx rv h
  obtain ⟨z, y, rfl, rfl, hy, hz, q⟩ := h
  obtain ⟨t, rfl⟩ := rx
  obtain ⟨u', rfl, u, rfl⟩ := rv.one
  have hsl := split_le z y
  have fin : ∀ (l : List (Str × Tok)) (tk : Nat), l.map (·.1) = Txt.split z y → EP X pins σ Q (.ref s.heap.objs.size) { s with heap := s.heap.push { cls := .type "list", data := .seq (strValues l).toArray }, toks := tk } := fun l tk e => by
    refine ⟨.ref s.heap.objs.size, _, I.lnew (ys := (Txt.split z y).map V.str) (its := strValues l) (by rw [← e]; exact vals_strs l) (by rw [List.length_map]; omega), rfl, q _ I.fresh⟩
  cases h1 : (decide (z.length < y.length) || decide (Builtin.Str.strKind z < Builtin.Str.strKind y))
  · cases hf : (Builtin.Str.occurrences z y 0 z.length (z.length + 1)).isEmpty
    · have e0 : Txt.split z y = Builtin.Str.partsBetween z (Builtin.Str.occurrences z y 0 z.length (z.length + 1)) y.length := (if_neg (ne_true_of_eq_false h1)).trans (if_neg (ne_true_of_eq_false hf))
      refine call_meets F.slot_str_split (typeIs_str _ _ _) F.entry_str_split (F.args_str_split_2 _ _) (meets_str_split_sep z y t u h1 hy hf (by omega) (by rw [← e0]; omega)) ?_
      have k := fin (numbered s.toks (Builtin.Str.partsBetween z (Builtin.Str.occurrences z y 0 z.length (z.length + 1)) y.length)) (s.toks + (Builtin.Str.partsBetween z (Builtin.Str.occurrences z y 0 z.length (z.length + 1)) y.length).length) ((numbered_texts _ _).trans e0.symm)
      rw [← strsFrom_eq] at k
      exact k
    · exact call_meets F.slot_str_split (typeIs_str _ _ _) F.entry_str_split (F.args_str_split_2 _ _) (meets_str_split_not_found z y t u h1 hy hf)
        (fin [(z, t)] s.toks ((if_neg (ne_true_of_eq_false h1)).trans (if_pos hf)).symm)
  · exact call_meets F.slot_str_split (typeIs_str _ _ _) F.entry_str_split (F.args_str_split_2 _ _) (meets_str_split_cannot_occur z y t u h1) (fin [(z, t)] s.toks (if_pos h1).symm)
end
/-! ### heaps -/
theorem same_new {H : Hp} {p : Addr} (h : H p = none) (o : HO) : Same H (upd H p o) := fun b u q => by rw [upd_ne (ne_of_none q h)]; exact q
theorem same_on {H H' : Hp} {p : Addr} (h : H p = none) (e : Same H H') (o : HO) : Same H (upd H' p o) := fun b u q => by rw [upd_ne (ne_of_none q h)]; exact e b u q
end L2

namespace L2
open PySem PySem.Spec PyProof.Rows
/-! ### the cells that a comprehension's block takes along -/
def closOf (cells : List (Str × Addr)) : List (Str × NameKind) → List (Str × Addr) → List (Str × Addr)
  | [], acc => acc
  | (n, k) :: r, acc => closOf cells r (if (k == .free) = true then (n, (cells.lookup n).getD 0) :: acc else acc)
theorem closureFor_of {scope : Scope} {env : Env} (h : ∀ p ∈ scope.names, p.2 = .free → (env.cells.lookup p.1).isSome = true) : closureFor scope env = pure (closOf env.cells scope.names []) := by
  obtain ⟨kd, names, g1, g2, more⟩ := scope
  simp only [closureFor]
  dsimp only at h ⊢
  generalize ([] : List (Str × Addr)) = acc
  induction names generalizing acc with
  | nil => rfl
  | cons p r ih =>
    obtain ⟨n, k⟩ := p
    have hr : ∀ p ∈ r, p.2 = .free → (env.cells.lookup p.1).isSome = true := fun p hp => h p (List.mem_cons_of_mem _ hp)
    have ih' := ih hr
    simp only [closOf]
    by_cases hk : k = .free
    · subst hk
      obtain ⟨c, hc⟩ := Option.isSome_iff_exists.mp (h (n, .free) List.mem_cons_self rfl)
      have hc' : List.lookup n env.cells = some c := hc
      rw [show (NameKind.free == NameKind.free) = true from rfl, if_pos rfl, hc']
      have e : cellOf env n = pure c := by unfold cellOf; rw [hc']
      have q := ih' ((n, c) :: acc)
      simp only [List.forIn_cons, beq_self_eq_true, if_true, e, pure_bind, Option.getD_some]
      exact q
    · have hb : (k == NameKind.free) = false := by simpa using hk
      have q := ih' acc
      simp only [List.forIn_cons, hb, Bool.false_eq_true, if_false, pure_bind]
      exact q
theorem closOf_in {cells : List (Str × Addr)} {y : Str} {c : Addr} : ∀ (names : List (Str × NameKind)) (acc : List (Str × Addr)), (∀ p ∈ names, p.2 = .free → (cells.lookup p.1).isSome = true) →
    (∀ y c, acc.lookup y = some c → cells.lookup y = some c) → (closOf cells names acc).lookup y = some c → cells.lookup y = some c
  | [], _, _, ha, h => ha _ _ h
  | (n, k) :: r, acc, hn, ha, h => by
    refine closOf_in r _ (fun p hp => hn p (List.mem_cons_of_mem _ hp)) (fun y c hy => ?_) h
    by_cases hk : (k == NameKind.free) = true
    · rw [if_pos hk] at hy
      rw [List.lookup_cons] at hy
      by_cases e : (y == n) = true
      · rw [e] at hy
        obtain ⟨d, hd⟩ := Option.isSome_iff_exists.mp (hn (n, k) List.mem_cons_self (by simpa using hk))
        have hd' : cells.lookup n = some d := hd
        have hy' : (cells.lookup n).getD 0 = c := Option.some.inj hy
        rw [hd'] at hy'
        rw [eq_of_beq e, hd']
        exact congrArg some hy'
      · rw [Bool.eq_false_iff.mpr e] at hy
        exact ha y c hy
    · rw [if_neg hk] at hy
      exact ha y c hy
theorem closOf_has {cells : List (Str × Addr)} {y : Str} : ∀ (names : List (Str × NameKind)) (acc : List (Str × Addr)), ((acc.lookup y).isSome = true ∨ (y, NameKind.free) ∈ names) → ((closOf cells names acc).lookup y).isSome = true
  | [], acc, h => h.elim id (fun z => by cases z)
  | (n, k) :: r, acc, h => by
    refine closOf_has r _ ?_
    rcases h with h | h
    · refine .inl ?_
      by_cases hk : (k == NameKind.free) = true
      · rw [if_pos hk, List.lookup_cons]
        by_cases e : (y == n) = true
        · rw [e]; rfl
        · rw [Bool.eq_false_iff.mpr e]; exact h
      · rw [if_neg hk]; exact h
    · rcases List.mem_cons.mp h with e | h
      · cases e
        refine .inl ?_
        rw [if_pos (show (NameKind.free == NameKind.free) = true from rfl), List.lookup_cons, beq_self_eq_true]
        rfl
      · exact .inr h
/-- the context of a comprehension's block -/
def compCx (X : Cx) (scope : Scope) (N' : List Str) (C : Addr) (ex : List Addr) (s₂ : Shared) (H₂ : Hp) : Cx where
  prog := X.prog
  w := X.w
  K := X.K
  mg := X.mg
  base := X.base
  A := X.A
  N := N'
  s₀ := s₂
  H₀ := H₂
  env := compEnvC scope (closOf X.env.cells scope.names []) C X.env
  outer := X.stack
  stack := X.stack
  ex := ex
  fn := fun _ => false
  calm := X.calm
  pn := []
  xe := fun _ _ => False
def FreesOk (X : Cx) (scope : Scope) : List (Str × Nat) → Prop
  | [] => True
  | p :: r => (X.N[p.2]? = some p.1 ∧ X.env.kindOf p.1 = some .cell ∧ (relabel scope X.env).names.lookup p.1 = some .cell ∧ (p.1, NameKind.free) ∈ scope.names) ∧ FreesOk X scope r
theorem FreesOk.at {X : Cx} {scope : Scope} : ∀ {fr : List (Str × Nat)}, FreesOk X scope fr → ∀ p ∈ fr, X.N[p.2]? = some p.1 ∧ X.env.kindOf p.1 = some .cell ∧ (relabel scope X.env).names.lookup p.1 = some .cell ∧ (p.1, NameKind.free) ∈ scope.names
  | [], _, p, hp => by cases hp
  | _ :: _, h, p, hp => by
    rcases List.mem_cons.mp hp with e | hp
    · rw [e]; exact h.1
    · exact FreesOk.at h.2 p hp
/-- the block's names: the loop's own, then those of the def around it -/
def inSt (frees : List (Str × Nat)) (σ : St) (x : Option V) : St := x :: frees.map fun p => (σ[p.2]?).join
/-- the tests of a clause -/
def PIfs (X : Cx) (ifs : List Expr) (t : TT) : Prop :=
  ∀ (pins : List (Addr × Obj)) (s : Shared) (σ : St) (H : Hp) (Q : Bool → Hp → Prop), Inv X pins σ H s → t σ H Q →
    wpAny (model X.prog X.w) X.A (forIn ifs true fun c r => if r = true then do let ok ← isTrue c X.env (eval c X.env); pure (ForInStep.yield ok) else pure (ForInStep.yield r)) (TP X pins σ Q) X.xe s
theorem pifs_nil {X : Cx} : PIfs X [] (fun _ H Q => Q true H) := fun _ _ _ H _ I h => wpAny_tests_nil ⟨H, I, h⟩
theorem pifs_one {X : Cx} {c : Expr} {t : TT} (h : PT X c t) : PIfs X [c] t := fun pins s σ H Q I hw => wpAny_tests_one (h pins s σ H Q I hw)
/-- what the block wants: W, by the turn, a measure, the items so far, the heap -/
def CompB (J : It) (tc : TT) (te : TE) (σf : Option V → St) (H1 : Hp) (Q : VK) : Prop := ∀ D, H1 D = none →
  ∃ W : Nat → Nat → List V → Hp → Prop, (∃ m, W 0 m [] (upd H1 D (.lst []))) ∧ ∀ i m ys H2, W i m ys H2 → H2 D = some (.lst ys) ∧
    ((J.stop i H2 ∧ Q (.ref D) H2) ∨ (J.go i H2 ∧ ys.length < sizeLine ∧ ∀ x H3, J.yld i H2 x H3 → tc (σf (some x)) H3 fun b H4 =>
      if b = true then te (σf (some x)) H4 fun y H5 => H5 D = some (.lst ys) ∧ ∃ m', m' < m ∧ W (i + 1) m' (ys ++ [y]) (upd H5 D (.lst (ys ++ [y]))) else ∃ m', m' < m ∧ W (i + 1) m' ys H4))
section
variable {prog : Program} {w : World} {A : Around} {R : Result → Shared → Prop} {s : Shared}
theorem comp_loop {elt target iter : Expr} {ifs : List Expr} {scope : Scope} {pos : Pos} {it acc : Value} {env : Env} (I : Nat → Shared → Prop)
    (turn : ∀ n s, I n s → wpAny (model prog w) A (pyNext it) (fun r s₁ => match r with
      | none => R (.ok .next) s₁
      | some v => wpAny (model prog w) A (letOwnedTupleGo target it v) (fun _ s₁' => wpAny (model prog w) A (assign target env v) (fun _ s₂ =>
          wpAny (model prog w) A (forIn ifs true fun c r => if r = true then do let ok ← isTrue c env (eval c env); pure (ForInStep.yield ok) else pure (ForInStep.yield r)) (fun ok s₃ =>
            if ok = true then wpAny (model prog w) A (eval elt env) (fun x s₄ =>
              wpAny (model prog w) A (call (.builtin "list.append") [acc, x]) (fun _ s₅ => ∃ m, m < n ∧ I m s₅) (fun _ _ => False) s₄) (fun _ _ => False) s₃
            else ∃ m, m < n ∧ I m s₃) (fun _ _ => False) s₂) (fun _ _ => False) s₁') (fun _ _ => False) s₁) (fun _ _ => False) s)
    (n : Nat) (h : I n s) :
    codeAny (model prog w) A (.compLoop (.ListComp elt [⟨target, iter, ifs, 0⟩] scope pos) 0 it acc env) R s := by
  have no : ∀ {α : Type} {t : Sem α} {Q : α → Shared → Prop} {E : Value → Shared → Prop} {s : Shared}, wpAny (model prog w) A t Q (fun _ _ => False) s → wpAny (model prog w) A t Q E s := fun h => wpAny_mono h (fun _ _ q => q) fun _ _ f => f.elim
  refine codeAny_loop rfl I (fun n s hI => ?_) n h
  show wpAny _ A ((compTurn (.ListComp elt [⟨target, iter, ifs, 0⟩] scope pos) 0 it acc env).onRaise (fun x => do noteFrame x env; theTreesLotGoes x)) _ _ s
  refine wpAny_noted ?_
  rw [compTurn_list]
  refine wpAny_bind (wpAny_standAt (wpAny_bind (wpAny_mono (turn n s hI) (fun r s₁ h₁ => ?_) fun _ _ h' => h'.elim)))
  cases r with
  | none => exact wpAny_pure h₁
  | some v =>
    refine wpAny_bind (wpAny_mono h₁ (fun _ s₁' h₁' => ?_) fun _ _ h' => h'.elim)
    refine wpAny_bind (wpAny_mono h₁' (fun _ s₂ h₂ => wpAny_bind (wpAny_mono h₂ (fun ok s₃ h₃ => ?_) fun _ _ h' => h'.elim)) fun _ _ h' => h'.elim)
    cases ok with
    | false => exact wpAny_pure ⟨rfl, h₃⟩
    | true =>
      exact wpAny_bind (wpAny_bind (wpAny_mono h₃ (fun x s₄ h₄ => wpAny_bind (wpAny_mono h₄ (fun _ s₅ h₅ => wpAny_pure (wpAny_pure ⟨rfl, h₅⟩)) fun _ _ h' => h'.elim)) fun _ _ h' => h'.elim))
end
section
variable {X : Cx} {elt iter : Expr} {x : Str} {px pos : Pos} {ifs : List Expr} {scope : Scope} {frees : List (Str × Nat)} {tc : TT} {te : TE}
/-- what the text of a comprehension must be -/
structure CompOk (X : Cx) (scope : Scope) (x : Str) (frees : List (Str × Nat)) : Prop where
  cell : ∀ y ∈ scope.names, y.2 ≠ .cell
  kind : scope.kind = .function
  own : scope.names.lookup x = some .local
  names : ∀ y ∈ scope.names, y.2 = .local → scope.names.lookup y.1 = some .local
  fr : FreesOk X scope frees
  nd : (x :: frees.map (·.1)).Nodup
  cl : ∀ p ∈ scope.names, p.2 = .free → (X.env.cells.lookup p.1).isSome = true
  calm : X.calm = true
theorem relabel_free {scope : Scope} {env : Env} {y : Str} (hc : ∀ y ∈ scope.names, y.2 ≠ .cell) (h : (relabel scope env).names.lookup y = some .cell ∨ (relabel scope env).names.lookup y = some .free) : (y, NameKind.free) ∈ scope.names := by
  have key : ∀ k, (relabel scope env).names.lookup y = some k → k ≠ .local → k = .cell ∨ k = .free → (y, NameKind.free) ∈ scope.names := fun k hk _ hkk => by
    have hm := PySem.mem_of_lookup hk
    obtain ⟨⟨n, k0⟩, hm0, e⟩ := List.mem_map.mp hm
    by_cases hcond : (k0 == NameKind.free && env.scope.kind == .function && env.kindOf n == some .cell) = true
    · have e' : (n, NameKind.cell) = (y, k) := by rw [← e]; exact (if_pos hcond).symm
      have hk0 : k0 = .free := by
        rw [Bool.and_eq_true, Bool.and_eq_true] at hcond
        exact eq_of_beq hcond.1.1
      have en : n = y := congrArg Prod.fst e'
      rw [← en, ← hk0]
      exact hm0
    · have e' : (n, k0) = (y, k) := by rw [← e]; exact (if_neg hcond).symm
      have en : n = y := congrArg Prod.fst e'
      have ek : k0 = k := congrArg Prod.snd e'
      rcases hkk with hkk | hkk
      · exact absurd (ek.trans hkk) (hc _ hm0)
      · rw [← en, ← hkk, ← ek]
        exact hm0
  rcases h with h | h
  · exact key _ h (by decide) (.inl rfl)
  · exact key _ h (by decide) (.inr rfl)
theorem comp_core {pins : List (Addr × Obj)} {σ : St} {H1 : Hp} {s₂ : Shared} {it : Addr} {fp : List Addr} {tn : Nat → Heap → Prop} {J : It} {Q : VK} {RR : Value → Addr → Result → Shared → Prop} {E : Value → Shared → Prop}
    (O : CompOk X scope x frees) (hc : ∀ C ex s₂ H₂, PIfs (compCx X scope (x :: frees.map (·.1)) C ex s₂ H₂) ifs tc) (he : ∀ C ex s₂ H₂, PE (compCx X scope (x :: frees.map (·.1)) C ex s₂ H₂) elt te)
    (I : Inv X pins σ H1 s₂) (T : Turn X.prog X.w X.K (.Name x px) J fp it tn) (st : tn 0 s₂.heap) (hf : ∀ b ∈ fp, FpOk X pins H1 b) (hB : CompB J tc te (inSt frees σ) H1 Q)
    (hRR : ∀ D C H' s', Inv X pins σ H' s' → (∃ m, s'.heap.Ns C m) → FpOk X pins H' C → Q (.ref D) H' → RR (.ref D) C (.ok .next) s') :
    wpAny (model X.prog X.w) X.A (newList []) (fun acc s₃ => wpAny (model X.prog X.w) X.A (newFunctionEnv scope X.env.globals (closOf X.env.cells scope.names []) [] X.env.qual none .none (some X.env)) (fun cenv s₄ =>
      codeAny (model X.prog X.w) X.A (.compStart (.ListComp elt [⟨.Name x px, iter, ifs, 0⟩] scope pos) 0 (.ref it) acc { cenv with scope := relabel scope X.env }) (RR acc cenv.locals) s₄) E s₃) E s₂ := by
  refine wpAny_newObj_type (wpAny_newFunctionEnv O.cell (by intro y hy; simp at hy) (fun h₁ hns₁ hsb₁ => ?_) O.kind)
  dsimp only at hns₁ hsb₁ ⊢
  generalize hH2 : s₂.heap.push { cls := .type "list", dict := none, data := .seq ([] : List Value).toArray } = H2 at hns₁ hsb₁ ⊢
  have hC : H2.objs.size = s₂.heap.objs.size + 1 := by rw [← hH2, Heap.size_push]
  have hDC : s₂.heap.objs.size ≠ H2.objs.size := by rw [hC]; exact Nat.ne_of_lt (Nat.lt_succ_self _)
  have hCle : s₂.heap.objs.size ≤ H2.objs.size := by rw [hC]; exact Nat.le_succ _
  have below : ∀ b, b < s₂.heap.objs.size → b ≠ H2.objs.size ∧ b ≠ s₂.heap.objs.size := fun b hb => ⟨by rw [hC]; exact Nat.ne_of_lt (Nat.lt_succ_of_lt hb), Nat.ne_of_lt hb⟩
  have old : ∀ b o, s₂.heap.get? b = some o → h₁.get? b = some o := fun b o e => hsb₁.extBut b o (below b (Heap.lt_size e)).1 (Heap.get?_push_of_some _ (hH2 ▸ Heap.get?_push_of_some _ e))
  have hacc : h₁.get? s₂.heap.objs.size = some { cls := .type "list", data := .seq ([] : List Value).toArray } := hsb₁.extBut _ _ hDC (Heap.get?_push_of_some _ (hH2 ▸ Heap.get?_push_size _ rfl))
  have nD : H1 s₂.heap.objs.size = none := I.hok.fresh (Nat.le_refl _)
  obtain ⟨W, ⟨m0, w0⟩, hW⟩ := hB s₂.heap.objs.size nD
  -- the block's context and its first state
  let X' : Cx := compCx X scope (x :: frees.map (·.1)) H2.objs.size fp s₂ H1
  have inC : ∀ y c, (closOf X.env.cells scope.names []).lookup y = some c → X.env.cells.lookup y = some c := fun y c h => closOf_in scope.names [] O.cl (fun y c h => by cases h) h
  have fpl : ∀ b ∈ fp, b < s₂.heap.objs.size := fun b hb => by
    obtain ⟨o, e, _⟩ := T.obj _ _ st b hb
    exact Heap.lt_size e
  have ok' : X'.Ok := by
    refine ⟨I.ok.mod, O.kind, I.ok.glob, I.ok.blt, hCle, fun y z c h1 h2 => I.ok.inj y z c (inC y c h1) (inC z c h2), fun y hy => ?_, fun y c h _ => (by cases h), I.ok.hd, I.ok.frames, .inl rfl, fun b hb => ?_, I.bs, Nat.le_trans I.ok.bsz I.sz, fun b o e hb => ?_, fun b hb z => ?_, I.stack, I.stkFree⟩
    · exact Option.isSome_iff_exists.mp (closOf_has scope.names [] (.inr (relabel_free O.cell hy)))
    · exact ⟨(below b (fpl b hb)).1, fun y c h => (hf b hb).2.2.2.2.1 y c (inC y c h)⟩
    · rcases (hf b hb).2.2.2.1 with z | z
      · exact I.ok.noex b o e z
      · exact absurd (Nat.lt_of_lt_of_le (Nat.lt_of_lt_of_le (Heap.lt_size e) I.ok.bsz) z) (Nat.lt_irrefl _)
    · exact (List.mem_cons.mp (I.stkSub b z)).elim (hf b hb).2.1 (hf b hb).2.2.1
  have hok1 : HOk X.prog X.w (upd H1 s₂.heap.objs.size (.lst [])) h₁ := I.hok.laid old (Nat.le_refl _) ⟨Nat.zero_le _, [], 0, .nil, hacc⟩
  have I0 : ∀ tk, Inv X' [] (inSt frees σ none) (upd H1 s₂.heap.objs.size (.lst [])) { s₂ with heap := h₁, toks := tk } := fun tk => by
    refine ⟨ok', rfl, I.bare, Un.laid old (Nat.le_refl _) nD, ⟨_, hns₁, fun i y v h1 h2 h3 => ?_⟩, fun y c h => ?_, ?_, fun y c h => ?_, fun p hp => absurd (show p ∈ ([] : List (Addr × Obj)) from hp) (by simp), hok1, ?_⟩
    · cases i with
      | zero =>
        have h2' : (none : Option V) = some v := Option.some.inj h2
        cases h2'
      | succ j =>
        have h1' : (frees.map (·.1))[j]? = some y := h1
        have h2' : (frees.map fun p => (σ[p.2]?).join)[j]? = some (some v) := h2
        rw [List.getElem?_map] at h1' h2'
        cases e : frees[j]? with
        | none => rw [e] at h1'; cases h1'
        | some p =>
          rw [e] at h1' h2'
          have e1 : p.1 = y := Option.some.inj h1'
          have e2 : (σ[p.2]?).join = some v := Option.some.inj h2'
          obtain ⟨g1, g2, g3, g4⟩ := O.fr.at p (List.mem_of_getElem? e)
          have e3 : σ[p.2]? = some (some v) := by
            cases q : σ[p.2]? with
            | none => rw [q] at e2; cases e2
            | some o => rw [q] at e2; exact congrArg some e2
          obtain ⟨m, hn, hl⟩ := I.loc
          obtain ⟨u, r, l⟩ := hl p.2 p.1 v g1 e3 (.inr (.inl g2))
          refine ⟨u, r, ?_⟩
          rcases l with ⟨k, _⟩ | ⟨_, c, hc1, hc2⟩
          · rw [g2] at k; cases k
          · obtain ⟨c2, hc3⟩ := Option.isSome_iff_exists.mp (closOf_has (cells := X.env.cells) scope.names [] (.inr g4))
            have hc4 := inC _ _ hc3
            rw [hc1] at hc4
            cases hc4
            rw [← e1]
            refine .inr ⟨.inl g3, c, hc3, ?_⟩
            obtain ⟨o, ho, hd⟩ := hc2
            exact ⟨o, old c o ho, hd⟩
    · obtain ⟨v, o, ho, hd⟩ := I.cell y c (inC y c h)
      exact ⟨v, o, old c o ho, hd⟩
    · show upd H1 s₂.heap.objs.size (.lst []) H2.objs.size = none
      rw [upd_ne (Ne.symm hDC)]
      exact I.hok.fresh hCle
    · obtain ⟨v, o, ho, hd⟩ := I.cell y c (inC y c h)
      rw [upd_ne (below c (Heap.lt_size ho)).2]
      exact I.freeC y c (inC y c h)
    · show (inSt frees σ none).length = (x :: frees.map (·.1)).length
      simp [inSt]
  have stat : ∀ {H' : Hp}, (∀ b ∈ fp, H' b = none) → ∀ b ∈ fp, FpOk X' [] H' b := fun hn b hb =>
    ⟨hn b hb, (below b (fpl b hb)).1, fun z => (List.mem_cons.mp (I.stkSub b z)).elim (hf b hb).2.1 (hf b hb).2.2.1, .inl hb, fun y c h => (hf b hb).2.2.2.2.1 y c (inC y c h), fun p hp => absurd (show p ∈ ([] : List (Addr × Obj)) from hp) (by simp)⟩
  have hst₁ : tn 0 h₁ := T.keep _ _ _ st fun b _ o e => old b o e
  have fr0 : ∀ b ∈ fp, (upd H1 s₂.heap.objs.size (.lst [])) b = none := fun b hb => by
    rw [upd_ne (below b (fpl b hb)).2]
    exact (hf b hb).1
  have loop : ∀ tk, codeAny (model X.prog X.w) X.A (.compLoop (.ListComp elt [⟨.Name x px, iter, ifs, 0⟩] scope pos) 0 (.ref it) (.ref s₂.heap.objs.size) X'.env) (RR (.ref s₂.heap.objs.size) H2.objs.size) { s₂ with heap := h₁, toks := tk } := fun tk => by
    refine comp_loop (fun n s' => ∃ i ys o H', Inv X' [] (inSt frees σ o) H' s' ∧ tn i s'.heap ∧ (∀ b ∈ fp, H' b = none) ∧ W i n ys H') ?_ m0 ⟨0, [], none, _, I0 tk, hst₁, fr0, w0⟩
    rintro n s3 ⟨i, ys, o3, H3, I3, st3, fr3, w3⟩
    obtain ⟨hD3, alt⟩ := hW i n ys H3 w3
    rcases alt with ⟨stop, q⟩ | ⟨go, hlt, step⟩
    · refine thn (T.done X' rfl rfl rfl O.calm i [] s3 _ H3 _ I3 (stat fr3) st3 stop) fun r s4 ⟨hr, I4⟩ => ?_
      subst hr
      have J4 : Inv X pins σ H3 s4 := I.call' (ch := fp) I4.os I4.base I4.hok I4.bare fun b hb => ⟨(hf b hb).2.2.2.1, (hf b hb).2.1, (hf b hb).2.2.2.2.1, (hf b hb).2.2.2.2.2⟩
      obtain ⟨m4, hn4, _⟩ := I4.loc
      exact hRR _ _ H3 s4 J4 ⟨m4, hn4⟩ (I.fpOk hCle I4.free) q
    · refine thn (T.item X' rfl rfl rfl O.calm i [] s3 _ H3 _ I3 (stat fr3) st3 go) fun r s4 ⟨u, hr, h4⟩ => ?_
      subst hr
      refine thn h4 fun _ s5 ⟨v, H5, I5, r5, y5, st5, fr5⟩ => ?_
      have I5' := I5.pinned (stat fr5) (T.obj _ _ st5)
      have tail : ∀ {σ7 : St} {H7 : Hp} {s7 : Shared}, Inv X' ([] ++ pinsAt fp s5.heap) σ7 H7 s7 → Inv X' [] σ7 H7 s7 ∧ tn (i + 1) s7.heap ∧ ∀ b ∈ fp, H7 b = none := fun {σ7 H7 s7} I7 => by
        refine ⟨I7.unpinned, T.keep _ _ _ st5 fun b hb o e => (I7.pin (b, o) (List.mem_append_right _ (List.mem_append_right _ (mem_pinsAt hb e)))).1, fun b hb => ?_⟩
        obtain ⟨o, e, d⟩ := T.obj _ _ st5 b hb
        exact (I7.pin (b, o) (List.mem_append_right _ (List.mem_append_right _ (mem_pinsAt hb e)))).2.1
      have hg : PG X' (.Name x px) (gName 0) := pg_name O.nd rfl (Or.inl (lookup_relabel_local O.own)) (.inr (lookup_relabel_local O.own))
      refine thn (hg _ s5 _ H5 v u (fun σ6 H6 => σ6 = inSt frees σ (some v) ∧ H6 = H5) I5' r5 ⟨rfl, rfl⟩) fun _ s6 ⟨σ6, H6, I6, e6, e6'⟩ => ?_
      subst e6 e6'
      refine thn (hc _ _ _ _ _ s6 _ _ _ I6 (step v _ y5)) fun b s7 ⟨H7, I7, q7⟩ => ?_
      cases b with
      | false =>
        obtain ⟨m', hm, w7⟩ := (show ∃ m', m' < n ∧ W (i + 1) m' ys H7 from q7)
        obtain ⟨t1, t2, t3⟩ := tail I7
        exact ⟨m', hm, i + 1, ys, some v, H7, t1, t2, t3, w7⟩
      | true =>
        refine thn (he _ _ _ _ _ s7 _ _ _ I7 q7) fun y s8 ⟨y', H8, I8, r8, hD8, m', hm, w8⟩ => ?_
        refine thn (mt_append (X := X') _ s8 _ H8 (.ref s₂.heap.objs.size) [y'] _ [y] (fun _ H9 => H9 = upd H8 s₂.heap.objs.size (.lst (ys ++ [y']))) I8 rfl (.cons r8 .nil) ⟨_, _, _, rfl, rfl, hD8, hlt, rfl⟩) fun _ s9 ⟨_, H9, I9, _, e9⟩ => ?_
        subst e9
        obtain ⟨t1, t2, t3⟩ := tail I9
        exact ⟨m', hm, i + 1, ys ++ [y'], some v, _, t1, t2, t3, w8⟩
  exact codeAny_compStart_list (loop _) (T.self _ 0 _ _ _ hst₁ (loop _))
/-- [elt for x in iter if ..] -/
def tComp (frees : List (Str × Nat)) (tc : TT) (te : TE) (wi : TI) : TE := fun σ H Q => wi σ H fun J H1 => CompB J tc te (inSt frees σ) H1 Q
theorem pe_comp {wi : TI} (O : CompOk X scope x frees) (hxe : X.xe = fun _ _ => False) (hi : PI X (.Name x px) iter wi)
    (hc : ∀ C ex s₂ H₂, PIfs (compCx X scope (x :: frees.map (·.1)) C ex s₂ H₂) ifs tc) (he : ∀ C ex s₂ H₂, PE (compCx X scope (x :: frees.map (·.1)) C ex s₂ H₂) elt te)
    (hs : ∀ x, foldedSetIterable iter X.env x = pure x := by intro _; rfl) : PE X (.ListComp elt [⟨.Name x px, iter, ifs, 0⟩] scope pos) (tComp frees tc te wi) := by
  intro pins s σ H Q I h
  rw [eval_ListComp]
  refine wpAny_comprehension_free (use := none) rfl hs (closureFor_of O.cl) O.kind O.names (thn (hi pins s σ H _ I h) fun xv s₁ h₁ => thn h₁ fun itv s₂ h₂ => ?_)
  obtain ⟨it, fp, tn, J, H2, e, I2, T, st2, f2, hB⟩ := h₂
  subst e
  refine comp_core (RR := fun acc C => compPost (model X.prog X.w) X.A X.xe none (EP X pins σ Q) acc C) O hc he I2 T st2 f2 hB ?_
  intro D C H' s' I' hn hC q
  obtain ⟨m, hn⟩ := hn
  refine ⟨m, hn, fun h' hs' => ?_⟩
  exact ⟨.ref D, H', I'.turned (t' := s'.toks) (fun b o hb e => hs'.extBut b o hb e) hC.1 hC.2.1 hC.2.2.2.1 hC.2.2.2.2.1 hC.2.2.2.2.2, rfl, q⟩
/-- y = [elt for x in iter if ..], y a local of the def -/
theorem ps_comp {wi : TI} {i : Nat} {y : Str} {py spos : Pos} (O : CompOk X scope x frees) (hN : X.N.Nodup) (hiy : X.N[i]? = some y) (hy : X.env.kindOf y = some .local) (hsw : swapsWith (.ListComp elt [⟨.Name x px, iter, ifs, 0⟩] scope pos) (some (.Name y py)) spos.line X.env = pure true)
    (hi : PI X (.Name x px) iter wi) (hc : ∀ C ex s₂ H₂, PIfs (compCx X scope (x :: frees.map (·.1)) C ex s₂ H₂) ifs tc) (he : ∀ C ex s₂ H₂, PE (compCx X scope (x :: frees.map (·.1)) C ex s₂ H₂) elt te)
    (hs : ∀ x, foldedSetIterable iter X.env x = pure x := by intro _; rfl) : PS X (.Assign [.Name y py] (.ListComp elt [⟨.Name x px, iter, ifs, 0⟩] scope pos) spos) (tAsg (tComp frees tc te wi) (gName i)) := by
  intro pins s σ H D I h
  rw [exec_Assign_Name_used _ _ _ _ hsw]
  refine wpAny_bind (wpAny_standAt (wpAny_bind ?_))
  show wpAny _ X.A (do let _ ← comprehension (.ListComp elt [⟨.Name x px, iter, ifs, 0⟩] scope pos) scope X.env _ (newList []) false (eval iter X.env) (some (assign (.Name y py) X.env))) _ _ s
  refine wpAny_bind (wpAny_mono (wpAny_comprehension_free (use := some (assign (.Name y py) X.env)) (Q := fun _ s' => SP X pins D .next s') rfl hs (closureFor_of O.cl) O.kind O.names
    (thn (hi pins s σ H _ I h) fun xv s₁ h₁ => thn h₁ fun itv s₂ h₂ => ?_)) (fun _ s' hq => wpAny_pure (wpAny_pure hq)) fun _ _ e => e)
  obtain ⟨it, fp, tn, J, H2, e, I2, T, st2, f2, hB⟩ := h₂
  subst e
  refine comp_core (RR := fun acc C => compPost (model X.prog X.w) X.A X.xe (some (assign (.Name y py) X.env)) (fun _ s' => SP X pins D .next s') acc C) O hc he I2 T st2 f2 hB ?_
  intro A C H' s' I' hn hC q
  obtain ⟨m, hn⟩ := hn
  obtain ⟨oC, es, ep, hoC, hdC, hr⟩ := id hn
  have I'' : Inv X (pins ++ [(C, oC)]) σ H' s' := I'.pins_of fun p hp => (List.mem_append.mp hp).elim (fun z => I'.pin p (List.mem_append_right _ z)) fun z => by
    rw [List.mem_singleton.mp z]
    exact ⟨hoC, hC.1, hC.2.1, hC.2.2.1, fun v e => by rw [hdC] at e; cases e⟩
  show wpAny _ X.A (assign (.Name y py) X.env (.ref A)) _ _ _
  refine wpAny_assign_Name (store_ok I'' hN hiy (.inl hy) (v := .ref A) rfl (fun s3 I3 => ?_) (.inr hy))
  have hC3 := (I3.pin (C, oC) (List.mem_append_right _ (List.mem_append_right _ (List.mem_singleton.mpr rfl)))).1
  have J3 : Inv X pins (σ.set i (some (.ref A))) H' s3 := I3.unpinned
  refine ⟨m, ⟨oC, es, ep, hC3, hdC, hr⟩, fun h' hs' => ?_⟩
  exact ⟨_, H', J3.turned (t' := s3.toks) (fun b o hb e => hs'.extBut b o hb e) hC.1 hC.2.1 hC.2.2.2.1 hC.2.2.2.2.1 hC.2.2.2.2.2, q⟩
end
end L2

namespace L2
open PySem PySem.Spec PyProof.Rows
section
variable {X : Cx}
/-! ### all(..) of a list of truths -/
theorem all_at (bs : List Bool) : ((List.range bs.length).all fun i => (bs[i]?).getD true) = bs.all id := by
  rw [Bool.eq_iff_iff, List.all_eq_true, List.all_eq_true]
  constructor
  · intro h b hb
    obtain ⟨i, hi, e⟩ := List.getElem_of_mem hb
    have q := h i (List.mem_range.mpr hi)
    rw [List.getElem?_eq_getElem hi, e] at q
    exact q
  · intro h i hi
    have hi' := List.mem_range.mp hi
    rw [List.getElem?_eq_getElem hi']
    exact h _ (List.getElem_mem hi')
theorem call_all (hc : X.calm = true) : CallR X (.builtin "all") (fun xs H Q => ∃ (p : Addr) (bs : List Bool), xs = [.ref p] ∧ SqL X.K H p (bs.map V.bl) ∧ Q (.bl (bs.all id)) H) := by
  intro pins s σ H xs us Q I r h
  obtain ⟨p, bs, rfl, hq, q⟩ := h
  obtain ⟨u, rfl, rx⟩ := vals1 r
  cases rx
  obtain ⟨its, rv, pl, hz⟩ := I.list hq
  have hl := pl.isList
  have hlen := rv.length
  have hlt : p < s.heap.objs.size := by obtain ⟨_, e, _⟩ := hl; exact Heap.lt_size e
  refine call_all_walk (wpAny_pyIter_list hl ?_)
  refine ⟨s.heap.objs.size, [s.heap.objs.size, p], [s.heap.objs.size], its.toArray.size, _, _, fun i => (bs[i]?).getD true, rfl, Walks.list (A := X.A.in1) (I.ok.hd hc) _ p (Nat.ne_of_lt hlt) its.toArray,
    ⟨⟨_, Heap.get?_push_size _ rfl, rfl, rfl⟩, hl.push _⟩, fun i v s' Q' E' hP hQ => ?_, fun h' tk hk => ?_⟩
  · have hv : its[i]? = some v := by simpa using hP
    have hi : i < its.length := (List.getElem?_eq_some_iff.mp hv).1
    have hb : i < bs.length := by rw [List.length_map] at hlen; omega
    obtain ⟨u2, e1, e2⟩ := rv.get (i := i) (x := V.bl bs[i]) (by rw [List.getElem?_map, List.getElem?_eq_getElem hb]; rfl)
    rw [hv] at e1
    cases e1
    cases (show v = Value.bool bs[i] from e2)
    dsimp only at hQ
    rw [List.getElem?_eq_getElem hb] at hQ
    exact wpAny_truthy_bool hQ
  · have e : ((List.range its.toArray.size).all fun i => (bs[i]?).getD true) = bs.all id := by
      rw [List.size_toArray, ← hlen, List.length_map]
      exact all_at bs
    rw [e]
    refine ⟨.bl _, H, I.kept (t' := tk) (fun b x e => ?_), rfl, q⟩
    exact hk b x (fun hm => by rw [List.mem_singleton.mp hm] at e; exact Nat.lt_irrefl _ (Heap.lt_size e)) (Heap.get?_push_of_some _ e)
/-! ### methods of texts -/
theorem mt_find : MtR X "str.find" (fun x vs H Q => ∃ z y, x = .str z ∧ vs = [.str y] ∧ Q (.int (Txt.find z y)) H) := by
  intro pins s σ H x vs v us Q I rx rv h
  obtain ⟨z, y, rfl, rfl, q⟩ := h
  obtain ⟨t, rfl⟩ := rx
  obtain ⟨u', rfl, u, rfl⟩ := rv.one
  exact SC.find ⟨.int _, H, I.tok _, ⟨_, rfl⟩, q⟩
theorem mt_startswith : MtR X "str.startswith" (fun x vs H Q => ∃ z y, x = .str z ∧ vs = [.str y] ∧ Q (.bl (Txt.startswith z y)) H) := by
  intro pins s σ H x vs v us Q I rx rv h
  obtain ⟨z, y, rfl, rfl, q⟩ := h
  obtain ⟨t, rfl⟩ := rx
  obtain ⟨u', rfl, u, rfl⟩ := rv.one
  exact SC.startswith ⟨.bl _, H, I, rfl, q⟩
theorem strs_of : ∀ {ws : List Str} {us : List Value}, Vals (ws.map V.str) us → ∃ l : List (Str × Tok), us = strValues l ∧ l.map (·.1) = ws
  | [], us, r => by
    cases r
    exact ⟨[], rfl, rfl⟩
  | w :: ws, us, r => by
    cases r with
    | cons r1 r2 =>
      obtain ⟨t, rfl⟩ := r1
      obtain ⟨l, rfl, e⟩ := strs_of r2
      exact ⟨(w, t) :: l, rfl, by rw [← e]; rfl⟩
theorem mt_join : MtR X "str.join" (fun x vs H Q => ∃ (z : Str) (p : Addr) (ws : List Str), x = .str z ∧ vs = [.ref p] ∧ SqL X.K H p (ws.map V.str) ∧ JoinOk z ws = true ∧ Q (.str (Txt.join z ws)) H) := by
  intro pins s σ H x vs v us Q I rx rv h
  obtain ⟨z, p, ws, rfl, rfl, hq, hj, q⟩ := h
  obtain ⟨t, rfl⟩ := rx
  obtain ⟨u', rfl, ru⟩ := rv.one
  cases ru
  obtain ⟨its, r, pl, hz⟩ := I.list hq
  obtain ⟨l, rfl, e⟩ := strs_of r
  exact SC.join pl.isList e hj fun t' k => ⟨.str _, H, I.tok _, ⟨t', rfl⟩, q⟩
/-- x[lo:hi] of a text -/
def rSlS : V → Option Int → Option Int → Hp → VK → Prop := fun x lo hi H Q => ∃ z, x = .str z ∧ z.length ≤ sizeLine ∧ Q (.str (Txt.slice z lo hi)) H
theorem part_of {v : Value} {o : Option Int} (p : IsPart v o) : ∃ l : Option (Int × Tok), v = partValue l ∧ l.map (·.1) = o := by
  cases p with
  | none => exact ⟨none, rfl, rfl⟩
  | int i t => exact ⟨some (i, t), rfl, rfl⟩
theorem sl_str : SlR X rSlS := by
  intro pins s σ H x v vl vu lo hi sl Q I rx hs pl pu h
  obtain ⟨z, rfl, hz, q⟩ := h
  obtain ⟨t, rfl⟩ := rx
  obtain ⟨l, rfl, rfl⟩ := part_of pl
  obtain ⟨u, rfl, rfl⟩ := part_of pu
  exact ⟨"str", _, F.slot_str_getitem.lookup, typeIs_str _ _ _, wpAny_getItem_str_slice (l := l) (u := u) (st := none) hs rfl
    (post_val_or_str ⟨Nat.le_trans (Txt.slice_le z _ _) hz, fun t' k => ⟨.str _, H, I.tok _, ⟨t', rfl⟩, q⟩⟩)⟩
/-! ### signs in texts -/
theorem find_neg {x : Str} {l : List Nat} (c : Nat) (h : x.cps.toList = l) : decide (Txt.find x ⟨#[c]⟩ < 0) = !decide (c ∈ l) := by
  have f := StrLaws.found_one x c
  rw [h] at f
  rw [← f]
  unfold Txt.find
  cases Builtin.Str.occurrences x ⟨#[c]⟩ 0 x.length 1 with
  | nil => rfl
  | cons i r =>
    show decide (((i : Nat) : Int) < 0) = false
    exact decide_eq_false (by omega)
theorem in_sign {x : Str} {l : List Nat} (c : Nat) (h : x.cps.toList = l) : (!(Builtin.Str.occurrences x ⟨#[c]⟩ 0 x.length 1).isEmpty) = decide (c ∈ l) := by
  rw [StrLaws.found_one x c, h]
/-! ### o.m(..) where the fragment is named (within a comprehension) -/
theorem pe_bmK {K : PySem.W.Frag} {o e : Expr} {es : List Expr} {to : TE} {t : TA} {name : Str} {apos cpos : Pos} {T id : String} {r : V → List V → Hp → VK → Prop} (hK : X.K = K) (pa : PlainAttrs T) (slot : Slot T name id) (hty : typeOf (.builtin id) = pure (.type "method_descriptor")) (hm : MtR X id r) (ho : PE X o to) (ha : PA X (e :: es) t)
    (hbase : attributeBase o name X.env (eval o X.env) = eval o X.env := by rfl)
    (hfew : ((backTo cpos (starEach (e :: es) X.env)).all (fun x => !x.1) && (backToKw cpos (keywordEach [] X.env)).all (fun x => x.1.isSome)
      && decide ((e :: es).length + ([] : List Keyword).length + (if ([] : List Keyword).isEmpty then 0 else 1) < 30)) = true := by rfl)
    (hline : (apos.endLine == cpos.line) = true := by rfl) (hs : starEach (e :: es) X.env = (false, eval e X.env) :: starEach es X.env := by rfl) (hplain : (backTo cpos (starEach es X.env)).any (·.1) = false := by rfl) :
    PE X (.Call (.Attribute o name apos) (e :: es) [] cpos) (tBM K T r to t) := by
  subst hK
  exact pe_bm pa slot hty hm ho ha hbase hfew hline hs hplain
/-! ### weaker readings: a statement's (or a block's) reading by one of your own -/
theorem PS.weak {st : Stmt} {t t' : TS} (h : PS X st t) (k : ∀ D σ H, t' D σ H → t D σ H) : PS X st t' := fun pins s σ H D I hw => h pins s σ H D I (k D σ H hw)
theorem PSs.weak {st : List Stmt} {t t' : TS} (h : PSs X st t) (k : ∀ D σ H, t' D σ H → t D σ H) : PSs X st t' := fun pins s σ H D I hw => h pins s σ H D I (k D σ H hw)
end
/-! ### comprehensions whose items are reckoned without a change of the heap -/
structure Seq (J : It) (H1 : Hp) (xs : List V) : Prop where
  go : ∀ i H, Same H1 H → i < xs.length → J.go i H
  yld : ∀ i H x H', Same H1 H → i < xs.length → J.yld i H x H' → H' = H ∧ xs[i]? = some x
  stop : ∀ H, Same H1 H → J.stop xs.length H
theorem seq_str (z : Str) (H1 : Hp) : Seq (Itx z) H1 (z.cps.toList.map fun c => V.str ⟨#[c]⟩) where
  go := fun i H _ h => by
    rw [List.length_map, Array.length_toList] at h
    exact h
  yld := fun i H x H' _ _ h => by
    obtain ⟨e, c, hc, hx⟩ := h
    refine ⟨e, ?_⟩
    have hc' : z.cps.toList[i]? = some c := by simpa using hc
    rw [List.getElem?_map, hc', hx]
    rfl
  stop := fun H _ => by
    show _ = z.cps.size
    rw [List.length_map, Array.length_toList]
theorem seq_range (lo : Int) (n : Nat) (H1 : Hp) : Seq (Itr lo n) H1 ((List.range n).map fun i => V.int (lo + (i : Nat))) where
  go := fun i H _ h => by
    rw [List.length_map, List.length_range] at h
    exact h
  yld := fun i H x H' _ hi h => by
    obtain ⟨e, hx⟩ := h
    refine ⟨e, ?_⟩
    rw [List.length_map, List.length_range] at hi
    rw [List.getElem?_map, List.getElem?_range hi, hx]
    rfl
  stop := fun H _ => by
    show n ≤ _
    rw [List.length_map, List.length_range]
    exact Nat.le_refl _
theorem seq_list {K : PySem.W.Frag} {a : Addr} {xs : List V} {H1 : Hp} (h : SqL K H1 a xs) : Seq (Itl K a) H1 xs where
  go := fun i H e hi => ⟨xs, xs[i], e.seq h, List.getElem?_eq_getElem hi⟩
  yld := fun i H x H' e _ y => ⟨y.1, y.2 xs (e.seq h)⟩
  stop := fun H e => ⟨xs, e.seq h, Nat.le_refl _⟩
theorem take_more {α : Type} {xs : List α} {i : Nat} {x : α} (h : xs[i]? = some x) : xs.take (i + 1) = xs.take i ++ [x] := by
  rw [List.take_succ, h]
  rfl
theorem compB_seq {J : It} {tc : TT} {te : TE} {σf : Option V → St} {H1 : Hp} {Q : VK} {xs : List V} (S : Seq J H1 xs) (p : V → Bool) (g : V → V) (hz : xs.length < sizeLine)
    (hc : ∀ x ∈ xs, ∀ (H' : Hp) (R : Bool → Hp → Prop), Same H1 H' → R (p x) H' → tc (σf (some x)) H' R)
    (he : ∀ x ∈ xs, ∀ (H' : Hp) (R : VK), Same H1 H' → p x = true → R (g x) H' → te (σf (some x)) H' R)
    (q : ∀ D H', Same H1 H' → H1 D = none → H' D = some (.lst ((xs.filter p).map g)) → Q (.ref D) H') : CompB J tc te σf H1 Q := by
  intro D hD
  refine ⟨fun i m ys H2 => m = xs.length - i ∧ i ≤ xs.length ∧ Same H1 H2 ∧ H2 D = some (.lst ys) ∧ ys = ((xs.take i).filter p).map g, ⟨xs.length, rfl, Nat.zero_le _, same_new hD _, upd_same, rfl⟩, ?_⟩
  rintro i m ys H2 ⟨rfl, hi, sm, hD2, rfl⟩
  refine ⟨hD2, ?_⟩
  by_cases hlt : i < xs.length
  · refine .inr ⟨S.go i H2 sm hlt, ?_, fun x H3 y => ?_⟩
    · rw [List.length_map]
      refine Nat.lt_of_le_of_lt (List.length_filter_le _ _) ?_
      rw [List.length_take]
      omega
    · obtain ⟨e, hx⟩ := S.yld i H2 x H3 sm hlt y
      subst e
      have mem : x ∈ xs := List.mem_of_getElem? hx
      refine hc x mem _ _ sm ?_
      cases hp : p x with
      | false =>
        refine iteF ⟨xs.length - (i + 1), by omega, rfl, hlt, sm, hD2, ?_⟩
        rw [take_more hx, List.filter_append, List.filter_cons_of_neg (by rw [hp]; decide), List.filter_nil, List.append_nil]
      | true =>
        refine iteT (he x mem _ _ sm hp ⟨hD2, xs.length - (i + 1), by omega, rfl, hlt, same_on hD sm _, upd_same, ?_⟩)
        rw [take_more hx, List.filter_append, List.filter_cons_of_pos hp, List.filter_nil, List.map_append]
        rfl
  · have e : i = xs.length := by omega
    subst e
    refine .inl ⟨S.stop H2 sm, q D H2 sm hD ?_⟩
    rw [hD2, List.take_of_length_le (Nat.le_refl _)]
/-- what is asked of a comprehension's text, in short -/
def cellsFor (cells : List (Str × Addr)) (names : List (Str × NameKind)) : Bool := names.all fun p => if (p.2 == NameKind.free) = true then (cells.lookup p.1).isSome else true
theorem cellsFor_at {cells : List (Str × Addr)} {names : List (Str × NameKind)} (h : cellsFor cells names = true) : ∀ p ∈ names, p.2 = .free → (cells.lookup p.1).isSome = true := fun p hp hk => by
  have q := (List.all_eq_true.mp h) p hp
  rw [hk, show (NameKind.free == NameKind.free) = true from rfl, if_pos rfl] at q
  exact q
end L2

namespace L2
open PySem PySem.Spec PyProof.Rows
section
variable {X : Cx}
/-! ### text * number, int(text) -/
theorem mul_len (z : Str) (n : Int) : (Txt.mul z n).length ≤ z.length * n.toNat := by
  unfold Txt.mul
  split
  · exact Nat.zero_le _
  · rename_i h1
    split
    · rename_i h2
      rw [Bool.or_eq_true, beq_iff_eq, beq_iff_eq] at h2
      rcases h2 with h2 | h2
      · rw [h2]
        exact Nat.le_of_eq (Nat.mul_one _).symm
      · rw [h2]
        exact Nat.zero_le _
    · have go : ∀ (k : Nat) (acc : Array Nat), ((List.replicate k z.cps).foldl (· ++ ·) acc).size = acc.size + z.length * k := fun k => by
        induction k with
        | zero => intro acc; simp
        | succ k ih =>
          intro acc
          rw [List.replicate_succ, List.foldl_cons, ih, Array.size_append, Nat.mul_succ]
          show acc.size + z.length + z.length * k = _
          omega
      show ((List.replicate n.toNat z.cps).foldl (· ++ ·) #[]).size ≤ _
      rw [go]
      simp
theorem op_mul_str : OpR X (binaryOp .Mult) (fun x y H Q => ∃ z n, x = .str z ∧ y = .int n ∧ z.length ≤ 1000 ∧ 0 ≤ n ∧ n ≤ 1000 ∧ ∀ u : Str, u.length ≤ z.length * n.toNat → Q (.str u) H) := by
  intro pins s σ H x y v u Q I rx ry h
  obtain ⟨z, n, rfl, rfl, hz, h0, h1, q⟩ := h
  obtain ⟨t, rfl⟩ := rx
  obtain ⟨t', rfl⟩ := ry
  exact SB.mul (mulOk_of 1000 1000 hz (by omega) (by omega) (by decide) (by decide)) fun t2 k => ⟨.str _, H, I.tok _, ⟨t2, rfl⟩, q _ (mul_len z n)⟩
theorem call_int_text : CallR X (.type "int") (fun xs H Q => ∃ z n, xs = [.str z] ∧ PySem.intText? z = some n ∧ z.length ≤ 640 ∧ Q (.int n) H) := by
  intro pins s σ H xs us Q I r h
  obtain ⟨z, n, rfl, hn, hl, q⟩ := h
  obtain ⟨u, rfl, t, rfl⟩ := vals1 r
  exact PySem.W.KIN.call_text hn hl ⟨.int n, H, I.tok _, ⟨_, rfl⟩, q⟩
theorem kit_int_bool (K : PySem.W.Frag) : PySem.W.kitOne K (.type "int") (.type "bool") = some false := by
  have e1 : PySem.W.kitMeta "bool" = true := by decide +kernel
  have e2 : PySem.W.subIn K (.type "int") (.type "bool") = some false := by
    show (fastBuiltinMro "int").map (·.contains (Value.type "bool")) = some false
    decide +kernel
  show (if (Value.type "int" == Value.type "bool") = true then some true else (if PySem.W.kitMeta "bool" = true then PySem.W.subIn K (.type "int") (.type "bool") else none)) = some false
  rw [if_neg (by decide), if_pos e1]
  exact e2
/-! ### a list's item, at a place that lies in it -/
def rIxLA (K : PySem.W.Frag) : R2 := fun x y H Q => ∃ p xs i, x = .ref p ∧ y = .int i ∧ SqL K H p xs ∧ 0 ≤ i ∧ i < ((xs.length : Nat) : Int) ∧ ∀ v, xs[i.toNat]? = some v → Q v H
theorem ix_listA : IxR X (rIxLA X.K) := by
  intro value slice pins s σ H x y v u Q I rx ry h hs
  obtain ⟨p, xs, i, rfl, rfl, hq, h0, h1, q⟩ := h
  obtain ⟨c, e1, e2⟩ := at_in (xs := xs) h0 h1
  exact ix_list value slice pins s σ H _ _ v u Q I rx ry ⟨p, xs, i, c, rfl, rfl, hq, e2, q c e1⟩ hs
def intV : V → Bool
  | .int _ => true
  | _ => false
theorem int_at {xs : List V} (h : xs.all intV = true) {j : Nat} {v : V} (e : xs[j]? = some v) : ∃ z, v = V.int z := by
  have q := (List.all_eq_true.mp h) v (List.mem_of_getElem? e)
  cases v with
  | int z => exact ⟨z, rfl⟩
  | _ => exact absurd (show false = true from q) Bool.false_ne_true
end
end L2

namespace L2
open PySem PySem.Spec PyProof.Rows
section
variable {X : Cx}
/-! ### readings that lean on a token's being made already (x.replace(y, z) asks whether y and z are one object) -/
def PSk (X : Cx) (st : Stmt) (t : TS) : Prop :=
  ∀ (pins : List (Addr × Obj)) (s : Shared) (σ : St) (H : Hp) (D : Ends), Inv X pins σ H s → 1 ≤ s.toks → t D σ H → wpAny (model X.prog X.w) X.A (exec st X.env) (SP X pins D) X.xe s
def PSsK (X : Cx) (st : List Stmt) (t : TS) : Prop :=
  ∀ (pins : List (Addr × Obj)) (s : Shared) (σ : St) (H : Hp) (D : Ends), Inv X pins σ H s → 1 ≤ s.toks → t D σ H → wpAny (model X.prog X.w) X.A (execs st X.env) (SP X pins D) X.xe s
def PEk (X : Cx) (e : Expr) (t : TE) : Prop :=
  ∀ (pins : List (Addr × Obj)) (s : Shared) (σ : St) (H : Hp) (Q : VK), Inv X pins σ H s → 1 ≤ s.toks → t σ H Q → wpAny (model X.prog X.w) X.A (eval e X.env) (EP X pins σ Q) X.xe s
/-- a value behind which a token was made -/
def PE1 (X : Cx) (e : Expr) (t : TE) : Prop :=
  ∀ (pins : List (Addr × Obj)) (s : Shared) (σ : St) (H : Hp) (Q : VK), Inv X pins σ H s → t σ H Q → wpAny (model X.prog X.w) X.A (eval e X.env) (fun u s' => 1 ≤ s'.toks ∧ EP X pins σ Q u s') X.xe s
def PS1 (X : Cx) (st : Stmt) (t : TS) : Prop :=
  ∀ (pins : List (Addr × Obj)) (s : Shared) (σ : St) (H : Hp) (D : Ends), Inv X pins σ H s → t D σ H → wpAny (model X.prog X.w) X.A (exec st X.env) (fun f s' => 1 ≤ s'.toks ∧ SP X pins D f s') X.xe s
theorem tokd {α : Type} {M : Model} {A : Around} {t : Sem α} {Q : α → Shared → Prop} {E : Value → Shared → Prop} {s : Shared} (hn : 1 ≤ s.toks) (h : wpAny M A t Q E s) : wpAny M A t (fun a s' => 1 ≤ s'.toks ∧ Q a s') E s :=
  wpAny_mono (wpAny_toks_of hn h) (fun _ _ q => q) fun _ _ q => q.2
theorem PS.k {st : Stmt} {t : TS} (h : PS X st t) : PSk X st t := fun pins s σ H D I _ hw => h pins s σ H D I hw
theorem PSs.k {st : List Stmt} {t : TS} (h : PSs X st t) : PSsK X st t := fun pins s σ H D I _ hw => h pins s σ H D I hw
theorem pss_consK {st : Stmt} {rest : List Stmt} {t u : TS} (h1 : PSk X st t) (h2 : PSsK X rest u) : PSsK X (st :: rest) (tSeq t u) := by
  intro pins s σ H D I hk h
  refine wpAny_execs_cons (thn (tokd hk (h1 pins s σ H { D with nx := u D } I hk h)) fun f s1 q => ?_)
  obtain ⟨hk1, q⟩ := q
  cases f with
  | next =>
    obtain ⟨σ', H', I', q⟩ := q
    exact h2 pins s1 σ' H' D I' hk1 q
  | ret v => exact q
  | brk => exact q
  | cont => exact q
theorem pss_oneK {st : Stmt} {t : TS} (h1 : PSk X st t) : PSsK X [st] t := by
  intro pins s σ H D I hk h
  refine wpAny_execs_cons (thn (h1 pins s σ H D I hk h) fun f s1 q => ?_)
  cases f with
  | next => exact wpAny_execs_nil q
  | ret v => exact q
  | brk => exact q
  | cont => exact q
theorem pss_cons1 {st : Stmt} {rest : List Stmt} {t u : TS} (h1 : PS1 X st t) (h2 : PSsK X rest u) : PSs X (st :: rest) (tSeq t u) := by
  intro pins s σ H D I h
  refine wpAny_execs_cons (thn (h1 pins s σ H { D with nx := u D } I h) fun f s1 q => ?_)
  obtain ⟨hk1, q⟩ := q
  cases f with
  | next =>
    obtain ⟨σ', H', I', q⟩ := q
    exact h2 pins s1 σ' H' D I' hk1 q
  | ret v => exact q
  | brk => exact q
  | cont => exact q
theorem ps_ifK {c : Expr} {a b : List Stmt} {tc : TT} {t u : TS} {pos : Pos} (hc : PT X c tc) (ha : PSsK X a t) (hb : PSsK X b u) : PSk X (.If c a b pos) (tIfS tc t u) := by
  intro pins s σ H D I hk h
  refine wpAny_If (thn (tokd hk (hc pins s σ H _ I h)) fun d s1 ⟨hk1, H1, I1, q1⟩ => ?_)
  cases d with
  | true => exact ha pins s1 σ H1 D I1 hk1 q1
  | false => exact hb pins s1 σ H1 D I1 hk1 q1
theorem ps_retK {e : Expr} {te : TE} {pos : Pos} (he : PEk X e te) : PSk X (.Return (some e) pos) (tRet te) := by
  intro pins s σ H D I hk h
  exact wpAny_Return_some (thn (he pins s σ H _ I hk h) fun v s1 ⟨x, H1, I1, r1, q1⟩ => ⟨x, σ, H1, I1, r1, q1⟩)
theorem pe1_op {x : Str} {j : Nat} {p pos : Pos} {b : Expr} {tb : TE} {op : Operator} {r : R2} (ho : OpR X (binaryOp op) r) (hb : PE X b tb) : PE1 X (.BinOp (.Constant (.str x) j p) op b pos) (tOp r (tC (.str x)) tb) := by
  intro pins s σ H Q I h
  refine wpAny_BinOp (Calls.Constant_str ?_)
  have I1 : Inv X pins σ H { s with toks := s.toks + 1 } := I.tok _
  refine thn (tokd (show 1 ≤ s.toks + 1 by omega) (hb pins { s with toks := s.toks + 1 } σ H _ I1 h)) fun u s2 ⟨hk, y, H2, I2, r2, q2⟩ => ?_
  exact tokd hk (ho pins s2 σ H2 (.str x) y _ u Q I2 ⟨_, rfl⟩ r2 q2)
theorem ps_set1 {i : Nat} {x : Str} {e : Expr} {te : TE} {pos pos' : Pos} (hN : X.N.Nodup) (hi : X.N[i]? = some x) (hx : Loc X.env.scope x) (he : PE1 X e te) (hs : swapsWith e (some (.Name x pos')) pos.line X.env = pure false := by rfl) (hf : X.fn x = true ∨ X.env.scope.names.lookup x = some .local := by first | exact .inl rfl | exact .inr rfl | assumption) :
    PS1 X (.Assign [.Name x pos'] e pos) (tAsg te (gName i)) := by
  intro pins s σ H D I h
  refine wpAny_Assign_Name (thn (he pins s σ H _ I h) fun v s1 ⟨hk, y, H1, I1, r1, q1⟩ => ?_) hs
  exact tokd hk (store_ok I1 hN hi hx r1 (Q := fun _ s' => SP X pins D .next s') (fun s2 I2 => ⟨_, H1, I2, q1⟩) hf)
theorem replace_len (x y z : Str) : (Txt.replace x y z).length ≤ x.length + (x.length + 1) * z.length := by
  unfold Txt.replace
  split
  · exact Nat.le_add_right _ _
  · have h1 := StrLaws.occ_length_le x y 0 x.length (x.length + 1)
    have hy : (Builtin.Str.glued y (Builtin.Str.partsBetween x (Builtin.Str.occurrences x y 0 x.length (x.length + 1)) y.length)).length = x.length := by rw [StrLaws.glued_between_self]
    rw [size_glued, length_partsBetween, Nat.add_sub_cancel] at hy
    rw [size_glued, length_partsBetween, Nat.add_sub_cancel]
    have h2 : (Builtin.Str.occurrences x y 0 x.length (x.length + 1)).length * z.length ≤ (x.length + 1) * z.length := Nat.mul_le_mul_right _ h1
    omega
/-- o.replace('..', '..'), two unlike texts written there -/
def tRepl (y z : Str) (to : TE) : TE := fun σ H Q => to σ H fun v H1 => ∃ x, v = .str x ∧ x.length + (x.length + 1) * z.length ≤ 16777216 ∧ ∀ u : Str, u.length ≤ x.length + (x.length + 1) * z.length → Q (.str u) H1
theorem pek_replace {o : Expr} {to : TE} {y z : Str} {j1 j2 : Nat} {p1 p2 apos cpos : Pos} (hyz : (y == z) = false) (ho : PE X o to)
    (hbase : attributeBase o "replace" X.env (eval o X.env) = eval o X.env := by rfl)
    (hline : (apos.endLine == cpos.line) = true := by rfl) :
    PEk X (.Call (.Attribute o "replace" apos) [.Constant (.str y) j1 p1, .Constant (.str z) j2 p2] [] cpos) (tRepl y z to) := by
  intro pins s σ H Q I hk h
  refine wpAny_Call_method_late hbase (by rfl) hline rfl (thn (tokd hk (ho pins s σ H _ I h)) fun v s1 ⟨hk1, v', H1, I1, r1, q1⟩ => ?_)
  obtain ⟨x, rfl, hb, q⟩ := q1
  obtain ⟨t, rfl⟩ := r1
  refine ⟨"str", "str.replace", PySem.F.plainAttrs_str, PySem.F.slot_str_replace, PySem.F.type_str_replace, typeIs_str s1 x t, (fun _ e => nomatch e), ?_⟩
  refine Calls.callWith_builtin rfl (Calls.evalArgs_plain ?_)
  show wpAny _ _ (spliced ((false, eval (.Constant (.str y) j1 p1) X.env) :: backTo cpos (starEach [.Constant (.str z) j2 p2] X.env))) _ _ s1
  refine Calls.spliced_cons (Calls.Constant_str ?_)
  show wpAny _ _ (spliced ((false, eval (.Constant (.str z) j2 p2) X.env) :: backTo cpos (starEach [] X.env))) _ _ _
  refine Calls.spliced_cons (Calls.Constant_str ?_)
  refine Calls.spliced_nil ?_
  refine SC.replace (by show s1.toks ≠ 0; omega) (by show s1.toks + 1 ≠ 0; omega) (by show s1.toks ≠ s1.toks + 1; omega) hyz hb fun t' k => ?_
  exact ⟨.str _, H1, I1.tok k, ⟨t', rfl⟩, q _ (replace_len x y z)⟩
theorem mt_upper : MtR X "str.upper" (fun x vs H Q => ∃ z, x = .str z ∧ vs = [] ∧ z.length ≤ 1000 ∧ ∀ u : Str, u.length ≤ 3 * z.length → Q (.str u) H) := by
  intro pins s σ H x vs v us Q I rx rv h
  obtain ⟨z, rfl, rfl, hz, q⟩ := h
  obtain ⟨t, rfl⟩ := rx
  cases rv.zero
  exact SCL.upper (by omega) fun hl => ⟨.str _, H, I.tok _, ⟨_, rfl⟩, q _ hl⟩
end
end L2

namespace L2
open PySem PySem.Spec PyProof.Rows
/-! ### enumerate(xs), enumerate(xs, start=j) over a list -/
section
variable {prog : Program} {w : World} {A : Around} {E : Value → Shared → Prop} {s : Shared}
theorem en_type (a b : Value) : checkTypeCall "enumerate" ⟨[a], [("start", b)]⟩ = pure () := by kernel_rfl
theorem en_new (a b : Value) : checkBuiltinCall "enumerate.__new__" ⟨[.type "enumerate", a], [("start", b)]⟩ = pure () := by kernel_rfl
theorem en_init (o a b : Value) : argsOk "object.__init__" ⟨[o, a], [("start", b)]⟩ := by
  unfold argsOk
  rw [signature?_of (id := "object.__init__") (n := ['_', '_', 't', 'i', 'n', 'i', '_', '_']) (o := ['t', 'c', 'e', 'j', 'b', 'o']) (by kernel_rfl) F.owner_object]
  kernel_rfl
set_option maxHeartbeats 2000000 in
theorem en_made (l : Addr) (items : Array Value) (n : Nat) (dct : Option Addr) (sl : Array (Option Value)) (j : Int) (t : Tok) (hj : Builtin.SmallTypes.fitsIndex j = true) :
    Meets (Builtin.«enumerate.__new__» ⟨[.type "enumerate", .ref l], [("start", .int j t)]⟩) (fun _ R s => s.heap.get? l = some { cls := .type "list", dict := dct, data := .seq items n, slots := sl } ∧
      R (.ok (.ret (.ref (s.heap.push { cls := .type "list_iterator", data := .fields #[.ref l, .int 0 0] }).objs.size)))
        { s with heap := (s.heap.push { cls := .type "list_iterator", data := .fields #[.ref l, .int 0 0] }).push { cls := .type "enumerate", data := .fields #[.none, .bool false, .ref s.heap.objs.size, rawInt j, .none, .none] } }) :=
  .of_wp fun prog w A R s h => by
    obtain ⟨hp, g, d, tk, os⟩ := s
    obtain ⟨hl, h⟩ := h
    have hsub := sub_enumerate
    have hL : Heap.IsList (Shared.heap ⟨hp, g, d, tk, os⟩) l items := ⟨_, hl, rfl, n, rfl⟩
    wp_walk using AutoSeq1.wpAny_loadPart' hl
    refine wpAny_stack_any fun st => wpAny_pure ?_
    split
    · rename_i c _ _ _ _ _
      cases (c == Value.type "enumerate")
      all_goals
        wp_walk using AutoSeq1.wpAny_loadPart' hl, wpAny_pyIter_list hL
        exact ⟨_, rfl, h⟩
    · wp_walk using AutoSeq1.wpAny_loadPart' hl, wpAny_pyIter_list hL
      exact ⟨_, rfl, h⟩
end
end L2

namespace L2
open PySem PySem.Spec PyProof.Rows
section
variable {prog : Program} {w : World} {A : Around} {E : Value → Shared → Prop} {s : Shared}
theorem en_objinit (self a b : Value) : Meets (Builtin.«object.__init__» ⟨[self, a], [("start", b)]⟩) (fun _ R s => s.TypeIs self "enumerate" ∧ R (.ok (.ret .none)) s) := by
  refine Meets.of_wp fun prog w A R s hs => ?_
  obtain ⟨hT, hq⟩ := hs
  have hl := F.called_enumerate.init.lookup
  have hm := F.called_enumerate.made
  have hne : (some "enumerate.__new__" != some "object.__new__") = true := by decide
  repeat (any_goals (first | assumption | wp_step))
  exact ⟨_, rfl, hq⟩
/-- the call, start given by its name -/
theorem en_call {l : Addr} {items : Array Value} {j : Int} {t : Tok} {Q : Value → Shared → Prop} (hj : Builtin.SmallTypes.fitsIndex j = true) (hL : s.heap.IsList l items)
    (h : ∀ h1, IsEnum h1 (s.heap.objs.size + 1) s.heap.objs.size j .none → h1.IsListIter s.heap.objs.size l 0 → (∀ b o, s.heap.get? b = some o → h1.get? b = some o) → Q (.ref (s.heap.objs.size + 1)) { s with heap := h1 }) :
    wpAny (model prog w) A (call (.type "enumerate") [.ref l] [("start", .int j t)]) Q E s := by
  obtain ⟨⟨c, dct, dt, sl⟩, hl, hc, n, hd⟩ := hL
  have hc' : c = .type "list" := hc
  have hd' : dt = .seq items n := hd
  subst hc' hd'
  have ft := F.called_enumerate
  obtain ⟨cc, tl, hmro⟩ := ft.mro
  have hmade := ft.made
  have hsub := ft.sub
  refine wpAny_call (codeAny_of_tree ?_)
  show wpAny _ _ (callAny (.type "enumerate") _) _ _ _
  refine wpAny_pure ⟨Code.quiet_builtin _ (by decide +kernel), codeAny_builtin F.entry_type_call ?_⟩
  rw [Around.under_plain (weight_type_call_type "enumerate" _ _) (units_type_call_type "enumerate" _ _)]
  have n1 := ft.notType
  have n2 := ft.canCreate
  have n3 := en_type (.ref l) (.int j t)
  repeat (any_goals (first | assumption | wp_step))
  have hz : (s.heap.push { cls := .type "list_iterator", data := .fields #[.ref l, .int 0 0] }).objs.size = s.heap.objs.size + 1 := Heap.size_push ..
  let R1 : Result → Shared → Prop := fun r s1 => r = .ok (.ret (.ref (s.heap.objs.size + 1))) ∧ s1 = { s with heap := (s.heap.push { cls := .type "list_iterator", data := .fields #[.ref l, .int 0 0] }).push { cls := .type "enumerate", data := .fields #[.none, .bool false, .ref s.heap.objs.size, rawInt j, .none, .none] } }
  have mk := en_made l items n dct sl j t hj prog w A.in1 R1 s ⟨hl, by rw [hz], rfl⟩
  refine codeAny_mono (R := R1) (codeAny_call_builtin ft.plain F.entry_enumerate_new (wpAny_of_eq (en_new (.ref l) (.int j t)) mk)) fun r s1 hr => ?_
  obtain ⟨rfl, rfl⟩ := hr
  have e1 : IsEnum ((s.heap.push { cls := .type "list_iterator", data := .fields #[.ref l, .int 0 0] }).push { cls := .type "enumerate", data := .fields #[.none, .bool false, .ref s.heap.objs.size, rawInt j, .none, .none] }) (s.heap.objs.size + 1) s.heap.objs.size j .none := by
    have q := Heap.get?_push_size (s.heap.push { cls := .type "list_iterator", data := .fields #[.ref l, .int 0 0] }) (o := { cls := .type "enumerate", data := .fields #[.none, .bool false, .ref s.heap.objs.size, rawInt j, .none, .none] }) rfl
    rw [hz] at q
    exact q
  have hT : Shared.TypeIs { s with heap := (s.heap.push { cls := .type "list_iterator", data := .fields #[.ref l, .int 0 0] }).push { cls := .type "enumerate", data := .fields #[.none, .bool false, .ref s.heap.objs.size, rawInt j, .none, .none] } } (.ref (s.heap.objs.size + 1)) "enumerate" := ⟨_, e1, rfl⟩
  have hli := ft.init.lookup
  have hbi := ft.init.bind (.ref (s.heap.objs.size + 1))
  repeat (any_goals (first | assumption | wp_step))
  let S2 : Shared := { s with heap := (s.heap.push { cls := .type "list_iterator", data := .fields #[.ref l, .int 0 0] }).push { cls := .type "enumerate", data := .fields #[.none, .bool false, .ref s.heap.objs.size, rawInt j, .none, .none] } }
  let R2 : Result → Shared → Prop := fun r s2 => r = .ok (.ret .none) ∧ s2 = S2
  have ini := en_objinit (.ref (s.heap.objs.size + 1)) (.ref l) (.int j t) prog w A.in1 R2 S2 ⟨hT, rfl, rfl⟩
  refine codeAny_mono (R := R2) (codeAny_call_builtin ft.init.plain F.entry_object_init (ft.init.check _ _ _ _ _ _ _ _ hT (en_init _ _ _) ini)) fun r2 s2 hr2 => ?_
  obtain ⟨rfl, rfl⟩ := hr2
  repeat (any_goals (first | assumption | wp_step))
  exact h _ e1 ⟨_, Heap.get?_push_of_some _ (Heap.get?_push_size _ rfl), rfl, rfl⟩ fun b o x => Heap.get?_push_of_some _ (Heap.get?_push_of_some _ x)
end
end L2

namespace L2
open PySem PySem.Spec PyProof.Rows
section
variable {prog : Program} {w : World} {A : Around} {E : Value → Shared → Prop} {s : Shared}
/-- a turn of an enumerate whose count j need not be the turn's -/
theorem en_next {en ir : Addr} {fp : List Addr} {n i : Nat} {j : Int} {P : Nat → Value → Prop} {St : Nat → Heap → Prop} {old : Value} {Q : Value → Shared → Prop}
    (D : Draws prog w A ir fp n P St) (k0 : IsEnum s.heap en ir j old) (st : St i s.heap) (hlt : i < n) (hne : en ≠ ir) (hef : en ∉ fp)
    (hQ : ∀ x hz tk, P i x → IsEnumOut hz en ir (j + 1) x s.heap.objs.size → St (i + 1) hz →
      hz.get? s.heap.objs.size = some { cls := .type "tuple", data := .seq #[.int j tk, x] } → (∀ b o, b ≠ en → b ≠ ir → s.heap.get? b = some o → hz.get? b = some o) → Q (.ref s.heap.objs.size) { s with heap := hz, toks := tk + 1 }) :
    wpAny (model prog w) A (Builtin.«enumerate.__next__» ⟨[.ref en], []⟩) (fun fin z => ∃ v, fin = .done (.ret v) ∧ Q v z) E s := by
  obtain ⟨h0, gs, dr, t0, oo⟩ := s
  show wpAny _ _ (field (.ref en) 2 >>= _) _ _ _
  refine wpAny_bind (wpAny_field k0 rfl (x := .ref ir) rfl ?_)
  refine wpAny_bind (D.item i _ _ _ hlt st fun x h1 tk px st1 b1 => ?_)
  have s1 : Heap.SameBut ir h0 h1 := b1
  have k1 : IsEnum h1 en ir j old := (s1.2 en hne).trans k0
  show wpAny _ _ (field (.ref en) 3 >>= _) _ _ ⟨h1, gs, dr, tk, oo⟩
  refine wpAny_bind (wpAny_field k1 rfl (x := rawInt j) rfl ?_)
  show wpAny _ _ (field (.ref en) 4 >>= _) _ _ ⟨h1, gs, dr, tk, oo⟩
  refine wpAny_bind (wpAny_field k1 rfl (x := .none) rfl ?_)
  show wpAny _ _ (mkInt j >>= _) _ _ ⟨h1, gs, dr, tk, oo⟩
  refine wpAny_bind (wpAny_mkInt ?_)
  show wpAny _ _ (setField (.ref en) 3 (rawInt (j + 1)) >>= _) _ _ ⟨h1, gs, dr, tk + 1, oo⟩
  refine wpAny_bind (wpAny_setField_rec k1 (by simp) fun h2 k2 b2 => ?_)
  have s2 : Heap.SameBut en h1 h2 := b2
  have k2' : IsEnum h2 en ir (j + 1) old := k2
  show wpAny _ _ (setField (.ref en) 4 .none >>= _) _ _ ⟨h2, gs, dr, tk + 1, oo⟩
  refine wpAny_bind (wpAny_setField_rec k2' (by simp) fun h3 k3 b3 => ?_)
  have s3 : Heap.SameBut en h2 h3 := b3
  have k3' : IsEnum h3 en ir (j + 1) old := k3
  show wpAny _ _ (newTuple [.int j tk, x] >>= _) _ _ ⟨h3, gs, dr, tk + 1, oo⟩
  refine wpAny_bind (wpAny_newTuple ?_)
  have k4 : IsEnum (h3.push { cls := .type "tuple", data := .seq #[.int j tk, x] }) en ir (j + 1) old := Heap.get?_push_of_some _ k3'
  generalize e4 : h3.push { cls := .type "tuple", data := .seq #[.int j tk, x] } = h4 at k4
  have z3 : h3.objs.size = h0.objs.size := by rw [s3.1, s2.1, s1.1]
  have lt : en < h0.objs.size := Heap.lt_size k0
  have t4 : h4.get? h0.objs.size = some { cls := .type "tuple", data := .seq #[.int j tk, x] } := by
    rw [← e4, ← z3]
    exact Heap.get?_push_size _ rfl
  have kp4 : ∀ b o, b ≠ en → b ≠ ir → h0.get? b = some o → h4.get? b = some o := fun b o n1 n2 hb => by
    rw [← e4]
    exact Heap.get?_push_of_some _ (s3.extBut b o n1 (s2.extBut b o n1 (s1.extBut b o n2 hb)))
  have st4 : St (i + 1) h4 := D.frame _ _ _ st1 fun b hb o y => by
    have n1 : b ≠ en := fun q => hef (q ▸ hb)
    rw [← e4]
    exact Heap.get?_push_of_some _ (s3.extBut b o n1 (s2.extBut b o n1 y))
  show wpAny _ _ (Builtin.SmallTypes.ownedTupleIsFree (.ref en) >>= _) _ _ ⟨h4, gs, dr, tk + 1, oo⟩
  rw [z3]
  clear e4 k3 k3' b3 s3 k2 k2' b2 s2 k1 s1 b1 st1 z3 h3 h2 h1
  refine wpAny_bind ?_
  unfold Builtin.SmallTypes.ownedTupleIsFree
  refine wpAny_bind (wpAny_field k4 rfl (x := .none) rfl (wpAny_pure ?_))
  simp only [if_true]
  refine wpAny_bind (wpAny_rule ?_)
  refine wpAny_bind (wpAny_field k4 rfl (x := old) rfl ?_)
  refine wpAny_bind (wpAny_setField_rec k4 (by simp) fun h5 k5 b5 => ?_)
  have s5 : Heap.SameBut en h4 h5 := b5
  have k5' : IsEnum h5 en ir (j + 1) x := k5
  show wpAny _ _ (Builtin.SmallTypes.ownedTupleHandOut (.ref en) (.ref h0.objs.size) >>= _) _ _ ⟨h5, gs, dr, tk + 1, oo⟩
  refine wpAny_bind ?_
  unfold Builtin.SmallTypes.ownedTupleHandOut
  refine wpAny_bind (wpAny_setField_rec k5' (by simp) fun h6 k6 b6 => ?_)
  have s6 : Heap.SameBut en h5 h6 := b6
  have k6' : IsEnumOut h6 en ir (j + 1) x h0.objs.size := k6
  refine wpAny_setField_rec k6' (by simp) fun h7 k7 b7 => ?_
  have s7 : Heap.SameBut en h6 h7 := b7
  have k7' : IsEnumOut h7 en ir (j + 1) x h0.objs.size := k7
  refine wpAny_bind (wpAny_letGo (wpAny_pure ⟨_, rfl, hQ x h7 tk px k7' ?_ ?_ ?_⟩))
  · exact D.frame _ _ _ st4 fun b hb o y => by
      have n1 : b ≠ en := fun q => hef (q ▸ hb)
      exact s7.extBut b o n1 (s6.extBut b o n1 (s5.extBut b o n1 y))
  · exact s7.extBut _ _ (Nat.ne_of_gt lt) (s6.extBut _ _ (Nat.ne_of_gt lt) (s5.extBut _ _ (Nat.ne_of_gt lt) t4))
  · exact fun b o n1 n2 hb => s7.extBut b o n1 (s6.extBut b o n1 (s5.extBut b o n1 (kp4 b o n1 n2 hb)))
theorem en_item {en ir : Addr} {fp : List Addr} {n i : Nat} {j : Int} {P : Nat → Value → Prop} {St : Nat → Heap → Prop} {old : Value} {Q : Option Value → Shared → Prop}
    (D : Draws prog w A.in1 ir fp n P St) (k0 : IsEnum s.heap en ir j old) (st : St i s.heap) (hlt : i < n) (hne : en ≠ ir) (hef : en ∉ fp)
    (hQ : ∀ x hz tk, P i x → IsEnumOut hz en ir (j + 1) x s.heap.objs.size → St (i + 1) hz →
      hz.get? s.heap.objs.size = some { cls := .type "tuple", data := .seq #[.int j tk, x] } → (∀ b o, b ≠ en → b ≠ ir → s.heap.get? b = some o → hz.get? b = some o) → Q (some (.ref s.heap.objs.size)) { s with heap := hz, toks := tk + 1 }) :
    wpAny (model prog w) A (pyNext (.ref en)) Q E s := by
  have hT : s.TypeIs (.ref en) "enumerate" := ⟨_, k0, rfl⟩
  unfold pyNext
  refine wpAny_bind (wpAny_attempt (wpAny_callSpecial?_slot (name := Str.ofString "__next__") hT F.slot_enumerate_next (wpAny_call_entry F.slot_enumerate_next hT F.entry_enumerate_next ?_ (F.args_enumerate_next_1 _))))
  exact en_next D k0 st hlt hne hef fun x hz tk a b c d k => wpAny_pure (hQ x hz tk a b c d k)
end
/-- j, j + 1, .. beside the list's things -/
def Ite (K : PySem.W.Frag) (a : Addr) (j : Int) : It :=
  ⟨fun i H => ∃ xs x, SqL K H a xs ∧ xs[i]? = some x, fun i H x H' => ∃ p y, x = .ref p ∧ H p = none ∧ H' = upd H p (.tup [.int (j + (i : Nat)), y]) ∧ ∀ xs, SqL K H a xs → xs[i]? = some y, fun i H => ∃ xs, SqL K H a xs ∧ xs.length = i⟩
theorem turn_enum {P : Program} {w : World} {K : PySem.W.Frag} {elts : List Expr} {x1} {pos : Pos} (a en ir : Addr) (j : Int) (hne : en ≠ ir) :
    Turn P w K (.Tuple elts x1 pos) (Ite K a j) [en, ir] en (fun i h => (∃ old, IsEnum h en ir (j + (i : Nat)) old) ∧ h.IsListIter ir a i) where
  mem := by simp
  obj := fun i h st b hb => by
    obtain ⟨⟨old, k⟩, o, e, c, d⟩ := st
    rcases List.mem_cons.mp hb with z | z
    · exact ⟨_, by rw [z]; exact k, fun v y => by cases y⟩
    · exact ⟨o, by rw [List.mem_singleton.mp z]; exact e, fun v y => by rw [d] at y; cases y⟩
  keep := fun i h h' st k => by
    obtain ⟨⟨old, q⟩, r⟩ := st
    exact ⟨⟨old, k en (by simp) _ q⟩, r.at fun o e => k ir (by simp) o e⟩
  item := by
    intro X hP hw hK hc i pins s σ H E I hf st hg
    subst hP hw hK
    obtain ⟨xs, x, hq, hx⟩ := hg
    obtain ⟨its, rv, p, hz⟩ := I.list hq
    obtain ⟨u, hu, ru⟩ := rv.get hx
    obtain ⟨f0, f1, f2, f3, f4, f5⟩ := hf en (by simp)
    obtain ⟨g0, g1, g2, g3, g4, g5⟩ := hf ir (by simp)
    obtain ⟨⟨old, k⟩, r⟩ := st
    have hii : i < its.toArray.size := by
      have := (List.getElem?_eq_some_iff.mp hu).1
      simpa using this
    have nal : a ≠ ir := fun e => by
      obtain ⟨o1, e1, c1, _⟩ := r
      obtain ⟨o2, e2, c2, _⟩ := p.isList
      rw [e] at e2
      rw [e1] at e2
      cases e2
      rw [c1] at c2
      exact absurd c2 (by intro z; injection z with z; exact absurd z (by decide))
    have nae : en ∉ [ir, a] := fun m => by
      rcases List.mem_cons.mp m with z | z
      · exact hne z
      · obtain ⟨o2, e2, c2, _⟩ := p.isList
        rw [← List.mem_singleton.mp z, k] at e2
        cases e2
        exact absurd c2 (by intro z; injection z with z; exact absurd z (by decide))
    have hh : X.A.in1.handled = none := I.ok.hd hc
    refine en_item (Draws.list hh ir a nal its.toArray) k ⟨r, p.isList⟩ hii hne nae fun y hz2 tk py ko st2 tup kp => ?_
    have ey : y = u := by
      have e : its[i]? = some y := by simpa using py
      rw [hu] at e
      exact (Option.some.inj e).symm
    subst ey
    refine ⟨_, rfl, ?_⟩
    refine wpAny_letOwnedTupleGo_enum ko fun h3 k3 b3 => ?_
    have s3 : Heap.SameBut en hz2 h3 := b3
    have lt1 : en < s.heap.objs.size := Heap.lt_size k
    have lt2 : ir < s.heap.objs.size := by
      obtain ⟨o, e, _⟩ := r
      exact Heap.lt_size e
    have st3 : h3.IsListIter ir a (i + 1) := by
      obtain ⟨o, e, q⟩ := st2.1
      exact ⟨o, (s3.2 ir (Ne.symm hne)).trans e, q⟩
    have k3' : IsEnum h3 en ir (j + ((i + 1 : Nat) : Int)) y := by
      have e : j + ((i + 1 : Nat) : Int) = j + (i : Nat) + 1 := by omega
      rw [e]
      exact k3
    have tup3 : h3.get? s.heap.objs.size = some { cls := .type "tuple", data := .seq #[.int (j + (i : Nat)) tk, y] } := (s3.2 _ (Nat.ne_of_gt lt1)).trans tup
    have fr : H s.heap.objs.size = none := I.hok.fresh (Nat.le_refl _)
    have I2 : Inv X pins σ (upd H s.heap.objs.size (.tup [.int (j + (i : Nat)), x])) { s with heap := h3, toks := tk + 1 } := by
      refine I.step (g' := s.gens) (d' := s.drawn) (ch := [en, ir]) (fun b hb => ?_) (fun b o _ _ hc e _ => ?_) (fun b o _ _ hc e _ => ?_) (fun b o _ e n => ?_) (fun b o hc e => ?_) (fun b xs e => ?_) (fun b o xs e => ?_) (fun b ps e => ⟨#[], ?_⟩) (fun m hm => ?_) (fun b v e => ?_) I.bare
      · rcases List.mem_cons.mp hb with z | z
        · rw [z]; exact ⟨f3, f1, f4, f5⟩
        · rw [List.mem_singleton.mp z]; exact ⟨g3, g1, g4, g5⟩
      · exact (s3.2 b (fun z => hc (by simp [z]))).trans (kp b o (fun z => hc (by simp [z])) (fun z => hc (by simp [z])) e)
      · exact ⟨o.slots, (s3.2 b (fun z => hc (by simp [z]))).trans (kp b o (fun z => hc (by simp [z])) (fun z => hc (by simp [z])) e)⟩
      · rw [upd_ne (Nat.ne_of_lt (Heap.lt_size e))]; exact n
      · by_cases hb : b = en ∨ b = ir
        · rcases hb with z | z
          · exact absurd (by simp [z]) hc
          · exact absurd (by simp [z]) hc
        · exact ⟨o, (s3.2 b (fun z => hb (.inl z))).trans (kp b o (fun z => hb (.inl z)) (fun z => hb (.inr z)) e)⟩
      · rw [upd_ne (ne_of_none e fr)]; exact e
      · rw [upd_ne (ne_of_none e fr)]; exact e
      · rw [upd_ne (ne_of_none e fr), e]; simp
      · obtain ⟨o, es, ep, ho, q⟩ := hm
        exact ⟨o, es, ep, (s3.2 _ (Ne.symm f1)).trans (kp _ o (Ne.symm f1) (Ne.symm g1) ho), q⟩
      · by_cases hb : b = s.heap.objs.size
        · subst hb
          rw [upd_same] at e
          cases e
          exact ⟨small (by show 2 ≤ 1000; decide), [.int (j + (i : Nat)) tk, y], .cons ⟨_, rfl⟩ (.cons ru .nil), _, tup3, rfl, _, rfl⟩
        · rw [upd_ne hb] at e
          have nn : ∀ c v, H c = some v → c ≠ en ∧ c ≠ ir := fun c v q => ⟨(fun z => by rw [z, f0] at q; cases q), (fun z => by rw [z, g0] at q; cases q)⟩
          refine (I.hok b v e).stay (fun c v' hc q => ?_) (fun c q => by rw [upd_ne (ne_of_none q fr)]; exact q) (fun c xs q => by rw [upd_ne (ne_of_none q fr)]; exact q)
          have m : c ≠ en ∧ c ≠ ir := by
            rcases hc with z | z
            · rw [z]; exact nn b v e
            · exact nn c _ z
          exact (s3.2 c m.1).trans (kp c v' m.1 m.2 q)
    refine ⟨.ref s.heap.objs.size, _, I2, rfl, ⟨_, x, rfl, fr, rfl, fun ys hy => by rw [I.list_inj hy hq]; exact hx⟩, ⟨⟨_, k3'⟩, st3⟩, fun b hb => ?_⟩
    rw [upd_ne (fun z => ?_)]
    · exact (hf b hb).1
    · rw [z] at hb
      rcases List.mem_cons.mp hb with q | q
      · exact Nat.ne_of_gt lt1 q
      · exact Nat.ne_of_gt lt2 (List.mem_singleton.mp q)
  done := by
    intro X hP hw hK hc i pins s σ H E I hf st hg
    subst hP hw hK
    obtain ⟨xs, hq, hx⟩ := hg
    obtain ⟨its, rv, p, hz⟩ := I.list hq
    obtain ⟨g0, g1, g2, g3, g4, g5⟩ := hf ir (by simp)
    obtain ⟨⟨old, k⟩, r⟩ := st
    have hl := rv.length
    have nal : a ≠ ir := fun e => by
      obtain ⟨o1, e1, c1, _⟩ := r
      obtain ⟨o2, e2, c2, _⟩ := p.isList
      rw [e] at e2
      rw [e1] at e2
      cases e2
      rw [c1] at c2
      exact absurd c2 (by intro z; injection z with z; exact absurd z (by decide))
    have hh : X.A.in1.handled = none := I.ok.hd hc
    have en_i : i = its.toArray.size := by simp; omega
    subst en_i
    refine wpAny_pyNext_enum_endD (Draws.list hh ir a nal its.toArray) k ⟨r, p.isList⟩ fun h' eb => ?_
    exact ⟨rfl, I.turned (t' := s.toks) (fun b o hb e => eb b o hb e) g0 g1 g3 g4 g5⟩
  self := fun A i s Q E st h => by
    obtain ⟨⟨old, k⟩, _⟩ := st
    exact wpAny_pyIter_enum k h
theorem cw_tykw {M : Model} {A : Around} {E : Value → Shared → Prop} {s : Shared} {pos : Pos} {T : String} {args : List (Bool × Sem Value)} {kws : List (Option Str × Sem Value)} {Q : Value → Shared → Prop} (hp : (args.any (·.1) || kws.any (·.1.isNone)) = false)
    (h : wpAny M A (evalArgs (.type T) true args kws) (fun a s1 => wpAny M A (call (.type T) a.pos a.kw) Q E s1) E s) : wpAny M A (callWith pos (.type T) [] args kws) Q E s := by
  unfold callWith
  refine wpAny_bind (wpAny_holding (wpAny_mono h (fun a s1 h1 => wpAny_bind (wpAny_standAt ?_)) fun _ _ x => x))
  simp only [hp]
  refine wpAny_bind (wpAny_pure ?_)
  exact wpAny_bind (wpAny_mono h1 (fun r s2 hr => wpAny_bind (wpAny_holding (wpAny_point (wpAny_pure hr)))) fun _ _ x => x)
section
variable {X : Cx} {elts : List Expr} {x1 : Nat} {tpos : Pos}
/-- enumerate(l, start=j) -/
def iEnumK (K : PySem.W.Frag) (tl : TA) (tj : TA) : TI := fun σ H R => tl σ H fun vs H1 => tj σ H1 fun zs H2 => ∃ a j, vs = [.ref a] ∧ zs = [.int j] ∧ (∃ xs, SqL K H2 a xs) ∧ Builtin.SmallTypes.fitsIndex j = true ∧ R (Ite K a j) H2
def iEnum (K : PySem.W.Frag) (tl : TA) : TI := fun σ H R => tl σ H fun vs H1 => ∃ a, vs = [.ref a] ∧ (∃ xs, SqL K H1 a xs) ∧ R (Ite K a 0) H1
theorem en_it {pins : List (Addr × Obj)} {σ : St} {H : Hp} {s : Shared} {R : It → Hp → Prop} {E : Value → Shared → Prop} {a : Addr} {j : Int} {h1 : Heap} (I : Inv X pins σ H s) (k : IsEnum h1 (s.heap.objs.size + 1) s.heap.objs.size j .none) (st : h1.IsListIter s.heap.objs.size a 0)
    (kp : ∀ b o, s.heap.get? b = some o → h1.get? b = some o) (q : R (Ite X.K a j) H) : wpAny (model X.prog X.w) X.A (pyIter (.ref (s.heap.objs.size + 1))) (PIE X pins σ (.Tuple elts x1 tpos) R) E { s with heap := h1 } := by
  refine wpAny_pyIter_enum k ?_
  have I1 : Inv X pins σ H { s with heap := h1 } := I.kept (t' := s.toks) kp
  refine ⟨s.heap.objs.size + 1, [s.heap.objs.size + 1, s.heap.objs.size], _, _, H, rfl, I1, turn_enum a _ _ j (Nat.succ_ne_self _), ⟨⟨.none, ?_⟩, st⟩, fun b hb => ?_, q⟩
  · have e : j + ((0 : Nat) : Int) = j := by omega
    rw [e]
    exact k
  · rcases List.mem_cons.mp hb with z | z
    · rw [z]; exact I.fpOk (Nat.le_succ _) (I.hok.fresh (Nat.le_succ _))
    · rw [List.mem_singleton.mp z]; exact I.fpOk (Nat.le_refl _) (I.hok.fresh (Nat.le_refl _))
theorem pi_enumK {a v : Expr} {tl tj : TA} {p pos kpos : Pos} (hg : Gl X "enumerate") (hm : X.mg "enumerate" = none) (ha : PA X [a] tl) (hv : PK X [⟨some "start", v, kpos⟩] tj) (hs : starEach [a] X.env = [(false, eval a X.env)] := by rfl)
    (hall : (backToKw pos (keywordEach [⟨some "start", v, kpos⟩] X.env)).all (·.1.isSome) = true := by rfl) (hks : (backToKw pos (keywordEach [⟨some "start", v, kpos⟩] X.env)).filterMap (·.1) = [("start" : Str)] := by rfl)
    (hpl : ((backTo pos (starEach [a] X.env)).any (·.1) || (backToKw pos (keywordEach [⟨some "start", v, kpos⟩] X.env)).any (·.1.isNone)) = false := by rfl) :
    PI X (.Tuple elts x1 tpos) (.Call (.Name "enumerate" p) [a] [⟨some "start", v, kpos⟩] pos) (iEnumK X.K tl tj) := by
  intro pins s σ H R I h
  refine wpAny_Call_Name_kw (ld_blt I hg hm boot_enumerate ?_)
  refine cw_tykw hpl (evalArgs_kw2 hall (thn (ha pos pins s σ H _ I h) fun us s1 ⟨vs, H1, I1, r1, q1⟩ => thn (hv pos pins s1 σ H1 _ I1 q1) fun ws s2 ⟨zs, H2, I2, r2, q2⟩ => ?_) hs)
  obtain ⟨l, j, rfl, rfl, ⟨xs, hq⟩, hj, q⟩ := q2
  obtain ⟨u, rfl, ru⟩ := vals1 r1
  obtain ⟨u2, rfl, t, rfl⟩ := vals1 r2
  cases ru
  rw [hks]
  obtain ⟨its, rv, pl, hz⟩ := I2.list hq
  exact en_call hj pl.isList fun h1 k st kp => en_it I2 k st kp q
theorem pi_enum {a : Expr} {tl : TA} {p pos : Pos} (hg : Gl X "enumerate") (hm : X.mg "enumerate" = none) (ha : PA X [a] tl) (hs : starEach [a] X.env = [(false, eval a X.env)] := by rfl) :
    PI X (.Tuple elts x1 tpos) (.Call (.Name "enumerate" p) [a] [] pos) (iEnum X.K tl) := by
  intro pins s σ H R I h
  refine Call_ (ld_blt I hg hm boot_enumerate (PyProof.Rows.callWith_type1 (thn (ha pos pins s σ H _ I h) fun us s1 ⟨vs, H1, I1, r1, q1⟩ => ?_) hs rfl))
  obtain ⟨l, rfl, ⟨xs, hq⟩, q⟩ := q1
  obtain ⟨u, rfl, ru⟩ := vals1 r1
  cases ru
  obtain ⟨its, rv, pl, hz⟩ := I1.list hq
  exact call_enumerate_list pl.isList fun h1 k st _ kp => en_it I1 k st kp q
end
/-- the loop over an enumerate of a list that the body leaves as it is -/
theorem for_enum {K : PySem.W.Frag} {a : Addr} {j : Int} {xs : List V} {g : TG} {tb : TS} {D : Ends} {σ : St} {H : Hp} (Pv : Nat → St → Hp → Prop) (h0 : Pv 0 σ H) (hl : ∀ i σ H, i ≤ xs.length → Pv i σ H → SqL K H a xs)
    (hs : ∀ i x σ H p, xs[i]? = some x → Pv i σ H → H p = none → g (.ref p) σ (upd H p (.tup [.int (j + (i : Nat)), x])) fun σ2 H2 => tb { D with nx := Pv (i + 1), ct := Pv (i + 1), bk := D.nx } σ2 H2) (hd : ∀ σ H, Pv xs.length σ H → D.nx σ H) :
    ∃ W : Nat → Nat → St → Hp → Prop, (∃ m, W 0 m σ H) ∧ ∀ i m σ H, W i m σ H →
      ((Ite K a j).stop i H ∧ D.nx σ H) ∨ ((Ite K a j).go i H ∧ ∃ N : St → Hp → Prop, (∀ σ' H', N σ' H' → ∃ m', m' < m ∧ W (i + 1) m' σ' H') ∧ ∀ x H', (Ite K a j).yld i H x H' → g x σ H' fun σ2 H2 => tb { D with nx := N, ct := N, bk := D.nx } σ2 H2) := by
  refine ⟨fun i m σ H => m = xs.length - i ∧ i ≤ xs.length ∧ Pv i σ H, ⟨xs.length, by simp, Nat.zero_le _, h0⟩, ?_⟩
  rintro i m σ H ⟨rfl, hi, p⟩
  have q := hl i σ H hi p
  by_cases hlt : i < xs.length
  · refine .inr ⟨⟨xs, xs[i], q, by simp [hlt]⟩, Pv (i + 1), fun σ' H' p' => ⟨xs.length - (i + 1), by omega, rfl, hlt, p'⟩, fun x H' y => ?_⟩
    obtain ⟨c, z, rfl, hc, rfl, y⟩ := y
    exact hs i z σ H c (y xs q) p hc
  · have e : i = xs.length := by omega
    subst e
    exact .inl ⟨⟨xs, q, rfl⟩, hd σ H p⟩
end L2

namespace L2
open PySem PySem.Spec PyProof.Rows
section
variable {X : Cx} {pins : List (Addr × Obj)} {σ : St} {H : Hp} {s : Shared} {d : Addr} {kvs : List (Key × V)}
/-! ### a dict is held still while a loop walks it -/
theorem Inv.freeze (I : Inv X pins σ H s) (h : H d = some (.dK kvs)) : ∃ o, s.heap.get? d = some o ∧ Inv X pins σ (upd H d (.frz o (.dK kvs))) s := by
  obtain ⟨z, hd, vs, r, o, es, ep, e, c⟩ := I.hok d _ h
  have mu : Mut (H d) := by rw [h]; trivial
  refine ⟨o, e, I.un (h' := s.heap) (t' := s.toks) (Un.write mu (.inl rfl) (fun _ _ _ q => q) ⟨o, e⟩) (I.hok.write mu (.inl rfl) (fun _ _ _ q => q) ⟨o, e⟩ ⟨e, z, hd, vs, r, o, es, ep, e, c⟩)⟩
theorem Inv.thaw {o : Obj} (I : Inv X pins σ H s) (h : H d = some (.frz o (.dK kvs))) (h0 : ∀ o u, X.H₀ d ≠ some (.frz o u)) : Inv X pins σ (upd H d (.dK kvs)) s := by
  have nn : ∀ b, H b = none → b ≠ d := fun b q z => by rw [z, h] at q; cases q
  refine ⟨I.ok, I.os, I.bare, ⟨I.base.keep, I.base.slot, fun b o' e n hx => ?_, I.base.there, fun b xs e => ?_, fun b o' u e => ?_, fun b ps e => ?_⟩, I.loc, I.cell, ?_, fun x c e => ?_, fun p hp => ?_, fun b u e => ?_, I.len⟩
  · have q := I.base.free b o' e n hx
    rw [upd_ne (nn b q)]
    exact q
  · have q := I.base.tups b xs e
    rw [upd_ne (ne_of q h (by intro z; cases z))]
    exact q
  · have q := I.base.frzs b o' u e
    rw [upd_ne (fun z => h0 o' u (by rw [← z]; exact e))]
    exact q
  · obtain ⟨more, q⟩ := I.base.tbls b ps e
    refine ⟨more, ?_⟩
    rw [upd_ne (ne_of q h (by intro z; cases z))]
    exact q
  · rw [upd_ne (nn _ I.free)]
    exact I.free
  · rw [upd_ne (nn _ (I.freeC x c e))]
    exact I.freeC x c e
  · obtain ⟨a, b, c⟩ := I.pin p hp
    exact ⟨a, by rw [upd_ne (nn _ b)]; exact b, c⟩
  · by_cases hb : b = d
    · subst hb
      rw [upd_same] at e
      cases e
      obtain ⟨q, ok⟩ := I.hok b _ h
      exact ok
    · rw [upd_ne hb] at e
      exact (I.hok b u e).stay (fun _ _ _ q => q) (fun c q => by rw [upd_ne (ne_of q h (by intro z; cases z))]; exact q) (fun c xs q => by rw [upd_ne (ne_of q h (by intro z; cases z))]; exact q)
theorem Inv.unfrozen (I : Inv X pins σ H s) (h : H d = some (.dK kvs)) : ∀ o u, X.H₀ d ≠ some (.frz o u) := fun o u e => by
  have q := I.base.frzs d o u e
  rw [h] at q
  cases q
def tFrz (t : TE) : TE := fun σ H Q => ∃ (d : Addr) (kvs : List (Key × V)), H d = some (.dK kvs) ∧ ∀ o, t σ (upd H d (.frz o (.dK kvs))) fun v H' => H' d = some (.frz o (.dK kvs)) ∧ Q v (upd H' d (.dK kvs))
theorem pe_frz {e : Expr} {t : TE} (h : PE X e t) : PE X e (tFrz t) := by
  intro pins s σ H Q I hw
  obtain ⟨d, kvs, hd, q⟩ := hw
  obtain ⟨o, eo, I1⟩ := I.freeze hd
  refine thn (h pins s σ _ _ I1 (q o)) fun v s1 ⟨x, H1, I2, r, hz, q2⟩ => ?_
  exact ⟨x, _, I2.thaw hz (I.unfrozen hd), r, q2⟩
def sFrz (t : TS) : TS := fun D σ H => ∃ (d : Addr) (kvs : List (Key × V)), H d = some (.dK kvs) ∧ ∀ o, t { nx := fun σ' H' => H' d = some (.frz o (.dK kvs)) ∧ D.nx σ' (upd H' d (.dK kvs)), rt := fun v H' => H' d = some (.frz o (.dK kvs)) ∧ D.rt v (upd H' d (.dK kvs)), bk := fun σ' H' => H' d = some (.frz o (.dK kvs)) ∧ D.bk σ' (upd H' d (.dK kvs)), ct := fun σ' H' => H' d = some (.frz o (.dK kvs)) ∧ D.ct σ' (upd H' d (.dK kvs)) } σ (upd H d (.frz o (.dK kvs)))
theorem ps_frz {st : Stmt} {t : TS} (h : PS X st t) : PS X st (sFrz t) := by
  intro pins s σ H D I hw
  obtain ⟨d, kvs, hd, q⟩ := hw
  obtain ⟨o, eo, I1⟩ := I.freeze hd
  refine thn (h pins s σ _ _ I1 (q o)) fun f s1 q1 => ?_
  have un := I.unfrozen hd
  cases f with
  | next => obtain ⟨σ', H', I2, hz, q2⟩ := q1; exact ⟨σ', _, I2.thaw hz un, q2⟩
  | brk => obtain ⟨σ', H', I2, hz, q2⟩ := q1; exact ⟨σ', _, I2.thaw hz un, q2⟩
  | cont => obtain ⟨σ', H', I2, hz, q2⟩ := q1; exact ⟨σ', _, I2.thaw hz un, q2⟩
  | ret u => obtain ⟨v, σ', H', I2, r, hz, q2⟩ := q1; exact ⟨v, σ', _, I2.thaw hz un, r, q2⟩
end
/-- a dict's keys, in order -/
def Itd (d : Addr) (o : Obj) (kvs : List (Key × V)) : It :=
  ⟨fun i H => H d = some (.frz o (.dK kvs)) ∧ i < kvs.length, fun i H x H' => H' = H ∧ ∃ k v, kvs[i]? = some (k, v) ∧ x = kV k, fun i H => H d = some (.frz o (.dK kvs)) ∧ kvs.length = i⟩
theorem rel_key {k : Key} {v : Value} (h : keyIs k v = true) : RelV (kV k) v := by
  rcases keyIs_shape h with ⟨i, t, rfl, rfl⟩ | ⟨x, t, rfl, rfl⟩
  · exact ⟨t, rfl⟩
  · exact ⟨t, rfl⟩
theorem turn_dict {P : Program} {w : World} {K : PySem.W.Frag} {tg : Expr} (d it : Addr) (o : Obj) (kvs : List (Key × V)) {vs : List (Key × Value)} {es : Array DictEntry} {ep : Nat} (rk : KV kvs vs) (hd : o.ExactDict) (he : o.data = .dict es ep) (hk : KeysOf (mixKind P w) es) (hp : Pairs (mixKind P w) es.toList vs) (nd : (vs.map (·.1)).Nodup) :
    Turn P w K tg (Itd d o kvs) [it] it (fun i h => h.IsKeyIter it d i vs.length ep) where
  mem := by simp
  obj := fun i h st b hb => by
    have e : b = it := by simpa using hb
    subst e
    obtain ⟨o, e, c, d⟩ := st
    exact ⟨o, e, fun v z => by rw [d] at z; cases z⟩
  keep := fun i h h' st k => st.at fun o e => k it (by simp) o e
  item := by
    intro X hP hw hK hc i pins s σ H E I hf st hg
    subst hP hw hK
    obtain ⟨hz, hi⟩ := hg
    obtain ⟨eo, _⟩ := I.hok d _ hz
    obtain ⟨f0, f1, f2, f3, f4, f5⟩ := hf it (by simp)
    have hl := KV.length rk
    have hi2 : i < vs.length := by omega
    have ev : vs[i]? = some (vs[i].1, vs[i].2) := List.getElem?_eq_getElem hi2
    have ks : kvs[i]? = some (kvs[i].1, kvs[i].2) := List.getElem?_eq_getElem hi
    have keq : kvs[i].1 = vs[i].1 := by
      have q := KV.keys rk
      have q1 : (kvs.map (·.1))[i]? = (vs.map (·.1))[i]? := by rw [q]
      rw [List.getElem?_map, List.getElem?_map, ks, ev] at q1
      exact Option.some.inj q1
    refine wpAny_pyNext_dict_item st ⟨o, es, eo, hd, he, hk, hp, nd⟩ ev fun key h' hkey st' sb => ?_
    have I1 : Inv X pins σ H { s with heap := h' } := I.turned (t' := s.toks) (fun b o hb e => (sb.2 b hb).trans e) f0 f1 f3 f4 f5
    obtain ⟨o2, e2, c2, d2⟩ := id st'
    refine ⟨key, rfl, go_of (s := { s with heap := h' }) e2 c2 d2 (by decide) ⟨kV kvs[i].1, H, I1, ?_, ⟨rfl, _, _, ks, rfl⟩, st', fun b hb => (hf b hb).1⟩⟩
    rw [keq]
    exact rel_key hkey
  done := by
    intro X hP hw hK hc i pins s σ H E I hf st hg
    subst hP hw hK
    obtain ⟨hz, hi⟩ := hg
    obtain ⟨eo, _⟩ := I.hok d _ hz
    obtain ⟨f0, f1, f2, f3, f4, f5⟩ := hf it (by simp)
    have hl := KV.length rk
    have hin : vs[i]? = none := List.getElem?_eq_none (by omega)
    exact wpAny_pyNext_dict_end (I.ok.hd hc) st ⟨o, es, eo, hd, he, hk, hp, nd⟩ hin fun h' eb => ⟨rfl, I.turned (t' := s.toks) (fun b o hb e => eb b o hb e) f0 f1 f3 f4 f5⟩
  self := fun _ _ _ _ _ st h => wpAny_pyIter_keyiter st h
section
variable {X : Cx} {tg : Expr}
def iDict (tl : TE) : TI := fun σ H R => tl σ H fun x H1 => ∃ d o kvs, x = .ref d ∧ H1 d = some (.frz o (.dK kvs)) ∧ R (Itd d o kvs) H1
theorem pi_dict {l : Expr} {tl : TE} (hl : PE X l tl) : PI X tg l (iDict tl) := by
  intro pins s σ H R I h
  refine thn (hl pins s σ H _ I h) fun v s1 ⟨x, H1, I1, r1, q1⟩ => ?_
  obtain ⟨d, o, kvs, rfl, hz, q⟩ := q1
  cases r1
  obtain ⟨eo, z, hd, vs, rk, o', es, ep, e', xd, dt, ko, pr, nd⟩ := I1.hok d _ hz
  rw [eo] at e'
  cases e'
  refine wpAny_pyIter_dict hd ⟨o, es, eo, xd, dt, ko, pr, nd⟩ ?_
  refine ⟨s1.heap.objs.size, [s1.heap.objs.size], _, _, H1, rfl, I1.kept (t' := s1.toks) fun b o e => Heap.get?_push_of_some _ e, turn_dict d _ o kvs rk xd dt ko pr nd, ⟨_, Heap.get?_push_size _ rfl, rfl, rfl⟩, fun b hb => ?_, q⟩
  have e : b = s1.heap.objs.size := by simpa using hb
  subst e
  exact I1.fpOk (Nat.le_refl _) (I1.hok.fresh (Nat.le_refl _))
theorem seq_dict {d : Addr} {o : Obj} {kvs : List (Key × V)} {H1 : Hp} (h : H1 d = some (.frz o (.dK kvs))) : Seq (Itd d o kvs) H1 (kvs.map fun p => kV p.1) where
  go := fun i H e hi => ⟨e _ _ h, by rw [List.length_map] at hi; exact hi⟩
  yld := fun i H x H' e _ y => by
    obtain ⟨a, k, v, b, c⟩ := y
    refine ⟨a, ?_⟩
    rw [List.getElem?_map, b, c]
    rfl
  stop := fun H e => ⟨e _ _ h, by rw [List.length_map]⟩
/-! ### xs.insert(i, y) at a place that lies in it -/
def rInsert : V → List V → Hp → VK → Prop := fun x vs H Q => ∃ l xs i y, x = .ref l ∧ vs = [.int i, y] ∧ H l = some (.lst xs) ∧ 0 ≤ i ∧ i ≤ ((xs.length : Nat) : Int) ∧ xs.length < sizeLine ∧ Q .non (upd H l (.lst (xs.take i.toNat ++ y :: xs.drop i.toNat)))
theorem mt_insert : MtM X "list.insert" rInsert := by
  intro pins s σ H x vs v us Q I rx rv h
  obtain ⟨l, xs, i, y, rfl, rfl, hH, h0, h1, hz, q⟩ := h
  cases rx
  obtain ⟨u1, u2, rfl, ⟨t, rfl⟩, r2⟩ := rv.two
  obtain ⟨z, its, n, r, hl, e⟩ := I.lstM hH
  have s63 : (sizeLine : Nat) < 2 ^ 63 := line63
  have fit : ¬ (!Builtin.List.listFitsIndex i) = true := by
    have hb : Builtin.List.listFitsIndex i = true := by
      unfold Builtin.List.listFitsIndex
      simp
      omega
    rw [hb]
    simp
  refine call_meets F.slot_list_insert ⟨_, e, rfl⟩ F.entry_list_insert (F.args_list_insert_3 _ _ _) (AutoSeq1.list_insert_list_int_val_1 l its.toArray n i t u2 fit (by rw [List.size_toArray]; omega)) ⟨e, ?_⟩
  refine ⟨.non, _, I.lset (its' := its.take i.toNat ++ u2 :: its.drop i.toNat) hH e ?_ ((r.take _).append (.cons r2 (r.drop _))) ?_, rfl, q⟩
  · have e1 : ¬ i < 0 := by omega
    have e2 : min i.toNat its.toArray.size = i.toNat := by
      rw [List.size_toArray]
      omega
    simp only [if_neg e1, e2]
    apply Array.toList_inj.mp
    simp
    exact List.take_of_length_le (by rw [List.length_drop]; omega)
  · rw [List.length_append, List.length_cons, List.length_take, List.length_drop]
    omega
/-! ### a def of the text, all in one -/
structure Dfn (P : Program) (w : World) (K : PySem.W.Frag) (mg : Str → Option Value) (base : Heap) (k : Nat) (x : Str) (ps : List Str) (sp : Sp) : Prop where
  ex : ∃ f fd, FnOk P w K mg base CX0 k f fd ps sp ∧ Binds K fd ps [] ∧ PySem.W.keepIn K (.ref f) = true ∧ mg x = some (.ref f)
theorem pe_callD {k : Nat} {x : Str} {ps : List Str} {sp : Sp} {e : Expr} {es : List Expr} {t : TA} {p pos : Pos} (D : Dfn X.prog X.w X.K X.mg X.base k x ps sp) (hr : Room k X.A) (hg : Gl X x) (ha : PA X (e :: es) t) (hdb : (x == ("__debug__" : Str)) = false := by decide)
    (he : starEach (e :: es) X.env = (false, eval e X.env) :: starEach es X.env := by rfl) (hpl : (backTo pos (starEach es X.env)).any (·.1) = false := by rfl) : PE X (.Call (.Name x p) (e :: es) [] pos) (tCall sp [] E0 t) := by
  obtain ⟨f, fd, F, b, kp, m⟩ := D.ex
  exact pe_call F hr hg m kp b .nil pass0 ha hdb he hpl
structure GS (mg : Str → Option Value) (x : Str) (z : Str) : Prop where
  ex : ∃ t, mg x = some (.str z t)
structure GI (mg : Str → Option Value) (x : Str) (z : Int) : Prop where
  ex : ∃ t, mg x = some (.int z t)
theorem pe_gs {x z : Str} {pos : Pos} (G : GS X.mg x z) (hg : Gl X x) (hd : (x == ("__debug__" : Str)) = false := by decide) : PE X (.Name x pos) (tC (.str z)) := by
  obtain ⟨t, e⟩ := G.ex
  exact pe_glob hg e (rel_str _ _) hd
theorem pe_gi {x : Str} {z : Int} {pos : Pos} (G : GI X.mg x z) (hg : Gl X x) (hd : (x == ("__debug__" : Str)) = false := by decide) : PE X (.Name x pos) (tC (.int z)) := by
  obtain ⟨t, e⟩ := G.ex
  exact pe_glob hg e (rel_int _ _) hd
end
end L2

namespace L2
open PySem PySem.Spec PyProof.Rows
section
variable {X : Cx}
/-! ### a class that is made; a method: all in one -/
structure MkD (P : Program) (w : World) (K : PySem.W.Frag) (mg : Str → Option Value) (base : Heap) (k : Nat) (x : Str) (C : Addr) (ps : List Str) (sp : Sp) : Prop where
  ex : ∃ f fd, Mk K C f ∧ FnOk P w K mg base CX0 k f fd ps sp ∧ Binds K fd ps [] ∧ mg x = some (.ref C)
theorem pe_makeD {k : Nat} {x : Str} {C : Addr} {ps : List Str} {sp : Sp} {e : Expr} {es : List Expr} {t : TA} {p pos : Pos} (D : MkD X.prog X.w X.K X.mg X.base k x C ps sp) (hr : Room (k + 1) X.A) (hg : Gl X x) (ha : PA X (e :: es) t) (hdb : (x == ("__debug__" : Str)) = false := by decide)
    (he : starEach (e :: es) X.env = (false, eval e X.env) :: starEach es X.env := by rfl) (hpl : (backTo pos (starEach es X.env)).any (·.1) = false := by rfl) : PE X (.Call (.Name x p) (e :: es) [] pos) (tMake C sp [] E0 t) := by
  obtain ⟨f, fd, M, F, b, m⟩ := D.ex
  exact pe_make M F hr hg m b .nil pass0 ha hdb he hpl
structure MtD (P : Program) (w : World) (K : PySem.W.Frag) (mg : Str → Option Value) (base : Heap) (k : Nat) (m : Str) (C : Addr) (ps : List Str) (sp : Sp) : Prop where
  ex : ∃ f fd, Meth K C m f ∧ FnOk P w K mg base CX0 k f fd ps sp ∧ Binds K fd ps []
theorem pt_truthK {K : PySem.W.Frag} {a : Expr} {ta : TE} (hK : X.K = K) (ha : PE X a ta) (he : ∀ whole, isTrue a X.env whole = (do let v ← whole; standAt a.pos; holding [v] (truthy v))) : PT X a (fun σ H Q => ta σ H fun x H' => ∃ k, TruV K x H' k ∧ Q k H') := by
  subst hK
  exact pt_truth ha he
theorem pe_ixK {K : PySem.W.Frag} {a b : Expr} {ta tb : TE} {pos : Pos} {r : PySem.W.Frag → R2} (hK : X.K = K) (hr : IxR X (r X.K)) (ha : PE X a ta) (hb : PE X b tb) (hs : PlainIx b) : PE X (.Subscript a b pos) (tOp (r K) ta tb) := by
  subst hK
  exact pe_ix hr ha hb hs
theorem pe_fldK {K : PySem.W.Frag} {e : Expr} {ta : TE} {f : Str} {pos : Pos} (hK : X.K = K) (he : PE X e ta) (hb : attributeBase e f X.env (eval e X.env) = eval e X.env) : PE X (.Attribute e f pos) (tFld K ta f) := by
  subst hK
  exact pe_fld he hb
theorem seq_tup {K : PySem.W.Frag} {a : Addr} {xs : List V} {H1 : Hp} (h : SqT K H1 a xs) : Seq (Itt K a) H1 xs := by
  have k : ∀ H, Same H1 H → SqT K H a xs := fun H e => by
    rcases h with (h | ⟨o, h⟩) | h
    · exact .inl (.inl (e _ _ h))
    · exact .inl (.inr ⟨o, e _ _ h⟩)
    · exact .inr h
  exact ⟨fun i H e hi => ⟨xs, xs[i], k H e, List.getElem?_eq_getElem hi⟩, fun i H x H' e _ y => ⟨y.1, y.2 xs (k H e)⟩, fun H e => ⟨xs, k H e, Nat.le_refl _⟩⟩
/-! ### the names' values written out anew -/
def tAt (t : TS) : TS := fun D σ H => ∃ σ', σ = σ' ∧ t D σ' H
theorem pss_at {sts : List Stmt} {t : TS} (h : PSs X sts t) : PSs X sts (tAt t) := fun pins s σ H D I hw => by
  obtain ⟨σ', rfl, q⟩ := hw
  exact h pins s σ H D I q
/-! ### classes by isinstance: tuples, lists, texts, numbers, truths, None -/
theorem kit_other {K : PySem.W.Frag} {a b : String} (h1 : (Value.type a == Value.type b) = false) (h2 : PySem.W.kitMeta b = true) (h3 : (fastBuiltinMro a).map (·.contains (Value.type b)) = some false) : PySem.W.kitOne K (.type a) (.type b) = some false := by
  show (if (Value.type a == Value.type b) = true then some true else (if PySem.W.kitMeta b = true then PySem.W.subIn K (.type a) (.type b) else none)) = some false
  rw [h1, if_neg (by decide), if_pos h2]
  exact h3
end
end L2

namespace My
open PySem L2
/-- figures, by their codes; what is a number, what it writes -/
def fig : List Nat := List.range' 48 10
theorem fig_in {c : Nat} (h : c ∈ fig) : 48 ≤ c ∧ c ≤ 57 := by
  have q := List.mem_range'.mp h
  obtain ⟨i, hi, e⟩ := q
  omega
theorem find_fig : ∀ c ∈ fig, Txt.find (Str.ofString "0123456789") ⟨#[c]⟩ = (c : Int) - 48 := by decide +kernel
theorem nought_is : (Str.ofString "0") = (⟨#[48]⟩ : Str) := by decide +kernel
theorem sign_is (c : Nat) : decide (V.str ⟨#[c]⟩ = V.str (Str.ofString "0")) = decide (c = 48) := by
  refine decide_eq_decide.mpr ⟨fun e => ?_, fun e => by rw [e, nought_is]⟩
  rw [nought_is] at e
  injection e with e3
  injection e3 with e4
  have e5 := congrArg Array.toList e4
  exact (List.cons.inj e5).1
def isnum (z : Str) : Bool := decide ((1 : Int) ≤ (z.length : Nat)) && decide (((z.length : Nat) : Int) ≤ 9) && (z.cps.toList.all fun c => decide (c ∈ fig)) && (decide (z = ⟨#[48]⟩) || !decide (z.cps.toList.headD 0 = 48))
def val (z : Str) : Int := ((NumText.digitsVal z.cps.toList : Nat) : Int)
def wr (z : Str) : V := if isnum z = true then .int (val z) else .non
def inNum (z : Str) (lo hi : Int) : V := if (isnum z && decide (lo ≤ val z) && decide (val z ≤ hi)) = true then .int (val z) else .non
theorem isnum_text {z : Str} (h : isnum z = true) (hz : z.length ≤ 400) : PySem.intText? z = some (val z) := by
  unfold isnum at h
  rw [Bool.and_eq_true, Bool.and_eq_true, Bool.and_eq_true] at h
  obtain ⟨⟨⟨h1, h2⟩, h3⟩, _⟩ := h
  have h1' := of_decide_eq_true h1
  refine PySem.intText_digits (fun c hc => ?_) (fun e => ?_) (by omega)
  · exact fig_in (of_decide_eq_true ((List.all_eq_true.mp h3) c hc))
  · have : z.length = 0 := by rw [← len_toList, e]; rfl
    omega
/-- small letters, figures, by their codes -/
def low : List Nat := List.range' 97 26
def good (z : Str) : Bool := decide ((1 : Int) ≤ (z.length : Nat)) && decide (((z.length : Nat) : Int) ≤ 12) && decide (z.cps.toList.headD 0 ∈ low) && z.cps.toList.all fun c => decide (c ∈ low ++ fig)
/-- what is_layout tells of a text -/
def lay (z : Str) : Bool := decide (z = Str.ofString "both") || (Txt.startswith z (Str.ofString "up:") && decide (¬ inNum (Txt.slice z (some 3) none) 2 16 = V.non))
/-- the fifteen texts behind both -/
def goods : List V := (((List.range 15).map fun i => V.int (2 + ((i : Nat) : Int))).filter fun _ => true).map fun v => match v with | .int n => V.str (Str.ofString "up:" ++ Str.ofString (toString n)) | _ => .non
def goodTexts : List Str := (List.range 15).map fun i => Str.ofString "up:" ++ Str.ofString (toString (2 + ((i : Nat) : Int)))
theorem goods_are : goods = goodTexts.map V.str := by
  unfold goods goodTexts
  rw [List.filter_eq_self.mpr (fun _ _ => rfl), List.map_map, List.map_map]
  rfl
theorem goods_flat : ([V.str (Str.ofString "both")] ++ goods).all flatV = true := by
  rw [goods_are]
  exact flat_strs (Str.ofString "both" :: goodTexts)
theorem in_strs (z : Str) : ∀ as : List Str, inV (.str z) (as.map V.str) = decide (z ∈ as)
  | [] => rfl
  | y :: r => by
    have ih := in_strs z r
    unfold inV at ih ⊢
    rw [List.map_cons, List.any_cons, ih]
    show ((y == z) || decide (z ∈ r)) = _
    by_cases e : y = z
    · subst e
      simp
    · have e' : ¬ z = y := fun q => e q.symm
      simp [e, e']
theorem goods_lay : ∀ z ∈ goodTexts, lay z = true := by decide +kernel
theorem two_digits : ∀ c ∈ fig, ∀ d ∈ fig, c ≠ 48 → 2 ≤ (NumText.digitsVal [c, d] : Nat) → (NumText.digitsVal [c, d] : Nat) ≤ 16 → (Str.ofString "up:" ++ ⟨#[c, d]⟩ : Str) ∈ goodTexts := by decide +kernel
theorem one_digit : ∀ c ∈ fig, 2 ≤ (NumText.digitsVal [c] : Nat) → (Str.ofString "up:" ++ ⟨#[c]⟩ : Str) ∈ goodTexts := by decide +kernel
theorem fold_ge : ∀ (r : List Nat) (a : Nat), a * 10 ^ r.length ≤ r.foldl (fun acc c => acc * 10 + (c - 48)) a
  | [], a => by simp
  | c :: r, a => by
    have ih := fold_ge r (a * 10 + (c - 48))
    rw [List.foldl_cons, List.length_cons, Nat.pow_succ]
    refine Nat.le_trans ?_ ih
    have e : a * (10 ^ r.length * 10) = a * 10 * 10 ^ r.length := by rw [Nat.mul_comm (10 ^ r.length) 10, Nat.mul_assoc]
    rw [e]
    exact Nat.mul_le_mul_right _ (Nat.le_add_right _ _)
theorem small_num {z : Str} (hn : isnum z = true) (h1 : (2 : Int) ≤ val z) (h2 : val z ≤ 16) : (Str.ofString "up:" ++ z : Str) ∈ goodTexts := by
  unfold isnum at hn
  rw [Bool.and_eq_true, Bool.and_eq_true, Bool.and_eq_true] at hn
  obtain ⟨⟨⟨a1, a2⟩, a3⟩, a4⟩ := hn
  have dig : ∀ c ∈ z.cps.toList, c ∈ fig := fun c hc => of_decide_eq_true ((List.all_eq_true.mp a3) c hc)
  have ez : z = ⟨z.cps.toList.toArray⟩ := Blk.sg_inj rfl
  unfold val at h1 h2
  cases e : z.cps.toList with
  | nil =>
    have : z.length = 0 := by rw [← len_toList, e]; rfl
    have := of_decide_eq_true a1
    omega
  | cons c r =>
    rw [e] at dig h1 h2 a4
    have hc := dig c List.mem_cons_self
    cases r with
    | nil =>
      rw [ez, e]
      exact one_digit c hc (by omega)
    | cons d r =>
      have c48 : c ≠ 48 := fun q => by
        rw [Bool.or_eq_true] at a4
        rcases a4 with a4 | a4
        · have := congrArg (fun x : Str => x.cps.toList) (of_decide_eq_true a4)
          dsimp only at this
          rw [e] at this
          cases this
        · have := Bool.not_eq_true' _ |>.mp a4
          have := of_decide_eq_false this
          exact this q
      have cr := fig_in hc
      cases r with
      | nil =>
        rw [ez, e]
        exact two_digits c hc d (dig d (List.mem_cons_of_mem _ List.mem_cons_self)) c48 (by omega) (by omega)
      | cons d2 r2 =>
        exfalso
        have g := fold_ge (d :: d2 :: r2) (0 * 10 + (c - 48))
        have e2 : (d :: d2 :: r2).length = r2.length + 2 := rfl
        have p : 1 ≤ 10 ^ r2.length := Nat.one_le_pow _ _ (by decide)
        rw [e2, Nat.pow_add] at g
        have g2 : 1 * (1 * 10 ^ 2) ≤ (0 * 10 + (c - 48)) * (10 ^ r2.length * 10 ^ 2) := Nat.mul_le_mul (by omega) (Nat.mul_le_mul_right _ p)
        have g3 : NumText.digitsVal (c :: d :: d2 :: r2) = (d :: d2 :: r2).foldl (fun acc c => acc * 10 + (c - 48)) (0 * 10 + (c - 48)) := rfl
        omega
theorem starts_is {z : Str} (h : Txt.startswith z (Str.ofString "up:") = true) : z = Str.ofString "up:" ++ Txt.slice z (some 3) none := by
  unfold Txt.startswith at h
  rw [Bool.and_eq_true] at h
  obtain ⟨h1, h2⟩ := h
  have l3 : (Str.ofString "up:").length = 3 := by decide +kernel
  have h1' : 0 + (Str.ofString "up:").length ≤ z.length := of_decide_eq_true h1
  rw [l3] at h1'
  unfold Builtin.Str.subAt at h2
  rw [l3] at h2
  have h3 : z.cps.extract 0 (0 + 3) = (Str.ofString "up:").cps := eq_of_beq h2
  have h4 : (Str.ofString "up:").cps.toList = z.cps.toList.take 3 := by
    rw [← h3]
    simp
  have hl := len_toList z
  have e := PyProof.Rows.slice_from_eq (x := z) (i := 3) (b := (z.length : Nat)) (by decide) (by omega) rfl
  refine Blk.sg_inj ?_
  rw [Blk.sg_app, e]
  show z.cps.toList = (Str.ofString "up:").cps.toList ++ ((z.cps.toList.drop (3 : Int).toNat).take (((z.length : Nat) : Int) - 3).toNat)
  rw [h4, List.take_of_length_le (l := z.cps.toList.drop (3 : Int).toNat)]
  · exact (List.take_append_drop 3 z.cps.toList).symm
  · rw [List.length_drop, hl]
    omega
theorem lay_mem (z : Str) : lay z = decide (z ∈ Str.ofString "both" :: goodTexts) := by
  by_cases m : z ∈ Str.ofString "both" :: goodTexts
  · rw [decide_eq_true m]
    rcases List.mem_cons.mp m with e | m
    · unfold lay
      rw [decide_eq_true e]
      rfl
    · exact goods_lay z m
  · rw [decide_eq_false m]
    unfold lay
    have m1 : ¬ z = Str.ofString "both" := fun e => m (by rw [e]; exact List.mem_cons_self)
    rw [decide_eq_false m1, Bool.false_or]
    cases hs : Txt.startswith z (Str.ofString "up:") with
    | false => rfl
    | true =>
      rw [Bool.true_and]
      refine decide_eq_false fun ne => m (List.mem_cons_of_mem _ ?_)
      have yes : (isnum (Txt.slice z (some 3) none) && decide ((2 : Int) ≤ val (Txt.slice z (some 3) none)) && decide (val (Txt.slice z (some 3) none) ≤ 16)) = true := by
        cases q : (isnum (Txt.slice z (some 3) none) && decide ((2 : Int) ≤ val (Txt.slice z (some 3) none)) && decide (val (Txt.slice z (some 3) none) ≤ 16)) with
        | true => rfl
        | false => exact absurd (if_neg (by rw [q]; decide)) ne
      rw [Bool.and_eq_true, Bool.and_eq_true] at yes
      rw [starts_is hs]
      exact small_num yes.1.1 (of_decide_eq_true yes.1.2) (of_decide_eq_true yes.2)
theorem lay_in (z : Str) : lay z = inV (.str z) ([V.str (Str.ofString "both")] ++ goods) := by
  rw [goods_are]
  exact (lay_mem z).trans (in_strs z (Str.ofString "both" :: goodTexts)).symm
end My

namespace My
open PySem L2
open Blk (sg sg_inj sg_app)
/-! ### parts between a sign c -/
def Jc (c : Nat) : List (List Nat) → List Nat
  | [] => []
  | [x] => x
  | x :: y :: r => x ++ c :: Jc c (y :: r)
def Cc (c : Nat) : List Nat → List (List Nat)
  | [] => [[]]
  | d :: r => if d = c then [] :: Cc c r else match Cc c r with
    | [] => [[d]]
    | p :: ps => (d :: p) :: ps
theorem Cc_free (c : Nat) : ∀ (x : List Nat), c ∉ x → Cc c x = [x]
  | [], _ => rfl
  | d :: r, h => by
    have h1 : ¬ d = c := fun e => h (by rw [e]; exact List.mem_cons_self)
    have ih := Cc_free c r fun m => h (List.mem_cons_of_mem _ m)
    show (if d = c then _ else _) = _
    rw [if_neg h1, ih]
theorem Cc_app (c : Nat) : ∀ (x r : List Nat), c ∉ x → Cc c (x ++ c :: r) = x :: Cc c r
  | [], r, _ => by
    show (if c = c then _ else _) = _
    rw [if_pos rfl]
  | d :: x, r, h => by
    have h1 : ¬ d = c := fun e => h (by rw [e]; exact List.mem_cons_self)
    have ih := Cc_app c x r fun m => h (List.mem_cons_of_mem _ m)
    show (if d = c then _ else match Cc c (x ++ c :: r) with | [] => [[d]] | p :: ps => (d :: p) :: ps) = _
    rw [if_neg h1, ih]
theorem Cc_J (c : Nat) : ∀ (ps : List (List Nat)), ps ≠ [] → (∀ p ∈ ps, c ∉ p) → Cc c (Jc c ps) = ps
  | [], h, _ => absurd rfl h
  | [x], _, h => Cc_free c x (h x List.mem_cons_self)
  | x :: y :: r, _, h => by
    show Cc c (x ++ c :: Jc c (y :: r)) = _
    rw [Cc_app c x _ (h x List.mem_cons_self), Cc_J c (y :: r) (by intro e; cases e) fun p hp => h p (List.mem_cons_of_mem _ hp)]
theorem Jc_join (c : Nat) : ∀ ps : List Str, ps ≠ [] → sg (Str.join ⟨#[c]⟩ ps) = Jc c (ps.map sg)
  | [], h => absurd rfl h
  | [x], _ => rfl
  | x :: y :: r, _ => by
    have ih := Jc_join c (y :: r) (by intro e; cases e)
    show sg (x ++ ⟨#[c]⟩ ++ Str.join ⟨#[c]⟩ (y :: r)) = sg x ++ c :: Jc c ((y :: r).map sg)
    rw [sg_app, sg_app, ih]
    show sg x ++ [c] ++ _ = _
    rw [List.append_assoc] <;> rfl
theorem parts_one (c : Nat) {a b : List Str} (ha : a ≠ []) (hb : b ≠ []) (fa : ∀ p ∈ a, c ∉ sg p) (fb : ∀ p ∈ b, c ∉ sg p) (j : Str.join ⟨#[c]⟩ a = Str.join ⟨#[c]⟩ b) : a = b := by
  have h1 := Cc_J c (a.map sg) (by simpa using ha) (by intro p hp; obtain ⟨q, hq, rfl⟩ := List.mem_map.mp hp; exact fa q hq)
  have h2 := Cc_J c (b.map sg) (by simpa using hb) (by intro p hp; obtain ⟨q, hq, rfl⟩ := List.mem_map.mp hp; exact fb q hq)
  rw [← Jc_join c a ha, j, Jc_join c b hb, h2] at h1
  exact (Blk.map_sg_inj h1).symm
theorem split_ne (z : Str) (c : Nat) : Txt.split z ⟨#[c]⟩ ≠ [] := by
  have q := PyProof.Rows.split_pos z ⟨#[c]⟩
  intro e
  rw [e] at q
  exact absurd q (by decide)
/-- a text joined of parts that are free of the sign is cut into just these -/
theorem split_join (c : Nat) {ps : List Str} (h : ps ≠ []) (hf : ∀ p ∈ ps, c ∉ sg p) : Txt.split (Str.join ⟨#[c]⟩ ps) ⟨#[c]⟩ = ps :=
  parts_one c (split_ne _ c) h (fun p hp => StrLaws.split_free _ c p hp) hf (StrLaws.join_split _ ⟨#[c]⟩)
theorem txt_join (z : Str) (ws : List Str) : Txt.join z ws = Str.join z ws := StrLaws.glued_eq_join z ws
/-! ### beginnings -/
theorem sw_iff (z y : Str) : Txt.startswith z y = true ↔ ∃ n : Str, z = y ++ n := by
  unfold Txt.startswith
  rw [Bool.and_eq_true]
  constructor
  · rintro ⟨h1, h2⟩
    have h1' : 0 + y.length ≤ z.length := of_decide_eq_true h1
    unfold Builtin.Str.subAt at h2
    have h3 : z.cps.extract 0 (0 + y.length) = y.cps := eq_of_beq h2
    have h4 : sg y = (sg z).take y.length := by
      unfold Blk.sg
      rw [← h3]
      simp
    refine ⟨⟨((sg z).drop y.length).toArray⟩, sg_inj ?_⟩
    rw [sg_app, h4]
    show sg z = (sg z).take y.length ++ (sg z).drop y.length
    exact (List.take_append_drop _ _).symm
  · rintro ⟨n, rfl⟩
    have hl : (y ++ n).length = y.length + n.length := len_app y n
    refine ⟨decide_eq_true (by rw [hl]; omega), ?_⟩
    unfold Builtin.Str.subAt
    refine beq_iff_eq.mpr ?_
    apply Array.toList_inj.mp
    show ((y.cps ++ n.cps).extract 0 (0 + y.cps.size)).toList = y.cps.toList
    simp
theorem sw_app (p n : Str) : Txt.startswith (p ++ n) p = true := (sw_iff _ _).mpr ⟨n, rfl⟩
theorem sg_len (z : Str) : (sg z).length = z.length := len_toList z
/-- the beginning of a text that is long enough decides -/
theorem sw_pre {p n q : Str} (h : q.length ≤ p.length) : Txt.startswith (p ++ n) q = Txt.startswith p q := by
  rw [Bool.eq_iff_iff, sw_iff, sw_iff]
  constructor
  · rintro ⟨m, e⟩
    have e2 := congrArg sg e
    rw [sg_app, sg_app] at e2
    have e3 := congrArg (List.take (sg q).length) e2
    rw [List.take_left, List.take_append_of_le_length (by rw [sg_len, sg_len]; exact h)] at e3
    refine ⟨⟨((sg p).drop (sg q).length).toArray⟩, sg_inj ?_⟩
    rw [sg_app]
    show sg p = sg q ++ (sg p).drop (sg q).length
    conv => rhs; rw [← e3]
    rw [List.length_take, Nat.min_eq_left (by rw [sg_len, sg_len]; exact h), List.take_append_drop]
  · rintro ⟨m, rfl⟩
    exact ⟨m ++ n, sg_inj (by rw [sg_app, sg_app, sg_app, sg_app, List.append_assoc])⟩
theorem slice_pre (p n : Str) : Txt.slice (p ++ n) (some ((p.length : Nat) : Int)) none = n := by
  have hl : (p ++ n).length = p.length + n.length := len_app p n
  rw [PyProof.Rows.slice_from_eq (x := p ++ n) (i := ((p.length : Nat) : Int)) (b := (((p ++ n).length : Nat) : Int)) (by omega) (by omega) rfl]
  refine sg_inj ?_
  show ((sg (p ++ n)).drop (((p.length : Nat) : Int)).toNat).take ((((p ++ n).length : Nat) : Int) - ((p.length : Nat) : Int)).toNat = sg n
  have e1 : (((p.length : Nat) : Int)).toNat = (sg p).length := by rw [sg_len]; omega
  rw [sg_app, e1, List.drop_left]
  exact List.take_of_length_le (by rw [sg_len]; omega)
/-! ### numbers written -/
def tn (n : Int) : Str := Str.ofString (toString n)
theorem num_all : ∀ m ∈ List.range 1000, isnum (tn ((m : Nat) : Int)) = true ∧ val (tn ((m : Nat) : Int)) = ((m : Nat) : Int) := by decide +kernel
theorem num_of {n : Int} (h0 : 0 ≤ n) (h1 : n ≤ 999) : isnum (tn n) = true ∧ val (tn n) = n := by
  obtain ⟨m, rfl⟩ := Int.eq_ofNat_of_zero_le h0
  exact num_all m (List.mem_range.mpr (by omega))
theorem inNum_of {n lo hi : Int} (h0 : 0 ≤ n) (h1 : n ≤ 999) (h2 : lo ≤ n) (h3 : n ≤ hi) : inNum (tn n) lo hi = .int n := by
  obtain ⟨a, b⟩ := num_of h0 h1
  unfold inNum
  rw [a, b, decide_eq_true h2, decide_eq_true h3]
  rfl
theorem num_figs {n : Int} (h0 : 0 ≤ n) (h1 : n ≤ 999) : ∀ c ∈ sg (tn n), c ∈ fig := fun c hc => by
  have a := (num_of h0 h1).1
  unfold isnum at a
  rw [Bool.and_eq_true, Bool.and_eq_true] at a
  exact of_decide_eq_true ((List.all_eq_true.mp a.1.2) c hc)
theorem num_len {n : Int} (h0 : 0 ≤ n) (h1 : n ≤ 999) : (tn n).length ≤ 3 := PyProof.Rows.toString_length_le h0 (by decide) (by omega)
end My

namespace My
open PySem L2
open Blk (sg sg_inj sg_app)
/-- what a word tells: a plain value, or a pair of pages -/
inductive VO where
  | v (x : V) | pair (a b : Int)
  deriving DecidableEq
def non : VO := .v .non
abbrev cX : Str := Str.ofString "x"
abbrev cCol : Str := Str.ofString "colour:"
abbrev cPap : Str := Str.ofString "paper:"
abbrev cCov : Str := Str.ofString "cover:"
abbrev cAft : Str := Str.ofString "after:"
abbrev cSta : Str := Str.ofString "staple"
abbrev cLay : Str := Str.ofString "layout"
abbrev cOne : Str := Str.ofString "one"
abbrev cPla : Str := Str.ofString "plain"
abbrev cDash : Str := Str.ofString "-"
abbrev cBlank : Str := Str.ofString " "
/-- the rest of a text behind a beginning -/
def rst (z p : Str) : Str := Txt.slice z (some ((p.length : Nat) : Int)) none
def readCol (span : Str) (pages : Int) : VO := match Txt.split span cDash with
  | [a, b] => (match inNum a 1 pages with
    | .int f => (match inNum b f pages with
      | .int l => .pair f l
      | _ => non)
    | _ => non)
  | _ => non
def three : List Str := [cPap, cCov, cAft]
def four : List Str := [cX, cCol, cPap, cCov]
def valueOf (z : Str) (pages : Int) : VO :=
  if z = cSta then .v (.bl true) else if lay z = true then .v (.str z) else if Txt.startswith z cX = true then .v (inNum (rst z cX) 1 99) else if Txt.startswith z cCol = true then readCol (rst z cCol) pages
  else match three.find? (fun p => Txt.startswith z p && good (rst z p)) with
    | some p => .v (.str (rst z p))
    | none => non
def sortOf (z : Str) : Str := if lay z = true then cLay else (four.find? fun p => Txt.startswith z p).getD z
def readTail (pages : Int) : List Str → Nat → List (Str × VO) → Except Nat (List (Str × VO))
  | [], _, t => .ok t
  | w :: r, p, t => if valueOf w pages = non ∨ sortOf w ∈ t.map (·.1) then .error p else readTail pages r (p + 1) (t ++ [(sortOf w, valueOf w pages)])
def toldV (t : List (Str × VO)) (k : Str) : Option VO := (t.find? fun p => decide (p.1 = k)).map (·.2)
/-- a job as it is read -/
structure JF where
  name : Str
  asker : Str
  pages : Int
  copies : VO
  layout : VO
  paper : VO
  cover : VO
  colour : VO
  staple : VO
  after : List VO
def readHead (ws : List Str) : Except Nat Int :=
  if good (ws.getD 0 cBlank) = false then .error 0 else if ws.length < 2 then .error ws.length else if good (ws.getD 1 cBlank) = false then .error 1 else if ws.length < 3 then .error ws.length else
  match inNum (ws.getD 2 cBlank) 1 999 with
  | .int n => .ok n
  | _ => .error 2
def toldJob (ws : List Str) (pages : Int) (t : List (Str × VO)) : JF :=
  { name := ws.getD 0 cBlank, asker := ws.getD 1 cBlank, pages := pages, copies := (toldV t cX).getD (.v (.int 1)), layout := (toldV t cLay).getD (.v (.str cOne)), paper := (toldV t cPap).getD (.v (.str cPla)), cover := (toldV t cCov).getD non, colour := (toldV t cCol).getD non,
    staple := (toldV t cSta).getD (.v (.bl false)), after := (t.filter fun p => Txt.startswith p.1 cAft).map (·.2) }
def readJ (z : Str) : Except Nat JF := match readHead (Txt.split z cBlank) with
  | .error p => .error p
  | .ok n => match readTail n ((Txt.split z cBlank).drop 3) 3 [] with
    | .error p => .error p
    | .ok t => .ok (toldJob (Txt.split z cBlank) n t)
/-! ### a job's own values -/
structure Jb where
  name : Str
  asker : Str
  pages : Int
  copies : Int
  layout : Str
  paper : Str
  cover : Option Str
  colour : Option (Int × Int)
  staple : Bool
  after : List Str
structure Jb.Ok (j : Jb) : Prop where
  name : good j.name = true
  asker : good j.asker = true
  p0 : 1 ≤ j.pages
  p1 : j.pages ≤ 999
  c0 : 1 ≤ j.copies
  c1 : j.copies ≤ 99
  lay : j.layout ∈ cOne :: Str.ofString "both" :: goodTexts
  paper : good j.paper = true
  cover : ∀ z, j.cover = some z → good z = true
  colour : ∀ a b, j.colour = some (a, b) → 1 ≤ a ∧ a ≤ b ∧ b ≤ j.pages
  after : ∀ z ∈ j.after, good z = true
  nd : j.after.Nodup
  few : j.after.length ≤ 3
def Jb.jf (j : Jb) : JF := { name := j.name, asker := j.asker, pages := j.pages, copies := .v (.int j.copies), layout := .v (.str j.layout), paper := .v (.str j.paper), cover := (match j.cover with | some z => .v (.str z) | none => non), colour := (match j.colour with | some (a, b) => .pair a b | none => non), staple := .v (.bl j.staple), after := j.after.map fun z => .v (.str z) }
/-- the words that may be told: is it, the word, its sort, what it tells -/
def Jb.ents (j : Jb) (told : Bool) : List (Bool × Str × Str × VO) :=
  [(!decide (j.copies = 1) || told, cX ++ tn j.copies, cX, .v (.int j.copies)), (!decide (j.layout = cOne), j.layout, cLay, .v (.str j.layout)),
   (j.colour.isSome, cCol ++ tn (j.colour.getD (1, 1)).1 ++ cDash ++ tn (j.colour.getD (1, 1)).2, cCol, .pair (j.colour.getD (1, 1)).1 (j.colour.getD (1, 1)).2),
   (!decide (j.paper = cPla) || told, cPap ++ j.paper, cPap, .v (.str j.paper)), (j.cover.isSome, cCov ++ j.cover.getD cPla, cCov, .v (.str (j.cover.getD cPla))), (j.staple, cSta, cSta, .v (.bl true))]
def Jb.words (j : Jb) (told : Bool) : List Str := ((j.ents told).filter (·.1)).map (·.2.1)
def Jb.afts (j : Jb) : List Str := j.after.map fun n => cAft ++ n
/-! ### what each word is worth -/
theorem lay_not {p : Str} (z : Str) (h : ∀ y ∈ Str.ofString "both" :: goodTexts, Txt.startswith y p = false) (hz : Txt.startswith z p = true) : lay z = false := by
  rw [lay_mem]
  refine decide_eq_false fun m => ?_
  rw [h z m] at hz
  cases hz
theorem sta_not {p z : Str} (h : Txt.startswith cSta p = false) (hz : Txt.startswith z p = true) : ¬ z = cSta := fun e => by
  rw [e, h] at hz
  cases hz
theorem rst_app (p n : Str) : rst (p ++ n) p = n := slice_pre p n
theorem lX : ∀ y ∈ Str.ofString "both" :: goodTexts, Txt.startswith y cX = false := by decide +kernel
theorem lCol : ∀ y ∈ Str.ofString "both" :: goodTexts, Txt.startswith y cCol = false := by decide +kernel
theorem lPap : ∀ y ∈ Str.ofString "both" :: goodTexts, Txt.startswith y cPap = false := by decide +kernel
theorem lCov : ∀ y ∈ Str.ofString "both" :: goodTexts, Txt.startswith y cCov = false := by decide +kernel
theorem lAft : ∀ y ∈ Str.ofString "both" :: goodTexts, Txt.startswith y cAft = false := by decide +kernel
theorem pre_no {p n q : Str} (h : q.length ≤ p.length) (h2 : Txt.startswith p q = false) : Txt.startswith (p ++ n) q = false := by rw [sw_pre h, h2]
theorem sw_via {z q r : Str} (hq : Txt.startswith q r = true) (hz : Txt.startswith z r = false) : Txt.startswith z q = false := by
  rw [Bool.eq_false_iff]
  intro h
  obtain ⟨m, e⟩ := (sw_iff _ _).mp h
  obtain ⟨m2, e2⟩ := (sw_iff _ _).mp hq
  have : Txt.startswith z r = true := (sw_iff _ _).mpr ⟨m2 ++ m, by rw [e, e2]; exact sg_inj (by rw [sg_app, sg_app, sg_app, sg_app, List.append_assoc])⟩
  rw [hz] at this
  cases this
theorem val_x {n : Str} (pages : Int) : valueOf (cX ++ n) pages = .v (inNum n 1 99) ∧ sortOf (cX ++ n) = cX := by
  have a := sw_app cX n
  have b := lay_not _ lX a
  constructor
  · unfold valueOf
    rw [if_neg (sta_not (by decide +kernel) a), b, if_neg (by decide), if_pos a, rst_app]
  · unfold sortOf four
    rw [b, if_neg (by decide), List.find?_cons_of_pos (h := a)]
    rfl
theorem val_col {n : Str} (pages : Int) : valueOf (cCol ++ n) pages = readCol n pages ∧ sortOf (cCol ++ n) = cCol := by
  have a := sw_app cCol n
  have b := lay_not _ lCol a
  have c : Txt.startswith (cCol ++ n) cX = false := pre_no (by decide +kernel) (by decide +kernel)
  constructor
  · unfold valueOf
    rw [if_neg (sta_not (by decide +kernel) a), b, if_neg (by decide), c, if_neg (by decide), if_pos a, rst_app]
  · unfold sortOf four
    rw [b, if_neg (by decide), List.find?_cons_of_neg (h := by rw [c]; decide), List.find?_cons_of_pos (h := a)]
    rfl
theorem val_pap {n : Str} (pages : Int) (hn : good n = true) : valueOf (cPap ++ n) pages = .v (.str n) ∧ sortOf (cPap ++ n) = cPap := by
  have a := sw_app cPap n
  have b := lay_not _ lPap a
  have c : Txt.startswith (cPap ++ n) cX = false := pre_no (by decide +kernel) (by decide +kernel)
  have d : Txt.startswith (cPap ++ n) cCol = false := sw_via (r := Str.ofString "c") (by decide +kernel) (pre_no (by decide +kernel) (by decide +kernel))
  constructor
  · unfold valueOf three
    rw [if_neg (sta_not (by decide +kernel) a), b, if_neg (by decide), c, if_neg (by decide), d, if_neg (by decide), List.find?_cons_of_pos (h := by rw [a, rst_app, hn]; rfl)]
    show VO.v (.str (rst (cPap ++ n) cPap)) = _
    rw [rst_app]
  · unfold sortOf four
    rw [b, if_neg (by decide), List.find?_cons_of_neg (h := by rw [c]; decide), List.find?_cons_of_neg (h := by rw [d]; decide), List.find?_cons_of_pos (h := a)]
    rfl
theorem val_cov {n : Str} (pages : Int) (hn : good n = true) : valueOf (cCov ++ n) pages = .v (.str n) ∧ sortOf (cCov ++ n) = cCov := by
  have a := sw_app cCov n
  have b := lay_not _ lCov a
  have c : Txt.startswith (cCov ++ n) cX = false := pre_no (by decide +kernel) (by decide +kernel)
  have d : Txt.startswith (cCov ++ n) cCol = false := sw_via (r := Str.ofString "col") (by decide +kernel) (pre_no (by decide +kernel) (by decide +kernel))
  have e : Txt.startswith (cCov ++ n) cPap = false := pre_no (by decide +kernel) (by decide +kernel)
  constructor
  · unfold valueOf three
    rw [if_neg (sta_not (by decide +kernel) a), b, if_neg (by decide), c, if_neg (by decide), d, if_neg (by decide), List.find?_cons_of_neg (h := by rw [e, Bool.false_and]; decide), List.find?_cons_of_pos (h := by rw [a, rst_app, hn]; rfl)]
    show VO.v (.str (rst (cCov ++ n) cCov)) = _
    rw [rst_app]
  · unfold sortOf four
    rw [b, if_neg (by decide), List.find?_cons_of_neg (h := by rw [c]; decide), List.find?_cons_of_neg (h := by rw [d]; decide), List.find?_cons_of_neg (h := by rw [e]; decide), List.find?_cons_of_pos (h := a)]
    rfl
theorem val_aft {n : Str} (pages : Int) (hn : good n = true) : valueOf (cAft ++ n) pages = .v (.str n) ∧ sortOf (cAft ++ n) = cAft ++ n := by
  have a := sw_app cAft n
  have b := lay_not _ lAft a
  have c : Txt.startswith (cAft ++ n) cX = false := pre_no (by decide +kernel) (by decide +kernel)
  have d : Txt.startswith (cAft ++ n) cCol = false := sw_via (r := Str.ofString "c") (by decide +kernel) (pre_no (by decide +kernel) (by decide +kernel))
  have e : Txt.startswith (cAft ++ n) cPap = false := pre_no (by decide +kernel) (by decide +kernel)
  have f : Txt.startswith (cAft ++ n) cCov = false := pre_no (by decide +kernel) (by decide +kernel)
  constructor
  · unfold valueOf three
    rw [if_neg (sta_not (by decide +kernel) a), b, if_neg (by decide), c, if_neg (by decide), d, if_neg (by decide), List.find?_cons_of_neg (h := by rw [e, Bool.false_and]; decide), List.find?_cons_of_neg (h := by rw [f, Bool.false_and]; decide), List.find?_cons_of_pos (h := by rw [a, rst_app, hn]; rfl)]
    show VO.v (.str (rst (cAft ++ n) cAft)) = _
    rw [rst_app]
  · unfold sortOf four
    rw [b, if_neg (by decide), List.find?_cons_of_neg (h := by rw [c]; decide), List.find?_cons_of_neg (h := by rw [d]; decide), List.find?_cons_of_neg (h := by rw [e]; decide), List.find?_cons_of_neg (h := by rw [f]; decide)]
    rfl
theorem val_sta (pages : Int) : valueOf cSta pages = .v (.bl true) ∧ sortOf cSta = cSta := by
  constructor
  · unfold valueOf
    rw [if_pos rfl]
  · decide +kernel
theorem val_lay {z : Str} (pages : Int) (h : z ∈ Str.ofString "both" :: goodTexts) : valueOf z pages = .v (.str z) ∧ sortOf z = cLay := by
  have b : lay z = true := by rw [lay_mem, decide_eq_true h]
  have c : ¬ z = cSta := fun e => by
    rw [e] at b
    exact absurd b (by decide +kernel)
  constructor
  · unfold valueOf
    rw [if_neg c, if_pos b]
  · unfold sortOf
    rw [if_pos b]
theorem dash_is : cDash = (⟨#[45]⟩ : Str) := by decide +kernel
theorem blank_eq : cBlank = (⟨#[32]⟩ : Str) := by decide +kernel
theorem figs_no {c : Nat} (h : c < 48) (z : Str) (hz : ∀ d ∈ sg z, d ∈ fig) : c ∉ sg z := fun m => by
  have := (fig_in (hz c m)).1
  omega
theorem col_of {a b pages : Int} (h0 : 1 ≤ a) (h1 : a ≤ b) (h2 : b ≤ pages) (h3 : pages ≤ 999) : readCol (tn a ++ cDash ++ tn b) pages = .pair a b := by
  have e : Txt.split (tn a ++ cDash ++ tn b) cDash = [tn a, tn b] := by
    have q := split_join 45 (ps := [tn a, tn b]) (by simp) (fun p hp => by
      rcases List.mem_cons.mp hp with e | hp
      · rw [e]; exact figs_no (by decide) _ (num_figs (by omega) (by omega))
      · rw [List.mem_singleton.mp hp]; exact figs_no (by decide) _ (num_figs (by omega) (by omega)))
    rw [dash_is]
    exact q
  unfold readCol
  rw [e]
  dsimp only
  rw [inNum_of (by omega) (by omega) h0 (by omega)]
  dsimp only
  rw [inNum_of (by omega) (by omega) h1 h2]
end My

namespace My
open PySem L2
open Blk (sg sg_inj sg_app)
/-- a word that is told is worth what its row says -/
theorem ent_ok {j : Jb} (J : j.Ok) (told : Bool) : ∀ e ∈ j.ents told, e.1 = true → valueOf e.2.1 j.pages = e.2.2.2 ∧ sortOf e.2.1 = e.2.2.1 ∧ e.2.2.2 ≠ non := by
  intro e he h1
  unfold Jb.ents at he
  rcases List.mem_cons.mp he with rfl | he
  · obtain ⟨a, b⟩ := val_x (n := tn j.copies) j.pages
    refine ⟨?_, b, by intro z; cases z⟩
    rw [a, inNum_of (by have := J.c0; omega) (by have := J.c1; omega) J.c0 J.c1]
  rcases List.mem_cons.mp he with rfl | he
  · have hn : ¬ j.layout = cOne := by
      intro z
      rw [decide_eq_true z] at h1
      cases h1
    obtain ⟨a, b⟩ := val_lay j.pages ((List.mem_cons.mp J.lay).resolve_left hn)
    exact ⟨a, b, by intro z; cases z⟩
  rcases List.mem_cons.mp he with rfl | he
  · obtain ⟨⟨x, y⟩, e⟩ := Option.isSome_iff_exists.mp h1
    obtain ⟨c1, c2, c3⟩ := J.colour x y e
    dsimp only
    rw [e]
    show valueOf (cCol ++ tn x ++ cDash ++ tn y) j.pages = VO.pair x y ∧ sortOf (cCol ++ tn x ++ cDash ++ tn y) = cCol ∧ _
    have e2 : cCol ++ tn x ++ cDash ++ tn y = cCol ++ (tn x ++ cDash ++ tn y) := sg_inj (by simp only [sg_app, List.append_assoc])
    obtain ⟨a, b⟩ := val_col (n := tn x ++ cDash ++ tn y) j.pages
    rw [e2]
    exact ⟨by rw [a]; exact col_of c1 c2 c3 J.p1, b, by intro z; cases z⟩
  rcases List.mem_cons.mp he with rfl | he
  · obtain ⟨a, b⟩ := val_pap j.pages J.paper
    exact ⟨a, b, by intro z; cases z⟩
  rcases List.mem_cons.mp he with rfl | he
  · obtain ⟨z, e⟩ := Option.isSome_iff_exists.mp h1
    dsimp only
    rw [e]
    obtain ⟨a, b⟩ := val_cov j.pages (J.cover z e)
    exact ⟨a, b, by intro z; cases z⟩
  · have := List.mem_singleton.mp he
    subst this
    obtain ⟨a, b⟩ := val_sta j.pages
    exact ⟨a, b, by intro z; cases z⟩
def sorts : List Str := [cX, cLay, cCol, cPap, cCov, cSta]
theorem ents_sorts (j : Jb) (told : Bool) : (j.ents told).map (·.2.2.1) = sorts := rfl
theorem sorts_nd : sorts.Nodup := by decide +kernel
theorem sorts_not : ∀ s ∈ sorts, Txt.startswith s cAft = false := by decide +kernel
theorem words_sorts {j : Jb} (J : j.Ok) (told : Bool) : (j.words told).map sortOf = ((j.ents told).filter (·.1)).map (·.2.2.1) := by
  unfold Jb.words
  rw [List.map_map]
  refine List.map_congr_left fun e he => ?_
  obtain ⟨h1, h2⟩ := List.mem_filter.mp he
  exact (ent_ok J told e h1 h2).2.1
theorem afts_sorts {j : Jb} (J : j.Ok) : j.afts.map sortOf = j.afts := by
  unfold Jb.afts
  rw [List.map_map]
  exact List.map_congr_left fun n hn => (val_aft j.pages (J.after n hn)).2
theorem app_inj {p a b : Str} (h : p ++ a = p ++ b) : a = b := sg_inj (List.append_cancel_left (by have := congrArg sg h; rwa [sg_app, sg_app] at this))
theorem all_nd {j : Jb} (J : j.Ok) (told : Bool) : ((j.words told ++ j.afts).map sortOf).Nodup := by
  rw [List.map_append, words_sorts J, afts_sorts J]
  have sub : (((j.ents told).filter (·.1)).map (·.2.2.1)).Sublist sorts := by
    rw [← ents_sorts j told]
    exact List.filter_sublist.map _
  refine List.nodup_append.mpr ⟨sorts_nd.sublist sub, ?_, ?_⟩
  · unfold Jb.afts
    exact List.Pairwise.map _ (fun a b h e => h (app_inj e)) J.nd
  · intro a ha b hb e
    have h1 := sorts_not a (sub.subset ha)
    obtain ⟨n, _, rfl⟩ := List.mem_map.mp hb
    rw [e, sw_app] at h1
    cases h1
/-- every word that is told is right -/
theorem all_right {j : Jb} (J : j.Ok) (told : Bool) : ∀ w ∈ j.words told ++ j.afts, valueOf w j.pages ≠ non := by
  intro w hw
  rcases List.mem_append.mp hw with h | h
  · obtain ⟨e, he, rfl⟩ := List.mem_map.mp h
    obtain ⟨h1, h2⟩ := List.mem_filter.mp he
    obtain ⟨a, _, c⟩ := ent_ok J told e h1 h2
    rw [a]
    exact c
  · obtain ⟨n, hn, rfl⟩ := List.mem_map.mp h
    rw [(val_aft j.pages (J.after n hn)).1]
    intro z
    cases z
def told (pages : Int) (M : List Str) : List (Str × VO) := M.map fun w => (sortOf w, valueOf w pages)
theorem tail_ok (pages : Int) : ∀ (M : List Str) (p : Nat) (t : List (Str × VO)), (∀ w ∈ M, valueOf w pages ≠ non) → (t.map (·.1) ++ M.map sortOf).Nodup → readTail pages M p t = .ok (t ++ told pages M)
  | [], p, t, _, _ => by
    show Except.ok t = _
    rw [told, List.map_nil, List.append_nil]
  | w :: r, p, t, h, nd => by
    have h1 : ¬ (valueOf w pages = non ∨ sortOf w ∈ t.map (·.1)) := by
      rintro (a | a)
      · exact h w List.mem_cons_self a
      · have := (List.nodup_append.mp nd).2.2 _ a _ (List.mem_cons_self (a := sortOf w) (l := r.map sortOf))
        exact this rfl
    have ih := tail_ok pages r (p + 1) (t ++ [(sortOf w, valueOf w pages)]) (fun v hv => h v (List.mem_cons_of_mem _ hv)) (by
      rw [List.map_append, List.append_assoc]
      exact nd)
    show (if _ then _ else _) = _
    rw [if_neg h1, ih, List.append_assoc]
    rfl
theorem told_in (pages : Int) : ∀ (M : List Str), (M.map sortOf).Nodup → ∀ w ∈ M, toldV (told pages M) (sortOf w) = some (valueOf w pages)
  | [], _, w, h => by cases h
  | v :: r, nd, w, h => by
    obtain ⟨n1, n2⟩ := List.nodup_cons.mp (show (sortOf v :: r.map sortOf).Nodup from nd)
    unfold toldV told
    rw [List.map_cons]
    by_cases e : sortOf v = sortOf w
    · rw [List.find?_cons_of_pos (h := by exact decide_eq_true e)]
      rcases List.mem_cons.mp h with rfl | h
      · rfl
      · exact absurd (by rw [e]; exact List.mem_map_of_mem h) n1
    · rw [List.find?_cons_of_neg (h := by rw [decide_eq_false e]; decide)]
      rcases List.mem_cons.mp h with rfl | h
      · exact absurd rfl e
      · exact told_in pages r n2 w h
theorem told_out (pages : Int) (k : Str) : ∀ (M : List Str), (∀ w ∈ M, ¬ sortOf w = k) → toldV (told pages M) k = none
  | [], _ => rfl
  | v :: r, h => by
    unfold toldV told
    rw [List.map_cons, List.find?_cons_of_neg (h := by rw [decide_eq_false (h v List.mem_cons_self)]; decide)]
    exact told_out pages k r fun w hw => h w (List.mem_cons_of_mem _ hw)
/-- the words behind the head, mixed: those of the sorts in any order, those after which it comes in theirs -/
structure Mix (ws as M : List Str) : Prop where
  perm : M.Perm (ws ++ as)
  afts : (M.filter fun w => Txt.startswith w cAft) = as
theorem ent_told {j : Jb} (J : j.Ok) {b : Bool} {M : List Str} (X : Mix (j.words b) j.afts M) : ∀ e ∈ j.ents b, toldV (told j.pages M) e.2.2.1 = if e.1 = true then some e.2.2.2 else none := by
  intro e he
  have nd : (M.map sortOf).Nodup := (X.perm.map sortOf).nodup_iff.mpr (all_nd J b)
  by_cases h1 : e.1 = true
  · rw [if_pos h1]
    obtain ⟨a, c, _⟩ := ent_ok J b e he h1
    have hm : e.2.1 ∈ M := X.perm.mem_iff.mpr (List.mem_append_left _ (List.mem_map.mpr ⟨e, List.mem_filter.mpr ⟨he, h1⟩, rfl⟩))
    rw [← c, told_in j.pages M nd _ hm, a]
  · rw [if_neg h1]
    refine told_out _ _ _ fun w hw hs => ?_
    rcases List.mem_append.mp (X.perm.mem_iff.mp hw) with h | h
    · obtain ⟨e2, he2, rfl⟩ := List.mem_map.mp h
      obtain ⟨g1, g2⟩ := List.mem_filter.mp he2
      rw [(ent_ok J b e2 g1 g2).2.1] at hs
      have nd2 : ((j.ents b).map (·.2.2.1)).Nodup := by rw [ents_sorts]; exact sorts_nd
      have same : e2 = e := by
        have key : ∀ (l : List (Bool × Str × Str × VO)), (l.map (·.2.2.1)).Nodup → ∀ x ∈ l, ∀ y ∈ l, x.2.2.1 = y.2.2.1 → x = y := by
          intro l
          induction l with
          | nil => intro _ x hx; cases hx
          | cons a r ih =>
            intro nd x hx y hy e
            obtain ⟨n1, n2⟩ := List.nodup_cons.mp (show (a.2.2.1 :: r.map (·.2.2.1)).Nodup from nd)
            rcases List.mem_cons.mp hx with hx | hx <;> rcases List.mem_cons.mp hy with hy | hy
            · rw [hx, hy]
            · exact absurd (by rw [← hx, e]; exact List.mem_map_of_mem (f := fun z : Bool × Str × Str × VO => z.2.2.1) hy) n1
            · exact absurd (by rw [← hy, ← e]; exact List.mem_map_of_mem (f := fun z : Bool × Str × Str × VO => z.2.2.1) hx) n1
            · exact ih n2 x hx y hy e
        exact key _ nd2 e2 g1 e he hs
      rw [same] at g2
      exact h1 g2
    · obtain ⟨n, hn, rfl⟩ := List.mem_map.mp h
      rw [(val_aft j.pages (J.after n hn)).2] at hs
      have : e.2.2.1 ∈ sorts := by rw [← ents_sorts j b]; exact List.mem_map_of_mem (f := fun z : Bool × Str × Str × VO => z.2.2.1) he
      have q := sorts_not _ this
      rw [← hs, sw_app] at q
      cases q
theorem low_no32 : 32 ∉ low ++ fig := by decide +kernel
theorem good_free {z : Str} (h : good z = true) : 32 ∉ sg z := fun m => by
  unfold good at h
  rw [Bool.and_eq_true] at h
  exact low_no32 (of_decide_eq_true ((List.all_eq_true.mp h.2) 32 m))
theorem app_free {a b : Str} (h1 : 32 ∉ sg a) (h2 : 32 ∉ sg b) : 32 ∉ sg (a ++ b) := by
  rw [sg_app, List.mem_append]
  exact fun h => h.elim h1 h2
theorem num_free {n : Int} (h0 : 0 ≤ n) (h1 : n ≤ 999) : 32 ∉ sg (tn n) := figs_no (by decide) _ (num_figs h0 h1)
theorem lay_free : ∀ z ∈ cOne :: Str.ofString "both" :: goodTexts, 32 ∉ sg z := by decide +kernel
theorem all_free {j : Jb} (J : j.Ok) (b : Bool) : ∀ w ∈ j.words b ++ j.afts, 32 ∉ sg w := by
  intro w hw
  rcases List.mem_append.mp hw with h | h
  · obtain ⟨e, he, rfl⟩ := List.mem_map.mp h
    obtain ⟨he, h1⟩ := List.mem_filter.mp he
    unfold Jb.ents at he
    rcases List.mem_cons.mp he with rfl | he
    · exact app_free (by decide +kernel) (num_free (by have := J.c0; omega) (by have := J.c1; omega))
    rcases List.mem_cons.mp he with rfl | he
    · exact lay_free _ J.lay
    rcases List.mem_cons.mp he with rfl | he
    · obtain ⟨⟨x, y⟩, e⟩ := Option.isSome_iff_exists.mp h1
      obtain ⟨c1, c2, c3⟩ := J.colour x y e
      have := J.p1
      dsimp only
      rw [e]
      exact app_free (app_free (app_free (by decide +kernel) (num_free (by show 0 ≤ x; omega) (by show x ≤ 999; omega))) (by decide +kernel)) (num_free (by show 0 ≤ y; omega) (by show y ≤ 999; omega))
    rcases List.mem_cons.mp he with rfl | he
    · exact app_free (by decide +kernel) (good_free J.paper)
    rcases List.mem_cons.mp he with rfl | he
    · obtain ⟨z, e⟩ := Option.isSome_iff_exists.mp h1
      dsimp only
      rw [e]
      exact app_free (by decide +kernel) (good_free (J.cover z e))
    · have := List.mem_singleton.mp he
      subst this
      show 32 ∉ sg cSta
      decide +kernel
  · obtain ⟨n, hn, rfl⟩ := List.mem_map.mp h
    exact app_free (by decide +kernel) (good_free (J.after n hn))
def Jb.head (j : Jb) : List Str := [j.name, j.asker, tn j.pages]
/-- a job's line, read, is the job -/
theorem read_line {j : Jb} (J : j.Ok) {b : Bool} {M : List Str} (X : Mix (j.words b) j.afts M) : readJ (Str.join cBlank (j.head ++ M)) = .ok j.jf := by
  have fr : ∀ p ∈ j.head ++ M, 32 ∉ sg p := fun p hp => by
    rcases List.mem_append.mp hp with h | h
    · unfold Jb.head at h
      rcases List.mem_cons.mp h with rfl | h
      · exact good_free J.name
      rcases List.mem_cons.mp h with rfl | h
      · exact good_free J.asker
      · rw [List.mem_singleton.mp h]; exact num_free (by have := J.p0; omega) J.p1
    · exact all_free J b p (X.perm.mem_iff.mp h)
  have sp : Txt.split (Str.join cBlank (j.head ++ M)) cBlank = j.head ++ M := by
    have q := split_join 32 (ps := j.head ++ M) (by intro e; cases e) fr
    rw [blank_eq]
    exact q
  have hd : readHead (j.head ++ M) = .ok j.pages := by
    unfold readHead Jb.head
    show (if good j.name = false then _ else if (j.name :: j.asker :: tn j.pages :: M).length < 2 then _ else if good j.asker = false then _ else if (j.name :: j.asker :: tn j.pages :: M).length < 3 then _ else match inNum (tn j.pages) 1 999 with | .int n => Except.ok n | _ => .error 2) = _
    rw [J.name, J.asker, if_neg (by decide), if_neg (by simp), if_neg (by decide), if_neg (by simp), inNum_of (by have := J.p0; omega) J.p1 J.p0 J.p1]
  have tl : readTail j.pages ((j.head ++ M).drop 3) 3 [] = .ok (told j.pages M) := by
    have e : (j.head ++ M).drop 3 = M := rfl
    rw [e, tail_ok j.pages M 3 [] (fun w hw => all_right J b w (X.perm.mem_iff.mp hw)) ((X.perm.map sortOf).nodup_iff.mpr (all_nd J b))]
    rfl
  unfold readJ
  rw [sp, hd]
  dsimp only
  rw [tl]
  dsimp only
  have E := ent_told J X
  unfold Jb.ents at E
  have e1 := E _ List.mem_cons_self
  have e2 := E _ (List.mem_cons_of_mem _ List.mem_cons_self)
  have e3 := E _ (List.mem_cons_of_mem _ (List.mem_cons_of_mem _ List.mem_cons_self))
  have e4 := E _ (List.mem_cons_of_mem _ (List.mem_cons_of_mem _ (List.mem_cons_of_mem _ List.mem_cons_self)))
  have e5 := E _ (List.mem_cons_of_mem _ (List.mem_cons_of_mem _ (List.mem_cons_of_mem _ (List.mem_cons_of_mem _ List.mem_cons_self))))
  have e6 := E _ (List.mem_cons_of_mem _ (List.mem_cons_of_mem _ (List.mem_cons_of_mem _ (List.mem_cons_of_mem _ (List.mem_cons_of_mem _ List.mem_cons_self)))))
  have e7 : ((told j.pages M).filter fun p => Txt.startswith p.1 cAft).map (·.2) = j.after.map fun z => VO.v (.str z) := by
    have s : ∀ w ∈ M, Txt.startswith (sortOf w) cAft = Txt.startswith w cAft := fun w hw => by
      rcases List.mem_append.mp (X.perm.mem_iff.mp hw) with h | h
      · obtain ⟨e, he, rfl⟩ := List.mem_map.mp h
        obtain ⟨g1, g2⟩ := List.mem_filter.mp he
        have hs := (ent_ok J b e g1 g2).2.1
        have : e.2.2.1 ∈ sorts := by rw [← ents_sorts j b]; exact List.mem_map_of_mem (f := fun z : Bool × Str × Str × VO => z.2.2.1) g1
        rw [hs, sorts_not _ this]
        refine (Bool.eq_false_iff.mpr fun t => ?_).symm
        -- a word of a sort that begins so would be among those after which it comes
        have inA : e.2.1 ∈ M.filter fun w => Txt.startswith w cAft := List.mem_filter.mpr ⟨hw, t⟩
        rw [X.afts] at inA
        obtain ⟨n, hn, en⟩ := List.mem_map.mp inA
        have q := (val_aft j.pages (J.after n hn)).2
        rw [en, hs] at q
        have r := sorts_not _ this
        rw [q, t] at r
        cases r
      · obtain ⟨n, hn, rfl⟩ := List.mem_map.mp h
        rw [(val_aft j.pages (J.after n hn)).2]
    unfold told
    rw [List.filter_map, List.map_map]
    have e8 : (M.filter ((fun p : Str × VO => Txt.startswith p.1 cAft) ∘ fun w => (sortOf w, valueOf w j.pages))) = M.filter fun w => Txt.startswith w cAft := List.filter_congr fun w hw => s w hw
    rw [e8, X.afts]
    unfold Jb.afts
    rw [List.map_map]
    exact List.map_congr_left fun n hn => (val_aft j.pages (J.after n hn)).1
  unfold toldJob
  dsimp only at e1 e2 e3 e4 e5 e6
  rw [e1, e2, e3, e4, e5, e6, e7]
  unfold Jb.jf
  congr 1
  congr 1
  · cases hc : decide (j.copies = 1) with
    | true => cases b <;> simp [of_decide_eq_true hc]
    | false => simp
  · cases hc : decide (j.layout = cOne) with
    | true => simp [of_decide_eq_true hc]
    | false => simp
  · cases hc : decide (j.paper = cPla) with
    | true => cases b <;> simp [of_decide_eq_true hc]
    | false => simp
  · cases j.cover <;> rfl
  · cases j.colour <;> rfl
  · cases j.staple <;> rfl
end My

namespace My
open PySem L2
open Blk (sg sg_inj sg_app)
/-! ### what stands for a word's worth on the heap -/
def HoldsV (H : Hp) (x : V) : VO → Prop
  | .v y => x = y
  | .pair a b => ∃ p, x = .ref p ∧ H p = some (.tup [.int a, .int b])
theorem HoldsV.same {H H' : Hp} {x : V} {o : VO} (h : HoldsV H x o) (e : Same H H') : HoldsV H' x o := by
  cases o with
  | v y => exact h
  | pair a b => obtain ⟨p, h1, h2⟩ := h; exact ⟨p, h1, e _ _ h2⟩
theorem HoldsV.upd {H : Hp} {x : V} {o : VO} {D : Addr} {kvs : List (Key × V)} {u : HO} (h : HoldsV H x o) (hD : H D = some (.dK kvs)) : HoldsV (L2.upd H D u) x o := by
  cases o with
  | v y => exact h
  | pair a b =>
    obtain ⟨p, h1, h2⟩ := h
    exact ⟨p, h1, by rw [upd_ne (ne_of h2 hD (by intro z; cases z))]; exact h2⟩
theorem HoldsV.non_iff {H : Hp} {x : V} {o : VO} (h : HoldsV H x o) : decide (x = .non) = decide (o = non) := by
  refine decide_eq_decide.mpr ?_
  cases o with
  | v y =>
    have h' : x = y := h
    subst h'
    exact ⟨fun e => congrArg VO.v e, fun e => by injection e⟩
  | pair a b =>
    obtain ⟨p, h1, h2⟩ := h
    exact ⟨(fun e => by rw [h1] at e; cases e), (fun e => by cases e)⟩
/-- the dict of what was told -/
def TR (H : Hp) (q : Key × V) (p : Str × VO) : Prop := q.1 = Sum.inr p.1 ∧ HoldsV H q.2 p.2
structure Told (H : Hp) (D : Addr) (kvs : List (Key × V)) (t : List (Str × VO)) : Prop where
  at_ : H D = some (.dK kvs)
  rel : Paired (TR H) kvs t
  nd : (t.map (·.1)).Nodup
theorem Told.look {H : Hp} {D : Addr} {kvs : List (Key × V)} {t : List (Str × VO)} (T : Told H D kvs t) (k : Str) : match valV kvs (Sum.inr k : Key), toldV t k with | some x, some o => HoldsV H x o | none, none => True | _, _ => False := by
  have key : ∀ {kvs : List (Key × V)} {t : List (Str × VO)}, Paired (TR H) kvs t → match valV kvs (Sum.inr k : Key), toldV t k with | some x, some o => HoldsV H x o | none, none => True | _, _ => False := by
    intro kvs t r
    induction r with
    | nil => trivial
    | @cons q p kvs t h r ih =>
      obtain ⟨h1, h2⟩ := h
      by_cases e : p.1 = k
      · rw [valV_pos (by rw [h1, e])]
        unfold toldV
        rw [List.find?_cons_of_pos (h := by exact decide_eq_true e)]
        exact h2
      · rw [valV_neg (by rw [h1]; intro z; injection z with z; exact e z)]
        unfold toldV
        rw [List.find?_cons_of_neg (h := by rw [decide_eq_false e]; decide)]
        exact ih
  exact key T.rel
theorem Told.some_ {H : Hp} {D : Addr} {kvs : List (Key × V)} {t : List (Str × VO)} (T : Told H D kvs t) (k : Str) {d : V} {o : VO} (hd : HoldsV H d o) : HoldsV H ((valV kvs (Sum.inr k : Key)).getD d) ((toldV t k).getD o) := by
  have q := T.look k
  cases e1 : valV kvs (Sum.inr k : Key) with
  | none =>
    cases e2 : toldV t k with
    | none => exact hd
    | some o => rw [e1, e2] at q; exact q.elim
  | some x =>
    cases e2 : toldV t k with
    | none => rw [e1, e2] at q; exact q.elim
    | some o => rw [e1, e2] at q; exact q
theorem Told.has {H : Hp} {D : Addr} {kvs : List (Key × V)} {t : List (Str × VO)} (T : Told H D kvs t) (k : Str) : (valV kvs (Sum.inr k : Key)).isSome = decide (k ∈ t.map (·.1)) := by
  have q := T.look k
  cases e2 : toldV t k with
  | none =>
    have nm : k ∉ t.map (·.1) := fun m => by
      obtain ⟨p, hp, rfl⟩ := List.mem_map.mp m
      unfold toldV at e2
      rw [Option.map_eq_none_iff] at e2
      have := List.find?_eq_none.mp e2 p hp
      exact this (decide_eq_true rfl)
    rw [decide_eq_false nm]
    cases e1 : valV kvs (Sum.inr k : Key) with
    | none => rfl
    | some x => rw [e1, e2] at q; exact q.elim
  | some o =>
    have m : k ∈ t.map (·.1) := by
      unfold toldV at e2
      obtain ⟨p, hp, _⟩ := Option.map_eq_some_iff.mp e2
      exact List.mem_map.mpr ⟨p, List.mem_of_find?_eq_some hp, by have q := List.find?_some hp; exact of_decide_eq_true q⟩
    rw [decide_eq_true m]
    cases e1 : valV kvs (Sum.inr k : Key) with
    | none => rw [e1, e2] at q; exact q.elim
    | some x => rfl
theorem Told.same {H H' : Hp} {D : Addr} {kvs : List (Key × V)} {t : List (Str × VO)} (T : Told H D kvs t) (e : Same H H') : Told H' D kvs t := ⟨e _ _ T.at_, Paired.mapP T.rel fun _ _ h => ⟨h.1, h.2.same e⟩, T.nd⟩
theorem paired_snoc {α β : Type} {R : α → β → Prop} : ∀ {xs : List α} {ys : List β} {x : α} {y : β}, Paired R xs ys → R x y → Paired R (xs ++ [x]) (ys ++ [y])
  | _, _, _, _, .nil, h => .cons h .nil
  | _, _, _, _, .cons a b, h => .cons a (paired_snoc b h)
theorem Told.put {H : Hp} {D : Addr} {kvs : List (Key × V)} {t : List (Str × VO)} (T : Told H D kvs t) {k : Str} {x : V} {o : VO} (hx : HoldsV H x o) (hn : valV kvs (Sum.inr k : Key) = none) :
    Told (upd H D (.dK (putK kvs (Sum.inr k) x))) D (kvs ++ [(Sum.inr k, x)]) (t ++ [(k, o)]) := by
  have hk : k ∉ t.map (·.1) := fun m => by
    have q := T.has k
    rw [hn, decide_eq_true m] at q
    cases q
  refine ⟨?_, ?_, by rw [List.map_append]; exact nd_snoc T.nd hk⟩
  · rw [upd_same, putK_new x hn]
  · exact paired_snoc (Paired.mapP T.rel fun _ _ h => ⟨h.1, h.2.upd T.at_⟩) ⟨rfl, hx.upd T.at_⟩
theorem Told.keys {H : Hp} {kvs : List (Key × V)} {t : List (Str × VO)} (r : Paired (TR H) kvs t) : kvs.map (·.1) = (t.map (·.1)).map Sum.inr := by
  induction r with
  | nil => rfl
  | cons h r ih => rw [List.map_cons, List.map_cons, List.map_cons, ih, h.1]
theorem val_mem : ∀ {kvs : List (Key × V)}, (kvs.map (·.1)).Nodup → ∀ q ∈ kvs, valV kvs q.1 = some q.2
  | [], _, q, h => by cases h
  | p :: r, nd, q, h => by
    obtain ⟨n1, n2⟩ := List.nodup_cons.mp (show (p.1 :: r.map (·.1)).Nodup from nd)
    rcases List.mem_cons.mp h with rfl | h
    · exact valV_pos rfl
    · rw [valV_neg fun e => n1 (by rw [e]; exact List.mem_map_of_mem (f := fun z : Key × V => z.1) h)]
      exact val_mem n2 q h
def luV (kvs : List (Key × V)) : V → V
  | .str s => (valV kvs (Sum.inr s : Key)).getD .non
  | _ => .non
def afterP : V → Bool
  | .str x => Txt.startswith x cAft
  | _ => false
theorem Told.after {H : Hp} {D : Addr} {kvs : List (Key × V)} {t : List (Str × VO)} (T : Told H D kvs t) (g : V → V) (hg : ∀ q ∈ kvs, g (kV q.1) = q.2) :
    Paired (fun a o => HoldsV H a o) (((kvs.map fun p => kV p.1).filter afterP).map g) ((t.filter fun p => Txt.startswith p.1 cAft).map (·.2)) := by
  rw [List.filter_map, List.map_map]
  have e : (kvs.filter (afterP ∘ fun p => kV p.1)).map (g ∘ fun p => kV p.1) = (kvs.filter (afterP ∘ fun p => kV p.1)).map (·.2) := List.map_congr_left fun q hq => hg q (List.mem_filter.mp hq).1
  rw [e]
  clear e hg
  have key : ∀ {kvs : List (Key × V)} {t : List (Str × VO)}, Paired (TR H) kvs t → Paired (fun a o => HoldsV H a o) ((kvs.filter (afterP ∘ fun p => kV p.1)).map (·.2)) ((t.filter fun p => Txt.startswith p.1 cAft).map (·.2)) := by
    intro kvs t r
    induction r with
    | nil => exact .nil
    | @cons q p kvs t h r ih =>
      obtain ⟨h1, h2⟩ := h
      have e1 : (afterP ∘ fun p : Key × V => kV p.1) q = Txt.startswith p.1 cAft := by
        show afterP (kV q.1) = _
        rw [h1]
        rfl
      cases hs : Txt.startswith p.1 cAft with
      | true =>
        rw [List.filter_cons_of_pos (by rw [e1, hs]), List.filter_cons_of_pos (by exact hs)]
        exact .cons h2 ih
      | false =>
        rw [List.filter_cons_of_neg (by rw [e1, hs]; decide), List.filter_cons_of_neg (by rw [hs]; decide)]
        exact ih
  exact key T.rel
theorem Told.nodup {H : Hp} {D : Addr} {kvs : List (Key × V)} {t : List (Str × VO)} (T : Told H D kvs t) : (kvs.map (·.1)).Nodup := by
  rw [Told.keys T.rel]
  exact List.Pairwise.map _ (fun a b h e => h (by injection e)) T.nd
theorem Told.len {H : Hp} {D : Addr} {kvs : List (Key × V)} {t : List (Str × VO)} (T : Told H D kvs t) : kvs.length = t.length := Paired.length T.rel
theorem tail_steps (n : Int) : ∀ (M : List Str) (p : Nat) (t0 t : List (Str × VO)), readTail n M p t0 = .ok t → t = t0 ++ told n M ∧ ∀ i w, M[i]? = some w → valueOf w n ≠ non ∧ sortOf w ∉ (t0 ++ told n (M.take i)).map (·.1)
  | [], p, t0, t, h => by
    injection h with h
    refine ⟨by rw [← h]; simp [told], fun i w e => by simp at e⟩
  | v :: r, p, t0, t, h => by
    have h' : (if valueOf v n = non ∨ sortOf v ∈ t0.map (·.1) then Except.error p else readTail n r (p + 1) (t0 ++ [(sortOf v, valueOf v n)])) = .ok t := h
    by_cases c : valueOf v n = non ∨ sortOf v ∈ t0.map (·.1)
    · rw [if_pos c] at h'
      cases h'
    · rw [if_neg c] at h'
      obtain ⟨e1, e2⟩ := tail_steps n r (p + 1) _ t h'
      refine ⟨by rw [e1, List.append_assoc]; rfl, fun i w e => ?_⟩
      cases i with
      | zero =>
        have e' : v = w := by simpa using e
        subst e'
        refine ⟨fun z => c (.inl z), fun m => c (.inr ?_)⟩
        simpa [told] using m
      | succ i =>
        have e' : r[i]? = some w := by simpa using e
        obtain ⟨a, b⟩ := e2 i w e'
        refine ⟨a, ?_⟩
        rw [List.append_assoc] at b
        exact b
theorem split_part_le (z c : Str) (w : Str) (h : w ∈ Txt.split z c) : w.length ≤ z.length := by
  have e : (Txt.join c (Txt.split z c)).length = z.length := by rw [txt_join, StrLaws.join_split]
  have e2 : (Txt.join c (Txt.split z c)).length = ((Txt.split z c).map (·.length)).sum + ((Txt.split z c).length - 1) * c.length := PySem.size_glued c _
  have m : w.length ≤ ((Txt.split z c).map (·.length)).sum := by
    generalize Txt.split z c = l at h
    induction l with
    | nil => cases h
    | cons a r ih =>
      rw [List.map_cons, List.sum_cons]
      rcases List.mem_cons.mp h with rfl | h
      · omega
      · have := ih h
        omega
  omega
theorem inNum_cases (z : Str) (lo hi : Int) : inNum z lo hi = .non ∨ ∃ n, inNum z lo hi = .int n ∧ lo ≤ n ∧ n ≤ hi := by
  unfold inNum
  by_cases h : (isnum z && decide (lo ≤ val z) && decide (val z ≤ hi)) = true
  · rw [if_pos h]
    rw [Bool.and_eq_true, Bool.and_eq_true] at h
    exact .inr ⟨_, rfl, of_decide_eq_true h.1.2, of_decide_eq_true h.2⟩
  · rw [if_neg h]
    exact .inl rfl
/-! ### a job on the heap -/
def jobF (a b c d e f g h i j : V) : List (Str × V) := [("name", a), ("asker", b), ("pages", c), ("copies", d), ("layout", e), ("paper", f), ("cover", g), ("colour", h), ("staple", i), ("after", j)]
theorem putF_new {f : Str} {v : V} : ∀ {fs : List (Str × V)}, ¬ f ∈ fs.map (·.1) → putF f v fs = fs ++ [(f, v)]
  | [], _ => rfl
  | (g, u) :: r, h => by
    have h1 : ¬ g = f := fun e => h (by rw [← e]; exact List.mem_cons_self)
    show (if g = f then _ else (g, u) :: putF f v r) = _
    rw [if_neg h1, putF_new fun m => h (List.mem_cons_of_mem _ m)]
    rfl
structure JobAt (C : Addr) (H : Hp) (x : Addr) (f : JF) : Prop where
  ex : ∃ (dx pa : Addr) (d e p g h i : V) (as : List V), H x = some (.ins C dx (jobF (.str f.name) (.str f.asker) (.int f.pages) d e p g h i (.ref pa))) ∧ HoldsV H d f.copies ∧ HoldsV H e f.layout ∧ HoldsV H p f.paper ∧ HoldsV H g f.cover ∧ HoldsV H h f.colour ∧ HoldsV H i f.staple ∧
    H pa = some (.tup as) ∧ Paired (fun a o => HoldsV H a o) as f.after
theorem JobAt.same {C : Addr} {H H' : Hp} {x : Addr} {f : JF} (J : JobAt C H x f) (e : Same H H') : JobAt C H' x f := by
  obtain ⟨dx, pa, v1, v2, v3, v4, v5, v6, as, h0, h1, h2, h3, h4, h5, h6, h7, h8⟩ := J.ex
  exact ⟨dx, pa, v1, v2, v3, v4, v5, v6, as, e _ _ h0, h1.same e, h2.same e, h3.same e, h4.same e, h5.same e, h6.same e, e _ _ h7, Paired.mapP h8 fun _ _ h => h.same e⟩
theorem cut_from (xs : List V) (k : Nat) : cutV xs (some (k : Int)) none = xs.drop k := by
  unfold cutV
  rw [HT.sIx_nat, HT.sIx_none]
  by_cases h : k ≤ xs.length
  · rw [Nat.min_eq_left h]
    exact List.take_of_length_le (by rw [List.length_drop]; omega)
  · rw [Nat.min_eq_right (by omega), List.drop_of_length_le (Nat.le_refl _), List.drop_of_length_le (by omega), List.take_nil]
theorem cut_to (xs : List V) (k : Nat) : cutV xs none (some (k : Int)) = xs.take k := by
  unfold cutV
  rw [HT.sIx_nat, HT.sIx_none]
  by_cases h : k ≤ xs.length
  · rw [Nat.min_eq_left h]
    rfl
  · rw [Nat.min_eq_right (by omega), List.drop_zero, Nat.sub_zero, List.take_of_length_le (Nat.le_refl _), List.take_of_length_le (by omega)]
end My

namespace My
open PySem L2
open Blk (sg sg_inj sg_app)
/-! ### names that differ at one place -/
def nmC (f r : Nat) (size place l : Nat) : List Nat := (f :: List.replicate (size - 1) r).set place l
def nm (f r : Nat) (size place l : Nat) : Str := ⟨(nmC f r size place l).toArray⟩
theorem nmC_len (f r : Nat) {size place l : Nat} (h : 1 ≤ size) : (nmC f r size place l).length = size := by
  unfold nmC
  rw [List.length_set, List.length_cons, List.length_replicate]
  omega
theorem nm_len (f r : Nat) {size place l : Nat} (h : 1 ≤ size) : (nm f r size place l).length = size := by
  rw [← sg_len]
  exact nmC_len f r h
theorem nm_good {f r size place l : Nat} (hf : f ∈ low) (hr : r ∈ low ++ fig) (hl : l ∈ low) (h1 : 1 ≤ size) (h2 : size ≤ 12) : good (nm f r size place l) = true := by
  have all : ∀ c ∈ nmC f r size place l, c ∈ low ++ fig := fun c hc => by
    rcases List.mem_or_eq_of_mem_set hc with h | h
    · rcases List.mem_cons.mp h with rfl | h
      · exact List.mem_append_left _ hf
      · rw [List.eq_of_mem_replicate h]; exact hr
    · rw [h]; exact List.mem_append_left _ hl
  have hd : (nmC f r size place l).headD 0 ∈ low := by
    unfold nmC
    cases place with
    | zero => exact hl
    | succ p => exact hf
  have len := nm_len f r (place := place) (l := l) h1
  unfold good
  rw [len, decide_eq_true (by omega), decide_eq_true (by omega)]
  show (true && true && decide ((nmC f r size place l).headD 0 ∈ low) && (nmC f r size place l).all fun c => decide (c ∈ low ++ fig)) = true
  rw [decide_eq_true hd, List.all_eq_true.mpr fun c hc => decide_eq_true (all c hc)]
  rfl
theorem nm_inj {f r size place l l' : Nat} (h1 : 1 ≤ size) (h2 : place < size) (e : nm f r size place l = nm f r size place l') : l = l' := by
  have e2 : nmC f r size place l = nmC f r size place l' := congrArg sg e
  have e3 : (nmC f r size place l)[place]? = (nmC f r size place l')[place]? := by rw [e2]
  unfold nmC at e3
  rw [List.getElem?_set_self (by rw [List.length_cons, List.length_replicate]; omega), List.getElem?_set_self (by rw [List.length_cons, List.length_replicate]; omega)] at e3
  exact Option.some.inj e3
def ltr (s : Nat) (j : Nat) : Nat := 97 + (s + 5 * j) % 26
theorem ltr_low (s j : Nat) : ltr s j ∈ low := by
  refine List.mem_range'.mpr ⟨(s + 5 * j) % 26, Nat.mod_lt _ (by decide), ?_⟩
  unfold ltr
  omega
theorem ltr_inj {s i j : Nat} (hi : i < 26) (hj : j < 26) (e : ltr s i = ltr s j) : i = j := by
  unfold ltr at e
  omega
def nms (f r size place s : Nat) (m : Nat) : List Str := (List.range m).map fun j => nm f r size place (ltr s j)
structure NamesOk (ns : List Str) (m : Nat) : Prop where
  len : ns.length = m
  good : ∀ z ∈ ns, good z = true
  nd : ns.Nodup
theorem nms_ok {f r size place s m : Nat} (hf : f ∈ low) (hr : r ∈ low ++ fig) (h1 : 1 ≤ size) (h2 : size ≤ 12) (h3 : place < size) (hm : m ≤ 26) : NamesOk (nms f r size place s m) m := by
  refine ⟨by unfold nms; rw [List.length_map, List.length_range], fun z hz => ?_, ?_⟩
  · obtain ⟨j, _, rfl⟩ := List.mem_map.mp hz
    exact nm_good hf hr (ltr_low s j) h1 h2
  · unfold nms
    have key : ∀ n, n ≤ 26 → ((List.range n).map fun j => nm f r size place (ltr s j)).Nodup := by
      intro n
      induction n with
      | zero => intro _; exact List.nodup_nil
      | succ n ih =>
        intro hn
        rw [List.range_succ, List.map_append]
        refine nd_snoc (ih (by omega)) fun mm => ?_
        obtain ⟨j, hj, e⟩ := List.mem_map.mp mm
        have hj' := List.mem_range.mp hj
        exact absurd (ltr_inj (by omega) (by omega) (nm_inj h1 h3 e)) (by omega)
    exact key m hm
def six : List Str := [Str.ofString "x2", Str.ofString "staple", Str.ofString "both", Str.ofString "up2", Str.ofString "plain", Str.ofString "after"]
theorem six_ok : ∀ m ∈ List.range 7, (six.take m).length = m ∧ (∀ z ∈ six.take m, good z = true) ∧ (six.take m).Nodup := by decide +kernel
theorem six_names {m : Nat} (h : m ≤ 6) : NamesOk (six.take m) m := by
  obtain ⟨a, b, c⟩ := six_ok m (List.mem_range.mpr (by omega))
  exact ⟨a, b, c⟩
def one (c : Nat) : Str := ⟨#[c]⟩
theorem join_ones (e : Str) (he : sg e = []) : ∀ cs : List Nat, sg (Str.join e (cs.map one)) = cs
  | [] => rfl
  | [c] => rfl
  | c :: d :: r => by
    have ih := join_ones e he (d :: r)
    show sg (one c ++ e ++ Str.join e ((d :: r).map one)) = c :: d :: r
    rw [sg_app, sg_app, he, ih]
    rfl
theorem join_nm (f r size place l : Nat) : Txt.join (Str.ofString "") ((nmC f r size place l).map one) = nm f r size place l := by
  rw [txt_join]
  exact sg_inj (join_ones _ (by decide +kernel) _)
theorem low_at {i c : Nat} (h : low[i]? = some c) : c = 97 + i := by
  have hi : i < 26 := by
    have := (List.getElem?_eq_some_iff.mp h).1
    unfold low at this
    rwa [List.length_range'] at this
  unfold low at h
  rw [List.getElem?_range' hi] at h
  have := Option.some.inj h
  omega
theorem lowfig_at {i c : Nat} (h : (low ++ fig)[i]? = some c) : c ∈ low ++ fig := List.mem_of_getElem? h
theorem rep_flat {α : Type} (v : α) : ∀ k : Nat, (List.replicate k [v]).flatten = List.replicate k v
  | 0 => rfl
  | k + 1 => by rw [List.replicate_succ, List.flatten_cons, rep_flat v k, List.replicate_succ]; rfl
/-! ### the values that are due, on the heap -/
def optV : Option Str → V
  | some z => .str z
  | none => .non
structure Due (H : Hp) (t : Addr) (j : Jb) : Prop where
  ex : ∃ (vc : V) (pa : Addr), H t = some (.tup [.str j.name, .str j.asker, .int j.pages, .int j.copies, .str j.layout, .str j.paper, optV j.cover, vc, .bl j.staple, .ref pa]) ∧ HoldsV H vc j.jf.colour ∧ H pa = some (.tup (j.after.map V.str))
theorem Due.same {H H' : Hp} {t : Addr} {j : Jb} (D : Due H t j) (e : Same H H') : Due H' t j := by
  obtain ⟨vc, pa, h1, h2, h3⟩ := D.ex
  exact ⟨vc, pa, e _ _ h1, h2.same e, e _ _ h3⟩
end My

namespace My
open PySem L2
open Blk (sg sg_inj sg_app)
theorem words_eq (j : Jb) (b : Bool) : j.words b = [] ++ (if (!decide (j.copies = 1) || b) = true then [cX ++ tn j.copies] else []) ++ (if (!decide (j.layout = cOne)) = true then [j.layout] else []) ++ (if j.colour.isSome = true then [cCol ++ tn (j.colour.getD (1, 1)).1 ++ cDash ++ tn (j.colour.getD (1, 1)).2] else []) ++
    (if (!decide (j.paper = cPla) || b) = true then [cPap ++ j.paper] else []) ++ (if j.cover.isSome = true then [cCov ++ j.cover.getD cPla] else []) ++ (if j.staple = true then [cSta] else []) := by
  unfold Jb.words Jb.ents
  generalize (!decide (j.copies = 1) || b) = c1
  generalize (!decide (j.layout = cOne)) = c2
  generalize j.colour.isSome = c3
  generalize (!decide (j.paper = cPla) || b) = c4
  generalize j.cover.isSome = c5
  generalize j.staple = c6
  cases c1 <;> cases c2 <;> cases c3 <;> cases c4 <;> cases c5 <;> cases c6 <;> rfl
theorem words_few (j : Jb) (b : Bool) : (j.words b).length ≤ 6 := by
  unfold Jb.words
  rw [List.length_map]
  exact List.length_filter_le _ _
theorem good_len {z : Str} (h : good z = true) : z.length ≤ 12 := by
  unfold good at h
  rw [Bool.and_eq_true, Bool.and_eq_true, Bool.and_eq_true] at h
  have := of_decide_eq_true h.1.1.2
  omega
theorem lay_len : ∀ z ∈ cOne :: Str.ofString "both" :: goodTexts, z.length ≤ 5 := by decide +kernel
theorem words_fit {j : Jb} (J : j.Ok) (b : Bool) : ∀ w ∈ j.words b, w.length ≤ 18 ∧ Txt.startswith w cAft = false := by
  intro w h
  obtain ⟨e, he, rfl⟩ := List.mem_map.mp h
  obtain ⟨he, h1⟩ := List.mem_filter.mp he
  have l1 : cX.length = 1 := by decide +kernel
  have l2 : cCol.length = 7 := by decide +kernel
  have l3 : cPap.length = 6 := by decide +kernel
  have l4 : cCov.length = 6 := by decide +kernel
  have l5 : cDash.length = 1 := by decide +kernel
  unfold Jb.ents at he
  rcases List.mem_cons.mp he with rfl | he
  · have := num_len (n := j.copies) (by have := J.c0; omega) (by have := J.c1; omega)
    exact ⟨by show (cX ++ tn j.copies).length ≤ 18; rw [len_app]; omega, sw_via (r := Str.ofString "a") (by decide +kernel) (pre_no (by decide +kernel) (by decide +kernel))⟩
  rcases List.mem_cons.mp he with rfl | he
  · have hn : ¬ j.layout = cOne := by
      intro z
      rw [decide_eq_true z] at h1
      cases h1
    have m := (List.mem_cons.mp J.lay).resolve_left hn
    exact ⟨Nat.le_trans (lay_len _ J.lay) (by decide), lAft _ m⟩
  rcases List.mem_cons.mp he with rfl | he
  · obtain ⟨⟨x, y⟩, e⟩ := Option.isSome_iff_exists.mp h1
    obtain ⟨c1, c2, c3⟩ := J.colour x y e
    have := J.p1
    have n1 := num_len (n := x) (by omega) (by omega)
    have n2 := num_len (n := y) (by omega) (by omega)
    dsimp only
    rw [e]
    show (cCol ++ tn x ++ cDash ++ tn y).length ≤ 18 ∧ Txt.startswith (cCol ++ tn x ++ cDash ++ tn y) cAft = false
    refine ⟨by rw [len_app, len_app, len_app]; omega, ?_⟩
    have e2 : cCol ++ tn x ++ cDash ++ tn y = cCol ++ (tn x ++ cDash ++ tn y) := sg_inj (by simp only [sg_app, List.append_assoc])
    rw [e2]
    exact pre_no (by decide +kernel) (by decide +kernel)
  rcases List.mem_cons.mp he with rfl | he
  · have := good_len J.paper
    exact ⟨by show (cPap ++ j.paper).length ≤ 18; rw [len_app]; omega, pre_no (by decide +kernel) (by decide +kernel)⟩
  rcases List.mem_cons.mp he with rfl | he
  · obtain ⟨z, e⟩ := Option.isSome_iff_exists.mp h1
    dsimp only
    rw [e]
    have := good_len (J.cover z e)
    exact ⟨by show (cCov ++ z).length ≤ 18; rw [len_app]; omega, pre_no (by decide +kernel) (by decide +kernel)⟩
  · have := List.mem_singleton.mp he
    subst this
    exact ⟨by show cSta.length ≤ 18; decide +kernel, by show Txt.startswith cSta cAft = false; decide +kernel⟩
theorem afts_fit {j : Jb} (J : j.Ok) : ∀ w ∈ j.afts, w.length ≤ 18 := by
  intro w h
  obtain ⟨n, hn, rfl⟩ := List.mem_map.mp h
  have := good_len (J.after n hn)
  have l : cAft.length = 6 := by decide +kernel
  rw [len_app]
  omega
/-- all of a line's words are short -/
theorem line_fit {j : Jb} (J : j.Ok) {b : Bool} {M : List Str} (X : Mix (j.words b) j.afts M) : (∀ w ∈ j.head ++ M, w.length ≤ 18) ∧ (j.head ++ M).length ≤ 12 := by
  constructor
  · intro w h
    rcases List.mem_append.mp h with h | h
    · unfold Jb.head at h
      rcases List.mem_cons.mp h with rfl | h
      · have := good_len J.name; omega
      rcases List.mem_cons.mp h with rfl | h
      · have := good_len J.asker; omega
      · rw [List.mem_singleton.mp h]
        have := num_len (n := j.pages) (by have := J.p0; omega) J.p1
        omega
    · rcases List.mem_append.mp (X.perm.mem_iff.mp h) with h | h
      · exact (words_fit J b w h).1
      · exact afts_fit J w h
  · have l := X.perm.length_eq
    have w := words_few j b
    have f := J.few
    rw [List.length_append] at l
    unfold Jb.afts at l
    rw [List.length_map] at l
    rw [List.length_append]
    show 3 + M.length ≤ 12
    omega
theorem sum_le {ws : List Str} {B : Nat} (h : ∀ w ∈ ws, w.length ≤ B) : (ws.map (·.length)).sum ≤ ws.length * B := by
  induction ws with
  | nil => simp
  | cons a r ih =>
    have h1 := h a List.mem_cons_self
    have h2 := ih fun w hw => h w (List.mem_cons_of_mem _ hw)
    rw [List.map_cons, List.sum_cons, List.length_cons, Nat.succ_mul]
    omega
/-! ### words put in at drawn places -/
theorem ins_perm {α : Type} (M : List α) (i : Nat) (y : α) : (M.take i ++ y :: M.drop i).Perm (M ++ [y]) := by
  have a : (M.take i ++ y :: M.drop i).Perm (y :: (M.take i ++ M.drop i)) := List.perm_middle
  rw [List.take_append_drop] at a
  exact a.trans (List.perm_append_singleton y M).symm
structure Mid (ws as : List Str) (A : Nat) (M : List Str) : Prop where
  perm : M.Perm (ws ++ as)
  le : A ≤ M.length
  pre : ((M.take A).filter fun w => Txt.startswith w cAft) = as
  post : ((M.drop A).filter fun w => Txt.startswith w cAft) = []
theorem Mid.start {ws M : List Str} (p : M.Perm ws) (h : ∀ w ∈ ws, Txt.startswith w cAft = false) : Mid ws [] 0 M := by
  refine ⟨by rw [List.append_nil]; exact p, Nat.zero_le _, by simp, ?_⟩
  rw [List.drop_zero]
  exact List.filter_eq_nil_iff.mpr fun w hw => by rw [h w (p.mem_iff.mp hw)]; decide
theorem Mid.put {ws as M : List Str} {A B : Nat} {y : Str} (m : Mid ws as A M) (h1 : A ≤ B) (h2 : B ≤ M.length) (hy : Txt.startswith y cAft = true) : Mid ws (as ++ [y]) (B + 1) (M.take B ++ y :: M.drop B) := by
  have hl : (M.take B).length = B := by rw [List.length_take]; omega
  refine ⟨?_, ?_, ?_, ?_⟩
  · exact (ins_perm M B y).trans (by rw [← List.append_assoc]; exact m.perm.append_right [y])
  · rw [List.length_append, List.length_cons, hl, List.length_drop]
    omega
  · have e : (M.take B ++ y :: M.drop B).take (B + 1) = M.take B ++ [y] := by
      rw [List.take_append, hl, List.take_of_length_le (by omega), show B + 1 - B = 1 by omega]
      rfl
    rw [e, List.filter_append]
    have e2 : ((M.take B).filter fun w => Txt.startswith w cAft) = as := by
      have e3 : M.take B = M.take A ++ (M.drop A).take (B - A) := by
        rw [← List.take_append_drop A (M.take B), List.take_take, Nat.min_eq_left h1, List.drop_take]
      rw [e3, List.filter_append, m.pre]
      have e4 : (((M.drop A).take (B - A)).filter fun w => Txt.startswith w cAft) = [] := by
        refine List.filter_eq_nil_iff.mpr fun w hw => ?_
        exact List.filter_eq_nil_iff.mp m.post w (List.mem_of_mem_take hw)
      rw [e4, List.append_nil]
    rw [e2]
    simp [hy]
  · have e : (M.take B ++ y :: M.drop B).drop (B + 1) = M.drop B := by
      rw [List.drop_append, hl, List.drop_of_length_le (by omega), show B + 1 - B = 1 by omega]
      rfl
    rw [e]
    refine List.filter_eq_nil_iff.mpr fun w hw => ?_
    have : w ∈ M.drop A := by
      have e3 : M.drop B = (M.drop A).drop (B - A) := by rw [List.drop_drop]; congr 1; omega
      rw [e3] at hw
      exact List.mem_of_mem_drop hw
    exact List.filter_eq_nil_iff.mp m.post w this
theorem Mid.done {ws as M : List Str} {A : Nat} (m : Mid ws as A M) : Mix ws as M := by
  refine ⟨m.perm, ?_⟩
  rw [← List.take_append_drop A M, List.filter_append, m.pre, m.post, List.append_nil]
theorem map_ins (M : List Str) (i : Nat) (y : Str) : (M.map V.str).take i ++ V.str y :: (M.map V.str).drop i = (M.take i ++ y :: M.drop i).map V.str := by
  rw [List.map_append, List.map_cons, List.map_take, List.map_drop]
end My

namespace My
open PySem L2
open Blk (sg sg_inj sg_app)
theorem join_snoc (s : Str) : ∀ (ws : List Str) (w : Str), ws ≠ [] → Str.join s (ws ++ [w]) = Str.join s ws ++ s ++ w
  | [], _, h => absurd rfl h
  | [x], w, _ => rfl
  | x :: y :: r, w, _ => by
    have ih := join_snoc s (y :: r) w (by intro e; cases e)
    show x ++ s ++ Str.join s (y :: r ++ [w]) = x ++ s ++ Str.join s (y :: r) ++ s ++ w
    rw [ih]
    exact sg_inj (by simp only [sg_app, List.append_assoc])
theorem kX : sg (Str.ofString " x") = sg cBlank ++ sg cX := by decide +kernel
theorem kCol : sg (Str.ofString " colour:") = sg cBlank ++ sg cCol := by decide +kernel
theorem kPap : sg (Str.ofString " paper:") = sg cBlank ++ sg cPap := by decide +kernel
theorem kCov : sg (Str.ofString " cover:") = sg cBlank ++ sg cCov := by decide +kernel
theorem kSta : sg (Str.ofString " staple") = sg cBlank ++ sg cSta := by decide +kernel
theorem kAft : sg (Str.ofString " after:") = sg cBlank ++ sg cAft := by decide +kernel
theorem words_plain (j : Jb) : j.words false = [] ++ (if (!decide (j.copies = 1)) = true then [cX ++ tn j.copies] else []) ++ (if (!decide (j.layout = cOne)) = true then [j.layout] else []) ++ (if j.colour.isSome = true then [cCol ++ tn (j.colour.getD (1, 1)).1 ++ cDash ++ tn (j.colour.getD (1, 1)).2] else []) ++
    (if (!decide (j.paper = cPla)) = true then [cPap ++ j.paper] else []) ++ (if j.cover.isSome = true then [cCov ++ j.cover.getD cPla] else []) ++ (if j.staple = true then [cSta] else []) := by
  rw [words_eq, Bool.or_false, Bool.or_false]
theorem mix_plain {j : Jb} (J : j.Ok) : Mix (j.words false) j.afts (j.words false ++ j.afts) := by
  refine ⟨List.Perm.refl _, ?_⟩
  rw [List.filter_append, List.filter_eq_nil_iff.mpr (fun w hw => by rw [(words_fit J false w hw).2]; decide), List.nil_append]
  refine List.filter_eq_self.mpr fun w hw => ?_
  obtain ⟨n, _, rfl⟩ := List.mem_map.mp hw
  exact sw_app _ _
/-- a job's line as it is written -/
def Jb.line (j : Jb) : Str := Str.join cBlank (j.head ++ (j.words false ++ j.afts))
end My

namespace My
open PySem L2
def top (i : Nat) : Stmt := PySem.Challenge.pw_spoolhall_k07_written_and_read_back.main.body.getD i (.Pass ⟨0, 0, 0, 0⟩)
abbrev s_words_of : Stmt := top 11
abbrev s_made_of : Stmt := top 12
abbrev s_is_name : Stmt := top 13
abbrev s_is_number : Stmt := top 14
abbrev s_number_in : Stmt := top 15
abbrev s_is_layout : Stmt := top 16
abbrev s_Job_init : Stmt := inClass (top 31) 0
abbrev s_read_job : Stmt := top 32
abbrev s_read_head : Stmt := top 33
abbrev s_value_of : Stmt := top 34
abbrev s_sort_of : Stmt := top 35
abbrev s_read_colour : Stmt := top 36
abbrev s_told_job : Stmt := top 37
abbrev s_written : Stmt := top 38
abbrev s_cost : Stmt := top 39
abbrev s__law_cell_at : Stmt := top 41
abbrev s__law_by : Stmt := top 42
abbrev s__law_names : Stmt := top 43
abbrev s__law_values : Stmt := top 44
abbrev s__law_whole : Stmt := top 45
abbrev s__law_text : Stmt := top 46
abbrev s__law_is_job : Stmt := top 47
abbrev s__law_line : Stmt := top 48
abbrev s__law_made : Stmt := top 49
abbrev s_law : Stmt := top 50
structure Txt (K : PySem.W.Frag) (mg : Str → Option Value) (cJob : Addr) : Prop where
  len : mg "len" = none
  range : mg "range" = none
  enumerate : mg "enumerate" = none
  str : mg "str" = none
  int : mg "int" = none
  bool : mg "bool" = none
  tuple : mg "tuple" = none
  isinstance : mg "isinstance" = none
  all : mg "all" = none
  ValueError : mg "ValueError" = none
  LETTERS : GS mg "LETTERS" (Str.ofString "abcdefghijklmnopqrstuvwxyz")
  FIGURES : GS mg "FIGURES" (Str.ofString "0123456789")
  NAME_MOST : GI mg "NAME_MOST" 12
  NUMBER_MOST : GI mg "NUMBER_MOST" 9
  UP : GS mg "UP" (Str.ofString "up:")
  UP_LEAST : GI mg "UP_LEAST" 2
  UP_MOST : GI mg "UP_MOST" 16
  PAGES_MOST : GI mg "PAGES_MOST" 999
  COPIES_MOST : GI mg "COPIES_MOST" 99
  HEAD : GI mg "HEAD" 3
  COPIES : GS mg "COPIES" (Str.ofString "x")
  COLOUR : GS mg "COLOUR" (Str.ofString "colour:")
  PAPER : GS mg "PAPER" (Str.ofString "paper:")
  COVER : GS mg "COVER" (Str.ofString "cover:")
  AFTER : GS mg "AFTER" (Str.ofString "after:")
  STAPLE : GS mg "STAPLE" (Str.ofString "staple")
  LAYOUT : GS mg "LAYOUT" (Str.ofString "layout")
  ONE_COPY : GI mg "ONE_COPY" 1
  ONE_LAYOUT : GS mg "ONE_LAYOUT" (Str.ofString "one")
  PLAIN : GS mg "PLAIN" (Str.ofString "plain")
  cl_Job : Cls K cJob
  mg_Job : mg "Job" = some (.ref cJob)
  n_Job_name : NoAttr K cJob "name"
  n_Job_asker : NoAttr K cJob "asker"
  n_Job_pages : NoAttr K cJob "pages"
  n_Job_copies : NoAttr K cJob "copies"
  n_Job_layout : NoAttr K cJob "layout"
  n_Job_paper : NoAttr K cJob "paper"
  n_Job_cover : NoAttr K cJob "cover"
  n_Job_colour : NoAttr K cJob "colour"
  n_Job_staple : NoAttr K cJob "staple"
  n_Job_after : NoAttr K cJob "after"
end My

seal L2.PE L2.PS L2.PSs L2.PT L2.PW L2.PA L2.PI L2.PG L2.PGs L2.PSet L2.PIfs L2.PO L2.PK L2.CallR L2.OpR L2.IxR L2.SlR L2.UnR
namespace My
open PySem L2
open Blk (sg sg_inj sg_app)
section
variable {P : Program} {w : World} {K : PySem.W.Frag} {mg : Str → Option Value} {base : Heap}
theorem int_of {ns : List Int} {j : Nat} {v : V} (h : (ns.map V.int)[j]? = some v) : ∃ z, v = V.int z := by
  rw [List.getElem?_map] at h
  cases e : ns[j]? with
  | none => rw [e] at h; cases h
  | some z => rw [e] at h; exact ⟨z, (Option.some.inj h).symm⟩
/-- the script stands at a -/
structure Scr (K : PySem.W.Frag) (H : Hp) (a : Addr) : Prop where
  ex : ∃ ns : List Int, SqL K H a (ns.map V.int) ∧ ns.length ≤ 63
theorem Scr.same {K : PySem.W.Frag} {H H' : Hp} {a : Addr} (s : Scr K H a) (e : Same H H') : Scr K H' a := by
  obtain ⟨ns, h, l⟩ := s.ex
  exact ⟨ns, e.seq h, l⟩
def sp__law_cell_at (K : PySem.W.Frag) : Sp := fun vs H Q _ => ∃ (a : Addr) (k : Int), vs = [.ref a, .int k] ∧ Scr K H a ∧ ∀ v : Int, Q (.int v) H
def sp__law_by (K : PySem.W.Frag) : Sp := fun vs H Q _ => ∃ (a : Addr) (k m : Int), vs = [.ref a, .int k, .int m] ∧ Scr K H a ∧ -(2 ^ 62) < k ∧ k < 2 ^ 62 ∧ 0 < m ∧ ∀ r : Int, 0 ≤ r → r < m → Q (.int r) H
theorem sc__law_cell_at : FnScope ["_law_script", "_law_k"] ["_law_script", "_law_k"] (defScope s__law_cell_at) := ⟨rfl, rfl, rfl, by decide +kernel, rfl, by decide +kernel, by decide +kernel⟩
theorem ok__law_cell_at {fa cJob : Addr} {fd : FuncData} (F : Fun K "_law_cell_at" "_law_cell_at" s__law_cell_at fa fd) (T : Txt K mg cJob)  :
    FnOk P w K mg base CX0 1 fa fd ["_law_script", "_law_k"] (sp__law_cell_at K) := by
  refine F.ok sc__law_cell_at (fun vs H Q E h => ?_) (fun cdv A outer s H vs Q E hr h => ?_)
  · obtain ⟨a, k, rfl, _⟩ := h
    rfl
  obtain ⟨a, k, rfl, ⟨ns, hS, h63⟩, q⟩ := h
  have hl : (ns.map V.int).length = ns.length := List.length_map _
  refine ⟨_, (pss_cons (ps_if (pt_cmpR op_gt (pe_callB call_len_seq rfl T.len PySem.boot_len (pa_cons (pv 0) pa_nil)) pe_int (nomark _)) (pss_one (ps_ret (pe_ix ix_list (pv 0) (pe_op op_mod (pv 1) (pe_callB call_len_seq rfl T.len PySem.boot_len (pa_cons (pv 0) pa_nil))) (fun _ _ => rfl)))) pss_nil)
  (pss_one (ps_ret pe_int))), ?_⟩
  refine ⟨_, rfl, a, _, rfl, .inl hS, _, _, rfl, rfl, _, rfl, ?_⟩
  refine ite2 (fun c => ?_) (fun c => ?_)
  · have c' : (0 : Int) < (((ns.map V.int).length : Nat) : Int) := of_decide_eq_true c
    have b0 := Int.emod_nonneg k (show (((ns.map V.int).length : Nat) : Int) ≠ 0 by omega)
    have b1 := Int.emod_lt_of_pos k c'
    obtain ⟨v, hv, hat⟩ := at_in (xs := ns.map V.int) b0 b1
    obtain ⟨z, rfl⟩ := int_of hv
    exact ⟨_, rfl, _, rfl, _, rfl, a, _, rfl, .inl hS, _, _, rfl, rfl, c', a, _, _, _, rfl, rfl, hS, hat, q z⟩
  · exact q 0
theorem sc__law_by : FnScope ["_law_script", "_law_k", "_law_many", "_law_seed"] ["_law_script", "_law_k", "_law_many"] (defScope s__law_by) := ⟨rfl, rfl, rfl, by decide +kernel, rfl, by decide +kernel, by decide +kernel⟩
theorem ok__law_by {fa cJob : Addr} {fd : FuncData} (F : Fun K "_law_by" "_law_by" s__law_by fa fd) (T : Txt K mg cJob) (D__law_cell_at : Dfn P w K mg base 1 "_law_cell_at" ["_law_script", "_law_k"] (sp__law_cell_at K)) :
    FnOk P w K mg base CX0 2 fa fd ["_law_script", "_law_k", "_law_many"] (sp__law_by K) := by
  refine F.ok sc__law_by (fun vs H Q E h => ?_) (fun cdv A outer s H vs Q E hr h => ?_)
  · obtain ⟨a, k, m, rfl, _⟩ := h
    rfl
  obtain ⟨a, k, m, rfl, hS, k0, k1, m0, q⟩ := h
  refine ⟨_, (pss_cons (ps_set (i := 3) sc__law_by.nd rfl (by first | exact Or.inl rfl | exact Or.inr rfl) (pe_op op_add (pe_op op_add (pe_op op_mod (pe_callD D__law_cell_at (hr.mono (by decide)) rfl (pa_cons (pv 0) (pa_cons (pv 1) pa_nil))) pe_int) (pe_op op_mul (pe_op op_mul pe_int (pv 1)) (pv 1))) pe_int))
  (pss_one (ps_ret (pe_op op_mod (pe_op op_mod (pe_op op_mul (pe_op op_mod (pe_op op_mul (pv 3) pe_int) pe_int) pe_int) pe_int) (pv 2))))), ?_⟩
  refine ⟨_, rfl, _, rfl, a, k, rfl, hS, fun v => ?_⟩
  refine ⟨_, _, rfl, rfl, (by show (0 : Int) < 1000003; decide), _, rfl, _, _, rfl, rfl, .inl ⟨by decide, by decide⟩, _, rfl, _, _, rfl, rfl, .inr ⟨by omega, by omega⟩, _, _, rfl, rfl, _, _, rfl, rfl, ?_⟩
  refine ⟨_, rfl, _, _, rfl, rfl, .inr ⟨by decide, by decide⟩, _, _, rfl, rfl, (by show (0 : Int) < 999983; decide), _, _, rfl, rfl, .inr ⟨by decide, by decide⟩, _, _, rfl, rfl, (by show (0 : Int) < 524287; decide), _, rfl, _, _, rfl, rfl, m0, ?_⟩
  exact q _ (Int.emod_nonneg _ (by omega)) (Int.emod_lt_of_pos _ m0)

end
end My

namespace My
open PySem L2
open Blk (sg sg_inj sg_app)
section
variable {P : Program} {w : World} {K : PySem.W.Frag} {mg : Str → Option Value} {base : Heap}
def sp_made_of (_K : PySem.W.Frag) : Sp := fun vs H Q _ => ∃ z y : Str, vs = [.str z, .str y] ∧ z.length ≤ 400 ∧ ∀ H', Same H H' → Q (.bl (z.cps.toList.all fun c => decide (c ∈ y.cps.toList))) H'
def sp_is_name (_K : PySem.W.Frag) : Sp := fun vs H Q _ => ∃ z : Str, vs = [.str z] ∧ z.length ≤ 400 ∧ ∀ H', Same H H' → Q (.bl (good z)) H'
def sp_is_number (_K : PySem.W.Frag) : Sp := fun vs H Q _ => ∃ z : Str, vs = [.str z] ∧ z.length ≤ 400 ∧ ∀ H', Same H H' → Q (.bl (isnum z)) H'
def sp_number_in (_K : PySem.W.Frag) : Sp := fun vs H Q _ => ∃ (z : Str) (lo hi : Int), vs = [.str z, .int lo, .int hi] ∧ z.length ≤ 400 ∧ ∀ H', Same H H' → Q (inNum z lo hi) H'
def sp_is_layout (_K : PySem.W.Frag) : Sp := fun vs H Q _ => ∃ z : Str, vs = [.str z] ∧ z.length ≤ 400 ∧ ∀ H', Same H H' → Q (.bl (lay z)) H'
theorem eL : (Str.ofString "abcdefghijklmnopqrstuvwxyz").cps.toList = low := by decide +kernel
theorem eF : (Str.ofString "0123456789").cps.toList = fig := by decide +kernel

theorem all_sg (z : Str) (p : Nat → Bool) : (((z.cps.toList.map fun c => V.str ⟨#[c]⟩).filter fun _ => true).map fun v => match v with | .str y => V.bl (p (y.cps.toList.headD 0)) | _ => .bl false) = (z.cps.toList.map p).map V.bl := by
  rw [List.filter_eq_self.mpr (fun _ _ => rfl), List.map_map, List.map_map]
  rfl

theorem sc_made_of : FnScope ["word", "signs"] ["word", "signs"] (defScope s_made_of) := ⟨rfl, rfl, rfl, by decide +kernel, rfl, by decide +kernel, by decide +kernel⟩
theorem ok_made_of {fa cJob : Addr} {fd : FuncData} (F : Fun K "made_of" "made_of" s_made_of fa fd) (T : Txt K mg cJob)  :
    FnOk P w K mg base CX0 1 fa fd ["word", "signs"] (sp_made_of K) := by
  refine F.ok sc_made_of (fun vs H Q E h => ?_) (fun cdv A outer s H vs Q E hr h => ?_)
  · obtain ⟨z, y, rfl, _⟩ := h
    rfl
  obtain ⟨z, y, rfl, hz, q⟩ := h
  refine ⟨_, (pss_one (ps_ret (pe_callB (call_all rfl) rfl T.all bt_all (pa_cons (pe_comp (frees := [("signs", 1)]) ⟨by decide +kernel, rfl, rfl, by decide +kernel, ⟨⟨rfl, rfl, rfl, by decide +kernel⟩, trivial⟩, by decide +kernel, cellsFor_at rfl, rfl⟩ rfl (pi_str (pv 0)) (fun _ _ _ _ => pifs_nil) (fun _ _ _ _ => by exact (pe_cmpR op_in_str (pv 0) (pv 1) rfl))) pa_nil)))), ?_⟩
  refine ⟨_, rfl, z, rfl, compB_seq (seq_str z H) (fun _ => true) (fun v => match v with | .str x => V.bl (decide (x.cps.toList.headD 0 ∈ y.cps.toList)) | _ => .bl false) ?_ (fun x hx H' R _ r => r) (fun x hx H' R sm _ r => ?_) (fun D H' sm hD hH => ?_)⟩
  · rw [List.length_map, len_toList]
    exact small1000 (by omega)
  · obtain ⟨c, _, rfl⟩ := List.mem_map.mp hx
    refine ⟨_, rfl, _, rfl, _, _, rfl, rfl, ?_⟩
    rw [in_sign c rfl]
    exact r
  · rw [all_sg z fun c => decide (c ∈ y.cps.toList)] at hH
    refine ⟨D, _, rfl, SqL.of hH, ?_⟩
    rw [List.all_map]
    exact q H' sm

theorem sc_is_name : FnScope ["word"] ["word"] (defScope s_is_name) := ⟨rfl, rfl, rfl, by decide +kernel, rfl, by decide +kernel, by decide +kernel⟩
theorem ok_is_name {fa cJob : Addr} {fd : FuncData} (F : Fun K "is_name" "is_name" s_is_name fa fd) (T : Txt K mg cJob) (D_made_of : Dfn P w K mg base 1 "made_of" ["word", "signs"] (sp_made_of K)) :
    FnOk P w K mg base CX0 2 fa fd ["word"] (sp_is_name K) := by
  refine F.ok sc_is_name (fun vs H Q E h => ?_) (fun cdv A outer s H vs Q E hr h => ?_)
  · obtain ⟨z, rfl, _⟩ := h
    rfl
  obtain ⟨z, rfl, hz, q⟩ := h
  refine ⟨_, (pss_cons (ps_if (pt_not (pt_chain op_le op_le pe_int (pe_callB call_len_str rfl T.len PySem.boot_len (pa_cons (pv 0) pa_nil)) (pe_gi T.NAME_MOST rfl))) (pss_one (ps_ret pe_bl)) pss_nil)
  (pss_one (ps_ret (pe_and (pe_cmpR op_in_str (pe_ix ix_str (pv 0) pe_int (fun _ _ => rfl)) (pe_gs T.LETTERS rfl) rfl) (pe_one (pe_callD D_made_of (hr.mono (by decide)) rfl (pa_cons (pv 0) (pa_cons (pe_op op_add_str (pe_gs T.LETTERS rfl) (pe_gs T.FIGURES rfl)) pa_nil)))))))), ?_⟩
  have hsz : z.length ≤ sizeLine := Nat.le_trans hz (small (by decide))
  have lL : (Str.ofString "abcdefghijklmnopqrstuvwxyz").length = 26 := by rw [← len_toList, eL]; rfl
  have lF : (Str.ofString "0123456789").length = 10 := by rw [← len_toList, eF]; rfl
  refine ⟨_, rfl, z, rfl, hsz, _, _, rfl, rfl, _, rfl, ?_⟩
  have no : ∀ b, good z = b → Q (.bl b) H := fun b e => by rw [← e]; exact q H (Same.refl H)
  refine ite2 (fun c1 => ?_) (fun c1 => ?_)
  · refine ⟨_, _, rfl, rfl, _, rfl, ?_⟩
    have c1' : (1 : Int) ≤ (z.length : Nat) := of_decide_eq_true c1
    by_cases c2 : (((z.length : Nat) : Int) ≤ 12)
    · rw [decide_eq_true c2]
      refine iteF ?_
      have hne : z.cps.toList.length = z.length := len_toList z
      obtain ⟨c, r, e⟩ : ∃ c r, z.cps.toList = c :: r := by
        cases e : z.cps.toList with
        | nil => rw [e] at hne; simp at hne; omega
        | cons c r => exact ⟨c, r, rfl⟩
      refine ⟨_, rfl, z, _, c, rfl, rfl, hsz, (by rw [e]; exact atI_nat (j := 0) rfl), _, _, rfl, rfl, _, rfl, ?_⟩
      rw [in_sign c eL]
      by_cases c3 : c ∈ low
      · rw [decide_eq_true c3]
        refine iteT ?_
        refine ⟨_, rfl, _, _, rfl, rfl, (by rw [lL, lF]; exact small (by decide)), z, _, rfl, hz, fun H' sm => ?_⟩
        have e2 : (Str.ofString "abcdefghijklmnopqrstuvwxyz" ++ Str.ofString "0123456789").cps.toList = low ++ fig := by
          rw [← eL, ← eF]
          exact Array.toList_append ..
        rw [e2]
        have g : good z = z.cps.toList.all fun c => decide (c ∈ low ++ fig) := by
          unfold good
          rw [decide_eq_true c1', decide_eq_true c2, e]
          show (true && true && decide (c ∈ low) && _) = _
          rw [decide_eq_true c3]
          rfl
        rw [← g]
        exact q H' sm
      · rw [decide_eq_false c3]
        refine iteF (no _ ?_)
        unfold good
        rw [e]
        show (_ && _ && decide (c ∈ low) && _) = false
        rw [decide_eq_false c3, Bool.and_false, Bool.false_and]
    · rw [decide_eq_false c2]
      refine iteT (no _ ?_)
      unfold good
      rw [decide_eq_false c2, Bool.and_false, Bool.false_and, Bool.false_and]
  · refine ⟨_, rfl, ?_⟩
    refine iteT (no _ ?_)
    have c1' : ¬ (1 : Int) ≤ (z.length : Nat) := of_decide_eq_false (Bool.eq_false_iff.mpr c1)
    unfold good
    rw [decide_eq_false c1', Bool.false_and, Bool.false_and, Bool.false_and]

theorem sc_is_number : FnScope ["word"] ["word"] (defScope s_is_number) := ⟨rfl, rfl, rfl, by decide +kernel, rfl, by decide +kernel, by decide +kernel⟩
theorem ok_is_number {fa cJob : Addr} {fd : FuncData} (F : Fun K "is_number" "is_number" s_is_number fa fd) (T : Txt K mg cJob) (D_made_of : Dfn P w K mg base 1 "made_of" ["word", "signs"] (sp_made_of K)) :
    FnOk P w K mg base CX0 2 fa fd ["word"] (sp_is_number K) := by
  refine F.ok sc_is_number (fun vs H Q E h => ?_) (fun cdv A outer s H vs Q E hr h => ?_)
  · obtain ⟨z, rfl, _⟩ := h
    rfl
  obtain ⟨z, rfl, hz, q⟩ := h
  refine ⟨_, (pss_cons (ps_if (PW.pt (pw_or (pt_not (pt_chain op_le op_le pe_int (pe_callB call_len_str rfl T.len PySem.boot_len (pa_cons (pv 0) pa_nil)) (pe_gi T.NUMBER_MOST rfl))) (pw_or1 (pt_not (pt_truth (pe_callD D_made_of (hr.mono (by decide)) rfl (pa_cons (pv 0) (pa_cons (pe_gs T.FIGURES rfl) pa_nil))) (fun _ => rfl)))))) (pss_one (ps_ret pe_bl)) pss_nil)
  (pss_one (ps_ret (pe_or (pe_cmpR op_eq (pv 0) pe_str (nomark _)) (pe_one (pe_cmpR op_ne (pe_ix ix_str (pv 0) pe_int (fun _ _ => rfl)) pe_str (nomark _))))))), ?_⟩
  have hsz : z.length ≤ sizeLine := Nat.le_trans hz (small (by decide))
  have hne : z.cps.toList.length = z.length := len_toList z
  have no : ∀ b H', Same H H' → isnum z = b → Q (.bl b) H' := fun b H' sm e => by rw [← e]; exact q H' sm
  refine ⟨_, rfl, z, rfl, hsz, _, _, rfl, rfl, _, rfl, ?_⟩
  refine ite2 (fun c1 => ?_) (fun c1 => ?_)
  · have c1' : (1 : Int) ≤ (z.length : Nat) := of_decide_eq_true c1
    refine ⟨_, _, rfl, rfl, _, rfl, ?_⟩
    by_cases c2 : ((z.length : Nat) : Int) ≤ 9
    · rw [decide_eq_true c2]
      refine iteF ?_
      refine ⟨_, rfl, z, _, rfl, hz, fun H' sm => ?_⟩
      refine ⟨_, rfl, ?_⟩
      rw [eF]
      cases c3 : (z.cps.toList.all fun c => decide (c ∈ fig)) with
      | false =>
        refine iteT (no _ H' sm ?_)
        unfold isnum
        rw [c3, Bool.and_false, Bool.false_and]
      | true =>
        refine iteF ?_
        obtain ⟨c, r, e⟩ : ∃ c r, z.cps.toList = c :: r := by
          cases e : z.cps.toList with
          | nil => rw [e] at hne; simp at hne; omega
          | cons c r => exact ⟨c, r, rfl⟩
        have num : isnum z = (decide (z = ⟨#[48]⟩) || !decide (c = 48)) := by
          unfold isnum
          rw [decide_eq_true c1', decide_eq_true c2, c3, e]
          rfl
        refine ⟨_, rfl, rfl, _, rfl, ?_⟩
        refine ite2 (fun c4 => ?_) (fun c4 => ?_)
        · have c4' : V.str z = V.str (Str.ofString "0") := of_decide_eq_true c4
          have c5 : z = ⟨#[48]⟩ := by
            rw [nought_is] at c4'
            injection c4'
          refine no _ H' sm ?_
          rw [num, decide_eq_true c5]
          rfl
        · have c4' : ¬ V.str z = V.str (Str.ofString "0") := fun e => c4 (decide_eq_true e)
          have c5 : ¬ z = ⟨#[48]⟩ := fun e => c4' (by rw [e, nought_is])
          refine ⟨_, rfl, z, _, c, rfl, rfl, hsz, (by rw [e]; exact atI_nat (j := 0) rfl), rfl, no _ H' sm ?_⟩
          rw [num, decide_eq_false c5, Bool.false_or, sign_is]
    · rw [decide_eq_false c2]
      refine iteT (iteT (no _ H (Same.refl H) ?_))
      unfold isnum
      rw [decide_eq_false c2, Bool.and_false, Bool.false_and, Bool.false_and]
  · refine ⟨_, rfl, ?_⟩
    refine iteT (iteT (no _ H (Same.refl H) ?_))
    have c1' : ¬ (1 : Int) ≤ (z.length : Nat) := of_decide_eq_false (Bool.eq_false_iff.mpr c1)
    unfold isnum
    rw [decide_eq_false c1', Bool.false_and, Bool.false_and, Bool.false_and]

theorem sc_number_in : FnScope ["word", "least", "most", "number"] ["word", "least", "most"] (defScope s_number_in) := ⟨rfl, rfl, rfl, by decide +kernel, rfl, by decide +kernel, by decide +kernel⟩
theorem ok_number_in {fa cJob : Addr} {fd : FuncData} (F : Fun K "number_in" "number_in" s_number_in fa fd) (T : Txt K mg cJob) (D_is_number : Dfn P w K mg base 2 "is_number" ["word"] (sp_is_number K)) :
    FnOk P w K mg base CX0 3 fa fd ["word", "least", "most"] (sp_number_in K) := by
  refine F.ok sc_number_in (fun vs H Q E h => ?_) (fun cdv A outer s H vs Q E hr h => ?_)
  · obtain ⟨z, lo, hi, rfl, _⟩ := h
    rfl
  obtain ⟨z, lo, hi, rfl, hz, q⟩ := h
  refine ⟨_, (pss_cons (ps_if (pt_not (pt_truth (pe_callD D_is_number (hr.mono (by decide)) rfl (pa_cons (pv 0) pa_nil)) (fun _ => rfl))) (pss_one (ps_ret pe_non)) pss_nil)
  (pss_cons (ps_set (i := 3) sc_number_in.nd rfl (by first | exact Or.inl rfl | exact Or.inr rfl) (pe_callTy call_int_text rfl T.int bt_int (pa_cons (pv 0) pa_nil)))
  (pss_one (ps_ret (pe_ifExp (pt_chain op_le op_le (pv 1) (pv 3) (pv 2)) (pv 3) pe_non))))), ?_⟩
  refine ⟨_, rfl, z, rfl, hz, fun H' sm => ?_⟩
  have fin : ∀ v, inNum z lo hi = v → Q v H' := fun v e => by rw [← e]; exact q H' sm
  refine ⟨_, rfl, ?_⟩
  cases hn : isnum z with
  | false =>
    refine iteT (fin _ (if_neg ?_))
    rw [hn]
    simp
  | true =>
    refine iteF ?_
    refine ⟨_, rfl, z, val z, rfl, isnum_text hn hz, by omega, ?_⟩
    refine ⟨_, rfl, _, rfl, _, _, rfl, rfl, _, rfl, ?_⟩
    by_cases c1 : lo ≤ val z
    · rw [decide_eq_true c1]
      refine iteT ?_
      refine ⟨_, rfl, _, _, rfl, rfl, _, rfl, ?_⟩
      by_cases c2 : val z ≤ hi
      · rw [decide_eq_true c2]
        refine iteT ⟨_, rfl, fin _ (if_pos ?_)⟩
        rw [hn, decide_eq_true c1, decide_eq_true c2]
        rfl
      · rw [decide_eq_false c2]
        refine iteF (fin _ (if_neg ?_))
        rw [decide_eq_false c2, Bool.and_false]
        simp
    · rw [decide_eq_false c1]
      refine iteF ⟨_, rfl, ?_⟩
      refine iteF (fin _ (if_neg ?_))
      rw [decide_eq_false c1, Bool.and_false, Bool.false_and]
      simp

theorem sc_is_layout : FnScope ["word"] ["word"] (defScope s_is_layout) := ⟨rfl, rfl, rfl, by decide +kernel, rfl, by decide +kernel, by decide +kernel⟩
theorem ok_is_layout {fa cJob : Addr} {fd : FuncData} (F : Fun K "is_layout" "is_layout" s_is_layout fa fd) (T : Txt K mg cJob) (D_number_in : Dfn P w K mg base 3 "number_in" ["word", "least", "most"] (sp_number_in K)) :
    FnOk P w K mg base CX0 4 fa fd ["word"] (sp_is_layout K) := by
  refine F.ok sc_is_layout (fun vs H Q E h => ?_) (fun cdv A outer s H vs Q E hr h => ?_)
  · obtain ⟨z, rfl, _⟩ := h
    rfl
  obtain ⟨z, rfl, hz, q⟩ := h
  have hsz : z.length ≤ sizeLine := Nat.le_trans hz (small (by decide))
  refine ⟨_, (pss_cons (ps_if (pt_cmpR op_eq (pv 0) pe_str (nomark _)) (pss_one (ps_ret pe_bl)) pss_nil)
  (pss_one (ps_ret (pe_and (pe_bm PySem.F.plainAttrs_str PySem.F.slot_str_startswith PySem.F.type_str_startswith mt_startswith (pv 0) (pa_cons (pe_gs T.UP rfl) pa_nil)) (pe_one (pe_cmpR op_notN (pe_callD D_number_in (hr.mono (by decide)) rfl (pa_cons (pe_slice sl_str (pv 0) (po_some (pe_callB call_len_str rfl T.len PySem.boot_len (pa_cons (pe_gs T.UP rfl) pa_nil))) po_none) (pa_cons (pe_gi T.UP_LEAST rfl) (pa_cons (pe_gi T.UP_MOST rfl) pa_nil)))) pe_non (nomark _))))))), ?_⟩
  refine ⟨_, rfl, rfl, _, rfl, ?_⟩
  refine ite2 (fun c1 => ?_) (fun c1 => ?_)
  · have c1' : V.str z = V.str (Str.ofString "both") := of_decide_eq_true c1
    have c2 : z = Str.ofString "both" := by injection c1'
    have e : lay z = true := by
      unfold lay
      rw [decide_eq_true c2]
      rfl
    have := q H (Same.refl H)
    rw [e] at this
    exact this
  · have c2 : ¬ z = Str.ofString "both" := fun e => c1 (decide_eq_true (by rw [e]))
    refine ⟨_, rfl, rfl, _, _, rfl, rfl, _, rfl, ?_⟩
    have l3 : (((Str.ofString "up:").length : Nat) : Int) = 3 := by decide +kernel
    cases hs : Txt.startswith z (Str.ofString "up:") with
    | false =>
      refine iteF ?_
      have e : lay z = false := by
        unfold lay
        rw [decide_eq_false c2, hs]
        rfl
      have := q H (Same.refl H)
      rw [e] at this
      exact this
    | true =>
      refine iteT ?_
      refine ⟨_, rfl, _, rfl, (by decide +kernel), _, rfl, _, rfl, hsz, ?_⟩
      rw [l3]
      have w1 := Txt.slice_le z (some 3) none
      refine ⟨_, 2, 16, rfl, by omega, fun H' sm => ?_⟩
      refine ⟨rfl, ?_⟩
      have e : lay z = !decide (inNum (Txt.slice z (some 3) none) 2 16 = V.non) := by
        unfold lay
        rw [decide_eq_false c2, hs, Bool.false_or, Bool.true_and]
        by_cases e : inNum (Txt.slice z (some 3) none) 2 16 = V.non
        · rw [decide_eq_true e, decide_eq_false (fun x => x e)]
          rfl
        · rw [decide_eq_false e, decide_eq_true e]
          rfl
      rw [← e]
      exact q H' sm

end
end My

namespace My
open PySem L2
open Blk (sg sg_inj sg_app)
section
variable {P : Program} {w : World} {K : PySem.W.Frag} {mg : Str → Option Value} {base : Heap}
def sp_words_of (_K : PySem.W.Frag) : Sp := fun vs H Q _ => ∃ z : Str, vs = [.str z] ∧ z.length ≤ 400 ∧ ∀ p H', Same H H' → H p = none → H' p = some (.lst ((Txt.split z cBlank).map V.str)) → Q (.ref p) H'
def sp_read_head (_K : PySem.W.Frag) : Sp := fun vs H Q _ => ∃ (p : Addr) (ws : List Str) (n : Int), vs = [.ref p] ∧ H p = some (.lst (ws.map V.str)) ∧ (∀ w ∈ ws, w.length ≤ 400) ∧ readHead ws = .ok n ∧ ∀ H', Same H H' → Q (.int n) H'
def sp_value_of (_K : PySem.W.Frag) : Sp := fun vs H Q _ => ∃ (z : Str) (n : Int), vs = [.str z, .int n] ∧ z.length ≤ 400 ∧ ∀ x H', Same H H' → HoldsV H' x (valueOf z n) → Q x H'
def sp_sort_of (_K : PySem.W.Frag) : Sp := fun vs H Q _ => ∃ z : Str, vs = [.str z] ∧ z.length ≤ 400 ∧ ∀ H', Same H H' → Q (.str (sortOf z)) H'
def sp_read_colour (_K : PySem.W.Frag) : Sp := fun vs H Q _ => ∃ (z : Str) (n : Int), vs = [.str z, .int n] ∧ z.length ≤ 400 ∧ ∀ x H', Same H H' → HoldsV H' x (readCol z n) → Q x H'
def sp_Job_init (C : Addr) : Sp := fun vs H Q _ => ∃ (x dx : Addr) (a b c d e f g h i j : V), vs = [.ref x, a, b, c, d, e, f, g, h, i, j] ∧ H x = some (.ins C dx []) ∧ Q .non (upd H x (.ins C dx (jobF a b c d e f g h i j)))
def sp_told_job (C : Addr) : Sp := fun vs H Q _ => ∃ (p D : Addr) (ws : List Str) (n : Int) (kvs : List (Key × V)) (t : List (Str × VO)), vs = [.ref p, .int n, .ref D] ∧ H p = some (.lst (ws.map V.str)) ∧ 2 ≤ ws.length ∧ Told H D kvs t ∧ t.length ≤ 400 ∧
  ∀ x H', Same H H' → JobAt C H' x (toldJob ws n t) → Q (.ref x) H'
def sp_read_job (C : Addr) : Sp := fun vs H Q _ => ∃ (z : Str) (f : JF), vs = [.str z] ∧ z.length ≤ 400 ∧ readJ z = .ok f ∧ ∀ x H', Same H H' → JobAt C H' x f → Q (.ref x) H'
theorem sc_words_of : FnScope ["line"] ["line"] (defScope s_words_of) := ⟨rfl, rfl, rfl, by decide +kernel, rfl, by decide +kernel, by decide +kernel⟩
theorem ok_words_of {fa cJob : Addr} {fd : FuncData} (F : Fun K "words_of" "words_of" s_words_of fa fd) (T : Txt K mg cJob)  :
    FnOk P w K mg base CX0 1 fa fd ["line"] (sp_words_of K) := by
  refine F.ok sc_words_of (fun vs H Q E h => ?_) (fun cdv A outer s H vs Q E hr h => ?_)
  · obtain ⟨z, rfl, _⟩ := h
    rfl
  obtain ⟨z, rfl, hz, q⟩ := h
  refine ⟨_, (pss_one (ps_ret (pe_bm PySem.F.plainAttrs_str PySem.F.slot_str_split PySem.F.type_str_split mt_split (pv 0) (pa_cons pe_str pa_nil)))), ?_⟩
  refine ⟨_, rfl, rfl, z, _, rfl, rfl, (by decide +kernel), Nat.le_trans (Nat.add_le_add_right hz 2) (small (by decide)), fun p hp => ?_⟩
  exact q p _ (same_new hp _) hp upd_same
theorem sc_read_colour : FnScope ["span", "pages", "ends", "first", "last"] ["span", "pages"] (defScope s_read_colour) := ⟨rfl, rfl, rfl, by decide +kernel, rfl, by decide +kernel, by decide +kernel⟩
theorem ok_read_colour {fa cJob : Addr} {fd : FuncData} (F : Fun K "read_colour" "read_colour" s_read_colour fa fd) (T : Txt K mg cJob) (D_number_in : Dfn P w K mg base 3 "number_in" ["word", "least", "most"] (sp_number_in K)) :
    FnOk P w K mg base CX0 4 fa fd ["span", "pages"] (sp_read_colour K) := by
  refine F.ok sc_read_colour (fun vs H Q E h => ?_) (fun cdv A outer s H vs Q E hr h => ?_)
  · obtain ⟨z, n, rfl, _⟩ := h
    rfl
  obtain ⟨z, n, rfl, hz, q⟩ := h
  refine ⟨_, (pss_cons (ps_set (i := 2) sc_read_colour.nd rfl (by first | exact Or.inl rfl | exact Or.inr rfl) (pe_bm PySem.F.plainAttrs_str PySem.F.slot_str_split PySem.F.type_str_split mt_split (pv 0) (pa_cons pe_str pa_nil)))
  (pss_cons (ps_if (pt_cmpR op_ne (pe_callB call_len_seq rfl T.len PySem.boot_len (pa_cons (pv 2) pa_nil)) pe_int (nomark _)) (pss_one (ps_ret pe_non)) pss_nil)
  (pss_cons (ps_set (i := 3) sc_read_colour.nd rfl (by first | exact Or.inl rfl | exact Or.inr rfl) (pe_callD D_number_in (hr.mono (by decide)) rfl (pa_cons (pe_ix ix_list (pv 2) pe_int (fun _ _ => rfl)) (pa_cons pe_int (pa_cons (pv 1) pa_nil)))))
  (pss_cons (ps_if (pt_cmpR op_isN (pv 3) pe_non (nomark _)) (pss_one (ps_ret pe_non)) pss_nil)
  (pss_cons (ps_set (i := 4) sc_read_colour.nd rfl (by first | exact Or.inl rfl | exact Or.inr rfl) (pe_callD D_number_in (hr.mono (by decide)) rfl (pa_cons (pe_ix ix_list (pv 2) pe_int (fun _ _ => rfl)) (pa_cons (pv 3) (pa_cons (pv 1) pa_nil)))))
  (pss_one (ps_ret (pe_ifExp (pt_cmpR op_isN (pv 4) pe_non (nomark _)) pe_non (pe_tup (pa_cons (pv 3) (pa_cons (pv 4) pa_nil))))))))))), ?_⟩
  refine ⟨_, rfl, rfl, z, _, rfl, rfl, (by decide +kernel), Nat.le_trans (Nat.add_le_add_right hz 2) (small (by decide)), fun p hp => ?_⟩
  have s1 := same_new hp (.lst ((Txt.split z cDash).map V.str))
  have le : ∀ w ∈ Txt.split z cDash, w.length ≤ 400 := fun w hw => Nat.le_trans (split_part_le z cDash w hw) hz
  refine ⟨_, rfl, p, _, rfl, .inl (SqL.of upd_same), rfl, _, rfl, ?_⟩
  have no : ∀ H', Same H H' → readCol z n = non → Q .non H' := fun H' sm e => q _ H' sm (by rw [e]; exact rfl)
  have L1 : (((Txt.split z cDash).map V.str).length : Int) = ((Txt.split z cDash).length : Nat) := by rw [List.length_map]
  by_cases c2 : (Txt.split z cDash).length = 2
  · obtain ⟨a, b, e⟩ : ∃ a b, Txt.split z cDash = [a, b] := by
      match hs : Txt.split z cDash with
      | [a, b] => exact ⟨a, b, rfl⟩
      | [] => rw [hs] at c2; cases c2
      | [a] => rw [hs] at c2; cases c2
      | a :: b :: c :: r => rw [hs] at c2; simp at c2
    rw [decide_eq_true (by show V.int (((Txt.split z cDash).map V.str).length : Int) = V.int 2; rw [L1, c2]; rfl)]
    refine iteF ?_
    have ha : a.length ≤ 400 := le a (by rw [e]; exact List.mem_cons_self)
    have hb : b.length ≤ 400 := le b (by rw [e]; exact List.mem_cons_of_mem _ List.mem_cons_self)
    have hp2 : ∀ H', Same (upd H p (.lst ((Txt.split z cDash).map V.str))) H' → H' p = some (.lst [V.str a, V.str b]) := fun H' sm => by
      have := sm _ _ (upd_same (H := H) (a := p))
      rw [e] at this
      exact this
    refine ⟨_, rfl, p, _, _, _, rfl, rfl, SqL.of (hp2 _ (Same.refl _)), atI_nat (j := 0) rfl, _, rfl, a, 1, n, rfl, ha, fun H1 sm1 => ?_⟩
    refine ⟨_, rfl, rfl, _, rfl, ?_⟩
    rcases inNum_cases a 1 n with ea | ⟨f, ea, _⟩
    · rw [ea]
      refine iteT (no _ (s1.trans sm1) ?_)
      unfold readCol
      rw [e]
      dsimp only
      rw [ea]
    · rw [ea]
      refine iteF ?_
      refine ⟨_, rfl, p, _, _, _, rfl, rfl, SqL.of (hp2 _ sm1), atI_nat (j := 1) rfl, _, rfl, _, rfl, b, f, n, rfl, hb, fun H2 sm2 => ?_⟩
      refine ⟨_, rfl, rfl, _, rfl, ?_⟩
      rcases inNum_cases b f n with eb | ⟨l, eb, _⟩
      · rw [eb]
        refine iteT (no _ ((s1.trans sm1).trans sm2) ?_)
        unfold readCol
        rw [e]
        dsimp only
        rw [ea]
        dsimp only
        rw [eb]
      · rw [eb]
        refine iteF ⟨_, rfl, _, rfl, small (by show 2 ≤ 1000; decide), fun t ht => ?_⟩
        refine q _ _ (((s1.trans sm1).trans sm2).trans (same_new ht _)) ?_
        have rc : readCol z n = .pair f l := by
          unfold readCol
          rw [e]
          dsimp only
          rw [ea]
          dsimp only
          rw [eb]
        rw [rc]
        exact ⟨t, rfl, upd_same⟩
  · rw [decide_eq_false (by
      intro z
      injection z with z
      rw [L1] at z
      exact c2 (by omega))]
    refine iteT (no _ s1 ?_)
    unfold readCol
    match hs : Txt.split z cDash with
    | [a, b] => rw [hs] at c2; exact absurd rfl c2
    | [] => rfl
    | [a] => rfl
    | a :: b :: c :: r => rfl
theorem sc_sort_of : FnScope ["word", "start"] ["word"] (defScope s_sort_of) := ⟨rfl, rfl, rfl, by decide +kernel, rfl, by decide +kernel, by decide +kernel⟩
theorem ok_sort_of {fa cJob : Addr} {fd : FuncData} (F : Fun K "sort_of" "sort_of" s_sort_of fa fd) (T : Txt K mg cJob) (D_is_layout : Dfn P w K mg base 4 "is_layout" ["word"] (sp_is_layout K)) :
    FnOk P w K mg base CX0 5 fa fd ["word"] (sp_sort_of K) := by
  refine F.ok sc_sort_of (fun vs H Q E h => ?_) (fun cdv A outer s H vs Q E hr h => ?_)
  · obtain ⟨z, rfl, _⟩ := h
    rfl
  obtain ⟨z, rfl, hz, q⟩ := h
  refine ⟨_, (pss_cons (ps_if (pt_truth (pe_callD D_is_layout (hr.mono (by decide)) rfl (pa_cons (pv 0) pa_nil)) (fun _ => rfl)) (pss_one (ps_ret (pe_gs T.LAYOUT rfl))) pss_nil)
  (pss_cons (ps_for PassesOwn.never rfl (pi_tup (pe_tup (pa_cons (pe_gs T.COPIES rfl) (pa_cons (pe_gs T.COLOUR rfl) (pa_cons (pe_gs T.PAPER rfl) (pa_cons (pe_gs T.COVER rfl) pa_nil)))))) (pg_name (i := 1) sc_sort_of.nd rfl (by first | exact Or.inl rfl | exact Or.inr rfl))
  (pss_one (ps_if (pt_truth (pe_bm PySem.F.plainAttrs_str PySem.F.slot_str_startswith PySem.F.type_str_startswith mt_startswith (pv 0) (pa_cons (pv 1) pa_nil)) (fun _ => rfl)) (pss_one (ps_ret (pv 1))) pss_nil)))
  (pss_one (ps_ret (pv 0))))), ?_⟩
  have fin : ∀ v H', Same H H' → sortOf z = v → Q (.str v) H' := fun v H' sm e => by rw [← e]; exact q H' sm
  refine ⟨_, rfl, z, rfl, hz, fun H1 s1 => ?_⟩
  refine ⟨_, rfl, ?_⟩
  cases hl : lay z with
  | true => exact iteT (fin _ H1 s1 (by unfold sortOf; rw [hl, if_pos rfl]))
  | false =>
    refine iteF ?_
    refine ⟨small (by show 4 ≤ 1000; decide), fun t ht => ?_⟩
    have s2 := s1.trans (same_new ht (.tup (four.map V.str)))
    refine ⟨t, rfl, ⟨_, SqT.of upd_same⟩, for_tup (K := K) (a := t) (xs := four.map V.str) (fun i σ H' => H' = upd H1 t (.tup (four.map V.str)) ∧ (∃ v, σ = [some (.str z), v]) ∧ (four.take i).find? (fun p => Txt.startswith z p) = none) ⟨rfl, ⟨_, rfl⟩, rfl⟩ (fun i σ H' _ p => ?_) (fun i x σ H' hx p => ?_) (fun σ H' p => ?_)⟩
    · rw [p.1]
      exact SqT.of upd_same
    · obtain ⟨rfl, ⟨v, rfl⟩, hn⟩ := p
      rw [List.getElem?_map] at hx
      obtain ⟨y, hy, rfl⟩ := Option.map_eq_some_iff.mp hx
      refine ⟨_, rfl, rfl, _, rfl, z, y, rfl, rfl, ?_⟩
      refine ⟨_, rfl, ?_⟩
      have tk := take_more hy
      cases hs : Txt.startswith z y with
      | true =>
        refine iteT ⟨_, rfl, fin _ _ s2 ?_⟩
        unfold sortOf
        rw [hl, if_neg (by decide), ← List.take_append_drop (i + 1) four, tk, List.append_assoc, List.find?_append, hn]
        show ((List.find? (fun p => Txt.startswith z p) (y :: four.drop (i + 1)))).getD z = y
        rw [List.find?_cons_of_pos (h := hs)]
        rfl
      | false =>
        refine iteF ⟨rfl, ⟨_, rfl⟩, ?_⟩
        rw [tk, List.find?_append, hn]
        show List.find? (fun p => Txt.startswith z p) [y] = none
        rw [List.find?_cons_of_neg (h := by rw [hs]; decide)]
        rfl
    · obtain ⟨rfl, ⟨v, rfl⟩, hn⟩ := p
      refine ⟨_, rfl, fin _ _ s2 ?_⟩
      unfold sortOf
      rw [hl, if_neg (by decide)]
      rw [List.length_map, List.take_of_length_le (Nat.le_refl _)] at hn
      rw [hn]
      rfl
theorem sc_value_of : FnScope ["word", "pages", "start"] ["word", "pages"] (defScope s_value_of) := ⟨rfl, rfl, rfl, by decide +kernel, rfl, by decide +kernel, by decide +kernel⟩
theorem ok_value_of {fa cJob : Addr} {fd : FuncData} (F : Fun K "value_of" "value_of" s_value_of fa fd) (T : Txt K mg cJob) (D_is_layout : Dfn P w K mg base 4 "is_layout" ["word"] (sp_is_layout K)) (D_number_in : Dfn P w K mg base 3 "number_in" ["word", "least", "most"] (sp_number_in K)) (D_read_colour : Dfn P w K mg base 4 "read_colour" ["span", "pages"] (sp_read_colour K)) (D_is_name : Dfn P w K mg base 2 "is_name" ["word"] (sp_is_name K)) :
    FnOk P w K mg base CX0 5 fa fd ["word", "pages"] (sp_value_of K) := by
  refine F.ok sc_value_of (fun vs H Q E h => ?_) (fun cdv A outer s H vs Q E hr h => ?_)
  · obtain ⟨z, n, rfl, _⟩ := h
    rfl
  obtain ⟨z, n, rfl, hz, q⟩ := h
  have hsz : z.length ≤ sizeLine := Nat.le_trans hz (small (by decide))
  refine ⟨_, (pss_cons (ps_if (pt_cmpR op_eq (pv 0) (pe_gs T.STAPLE rfl) (nomark _)) (pss_one (ps_ret pe_bl)) pss_nil)
  (pss_cons (ps_if (pt_truth (pe_callD D_is_layout (hr.mono (by decide)) rfl (pa_cons (pv 0) pa_nil)) (fun _ => rfl)) (pss_one (ps_ret (pv 0))) pss_nil)
  (pss_cons (ps_if (pt_truth (pe_bm PySem.F.plainAttrs_str PySem.F.slot_str_startswith PySem.F.type_str_startswith mt_startswith (pv 0) (pa_cons (pe_gs T.COPIES rfl) pa_nil)) (fun _ => rfl)) (pss_one (ps_ret (pe_callD D_number_in (hr.mono (by decide)) rfl (pa_cons (pe_slice sl_str (pv 0) (po_some (pe_callB call_len_str rfl T.len PySem.boot_len (pa_cons (pe_gs T.COPIES rfl) pa_nil))) po_none) (pa_cons pe_int (pa_cons (pe_gi T.COPIES_MOST rfl) pa_nil)))))) pss_nil)
  (pss_cons (ps_if (pt_truth (pe_bm PySem.F.plainAttrs_str PySem.F.slot_str_startswith PySem.F.type_str_startswith mt_startswith (pv 0) (pa_cons (pe_gs T.COLOUR rfl) pa_nil)) (fun _ => rfl)) (pss_one (ps_ret (pe_callD D_read_colour (hr.mono (by decide)) rfl (pa_cons (pe_slice sl_str (pv 0) (po_some (pe_callB call_len_str rfl T.len PySem.boot_len (pa_cons (pe_gs T.COLOUR rfl) pa_nil))) po_none) (pa_cons (pv 1) pa_nil))))) pss_nil)
  (pss_cons (ps_for PassesOwn.never rfl (pi_tup (pe_tup (pa_cons (pe_gs T.PAPER rfl) (pa_cons (pe_gs T.COVER rfl) (pa_cons (pe_gs T.AFTER rfl) pa_nil))))) (pg_name (i := 2) sc_value_of.nd rfl (by first | exact Or.inl rfl | exact Or.inr rfl))
  (pss_one (ps_if (PW.pt (pw_and (pt_truth (pe_bm PySem.F.plainAttrs_str PySem.F.slot_str_startswith PySem.F.type_str_startswith mt_startswith (pv 0) (pa_cons (pv 2) pa_nil)) (fun _ => rfl)) (pw_and1 (pt_truth (pe_callD D_is_name (hr.mono (by decide)) rfl (pa_cons (pe_slice sl_str (pv 0) (po_some (pe_callB call_len_str rfl T.len PySem.boot_len (pa_cons (pv 2) pa_nil))) po_none) pa_nil)) (fun _ => rfl))))) (pss_one (ps_ret (pe_slice sl_str (pv 0) (po_some (pe_callB call_len_str rfl T.len PySem.boot_len (pa_cons (pv 2) pa_nil))) po_none))) pss_nil)))
  (pss_one (ps_ret pe_non))))))), ?_⟩
  have fin : ∀ v H', Same H H' → valueOf z n = .v v → Q v H' := fun v H' sm e => q v H' sm (by rw [e]; exact rfl)
  refine ⟨_, rfl, rfl, _, rfl, ?_⟩
  by_cases c1 : z = cSta
  · rw [decide_eq_true (by rw [c1])]
    exact iteT (fin _ H (Same.refl H) (by unfold valueOf; rw [if_pos c1]))
  rw [decide_eq_false (by intro e; injection e with e; exact c1 e)]
  refine iteF ?_
  refine ⟨_, rfl, z, rfl, hz, fun H1 s1 => ?_⟩
  refine ⟨_, rfl, ?_⟩
  cases c2 : lay z with
  | true => exact iteT ⟨_, rfl, fin _ H1 s1 (by unfold valueOf; rw [if_neg c1, if_pos c2])⟩
  | false =>
  refine iteF ?_
  refine ⟨_, rfl, rfl, z, cX, rfl, rfl, ?_⟩
  refine ⟨_, rfl, ?_⟩
  cases c3 : Txt.startswith z cX with
  | true =>
    refine iteT ?_
    have w1 := Txt.slice_le z (some 1) none
    refine ⟨_, rfl, _, rfl, small (by decide +kernel), _, rfl, z, rfl, hsz, _, 1, 99, rfl, by exact Nat.le_trans (Txt.slice_le z _ none) hz, fun H2 s2 => fin _ H2 (s1.trans s2) ?_⟩
    unfold valueOf
    rw [if_neg c1, c2, if_neg (by decide), if_pos c3]
    rfl
  | false =>
  refine iteF ?_
  refine ⟨_, rfl, rfl, z, cCol, rfl, rfl, ?_⟩
  refine ⟨_, rfl, ?_⟩
  cases c4 : Txt.startswith z cCol with
  | true =>
    refine iteT ?_
    refine ⟨_, rfl, _, rfl, small (by decide +kernel), _, rfl, z, rfl, hsz, _, rfl, _, n, rfl, by exact Nat.le_trans (Txt.slice_le z _ none) hz, fun x H2 s2 hx => q x H2 (s1.trans s2) ?_⟩
    have e : valueOf z n = readCol (rst z cCol) n := by
      unfold valueOf
      rw [if_neg c1, c2, if_neg (by decide), c3, if_neg (by decide), if_pos c4]
    rw [e]
    exact hx
  | false =>
  refine iteF ?_
  refine ⟨small (by show 3 ≤ 1000; decide), fun t ht => ?_⟩
  have base_ : ∀ r, three.find? (fun p => Txt.startswith z p && good (rst z p)) = r → valueOf z n = (match r with | some p => .v (.str (rst z p)) | none => non) := fun r hr => by
    unfold valueOf
    rw [if_neg c1, c2, if_neg (by decide), c3, if_neg (by decide), c4, if_neg (by decide), hr]
    all_goals (cases r <;> rfl)
  refine ⟨t, rfl, ⟨_, SqT.of upd_same⟩, for_tup (K := K) (a := t) (xs := three.map V.str) (fun i σ H' => Same (upd H1 t (.tup (three.map V.str))) H' ∧ (∃ v, σ = [some (.str z), some (.int n), v]) ∧ (three.take i).find? (fun p => Txt.startswith z p && good (rst z p)) = none) ⟨Same.refl _, ⟨_, rfl⟩, rfl⟩ (fun i σ H' _ p => ?_) (fun i x σ H' hx p => ?_) (fun σ H' p => ?_)⟩
  · exact SqT.of (p.1 _ _ upd_same)
  · obtain ⟨s2, ⟨v, rfl⟩, hn⟩ := p
    have s3 : Same H H' := (s1.trans (same_new ht _)).trans s2
    rw [List.getElem?_map] at hx
    obtain ⟨y, hy, rfl⟩ := Option.map_eq_some_iff.mp hx
    have ly : y.length ≤ 1000 := by
      have hm : y ∈ three := List.mem_of_getElem? hy
      have : ∀ w ∈ three, w.length ≤ 1000 := by decide +kernel
      exact this y hm
    refine ⟨_, rfl, rfl, _, rfl, z, y, rfl, rfl, ?_⟩
    refine ⟨_, rfl, ?_⟩
    have tk := take_more hy
    have next : (Txt.startswith z y && good (rst z y)) = false → (three.take (i + 1)).find? (fun p => Txt.startswith z p && good (rst z p)) = none := fun e => by
      rw [tk, List.find?_append, hn]
      show List.find? (fun p => Txt.startswith z p && good (rst z p)) [y] = none
      rw [List.find?_cons_of_neg (h := by rw [e]; decide)]
      rfl
    cases hs : Txt.startswith z y with
    | false => exact iteF (iteF ⟨s2, ⟨_, rfl⟩, next (by rw [hs]; rfl)⟩)
    | true =>
      refine iteT ?_
      refine ⟨_, rfl, _, rfl, y, rfl, small ly, _, rfl, z, rfl, hsz, _, rfl, Nat.le_trans (Txt.slice_le z _ none) hz, fun H2 s4 => ?_⟩
      refine ⟨_, rfl, ?_⟩
      cases hg : good (rst z y) with
      | false =>
        have hg' : good (Txt.slice z (some ((y.length : Nat) : Int)) none) = false := hg
        rw [hg']
        exact iteF ⟨s2.trans s4, ⟨_, rfl⟩, next (by rw [hs, hg]; rfl)⟩
      | true =>
        have hg' : good (Txt.slice z (some ((y.length : Nat) : Int)) none) = true := hg
        rw [hg']
        refine iteT ⟨_, rfl, _, rfl, y, rfl, small ly, _, rfl, z, rfl, hsz, ?_⟩
        refine fin _ H2 (s3.trans s4) ?_
        have fd : three.find? (fun p => Txt.startswith z p && good (rst z p)) = some y := by
          rw [← List.take_append_drop (i + 1) three, tk, List.append_assoc, List.find?_append, hn]
          show List.find? (fun p => Txt.startswith z p && good (rst z p)) (y :: three.drop (i + 1)) = some y
          rw [List.find?_cons_of_pos (h := by rw [hs, hg]; rfl)]
        rw [base_ _ fd]
        rfl
  · obtain ⟨s2, ⟨v, rfl⟩, hn⟩ := p
    rw [List.length_map, List.take_of_length_le (Nat.le_refl _)] at hn
    exact fin _ H' ((s1.trans (same_new ht _)).trans s2) (by rw [base_ _ hn]; rfl)

end
end My

namespace My
open PySem L2
open Blk (sg sg_inj sg_app)
section
variable {P : Program} {w : World} {K : PySem.W.Frag} {mg : Str → Option Value} {base : Heap}
theorem head_ok {ws : List Str} {n : Int} (h : readHead ws = .ok n) : ∃ a b c r, ws = a :: b :: c :: r ∧ good a = true ∧ good b = true ∧ inNum c 1 999 = .int n := by
  unfold readHead at h
  by_cases c1 : good (ws.getD 0 cBlank) = false
  · rw [if_pos c1] at h; cases h
  rw [if_neg c1] at h
  by_cases c2 : ws.length < 2
  · rw [if_pos c2] at h; cases h
  rw [if_neg c2] at h
  by_cases c3 : good (ws.getD 1 cBlank) = false
  · rw [if_pos c3] at h; cases h
  rw [if_neg c3] at h
  by_cases c4 : ws.length < 3
  · rw [if_pos c4] at h; cases h
  rw [if_neg c4] at h
  match ws with
  | [] => simp at c2
  | [a] => simp at c2
  | [a, b] => simp at c4
  | a :: b :: c :: r =>
    refine ⟨a, b, c, r, rfl, Bool.not_eq_false _ |>.mp c1, Bool.not_eq_false _ |>.mp c3, ?_⟩
    have h' : (match inNum c 1 999 with | .int n => Except.ok n | _ => .error 2) = Except.ok (ε := Nat) n := h
    rcases inNum_cases c 1 999 with e | ⟨m, e, _⟩
    · rw [e] at h'; cases h'
    · rw [e] at h'
      injection h' with h'
      rw [e, h']
theorem sc_read_head : FnScope ["words", "place", "word", "pages"] ["words"] (defScope s_read_head) := ⟨rfl, rfl, rfl, by decide +kernel, rfl, by decide +kernel, by decide +kernel⟩
theorem ok_read_head {fa cJob : Addr} {fd : FuncData} (F : Fun K "read_head" "read_head" s_read_head fa fd) (T : Txt K mg cJob) (D_number_in : Dfn P w K mg base 3 "number_in" ["word", "least", "most"] (sp_number_in K)) (D_is_name : Dfn P w K mg base 2 "is_name" ["word"] (sp_is_name K)) :
    FnOk P w K mg base CX0 4 fa fd ["words"] (sp_read_head K) := by
  refine F.ok sc_read_head (fun vs H Q E h => ?_) (fun cdv A outer s H vs Q E hr h => ?_)
  · obtain ⟨p, ws, n, rfl, _⟩ := h
    rfl
  obtain ⟨p, ws, n, rfl, hp, hw, hh, q⟩ := h
  obtain ⟨a, b, c, r, rfl, ga, gb, gc⟩ := head_ok hh
  refine ⟨_, (pss_cons (ps_for PassesOwn.never rfl (pi_enum rfl T.enumerate (pa_cons (pe_slice sl_list (pv 0) po_none (po_some (pe_op op_sub (pe_gi T.HEAD rfl) pe_int))) pa_nil)) (pg_tup rfl (pgs_cons (pg_name (i := 1) sc_read_head.nd rfl (by first | exact Or.inl rfl | exact Or.inr rfl)) (pgs_cons (pg_name (i := 2) sc_read_head.nd rfl (by first | exact Or.inl rfl | exact Or.inr rfl)) pgs_nil)))
  (pss_one (ps_if (pt_not (pt_truth (pe_callD D_is_name (hr.mono (by decide)) rfl (pa_cons (pv 2) pa_nil)) (fun _ => rfl))) (pss_one ps_never) pss_nil)))
  (pss_cons (ps_if (pt_cmpR op_lt (pe_callB call_len_seq rfl T.len PySem.boot_len (pa_cons (pv 0) pa_nil)) (pe_gi T.HEAD rfl) (nomark _)) (pss_one ps_never) pss_nil)
  (pss_cons (ps_set (i := 3) sc_read_head.nd rfl (by first | exact Or.inl rfl | exact Or.inr rfl) (pe_callD D_number_in (hr.mono (by decide)) rfl (pa_cons (pe_ix ix_listA (pv 0) (pe_op op_sub (pe_gi T.HEAD rfl) pe_int) (fun _ _ => rfl)) (pa_cons pe_int (pa_cons (pe_gi T.PAGES_MOST rfl) pa_nil)))))
  (pss_cons (ps_if (pt_cmpR op_isN (pv 3) pe_non (nomark _)) (pss_one ps_never) pss_nil)
  (pss_one (ps_ret (pv 3))))))), ?_⟩
  refine ⟨_, rfl, _, _, rfl, rfl, _, rfl, p, _, rfl, SqL.of hp, fun p2 hp2 => ?_⟩
  have cut : cutV ((a :: b :: c :: r).map V.str) none (some (3 - 1)) = [V.str a, V.str b] := by
    rw [show (3 - 1 : Int) = ((2 : Nat) : Int) from rfl, cut_to]
    rfl
  rw [cut]
  have s0 := same_new hp2 (.lst [V.str a, V.str b])
  refine ⟨p2, rfl, ⟨_, SqL.of upd_same⟩, for_enum (K := K) (a := p2) (j := 0) (xs := [V.str a, V.str b]) (fun i σ H' => Same (upd H p2 (.lst [V.str a, V.str b])) H' ∧ ∃ v1 v2 v3 : Option V, σ = [some (.ref p), v1, v2, v3]) ⟨Same.refl _, _, _, _, rfl⟩ (fun i σ H' _ p => SqL.of (p.1 _ _ upd_same)) (fun i x σ H' t hx p ht => ?_) (fun σ H' p => ?_)⟩
  · obtain ⟨s1, v1, v2, v3, rfl⟩ := p
    obtain ⟨y, rfl, gy, ly⟩ : ∃ y, x = V.str y ∧ good y = true ∧ y.length ≤ 400 := by
      match i, hx with
      | 0, hx => exact ⟨a, by simpa using hx.symm, ga, hw a List.mem_cons_self⟩
      | 1, hx => exact ⟨b, by simpa using hx.symm, gb, hw b (List.mem_cons_of_mem _ List.mem_cons_self)⟩
      | i + 2, hx => simp at hx
    refine ⟨t, _, rfl, SqT.of upd_same, rfl, _, _, rfl, _, _, rfl, rfl, ?_⟩
    refine ⟨_, rfl, y, rfl, ly, fun H2 s2 => ?_⟩
    refine ⟨_, rfl, ?_⟩
    rw [gy]
    exact iteF ⟨(s1.trans (same_new ht _)).trans s2, _, _, _, rfl⟩
  · obtain ⟨s1, v1, v2, v3, rfl⟩ := p
    have s2 := s0.trans s1
    have hp1 := s2 _ _ hp
    refine ⟨_, rfl, p, _, rfl, .inl (SqL.of hp1), _, _, rfl, rfl, _, rfl, ?_⟩
    rw [decide_eq_false (by simp; omega)]
    refine iteF ?_
    refine ⟨_, rfl, _, _, rfl, rfl, p, _, _, rfl, rfl, SqL.of hp1, by decide, by show ((3 : Int) - 1) < _; simp; omega, fun v hv => ?_⟩
    have hv' : v = V.str c := by simpa using hv.symm
    subst hv'
    refine ⟨c, 1, 999, rfl, hw c (List.mem_cons_of_mem _ (List.mem_cons_of_mem _ List.mem_cons_self)), fun H2 s3 => ?_⟩
    rw [gc]
    refine ⟨_, rfl, rfl, _, rfl, ?_⟩
    exact iteF ⟨_, rfl, q H2 (s2.trans s3)⟩
theorem sc_Job_init : FnScope ["self", "name", "asker", "pages", "copies", "layout", "paper", "cover", "colour", "staple", "after"] ["self", "name", "asker", "pages", "copies", "layout", "paper", "cover", "colour", "staple", "after"] (defScope s_Job_init) := ⟨rfl, rfl, rfl, by decide +kernel, rfl, by decide +kernel, by decide +kernel⟩
theorem ok_Job_init {fa cJob : Addr} {fd : FuncData} (F : Fun K "__init__" "Job.__init__" s_Job_init fa fd) (T : Txt K mg cJob)  :
    FnOk P w K mg base CX0 1 fa fd ["self", "name", "asker", "pages", "copies", "layout", "paper", "cover", "colour", "staple", "after"] (sp_Job_init cJob) := by
  refine F.ok sc_Job_init (fun vs H Q E h => ?_) (fun cdv A outer s H vs Q E hr h => ?_)
  · obtain ⟨x, dx, a, b, c, d, e, f, g, h, i, j, rfl, _⟩ := h
    rfl
  obtain ⟨x, dx, a, b, c, d, e, f, g, h, i, j, rfl, hx, q⟩ := h
  refine ⟨_, (pss_cons (ps_fld (pv 0) (pv 1) rfl)
  (pss_cons (ps_fld (pv 0) (pv 2) rfl)
  (pss_cons (ps_fld (pv 0) (pv 3) rfl)
  (pss_cons (ps_fld (pv 0) (pv 4) rfl)
  (pss_cons (ps_fld (pv 0) (pv 5) rfl)
  (pss_cons (ps_fld (pv 0) (pv 6) rfl)
  (pss_cons (ps_fld (pv 0) (pv 7) rfl)
  (pss_cons (ps_fld (pv 0) (pv 8) rfl)
  (pss_cons (ps_fld (pv 0) (pv 9) rfl)
  (pss_one (ps_fld (pv 0) (pv 10) rfl))))))))))), ?_⟩
  refine ⟨_, rfl, _, rfl, x, cJob, dx, _, rfl, hx, T.cl_Job, T.n_Job_name, (by show 0 < 1000; decide), ?_⟩
  rw [putF_new (by show ¬ ("name" : Str) ∈ ([] : List Str); decide +kernel)]
  refine ⟨_, rfl, _, rfl, x, cJob, dx, _, rfl, upd_same, T.cl_Job, T.n_Job_asker, (by show 1 < 1000; decide), ?_⟩
  rw [upd_upd, putF_new (by show ¬ ("asker" : Str) ∈ (["name"] : List Str); decide +kernel)]
  refine ⟨_, rfl, _, rfl, x, cJob, dx, _, rfl, upd_same, T.cl_Job, T.n_Job_pages, (by show 2 < 1000; decide), ?_⟩
  rw [upd_upd, putF_new (by show ¬ ("pages" : Str) ∈ (["name", "asker"] : List Str); decide +kernel)]
  refine ⟨_, rfl, _, rfl, x, cJob, dx, _, rfl, upd_same, T.cl_Job, T.n_Job_copies, (by show 3 < 1000; decide), ?_⟩
  rw [upd_upd, putF_new (by show ¬ ("copies" : Str) ∈ (["name", "asker", "pages"] : List Str); decide +kernel)]
  refine ⟨_, rfl, _, rfl, x, cJob, dx, _, rfl, upd_same, T.cl_Job, T.n_Job_layout, (by show 4 < 1000; decide), ?_⟩
  rw [upd_upd, putF_new (by show ¬ ("layout" : Str) ∈ (["name", "asker", "pages", "copies"] : List Str); decide +kernel)]
  refine ⟨_, rfl, _, rfl, x, cJob, dx, _, rfl, upd_same, T.cl_Job, T.n_Job_paper, (by show 5 < 1000; decide), ?_⟩
  rw [upd_upd, putF_new (by show ¬ ("paper" : Str) ∈ (["name", "asker", "pages", "copies", "layout"] : List Str); decide +kernel)]
  refine ⟨_, rfl, _, rfl, x, cJob, dx, _, rfl, upd_same, T.cl_Job, T.n_Job_cover, (by show 6 < 1000; decide), ?_⟩
  rw [upd_upd, putF_new (by show ¬ ("cover" : Str) ∈ (["name", "asker", "pages", "copies", "layout", "paper"] : List Str); decide +kernel)]
  refine ⟨_, rfl, _, rfl, x, cJob, dx, _, rfl, upd_same, T.cl_Job, T.n_Job_colour, (by show 7 < 1000; decide), ?_⟩
  rw [upd_upd, putF_new (by show ¬ ("colour" : Str) ∈ (["name", "asker", "pages", "copies", "layout", "paper", "cover"] : List Str); decide +kernel)]
  refine ⟨_, rfl, _, rfl, x, cJob, dx, _, rfl, upd_same, T.cl_Job, T.n_Job_staple, (by show 8 < 1000; decide), ?_⟩
  rw [upd_upd, putF_new (by show ¬ ("staple" : Str) ∈ (["name", "asker", "pages", "copies", "layout", "paper", "cover", "colour"] : List Str); decide +kernel)]
  refine ⟨_, rfl, _, rfl, x, cJob, dx, _, rfl, upd_same, T.cl_Job, T.n_Job_after, (by show 9 < 1000; decide), ?_⟩
  rw [upd_upd, putF_new (by show ¬ ("after" : Str) ∈ (["name", "asker", "pages", "copies", "layout", "paper", "cover", "colour", "staple"] : List Str); decide +kernel)]
  exact q

end
end My

namespace My
open PySem L2
open Blk (sg sg_inj sg_app)
section
variable {P : Program} {w : World} {K : PySem.W.Frag} {mg : Str → Option Value} {base : Heap}
theorem sc_told_job : FnScope ["words", "pages", "told", "copies", "layout", "paper", "staple", "after"] ["words", "pages", "told"] (defScope s_told_job) := ⟨rfl, rfl, rfl, by decide +kernel, rfl, by decide +kernel, by decide +kernel⟩
theorem ok_told_job {fa cJob : Addr} {fd : FuncData} (F : Fun K "told_job" "told_job" s_told_job fa fd) (T : Txt K mg cJob) (M_Job : MkD P w K mg base 1 "Job" cJob ["self", "name", "asker", "pages", "copies", "layout", "paper", "cover", "colour", "staple", "after"] (sp_Job_init cJob)) :
    FnOk P w K mg base CX0 3 fa fd ["words", "pages", "told"] (sp_told_job cJob) := by
  refine F.ok sc_told_job (fun vs H Q E h => ?_) (fun cdv A outer s H vs Q E hr h => ?_)
  · obtain ⟨p, D, ws, n, kvs, t, rfl, _⟩ := h
    rfl
  obtain ⟨p, D, ws, n, kvs, t, rfl, hp, h2, TD, ht, q⟩ := h
  have hu := hu_of hr
  obtain ⟨a, b, r, rfl⟩ : ∃ a b r, ws = a :: b :: r := by
    match ws, h2 with
    | a :: b :: r, _ => exact ⟨a, b, r, rfl⟩
    | [], h => simp at h
    | [a], h => simp at h
  refine ⟨_, (pss_cons (ps_set (i := 3) sc_told_job.nd rfl (by first | exact Or.inl rfl | exact Or.inr rfl) (pe_dget2 hu (pv 2) (pe_gs T.COPIES rfl) (pe_gi T.ONE_COPY rfl) ⟨rfl, rfl, rfl, rfl⟩))
  (pss_cons (ps_set (i := 4) sc_told_job.nd rfl (by first | exact Or.inl rfl | exact Or.inr rfl) (pe_dget2 hu (pv 2) (pe_gs T.LAYOUT rfl) (pe_gs T.ONE_LAYOUT rfl) ⟨rfl, rfl, rfl, rfl⟩))
  (pss_cons (ps_set (i := 5) sc_told_job.nd rfl (by first | exact Or.inl rfl | exact Or.inr rfl) (pe_dget2 hu (pv 2) (pe_gs T.PAPER rfl) (pe_gs T.PLAIN rfl) ⟨rfl, rfl, rfl, rfl⟩))
  (pss_cons (ps_set (i := 6) sc_told_job.nd rfl (by first | exact Or.inl rfl | exact Or.inr rfl) (pe_dget2 hu (pv 2) (pe_gs T.STAPLE rfl) pe_bl ⟨rfl, rfl, rfl, rfl⟩))
  (pss_cons (ps_set (i := 7) sc_told_job.nd rfl (by first | exact Or.inl rfl | exact Or.inr rfl) (pe_frz (pe_callTy call_tuple_of rfl T.tuple bt_tuple (pa_cons (pe_comp (frees := [("told", 2)]) ⟨by decide +kernel, rfl, rfl, by decide +kernel, ⟨⟨rfl, rfl, rfl, by decide +kernel⟩, trivial⟩, by decide +kernel, cellsFor_at rfl, rfl⟩ rfl (pi_dict (pv 2)) (fun _ _ _ _ => by exact (pifs_one (pt_truthK (K := K) rfl (pe_bmK (K := K) rfl PySem.F.plainAttrs_str PySem.F.slot_str_startswith PySem.F.type_str_startswith mt_startswith (pv 0) (pa_cons (pe_gs T.AFTER rfl) pa_nil)) (fun _ => rfl)))) (fun _ _ _ _ => by exact (pe_dget hu (pv 1) (pv 0) (fun _ _ => rfl)))) pa_nil))))
  (pss_one (ps_ret (pe_makeD M_Job (hr.mono (by decide)) rfl (pa_cons (pe_ix ix_list (pv 0) pe_int (fun _ _ => rfl)) (pa_cons (pe_ix ix_list (pv 0) pe_int (fun _ _ => rfl)) (pa_cons (pv 1) (pa_cons (pv 3) (pa_cons (pv 4) (pa_cons (pv 5) (pa_cons (pe_dget1 hu (pv 2) (pe_gs T.COVER rfl) ⟨rfl, rfl, rfl, rfl⟩) (pa_cons (pe_dget1 hu (pv 2) (pe_gs T.COLOUR rfl) ⟨rfl, rfl, rfl, rfl⟩) (pa_cons (pv 6) (pa_cons (pv 7) pa_nil)))))))))))))))))), ?_⟩
  have hD := TD.at_
  have isD : IsD H D := .inl ⟨kvs, .inl hD⟩
  refine ⟨_, rfl, D, rfl, isD, _, DGet.k (k := Sum.inr cX) hD, ?_⟩
  refine ⟨_, rfl, D, rfl, isD, _, DGet.k (k := Sum.inr cLay) hD, ?_⟩
  refine ⟨_, rfl, D, rfl, isD, _, DGet.k (k := Sum.inr cPap) hD, ?_⟩
  refine ⟨_, rfl, D, rfl, isD, _, DGet.k (k := Sum.inr cSta) hD, ?_⟩
  refine ⟨D, kvs, hD, fun o => ?_⟩
  have nd := TD.nodup
  have txts : ∀ x ∈ kvs.map (fun p => kV p.1), ∃ (s : Str) (v : V), x = V.str s ∧ (Sum.inr s, v) ∈ kvs := fun x hx => by
    obtain ⟨⟨k, v⟩, hq, rfl⟩ := List.mem_map.mp hx
    have m : k ∈ kvs.map (·.1) := List.mem_map_of_mem (f := fun z : Key × V => z.1) hq
    rw [Told.keys TD.rel] at m
    obtain ⟨s, _, rfl⟩ := List.mem_map.mp m
    exact ⟨s, v, rfl, hq⟩
  refine ⟨_, rfl, D, o, kvs, rfl, upd_same, compB_seq (seq_dict upd_same) afterP (luV kvs) ?_ (fun x hx H' R sm r => ?_) (fun x hx H' R sm _ r => ?_) (fun L H' sm hL hH => ?_)⟩
  · rw [List.length_map, TD.len]
    exact small1000 (by omega)
  · obtain ⟨s, v, rfl, _⟩ := txts x hx
    exact ⟨_, rfl, rfl, s, cAft, rfl, rfl, _, rfl, r⟩
  · obtain ⟨s, v, rfl, hq⟩ := txts x hx
    have e : valV kvs (Sum.inr s : Key) = some v := val_mem nd _ hq
    refine ⟨_, rfl, _, rfl, D, v, rfl, .inl ⟨kvs, Sum.inr s, .inr ⟨o, sm _ _ upd_same⟩, rfl, e.symm⟩, ?_⟩
    have e2 : luV kvs (.str s) = v := by
      show (valV kvs (Sum.inr s : Key)).getD .non = v
      rw [e]
      rfl
    rw [e2] at r
    exact r
  have hgq : ∀ q ∈ kvs, luV kvs (kV q.1) = q.2 := fun q hq => by
    obtain ⟨s, v, e, _⟩ := txts (kV q.1) (List.mem_map_of_mem (f := fun p : Key × V => kV p.1) hq)
    have ek : q.1 = Sum.inr s := kV_inj e
    rw [e]
    show (valV kvs (Sum.inr s : Key)).getD .non = q.2
    rw [← ek, val_mem nd q hq]
    rfl
  have af := TD.after _ hgq
  refine ⟨L, _, rfl, .inl ⟨SqL.of hH, fun l hl => ⟨?_, ?_⟩⟩⟩
  · rw [upd_ne (ne_of_none (sm _ _ upd_same) hl)]
    exact sm _ _ upd_same
  have nD : ∀ b u, H b = some u → b ≠ D → H' b = some u := fun b u e ne => sm b u (by rw [upd_ne ne]; exact e)
  generalize hH5 : upd (upd H' l (.tup (((kvs.map fun p => kV p.1).filter afterP).map (luV kvs)))) D (.dK kvs) = H5
  have hDl : D ≠ l := fun e => by
    have := sm _ _ (upd_same (H := H) (a := D) (o := .frz o (.dK kvs)))
    rw [e, hl] at this
    cases this
  have s5 : Same H H5 := fun b u e => by
    rw [← hH5]
    by_cases hb : b = D
    · subst hb
      rw [upd_same, ← hD]
      exact e
    · have e1 := nD b u e hb
      rw [upd_ne hb, upd_ne (ne_of_none e1 hl)]
      exact e1
  have hl5 : H5 l = some (.tup (((kvs.map fun p => kV p.1).filter afterP).map (luV kvs))) := by
    rw [← hH5, upd_ne (Ne.symm hDl), upd_same]
  have T5 := TD.same s5
  have isD5 : IsD H5 D := .inl ⟨kvs, .inl T5.at_⟩
  have hp5 := s5 _ _ hp
  refine ⟨_, rfl, p, _, _, _, rfl, rfl, SqL.of hp5, atI_nat (j := 0) rfl, ?_⟩
  refine ⟨_, rfl, p, _, _, _, rfl, rfl, SqL.of hp5, atI_nat (j := 1) rfl, ?_⟩
  refine ⟨_, rfl, _, rfl, _, rfl, _, rfl, ?_⟩
  refine ⟨_, rfl, D, rfl, isD5, _, DGet.k (k := Sum.inr cCov) T5.at_, ?_⟩
  refine ⟨_, rfl, D, rfl, isD5, _, DGet.k (k := Sum.inr cCol) T5.at_, ?_⟩
  refine ⟨_, rfl, _, rfl, fun x dx nx ndx ne => ?_⟩
  refine ⟨x, dx, _, _, _, _, _, _, _, _, _, _, rfl, upd_same, rfl, ?_⟩
  rw [upd_upd]
  have s6 : Same H5 (upd (upd H5 dx (.own x)) x (.ins cJob dx (jobF (.str a) (.str b) (.int n) ((valV kvs (Sum.inr cX : Key)).getD (.int 1)) ((valV kvs (Sum.inr cLay : Key)).getD (.str cOne)) ((valV kvs (Sum.inr cPap : Key)).getD (.str cPla)) ((valV kvs (Sum.inr cCov : Key)).getD .non) ((valV kvs (Sum.inr cCol : Key)).getD .non) ((valV kvs (Sum.inr cSta : Key)).getD (.bl false)) (.ref l)))) := fun b u e => by
    rw [upd_ne (ne_of_none e nx), upd_ne (ne_of_none e ndx)]
    exact e
  have T6 := T5.same s6
  refine q x _ (s5.trans s6) ⟨dx, l, _, _, _, _, _, _, _, upd_same, T6.some_ cX rfl, T6.some_ cLay rfl, T6.some_ cPap rfl, T6.some_ cCov rfl, T6.some_ cCol rfl, T6.some_ cSta rfl, s6 _ _ hl5, ?_⟩
  exact Paired.mapP af fun _ _ h => h.same (s5.trans s6)
theorem sc_read_job : FnScope ["line", "words", "pages", "told", "place", "word", "value", "sort"] ["line"] (defScope s_read_job) := ⟨rfl, rfl, rfl, by decide +kernel, rfl, by decide +kernel, by decide +kernel⟩
theorem ok_read_job {fa cJob : Addr} {fd : FuncData} (F : Fun K "read_job" "read_job" s_read_job fa fd) (T : Txt K mg cJob) (D_words_of : Dfn P w K mg base 1 "words_of" ["line"] (sp_words_of K)) (D_read_head : Dfn P w K mg base 4 "read_head" ["words"] (sp_read_head K)) (D_told_job : Dfn P w K mg base 3 "told_job" ["words", "pages", "told"] (sp_told_job cJob)) (D_value_of : Dfn P w K mg base 5 "value_of" ["word", "pages"] (sp_value_of K)) (D_sort_of : Dfn P w K mg base 5 "sort_of" ["word"] (sp_sort_of K)) :
    FnOk P w K mg base CX0 6 fa fd ["line"] (sp_read_job cJob) := by
  refine F.ok sc_read_job (fun vs H Q E h => ?_) (fun cdv A outer s H vs Q E hr h => ?_)
  · obtain ⟨z, f, rfl, _⟩ := h
    rfl
  obtain ⟨z, f, rfl, hz, hf, q⟩ := h
  have hu := hu_of hr
  have wl : ∀ w ∈ Txt.split z cBlank, w.length ≤ 400 := fun w hw => Nat.le_trans (split_part_le z cBlank w hw) hz
  have wn : (Txt.split z cBlank).length ≤ 402 := by
    have := PyProof.Rows.split_le z cBlank
    omega
  refine ⟨_, (pss_cons (ps_set (i := 1) sc_read_job.nd rfl (by first | exact Or.inl rfl | exact Or.inr rfl) (pe_callD D_words_of (hr.mono (by decide)) rfl (pa_cons (pv 0) pa_nil)))
  (pss_cons (ps_set (i := 2) sc_read_job.nd rfl (by first | exact Or.inl rfl | exact Or.inr rfl) (pe_callD D_read_head (hr.mono (by decide)) rfl (pa_cons (pv 1) pa_nil)))
  (pss_cons (ps_set (i := 3) sc_read_job.nd rfl (by first | exact Or.inl rfl | exact Or.inr rfl) pe_dnewK)
  (pss_cons (ps_for PassesOwn.never rfl (pi_enumK rfl T.enumerate (pa_cons (pe_slice sl_list (pv 1) (po_some (pe_gi T.HEAD rfl)) po_none) pa_nil) (pk_cons (pe_gi T.HEAD rfl) pk_nil)) (pg_tup rfl (pgs_cons (pg_name (i := 4) sc_read_job.nd rfl (by first | exact Or.inl rfl | exact Or.inr rfl)) (pgs_cons (pg_name (i := 5) sc_read_job.nd rfl (by first | exact Or.inl rfl | exact Or.inr rfl)) pgs_nil)))
  (pss_cons (ps_set (i := 6) sc_read_job.nd rfl (by first | exact Or.inl rfl | exact Or.inr rfl) (pe_callD D_value_of (hr.mono (by decide)) rfl (pa_cons (pv 5) (pa_cons (pv 2) pa_nil))))
  (pss_cons (ps_set (i := 7) sc_read_job.nd rfl (by first | exact Or.inl rfl | exact Or.inr rfl) (pe_callD D_sort_of (hr.mono (by decide)) rfl (pa_cons (pv 5) pa_nil)))
  (pss_cons (ps_if (PW.pt (pw_or (pt_cmpR op_isN (pv 6) pe_non (nomark _)) (pw_or1 (pt_cmp (pc_din hu (pv 7) (pv 3)))))) (pss_one ps_never) pss_nil)
  (pss_one (ps_dput hu (pv 3) (pv 7) (pv 6) rfl))))))
  (pss_one (ps_ret (pe_callD D_told_job (hr.mono (by decide)) rfl (pa_cons (pv 1) (pa_cons (pv 2) (pa_cons (pv 3) pa_nil)))))))))), ?_⟩
  refine ⟨_, rfl, z, rfl, hz, fun p H1 s1 fp hp => ?_⟩
  unfold readJ at hf
  generalize Txt.split z cBlank = ws at hf wl wn hp
  cases hh : readHead ws with
  | error e => rw [hh] at hf; cases hf
  | ok n =>
  rw [hh] at hf
  dsimp only at hf
  cases ht : readTail n (ws.drop 3) 3 [] with
  | error e => rw [ht] at hf; cases hf
  | ok t =>
  rw [ht] at hf
  injection hf with hf
  subst hf
  obtain ⟨et, steps⟩ := tail_steps n _ _ _ _ ht
  have h3 : 2 ≤ ws.length := by
    obtain ⟨a, b, c, r, rfl, _⟩ := head_ok hh
    simp
  refine ⟨_, rfl, p, ws, n, rfl, hp, wl, hh, fun H2 s2 => ?_⟩
  intro D hD
  have hp2 := s2 _ _ hp
  have npD : p ≠ D := ne_of_none hp2 hD
  have hp3 : (upd H2 D (.dK [])) p = some (.lst (ws.map V.str)) := by rw [upd_ne npD]; exact hp2
  refine ⟨_, rfl, _, rfl, p, _, rfl, SqL.of hp3, fun p2 hq2 => ?_⟩
  have cut : cutV (ws.map V.str) (some 3) none = (ws.drop 3).map V.str := by
    rw [show (3 : Int) = ((3 : Nat) : Int) from rfl, cut_from, List.map_drop]
  rw [cut]
  have nDp2 : D ≠ p2 := ne_of_none (H := upd H2 D (.dK [])) upd_same hq2
  have s3 : Same H1 (upd (upd H2 D (.dK [])) p2 (.lst ((ws.drop 3).map V.str))) := (s2.trans (same_new hD _)).trans (same_new hq2 _)
  refine ⟨p2, 3, rfl, rfl, ⟨_, SqL.of upd_same⟩, by decide +kernel, for_enum (K := K) (a := p2) (j := 3) (xs := (ws.drop 3).map V.str)
    (fun i σ H' => Same H H' ∧ H' p = some (.lst (ws.map V.str)) ∧ H' p2 = some (.lst ((ws.drop 3).map V.str)) ∧ (∃ kvs, Told H' D kvs (told n ((ws.drop 3).take i))) ∧ ∃ v1 v2 v3 v4 : Option V, σ = [some (.str z), some (.ref p), some (.int n), some (.ref D), v1, v2, v3, v4])
    ⟨s1.trans s3, s3 _ _ hp, upd_same, ⟨[], by rw [upd_ne nDp2, upd_same], .nil, List.nodup_nil⟩, _, _, _, _, rfl⟩ (fun i σ H' _ p => SqL.of p.2.2.1) (fun i x σ H' c hx p hc => ?_) (fun σ H' p => ?_)⟩
  · obtain ⟨sm, hp', hp2', ⟨kvs, TD⟩, v1, v2, v3, v4, rfl⟩ := p
    rw [List.getElem?_map] at hx
    obtain ⟨y, hy, rfl⟩ := Option.map_eq_some_iff.mp hx
    obtain ⟨st1, st2⟩ := steps i y hy
    have ly : y.length ≤ 400 := wl y (List.mem_of_mem_drop (List.mem_of_getElem? hy))
    refine ⟨c, _, rfl, SqT.of upd_same, rfl, _, _, rfl, _, _, rfl, rfl, ?_⟩
    refine ⟨_, rfl, _, rfl, y, n, rfl, ly, fun v H3 s4 hv => ?_⟩
    refine ⟨_, rfl, y, rfl, ly, fun H4 s5 => ?_⟩
    have sA := ((same_new hc (.tup [V.int (3 + (i : Nat)), V.str y])).trans s4).trans s5
    have TD4 := TD.same sA
    have hv4 := hv.same s5
    refine ⟨_, rfl, rfl, _, rfl, ?_⟩
    rw [hv4.non_iff, decide_eq_false st1]
    refine iteF ?_
    refine ⟨_, rfl, _, rfl, D, _, rfl, DGet.k (k := Sum.inr (sortOf y)) TD4.at_, _, rfl, ?_⟩
    have nk : valV kvs (Sum.inr (sortOf y) : Key) = none := by
      have e := TD4.has (sortOf y)
      rw [decide_eq_false (by simpa using st2)] at e
      cases h : valV kvs (Sum.inr (sortOf y) : Key) with
      | none => rfl
      | some _ => rw [h] at e; cases e
    rw [nk]
    refine iteF ?_
    have tl : kvs.length ≤ 402 := by
      rw [TD.len]
      unfold told
      rw [List.length_map, List.length_take, List.length_drop]
      omega
    refine ⟨_, rfl, _, rfl, _, rfl, D, _, rfl, DPut.k (k := Sum.inr (sortOf y)) TD4.at_ (small1000 (by omega)), ?_⟩
    have nDD : ∀ b u, H4 b = some u → (∀ kvs, u ≠ .dK kvs) → b ≠ D := fun b u e ne z => by
      rw [z, TD4.at_] at e
      injection e with e
      exact ne kvs e.symm
    refine ⟨fun b u e => ?_, ?_, ?_, ⟨kvs ++ [(Sum.inr (sortOf y), v)], ?_⟩, _, _, _, _, rfl⟩
    · have e4 := sA _ _ (sm b u e)
      by_cases hb : b = D
      · subst hb
        exact absurd (s2.free hD) (by intro z; have := s1.free z; rw [this] at e; cases e)
      · rw [upd_ne hb]
        exact e4
    · rw [upd_ne (nDD _ _ (sA _ _ hp') (by intro k z; cases z))]
      exact sA _ _ hp'
    · rw [upd_ne (nDD _ _ (sA _ _ hp2') (by intro k z; cases z))]
      exact sA _ _ hp2'
    · have e : told n ((ws.drop 3).take (i + 1)) = told n ((ws.drop 3).take i) ++ [(sortOf y, valueOf y n)] := by
        unfold told
        rw [take_more hy, List.map_append]
        rfl
      rw [e]
      exact TD4.put hv4 nk
  · obtain ⟨sm, hp', hp2', ⟨kvs, TD⟩, v1, v2, v3, v4, rfl⟩ := p
    rw [List.length_map, List.take_of_length_le (Nat.le_refl _)] at TD
    have e : t = told n (ws.drop 3) := by simpa using et
    refine ⟨_, rfl, _, rfl, _, rfl, p, D, ws, n, kvs, t, rfl, hp', h3, by rw [e]; exact TD, ?_, fun x H5 s6 J => q x H5 (sm.trans s6) J⟩
    rw [e]
    unfold told
    rw [List.length_map, List.length_drop]
    omega

end
end My

namespace My
open PySem L2
open Blk (sg sg_inj sg_app)
section
variable {P : Program} {w : World} {K : PySem.W.Frag} {mg : Str → Option Value} {base : Heap}
def sp__law_names (K : PySem.W.Frag) : Sp := fun vs H Q _ => ∃ (a : Addr) (k : Int) (m : Nat), vs = [.ref a, .int k, .int (m : Int)] ∧ Scr K H a ∧ 0 ≤ k ∧ k ≤ 1000 ∧ m ≤ 6 ∧ ∀ (p : Addr) (ns : List Str) (H' : Hp), Same H H' → H' p = some (.lst (ns.map V.str)) → NamesOk ns m → Q (.ref p) H'
theorem sc__law_names : FnScope ["_law_script", "_law_k", "_law_many", "_law_letters", "_law_size", "_law_place", "_law_rest", "_law_start", "_law_first", "_law_names_here", "_law_j", "_law_signs"] ["_law_script", "_law_k", "_law_many"] (defScope s__law_names) := ⟨rfl, rfl, rfl, by decide +kernel, rfl, by decide +kernel, by decide +kernel⟩
theorem ok__law_names {fa cJob : Addr} {fd : FuncData} (F : Fun K "_law_names" "_law_names" s__law_names fa fd) (T : Txt K mg cJob) (D__law_by : Dfn P w K mg base 2 "_law_by" ["_law_script", "_law_k", "_law_many"] (sp__law_by K)) :
    FnOk P w K mg base CX0 3 fa fd ["_law_script", "_law_k", "_law_many"] (sp__law_names K) := by
  refine F.ok sc__law_names (fun vs H Q E h => ?_) (fun cdv A outer s H vs Q E hr h => ?_)
  · obtain ⟨a, k, m, rfl, _⟩ := h
    rfl
  obtain ⟨a, k, m, rfl, hS, k0, k1, m1, q⟩ := h
  refine ⟨_, (pss_cons (ps_set (i := 3) sc__law_names.nd rfl (by first | exact Or.inl rfl | exact Or.inr rfl) pe_str)
  (pss_cons (ps_if (pt_cmpR op_eq (pe_callD D__law_by (hr.mono (by decide)) rfl (pa_cons (pv 0) (pa_cons (pv 1) (pa_cons pe_int pa_nil)))) pe_int (nomark _)) (pss_one (ps_ret (pe_slice sl_list (pe_lst (pa_cons pe_str (pa_cons pe_str (pa_cons pe_str (pa_cons pe_str (pa_cons pe_str (pa_cons pe_str pa_nil))))))) po_none (po_some (pv 2))))) pss_nil)
  (pss_cons (ps_set (i := 4) sc__law_names.nd rfl (by first | exact Or.inl rfl | exact Or.inr rfl) (pe_op op_add pe_int (pe_callD D__law_by (hr.mono (by decide)) rfl (pa_cons (pv 0) (pa_cons (pe_op op_add (pv 1) pe_int) (pa_cons pe_int pa_nil))))))
  (pss_cons (ps_set (i := 5) sc__law_names.nd rfl (by first | exact Or.inl rfl | exact Or.inr rfl) (pe_callD D__law_by (hr.mono (by decide)) rfl (pa_cons (pv 0) (pa_cons (pe_op op_add (pv 1) pe_int) (pa_cons (pv 4) pa_nil)))))
  (pss_cons (ps_set (i := 6) sc__law_names.nd rfl (by first | exact Or.inl rfl | exact Or.inr rfl) (pe_ix ix_strA (pe_op op_add_str (pv 3) pe_str) (pe_callD D__law_by (hr.mono (by decide)) rfl (pa_cons (pv 0) (pa_cons (pe_op op_add (pv 1) pe_int) (pa_cons pe_int pa_nil)))) (fun _ _ => rfl)))
  (pss_cons (ps_set (i := 7) sc__law_names.nd rfl (by first | exact Or.inl rfl | exact Or.inr rfl) (pe_callD D__law_by (hr.mono (by decide)) rfl (pa_cons (pv 0) (pa_cons (pe_op op_add (pv 1) pe_int) (pa_cons pe_int pa_nil)))))
  (pss_cons (ps_set (i := 8) sc__law_names.nd rfl (by first | exact Or.inl rfl | exact Or.inr rfl) (pe_ix ix_strA (pv 3) (pe_callD D__law_by (hr.mono (by decide)) rfl (pa_cons (pv 0) (pa_cons (pe_op op_add (pv 1) pe_int) (pa_cons pe_int pa_nil)))) (fun _ _ => rfl)))
  (pss_cons (ps_set (i := 9) sc__law_names.nd rfl (by first | exact Or.inl rfl | exact Or.inr rfl) (pe_lst pa_nil))
  (pss_cons (ps_for PassesOwn.never rfl (pi_range1 rfl T.range (pa_cons (pv 2) pa_nil)) (pg_name (i := 10) sc__law_names.nd rfl (by first | exact Or.inl rfl | exact Or.inr rfl))
  (pss_cons (ps_set (i := 11) sc__law_names.nd rfl (by first | exact Or.inl rfl | exact Or.inr rfl) (pe_op op_cat (pe_lst (pa_cons (pv 8) pa_nil)) (pe_op op_rep (pe_lst (pa_cons (pv 6) pa_nil)) (pe_op op_sub (pv 4) pe_int))))
  (pss_cons (ps_asg (pe_ix ix_strA (pv 3) (pe_op op_mod (pe_op op_add (pv 7) (pe_op op_mul pe_int (pv 10))) pe_int) (fun _ _ => rfl)) (pg_sub (pv 11) (pv 5) set_list))
  (pss_one (ps_expr (pe_bm PySem.F.plainAttrs_list PySem.F.slot_list_append PySem.F.type_list_append mt_append (pv 9) (pa_cons (pe_bm PySem.F.plainAttrs_str PySem.F.slot_str_join PySem.F.type_str_join mt_join pe_str (pa_cons (pv 11) pa_nil)) pa_nil)))))))
  (pss_one (ps_ret (pv 9)))))))))))), ?_⟩
  have fit : ∀ n : Nat, n ≤ 1000 → n ≤ sizeLine := fun n h => small h
  refine ⟨_, rfl, _, rfl, a, _, _, rfl, hS, by omega, by omega, by decide, fun r _ _ => ?_⟩
  refine ⟨rfl, _, rfl, ?_⟩
  refine ite2 (fun _ => ?_) (fun _ => ?_)
  · refine ⟨fit _ (by show 6 ≤ 1000; decide), fun l hl => ?_⟩
    refine ⟨_, rfl, _, rfl, l, _, rfl, SqL.of upd_same, fun p hp => ?_⟩
    refine q p (six.take m) _ ((same_new hl _).trans (same_new hp _)) ?_ (six_names m1)
    rw [upd_same, cut_to, List.map_take]
    rfl
  refine ⟨_, rfl, _, rfl, _, _, rfl, rfl, a, _, _, rfl, hS, by omega, by omega, by decide, fun r1 r10 r11 => ?_⟩
  refine ⟨_, _, rfl, rfl, ?_⟩
  refine ⟨_, rfl, _, rfl, _, _, rfl, rfl, _, rfl, a, _, _, rfl, hS, by omega, by omega, by omega, fun r2 r20 r21 => ?_⟩
  refine ⟨_, rfl, _, _, rfl, rfl, (by decide +kernel), _, rfl, _, rfl, _, _, rfl, rfl, a, _, _, rfl, hS, by omega, by omega, by decide, fun r3 r30 r31 => ?_⟩
  refine ⟨_, _, rfl, rfl, (by decide +kernel), r30, Int.lt_of_lt_of_le r31 (by decide +kernel), fun cr hcr => ?_⟩
  refine ⟨_, rfl, _, rfl, _, _, rfl, rfl, a, _, _, rfl, hS, by omega, by omega, by decide, fun r4 r40 r41 => ?_⟩
  refine ⟨_, rfl, _, rfl, _, rfl, _, _, rfl, rfl, a, _, _, rfl, hS, by omega, by omega, by decide, fun r5 r50 r51 => ?_⟩
  refine ⟨_, _, rfl, rfl, (by decide +kernel), r50, Int.lt_of_lt_of_le r51 (by decide +kernel), fun cf hcf => ?_⟩
  have hr' : cr ∈ low ++ fig := by
    have e : (Str.ofString "abcdefghijklmnopqrstuvwxyz" ++ Str.ofString "0123456789").cps.toList = low ++ fig := by
      rw [← eL, ← eF]
      exact Array.toList_append ..
    rw [e] at hcr
    exact lowfig_at hcr
  have hf' : cf ∈ low := by
    rw [eL] at hcf
    exact List.mem_of_getElem? hcf
  refine ⟨fit _ (by show 0 ≤ 1000; decide), fun p hp => ?_⟩
  obtain ⟨sz, hsz⟩ : ∃ sz : Nat, (1 + r1 : Int) = (sz : Int) := ⟨(1 + r1).toNat, by omega⟩
  obtain ⟨pl, hpl⟩ : ∃ pl : Nat, r2 = (pl : Int) := ⟨r2.toNat, by omega⟩
  obtain ⟨st, hst⟩ : ∃ st : Nat, r4 = (st : Int) := ⟨r4.toNat, by omega⟩
  have b1 : 1 ≤ sz := by omega
  have b2 : sz ≤ 12 := by omega
  have b3 : pl < sz := by omega
  refine ⟨_, rfl, m, rfl, by omega, by omega, for_range (n := (m : Int).toNat) (fun i σ H' => Same H H' ∧ H' p = some (.lst ((nms cf cr sz pl st i).map V.str)) ∧ ∃ v1 v2 : Option V, σ = [some (.ref a), some (.int k), some (.int m), some (.str (Str.ofString "abcdefghijklmnopqrstuvwxyz")), some (.int (1 + r1)), some (.int r2), some (.str ⟨#[cr]⟩), some (.int r4), some (.str ⟨#[cf]⟩), some (.ref p), v1, v2])
    ⟨same_new hp _, upd_same, _, _, rfl⟩ (fun i σ H' hi pp => ?_) (fun σ H' pp => ?_)⟩
  · obtain ⟨sm, hp', v1, v2, rfl⟩ := pp
    refine ⟨_, rfl, fit _ (by show 1 ≤ 1000; decide), fun pa ha => ?_⟩
    refine ⟨_, rfl, fit _ (by show 1 ≤ 1000; decide), fun pb hb => ?_⟩
    refine ⟨_, rfl, _, _, rfl, rfl, pb, _, _, rfl, rfl, upd_same, by omega, by omega, ?_, fun pc hc => ?_⟩
    · show 1 * (1 + r1 - 1).toNat ≤ sizeLine
      exact fit _ (by omega)
    have n1 : pa ≠ pb := ne_of_none (H := upd H' pa (.lst [V.str ⟨#[cf]⟩])) upd_same hb
    have e1 : (upd (upd H' pa (.lst [V.str ⟨#[cf]⟩])) pb (.lst [V.str ⟨#[cr]⟩])) pa = some (.lst [V.str ⟨#[cf]⟩]) := by rw [upd_ne n1, upd_same]
    have n2 : pa ≠ pc := ne_of_none e1 hc
    refine ⟨pa, pc, _, _, rfl, rfl, by rw [upd_ne n2]; exact e1, upd_same, ?_, fun pd hd => ?_⟩
    · rw [rep_flat]
      rw [List.length_replicate]
      show 1 + (1 + r1 - 1).toNat ≤ sizeLine
      exact fit _ (by omega)
    have list : [V.str ⟨#[cf]⟩] ++ (List.replicate (1 + r1 - 1).toNat [V.str ⟨#[cr]⟩]).flatten = ((cf :: List.replicate (sz - 1) cr).map one).map V.str := by
      rw [rep_flat, show (1 + r1 - 1).toNat = sz - 1 by omega, List.map_cons, List.map_cons, List.map_replicate, List.map_replicate]
      rfl
    rw [list]
    have s1 : Same H' (upd (upd (upd (upd H' pa (.lst [V.str ⟨#[cf]⟩])) pb (.lst [V.str ⟨#[cr]⟩])) pc (.lst (List.replicate (1 + r1 - 1).toNat [V.str ⟨#[cr]⟩]).flatten)) pd (.lst (((cf :: List.replicate (sz - 1) cr).map one).map V.str))) :=
      (((same_new ha _).trans (same_new hb _)).trans (same_new hc _)).trans (same_new hd _)
    have npd : H' pd = none := (((same_new ha _).trans (same_new hb _)).trans (same_new hc _)).free hd
    refine ⟨_, rfl, _, rfl, _, rfl, _, _, rfl, rfl, .inl ⟨by decide, by decide⟩, _, _, rfl, rfl, _, _, rfl, rfl, (by show (0 : Int) < 26; decide), ?_⟩
    refine ⟨_, _, rfl, rfl, (by decide +kernel), Int.emod_nonneg _ (by decide), Int.lt_of_lt_of_le (Int.emod_lt_of_pos _ (by decide)) (by decide +kernel), fun cl hcl => ?_⟩
    have hl : cl = ltr st i := by
      rw [eL] at hcl
      have := low_at hcl
      unfold ltr
      omega
    refine ⟨_, rfl, _, rfl, pd, _, _, pl, rfl, rfl, upd_same, ?_, ?_⟩
    · unfold ixN
      rw [if_pos (by omega), if_pos (by simp; omega)]
      exact congrArg some (by omega)
    rw [upd_upd]
    have setl : (((cf :: List.replicate (sz - 1) cr).map one).map V.str).set pl (V.str ⟨#[cl]⟩) = ((nmC cf cr sz pl (ltr st i)).map one).map V.str := by
      unfold nmC
      rw [List.map_set, List.map_set, hl]
      rfl
    rw [setl]
    generalize hH5 : upd (upd (upd (upd H' pa (.lst [V.str ⟨#[cf]⟩])) pb (.lst [V.str ⟨#[cr]⟩])) pc (.lst (List.replicate (1 + r1 - 1).toNat [V.str ⟨#[cr]⟩]).flatten)) pd (.lst (((nmC cf cr sz pl (ltr st i)).map one).map V.str)) = H5
    have s5 : Same H' H5 := by
      rw [← hH5]
      exact (((same_new ha _).trans (same_new hb _)).trans (same_new hc _)).trans (same_new hd _)
    have h5 : H5 pd = some (.lst (((nmC cf cr sz pl (ltr st i)).map one).map V.str)) := by rw [← hH5, upd_same]
    have hp5 := s5 _ _ hp'
    refine ⟨_, rfl, .inl ⟨rfl, _, SqL.of hp5⟩, rfl, _, rfl, _, pd, (nmC cf cr sz pl (ltr st i)).map one, rfl, rfl, SqL.of h5, ?_, p, _, _, rfl, rfl, hp5, ?_, ?_⟩
    · unfold JoinOk
      rw [Bool.not_eq_true']
      refine StrLaws.joinFits (B := 1) (fun x hx => ?_) ?_
      · obtain ⟨c, _, rfl⟩ := List.mem_map.mp hx
        exact Nat.le_refl 1
      · rw [List.length_map, nmC_len cf cr b1, show (Str.ofString "").length = 0 by decide +kernel]
        omega
    · rw [List.length_map]
      unfold nms
      rw [List.length_map, List.length_range]
      exact small1000 (by omega)
    · refine ⟨fun b u e => ?_, ?_, _, _, rfl⟩
      · have e5 := s5 _ _ (sm b u e)
        by_cases hb : b = p
        · subst hb
          rw [hp] at e
          cases e
        · rw [upd_ne hb]
          exact e5
      · rw [upd_same, join_nm]
        unfold nms
        rw [List.range_succ, List.map_append, List.map_append]
        rfl
  · obtain ⟨sm, hp', v1, v2, rfl⟩ := pp
    refine ⟨_, rfl, q p _ H' sm hp' ?_⟩
    rw [Int.toNat_natCast]
    exact nms_ok hf' hr' b1 b2 b3 (by omega)

end
end My

namespace My
open PySem L2
open Blk (sg sg_inj sg_app)
section
variable {P : Program} {w : World} {K : PySem.W.Frag} {mg : Str → Option Value} {base : Heap}
def sp__law_values (K : PySem.W.Frag) : Sp := fun vs H Q _ => ∃ (a : Addr) (k : Int), vs = [.ref a, .int k] ∧ Scr K H a ∧ 0 ≤ k ∧ k ≤ 900 ∧ ∀ (t : Addr) (j : Jb) (H' : Hp), Same H H' → j.Ok → Due H' t j → Q (.ref t) H'
theorem six_of {ns : List Str} (h : NamesOk ns 6) : ∃ a b c d e f, ns = [a, b, c, d, e, f] := by
  have l := h.len
  match ns, l with
  | [a, b, c, d, e, f], _ => exact ⟨a, b, c, d, e, f, rfl⟩
theorem mem3 {α : Type} {a b c v : α} {i : Nat} (h : [a, b, c][i]? = some v) : v = a ∨ v = b ∨ v = c := by
  have m := List.mem_of_getElem? h
  simpa using m
theorem mem4 {α : Type} {a b c d v : α} {i : Nat} (h : [a, b, c, d][i]? = some v) : v = a ∨ v = b ∨ v = c ∨ v = d := by
  have m := List.mem_of_getElem? h
  simpa using m
theorem plain_good : good cPla = true := by decide +kernel
theorem up_in {n : Int} (h0 : 0 ≤ n) (h1 : n < 15) : Str.ofString "up:" ++ Str.ofString (toString (2 + n)) ∈ goodTexts := by
  obtain ⟨m, rfl⟩ := Int.eq_ofNat_of_zero_le h0
  exact List.mem_map.mpr ⟨m, List.mem_range.mpr (by omega), rfl⟩
theorem log2_few {n : Int} (h0 : 0 ≤ n) (h1 : n < 10 ^ 12) : n.natAbs.log2 < 1920 := by
  by_cases e : n.natAbs = 0
  · rw [e]; decide
  · have q : n.natAbs.log2 < 40 := (Nat.log2_lt e).mpr (by omega)
    omega
theorem in_two (x a b : Str) : inV (.str x) [.str a, .str b] = (decide (x = a) || decide (x = b)) := by
  have := in_strs x [a, b]
  rw [show ([a, b].map V.str) = [V.str a, V.str b] from rfl] at this
  rw [this]
  simp
theorem sc__law_values : FnScope ["_law_script", "_law_k", "_law_some", "_law_other", "_law_pages", "_law_copies", "_law_layout", "_law_paper", "_law_cover", "_law_first", "_law_last", "_law_colour", "_law_staple", "_law_after"] ["_law_script", "_law_k"] (defScope s__law_values) := ⟨rfl, rfl, rfl, by decide +kernel, rfl, by decide +kernel, by decide +kernel⟩
theorem ok__law_values {fa cJob : Addr} {fd : FuncData} (F : Fun K "_law_values" "_law_values" s__law_values fa fd) (T : Txt K mg cJob) (D__law_names : Dfn P w K mg base 3 "_law_names" ["_law_script", "_law_k", "_law_many"] (sp__law_names K)) (D__law_by : Dfn P w K mg base 2 "_law_by" ["_law_script", "_law_k", "_law_many"] (sp__law_by K)) :
    FnOk P w K mg base CX0 4 fa fd ["_law_script", "_law_k"] (sp__law_values K) := by
  refine F.ok sc__law_values (fun vs H Q E h => ?_) (fun cdv A outer s H vs Q E hr h => ?_)
  · obtain ⟨a, k, rfl, _⟩ := h
    rfl
  obtain ⟨a, k, rfl, hS, k0, k1, q⟩ := h
  refine ⟨_, (pss_cons (ps_set (i := 2) sc__law_values.nd rfl (by first | exact Or.inl rfl | exact Or.inr rfl) (pe_callD D__law_names (hr.mono (by decide)) rfl (pa_cons (pv 0) (pa_cons (pv 1) (pa_cons pe_int pa_nil)))))
  (pss_cons (ps_set (i := 3) sc__law_values.nd rfl (by first | exact Or.inl rfl | exact Or.inr rfl) (pe_callD D__law_names (hr.mono (by decide)) rfl (pa_cons (pv 0) (pa_cons (pe_op op_add (pv 1) pe_int) (pa_cons pe_int pa_nil)))))
  (pss_cons (ps_set (i := 4) sc__law_values.nd rfl (by first | exact Or.inl rfl | exact Or.inr rfl) (pe_op op_add pe_int (pe_callD D__law_by (hr.mono (by decide)) rfl (pa_cons (pv 0) (pa_cons (pe_op op_add (pv 1) pe_int) (pa_cons (pe_ix ix_listA (pe_lst (pa_cons pe_int (pa_cons pe_int (pa_cons pe_int pa_nil)))) (pe_callD D__law_by (hr.mono (by decide)) rfl (pa_cons (pv 0) (pa_cons (pe_op op_add (pv 1) pe_int) (pa_cons pe_int pa_nil)))) (fun _ _ => rfl)) pa_nil))))))
  (pss_cons (ps_set (i := 5) sc__law_values.nd rfl (by first | exact Or.inl rfl | exact Or.inr rfl) (pe_ix ix_listA (pe_lst (pa_cons pe_int (pa_cons (pe_op op_add pe_int (pe_callD D__law_by (hr.mono (by decide)) rfl (pa_cons (pv 0) (pa_cons (pe_op op_add (pv 1) pe_int) (pa_cons pe_int pa_nil))))) (pa_cons (pe_op op_add pe_int (pe_callD D__law_by (hr.mono (by decide)) rfl (pa_cons (pv 0) (pa_cons (pe_op op_add (pv 1) pe_int) (pa_cons pe_int pa_nil))))) pa_nil)))) (pe_callD D__law_by (hr.mono (by decide)) rfl (pa_cons (pv 0) (pa_cons (pe_op op_add (pv 1) pe_int) (pa_cons pe_int pa_nil)))) (fun _ _ => rfl)))
  (pss_cons (ps_set (i := 6) sc__law_values.nd rfl (by first | exact Or.inl rfl | exact Or.inr rfl) (pe_ix ix_listA (pe_lst (pa_cons pe_str (pa_cons pe_str (pa_cons (pe_op op_add_str pe_str (pe_callTy call_str_int rfl T.str bt_str (pa_cons (pe_op op_add pe_int (pe_callD D__law_by (hr.mono (by decide)) rfl (pa_cons (pv 0) (pa_cons (pe_op op_add (pv 1) pe_int) (pa_cons pe_int pa_nil))))) pa_nil))) pa_nil)))) (pe_callD D__law_by (hr.mono (by decide)) rfl (pa_cons (pv 0) (pa_cons (pe_op op_add (pv 1) pe_int) (pa_cons pe_int pa_nil)))) (fun _ _ => rfl)))
  (pss_at (pss_cons (ps_set (i := 7) sc__law_values.nd rfl (by first | exact Or.inl rfl | exact Or.inr rfl) (pe_ix ix_listA (pe_lst (pa_cons pe_str (pa_cons (pe_ix ix_list (pv 3) pe_int (fun _ _ => rfl)) (pa_cons (pe_ix ix_list (pv 2) pe_int (fun _ _ => rfl)) pa_nil)))) (pe_callD D__law_by (hr.mono (by decide)) rfl (pa_cons (pv 0) (pa_cons (pe_op op_add (pv 1) pe_int) (pa_cons pe_int pa_nil)))) (fun _ _ => rfl)))
  (pss_cons (ps_set (i := 8) sc__law_values.nd rfl (by first | exact Or.inl rfl | exact Or.inr rfl) (pe_ix ix_listA (pe_lst (pa_cons pe_non (pa_cons (pe_ix ix_list (pv 3) pe_int (fun _ _ => rfl)) (pa_cons (pv 7) (pa_cons pe_str pa_nil))))) (pe_callD D__law_by (hr.mono (by decide)) rfl (pa_cons (pv 0) (pa_cons (pe_op op_add (pv 1) pe_int) (pa_cons pe_int pa_nil)))) (fun _ _ => rfl)))
  (pss_cons (ps_set (i := 9) sc__law_values.nd rfl (by first | exact Or.inl rfl | exact Or.inr rfl) (pe_op op_add pe_int (pe_callD D__law_by (hr.mono (by decide)) rfl (pa_cons (pv 0) (pa_cons (pe_op op_add (pv 1) pe_int) (pa_cons (pv 4) pa_nil))))))
  (pss_cons (ps_set (i := 10) sc__law_values.nd rfl (by first | exact Or.inl rfl | exact Or.inr rfl) (pe_op op_add (pv 9) (pe_callD D__law_by (hr.mono (by decide)) rfl (pa_cons (pv 0) (pa_cons (pe_op op_add (pv 1) pe_int) (pa_cons (pe_op op_add (pe_op op_sub (pv 4) (pv 9)) pe_int) pa_nil))))))
  (pss_at (pss_cons (ps_set (i := 11) sc__law_values.nd rfl (by first | exact Or.inl rfl | exact Or.inr rfl) (pe_ix ix_listA (pe_lst (pa_cons pe_non (pa_cons (pe_tup (pa_cons (pv 9) (pa_cons (pv 10) pa_nil))) (pa_cons (pe_tup (pa_cons pe_int (pa_cons (pv 4) pa_nil))) pa_nil)))) (pe_callD D__law_by (hr.mono (by decide)) rfl (pa_cons (pv 0) (pa_cons (pe_op op_add (pv 1) pe_int) (pa_cons pe_int pa_nil)))) (fun _ _ => rfl)))
  (pss_cons (ps_set (i := 12) sc__law_values.nd rfl (by first | exact Or.inl rfl | exact Or.inr rfl) (pe_cmpR op_eq (pe_callD D__law_by (hr.mono (by decide)) rfl (pa_cons (pv 0) (pa_cons (pe_op op_add (pv 1) pe_int) (pa_cons pe_int pa_nil)))) pe_int (nomark _)))
  (pss_at (pss_cons (ps_set (i := 13) sc__law_values.nd rfl (by first | exact Or.inl rfl | exact Or.inr rfl) (pe_slice sl_list (pe_lst (pa_cons (pe_ix ix_list (pv 2) pe_int (fun _ _ => rfl)) (pa_cons (pe_ix ix_list (pv 3) pe_int (fun _ _ => rfl)) (pa_cons (pe_ix ix_list (pv 2) pe_int (fun _ _ => rfl)) pa_nil)))) po_none (po_some (pe_callD D__law_by (hr.mono (by decide)) rfl (pa_cons (pv 0) (pa_cons (pe_op op_add (pv 1) pe_int) (pa_cons pe_int pa_nil)))))))
  (pss_cons (ps_if (pt_cmpR op_in_seq (pe_ix ix_list (pv 3) pe_int (fun _ _ => rfl)) (pe_tup (pa_cons (pe_ix ix_list (pv 2) pe_int (fun _ _ => rfl)) (pa_cons (pe_ix ix_list (pv 2) pe_int (fun _ _ => rfl)) pa_nil))) rfl) (pss_one (ps_set (i := 13) sc__law_values.nd rfl (by first | exact Or.inl rfl | exact Or.inr rfl) (pe_slice sl_list (pv 13) po_none (po_some pe_int)))) pss_nil)
  (pss_one (ps_ret (pe_tup (pa_cons (pe_ix ix_list (pv 2) pe_int (fun _ _ => rfl)) (pa_cons (pe_ix ix_list (pv 3) pe_int (fun _ _ => rfl)) (pa_cons (pv 4) (pa_cons (pv 5) (pa_cons (pv 6) (pa_cons (pv 7) (pa_cons (pv 8) (pa_cons (pv 11) (pa_cons (pv 12) (pa_cons (pe_callTy call_tuple_of rfl T.tuple bt_tuple (pa_cons (pv 13) pa_nil)) pa_nil))))))))))))))))))))))))))))), ?_⟩
  have fit : ∀ n : Nat, n ≤ 1000 → n ≤ sizeLine := fun n h => small h
  refine ⟨_, rfl, _, rfl, a, k, 6, rfl, hS, by omega, by omega, by decide, fun ps so H1 s1 hso ok1 => ?_⟩
  refine ⟨_, rfl, _, rfl, _, _, rfl, rfl, a, _, 6, rfl, hS.same s1, by omega, by omega, by decide, fun po ot H2 s2 hot ok2 => ?_⟩
  have hso2 := s2 _ _ hso
  obtain ⟨a0, a1, a2, a3, a4, a5, rfl⟩ := six_of ok1
  obtain ⟨b0, b1, b2, b3, b4, b5, rfl⟩ := six_of ok2
  have ga0 := ok1.good a0 (by simp)
  have ga3 := ok1.good a3 (by simp)
  have gb0 := ok2.good b0 (by simp)
  have gb1 := ok2.good b1 (by simp)
  have gb2 := ok2.good b2 (by simp)
  have gb3 := ok2.good b3 (by simp)
  have ne03 : a0 ≠ a3 := by
    have := ok1.nd
    simp at this
    exact this.1.2.2.1
  have sT := s1.trans s2
  -- pages
  refine ⟨_, rfl, _, rfl, _, _, rfl, rfl, fit _ (by show 3 ≤ 1000; decide), fun l3 hl3 => ?_⟩
  have s3 := same_new hl3 (.lst [V.int 9, V.int 99, V.int 999])
  refine ⟨_, rfl, _, rfl, _, _, rfl, rfl, a, _, _, rfl, hS.same (sT.trans s3), by omega, by omega, by decide, fun r r0 r1 => ?_⟩
  refine ⟨l3, _, _, rfl, rfl, SqL.of upd_same, r0, r1, fun v hv => ?_⟩
  obtain ⟨m, rfl, m0, m1⟩ : ∃ m : Int, v = .int m ∧ 0 < m ∧ m ≤ 999 := by
    rcases mem3 hv with e | e | e
    · exact ⟨9, e, by decide, by decide⟩
    · exact ⟨99, e, by decide, by decide⟩
    · exact ⟨999, e, by decide, by decide⟩
  refine ⟨a, _, m, rfl, hS.same (sT.trans s3), by omega, by omega, m0, fun pg pg0 pg1 => ?_⟩
  refine ⟨_, _, rfl, rfl, ?_⟩
  have sT3 := sT.trans s3
  have hso3 := s3 _ _ hso2
  have hot3 := s3 _ _ hot
  generalize upd H2 l3 (.lst [V.int 9, V.int 99, V.int 999]) = H3 at s3 sT3 hso3 hot3 ⊢
  clear hv r0 r1 hl3 s3
  -- copies
  refine ⟨_, rfl, _, rfl, _, _, rfl, rfl, a, _, _, rfl, hS.same sT3, by omega, by omega, by decide, fun c1 c10 c11 => ?_⟩
  refine ⟨_, _, rfl, rfl, _, rfl, _, rfl, _, _, rfl, rfl, a, _, _, rfl, hS.same sT3, by omega, by omega, by decide, fun c2 c20 c21 => ?_⟩
  refine ⟨_, _, rfl, rfl, fit _ (by show 3 ≤ 1000; decide), fun l4 hl4 => ?_⟩
  have s4 := same_new hl4 (.lst [V.int 1, V.int (1 + c1), V.int (1 + c2)])
  refine ⟨_, rfl, _, rfl, _, _, rfl, rfl, a, _, _, rfl, hS.same (sT3.trans s4), by omega, by omega, by decide, fun r r0 r1 => ?_⟩
  refine ⟨l4, _, _, rfl, rfl, SqL.of upd_same, r0, r1, fun v hv => ?_⟩
  obtain ⟨cp, rfl, cp0, cp1⟩ : ∃ m : Int, v = .int m ∧ 1 ≤ m ∧ m ≤ 99 := by
    rcases mem3 hv with e | e | e
    · exact ⟨1, e, by decide, by decide⟩
    · exact ⟨1 + c1, e, by omega, by omega⟩
    · exact ⟨1 + c2, e, by omega, by omega⟩
  have sT4 := sT3.trans s4
  have hso4 := s4 _ _ hso3
  have hot4 := s4 _ _ hot3
  generalize upd H3 l4 (.lst [V.int 1, V.int (1 + c1), V.int (1 + c2)]) = H4 at s4 sT4 hso4 hot4 ⊢
  clear hv r0 r1 hl4 s4
  -- layout
  refine ⟨_, rfl, _, rfl, _, _, rfl, rfl, a, _, _, rfl, hS.same sT4, by omega, by omega, by decide, fun u u0 u1 => ?_⟩
  refine ⟨_, _, rfl, rfl, _, rfl, log2_few (by omega) (by omega), _, _, rfl, rfl, ?_, ?_⟩
  · have hT : (Str.ofString (toString (2 + u))).length ≤ 2 := PyProof.Rows.toString_length_le (by omega) (by decide) (by omega)
    have l3 : (Str.ofString "up:").length = 3 := by decide +kernel
    exact fit _ (by rw [l3]; omega)
  refine ⟨fit _ (by show 3 ≤ 1000; decide), fun l5 hl5 => ?_⟩
  have s5 := same_new hl5 (.lst [V.str cOne, V.str (Str.ofString "both"), V.str (Str.ofString "up:" ++ Str.ofString (toString (2 + u)))])
  refine ⟨_, rfl, _, rfl, _, _, rfl, rfl, a, _, _, rfl, hS.same (sT4.trans s5), by omega, by omega, by decide, fun r r0 r1 => ?_⟩
  refine ⟨l5, _, _, rfl, rfl, SqL.of upd_same, r0, r1, fun v hv => ?_⟩
  obtain ⟨ly, rfl, hly⟩ : ∃ z : Str, v = .str z ∧ z ∈ cOne :: Str.ofString "both" :: goodTexts := by
    rcases mem3 hv with e | e | e
    · exact ⟨_, e, List.mem_cons_self⟩
    · exact ⟨_, e, List.mem_cons_of_mem _ List.mem_cons_self⟩
    · exact ⟨_, e, List.mem_cons_of_mem _ (List.mem_cons_of_mem _ (up_in u0 u1))⟩
  have sT5 := sT4.trans s5
  have hso5 := s5 _ _ hso4
  have hot5 := s5 _ _ hot4
  generalize upd H4 l5 (.lst [V.str cOne, V.str (Str.ofString "both"), V.str (Str.ofString "up:" ++ Str.ofString (toString (2 + u)))]) = H5 at s5 sT5 hso5 hot5 ⊢
  clear hv r0 r1 hl5 s5
  refine ⟨[some (.ref a), some (.int k), some (.ref ps), some (.ref po), some (.int (1 + pg)), some (.int cp), some (.str ly), none, none, none, none, none, none, none], rfl, ?_⟩
  -- paper
  refine ⟨_, rfl, po, _, _, _, rfl, rfl, SqL.of hot5, atI_nat (j := 0) rfl, _, rfl, ps, _, _, _, rfl, rfl, SqL.of hso5, atI_nat (j := 0) rfl, fit _ (by show 3 ≤ 1000; decide), fun l6 hl6 => ?_⟩
  have s6 := same_new hl6 (.lst [V.str cPla, V.str b0, V.str a0])
  refine ⟨_, rfl, _, rfl, _, _, rfl, rfl, a, _, _, rfl, hS.same (sT5.trans s6), by omega, by omega, by decide, fun r r0 r1 => ?_⟩
  refine ⟨l6, _, _, rfl, rfl, SqL.of upd_same, r0, r1, fun v hv => ?_⟩
  obtain ⟨pp, rfl, gpp⟩ : ∃ z : Str, v = .str z ∧ good z = true := by
    rcases mem3 hv with e | e | e
    · exact ⟨_, e, plain_good⟩
    · exact ⟨_, e, gb0⟩
    · exact ⟨_, e, ga0⟩
  have sT6 := sT5.trans s6
  have hso6 := s6 _ _ hso5
  have hot6 := s6 _ _ hot5
  generalize upd H5 l6 (.lst [V.str cPla, V.str b0, V.str a0]) = H6 at s6 sT6 hso6 hot6 ⊢
  clear hv r0 r1 hl6 s6
  -- cover
  refine ⟨_, rfl, po, _, _, _, rfl, rfl, SqL.of hot6, atI_nat (j := 1) rfl, _, rfl, fit _ (by show 4 ≤ 1000; decide), fun l7 hl7 => ?_⟩
  have s7 := same_new hl7 (.lst [V.non, V.str b1, V.str pp, V.str cPla])
  refine ⟨_, rfl, _, rfl, _, _, rfl, rfl, a, _, _, rfl, hS.same (sT6.trans s7), by omega, by omega, by decide, fun r r0 r1 => ?_⟩
  refine ⟨l7, _, _, rfl, rfl, SqL.of upd_same, r0, r1, fun v hv => ?_⟩
  obtain ⟨cv, rfl, gcv⟩ : ∃ c : Option Str, v = optV c ∧ ∀ z, c = some z → good z = true := by
    rcases mem4 hv with e | e | e | e
    · exact ⟨none, e, fun z h => by cases h⟩
    · exact ⟨some b1, e, fun z h => by cases h; exact gb1⟩
    · exact ⟨some pp, e, fun z h => by cases h; exact gpp⟩
    · exact ⟨some cPla, e, fun z h => by cases h; exact plain_good⟩
  have sT7 := sT6.trans s7
  have hso7 := s7 _ _ hso6
  have hot7 := s7 _ _ hot6
  generalize upd H6 l7 (.lst [V.non, V.str b1, V.str pp, V.str cPla]) = H7 at s7 sT7 hso7 hot7 ⊢
  clear hv r0 r1 hl7 s7
  -- first, last
  refine ⟨_, rfl, _, rfl, _, _, rfl, rfl, _, rfl, a, _, _, rfl, hS.same sT7, by omega, by omega, by omega, fun f f0 f1 => ?_⟩
  refine ⟨_, _, rfl, rfl, ?_⟩
  refine ⟨_, rfl, _, rfl, _, rfl, _, _, rfl, rfl, _, rfl, _, rfl, _, _, rfl, rfl, _, _, rfl, rfl, a, _, _, rfl, hS.same sT7, by omega, by omega, by omega, fun g g0 g1 => ?_⟩
  refine ⟨_, _, rfl, rfl, ?_⟩
  refine ⟨[some (.ref a), some (.int k), some (.ref ps), some (.ref po), some (.int (1 + pg)), some (.int cp), some (.str ly), some (.str pp), some (optV cv), some (.int (1 + f)), some (.int (1 + f + g)), none, none, none], rfl, ?_⟩
  -- colour
  refine ⟨_, rfl, _, rfl, fit _ (by show 2 ≤ 1000; decide), fun t1 ht1 => ?_⟩
  refine ⟨_, rfl, fit _ (by show 2 ≤ 1000; decide), fun t2 ht2 => ?_⟩
  refine ⟨fit _ (by show 3 ≤ 1000; decide), fun l8 hl8 => ?_⟩
  have s8 : Same H7 (upd (upd (upd H7 t1 (.tup [V.int (1 + f), V.int (1 + f + g)])) t2 (.tup [V.int 1, V.int (1 + pg)])) l8 (.lst [V.non, V.ref t1, V.ref t2])) := ((same_new ht1 _).trans (same_new ht2 _)).trans (same_new hl8 _)
  have e1 : (upd (upd (upd H7 t1 (.tup [V.int (1 + f), V.int (1 + f + g)])) t2 (.tup [V.int 1, V.int (1 + pg)])) l8 (.lst [V.non, V.ref t1, V.ref t2])) t1 = some (.tup [V.int (1 + f), V.int (1 + f + g)]) := ((same_new ht2 _).trans (same_new hl8 _)) _ _ upd_same
  have e2 : (upd (upd (upd H7 t1 (.tup [V.int (1 + f), V.int (1 + f + g)])) t2 (.tup [V.int 1, V.int (1 + pg)])) l8 (.lst [V.non, V.ref t1, V.ref t2])) t2 = some (.tup [V.int 1, V.int (1 + pg)]) := (same_new hl8 _) _ _ upd_same
  refine ⟨_, rfl, _, rfl, _, _, rfl, rfl, a, _, _, rfl, hS.same (sT7.trans s8), by omega, by omega, by decide, fun r r0 r1 => ?_⟩
  refine ⟨l8, _, _, rfl, rfl, SqL.of upd_same, r0, r1, fun v hv => ?_⟩
  have sT8 := sT7.trans s8
  have hso8 := s8 _ _ hso7
  have hot8 := s8 _ _ hot7
  generalize upd (upd (upd H7 t1 (.tup [V.int (1 + f), V.int (1 + f + g)])) t2 (.tup [V.int 1, V.int (1 + pg)])) l8 (.lst [V.non, V.ref t1, V.ref t2]) = H8 at s8 sT8 hso8 hot8 e1 e2 ⊢
  obtain ⟨co, hco, gco⟩ : ∃ c : Option (Int × Int), HoldsV H8 v (match c with | some (a, b) => .pair a b | none => non) ∧ ∀ x y, c = some (x, y) → 1 ≤ x ∧ x ≤ y ∧ y ≤ 1 + pg := by
    rcases mem3 hv with e | e | e
    · exact ⟨none, e, fun x y h => by cases h⟩
    · exact ⟨some (1 + f, 1 + f + g), ⟨t1, e, e1⟩, fun x y h => by cases h; omega⟩
    · exact ⟨some (1, 1 + pg), ⟨t2, e, e2⟩, fun x y h => by cases h; omega⟩
  clear hv r0 r1 hl8 ht1 ht2 e1 e2 s8
  -- staple
  refine ⟨_, rfl, _, rfl, _, _, rfl, rfl, a, _, _, rfl, hS.same sT8, by omega, by omega, by decide, fun sr _ _ => ?_⟩
  refine ⟨rfl, ?_⟩
  generalize decide (V.int sr = V.int 0) = stp
  refine ⟨[some (.ref a), some (.int k), some (.ref ps), some (.ref po), some (.int (1 + pg)), some (.int cp), some (.str ly), some (.str pp), some (optV cv), some (.int (1 + f)), some (.int (1 + f + g)), some v, some (.bl stp), none], rfl, ?_⟩
  -- after
  refine ⟨_, rfl, ps, _, _, _, rfl, rfl, SqL.of hso8, atI_nat (j := 0) rfl, _, rfl, po, _, _, _, rfl, rfl, SqL.of hot8, atI_nat (j := 2) rfl, _, rfl, ps, _, _, _, rfl, rfl, SqL.of hso8, atI_nat (j := 3) rfl, fit _ (by show 3 ≤ 1000; decide), fun l9 hl9 => ?_⟩
  have s9 := same_new hl9 (.lst [V.str a0, V.str b2, V.str a3])
  refine ⟨_, rfl, _, rfl, _, _, rfl, rfl, a, _, _, rfl, hS.same (sT8.trans s9), by omega, by omega, by decide, fun r r0 r1 => ?_⟩
  obtain ⟨nr, rfl⟩ := Int.eq_ofNat_of_zero_le r0
  refine ⟨_, rfl, l9, _, rfl, SqL.of upd_same, fun pA hpA => ?_⟩
  rw [show cutV [V.str a0, V.str b2, V.str a3] none (some ((nr : Nat) : Int)) = (([a0, b2, a3].take nr).map V.str) by rw [cut_to, List.map_take]; rfl]
  have s10 := s9.trans (same_new hpA (.lst (([a0, b2, a3].take nr).map V.str)))
  have hso10 := s10 _ _ hso8
  have hot10 := s10 _ _ hot8
  have hA : (upd (upd H8 l9 (.lst [V.str a0, V.str b2, V.str a3])) pA (.lst (([a0, b2, a3].take nr).map V.str))) pA = some (.lst (([a0, b2, a3].take nr).map V.str)) := upd_same
  generalize upd (upd H8 l9 (.lst [V.str a0, V.str b2, V.str a3])) pA (.lst (([a0, b2, a3].take nr).map V.str)) = H10 at s10 hso10 hot10 hA ⊢
  refine ⟨_, rfl, po, _, _, _, rfl, rfl, SqL.of hot10, atI_nat (j := 2) rfl, _, rfl, ps, _, _, _, rfl, rfl, SqL.of hso10, atI_nat (j := 0) rfl, _, rfl, ps, _, _, _, rfl, rfl, SqL.of hso10, atI_nat (j := 3) rfl, fit _ (by show 2 ≤ 1000; decide), fun t3 ht3 => ?_⟩
  refine ⟨t3, _, rfl, .inr (SqT.of upd_same), rfl, rfl, _, rfl, ?_⟩
  have s11 := s10.trans (same_new ht3 (.tup [V.str a0, V.str a3]))
  have hA11 := (same_new ht3 (.tup [V.str a0, V.str a3])) _ _ hA
  have hso11 := (same_new ht3 (.tup [V.str a0, V.str a3])) _ _ hso10
  have hot11 := (same_new ht3 (.tup [V.str a0, V.str a3])) _ _ hot10
  generalize upd H10 t3 (.tup [V.str a0, V.str a3]) = H11 at s11 hA11 hso11 hot11 ⊢
  have gall : ∀ z ∈ [a0, b2, a3], good z = true := by
    intro z hz
    rcases List.mem_cons.mp hz with rfl | hz
    · exact ga0
    rcases List.mem_cons.mp hz with rfl | hz
    · exact gb2
    · rw [List.mem_singleton.mp hz]; exact ga3
  refine ite2 (fun c => ?_) (fun c => ?_)
  · -- the names meet: the first alone
    refine ⟨_, rfl, _, rfl, pA, _, rfl, SqL.of hA11, fun pB hpB => ?_⟩
    rw [show cutV (([a0, b2, a3].take nr).map V.str) none (some 1) = ((([a0, b2, a3].take nr).take 1).map V.str) by rw [show (1 : Int) = ((1 : Nat) : Int) from rfl, cut_to]; simp only [List.map_take]]
    obtain ⟨as, eas, gas, nas, las⟩ : ∃ as : List Str, ([a0, b2, a3].take nr).take 1 = as ∧ (∀ z ∈ as, good z = true) ∧ as.Nodup ∧ as.length ≤ 3 := by
      refine ⟨_, rfl, fun z hz => gall z (List.mem_of_mem_take (List.mem_of_mem_take hz)), ?_, ?_⟩
      · cases nr with
        | zero => exact List.nodup_nil
        | succ n => exact List.nodup_cons.mpr ⟨by simp, List.nodup_nil⟩
      · rw [List.length_take]
        omega
    rw [eas]
    have s12 := s11.trans (same_new hpB (.lst (as.map V.str)))
    have hso12 := (same_new hpB (.lst (as.map V.str))) _ _ hso11
    have hot12 := (same_new hpB (.lst (as.map V.str))) _ _ hot11
    have hB : (upd H11 pB (.lst (as.map V.str))) pB = some (.lst (as.map V.str)) := upd_same
    generalize upd H11 pB (.lst (as.map V.str)) = H12 at s12 hso12 hot12 hB ⊢
    refine ⟨_, rfl, ps, _, _, _, rfl, rfl, SqL.of hso12, atI_nat (j := 0) rfl, _, rfl, po, _, _, _, rfl, rfl, SqL.of hot12, atI_nat (j := 3) rfl, _, rfl, _, rfl, _, rfl, _, rfl, _, rfl, _, rfl, _, rfl, _, rfl, pB, _, rfl, .inl ⟨SqL.of hB, fun l hl => ⟨fit _ (by show 10 ≤ 1000; decide), fun t ht => ?_⟩⟩⟩
    have s13 := (same_new hl (.tup (as.map V.str))).trans (same_new ht (.tup [V.str a0, V.str b3, V.int (1 + pg), V.int cp, V.str ly, V.str pp, optV cv, v, V.bl stp, V.ref l]))
    refine q t ⟨a0, b3, 1 + pg, cp, ly, pp, cv, co, stp, as⟩ _ ((sT8.trans s12).trans s13) ⟨ga0, gb3, by show 1 ≤ 1 + pg; omega, by show 1 + pg ≤ 999; omega, cp0, cp1, hly, gpp, gcv, gco, gas, nas, las⟩ ⟨v, l, upd_same, (hco.same s12).same s13, (same_new ht _) _ _ upd_same⟩
  · obtain ⟨as, eas, gas, nas, las⟩ : ∃ as : List Str, [a0, b2, a3].take nr = as ∧ (∀ z ∈ as, good z = true) ∧ as.Nodup ∧ as.length ≤ 3 := by
      refine ⟨_, rfl, fun z hz => gall z (List.mem_of_mem_take hz), ?_, ?_⟩
      · have c' : inV (.str b2) [.str a0, .str a3] = false := by simpa using c
        rw [in_two] at c'
        simp at c'
        refine List.Nodup.sublist (List.take_sublist _ _) ?_
        simp
        exact ⟨⟨fun e => c'.1 e.symm, ne03⟩, c'.2⟩
      · rw [List.length_take]
        simp
        omega
    rw [eas] at hA11
    refine ⟨_, rfl, ps, _, _, _, rfl, rfl, SqL.of hso11, atI_nat (j := 0) rfl, _, rfl, po, _, _, _, rfl, rfl, SqL.of hot11, atI_nat (j := 3) rfl, _, rfl, _, rfl, _, rfl, _, rfl, _, rfl, _, rfl, _, rfl, _, rfl, pA, _, rfl, .inl ⟨SqL.of hA11, fun l hl => ⟨fit _ (by show 10 ≤ 1000; decide), fun t ht => ?_⟩⟩⟩
    have s13 := (same_new hl (.tup (as.map V.str))).trans (same_new ht (.tup [V.str a0, V.str b3, V.int (1 + pg), V.int cp, V.str ly, V.str pp, optV cv, v, V.bl stp, V.ref l]))
    refine q t ⟨a0, b3, 1 + pg, cp, ly, pp, cv, co, stp, as⟩ _ ((sT8.trans s11).trans s13) ⟨ga0, gb3, by show 1 ≤ 1 + pg; omega, by show 1 + pg ≤ 999; omega, cp0, cp1, hly, gpp, gcv, gco, gas, nas, las⟩ ⟨v, l, upd_same, (hco.same s11).same s13, (same_new ht _) _ _ upd_same⟩

end
end My

namespace My
open PySem L2
open Blk (sg sg_inj sg_app)
section
variable {P : Program} {w : World} {K : PySem.W.Frag} {mg : Str → Option Value} {base : Heap}
def sp__law_whole (_K : PySem.W.Frag) : Sp := fun vs H Q _ => ∃ n : Int, vs = [.int n, .int n] ∧ Q (.bl true) H
def sp__law_text (_K : PySem.W.Frag) : Sp := fun vs H Q _ => ∃ o : Option Str, vs = [optV o, optV o] ∧ Q (.bl true) H
def sp__law_is_job (C : Addr) : Sp := fun vs H Q _ => ∃ (x t : Addr) (j : Jb), vs = [.ref x, .ref t] ∧ j.Ok ∧ JobAt C H x j.jf ∧ Due H t j ∧ Q (.bl true) H
theorem sc__law_whole : FnScope ["_law_found", "_law_due"] ["_law_found", "_law_due"] (defScope s__law_whole) := ⟨rfl, rfl, rfl, by decide +kernel, rfl, by decide +kernel, by decide +kernel⟩
theorem ok__law_whole {fa cJob : Addr} {fd : FuncData} (F : Fun K "_law_whole" "_law_whole" s__law_whole fa fd) (T : Txt K mg cJob)  :
    FnOk P w K mg base CX0 1 fa fd ["_law_found", "_law_due"] (sp__law_whole K) := by
  refine F.ok sc__law_whole (fun vs H Q E h => ?_) (fun cdv A outer s H vs Q E hr h => ?_)
  · obtain ⟨n, rfl, _⟩ := h
    rfl
  obtain ⟨n, rfl, q⟩ := h
  refine ⟨_, (pss_one (ps_ret (pe_and (pe_callB call_isi rfl T.isinstance bt_isi (pa_cons (pv 0) (pa_cons (pe_bltn rfl T.int bt_int (rel_ty _)) pa_nil))) (pe_and (pe_not (pe_callB call_isi rfl T.isinstance bt_isi (pa_cons (pv 0) (pa_cons (pe_bltn rfl T.bool bt_bool (rel_ty _)) pa_nil)))) (pe_one (pe_cmpR op_eq (pv 0) (pv 1) (nomark _))))))), ?_⟩
  refine ⟨_, rfl, _, _, _, true, rfl, TyOf.int _, kit_same _, true, rfl, ?_⟩
  refine iteT ⟨_, rfl, _, _, _, false, rfl, TyOf.int _, kit_int_bool _, false, rfl, true, rfl, ?_⟩
  refine iteT ⟨_, rfl, _, rfl, rfl, ?_⟩
  rw [decide_eq_true rfl]
  exact q
theorem sc__law_text : FnScope ["_law_found", "_law_due"] ["_law_found", "_law_due"] (defScope s__law_text) := ⟨rfl, rfl, rfl, by decide +kernel, rfl, by decide +kernel, by decide +kernel⟩
theorem ok__law_text {fa cJob : Addr} {fd : FuncData} (F : Fun K "_law_text" "_law_text" s__law_text fa fd) (T : Txt K mg cJob)  :
    FnOk P w K mg base CX0 1 fa fd ["_law_found", "_law_due"] (sp__law_text K) := by
  refine F.ok sc__law_text (fun vs H Q E h => ?_) (fun cdv A outer s H vs Q E hr h => ?_)
  · obtain ⟨o, rfl, _⟩ := h
    rfl
  obtain ⟨o, rfl, q⟩ := h
  refine ⟨_, (pss_cons (ps_if (pt_cmpR op_isN (pv 1) pe_non (nomark _)) (pss_one (ps_ret (pe_cmpR op_isN (pv 0) pe_non (nomark _)))) pss_nil)
  (pss_one (ps_ret (pe_and (pe_callB call_isi rfl T.isinstance bt_isi (pa_cons (pv 0) (pa_cons (pe_bltn rfl T.str bt_str (rel_ty _)) pa_nil))) (pe_one (pe_cmpR op_eq (pv 0) (pv 1) (nomark _))))))), ?_⟩
  refine ⟨_, rfl, rfl, _, rfl, ?_⟩
  cases o with
  | none => exact iteT ⟨_, rfl, rfl, q⟩
  | some z =>
    refine iteF ⟨_, rfl, _, _, _, true, rfl, TyOf.str _, kit_same _, true, rfl, ?_⟩
    refine iteT ⟨_, rfl, _, rfl, rfl, ?_⟩
    rw [decide_eq_true rfl]
    exact q
theorem jF0 (a b c d e f g h i j : V) : (jobF a b c d e f g h i j).lookup ("name" : Str) = some a := rfl
theorem jF1 (a b c d e f g h i j : V) : (jobF a b c d e f g h i j).lookup ("asker" : Str) = some b := rfl
theorem jF2 (a b c d e f g h i j : V) : (jobF a b c d e f g h i j).lookup ("pages" : Str) = some c := rfl
theorem jF3 (a b c d e f g h i j : V) : (jobF a b c d e f g h i j).lookup ("copies" : Str) = some d := rfl
theorem jF4 (a b c d e f g h i j : V) : (jobF a b c d e f g h i j).lookup ("layout" : Str) = some e := rfl
theorem jF5 (a b c d e f g h i j : V) : (jobF a b c d e f g h i j).lookup ("paper" : Str) = some f := rfl
theorem jF6 (a b c d e f g h i j : V) : (jobF a b c d e f g h i j).lookup ("cover" : Str) = some g := rfl
theorem jF7 (a b c d e f g h i j : V) : (jobF a b c d e f g h i j).lookup ("colour" : Str) = some h := rfl
theorem jF8 (a b c d e f g h i j : V) : (jobF a b c d e f g h i j).lookup ("staple" : Str) = some i := rfl
theorem jF9 (a b c d e f g h i j : V) : (jobF a b c d e f g h i j).lookup ("after" : Str) = some j := rfl
theorem after_is {H : Hp} : ∀ {as : List V} {zs : List Str}, Paired (fun a o => HoldsV H a o) as (zs.map fun z => VO.v (.str z)) → as = zs.map V.str
  | [], [], _ => rfl
  | a :: as, [], r => by cases r
  | [], z :: zs, r => by cases r
  | a :: as, z :: zs, r => by
    cases r with
    | cons h t => rw [List.map_cons, after_is t, show a = V.str z from h]
theorem sc__law_is_job : FnScope ["_law_job", "_law_due", "_law_k"] ["_law_job", "_law_due"] (defScope s__law_is_job) := ⟨rfl, rfl, rfl, by decide +kernel, rfl, by decide +kernel, by decide +kernel⟩
theorem ok__law_is_job {fa cJob : Addr} {fd : FuncData} (F : Fun K "_law_is_job" "_law_is_job" s__law_is_job fa fd) (T : Txt K mg cJob) (D__law_text : Dfn P w K mg base 1 "_law_text" ["_law_found", "_law_due"] (sp__law_text K)) (D__law_whole : Dfn P w K mg base 1 "_law_whole" ["_law_found", "_law_due"] (sp__law_whole K)) :
    FnOk P w K mg base CX0 2 fa fd ["_law_job", "_law_due"] (sp__law_is_job cJob) := by
  refine F.ok sc__law_is_job (fun vs H Q E h => ?_) (fun cdv A outer s H vs Q E hr h => ?_)
  · obtain ⟨x, t, j, rfl, _⟩ := h
    rfl
  obtain ⟨x, t, j, rfl, JO, J, U, q⟩ := h
  obtain ⟨dx, pa, v4, v5, v6, v7, v8, v9, as, hx, e4, e5, e6, e7, e8, e9, hpa, haf⟩ := J.ex
  obtain ⟨vc, pb, ht, hc, hpb⟩ := U.ex
  have e4' : v4 = .int j.copies := e4
  have e5' : v5 = .str j.layout := e5
  have e6' : v6 = .str j.paper := e6
  have e7' : v7 = optV j.cover := by
    have e : HoldsV H v7 (match j.cover with | some z => .v (.str z) | none => non) := e7
    cases h : j.cover with
    | none => rw [h] at e; exact e
    | some z => rw [h] at e; exact e
  have e9' : v9 = .bl j.staple := e9
  have haf' : as = j.after.map V.str := after_is haf
  subst e4' e5' e6' e7' e9' haf'
  have cl := T.cl_Job
  refine ⟨_, (pss_cons (ps_if (PW.pt (pw_or (pt_not (pt_truth (pe_callD D__law_text (hr.mono (by decide)) rfl (pa_cons (pe_fld (pv 0) rfl) (pa_cons (pe_ix ix_tup (pv 1) pe_int (fun _ _ => rfl)) pa_nil))) (fun _ => rfl))) (pw_or1 (pt_not (pt_truth (pe_callD D__law_text (hr.mono (by decide)) rfl (pa_cons (pe_fld (pv 0) rfl) (pa_cons (pe_ix ix_tup (pv 1) pe_int (fun _ _ => rfl)) pa_nil))) (fun _ => rfl)))))) (pss_one (ps_ret pe_bl)) pss_nil)
  (pss_cons (ps_if (PW.pt (pw_or (pt_not (pt_truth (pe_callD D__law_whole (hr.mono (by decide)) rfl (pa_cons (pe_fld (pv 0) rfl) (pa_cons (pe_ix ix_tup (pv 1) pe_int (fun _ _ => rfl)) pa_nil))) (fun _ => rfl))) (pw_or1 (pt_not (pt_truth (pe_callD D__law_whole (hr.mono (by decide)) rfl (pa_cons (pe_fld (pv 0) rfl) (pa_cons (pe_ix ix_tup (pv 1) pe_int (fun _ _ => rfl)) pa_nil))) (fun _ => rfl)))))) (pss_one (ps_ret pe_bl)) pss_nil)
  (pss_cons (ps_if (PW.pt (pw_or (pt_not (pt_truth (pe_callD D__law_text (hr.mono (by decide)) rfl (pa_cons (pe_fld (pv 0) rfl) (pa_cons (pe_ix ix_tup (pv 1) pe_int (fun _ _ => rfl)) pa_nil))) (fun _ => rfl))) (pw_or (pt_not (pt_truth (pe_callD D__law_text (hr.mono (by decide)) rfl (pa_cons (pe_fld (pv 0) rfl) (pa_cons (pe_ix ix_tup (pv 1) pe_int (fun _ _ => rfl)) pa_nil))) (fun _ => rfl))) (pw_or1 (pt_not (pt_truth (pe_callD D__law_text (hr.mono (by decide)) rfl (pa_cons (pe_fld (pv 0) rfl) (pa_cons (pe_ix ix_tup (pv 1) pe_int (fun _ _ => rfl)) pa_nil))) (fun _ => rfl))))))) (pss_one (ps_ret pe_bl)) pss_nil)
  (pss_cons (ps_if (pt_cmpR op_isN (pe_ix ix_tup (pv 1) pe_int (fun _ _ => rfl)) pe_non (nomark _)) (pss_one (ps_if (pt_cmpR op_notN (pe_fld (pv 0) rfl) pe_non (nomark _)) (pss_one (ps_ret pe_bl)) pss_nil)) (pss_one (ps_if (PW.pt (pw_or (pt_not (pt_truth (pe_callB call_isi rfl T.isinstance bt_isi (pa_cons (pe_fld (pv 0) rfl) (pa_cons (pe_bltn rfl T.tuple bt_tuple (rel_ty _)) pa_nil))) (fun _ => rfl))) (pw_or1 (pt_cmpR op_ne (pe_callB call_len_seq rfl T.len PySem.boot_len (pa_cons (pe_fld (pv 0) rfl) pa_nil)) pe_int (nomark _))))) (pss_one (ps_ret pe_bl)) (pss_one (ps_if (PW.pt (pw_or (pt_not (pt_truth (pe_callD D__law_whole (hr.mono (by decide)) rfl (pa_cons (pe_ix ix_tup (pe_fld (pv 0) rfl) pe_int (fun _ _ => rfl)) (pa_cons (pe_ix ix_tup (pe_ix ix_tup (pv 1) pe_int (fun _ _ => rfl)) pe_int (fun _ _ => rfl)) pa_nil))) (fun _ => rfl))) (pw_or1 (pt_not (pt_truth (pe_callD D__law_whole (hr.mono (by decide)) rfl (pa_cons (pe_ix ix_tup (pe_fld (pv 0) rfl) pe_int (fun _ _ => rfl)) (pa_cons (pe_ix ix_tup (pe_ix ix_tup (pv 1) pe_int (fun _ _ => rfl)) pe_int (fun _ _ => rfl)) pa_nil))) (fun _ => rfl)))))) (pss_one (ps_ret pe_bl)) pss_nil)))))
  (pss_cons (ps_if (PW.pt (pw_or (pt_not (pt_truth (pe_callB call_isi rfl T.isinstance bt_isi (pa_cons (pe_fld (pv 0) rfl) (pa_cons (pe_bltn rfl T.bool bt_bool (rel_ty _)) pa_nil))) (fun _ => rfl))) (pw_or1 (pt_cmpR op_ne (pe_fld (pv 0) rfl) (pe_ix ix_tup (pv 1) pe_int (fun _ _ => rfl)) (nomark _))))) (pss_one (ps_ret pe_bl)) pss_nil)
  (pss_cons (ps_if (PW.pt (pw_or (pt_not (pt_truth (pe_callB call_isi rfl T.isinstance bt_isi (pa_cons (pe_fld (pv 0) rfl) (pa_cons (pe_bltn rfl T.tuple bt_tuple (rel_ty _)) pa_nil))) (fun _ => rfl))) (pw_or1 (pt_cmpR op_ne (pe_callB call_len_seq rfl T.len PySem.boot_len (pa_cons (pe_fld (pv 0) rfl) pa_nil)) (pe_callB call_len_seq rfl T.len PySem.boot_len (pa_cons (pe_ix ix_tup (pv 1) pe_int (fun _ _ => rfl)) pa_nil)) (nomark _))))) (pss_one (ps_ret pe_bl)) pss_nil)
  (pss_cons (ps_for PassesOwn.never rfl (pi_range1 rfl T.range (pa_cons (pe_callB call_len_seq rfl T.len PySem.boot_len (pa_cons (pe_ix ix_tup (pv 1) pe_int (fun _ _ => rfl)) pa_nil)) pa_nil)) (pg_name (i := 2) sc__law_is_job.nd rfl (by first | exact Or.inl rfl | exact Or.inr rfl))
  (pss_one (ps_if (pt_not (pt_truth (pe_callD D__law_text (hr.mono (by decide)) rfl (pa_cons (pe_ix ix_tup (pe_fld (pv 0) rfl) (pv 2) (fun _ _ => rfl)) (pa_cons (pe_ix ix_tup (pe_ix ix_tup (pv 1) pe_int (fun _ _ => rfl)) (pv 2) (fun _ _ => rfl)) pa_nil))) (fun _ => rfl))) (pss_one (ps_ret pe_bl)) pss_nil)))
  (pss_one (ps_ret pe_bl))))))))), ?_⟩
  -- name, asker
  refine ⟨_, rfl, x, cJob, dx, _, _, rfl, hx, cl, T.n_Job_name, jF0 _ _ _ _ _ _ _ _ _ _, _, rfl, t, _, _, _, rfl, rfl, SqT.of ht, atI_nat (j := 0) rfl, some j.name, rfl, _, rfl, ?_⟩
  refine iteF ⟨_, rfl, x, cJob, dx, _, _, rfl, hx, cl, T.n_Job_asker, jF1 _ _ _ _ _ _ _ _ _ _, _, rfl, t, _, _, _, rfl, rfl, SqT.of ht, atI_nat (j := 1) rfl, some j.asker, rfl, _, rfl, ?_⟩
  refine iteF ?_
  -- pages, copies
  refine ⟨_, rfl, x, cJob, dx, _, _, rfl, hx, cl, T.n_Job_pages, jF2 _ _ _ _ _ _ _ _ _ _, _, rfl, t, _, _, _, rfl, rfl, SqT.of ht, atI_nat (j := 2) rfl, j.pages, rfl, _, rfl, ?_⟩
  refine iteF ⟨_, rfl, x, cJob, dx, _, _, rfl, hx, cl, T.n_Job_copies, jF3 _ _ _ _ _ _ _ _ _ _, _, rfl, t, _, _, _, rfl, rfl, SqT.of ht, atI_nat (j := 3) rfl, j.copies, rfl, _, rfl, ?_⟩
  refine iteF ?_
  -- layout, paper, cover
  refine ⟨_, rfl, x, cJob, dx, _, _, rfl, hx, cl, T.n_Job_layout, jF4 _ _ _ _ _ _ _ _ _ _, _, rfl, t, _, _, _, rfl, rfl, SqT.of ht, atI_nat (j := 4) rfl, some j.layout, rfl, _, rfl, ?_⟩
  refine iteF ⟨_, rfl, x, cJob, dx, _, _, rfl, hx, cl, T.n_Job_paper, jF5 _ _ _ _ _ _ _ _ _ _, _, rfl, t, _, _, _, rfl, rfl, SqT.of ht, atI_nat (j := 5) rfl, some j.paper, rfl, _, rfl, ?_⟩
  refine iteF ⟨_, rfl, x, cJob, dx, _, _, rfl, hx, cl, T.n_Job_cover, jF6 _ _ _ _ _ _ _ _ _ _, _, rfl, t, _, _, _, rfl, rfl, SqT.of ht, atI_nat (j := 6) rfl, j.cover, rfl, _, rfl, ?_⟩
  refine iteF ?_
  -- the colour, in two ways that meet again
  refine ⟨_, rfl, t, _, _, _, rfl, rfl, SqT.of ht, atI_nat (j := 7) rfl, rfl, _, rfl, ?_⟩
  have e8' : HoldsV H v8 (match j.colour with | some (a, b) => .pair a b | none => non) := e8
  have hc' : HoldsV H vc (match j.colour with | some (a, b) => .pair a b | none => non) := hc
  rcases hco : j.colour with _ | ⟨c1, c2⟩
  all_goals rw [hco] at e8' hc'
  have e8'' : v8 = .non := e8'
  have hc'' : vc = .non := hc'
  subst e8'' hc''
  refine iteT ⟨_, rfl, x, cJob, dx, _, _, rfl, hx, cl, T.n_Job_colour, jF7 _ _ _ _ _ _ _ _ _ _, rfl, _, rfl, ?_⟩
  refine iteF ?_
  rotate_left
  obtain ⟨p8, rfl, h8⟩ := e8'
  obtain ⟨pc, rfl, hpc⟩ := hc'
  refine iteF ⟨_, rfl, x, cJob, dx, _, _, rfl, hx, cl, T.n_Job_colour, jF7 _ _ _ _ _ _ _ _ _ _, _, _, _, true, rfl, TyOf.tup h8, kit_same _, true, rfl, ?_⟩
  refine iteF ⟨_, rfl, x, cJob, dx, _, _, rfl, hx, cl, T.n_Job_colour, jF7 _ _ _ _ _ _ _ _ _ _, p8, _, rfl, .inr (SqT.of h8), rfl, _, rfl, ?_⟩
  refine iteF ?_
  refine ⟨_, rfl, x, cJob, dx, _, _, rfl, hx, cl, T.n_Job_colour, jF7 _ _ _ _ _ _ _ _ _ _, p8, _, _, _, rfl, rfl, SqT.of h8, atI_nat (j := 0) rfl, _, rfl, t, _, _, _, rfl, rfl, SqT.of ht, atI_nat (j := 7) rfl, pc, _, _, _, rfl, rfl, SqT.of hpc, atI_nat (j := 0) rfl, c1, rfl, _, rfl, ?_⟩
  refine iteF ⟨_, rfl, x, cJob, dx, _, _, rfl, hx, cl, T.n_Job_colour, jF7 _ _ _ _ _ _ _ _ _ _, p8, _, _, _, rfl, rfl, SqT.of h8, atI_nat (j := 1) rfl, _, rfl, t, _, _, _, rfl, rfl, SqT.of ht, atI_nat (j := 7) rfl, pc, _, _, _, rfl, rfl, SqT.of hpc, atI_nat (j := 1) rfl, c2, rfl, _, rfl, ?_⟩
  refine iteF ?_
  all_goals
    refine ⟨_, rfl, x, cJob, dx, _, _, rfl, hx, cl, T.n_Job_staple, jF8 _ _ _ _ _ _ _ _ _ _, _, _, _, true, rfl, TyOf.bl _, kit_same _, true, rfl, ?_⟩
    refine iteF ⟨_, rfl, x, cJob, dx, _, _, rfl, hx, cl, T.n_Job_staple, jF8 _ _ _ _ _ _ _ _ _ _, _, rfl, t, _, _, _, rfl, rfl, SqT.of ht, atI_nat (j := 8) rfl, rfl, _, rfl, ?_⟩
    refine iteNS rfl ?_
    refine ⟨_, rfl, x, cJob, dx, _, _, rfl, hx, cl, T.n_Job_after, jF9 _ _ _ _ _ _ _ _ _ _, _, _, _, true, rfl, TyOf.tup hpa, kit_same _, true, rfl, ?_⟩
    refine iteF ⟨_, rfl, x, cJob, dx, _, _, rfl, hx, cl, T.n_Job_after, jF9 _ _ _ _ _ _ _ _ _ _, pa, _, rfl, .inr (SqT.of hpa), _, rfl, t, _, _, _, rfl, rfl, SqT.of ht, atI_nat (j := 9) rfl, pb, _, rfl, .inr (SqT.of hpb), rfl, _, rfl, ?_⟩
    refine iteNS rfl ?_
    refine ⟨_, rfl, t, _, _, _, rfl, rfl, SqT.of ht, atI_nat (j := 9) rfl, pb, _, rfl, .inr (SqT.of hpb), _, rfl, by omega, by rw [List.length_map]; have := JO.few; omega, for_range (fun i σ H' => H' = H ∧ ∃ v, σ = [some (.ref x), some (.ref t), v]) ⟨rfl, _, rfl⟩ (fun i σ H' hi p => ?_) (fun σ H' p => ?_)⟩
    · obtain ⟨rfl, v, rfl⟩ := p
      have hi' : i < j.after.length := by
        rw [List.length_map] at hi
        omega
      have ha : (j.after.map V.str)[i]? = some (V.str j.after[i]) := by rw [List.getElem?_map, List.getElem?_eq_getElem hi']; rfl
      have ha' : atI (j.after.map V.str) (0 + (i : Int)) = some (V.str j.after[i]) := by rw [Int.zero_add]; exact atI_nat ha
      refine ⟨_, rfl, x, cJob, dx, _, _, rfl, hx, cl, T.n_Job_after, jF9 _ _ _ _ _ _ _ _ _ _, _, rfl, pa, _, _, _, rfl, rfl, SqT.of hpa, ha', _, rfl, t, _, _, _, rfl, rfl, SqT.of ht, atI_nat (j := 9) rfl, _, rfl, pb, _, _, _, rfl, rfl, SqT.of hpb, ha', some j.after[i], rfl, _, rfl, ?_⟩
      exact iteF ⟨rfl, _, rfl⟩
    · obtain ⟨rfl, v, rfl⟩ := p
      exact q

end
end My

namespace My
open PySem L2
open Blk (sg sg_inj sg_app)
section
variable {P : Program} {w : World} {K : PySem.W.Frag} {mg : Str → Option Value} {base : Heap}
def sp_written (C : Addr) : Sp := fun vs H Q _ => ∃ (x : Addr) (j : Jb), vs = [.ref x] ∧ j.Ok ∧ JobAt C H x j.jf ∧ ∀ H', Same H H' → Q (.str j.line) H'
def sp_cost (C : Addr) : Sp := fun vs H Q _ => ∃ (x : Addr) (j : Jb), vs = [.ref x] ∧ j.Ok ∧ JobAt C H x j.jf ∧ Q (.int (j.pages * j.copies)) H
/-- one word more, if it is told -/
def Wv (H : Hp) (x : Addr) (c : Bool) (w : Str) : TS := fun D σ H' => ∃ (l : Addr) (pre : List Str), σ = [some (.ref x), some (.ref l)] ∧ H l = none ∧ Same H H' ∧ H' l = some (.lst (pre.map V.str)) ∧ pre.length ≤ 20 ∧
  ∀ H'', Same H H'' → H'' l = some (.lst ((pre ++ if c = true then [w] else []).map V.str)) → D.nx [some (.ref x), some (.ref l)] H''
theorem wt_no {H H' : Hp} {l : Addr} {pre : List Str} {R : Hp → Prop} {w : Str} {c : Bool} (sm : Same H H') (hl : H' l = some (.lst (pre.map V.str))) (hc : c = false) (nx : ∀ H'', Same H H'' → H'' l = some (.lst ((pre ++ if c = true then [w] else []).map V.str)) → R H'') : R H' := by
  refine nx H' sm ?_
  rw [hc, if_neg (by decide), List.append_nil]
  exact hl
theorem wt_yes {H H' : Hp} {l : Addr} {pre : List Str} {R : Hp → Prop} {w : Str} {c : Bool} (nl : H l = none) (sm : Same H H') (hc : c = true) (nx : ∀ H'', Same H H'' → H'' l = some (.lst ((pre ++ if c = true then [w] else []).map V.str)) → R H'') : R (upd H' l (.lst (pre.map V.str ++ [V.str w]))) := by
  refine nx _ (same_on nl sm _) ?_
  rw [upd_same, hc, if_pos rfl, List.map_append]
  rfl
/-- a job's own fields -/
structure JobF (C : Addr) (H : Hp) (x : Addr) (j : Jb) : Prop where
  ex : ∃ (dx pa : Addr) (v : V), H x = some (.ins C dx (jobF (.str j.name) (.str j.asker) (.int j.pages) (.int j.copies) (.str j.layout) (.str j.paper) (optV j.cover) v (.bl j.staple) (.ref pa))) ∧ HoldsV H v (match j.colour with | some (a, b) => .pair a b | none => non) ∧ H pa = some (.tup (j.after.map V.str))
theorem JobAt.fields {C : Addr} {H : Hp} {x : Addr} {j : Jb} (A : JobAt C H x j.jf) : JobF C H x j := by
  obtain ⟨dx, pa, v4, v5, v6, v7, v8, v9, as, hx, e4, e5, e6, e7, e8, e9, hpa, haf⟩ := A.ex
  have e4' : v4 = .int j.copies := e4
  have e5' : v5 = .str j.layout := e5
  have e6' : v6 = .str j.paper := e6
  have e7' : v7 = optV j.cover := by
    have e : HoldsV H v7 (match j.cover with | some z => .v (.str z) | none => non) := e7
    cases h : j.cover with
    | none => rw [h] at e; exact e
    | some z => rw [h] at e; exact e
  have e9' : v9 = .bl j.staple := e9
  have haf' : as = j.after.map V.str := after_is haf
  subst e4' e5' e6' e7' e9' haf'
  exact ⟨dx, pa, v8, hx, e8, hpa⟩
theorem sc_cost : FnScope ["job"] ["job"] (defScope s_cost) := ⟨rfl, rfl, rfl, by decide +kernel, rfl, by decide +kernel, by decide +kernel⟩
theorem ok_cost {fa cJob : Addr} {fd : FuncData} (F : Fun K "cost" "cost" s_cost fa fd) (T : Txt K mg cJob)  :
    FnOk P w K mg base CX0 1 fa fd ["job"] (sp_cost cJob) := by
  refine F.ok sc_cost (fun vs H Q E h => ?_) (fun cdv A outer s H vs Q E hr h => ?_)
  · obtain ⟨x, j, rfl, _⟩ := h
    rfl
  obtain ⟨x, j, rfl, J, A, q⟩ := h
  obtain ⟨dx, pa, v, hx, hc, hpa⟩ := A.fields.ex
  refine ⟨_, (pss_one (ps_ret (pe_op op_mul (pe_fld (pv 0) rfl) (pe_fld (pv 0) rfl)))), ?_⟩
  refine ⟨_, rfl, x, cJob, dx, _, _, rfl, hx, T.cl_Job, T.n_Job_pages, jF2 _ _ _ _ _ _ _ _ _ _, _, rfl, x, cJob, dx, _, _, rfl, hx, T.cl_Job, T.n_Job_copies, jF3 _ _ _ _ _ _ _ _ _ _, _, _, rfl, rfl, .inl ⟨?_, ?_⟩, q⟩
  · have := J.p0; omega
  · have := J.p1; omega
theorem sc_written : FnScope ["job", "words"] ["job"] (defScope s_written) := ⟨rfl, rfl, rfl, by decide +kernel, rfl, by decide +kernel, by decide +kernel⟩
theorem ok_written {fa cJob : Addr} {fd : FuncData} (F : Fun K "written" "written" s_written fa fd) (T : Txt K mg cJob)  :
    FnOk P w K mg base CX0 1 fa fd ["job"] (sp_written cJob) := by
  refine F.ok sc_written (fun vs H Q E h => ?_) (fun cdv A outer s H vs Q E hr h => ?_)
  · obtain ⟨x, j, rfl, _⟩ := h
    rfl
  obtain ⟨x, j, rfl, J, A, q⟩ := h
  have fit : ∀ n : Nat, n ≤ 1000 → n ≤ sizeLine := fun n h => small h
  have big : ∀ {pre : List Str}, pre.length ≤ 20 → (pre.map V.str).length < sizeLine := fun h => small1000 (by rw [List.length_map]; omega)
  have l1 : cX.length = 1 := by decide +kernel
  have l2 : cCol.length = 7 := by decide +kernel
  have l3 : cPap.length = 6 := by decide +kernel
  have l4 : cCov.length = 6 := by decide +kernel
  have l5 : cDash.length = 1 := by decide +kernel
  have l6 : cAft.length = 6 := by decide +kernel
  have cl := T.cl_Job
  refine ⟨_, (pss_cons (ps_set (i := 1) sc_written.nd rfl (by first | exact Or.inl rfl | exact Or.inr rfl) (pe_lst (pa_cons (pe_fld (pv 0) rfl) (pa_cons (pe_fld (pv 0) rfl) (pa_cons (pe_callTy call_str_int rfl T.str bt_str (pa_cons (pe_fld (pv 0) rfl) pa_nil)) pa_nil)))))
  (pss_cons (PS.weak (t' := Wv H x (!decide (j.copies = 1)) (cX ++ tn j.copies)) (ps_if (pt_cmpR op_ne (pe_fld (pv 0) rfl) (pe_gi T.ONE_COPY rfl) (nomark _)) (pss_one (ps_expr (pe_bm PySem.F.plainAttrs_list PySem.F.slot_list_append PySem.F.type_list_append mt_append (pv 1) (pa_cons (pe_op op_add_str (pe_gs T.COPIES rfl) (pe_callTy call_str_int rfl T.str bt_str (pa_cons (pe_fld (pv 0) rfl) pa_nil))) pa_nil)))) pss_nil) ?w1)
  (pss_cons (PS.weak (t' := Wv H x (!decide (j.layout = cOne)) (j.layout)) (ps_if (pt_cmpR op_ne (pe_fld (pv 0) rfl) (pe_gs T.ONE_LAYOUT rfl) (nomark _)) (pss_one (ps_expr (pe_bm PySem.F.plainAttrs_list PySem.F.slot_list_append PySem.F.type_list_append mt_append (pv 1) (pa_cons (pe_fld (pv 0) rfl) pa_nil)))) pss_nil) ?w2)
  (pss_cons (PS.weak (t' := Wv H x (j.colour.isSome) (cCol ++ tn (j.colour.getD (1, 1)).1 ++ cDash ++ tn (j.colour.getD (1, 1)).2)) (ps_if (pt_cmpR op_notN (pe_fld (pv 0) rfl) pe_non (nomark _)) (pss_one (ps_expr (pe_bm PySem.F.plainAttrs_list PySem.F.slot_list_append PySem.F.type_list_append mt_append (pv 1) (pa_cons (pe_op op_add_str (pe_op op_add_str (pe_op op_add_str (pe_gs T.COLOUR rfl) (pe_callTy call_str_int rfl T.str bt_str (pa_cons (pe_ix ix_tup (pe_fld (pv 0) rfl) pe_int (fun _ _ => rfl)) pa_nil))) pe_str) (pe_callTy call_str_int rfl T.str bt_str (pa_cons (pe_ix ix_tup (pe_fld (pv 0) rfl) pe_int (fun _ _ => rfl)) pa_nil))) pa_nil)))) pss_nil) ?w3)
  (pss_cons (PS.weak (t' := Wv H x (!decide (j.paper = cPla)) (cPap ++ j.paper)) (ps_if (pt_cmpR op_ne (pe_fld (pv 0) rfl) (pe_gs T.PLAIN rfl) (nomark _)) (pss_one (ps_expr (pe_bm PySem.F.plainAttrs_list PySem.F.slot_list_append PySem.F.type_list_append mt_append (pv 1) (pa_cons (pe_op op_add_str (pe_gs T.PAPER rfl) (pe_fld (pv 0) rfl)) pa_nil)))) pss_nil) ?w4)
  (pss_cons (PS.weak (t' := Wv H x (j.cover.isSome) (cCov ++ j.cover.getD cPla)) (ps_if (pt_cmpR op_notN (pe_fld (pv 0) rfl) pe_non (nomark _)) (pss_one (ps_expr (pe_bm PySem.F.plainAttrs_list PySem.F.slot_list_append PySem.F.type_list_append mt_append (pv 1) (pa_cons (pe_op op_add_str (pe_gs T.COVER rfl) (pe_fld (pv 0) rfl)) pa_nil)))) pss_nil) ?w5)
  (pss_cons (PS.weak (t' := Wv H x (j.staple) (cSta)) (ps_if (pt_truth (pe_fld (pv 0) rfl) (fun _ => rfl)) (pss_one (ps_expr (pe_bm PySem.F.plainAttrs_list PySem.F.slot_list_append PySem.F.type_list_append mt_append (pv 1) (pa_cons (pe_gs T.STAPLE rfl) pa_nil)))) pss_nil) ?w6)
  (pss_cons (ps_expr (pe_bm PySem.F.plainAttrs_list PySem.F.slot_list_extend PySem.F.type_list_extend mt_extend (pv 1) (pa_cons (pe_comp (frees := []) ⟨by decide +kernel, rfl, rfl, by decide +kernel, trivial, by decide +kernel, cellsFor_at rfl, rfl⟩ rfl (pi_tup (pe_fld (pv 0) rfl)) (fun _ _ _ _ => pifs_nil) (fun _ _ _ _ => by exact (pe_op op_add_str (pe_gs T.AFTER rfl) (pv 0)))) pa_nil)))
  (pss_one (ps_ret (pe_bm PySem.F.plainAttrs_str PySem.F.slot_str_join PySem.F.type_str_join mt_join pe_str (pa_cons (pv 1) pa_nil)))))))))))), ?_⟩
  case w1 =>
    rintro D σ H' ⟨l, pre, rfl, nl, sm, hl, lp, nx⟩
    obtain ⟨dx, pa, v, hx, hc, hpa⟩ := (A.same sm).fields.ex
    refine ⟨_, rfl, x, cJob, dx, _, _, rfl, hx, cl, T.n_Job_copies, jF3 _ _ _ _ _ _ _ _ _ _, rfl, _, rfl, ?_⟩
    by_cases e : j.copies = 1
    · rw [decide_eq_true (by rw [e])]
      exact iteF (wt_no sm hl (by rw [decide_eq_true e]; rfl) nx)
    · rw [decide_eq_false (by intro z; injection z with z; exact e z)]
      exact iteT ⟨_, rfl, .inl ⟨rfl, _, SqL.of hl⟩, _, rfl, x, cJob, dx, _, _, rfl, hx, cl, T.n_Job_copies, jF3 _ _ _ _ _ _ _ _ _ _, _, rfl, log2_few (by have := J.c0; omega) (by have := J.c1; omega), _, _, rfl, rfl, fit _ (by have := num_len (n := j.copies) (by have := J.c0; omega) (by have := J.c1; omega); show cX.length + (tn j.copies).length ≤ 1000; omega), l, _, _, rfl, rfl, hl, big lp, wt_yes nl sm (by rw [decide_eq_false e]; rfl) nx⟩
  case w2 =>
    rintro D σ H' ⟨l, pre, rfl, nl, sm, hl, lp, nx⟩
    obtain ⟨dx, pa, v, hx, hc, hpa⟩ := (A.same sm).fields.ex
    refine ⟨_, rfl, x, cJob, dx, _, _, rfl, hx, cl, T.n_Job_layout, jF4 _ _ _ _ _ _ _ _ _ _, rfl, _, rfl, ?_⟩
    by_cases e : j.layout = cOne
    · rw [decide_eq_true (by rw [e])]
      exact iteF (wt_no sm hl (by rw [decide_eq_true e]; rfl) nx)
    · rw [decide_eq_false (by intro z; injection z with z; exact e z)]
      exact iteT ⟨_, rfl, .inl ⟨rfl, _, SqL.of hl⟩, _, rfl, x, cJob, dx, _, _, rfl, hx, cl, T.n_Job_layout, jF4 _ _ _ _ _ _ _ _ _ _, l, _, _, rfl, rfl, hl, big lp, wt_yes nl sm (by rw [decide_eq_false e]; rfl) nx⟩
  case w3 =>
    rintro D σ H' ⟨l, pre, rfl, nl, sm, hl, lp, nx⟩
    obtain ⟨dx, pa, v, hx, hc, hpa⟩ := (A.same sm).fields.ex
    refine ⟨_, rfl, x, cJob, dx, _, _, rfl, hx, cl, T.n_Job_colour, jF7 _ _ _ _ _ _ _ _ _ _, rfl, _, rfl, ?_⟩
    cases e : j.colour with
    | none =>
      rw [e] at hc
      have hc2 : v = .non := hc
      subst hc2
      exact iteF (wt_no sm hl (by rw [e]; rfl) nx)
    | some xy =>
      obtain ⟨u, y⟩ := xy
      rw [e] at hc nx
      obtain ⟨pc, rfl, hpc⟩ := hc
      obtain ⟨c1, c2, c3⟩ := J.colour u y e
      have := J.p1
      have n1 := num_len (n := u) (by omega) (by omega)
      have n2 := num_len (n := y) (by omega) (by omega)
      have e1 : cCol.length + (tn u).length ≤ 1000 := by omega
      have e2 : (cCol ++ tn u).length + cDash.length ≤ 1000 := by rw [len_app]; omega
      have e3 : (cCol ++ tn u ++ cDash).length + (tn y).length ≤ 1000 := by rw [len_app, len_app]; omega
      refine iteT ⟨_, rfl, .inl ⟨rfl, _, SqL.of hl⟩, ?_⟩
      refine ⟨_, rfl, x, cJob, dx, _, _, rfl, hx, cl, T.n_Job_colour, jF7 _ _ _ _ _ _ _ _ _ _, pc, _, _, _, rfl, rfl, SqT.of hpc, atI_nat (j := 0) rfl, u, rfl, log2_few (by omega) (by omega), _, _, rfl, rfl, fit _ e1, _, _, rfl, rfl, fit _ e2, ?_⟩
      refine ⟨_, rfl, x, cJob, dx, _, _, rfl, hx, cl, T.n_Job_colour, jF7 _ _ _ _ _ _ _ _ _ _, pc, _, _, _, rfl, rfl, SqT.of hpc, atI_nat (j := 1) rfl, y, rfl, log2_few (by omega) (by omega), _, _, rfl, rfl, fit _ e3, ?_⟩
      exact ⟨l, _, _, rfl, rfl, hl, big lp, wt_yes nl sm rfl nx⟩
  case w4 =>
    rintro D σ H' ⟨l, pre, rfl, nl, sm, hl, lp, nx⟩
    obtain ⟨dx, pa, v, hx, hc, hpa⟩ := (A.same sm).fields.ex
    refine ⟨_, rfl, x, cJob, dx, _, _, rfl, hx, cl, T.n_Job_paper, jF5 _ _ _ _ _ _ _ _ _ _, rfl, _, rfl, ?_⟩
    by_cases e : j.paper = cPla
    · rw [decide_eq_true (by rw [e])]
      exact iteF (wt_no sm hl (by rw [decide_eq_true e]; rfl) nx)
    · rw [decide_eq_false (by intro z; injection z with z; exact e z)]
      exact iteT ⟨_, rfl, .inl ⟨rfl, _, SqL.of hl⟩, _, rfl, x, cJob, dx, _, _, rfl, hx, cl, T.n_Job_paper, jF5 _ _ _ _ _ _ _ _ _ _, _, _, rfl, rfl, fit _ (by have := good_len J.paper; show cPap.length + j.paper.length ≤ 1000; omega), l, _, _, rfl, rfl, hl, big lp, wt_yes nl sm (by rw [decide_eq_false e]; rfl) nx⟩
  case w5 =>
    rintro D σ H' ⟨l, pre, rfl, nl, sm, hl, lp, nx⟩
    obtain ⟨dx, pa, v, hx, hc, hpa⟩ := (A.same sm).fields.ex
    refine ⟨_, rfl, x, cJob, dx, _, _, rfl, hx, cl, T.n_Job_cover, jF6 _ _ _ _ _ _ _ _ _ _, rfl, _, rfl, ?_⟩
    cases e : j.cover with
    | none => exact iteF (wt_no sm hl (by rw [e]; rfl) nx)
    | some z =>
      rw [e] at nx hx
      have := good_len (J.cover z e)
      exact iteT ⟨_, rfl, .inl ⟨rfl, _, SqL.of hl⟩, _, rfl, x, cJob, dx, _, _, rfl, hx, cl, T.n_Job_cover, jF6 _ _ _ _ _ _ _ _ _ _, cCov, z, rfl, rfl, fit _ (by omega), l, _, _, rfl, rfl, hl, big lp, wt_yes nl sm rfl nx⟩
  case w6 =>
    rintro D σ H' ⟨l, pre, rfl, nl, sm, hl, lp, nx⟩
    obtain ⟨dx, pa, v, hx, hc, hpa⟩ := (A.same sm).fields.ex
    refine ⟨_, rfl, x, cJob, dx, _, _, rfl, hx, cl, T.n_Job_staple, jF8 _ _ _ _ _ _ _ _ _ _, _, rfl, ?_⟩
    cases e : j.staple with
    | false => exact iteF (wt_no sm hl e nx)
    | true => exact iteT ⟨_, rfl, .inl ⟨rfl, _, SqL.of hl⟩, l, _, _, rfl, rfl, hl, big lp, wt_yes nl sm e nx⟩
  obtain ⟨dx, pa, v, hx, hc, hpa⟩ := A.fields.ex
  refine ⟨_, rfl, x, cJob, dx, _, _, rfl, hx, cl, T.n_Job_name, jF0 _ _ _ _ _ _ _ _ _ _, _, rfl, x, cJob, dx, _, _, rfl, hx, cl, T.n_Job_asker, jF1 _ _ _ _ _ _ _ _ _ _, _, rfl, x, cJob, dx, _, _, rfl, hx, cl, T.n_Job_pages, jF2 _ _ _ _ _ _ _ _ _ _, _, rfl, log2_few (by have := J.p0; omega) (by have := J.p1; omega), fit _ (by show 3 ≤ 1000; decide), fun l hl => ?_⟩
  have s0 := same_new hl (.lst (j.head.map V.str))
  have L : ∀ (c : Bool) (w : Str), (if c = true then [w] else []).length ≤ 1 := fun c w => by cases c <;> exact Nat.le_of_lt_succ (by simp)
  have a1 := L (!decide (j.copies = 1)) (cX ++ tn j.copies)
  have a2 := L (!decide (j.layout = cOne)) j.layout
  have a3 := L j.colour.isSome (cCol ++ tn (j.colour.getD (1, 1)).1 ++ cDash ++ tn (j.colour.getD (1, 1)).2)
  have a4 := L (!decide (j.paper = cPla)) (cPap ++ j.paper)
  have a5 := L j.cover.isSome (cCov ++ j.cover.getD cPla)
  have lh : j.head.length = 3 := rfl
  refine ⟨l, j.head, rfl, hl, s0, upd_same, by rw [lh]; decide, fun H1 s1 h1 => ?_⟩
  refine ⟨l, _, rfl, hl, s1, h1, (by simp only [List.length_append]; omega), fun H2 s2 h2 => ?_⟩
  refine ⟨l, _, rfl, hl, s2, h2, (by simp only [List.length_append]; omega), fun H3 s3 h3 => ?_⟩
  refine ⟨l, _, rfl, hl, s3, h3, (by simp only [List.length_append]; omega), fun H4 s4 h4 => ?_⟩
  refine ⟨l, _, rfl, hl, s4, h4, (by simp only [List.length_append]; omega), fun H5 s5 h5 => ?_⟩
  refine ⟨l, _, rfl, hl, s5, h5, (by simp only [List.length_append]; omega), fun H6 s6 h6 => ?_⟩
  have eall : j.head ++ (if (!decide (j.copies = 1)) = true then [cX ++ tn j.copies] else []) ++ (if (!decide (j.layout = cOne)) = true then [j.layout] else []) ++ (if j.colour.isSome = true then [cCol ++ tn (j.colour.getD (1, 1)).1 ++ cDash ++ tn (j.colour.getD (1, 1)).2] else []) ++ (if (!decide (j.paper = cPla)) = true then [cPap ++ j.paper] else []) ++ (if j.cover.isSome = true then [cCov ++ j.cover.getD cPla] else []) ++ (if j.staple = true then [cSta] else []) = j.head ++ j.words false := by
    rw [words_plain]
    simp only [List.append_assoc, List.nil_append]
  rw [eall] at h6
  obtain ⟨dx, pa, v, hx, hc, hpa⟩ := (A.same s6).fields.ex
  have lw := words_few j false
  have lf := J.few
  refine ⟨_, rfl, .inl ⟨rfl, _, SqL.of h6⟩, ?_⟩
  refine ⟨_, rfl, x, cJob, dx, _, _, rfl, hx, cl, T.n_Job_after, jF9 _ _ _ _ _ _ _ _ _ _, pa, rfl, ⟨_, SqT.of hpa⟩, compB_seq (seq_tup (K := K) (SqT.of hpa)) (fun _ => true) (fun v => match v with | .str n => .str (cAft ++ n) | _ => .non) ?_ (fun y hy H' R _ r => r) (fun y hy H' R sm _ r => ?_) (fun L H' sm hL hH => ?_)⟩
  · rw [List.length_map]
    exact small1000 (by omega)
  · obtain ⟨n, hn, rfl⟩ := List.mem_map.mp hy
    have := good_len (J.after n hn)
    exact ⟨_, rfl, _, _, rfl, rfl, fit _ (by show cAft.length + n.length ≤ 1000; omega), r⟩
  have eL : (((j.after.map V.str).filter fun _ => true).map fun v => match v with | .str n => V.str (cAft ++ n) | _ => .non) = j.afts.map V.str := by
    rw [List.filter_eq_self.mpr (fun _ _ => rfl)]
    unfold Jb.afts
    rw [List.map_map, List.map_map]
    rfl
  rw [eL] at hH
  have h7 := sm _ _ h6
  refine ⟨l, L, _, _, rfl, rfl, h7, hH, ?_, ?_⟩
  · rw [List.length_map, List.length_map, List.length_append]
    unfold Jb.afts
    rw [List.length_map]
    exact fit _ (by omega)
  obtain ⟨f1, f2⟩ := line_fit J (mix_plain J)
  have lb : cBlank.length = 1 := by decide +kernel
  refine ⟨rfl, _, rfl, cBlank, l, j.head ++ (j.words false ++ j.afts), rfl, rfl, SqL.of ?_, ?_, ?_⟩
  · rw [upd_same]; simp only [List.map_append, List.append_assoc]
  · unfold JoinOk
    rw [Bool.not_eq_true']
    exact StrLaws.joinFits (B := 18) f1 (by rw [lb]; omega)
  · have := q _ (same_on hl (s6.trans sm) (.lst ((j.head ++ j.words false).map V.str ++ j.afts.map V.str)))
    rw [txt_join]
    exact this

end
end My

namespace My
open PySem L2
open Blk (sg sg_inj sg_app)
section
variable {P : Program} {w : World} {K : PySem.W.Frag} {mg : Str → Option Value} {base : Heap}
def LineOk (j : Jb) (z : Str) : Prop := readJ z = .ok j.jf ∧ z.length ≤ 400
theorem line_ok {j : Jb} (J : j.Ok) {b : Bool} {M : List Str} (X : Mix (j.words b) j.afts M) : JoinOk cBlank (j.head ++ M) = true ∧ LineOk j (Txt.join cBlank (j.head ++ M)) := by
  obtain ⟨f1, f2⟩ := line_fit J X
  have lb : cBlank.length = 1 := by decide +kernel
  refine ⟨?_, ?_, ?_⟩
  · unfold JoinOk
    rw [Bool.not_eq_true']
    exact StrLaws.joinFits (B := 18) f1 (by rw [lb]; omega)
  · rw [txt_join]
    exact read_line J X
  · have e : (Txt.join cBlank (j.head ++ M)).length = ((j.head ++ M).map (·.length)).sum + ((j.head ++ M).length - 1) * cBlank.length := PySem.size_glued _ _
    have := sum_le f1
    rw [e, lb]
    omega

end
end My

namespace My
open PySem L2
open Blk (sg sg_inj sg_app)
section
variable {P : Program} {w : World} {K : PySem.W.Frag} {mg : Str → Option Value} {base : Heap}
def sp__law_made (C : Addr) : Sp := fun vs H Q _ => ∃ (t : Addr) (j : Jb), vs = [.ref t] ∧ Due H t j ∧ ∀ x H', Same H H' → JobAt C H' x j.jf → Q (.ref x) H'
def sp__law_line (_K : PySem.W.Frag) : Sp := fun vs H Q _ => ∃ (t : Addr) (j : Jb), vs = [.ref t] ∧ j.Ok ∧ Due H t j ∧ Q (.str j.line) H
def sp_law (K : PySem.W.Frag) : Sp := fun vs H Q _ => ∃ a : Addr, vs = [.ref a] ∧ Scr K H a ∧ ∀ H', Q (.bl true) H'
theorem sc__law_made : FnScope ["_law_due"] ["_law_due"] (defScope s__law_made) := ⟨rfl, rfl, rfl, by decide +kernel, rfl, by decide +kernel, by decide +kernel⟩
theorem ok__law_made {fa cJob : Addr} {fd : FuncData} (F : Fun K "_law_made" "_law_made" s__law_made fa fd) (T : Txt K mg cJob) (M_Job : MkD P w K mg base 1 "Job" cJob ["self", "name", "asker", "pages", "copies", "layout", "paper", "cover", "colour", "staple", "after"] (sp_Job_init cJob)) :
    FnOk P w K mg base CX0 3 fa fd ["_law_due"] (sp__law_made cJob) := by
  refine F.ok sc__law_made (fun vs H Q E h => ?_) (fun cdv A outer s H vs Q E hr h => ?_)
  · obtain ⟨t, j, rfl, _⟩ := h
    rfl
  obtain ⟨t, j, rfl, U, q⟩ := h
  obtain ⟨vc, pb, ht, hc, hpb⟩ := U.ex
  refine ⟨_, (pss_one (ps_ret (pe_makeD M_Job (hr.mono (by decide)) rfl (pa_cons (pe_ix ix_tup (pv 0) pe_int (fun _ _ => rfl)) (pa_cons (pe_ix ix_tup (pv 0) pe_int (fun _ _ => rfl)) (pa_cons (pe_ix ix_tup (pv 0) pe_int (fun _ _ => rfl)) (pa_cons (pe_ix ix_tup (pv 0) pe_int (fun _ _ => rfl)) (pa_cons (pe_ix ix_tup (pv 0) pe_int (fun _ _ => rfl)) (pa_cons (pe_ix ix_tup (pv 0) pe_int (fun _ _ => rfl)) (pa_cons (pe_ix ix_tup (pv 0) pe_int (fun _ _ => rfl)) (pa_cons (pe_ix ix_tup (pv 0) pe_int (fun _ _ => rfl)) (pa_cons (pe_ix ix_tup (pv 0) pe_int (fun _ _ => rfl)) (pa_cons (pe_ix ix_tup (pv 0) pe_int (fun _ _ => rfl)) pa_nil))))))))))))), ?_⟩
  refine ⟨_, rfl, t, _, _, _, rfl, rfl, SqT.of ht, atI_nat (j := 0) rfl, _, rfl, t, _, _, _, rfl, rfl, SqT.of ht, atI_nat (j := 1) rfl, _, rfl, t, _, _, _, rfl, rfl, SqT.of ht, atI_nat (j := 2) rfl, _, rfl, t, _, _, _, rfl, rfl, SqT.of ht, atI_nat (j := 3) rfl, _, rfl, t, _, _, _, rfl, rfl, SqT.of ht, atI_nat (j := 4) rfl, ?_⟩
  refine ⟨_, rfl, t, _, _, _, rfl, rfl, SqT.of ht, atI_nat (j := 5) rfl, _, rfl, t, _, _, _, rfl, rfl, SqT.of ht, atI_nat (j := 6) rfl, _, rfl, t, _, _, _, rfl, rfl, SqT.of ht, atI_nat (j := 7) rfl, _, rfl, t, _, _, _, rfl, rfl, SqT.of ht, atI_nat (j := 8) rfl, _, rfl, t, _, _, _, rfl, rfl, SqT.of ht, atI_nat (j := 9) rfl, fun x dx nx ndx ne => ?_⟩
  refine ⟨x, dx, _, _, _, _, _, _, _, _, _, _, rfl, upd_same, rfl, ?_⟩
  rw [upd_upd]
  have s1 : Same H (upd (upd H dx (.own x)) x (.ins cJob dx (jobF (.str j.name) (.str j.asker) (.int j.pages) (.int j.copies) (.str j.layout) (.str j.paper) (optV j.cover) vc (.bl j.staple) (.ref pb)))) := fun b u e => by
    rw [upd_ne (ne_of_none e nx), upd_ne (ne_of_none e ndx)]
    exact e
  refine q x _ s1 ⟨dx, pb, _, _, _, _, _, _, _, upd_same, rfl, rfl, rfl, ?_, hc.same s1, rfl, s1 _ _ hpb, ?_⟩
  · show HoldsV _ (optV j.cover) (match j.cover with | some z => .v (.str z) | none => non)
    cases j.cover <;> rfl
  · show Paired _ (j.after.map V.str) (j.after.map fun z => VO.v (.str z))
    generalize j.after = l
    induction l with
    | nil => exact .nil
    | cons a r ih => exact .cons rfl ih
/-- one word more on the line, if it is told -/
def Wl (H : Hp) (t : Addr) (n : Nat) (c : Bool) (w : Str) : TS := fun D σ H' => ∃ (z : Str) (pre : List Str) (v : Option V), σ = [some (.ref t), some (.str z), v] ∧ H' = H ∧ pre ≠ [] ∧ z = Str.join cBlank pre ∧ z.length ≤ n ∧
  ∀ z' : Str, z' = Str.join cBlank (pre ++ if c = true then [w] else []) → z'.length ≤ n + 19 → D.nx [some (.ref t), some (.str z'), v] H
theorem wl_no {z w : Str} {pre : List Str} {n : Nat} {R : Str → Prop} {c : Bool} (ez : z = Str.join cBlank pre) (lz : z.length ≤ n) (hc : c = false) (nx : ∀ z' : Str, z' = Str.join cBlank (pre ++ if c = true then [w] else []) → z'.length ≤ n + 19 → R z') : R z := by
  refine nx z ?_ (by omega)
  rw [hc, if_neg (by decide), List.append_nil]
  exact ez
theorem wl_yes {z w z2 : Str} {pre : List Str} {n : Nat} {R : Str → Prop} {c : Bool} (hp : pre ≠ []) (ez : z = Str.join cBlank pre) (lz : z.length ≤ n) (hc : c = true) (hw : w.length ≤ 18) (e2 : sg z2 = sg z ++ (sg cBlank ++ sg w)) (nx : ∀ z' : Str, z' = Str.join cBlank (pre ++ if c = true then [w] else []) → z'.length ≤ n + 19 → R z') : R z2 := by
  have lb : cBlank.length = 1 := by decide +kernel
  refine nx z2 ?_ ?_
  · rw [hc, if_pos rfl, join_snoc _ _ _ hp, ← ez]
    exact sg_inj (by rw [e2, sg_app, sg_app, List.append_assoc])
  · rw [← sg_len, e2, List.length_append, List.length_append, sg_len, sg_len, sg_len]
    omega
theorem sc__law_line : FnScope ["_law_job", "_law_line_here", "_law_name"] ["_law_job"] (defScope s__law_line) := ⟨rfl, rfl, rfl, by decide +kernel, rfl, by decide +kernel, by decide +kernel⟩
theorem ok__law_line {fa cJob : Addr} {fd : FuncData} (F : Fun K "_law_line" "_law_line" s__law_line fa fd) (T : Txt K mg cJob)  :
    FnOk P w K mg base CX0 1 fa fd ["_law_job"] (sp__law_line K) := by
  refine F.ok sc__law_line (fun vs H Q E h => ?_) (fun cdv A outer s H vs Q E hr h => ?_)
  · obtain ⟨t, j, rfl, _⟩ := h
    rfl
  obtain ⟨t, j, rfl, J, U, q⟩ := h
  obtain ⟨vc, pb, ht, hc, hpb⟩ := U.ex
  have fit : ∀ n : Nat, n ≤ 1000 → n ≤ sizeLine := fun n h => small h
  have W := fun w h => (words_fit J false w h).1
  have nc := num_len (n := j.copies) (by have := J.c0; omega) (by have := J.c1; omega)
  have np := num_len (n := j.pages) (by have := J.p0; omega) J.p1
  have l1 : (Str.ofString " x").length = 2 := by decide +kernel
  have l2 : (Str.ofString " colour:").length = 8 := by decide +kernel
  have l3 : (Str.ofString " paper:").length = 7 := by decide +kernel
  have l4 : (Str.ofString " cover:").length = 7 := by decide +kernel
  have l5 : (Str.ofString " staple").length = 7 := by decide +kernel
  have l6 : (Str.ofString " after:").length = 7 := by decide +kernel
  have l7 : cBlank.length = 1 := by decide +kernel
  have l8 : cDash.length = 1 := by decide +kernel
  have m1 : cX.length = 1 := by decide +kernel
  have m2 : cCol.length = 7 := by decide +kernel
  have m3 : cPap.length = 6 := by decide +kernel
  have m4 : cCov.length = 6 := by decide +kernel
  have m5 : cSta.length = 6 := by decide +kernel
  have m6 : cAft.length = 6 := by decide +kernel
  refine ⟨_, (pss_cons (ps_set (i := 1) sc__law_line.nd rfl (by first | exact Or.inl rfl | exact Or.inr rfl) (pe_op op_add_str (pe_op op_add_str (pe_op op_add_str (pe_op op_add_str (pe_ix ix_tup (pv 0) pe_int (fun _ _ => rfl)) pe_str) (pe_ix ix_tup (pv 0) pe_int (fun _ _ => rfl))) pe_str) (pe_callTy call_str_int rfl T.str bt_str (pa_cons (pe_ix ix_tup (pv 0) pe_int (fun _ _ => rfl)) pa_nil))))
  (pss_cons (PS.weak (t' := Wl H t 30 (!decide (j.copies = 1)) (cX ++ tn j.copies)) (ps_if (pt_cmpR op_ne (pe_ix ix_tup (pv 0) pe_int (fun _ _ => rfl)) pe_int (nomark _)) (pss_one (ps_set (i := 1) sc__law_line.nd rfl (by first | exact Or.inl rfl | exact Or.inr rfl) (pe_op op_add_str (pe_op op_add_str (pv 1) pe_str) (pe_callTy call_str_int rfl T.str bt_str (pa_cons (pe_ix ix_tup (pv 0) pe_int (fun _ _ => rfl)) pa_nil))))) pss_nil) ?w1)
  (pss_cons (PS.weak (t' := Wl H t 49 (!decide (j.layout = cOne)) (j.layout)) (ps_if (pt_cmpR op_ne (pe_ix ix_tup (pv 0) pe_int (fun _ _ => rfl)) pe_str (nomark _)) (pss_one (ps_set (i := 1) sc__law_line.nd rfl (by first | exact Or.inl rfl | exact Or.inr rfl) (pe_op op_add_str (pe_op op_add_str (pv 1) pe_str) (pe_ix ix_tup (pv 0) pe_int (fun _ _ => rfl))))) pss_nil) ?w2)
  (pss_cons (PS.weak (t' := Wl H t 68 (j.colour.isSome) (cCol ++ tn (j.colour.getD (1, 1)).1 ++ cDash ++ tn (j.colour.getD (1, 1)).2)) (ps_if (pt_cmpR op_notN (pe_ix ix_tup (pv 0) pe_int (fun _ _ => rfl)) pe_non (nomark _)) (pss_one (ps_set (i := 1) sc__law_line.nd rfl (by first | exact Or.inl rfl | exact Or.inr rfl) (pe_op op_add_str (pe_op op_add_str (pe_op op_add_str (pe_op op_add_str (pv 1) pe_str) (pe_callTy call_str_int rfl T.str bt_str (pa_cons (pe_ix ix_tup (pe_ix ix_tup (pv 0) pe_int (fun _ _ => rfl)) pe_int (fun _ _ => rfl)) pa_nil))) pe_str) (pe_callTy call_str_int rfl T.str bt_str (pa_cons (pe_ix ix_tup (pe_ix ix_tup (pv 0) pe_int (fun _ _ => rfl)) pe_int (fun _ _ => rfl)) pa_nil))))) pss_nil) ?w3)
  (pss_cons (PS.weak (t' := Wl H t 87 (!decide (j.paper = cPla)) (cPap ++ j.paper)) (ps_if (pt_cmpR op_ne (pe_ix ix_tup (pv 0) pe_int (fun _ _ => rfl)) pe_str (nomark _)) (pss_one (ps_set (i := 1) sc__law_line.nd rfl (by first | exact Or.inl rfl | exact Or.inr rfl) (pe_op op_add_str (pe_op op_add_str (pv 1) pe_str) (pe_ix ix_tup (pv 0) pe_int (fun _ _ => rfl))))) pss_nil) ?w4)
  (pss_cons (PS.weak (t' := Wl H t 106 (j.cover.isSome) (cCov ++ j.cover.getD cPla)) (ps_if (pt_cmpR op_notN (pe_ix ix_tup (pv 0) pe_int (fun _ _ => rfl)) pe_non (nomark _)) (pss_one (ps_set (i := 1) sc__law_line.nd rfl (by first | exact Or.inl rfl | exact Or.inr rfl) (pe_op op_add_str (pe_op op_add_str (pv 1) pe_str) (pe_ix ix_tup (pv 0) pe_int (fun _ _ => rfl))))) pss_nil) ?w5)
  (pss_cons (PS.weak (t' := Wl H t 125 (j.staple) (cSta)) (ps_if (pt_truth (pe_ix ix_tup (pv 0) pe_int (fun _ _ => rfl)) (fun _ => rfl)) (pss_one (ps_set (i := 1) sc__law_line.nd rfl (by first | exact Or.inl rfl | exact Or.inr rfl) (pe_op op_add_str (pv 1) pe_str))) pss_nil) ?w6)
  (pss_cons (ps_for PassesOwn.never rfl (pi_tup (pe_ix ix_tup (pv 0) pe_int (fun _ _ => rfl))) (pg_name (i := 2) sc__law_line.nd rfl (by first | exact Or.inl rfl | exact Or.inr rfl))
  (pss_one (ps_set (i := 1) sc__law_line.nd rfl (by first | exact Or.inl rfl | exact Or.inr rfl) (pe_op op_add_str (pe_op op_add_str (pv 1) pe_str) (pv 2)))))
  (pss_one (ps_ret (pv 1))))))))))), ?_⟩
  case w1 =>
    rintro D σ H' ⟨z, pre, v, rfl, rfl, hp, ez, lz, nx⟩
    refine ⟨_, rfl, t, _, _, _, rfl, rfl, SqT.of ht, atI_nat (j := 3) rfl, rfl, _, rfl, ?_⟩
    by_cases e : j.copies = 1
    · rw [decide_eq_true (by rw [e])]
      exact iteF (wl_no (R := fun z' => D.nx [some (.ref t), some (.str z'), v] _) ez lz (by rw [decide_eq_true e]; rfl) nx)
    · rw [decide_eq_false (by intro z; injection z with z; exact e z)]
      refine iteT ⟨_, rfl, _, _, rfl, rfl, fit _ (by omega), _, rfl, t, _, _, _, rfl, rfl, SqT.of ht, atI_nat (j := 3) rfl, _, rfl, log2_few (by have := J.c0; omega) (by have := J.c1; omega), _, _, rfl, rfl, fit _ (by show (z ++ Str.ofString " x").length + (tn j.copies).length ≤ 1000; rw [len_app]; omega), ?_⟩
      exact wl_yes (R := fun z' => D.nx [some (.ref t), some (.str z'), v] _) hp ez lz (by rw [decide_eq_false e]; rfl) (by rw [len_app]; omega) (by show sg (z ++ Str.ofString " x" ++ tn j.copies) = _; simp only [sg_app, kX, List.append_assoc]) nx
  case w2 =>
    rintro D σ H' ⟨z, pre, v, rfl, rfl, hp, ez, lz, nx⟩
    refine ⟨_, rfl, t, _, _, _, rfl, rfl, SqT.of ht, atI_nat (j := 4) rfl, rfl, _, rfl, ?_⟩
    by_cases e : j.layout = cOne
    · rw [decide_eq_true (by rw [e])]
      exact iteF (wl_no (R := fun z' => D.nx [some (.ref t), some (.str z'), v] _) ez lz (by rw [decide_eq_true e]; rfl) nx)
    · rw [decide_eq_false (by intro z; injection z with z; exact e z)]
      have ll := lay_len _ J.lay
      refine iteT ⟨_, rfl, _, _, rfl, rfl, fit _ (by show z.length + cBlank.length ≤ 1000; omega), _, rfl, t, _, _, _, rfl, rfl, SqT.of ht, atI_nat (j := 4) rfl, _, _, rfl, rfl, fit _ (by show (z ++ cBlank).length + j.layout.length ≤ 1000; rw [len_app]; omega), ?_⟩
      exact wl_yes (R := fun z' => D.nx [some (.ref t), some (.str z'), v] _) hp ez lz (by rw [decide_eq_false e]; rfl) (by omega) (by show sg (z ++ cBlank ++ j.layout) = _; simp only [sg_app, List.append_assoc]) nx
  case w3 =>
    rintro D σ H' ⟨z, pre, v, rfl, rfl, hp, ez, lz, nx⟩
    have hc' : HoldsV H' vc (match j.colour with | some (a, b) => .pair a b | none => non) := hc
    refine ⟨_, rfl, t, _, _, _, rfl, rfl, SqT.of ht, atI_nat (j := 7) rfl, rfl, _, rfl, ?_⟩
    cases e : j.colour with
    | none =>
      rw [e] at hc'
      have hc2 : vc = .non := hc'
      subst hc2
      exact iteF (wl_no (R := fun z' => D.nx [some (.ref t), some (.str z'), v] _) ez lz (by rw [e]; rfl) nx)
    | some xy =>
      obtain ⟨x, y⟩ := xy
      rw [e] at hc' nx
      obtain ⟨pc, rfl, hpc⟩ := hc'
      obtain ⟨c1, c2, c3⟩ := J.colour x y e
      have := J.p1
      have n1 := num_len (n := x) (by omega) (by omega)
      have n2 := num_len (n := y) (by omega) (by omega)
      refine iteT ⟨_, rfl, _, _, rfl, rfl, fit _ (by omega), _, rfl, t, _, _, _, rfl, rfl, SqT.of ht, atI_nat (j := 7) rfl, pc, _, _, _, rfl, rfl, SqT.of hpc, atI_nat (j := 0) rfl, x, rfl, log2_few (by omega) (by omega), _, _, rfl, rfl, fit _ (by show (z ++ Str.ofString " colour:").length + (tn x).length ≤ 1000; rw [len_app]; omega), _, _, rfl, rfl, fit _ (by show (z ++ Str.ofString " colour:" ++ tn x).length + cDash.length ≤ 1000; rw [len_app, len_app]; omega), ?_⟩
      refine ⟨_, rfl, t, _, _, _, rfl, rfl, SqT.of ht, atI_nat (j := 7) rfl, pc, _, _, _, rfl, rfl, SqT.of hpc, atI_nat (j := 1) rfl, y, rfl, log2_few (by omega) (by omega), _, _, rfl, rfl, fit _ (by show (z ++ Str.ofString " colour:" ++ tn x ++ cDash).length + (tn y).length ≤ 1000; rw [len_app, len_app, len_app]; omega), ?_⟩
      exact wl_yes (R := fun z' => D.nx [some (.ref t), some (.str z'), v] _) (w := cCol ++ tn x ++ cDash ++ tn y) hp ez lz rfl (by rw [len_app, len_app, len_app]; omega) (by show sg (z ++ Str.ofString " colour:" ++ tn x ++ cDash ++ tn y) = _; simp only [sg_app, kCol, List.append_assoc]) nx
  case w4 =>
    rintro D σ H' ⟨z, pre, v, rfl, rfl, hp, ez, lz, nx⟩
    have gp := good_len J.paper
    refine ⟨_, rfl, t, _, _, _, rfl, rfl, SqT.of ht, atI_nat (j := 5) rfl, rfl, _, rfl, ?_⟩
    by_cases e : j.paper = cPla
    · rw [decide_eq_true (by rw [e])]
      exact iteF (wl_no (R := fun z' => D.nx [some (.ref t), some (.str z'), v] _) ez lz (by rw [decide_eq_true e]; rfl) nx)
    · rw [decide_eq_false (by intro z; injection z with z; exact e z)]
      refine iteT ⟨_, rfl, _, _, rfl, rfl, fit _ (by omega), _, rfl, t, _, _, _, rfl, rfl, SqT.of ht, atI_nat (j := 5) rfl, _, _, rfl, rfl, fit _ (by show (z ++ Str.ofString " paper:").length + j.paper.length ≤ 1000; rw [len_app]; omega), ?_⟩
      exact wl_yes (R := fun z' => D.nx [some (.ref t), some (.str z'), v] _) hp ez lz (by rw [decide_eq_false e]; rfl) (by rw [len_app]; omega) (by show sg (z ++ Str.ofString " paper:" ++ j.paper) = _; simp only [sg_app, kPap, List.append_assoc]) nx
  case w5 =>
    rintro D σ H' ⟨z, pre, v, rfl, rfl, hp, ez, lz, nx⟩
    refine ⟨_, rfl, t, _, _, _, rfl, rfl, SqT.of ht, atI_nat (j := 6) rfl, rfl, _, rfl, ?_⟩
    cases e : j.cover with
    | none => exact iteF (wl_no (R := fun z' => D.nx [some (.ref t), some (.str z'), v] _) ez lz (by rw [e]; rfl) nx)
    | some y =>
      rw [e] at nx ht
      have gy := good_len (J.cover y e)
      refine iteT ⟨_, rfl, _, _, rfl, rfl, fit _ (by omega), _, rfl, t, _, _, _, rfl, rfl, SqT.of ht, atI_nat (j := 6) rfl, _, y, rfl, rfl, fit _ (by show (z ++ Str.ofString " cover:").length + y.length ≤ 1000; rw [len_app]; omega), ?_⟩
      exact wl_yes (R := fun z' => D.nx [some (.ref t), some (.str z'), v] _) (w := cCov ++ y) hp ez lz rfl (by rw [len_app]; omega) (by show sg (z ++ Str.ofString " cover:" ++ y) = _; simp only [sg_app, kCov, List.append_assoc]) nx
  case w6 =>
    rintro D σ H' ⟨z, pre, v, rfl, rfl, hp, ez, lz, nx⟩
    refine ⟨_, rfl, t, _, _, _, rfl, rfl, SqT.of ht, atI_nat (j := 8) rfl, _, rfl, ?_⟩
    cases e : j.staple with
    | false => exact iteF (wl_no (R := fun z' => D.nx [some (.ref t), some (.str z'), v] _) ez lz e nx)
    | true =>
      refine iteT ⟨_, rfl, _, _, rfl, rfl, fit _ (by omega), ?_⟩
      exact wl_yes (R := fun z' => D.nx [some (.ref t), some (.str z'), v] _) hp ez lz e (by omega) (by show sg (z ++ Str.ofString " staple") = _; simp only [sg_app, kSta]) nx
  have gn := good_len J.name
  have ga := good_len J.asker
  refine ⟨_, rfl, t, _, _, _, rfl, rfl, SqT.of ht, atI_nat (j := 0) rfl, _, _, rfl, rfl, fit _ (by show j.name.length + cBlank.length ≤ 1000; omega), _, rfl, t, _, _, _, rfl, rfl, SqT.of ht, atI_nat (j := 1) rfl, _, _, rfl, rfl, fit _ (by show (j.name ++ cBlank).length + j.asker.length ≤ 1000; rw [len_app]; omega), _, _, rfl, rfl, fit _ (by show (j.name ++ cBlank ++ j.asker).length + cBlank.length ≤ 1000; rw [len_app, len_app]; omega), ?_⟩
  refine ⟨_, rfl, t, _, _, _, rfl, rfl, SqT.of ht, atI_nat (j := 2) rfl, _, rfl, log2_few (by have := J.p0; omega) (by have := J.p1; omega), _, _, rfl, rfl, fit _ (by show (j.name ++ cBlank ++ j.asker ++ cBlank).length + (tn j.pages).length ≤ 1000; rw [len_app, len_app, len_app]; omega), ?_⟩
  have e0 : j.name ++ cBlank ++ j.asker ++ cBlank ++ tn j.pages = Str.join cBlank j.head := by
    show _ = j.name ++ cBlank ++ (j.asker ++ cBlank ++ tn j.pages)
    exact sg_inj (by simp only [sg_app, List.append_assoc])
  have ne : ∀ (l r : List Str), j.head ++ l ≠ [] := fun l r => by intro e; cases e
  refine ⟨_, j.head, _, rfl, rfl, (by intro e; cases e), e0, (by show (j.name ++ cBlank ++ j.asker ++ cBlank ++ tn j.pages).length ≤ 30; rw [len_app, len_app, len_app, len_app]; omega), fun z1 e1 b1 => ?_⟩
  refine ⟨_, _, _, rfl, rfl, ?_, e1, b1, fun z2 e2 b2 => ?_⟩
  · intro e; have := congrArg List.length e; simp [Jb.head] at this
  refine ⟨_, _, _, rfl, rfl, ?_, e2, b2, fun z3 e3 b3 => ?_⟩
  · intro e; have := congrArg List.length e; simp [Jb.head] at this
  refine ⟨_, _, _, rfl, rfl, ?_, e3, b3, fun z4 e4 b4 => ?_⟩
  · intro e; have := congrArg List.length e; simp [Jb.head] at this
  refine ⟨_, _, _, rfl, rfl, ?_, e4, b4, fun z5 e5 b5 => ?_⟩
  · intro e; have := congrArg List.length e; simp [Jb.head] at this
  refine ⟨_, _, _, rfl, rfl, ?_, e5, b5, fun z6 e6 b6 => ?_⟩
  · intro e; have := congrArg List.length e; simp [Jb.head] at this
  have eall : j.head ++ (if (!decide (j.copies = 1)) = true then [cX ++ tn j.copies] else []) ++ (if (!decide (j.layout = cOne)) = true then [j.layout] else []) ++ (if j.colour.isSome = true then [cCol ++ tn (j.colour.getD (1, 1)).1 ++ cDash ++ tn (j.colour.getD (1, 1)).2] else []) ++ (if (!decide (j.paper = cPla)) = true then [cPap ++ j.paper] else []) ++ (if j.cover.isSome = true then [cCov ++ j.cover.getD cPla] else []) ++ (if j.staple = true then [cSta] else []) = j.head ++ j.words false := by
    rw [words_plain]
    simp only [List.append_assoc, List.nil_append]
  rw [eall] at e6
  refine ⟨_, rfl, t, _, _, _, rfl, rfl, SqT.of ht, atI_nat (j := 9) rfl, pb, rfl, ⟨_, SqT.of hpb⟩, for_tup (K := K) (a := pb) (xs := j.after.map V.str) (fun i σ H' => H' = H ∧ ∃ (z : Str) (v : Option V), σ = [some (.ref t), some (.str z), v] ∧ z = Str.join cBlank (j.head ++ (j.words false ++ (j.after.take i).map fun n => cAft ++ n)) ∧ z.length ≤ 144 + 19 * i)
    ⟨rfl, z6, _, rfl, by rw [e6]; simp, by omega⟩ (fun i σ H' _ pp => by rw [pp.1]; exact SqT.of hpb) (fun i x σ H' hx pp => ?_) (fun σ H' pp => ?_)⟩
  · obtain ⟨rfl, z, v, rfl, ez, lz⟩ := pp
    rw [List.getElem?_map] at hx
    obtain ⟨n, hn, rfl⟩ := Option.map_eq_some_iff.mp hx
    have hi : i < j.after.length := (List.getElem?_eq_some_iff.mp hn).1
    have lf := J.few
    have gnn := good_len (J.after n (List.mem_of_getElem? hn))
    refine ⟨_, rfl, _, _, rfl, rfl, fit _ (by omega), _, rfl, _, _, rfl, rfl, fit _ (by show (z ++ Str.ofString " after:").length + n.length ≤ 1000; rw [len_app]; omega), ?_⟩
    refine ⟨rfl, _, _, rfl, ?_, ?_⟩
    · rw [take_more hn, List.map_append, ← List.append_assoc (j.words false), ← List.append_assoc j.head]
      show z ++ Str.ofString " after:" ++ n = Str.join cBlank (j.head ++ (j.words false ++ (j.after.take i).map fun n => cAft ++ n) ++ [cAft ++ n])
      rw [join_snoc _ _ _ (by intro e; have := congrArg List.length e; simp [Jb.head] at this), ← ez]
      exact sg_inj (by simp only [sg_app, kAft, List.append_assoc])
    · show (z ++ Str.ofString " after:" ++ n).length ≤ _
      rw [len_app, len_app]
      omega
  · obtain ⟨rfl, z, v, rfl, ez, lz⟩ := pp
    rw [List.length_map, List.take_of_length_le (Nat.le_refl _)] at ez
    refine ⟨_, rfl, ?_⟩
    rw [ez]
    exact q
theorem sc_law : FnScope ["_law_script", "_law_dues", "_law_jobs", "_law_j", "_law_line_here"] ["_law_script"] (defScope s_law) := ⟨rfl, rfl, rfl, by decide +kernel, rfl, by decide +kernel, by decide +kernel⟩
theorem ok_law {fa cJob : Addr} {fd : FuncData} (F : Fun K "law" "law" s_law fa fd) (T : Txt K mg cJob) (D__law_values : Dfn P w K mg base 4 "_law_values" ["_law_script", "_law_k"] (sp__law_values K)) (D__law_made : Dfn P w K mg base 3 "_law_made" ["_law_due"] (sp__law_made cJob)) (D_written : Dfn P w K mg base 1 "written" ["job"] (sp_written cJob)) (D__law_is_job : Dfn P w K mg base 2 "_law_is_job" ["_law_job", "_law_due"] (sp__law_is_job cJob)) (D__law_text : Dfn P w K mg base 1 "_law_text" ["_law_found", "_law_due"] (sp__law_text K)) (D__law_whole : Dfn P w K mg base 1 "_law_whole" ["_law_found", "_law_due"] (sp__law_whole K)) (D__law_line : Dfn P w K mg base 1 "_law_line" ["_law_job"] (sp__law_line K)) (D_read_job : Dfn P w K mg base 6 "read_job" ["line"] (sp_read_job cJob)) (D_cost : Dfn P w K mg base 1 "cost" ["job"] (sp_cost cJob)) :
    FnOk P w K mg base CX0 7 fa fd ["_law_script"] (sp_law K) := by
  refine F.ok sc_law (fun vs H Q E h => ?_) (fun cdv A outer s H vs Q E hr h => ?_)
  · obtain ⟨a, rfl, _⟩ := h
    rfl
  obtain ⟨a, rfl, hS, q⟩ := h
  have fit : ∀ n : Nat, n ≤ 1000 → n ≤ sizeLine := fun n h => small h
  refine ⟨_, (pss_cons (ps_set (i := 1) sc_law.nd rfl (by first | exact Or.inl rfl | exact Or.inr rfl) (pe_lst (pa_cons (pe_callD D__law_values (hr.mono (by decide)) rfl (pa_cons (pv 0) (pa_cons pe_int pa_nil))) (pa_cons (pe_callD D__law_values (hr.mono (by decide)) rfl (pa_cons (pv 0) (pa_cons pe_int pa_nil))) pa_nil))))
  (pss_cons (ps_set (i := 2) sc_law.nd rfl (by first | exact Or.inl rfl | exact Or.inr rfl) (pe_lst (pa_cons (pe_callD D__law_made (hr.mono (by decide)) rfl (pa_cons (pe_ix ix_list (pv 1) pe_int (fun _ _ => rfl)) pa_nil)) (pa_cons (pe_callD D__law_made (hr.mono (by decide)) rfl (pa_cons (pe_ix ix_list (pv 1) pe_int (fun _ _ => rfl)) pa_nil)) pa_nil))))
  (pss_cons (ps_for PassesOwn.never rfl (pi_list (pe_lst (pa_cons pe_int (pa_cons pe_int (pa_cons pe_int (pa_cons pe_int pa_nil)))))) (pg_name (i := 3) sc_law.nd rfl (by first | exact Or.inl rfl | exact Or.inr rfl))
  (pss_cons (ps_set (i := 4) sc_law.nd rfl (by first | exact Or.inl rfl | exact Or.inr rfl) (pe_callD D_written (hr.mono (by decide)) rfl (pa_cons (pe_ix ix_listA (pv 2) (pv 3) (fun _ _ => rfl)) pa_nil)))
  (pss_cons (ps_if (PW.pt (pw_or (pt_not (pt_truth (pe_callD D__law_is_job (hr.mono (by decide)) rfl (pa_cons (pe_ix ix_listA (pv 2) (pv 3) (fun _ _ => rfl)) (pa_cons (pe_ix ix_listA (pv 1) (pv 3) (fun _ _ => rfl)) pa_nil))) (fun _ => rfl))) (pw_or1 (pt_not (pt_truth (pe_callD D__law_text (hr.mono (by decide)) rfl (pa_cons (pv 4) (pa_cons (pe_callD D__law_line (hr.mono (by decide)) rfl (pa_cons (pe_ix ix_listA (pv 1) (pv 3) (fun _ _ => rfl)) pa_nil)) pa_nil))) (fun _ => rfl)))))) (pss_one (ps_ret pe_bl)) pss_nil)
  (pss_one (ps_if (PW.pt (pw_or (pt_not (pt_truth (pe_callD D__law_is_job (hr.mono (by decide)) rfl (pa_cons (pe_callD D_read_job (hr.mono (by decide)) rfl (pa_cons (pv 4) pa_nil)) (pa_cons (pe_ix ix_listA (pv 1) (pv 3) (fun _ _ => rfl)) pa_nil))) (fun _ => rfl))) (pw_or1 (pt_not (pt_truth (pe_callD D__law_whole (hr.mono (by decide)) rfl (pa_cons (pe_callD D_cost (hr.mono (by decide)) rfl (pa_cons (pe_ix ix_listA (pv 2) (pv 3) (fun _ _ => rfl)) pa_nil)) (pa_cons (pe_op op_mul (pe_ix ix_tup (pe_ix ix_listA (pv 1) (pv 3) (fun _ _ => rfl)) pe_int (fun _ _ => rfl)) (pe_ix ix_tup (pe_ix ix_listA (pv 1) (pv 3) (fun _ _ => rfl)) pe_int (fun _ _ => rfl))) pa_nil))) (fun _ => rfl)))))) (pss_one (ps_ret pe_bl)) pss_nil)))))
  (pss_one (ps_ret pe_bl))))), ?_⟩
  refine ⟨_, rfl, a, 0, rfl, hS, by decide, by decide, fun t0 j0 H1 s1 J0 U0 => ?_⟩
  refine ⟨_, rfl, a, 100, rfl, hS.same s1, by decide, by decide, fun t1 j1 H2 s2 J1 U1 => ?_⟩
  refine ⟨fit _ (by show 2 ≤ 1000; decide), fun pd hd => ?_⟩
  have sd := same_new hd (.lst [V.ref t0, V.ref t1])
  refine ⟨_, rfl, pd, _, _, _, rfl, rfl, SqL.of upd_same, atI_nat (j := 0) rfl, t0, j0, rfl, (U0.same s2).same sd, fun x0 H3 s3 A0 => ?_⟩
  refine ⟨_, rfl, pd, _, _, _, rfl, rfl, SqL.of (s3 _ _ upd_same), atI_nat (j := 1) rfl, t1, j1, rfl, (U1.same sd).same s3, fun x1 H4 s4 A1 => ?_⟩
  refine ⟨fit _ (by show 2 ≤ 1000; decide), fun pj hj => ?_⟩
  have sj := same_new hj (.lst [V.ref x0, V.ref x1])
  have hpd := (s4.trans sj) _ _ (s3 _ _ (upd_same (H := H2) (a := pd) (o := .lst [V.ref t0, V.ref t1])))
  have D0 := (((U0.same s2).same sd).same s3).same (s4.trans sj)
  have D1 := ((U1.same sd).same s3).same (s4.trans sj)
  have B0 := A0.same (s4.trans sj)
  have B1 := A1.same sj
  have hpj : (upd H4 pj (.lst [V.ref x0, V.ref x1])) pj = some (.lst [V.ref x0, V.ref x1]) := upd_same
  generalize upd H4 pj (.lst [V.ref x0, V.ref x1]) = H5 at hpd D0 D1 B0 B1 hpj ⊢
  refine ⟨fit _ (by show 4 ≤ 1000; decide), fun pi hi => ?_⟩
  have si := same_new hi (.lst [V.int 0, V.int 1, V.int 0, V.int 1])
  refine ⟨pi, rfl, ⟨_, SqL.of upd_same⟩, for_list (K := K) (a := pi) (xs := [V.int 0, V.int 1, V.int 0, V.int 1]) (fun i σ H' => Same (upd H5 pi (.lst [V.int 0, V.int 1, V.int 0, V.int 1])) H' ∧ ∃ v1 v2 : Option V, σ = [some (.ref a), some (.ref pd), some (.ref pj), v1, v2]) ⟨Same.refl _, _, _, rfl⟩ (fun i σ H' _ pp => SqL.of (pp.1 _ _ upd_same)) (fun i y σ H' hy pp => ?_) (fun σ H' pp => ?_)⟩
  · obtain ⟨sm0, v1, v2, rfl⟩ := pp
    have sm := si.trans sm0
    obtain ⟨k, t, x, j, rfl, k0, k1, et, ex, J, U, A⟩ : ∃ (k : Int) (t x : Addr) (j : Jb), y = V.int k ∧ 0 ≤ k ∧ k < 2 ∧ (∀ v, [V.ref t0, V.ref t1][k.toNat]? = some v → v = V.ref t) ∧ (∀ v, [V.ref x0, V.ref x1][k.toNat]? = some v → v = V.ref x) ∧ j.Ok ∧ Due H' t j ∧ JobAt cJob H' x j.jf := by
      have hm := List.mem_of_getElem? hy
      have : y = V.int 0 ∨ y = V.int 1 := by
        simp at hm
        rcases hm with h | h | h | h
        · exact .inl h
        · exact .inr h
        · exact .inl h
        · exact .inr h
      rcases this with rfl | rfl
      · exact ⟨0, t0, x0, j0, rfl, by decide, by decide, fun v hv => by simpa using hv.symm, fun v hv => by simpa using hv.symm, J0, D0.same sm, B0.same sm⟩
      · exact ⟨1, t1, x1, j1, rfl, by decide, by decide, fun v hv => by simpa using hv.symm, fun v hv => by simpa using hv.symm, J1, D1.same sm, B1.same sm⟩
    have hpd' := sm _ _ hpd
    have hpj' := sm _ _ hpj
    refine ⟨_, rfl, _, rfl, pj, _, _, rfl, rfl, SqL.of hpj', k0, k1, fun v hv => ?_⟩
    rw [ex v hv]
    refine ⟨x, j, rfl, J, A, fun H6 s6 => ?_⟩
    have hpd6 := s6 _ _ hpd'
    have hpj6 := s6 _ _ hpj'
    refine ⟨_, rfl, _, rfl, pj, _, _, rfl, rfl, SqL.of hpj6, k0, k1, fun v hv => ?_⟩
    rw [ex v hv]
    refine ⟨_, rfl, _, rfl, pd, _, _, rfl, rfl, SqL.of hpd6, k0, k1, fun v hv => ?_⟩
    rw [et v hv]
    refine ⟨x, t, j, rfl, J, A.same s6, U.same s6, _, rfl, ?_⟩
    refine iteF ⟨_, rfl, _, rfl, _, rfl, pd, _, _, rfl, rfl, SqL.of hpd6, k0, k1, fun v hv => ?_⟩
    rw [et v hv]
    refine ⟨t, j, rfl, J, U.same s6, some j.line, rfl, _, rfl, ?_⟩
    refine iteF ?_
    obtain ⟨jo, ro, lo⟩ := line_ok J (mix_plain J)
    rw [txt_join] at ro lo
    refine ⟨_, rfl, j.line, j.jf, rfl, lo, ro, fun x2 H7 s7 A2 => ?_⟩
    have hpd7 := s7 _ _ hpd6
    have hpj7 := s7 _ _ hpj6
    have U7 := (U.same s6).same s7
    refine ⟨_, rfl, _, rfl, pd, _, _, rfl, rfl, SqL.of hpd7, k0, k1, fun v hv => ?_⟩
    rw [et v hv]
    refine ⟨x2, t, j, rfl, J, A2, U7, _, rfl, ?_⟩
    refine iteF ⟨_, rfl, _, rfl, pj, _, _, rfl, rfl, SqL.of hpj7, k0, k1, fun v hv => ?_⟩
    rw [ex v hv]
    refine ⟨x, j, rfl, J, (A.same s6).same s7, ?_⟩
    obtain ⟨vc, pb, ht, hc, hpb⟩ := U7.ex
    refine ⟨_, rfl, _, rfl, pd, _, _, rfl, rfl, SqL.of hpd7, k0, k1, fun v hv => ?_⟩
    rw [et v hv]
    refine ⟨t, _, _, _, rfl, rfl, SqT.of ht, atI_nat (j := 2) rfl, ?_⟩
    refine ⟨_, rfl, _, rfl, pd, _, _, rfl, rfl, SqL.of hpd7, k0, k1, fun v hv => ?_⟩
    rw [et v hv]
    refine ⟨t, _, _, _, rfl, rfl, SqT.of ht, atI_nat (j := 3) rfl, _, _, rfl, rfl, .inl ⟨by have := J.p0; omega, by have := J.p1; omega⟩, ?_⟩
    refine ⟨j.pages * j.copies, rfl, _, rfl, ?_⟩
    exact iteF ⟨(sm0.trans s6).trans s7, _, _, rfl⟩
  · exact q _

end
end My

namespace My
open PySem L2
theorem all_mk {l : PySem.W.OpenLaw} {w : World} {K : PySem.W.Frag} {h : Heap} {mg : Str → Option Value} {fa cJob f0 f1 f2 f3 f4 f5 f6 f7 f8 f9 f10 f11 f12 f13 f14 f15 f16 f17 f18 f19 f20 f21 f22 f23 f24 : Addr} (X : K.In h) (G : h.Ns mainGlobals mg) (hfa : mg "law" = some (.ref fa))
    {od0 an0 od1 an1 od2 an2 od3 an3 od4 an4 od5 an5 od6 an6 od7 an7 od8 an8 od9 an9 od10 an10 od11 an11 od12 an12 od13 an13 od14 an14 od15 an15 od16 an16 od17 an17 od18 an18 od19 an19 od20 an20 od21 an21 od22 an22 od23 an23 od24 an24 : Option Addr} {sl0 sl1 sl2 sl3 sl4 sl5 sl6 sl7 sl8 sl9 sl10 sl11 sl12 sl13 sl14 sl15 sl16 sl17 sl18 sl19 sl20 sl21 sl22 sl23 sl24 : Array (Option Value)}
    {oc0 kV0 dc0 pm0 cd0 ct0 oc1 kV1 dc1 pm1 cd1 ct1 oc2 kV2 dc2 pm2 cd2 ct2 oc3 kV3 dc3 pm3 cd3 ct3 oc4 kV4 dc4 pm4 cd4 ct4 oc5 kV5 dc5 pm5 cd5 ct5 oc6 kV6 dc6 pm6 cd6 ct6 oc7 kV7 dc7 pm7 cd7 ct7 oc8 kV8 dc8 pm8 cd8 ct8 oc9 kV9 dc9 pm9 cd9 ct9 oc10 kV10 dc10 pm10 cd10 ct10 oc11 kV11 dc11 pm11 cd11 ct11 oc12 kV12 dc12 pm12 cd12 ct12 oc13 kV13 dc13 pm13 cd13 ct13 oc14 kV14 dc14 pm14 cd14 ct14 oc15 kV15 dc15 pm15 cd15 ct15 oc16 kV16 dc16 pm16 cd16 ct16 oc17 kV17 dc17 pm17 cd17 ct17 oc18 kV18 dc18 pm18 cd18 ct18 oc19 kV19 dc19 pm19 cd19 ct19 oc20 kV20 dc20 pm20 cd20 ct20 oc21 kV21 dc21 pm21 cd21 ct21 oc22 kV22 dc22 pm22 cd22 ct22 oc23 kV23 dc23 pm23 cd23 ct23 oc24 kV24 dc24 pm24 cd24 ct24 : Value}
    (aC_Job : PySem.W.nsIn K mainGlobals "Job" = some (some (.ref cJob)))
    (a0 : PySem.W.nsIn K mainGlobals "words_of" = some (some (.ref f0)))
    (l0 : K.lookup f0 = some ⟨oc0, od0, .func (PySem.W.fnOf "words_of" "words_of" (defArgs s_words_of) (defBody s_words_of) (defScope s_words_of) .none kV0 dc0 pm0 an0 cd0 ct0), sl0⟩)
    (c0 : PySem.W.codeIn K cd0 "words_of" = true)
    (k0 : PySem.W.keepIn K (.ref f0) = true)
    (a1 : PySem.W.nsIn K mainGlobals "made_of" = some (some (.ref f1)))
    (l1 : K.lookup f1 = some ⟨oc1, od1, .func (PySem.W.fnOf "made_of" "made_of" (defArgs s_made_of) (defBody s_made_of) (defScope s_made_of) .none kV1 dc1 pm1 an1 cd1 ct1), sl1⟩)
    (c1 : PySem.W.codeIn K cd1 "made_of" = true)
    (k1 : PySem.W.keepIn K (.ref f1) = true)
    (a2 : PySem.W.nsIn K mainGlobals "is_name" = some (some (.ref f2)))
    (l2 : K.lookup f2 = some ⟨oc2, od2, .func (PySem.W.fnOf "is_name" "is_name" (defArgs s_is_name) (defBody s_is_name) (defScope s_is_name) .none kV2 dc2 pm2 an2 cd2 ct2), sl2⟩)
    (c2 : PySem.W.codeIn K cd2 "is_name" = true)
    (k2 : PySem.W.keepIn K (.ref f2) = true)
    (a3 : PySem.W.nsIn K mainGlobals "is_number" = some (some (.ref f3)))
    (l3 : K.lookup f3 = some ⟨oc3, od3, .func (PySem.W.fnOf "is_number" "is_number" (defArgs s_is_number) (defBody s_is_number) (defScope s_is_number) .none kV3 dc3 pm3 an3 cd3 ct3), sl3⟩)
    (c3 : PySem.W.codeIn K cd3 "is_number" = true)
    (k3 : PySem.W.keepIn K (.ref f3) = true)
    (a4 : PySem.W.nsIn K mainGlobals "number_in" = some (some (.ref f4)))
    (l4 : K.lookup f4 = some ⟨oc4, od4, .func (PySem.W.fnOf "number_in" "number_in" (defArgs s_number_in) (defBody s_number_in) (defScope s_number_in) .none kV4 dc4 pm4 an4 cd4 ct4), sl4⟩)
    (c4 : PySem.W.codeIn K cd4 "number_in" = true)
    (k4 : PySem.W.keepIn K (.ref f4) = true)
    (a5 : PySem.W.nsIn K mainGlobals "is_layout" = some (some (.ref f5)))
    (l5 : K.lookup f5 = some ⟨oc5, od5, .func (PySem.W.fnOf "is_layout" "is_layout" (defArgs s_is_layout) (defBody s_is_layout) (defScope s_is_layout) .none kV5 dc5 pm5 an5 cd5 ct5), sl5⟩)
    (c5 : PySem.W.codeIn K cd5 "is_layout" = true)
    (k5 : PySem.W.keepIn K (.ref f5) = true)
    (a6 : PySem.W.findIn K (.ref cJob) "__init__" = some (some (.ref f6)))
    (i6 : PySem.W.isFn K (.ref f6) = true)
    (l6 : K.lookup f6 = some ⟨oc6, od6, .func (PySem.W.fnOf "__init__" "Job.__init__" (defArgs s_Job_init) (defBody s_Job_init) (defScope s_Job_init) .none kV6 dc6 pm6 an6 cd6 ct6), sl6⟩)
    (c6 : PySem.W.codeIn K cd6 "Job.__init__" = true)
    (k6 : PySem.W.keepIn K (.ref f6) = true)
    (a7 : PySem.W.nsIn K mainGlobals "read_job" = some (some (.ref f7)))
    (l7 : K.lookup f7 = some ⟨oc7, od7, .func (PySem.W.fnOf "read_job" "read_job" (defArgs s_read_job) (defBody s_read_job) (defScope s_read_job) .none kV7 dc7 pm7 an7 cd7 ct7), sl7⟩)
    (c7 : PySem.W.codeIn K cd7 "read_job" = true)
    (k7 : PySem.W.keepIn K (.ref f7) = true)
    (a8 : PySem.W.nsIn K mainGlobals "read_head" = some (some (.ref f8)))
    (l8 : K.lookup f8 = some ⟨oc8, od8, .func (PySem.W.fnOf "read_head" "read_head" (defArgs s_read_head) (defBody s_read_head) (defScope s_read_head) .none kV8 dc8 pm8 an8 cd8 ct8), sl8⟩)
    (c8 : PySem.W.codeIn K cd8 "read_head" = true)
    (k8 : PySem.W.keepIn K (.ref f8) = true)
    (a9 : PySem.W.nsIn K mainGlobals "value_of" = some (some (.ref f9)))
    (l9 : K.lookup f9 = some ⟨oc9, od9, .func (PySem.W.fnOf "value_of" "value_of" (defArgs s_value_of) (defBody s_value_of) (defScope s_value_of) .none kV9 dc9 pm9 an9 cd9 ct9), sl9⟩)
    (c9 : PySem.W.codeIn K cd9 "value_of" = true)
    (k9 : PySem.W.keepIn K (.ref f9) = true)
    (a10 : PySem.W.nsIn K mainGlobals "sort_of" = some (some (.ref f10)))
    (l10 : K.lookup f10 = some ⟨oc10, od10, .func (PySem.W.fnOf "sort_of" "sort_of" (defArgs s_sort_of) (defBody s_sort_of) (defScope s_sort_of) .none kV10 dc10 pm10 an10 cd10 ct10), sl10⟩)
    (c10 : PySem.W.codeIn K cd10 "sort_of" = true)
    (k10 : PySem.W.keepIn K (.ref f10) = true)
    (a11 : PySem.W.nsIn K mainGlobals "read_colour" = some (some (.ref f11)))
    (l11 : K.lookup f11 = some ⟨oc11, od11, .func (PySem.W.fnOf "read_colour" "read_colour" (defArgs s_read_colour) (defBody s_read_colour) (defScope s_read_colour) .none kV11 dc11 pm11 an11 cd11 ct11), sl11⟩)
    (c11 : PySem.W.codeIn K cd11 "read_colour" = true)
    (k11 : PySem.W.keepIn K (.ref f11) = true)
    (a12 : PySem.W.nsIn K mainGlobals "told_job" = some (some (.ref f12)))
    (l12 : K.lookup f12 = some ⟨oc12, od12, .func (PySem.W.fnOf "told_job" "told_job" (defArgs s_told_job) (defBody s_told_job) (defScope s_told_job) .none kV12 dc12 pm12 an12 cd12 ct12), sl12⟩)
    (c12 : PySem.W.codeIn K cd12 "told_job" = true)
    (k12 : PySem.W.keepIn K (.ref f12) = true)
    (a13 : PySem.W.nsIn K mainGlobals "written" = some (some (.ref f13)))
    (l13 : K.lookup f13 = some ⟨oc13, od13, .func (PySem.W.fnOf "written" "written" (defArgs s_written) (defBody s_written) (defScope s_written) .none kV13 dc13 pm13 an13 cd13 ct13), sl13⟩)
    (c13 : PySem.W.codeIn K cd13 "written" = true)
    (k13 : PySem.W.keepIn K (.ref f13) = true)
    (a14 : PySem.W.nsIn K mainGlobals "cost" = some (some (.ref f14)))
    (l14 : K.lookup f14 = some ⟨oc14, od14, .func (PySem.W.fnOf "cost" "cost" (defArgs s_cost) (defBody s_cost) (defScope s_cost) .none kV14 dc14 pm14 an14 cd14 ct14), sl14⟩)
    (c14 : PySem.W.codeIn K cd14 "cost" = true)
    (k14 : PySem.W.keepIn K (.ref f14) = true)
    (a15 : PySem.W.nsIn K mainGlobals "_law_cell_at" = some (some (.ref f15)))
    (l15 : K.lookup f15 = some ⟨oc15, od15, .func (PySem.W.fnOf "_law_cell_at" "_law_cell_at" (defArgs s__law_cell_at) (defBody s__law_cell_at) (defScope s__law_cell_at) .none kV15 dc15 pm15 an15 cd15 ct15), sl15⟩)
    (c15 : PySem.W.codeIn K cd15 "_law_cell_at" = true)
    (k15 : PySem.W.keepIn K (.ref f15) = true)
    (a16 : PySem.W.nsIn K mainGlobals "_law_by" = some (some (.ref f16)))
    (l16 : K.lookup f16 = some ⟨oc16, od16, .func (PySem.W.fnOf "_law_by" "_law_by" (defArgs s__law_by) (defBody s__law_by) (defScope s__law_by) .none kV16 dc16 pm16 an16 cd16 ct16), sl16⟩)
    (c16 : PySem.W.codeIn K cd16 "_law_by" = true)
    (k16 : PySem.W.keepIn K (.ref f16) = true)
    (a17 : PySem.W.nsIn K mainGlobals "_law_names" = some (some (.ref f17)))
    (l17 : K.lookup f17 = some ⟨oc17, od17, .func (PySem.W.fnOf "_law_names" "_law_names" (defArgs s__law_names) (defBody s__law_names) (defScope s__law_names) .none kV17 dc17 pm17 an17 cd17 ct17), sl17⟩)
    (c17 : PySem.W.codeIn K cd17 "_law_names" = true)
    (k17 : PySem.W.keepIn K (.ref f17) = true)
    (a18 : PySem.W.nsIn K mainGlobals "_law_values" = some (some (.ref f18)))
    (l18 : K.lookup f18 = some ⟨oc18, od18, .func (PySem.W.fnOf "_law_values" "_law_values" (defArgs s__law_values) (defBody s__law_values) (defScope s__law_values) .none kV18 dc18 pm18 an18 cd18 ct18), sl18⟩)
    (c18 : PySem.W.codeIn K cd18 "_law_values" = true)
    (k18 : PySem.W.keepIn K (.ref f18) = true)
    (a19 : PySem.W.nsIn K mainGlobals "_law_whole" = some (some (.ref f19)))
    (l19 : K.lookup f19 = some ⟨oc19, od19, .func (PySem.W.fnOf "_law_whole" "_law_whole" (defArgs s__law_whole) (defBody s__law_whole) (defScope s__law_whole) .none kV19 dc19 pm19 an19 cd19 ct19), sl19⟩)
    (c19 : PySem.W.codeIn K cd19 "_law_whole" = true)
    (k19 : PySem.W.keepIn K (.ref f19) = true)
    (a20 : PySem.W.nsIn K mainGlobals "_law_text" = some (some (.ref f20)))
    (l20 : K.lookup f20 = some ⟨oc20, od20, .func (PySem.W.fnOf "_law_text" "_law_text" (defArgs s__law_text) (defBody s__law_text) (defScope s__law_text) .none kV20 dc20 pm20 an20 cd20 ct20), sl20⟩)
    (c20 : PySem.W.codeIn K cd20 "_law_text" = true)
    (k20 : PySem.W.keepIn K (.ref f20) = true)
    (a21 : PySem.W.nsIn K mainGlobals "_law_is_job" = some (some (.ref f21)))
    (l21 : K.lookup f21 = some ⟨oc21, od21, .func (PySem.W.fnOf "_law_is_job" "_law_is_job" (defArgs s__law_is_job) (defBody s__law_is_job) (defScope s__law_is_job) .none kV21 dc21 pm21 an21 cd21 ct21), sl21⟩)
    (c21 : PySem.W.codeIn K cd21 "_law_is_job" = true)
    (k21 : PySem.W.keepIn K (.ref f21) = true)
    (a22 : PySem.W.nsIn K mainGlobals "_law_line" = some (some (.ref f22)))
    (l22 : K.lookup f22 = some ⟨oc22, od22, .func (PySem.W.fnOf "_law_line" "_law_line" (defArgs s__law_line) (defBody s__law_line) (defScope s__law_line) .none kV22 dc22 pm22 an22 cd22 ct22), sl22⟩)
    (c22 : PySem.W.codeIn K cd22 "_law_line" = true)
    (k22 : PySem.W.keepIn K (.ref f22) = true)
    (a23 : PySem.W.nsIn K mainGlobals "_law_made" = some (some (.ref f23)))
    (l23 : K.lookup f23 = some ⟨oc23, od23, .func (PySem.W.fnOf "_law_made" "_law_made" (defArgs s__law_made) (defBody s__law_made) (defScope s__law_made) .none kV23 dc23 pm23 an23 cd23 ct23), sl23⟩)
    (c23 : PySem.W.codeIn K cd23 "_law_made" = true)
    (k23 : PySem.W.keepIn K (.ref f23) = true)
    (a24 : PySem.W.nsIn K mainGlobals "law" = some (some (.ref f24)))
    (l24 : K.lookup f24 = some ⟨oc24, od24, .func (PySem.W.fnOf "law" "law" (defArgs s_law) (defBody s_law) (defScope s_law) .none kV24 dc24 pm24 an24 cd24 ct24), sl24⟩)
    (c24 : PySem.W.codeIn K cd24 "law" = true)
    (k24 : PySem.W.keepIn K (.ref f24) = true)
    (pg_Job : PySem.W.plainGet K cJob Str.empty = true)
    (hd_Job : PySem.W.hasDictIn K cJob = true)
    (po_Job : PySem.W.plainOver K cJob = true)
    (sa_Job : PySem.W.findIn K (.ref cJob) "__setattr__" = some (some (.builtin "object.__setattr__")))
    (mk_Job : PySem.W.makesIn K cJob = true)
    (kc_Job : PySem.W.keepIn K (.ref cJob) = true)
    (na_Job_name : PySem.W.findIn K (.ref cJob) "name" = some none)
    (na_Job_asker : PySem.W.findIn K (.ref cJob) "asker" = some none)
    (na_Job_pages : PySem.W.findIn K (.ref cJob) "pages" = some none)
    (na_Job_copies : PySem.W.findIn K (.ref cJob) "copies" = some none)
    (na_Job_layout : PySem.W.findIn K (.ref cJob) "layout" = some none)
    (na_Job_paper : PySem.W.findIn K (.ref cJob) "paper" = some none)
    (na_Job_cover : PySem.W.findIn K (.ref cJob) "cover" = some none)
    (na_Job_colour : PySem.W.findIn K (.ref cJob) "colour" = some none)
    (na_Job_staple : PySem.W.findIn K (.ref cJob) "staple" = some none)
    (na_Job_after : PySem.W.findIn K (.ref cJob) "after" = some none)
    {xLETTERS : Str} {tLETTERS : Tok}
    (gLETTERS : PySem.W.nsIn K mainGlobals "LETTERS" = some (some (.str xLETTERS tLETTERS)))
    (eLETTERS : xLETTERS = Str.ofString "abcdefghijklmnopqrstuvwxyz")
    {xFIGURES : Str} {tFIGURES : Tok}
    (gFIGURES : PySem.W.nsIn K mainGlobals "FIGURES" = some (some (.str xFIGURES tFIGURES)))
    (eFIGURES : xFIGURES = Str.ofString "0123456789")
    {xNAME_MOST : Int} {tNAME_MOST : Tok}
    (gNAME_MOST : PySem.W.nsIn K mainGlobals "NAME_MOST" = some (some (.int xNAME_MOST tNAME_MOST)))
    (eNAME_MOST : xNAME_MOST = 12)
    {xNUMBER_MOST : Int} {tNUMBER_MOST : Tok}
    (gNUMBER_MOST : PySem.W.nsIn K mainGlobals "NUMBER_MOST" = some (some (.int xNUMBER_MOST tNUMBER_MOST)))
    (eNUMBER_MOST : xNUMBER_MOST = 9)
    {xUP : Str} {tUP : Tok}
    (gUP : PySem.W.nsIn K mainGlobals "UP" = some (some (.str xUP tUP)))
    (eUP : xUP = Str.ofString "up:")
    {xUP_LEAST : Int} {tUP_LEAST : Tok}
    (gUP_LEAST : PySem.W.nsIn K mainGlobals "UP_LEAST" = some (some (.int xUP_LEAST tUP_LEAST)))
    (eUP_LEAST : xUP_LEAST = 2)
    {xUP_MOST : Int} {tUP_MOST : Tok}
    (gUP_MOST : PySem.W.nsIn K mainGlobals "UP_MOST" = some (some (.int xUP_MOST tUP_MOST)))
    (eUP_MOST : xUP_MOST = 16)
    {xPAGES_MOST : Int} {tPAGES_MOST : Tok}
    (gPAGES_MOST : PySem.W.nsIn K mainGlobals "PAGES_MOST" = some (some (.int xPAGES_MOST tPAGES_MOST)))
    (ePAGES_MOST : xPAGES_MOST = 999)
    {xCOPIES_MOST : Int} {tCOPIES_MOST : Tok}
    (gCOPIES_MOST : PySem.W.nsIn K mainGlobals "COPIES_MOST" = some (some (.int xCOPIES_MOST tCOPIES_MOST)))
    (eCOPIES_MOST : xCOPIES_MOST = 99)
    {xHEAD : Int} {tHEAD : Tok}
    (gHEAD : PySem.W.nsIn K mainGlobals "HEAD" = some (some (.int xHEAD tHEAD)))
    (eHEAD : xHEAD = 3)
    {xCOPIES : Str} {tCOPIES : Tok}
    (gCOPIES : PySem.W.nsIn K mainGlobals "COPIES" = some (some (.str xCOPIES tCOPIES)))
    (eCOPIES : xCOPIES = Str.ofString "x")
    {xCOLOUR : Str} {tCOLOUR : Tok}
    (gCOLOUR : PySem.W.nsIn K mainGlobals "COLOUR" = some (some (.str xCOLOUR tCOLOUR)))
    (eCOLOUR : xCOLOUR = Str.ofString "colour:")
    {xPAPER : Str} {tPAPER : Tok}
    (gPAPER : PySem.W.nsIn K mainGlobals "PAPER" = some (some (.str xPAPER tPAPER)))
    (ePAPER : xPAPER = Str.ofString "paper:")
    {xCOVER : Str} {tCOVER : Tok}
    (gCOVER : PySem.W.nsIn K mainGlobals "COVER" = some (some (.str xCOVER tCOVER)))
    (eCOVER : xCOVER = Str.ofString "cover:")
    {xAFTER : Str} {tAFTER : Tok}
    (gAFTER : PySem.W.nsIn K mainGlobals "AFTER" = some (some (.str xAFTER tAFTER)))
    (eAFTER : xAFTER = Str.ofString "after:")
    {xSTAPLE : Str} {tSTAPLE : Tok}
    (gSTAPLE : PySem.W.nsIn K mainGlobals "STAPLE" = some (some (.str xSTAPLE tSTAPLE)))
    (eSTAPLE : xSTAPLE = Str.ofString "staple")
    {xLAYOUT : Str} {tLAYOUT : Tok}
    (gLAYOUT : PySem.W.nsIn K mainGlobals "LAYOUT" = some (some (.str xLAYOUT tLAYOUT)))
    (eLAYOUT : xLAYOUT = Str.ofString "layout")
    {xONE_COPY : Int} {tONE_COPY : Tok}
    (gONE_COPY : PySem.W.nsIn K mainGlobals "ONE_COPY" = some (some (.int xONE_COPY tONE_COPY)))
    (eONE_COPY : xONE_COPY = 1)
    {xONE_LAYOUT : Str} {tONE_LAYOUT : Tok}
    (gONE_LAYOUT : PySem.W.nsIn K mainGlobals "ONE_LAYOUT" = some (some (.str xONE_LAYOUT tONE_LAYOUT)))
    (eONE_LAYOUT : xONE_LAYOUT = Str.ofString "one")
    {xPLAIN : Str} {tPLAIN : Tok}
    (gPLAIN : PySem.W.nsIn K mainGlobals "PLAIN" = some (some (.str xPLAIN tPLAIN)))
    (ePLAIN : xPLAIN = Str.ofString "plain")
    (z_len : PySem.W.nsIn K mainGlobals "len" = some none)
    (z_range : PySem.W.nsIn K mainGlobals "range" = some none)
    (z_enumerate : PySem.W.nsIn K mainGlobals "enumerate" = some none)
    (z_str : PySem.W.nsIn K mainGlobals "str" = some none)
    (z_int : PySem.W.nsIn K mainGlobals "int" = some none)
    (z_bool : PySem.W.nsIn K mainGlobals "bool" = some none)
    (z_tuple : PySem.W.nsIn K mainGlobals "tuple" = some none)
    (z_isinstance : PySem.W.nsIn K mainGlobals "isinstance" = some none)
    (z_all : PySem.W.nsIn K mainGlobals "all" = some none)
    (z_ValueError : PySem.W.nsIn K mainGlobals "ValueError" = some none)
    : ∃ fd : FuncData, (∀ (s : Shared) (v : Value), BindsTo s fd ⟨[v], []⟩ [("_law_script", v)]) ∧ ∀ base : Heap, K.In base → base.Ns mainGlobals mg → FnOk l.prog w K mg base CX0 7 fa fd ["_law_script"] (sp_law K) := by
  have e := hfa.symm.trans (PySem.W.mg_of X G a24)
  cases e
  have F0 := fun_mk (st := s_words_of) l0 c0 k0
  have F1 := fun_mk (st := s_made_of) l1 c1 k1
  have F2 := fun_mk (st := s_is_name) l2 c2 k2
  have F3 := fun_mk (st := s_is_number) l3 c3 k3
  have F4 := fun_mk (st := s_number_in) l4 c4 k4
  have F5 := fun_mk (st := s_is_layout) l5 c5 k5
  have F6 := fun_mk (st := s_Job_init) l6 c6 k6
  have F7 := fun_mk (st := s_read_job) l7 c7 k7
  have F8 := fun_mk (st := s_read_head) l8 c8 k8
  have F9 := fun_mk (st := s_value_of) l9 c9 k9
  have F10 := fun_mk (st := s_sort_of) l10 c10 k10
  have F11 := fun_mk (st := s_read_colour) l11 c11 k11
  have F12 := fun_mk (st := s_told_job) l12 c12 k12
  have F13 := fun_mk (st := s_written) l13 c13 k13
  have F14 := fun_mk (st := s_cost) l14 c14 k14
  have F15 := fun_mk (st := s__law_cell_at) l15 c15 k15
  have F16 := fun_mk (st := s__law_by) l16 c16 k16
  have F17 := fun_mk (st := s__law_names) l17 c17 k17
  have F18 := fun_mk (st := s__law_values) l18 c18 k18
  have F19 := fun_mk (st := s__law_whole) l19 c19 k19
  have F20 := fun_mk (st := s__law_text) l20 c20 k20
  have F21 := fun_mk (st := s__law_is_job) l21 c21 k21
  have F22 := fun_mk (st := s__law_line) l22 c22 k22
  have F23 := fun_mk (st := s__law_made) l23 c23 k23
  have F24 := fun_mk (st := s_law) l24 c24 k24
  have b0 := F0.binds (ps := ["line"]) fun _ _ _ _ _ _ us hl => match us, hl with | [_], _ => rfl
  have b1 := F1.binds (ps := ["word", "signs"]) fun _ _ _ _ _ _ us hl => match us, hl with | [_, _], _ => rfl
  have b2 := F2.binds (ps := ["word"]) fun _ _ _ _ _ _ us hl => match us, hl with | [_], _ => rfl
  have b3 := F3.binds (ps := ["word"]) fun _ _ _ _ _ _ us hl => match us, hl with | [_], _ => rfl
  have b4 := F4.binds (ps := ["word", "least", "most"]) fun _ _ _ _ _ _ us hl => match us, hl with | [_, _, _], _ => rfl
  have b5 := F5.binds (ps := ["word"]) fun _ _ _ _ _ _ us hl => match us, hl with | [_], _ => rfl
  have b6 := F6.binds (ps := ["self", "name", "asker", "pages", "copies", "layout", "paper", "cover", "colour", "staple", "after"]) fun _ _ _ _ _ _ us hl => match us, hl with | [_, _, _, _, _, _, _, _, _, _, _], _ => rfl
  have b7 := F7.binds (ps := ["line"]) fun _ _ _ _ _ _ us hl => match us, hl with | [_], _ => rfl
  have b8 := F8.binds (ps := ["words"]) fun _ _ _ _ _ _ us hl => match us, hl with | [_], _ => rfl
  have b9 := F9.binds (ps := ["word", "pages"]) fun _ _ _ _ _ _ us hl => match us, hl with | [_, _], _ => rfl
  have b10 := F10.binds (ps := ["word"]) fun _ _ _ _ _ _ us hl => match us, hl with | [_], _ => rfl
  have b11 := F11.binds (ps := ["span", "pages"]) fun _ _ _ _ _ _ us hl => match us, hl with | [_, _], _ => rfl
  have b12 := F12.binds (ps := ["words", "pages", "told"]) fun _ _ _ _ _ _ us hl => match us, hl with | [_, _, _], _ => rfl
  have b13 := F13.binds (ps := ["job"]) fun _ _ _ _ _ _ us hl => match us, hl with | [_], _ => rfl
  have b14 := F14.binds (ps := ["job"]) fun _ _ _ _ _ _ us hl => match us, hl with | [_], _ => rfl
  have b15 := F15.binds (ps := ["_law_script", "_law_k"]) fun _ _ _ _ _ _ us hl => match us, hl with | [_, _], _ => rfl
  have b16 := F16.binds (ps := ["_law_script", "_law_k", "_law_many"]) fun _ _ _ _ _ _ us hl => match us, hl with | [_, _, _], _ => rfl
  have b17 := F17.binds (ps := ["_law_script", "_law_k", "_law_many"]) fun _ _ _ _ _ _ us hl => match us, hl with | [_, _, _], _ => rfl
  have b18 := F18.binds (ps := ["_law_script", "_law_k"]) fun _ _ _ _ _ _ us hl => match us, hl with | [_, _], _ => rfl
  have b19 := F19.binds (ps := ["_law_found", "_law_due"]) fun _ _ _ _ _ _ us hl => match us, hl with | [_, _], _ => rfl
  have b20 := F20.binds (ps := ["_law_found", "_law_due"]) fun _ _ _ _ _ _ us hl => match us, hl with | [_, _], _ => rfl
  have b21 := F21.binds (ps := ["_law_job", "_law_due"]) fun _ _ _ _ _ _ us hl => match us, hl with | [_, _], _ => rfl
  have b22 := F22.binds (ps := ["_law_job"]) fun _ _ _ _ _ _ us hl => match us, hl with | [_], _ => rfl
  have b23 := F23.binds (ps := ["_law_due"]) fun _ _ _ _ _ _ us hl => match us, hl with | [_], _ => rfl
  have b24 := F24.binds (ps := ["_law_script"]) fun _ _ _ _ _ _ us hl => match us, hl with | [_], _ => rfl
  have T : Txt K mg cJob := ⟨PySem.W.mg_none_of X G z_len, PySem.W.mg_none_of X G z_range, PySem.W.mg_none_of X G z_enumerate, PySem.W.mg_none_of X G z_str, PySem.W.mg_none_of X G z_int, PySem.W.mg_none_of X G z_bool, PySem.W.mg_none_of X G z_tuple, PySem.W.mg_none_of X G z_isinstance, PySem.W.mg_none_of X G z_all, PySem.W.mg_none_of X G z_ValueError, ⟨⟨tLETTERS, by rw [← eLETTERS]; exact PySem.W.mg_of X G gLETTERS⟩⟩, ⟨⟨tFIGURES, by rw [← eFIGURES]; exact PySem.W.mg_of X G gFIGURES⟩⟩, ⟨⟨tNAME_MOST, by rw [← eNAME_MOST]; exact PySem.W.mg_of X G gNAME_MOST⟩⟩, ⟨⟨tNUMBER_MOST, by rw [← eNUMBER_MOST]; exact PySem.W.mg_of X G gNUMBER_MOST⟩⟩, ⟨⟨tUP, by rw [← eUP]; exact PySem.W.mg_of X G gUP⟩⟩, ⟨⟨tUP_LEAST, by rw [← eUP_LEAST]; exact PySem.W.mg_of X G gUP_LEAST⟩⟩, ⟨⟨tUP_MOST, by rw [← eUP_MOST]; exact PySem.W.mg_of X G gUP_MOST⟩⟩, ⟨⟨tPAGES_MOST, by rw [← ePAGES_MOST]; exact PySem.W.mg_of X G gPAGES_MOST⟩⟩, ⟨⟨tCOPIES_MOST, by rw [← eCOPIES_MOST]; exact PySem.W.mg_of X G gCOPIES_MOST⟩⟩, ⟨⟨tHEAD, by rw [← eHEAD]; exact PySem.W.mg_of X G gHEAD⟩⟩, ⟨⟨tCOPIES, by rw [← eCOPIES]; exact PySem.W.mg_of X G gCOPIES⟩⟩, ⟨⟨tCOLOUR, by rw [← eCOLOUR]; exact PySem.W.mg_of X G gCOLOUR⟩⟩, ⟨⟨tPAPER, by rw [← ePAPER]; exact PySem.W.mg_of X G gPAPER⟩⟩, ⟨⟨tCOVER, by rw [← eCOVER]; exact PySem.W.mg_of X G gCOVER⟩⟩, ⟨⟨tAFTER, by rw [← eAFTER]; exact PySem.W.mg_of X G gAFTER⟩⟩, ⟨⟨tSTAPLE, by rw [← eSTAPLE]; exact PySem.W.mg_of X G gSTAPLE⟩⟩, ⟨⟨tLAYOUT, by rw [← eLAYOUT]; exact PySem.W.mg_of X G gLAYOUT⟩⟩, ⟨⟨tONE_COPY, by rw [← eONE_COPY]; exact PySem.W.mg_of X G gONE_COPY⟩⟩, ⟨⟨tONE_LAYOUT, by rw [← eONE_LAYOUT]; exact PySem.W.mg_of X G gONE_LAYOUT⟩⟩, ⟨⟨tPLAIN, by rw [← ePLAIN]; exact PySem.W.mg_of X G gPLAIN⟩⟩, ⟨pg_Job, hd_Job, po_Job, sa_Job⟩, PySem.W.mg_of X G aC_Job, na_Job_name, na_Job_asker, na_Job_pages, na_Job_copies, na_Job_layout, na_Job_paper, na_Job_cover, na_Job_colour, na_Job_staple, na_Job_after⟩
  refine ⟨PySem.W.fnOf "law" "law" (defArgs s_law) (defBody s_law) (defScope s_law) .none kV24 dc24 pm24 an24 cd24 ct24, fun s v => .of_eq rfl, fun base _ _ => ?_⟩
  have D__law_cell_at : Dfn l.prog w K mg base 1 "_law_cell_at" ["_law_script", "_law_k"] (sp__law_cell_at K) := ⟨_, _, ok__law_cell_at F15 T, b15, k15, PySem.W.mg_of X G a15⟩
  have D__law_by : Dfn l.prog w K mg base 2 "_law_by" ["_law_script", "_law_k", "_law_many"] (sp__law_by K) := ⟨_, _, ok__law_by F16 T D__law_cell_at, b16, k16, PySem.W.mg_of X G a16⟩
  have D__law_names : Dfn l.prog w K mg base 3 "_law_names" ["_law_script", "_law_k", "_law_many"] (sp__law_names K) := ⟨_, _, ok__law_names F17 T D__law_by, b17, k17, PySem.W.mg_of X G a17⟩
  have D__law_values : Dfn l.prog w K mg base 4 "_law_values" ["_law_script", "_law_k"] (sp__law_values K) := ⟨_, _, ok__law_values F18 T D__law_names D__law_by, b18, k18, PySem.W.mg_of X G a18⟩
  have M_Job : MkD l.prog w K mg base 1 "Job" cJob ["self", "name", "asker", "pages", "copies", "layout", "paper", "cover", "colour", "staple", "after"] (sp_Job_init cJob) := ⟨_, _, ⟨mk_Job, a6, i6, kc_Job⟩, ok_Job_init F6 T, b6, PySem.W.mg_of X G aC_Job⟩
  have D__law_made : Dfn l.prog w K mg base 3 "_law_made" ["_law_due"] (sp__law_made cJob) := ⟨_, _, ok__law_made F23 T M_Job, b23, k23, PySem.W.mg_of X G a23⟩
  have D_written : Dfn l.prog w K mg base 1 "written" ["job"] (sp_written cJob) := ⟨_, _, ok_written F13 T, b13, k13, PySem.W.mg_of X G a13⟩
  have D__law_text : Dfn l.prog w K mg base 1 "_law_text" ["_law_found", "_law_due"] (sp__law_text K) := ⟨_, _, ok__law_text F20 T, b20, k20, PySem.W.mg_of X G a20⟩
  have D__law_whole : Dfn l.prog w K mg base 1 "_law_whole" ["_law_found", "_law_due"] (sp__law_whole K) := ⟨_, _, ok__law_whole F19 T, b19, k19, PySem.W.mg_of X G a19⟩
  have D__law_is_job : Dfn l.prog w K mg base 2 "_law_is_job" ["_law_job", "_law_due"] (sp__law_is_job cJob) := ⟨_, _, ok__law_is_job F21 T D__law_text D__law_whole, b21, k21, PySem.W.mg_of X G a21⟩
  have D__law_line : Dfn l.prog w K mg base 1 "_law_line" ["_law_job"] (sp__law_line K) := ⟨_, _, ok__law_line F22 T, b22, k22, PySem.W.mg_of X G a22⟩
  have D_words_of : Dfn l.prog w K mg base 1 "words_of" ["line"] (sp_words_of K) := ⟨_, _, ok_words_of F0 T, b0, k0, PySem.W.mg_of X G a0⟩
  have D_made_of : Dfn l.prog w K mg base 1 "made_of" ["word", "signs"] (sp_made_of K) := ⟨_, _, ok_made_of F1 T, b1, k1, PySem.W.mg_of X G a1⟩
  have D_is_number : Dfn l.prog w K mg base 2 "is_number" ["word"] (sp_is_number K) := ⟨_, _, ok_is_number F3 T D_made_of, b3, k3, PySem.W.mg_of X G a3⟩
  have D_number_in : Dfn l.prog w K mg base 3 "number_in" ["word", "least", "most"] (sp_number_in K) := ⟨_, _, ok_number_in F4 T D_is_number, b4, k4, PySem.W.mg_of X G a4⟩
  have D_is_name : Dfn l.prog w K mg base 2 "is_name" ["word"] (sp_is_name K) := ⟨_, _, ok_is_name F2 T D_made_of, b2, k2, PySem.W.mg_of X G a2⟩
  have D_read_head : Dfn l.prog w K mg base 4 "read_head" ["words"] (sp_read_head K) := ⟨_, _, ok_read_head F8 T D_number_in D_is_name, b8, k8, PySem.W.mg_of X G a8⟩
  have D_told_job : Dfn l.prog w K mg base 3 "told_job" ["words", "pages", "told"] (sp_told_job cJob) := ⟨_, _, ok_told_job F12 T M_Job, b12, k12, PySem.W.mg_of X G a12⟩
  have D_is_layout : Dfn l.prog w K mg base 4 "is_layout" ["word"] (sp_is_layout K) := ⟨_, _, ok_is_layout F5 T D_number_in, b5, k5, PySem.W.mg_of X G a5⟩
  have D_read_colour : Dfn l.prog w K mg base 4 "read_colour" ["span", "pages"] (sp_read_colour K) := ⟨_, _, ok_read_colour F11 T D_number_in, b11, k11, PySem.W.mg_of X G a11⟩
  have D_value_of : Dfn l.prog w K mg base 5 "value_of" ["word", "pages"] (sp_value_of K) := ⟨_, _, ok_value_of F9 T D_is_layout D_number_in D_read_colour D_is_name, b9, k9, PySem.W.mg_of X G a9⟩
  have D_sort_of : Dfn l.prog w K mg base 5 "sort_of" ["word"] (sp_sort_of K) := ⟨_, _, ok_sort_of F10 T D_is_layout, b10, k10, PySem.W.mg_of X G a10⟩
  have D_read_job : Dfn l.prog w K mg base 6 "read_job" ["line"] (sp_read_job cJob) := ⟨_, _, ok_read_job F7 T D_words_of D_read_head D_told_job D_value_of D_sort_of, b7, k7, PySem.W.mg_of X G a7⟩
  have D_cost : Dfn l.prog w K mg base 1 "cost" ["job"] (sp_cost cJob) := ⟨_, _, ok_cost F14 T, b14, k14, PySem.W.mg_of X G a14⟩
  exact ok_law F24 T D__law_values D__law_made D_written D__law_is_job D__law_text D__law_whole D__law_line D_read_job D_cost
theorem walk {l : PySem.W.OpenLaw} {q : Program} {loose : List Str} {XP : (Str → Option Value) → Heap → Prop} {YP : World → Heap → Prop} {d : DefRec} {K : Params → PySem.W.Frag} (hn : l.most = some 63) (hdf : d.params.defaults = [])
    (hY : ∀ (w : World) (h : Heap), YP w h → (K w.params).In h)
    (F : ∀ (w : World) (mg : Str → Option Value) (fa : Addr) (h : Heap), (K w.params).In h → h.Ns mainGlobals mg → mg d.name = some (.ref fa) →
      ∃ fd : FuncData, (∀ (s : Shared) (u : Value), BindsTo s fd ⟨[u], []⟩ [("_law_script", u)]) ∧ ∀ base : Heap, (K w.params).In base → base.Ns mainGlobals mg → FnOk l.prog w (K w.params) mg base CX0 7 fa fd ["_law_script"] (sp_law (K w.params))) :
    PySem.W.WalkO q loose XP YP l.row.toRowW d [] (fun f vs => PySem.call f vs) :=
  L2.walk_of (n := 63) (k := 7) (x := "_law_script") (CX := fun _ => CX0) (sp := fun w => sp_law (K w.params)) hn (by decide) hdf ⟨rfl, by decide, by decide⟩ hY F (fun _ _ a ns hl _ hS => ⟨a, rfl, ⟨⟨ns, hS, hl⟩⟩, fun _ => rfl⟩) fun _ _ _ _ _ z => z
end My
open PySem PySem.W PyProof.Rows
set_option maxRecDepth 100000 in
set_option maxHeartbeats 0 in
theorem PySem.Challenge.cw_spoolhall_k07_written_and_read_back_holds : PySem.Challenge.rw_spoolhall_k07_written_and_read_back.Holds := by
  w_on; o_law; k_head; (case hw => w_witness2)
  k_fill
  refine My.walk (l := PySem.Challenge.rw_spoolhall_k07_written_and_read_back) rfl rfl (fun w h Y => PySem.W.kIn_of Y) ?F
  case F =>
    intro w mg fa h KX G hmg
    refine' My.all_mk KX G hmg ?aC_Job ?a0 ?l0 ?c0 ?k0 ?a1 ?l1 ?c1 ?k1 ?a2 ?l2 ?c2 ?k2 ?a3 ?l3 ?c3 ?k3 ?a4 ?l4 ?c4 ?k4 ?a5 ?l5 ?c5 ?k5 ?a6 ?i6 ?l6 ?c6 ?k6 ?a7 ?l7 ?c7 ?k7 ?a8 ?l8 ?c8 ?k8 ?a9 ?l9 ?c9 ?k9 ?a10 ?l10 ?c10 ?k10 ?a11 ?l11 ?c11 ?k11 ?a12 ?l12 ?c12 ?k12 ?a13 ?l13 ?c13 ?k13 ?a14 ?l14 ?c14 ?k14 ?a15 ?l15 ?c15 ?k15 ?a16 ?l16 ?c16 ?k16 ?a17 ?l17 ?c17 ?k17 ?a18 ?l18 ?c18 ?k18 ?a19 ?l19 ?c19 ?k19 ?a20 ?l20 ?c20 ?k20 ?a21 ?l21 ?c21 ?k21 ?a22 ?l22 ?c22 ?k22 ?a23 ?l23 ?c23 ?k23 ?a24 ?l24 ?c24 ?k24 ?pg_Job ?hd_Job ?po_Job ?sa_Job ?mk_Job ?kc_Job ?na_Job_name ?na_Job_asker ?na_Job_pages ?na_Job_copies ?na_Job_layout ?na_Job_paper ?na_Job_cover ?na_Job_colour ?na_Job_staple ?na_Job_after ?gLETTERS ?eLETTERS ?gFIGURES ?eFIGURES ?gNAME_MOST ?eNAME_MOST ?gNUMBER_MOST ?eNUMBER_MOST ?gUP ?eUP ?gUP_LEAST ?eUP_LEAST ?gUP_MOST ?eUP_MOST ?gPAGES_MOST ?ePAGES_MOST ?gCOPIES_MOST ?eCOPIES_MOST ?gHEAD ?eHEAD ?gCOPIES ?eCOPIES ?gCOLOUR ?eCOLOUR ?gPAPER ?ePAPER ?gCOVER ?eCOVER ?gAFTER ?eAFTER ?gSTAPLE ?eSTAPLE ?gLAYOUT ?eLAYOUT ?gONE_COPY ?eONE_COPY ?gONE_LAYOUT ?eONE_LAYOUT ?gPLAIN ?ePLAIN ?z_len ?z_range ?z_enumerate ?z_str ?z_int ?z_bool ?z_tuple ?z_isinstance ?z_all ?z_ValueError
    (case aC_Job => k_is)
    (case a0 => k_is)
    (case l0 => k_is)
    (case c0 => k_is)
    (case k0 => k_is)
    (case a1 => k_is)
    (case l1 => k_is)
    (case c1 => k_is)
    (case k1 => k_is)
    (case a2 => k_is)
    (case l2 => k_is)
    (case c2 => k_is)
    (case k2 => k_is)
    (case a3 => k_is)
    (case l3 => k_is)
    (case c3 => k_is)
    (case k3 => k_is)
    (case a4 => k_is)
    (case l4 => k_is)
    (case c4 => k_is)
    (case k4 => k_is)
    (case a5 => k_is)
    (case l5 => k_is)
    (case c5 => k_is)
    (case k5 => k_is)
    (case a6 => k_is)
    (case i6 => k_is)
    (case l6 => k_is)
    (case c6 => k_is)
    (case k6 => k_is)
    (case a7 => k_is)
    (case l7 => k_is)
    (case c7 => k_is)
    (case k7 => k_is)
    (case a8 => k_is)
    (case l8 => k_is)
    (case c8 => k_is)
    (case k8 => k_is)
    (case a9 => k_is)
    (case l9 => k_is)
    (case c9 => k_is)
    (case k9 => k_is)
    (case a10 => k_is)
    (case l10 => k_is)
    (case c10 => k_is)
    (case k10 => k_is)
    (case a11 => k_is)
    (case l11 => k_is)
    (case c11 => k_is)
    (case k11 => k_is)
    (case a12 => k_is)
    (case l12 => k_is)
    (case c12 => k_is)
    (case k12 => k_is)
    (case a13 => k_is)
    (case l13 => k_is)
    (case c13 => k_is)
    (case k13 => k_is)
    (case a14 => k_is)
    (case l14 => k_is)
    (case c14 => k_is)
    (case k14 => k_is)
    (case a15 => k_is)
    (case l15 => k_is)
    (case c15 => k_is)
    (case k15 => k_is)
    (case a16 => k_is)
    (case l16 => k_is)
    (case c16 => k_is)
    (case k16 => k_is)
    (case a17 => k_is)
    (case l17 => k_is)
    (case c17 => k_is)
    (case k17 => k_is)
    (case a18 => k_is)
    (case l18 => k_is)
    (case c18 => k_is)
    (case k18 => k_is)
    (case a19 => k_is)
    (case l19 => k_is)
    (case c19 => k_is)
    (case k19 => k_is)
    (case a20 => k_is)
    (case l20 => k_is)
    (case c20 => k_is)
    (case k20 => k_is)
    (case a21 => k_is)
    (case l21 => k_is)
    (case c21 => k_is)
    (case k21 => k_is)
    (case a22 => k_is)
    (case l22 => k_is)
    (case c22 => k_is)
    (case k22 => k_is)
    (case a23 => k_is)
    (case l23 => k_is)
    (case c23 => k_is)
    (case k23 => k_is)
    (case a24 => k_is)
    (case l24 => k_is)
    (case c24 => k_is)
    (case k24 => k_is)
    (case pg_Job => k_is)
    (case hd_Job => k_is)
    (case po_Job => k_is)
    (case sa_Job => k_is)
    (case mk_Job => k_is)
    (case kc_Job => k_is)
    (case na_Job_name => k_is)
    (case na_Job_asker => k_is)
    (case na_Job_pages => k_is)
    (case na_Job_copies => k_is)
    (case na_Job_layout => k_is)
    (case na_Job_paper => k_is)
    (case na_Job_cover => k_is)
    (case na_Job_colour => k_is)
    (case na_Job_staple => k_is)
    (case na_Job_after => k_is)
    (case gLETTERS => k_is)
    (case eLETTERS => first | rfl | decide +kernel)
    (case gFIGURES => k_is)
    (case eFIGURES => first | rfl | decide +kernel)
    (case gNAME_MOST => k_is)
    (case eNAME_MOST => rfl)
    (case gNUMBER_MOST => k_is)
    (case eNUMBER_MOST => rfl)
    (case gUP => k_is)
    (case eUP => first | rfl | decide +kernel)
    (case gUP_LEAST => k_is)
    (case eUP_LEAST => rfl)
    (case gUP_MOST => k_is)
    (case eUP_MOST => rfl)
    (case gPAGES_MOST => k_is)
    (case ePAGES_MOST => rfl)
    (case gCOPIES_MOST => k_is)
    (case eCOPIES_MOST => rfl)
    (case gHEAD => k_is)
    (case eHEAD => rfl)
    (case gCOPIES => k_is)
    (case eCOPIES => first | rfl | decide +kernel)
    (case gCOLOUR => k_is)
    (case eCOLOUR => first | rfl | decide +kernel)
    (case gPAPER => k_is)
    (case ePAPER => first | rfl | decide +kernel)
    (case gCOVER => k_is)
    (case eCOVER => first | rfl | decide +kernel)
    (case gAFTER => k_is)
    (case eAFTER => first | rfl | decide +kernel)
    (case gSTAPLE => k_is)
    (case eSTAPLE => first | rfl | decide +kernel)
    (case gLAYOUT => k_is)
    (case eLAYOUT => first | rfl | decide +kernel)
    (case gONE_COPY => k_is)
    (case eONE_COPY => rfl)
    (case gONE_LAYOUT => k_is)
    (case eONE_LAYOUT => first | rfl | decide +kernel)
    (case gPLAIN => k_is)
    (case ePLAIN => first | rfl | decide +kernel)
    (case z_len => k_is)
    (case z_range => k_is)
    (case z_enumerate => k_is)
    (case z_str => k_is)
    (case z_int => k_is)
    (case z_bool => k_is)
    (case z_tuple => k_is)
    (case z_isinstance => k_is)
    (case z_all => k_is)
    (case z_ValueError => k_is)
#print axioms PySem.Challenge.cw_spoolhall_k07_written_and_read_back_holds
