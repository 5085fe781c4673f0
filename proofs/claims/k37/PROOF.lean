import PyProof.Rows.All
import Wide.All
import OpenK.AllK
import Wide.FinOn
import Lean
import PyProof.EqAt
import PyProof.EqKinds
import PyProof.TupleCall
import PyProof.EnumMake
import PyProof.Draws
import PyProof.InstStoreFacts
import PyProof.ExcArgs
import PyProof.ExcBaseAll.ValueError
import KE.KDictLaws
import OpenK.KOwn
import PyProof.ListRange
import PyProof.AttrMissHeap
import PyProof.MinMaxWalk
import PyProof.WalksMore
import PyProof.NeKinds
import KE.KDictList
import KE.KDictSum
import KE.KEqDict
import PyProof.DictItems
import KE.KPairComp
import PyProof.EqAt
import PyProof.NeKinds
import PyProof.MeetsSeq3
import KE.KLam
import KE.KMinKey
import KE.KNestM
import PyProof.MinMaxWalk
import PyProof.Rows.CallKw2
import KE.KSortTup
import KE.KSortKey
import PySem.Challenge.RW_spoolhall_k37_gathered
set_option Elab.async false
set_option linter.all false
set_option maxRecDepth 100000
namespace L2
open PySem PySem.Spec PyProof.Rows
abbrev Key := Sum Int Str
def keyIs : Key → Value → Bool
  | .inl k, v => Value.isInt k v
  | .inr x, v => Value.isStrOf x v
def keyH (w : World) : Key → Int
  | .inl k => hashInt k
  | .inr x => hashStr w x
theorem keyIs_shape : ∀ {k : Key} {v : Value}, keyIs k v = true → (∃ i t, k = Sum.inl i ∧ v = Value.int i t) ∨ (∃ x t, k = Sum.inr x ∧ v = Value.str x t)
  | .inl i, v, h => by
    obtain ⟨t, e⟩ := Value.isInt_shape (k := i) (v := v) h
    exact .inl ⟨i, t, rfl, e⟩
  | .inr x, v, h => by
    obtain ⟨t, e⟩ := Value.isStrOf_shape (x := x) (v := v) h
    exact .inr ⟨x, t, rfl, e⟩
theorem keyIs_int (i : Int) (t : Tok) : keyIs (.inl i) (.int i t) = true := by simp [keyIs, Value.isInt]
theorem keyIs_str (x : Str) (t : Tok) : keyIs (.inr x) (.str x t) = true := by simp [keyIs, Value.isStrOf]
theorem key_ll (a b : Int) : decide ((Sum.inl a : Key) = Sum.inl b) = (a == b) := by
  by_cases e : a = b
  · subst e; simp
  · have h : ¬ (Sum.inl a : Key) = Sum.inl b := fun q => e (Sum.inl.inj q)
    rw [decide_eq_false h]
    exact (beq_eq_false_iff_ne.mpr e).symm
theorem key_rr (a b : Str) : decide ((Sum.inr a : Key) = Sum.inr b) = decide (a = b) := by
  by_cases e : a = b
  · subst e; simp
  · have h : ¬ (Sum.inr a : Key) = Sum.inr b := fun q => e (Sum.inr.inj q)
    rw [decide_eq_false h, decide_eq_false e]
theorem key_lr (a : Int) (b : Str) : decide ((Sum.inl a : Key) = Sum.inr b) = false := decide_eq_false (fun q => nomatch q)
theorem key_rl (a : Str) (b : Int) : decide ((Sum.inr a : Key) = Sum.inl b) = false := decide_eq_false (fun q => nomatch q)
def mixKind (prog : Program) (w : World) : PySem.KeyKind prog w Key where
  is := keyIs
  hash := keyH w
  inj := fun v a b ha hb => by
    rcases keyIs_shape ha with ⟨i, t, rfl, rfl⟩ | ⟨x, t, rfl, rfl⟩
    · rcases keyIs_shape hb with ⟨j, u, rfl, e⟩ | ⟨y, u, rfl, e⟩
      · injection e with e1 _; rw [e1]
      · exact nomatch e
    · rcases keyIs_shape hb with ⟨j, u, rfl, e⟩ | ⟨y, u, rfl, e⟩
      · exact nomatch e
      · injection e with e1 _; rw [e1]
  byValue := fun k v h => by
    rcases keyIs_shape h with ⟨i, t, rfl, rfl⟩ | ⟨x, t, rfl, rfl⟩ <;> rfl
  pyHash := fun hv h => by
    rcases keyIs_shape hv with ⟨i, t, rfl, rfl⟩ | ⟨x, t, rfl, rfl⟩
    · exact wpAny_pyHash_int h
    · exact wpAny_pyHash_str h
  eqBool := fun hu hv h => by
    rcases keyIs_shape hu with ⟨i, t, rfl, rfl⟩ | ⟨x, t, rfl, rfl⟩
    · rcases keyIs_shape hv with ⟨j, u, rfl, rfl⟩ | ⟨y, u, rfl, rfl⟩
      · rw [key_ll] at h; exact wpAny_eqBool_int h
      · rw [key_lr] at h; exact SeqAt.EqAt.int_str i t y u _ _ _ _ h
    · rcases keyIs_shape hv with ⟨j, u, rfl, rfl⟩ | ⟨y, u, rfl, rfl⟩
      · rw [key_rl] at h; exact SeqAt.EqAt.str_int x t j u _ _ _ _ h
      · rw [key_rr] at h; exact wpAny_eqBool_str h
  «strs» := fun k x t v h => by
    rcases keyIs_shape h with ⟨i, u, rfl, e⟩ | ⟨y, u, rfl, e⟩
    · exact nomatch e
    · injection e with e1 _
      subst e1
      cases v <;> rfl
theorem mixKind_int (prog : Program) (w : World) (i : Int) (t : Tok) : (mixKind prog w).is (.inl i) (.int i t) = true := keyIs_int i t
theorem mixKind_str (prog : Program) (w : World) (x : Str) (t : Tok) : (mixKind prog w).is (.inr x) (.str x t) = true := keyIs_str x t
end L2
namespace L2
open PySem PySem.Spec PyProof.Rows
inductive V where
  | non | bl (b : Bool) | int (i : Int) | str (x : Str) | byt (b : Array UInt8) | flt (b : UInt64) | ref (a : Addr) | ty (n : String)
  deriving DecidableEq
def RelV : V → Value → Prop
  | .non, u => u = Value.none
  | .bl b, u => u = Value.bool b
  | .int i, u => ∃ t, u = Value.int i t
  | .str x, u => ∃ t, u = Value.str x t
  | .byt b, u => ∃ t, u = Value.bytes b t
  | .flt b, u => ∃ t, u = Value.float b t
  | .ref a, u => u = Value.ref a
  | .ty n, u => u = Value.type n
abbrev Vals : List V → List Value → Prop := Paired RelV
theorem Vals.length {xs : List V} {us : List Value} (r : Vals xs us) : xs.length = us.length := Paired.length r
theorem Vals.get : ∀ {xs : List V} {us : List Value} {i : Nat} {x : V}, Vals xs us → xs[i]? = some x → ∃ u, us[i]? = some u ∧ RelV x u
  | _, _, _, _, .nil, e => by simp at e
  | _, _, 0, _, .cons r _, e => by simp at e; subst e; exact ⟨_, rfl, r⟩
  | _, _, i + 1, x, .cons _ t, e => by
    obtain ⟨u, h1, h2⟩ := Vals.get (i := i) (x := x) t (by simpa using e)
    exact ⟨u, by simpa using h1, h2⟩
theorem Vals.set {x : V} {u : Value} (r : RelV x u) : ∀ {xs : List V} {us : List Value} (i : Nat), Vals xs us → Vals (xs.set i x) (us.set i u)
  | _, _, _, .nil => .nil
  | _, _, 0, .cons _ t => .cons r t
  | _, _, i + 1, .cons q t => .cons q (Vals.set r i t)
theorem Vals.append : ∀ {xs ys : List V} {us ws : List Value}, Vals xs us → Vals ys ws → Vals (xs ++ ys) (us ++ ws)
  | _, _, _, _, .nil, s => s
  | _, _, _, _, .cons r t, s => .cons r (Vals.append t s)
theorem Vals.take : ∀ {xs : List V} {us : List Value} (n : Nat), Vals xs us → Vals (xs.take n) (us.take n)
  | _, _, 0, _ => .nil
  | _, _, _ + 1, .nil => .nil
  | _, _, n + 1, .cons r t => .cons r (Vals.take n t)
theorem Vals.drop : ∀ {xs : List V} {us : List Value} (n : Nat), Vals xs us → Vals (xs.drop n) (us.drop n)
  | _, _, 0, r => r
  | _, _, _ + 1, .nil => .nil
  | _, _, n + 1, .cons _ t => Vals.drop n t
def RelO : Option V → Option Value → Prop
  | some v, some u => RelV v u
  | none, none => True
  | _, _ => False
def KV {κ : Type} : List (κ × V) → List (κ × Value) → Prop := Paired fun (p : κ × V) (q : κ × Value) => p.1 = q.1 ∧ RelV p.2 q.2
def kV : Key → V
  | .inl i => .int i
  | .inr x => .str x
inductive HO where
  | lst (xs : List V)
  | tup (xs : List V)
  | dK (kvs : List (Key × V)) | dT (kvs : List (List Key × V))
  | set (S : Int → Bool) (n : Nat)
  | ins (C dx : Addr) (fs : List (Str × V))
  | own (x : Addr)
  | xd (fs : List (Str × V))
  | met (f x : Addr)
  | rng (lo hi : Int)
  | frz (o : Obj) (u : HO)
  | tbl (ps : Array Value)
  | ext (φ : Heap → Prop)
abbrev Hp := Addr → Option HO
def upd (H : Hp) (a : Addr) (o : HO) : Hp := fun b => if b = a then some o else H b
theorem upd_same {H : Hp} {a : Addr} {o : HO} : upd H a o a = some o := by unfold upd; rw [if_pos rfl]
theorem upd_ne {H : Hp} {a b : Addr} {o : HO} (h : b ≠ a) : upd H a o b = H b := by unfold upd; rw [if_neg h]
theorem ne_of {H : Hp} {a b : Addr} {o u : HO} (h : H a = some o) (h' : H b = some u) (d : o ≠ u) : a ≠ b := by
  intro e; subst e; rw [h] at h'; exact d (Option.some.inj h')
theorem ne_of_none {H : Hp} {a b : Addr} {o : HO} (h : H a = some o) (h' : H b = none) : a ≠ b := by
  intro e; subst e; rw [h] at h'; cases h'
section
variable (P : Program) (w : World)
def ObjOk (H : Hp) (h : Heap) (a : Addr) : HO → Prop
  | .lst xs => xs.length ≤ sizeLine ∧ ∃ (its : List Value) (n : Nat), Vals xs its ∧ h.get? a = some { cls := .type "list", data := .seq its.toArray n }
  | .tup xs => xs.length ≤ sizeLine ∧ ∃ its : List Value, Vals xs its ∧ IsTup h a its.toArray
  | .dK kvs => kvs.length ≤ sizeLine ∧ (a == sysModules) = false ∧ ∃ vs, KV kvs vs ∧ h.DictOf (mixKind P w) a vs
  | .dT kvs => kvs.length ≤ sizeLine ∧ (a == sysModules) = false ∧ ∃ xs : List (List Key × Addr × Value),
      Paired (fun (p : List Key × V) (q : List Key × Addr × Value) => p.1 = q.1 ∧ H q.2.1 = some (.tup (p.1.map kV)) ∧ RelV p.2 q.2.2) kvs xs ∧
      ∃ o es ep, h.get? a = some o ∧ o.ExactDict ∧ o.data = .dict es ep ∧ es.toList = xs.map (entryOfKey (tupleKind (mixKind P w))) ∧ (xs.map (·.1)).Nodup
  | .set S n => h.SetOf (intKind P w) a S n
  | .ins C dx fs => H dx = some (.own a) ∧ fs.length ≤ 1000 ∧ dx ≠ a ∧ h.get? a = some (PySem.W.instObj C dx) ∧
      ∃ mA, h.Ns1 dx mA ∧ (∀ f, RelO (fs.lookup f) (mA f)) ∧ PySem.Within mA (fs.map (·.1))
  | .own _ => ∃ o, h.get? a = some o
  | .xd fs => ∃ mA, h.Ns1 a mA ∧ ∀ f, RelO (fs.lookup f) (mA f)
  | .rng lo hi => ∃ t u v, h.get? a = some { cls := .type "range", data := .fields #[.int lo t, .int hi u, .int 1 v] }
  | .frz o u => h.get? a = some o ∧ ObjOk H h a u
  | .tbl ps => h.get? a = some { cls := .none, data := .fields ps }
  | .met f x => h.get? a = some (PySem.W.methodObj (.ref f) (.ref x))
  | .ext φ => φ h ∧ (∃ o, h.get? a = some o) ∧ ∀ h1 h2 : Heap, φ h1 → (∀ o, h1.get? a = some o → h2.get? a = some o) → φ h2
def HOk (H : Hp) (h : Heap) : Prop := ∀ a o, H a = some o → ObjOk P w H h a o
end
section
variable {P : Program} {w : World} {H H' : Hp} {h h' : Heap} {a : Addr} {o : HO}
theorem ObjOk.lt (x : ObjOk P w H h a o) : a < h.objs.size := by
  cases o with
  | lst xs => obtain ⟨_, _, _, _, e⟩ := x; exact Heap.lt_size e
  | tup xs => obtain ⟨_, _, _, p⟩ := x; exact p.lt
  | dK kvs => obtain ⟨_, _, _, _, o, _, _, e, _⟩ := x; exact Heap.lt_size e
  | dT kvs => obtain ⟨_, _, _, _, o, _, _, e, _⟩ := x; exact Heap.lt_size e
  | set S n => obtain ⟨o, _, _, _, e, _⟩ := x; exact Heap.lt_size e
  | ins C dx fs => obtain ⟨_, _, _, e, _⟩ := x; exact Heap.lt_size e
  | own y => obtain ⟨_, e⟩ := x; exact Heap.lt_size e
  | xd fs => obtain ⟨_, ⟨_, _, _, e, _⟩, _⟩ := x; exact Heap.lt_size e
  | rng lo hi => obtain ⟨_, _, _, e⟩ := x; exact Heap.lt_size e
  | frz ob u => obtain ⟨e, _⟩ := x; exact Heap.lt_size e
  | tbl ps => exact Heap.lt_size (show h.get? a = some _ from x)
  | met f y => exact Heap.lt_size (show h.get? a = some _ from x)
  | ext φ => obtain ⟨_, ⟨_, e⟩, _⟩ := x; exact Heap.lt_size e
theorem Paired.mapP {α β : Type} {F G : α → β → Prop} : ∀ {l₁ : List α} {l₂ : List β}, Paired F l₁ l₂ → (∀ a b, F a b → G a b) → Paired G l₁ l₂
  | _, _, .nil, _ => .nil
  | _, _, .cons r t, f => .cons (f _ _ r) (Paired.mapP t f)
theorem ObjOk.stay (x : ObjOk P w H h a o) (k : ∀ b u, (b = a ∨ H b = some (.own a)) → h.get? b = some u → h'.get? b = some u)
    (ho : ∀ b, H b = some (.own a) → H' b = some (.own a)) (ht : ∀ b xs, H b = some (.tup xs) → H' b = some (.tup xs)) : ObjOk P w H' h' a o := by
  induction o with
  | lst xs => obtain ⟨z, its, n, r, e⟩ := x; exact ⟨z, its, n, r, k _ _ (.inl rfl) e⟩
  | tup xs => obtain ⟨z, its, r, ob, e, c⟩ := x; exact ⟨z, its, r, ob, k _ _ (.inl rfl) e, c⟩
  | dK kvs => obtain ⟨z, y, vs, r, ob, es, ep, e, c⟩ := x; exact ⟨z, y, vs, r, ob, es, ep, k _ _ (.inl rfl) e, c⟩
  | dT kvs =>
    obtain ⟨z, y, xs, r, ob, es, ep, e, c⟩ := x
    exact ⟨z, y, xs, Paired.mapP r fun p q z => ⟨z.1, ht _ _ z.2.1, z.2.2⟩, ob, es, ep, k _ _ (.inl rfl) e, c⟩
  | set S n => obtain ⟨ob, es, ep, t, e, c⟩ := x; exact ⟨ob, es, ep, t, k _ _ (.inl rfl) e, c⟩
  | ins C dx fs =>
    obtain ⟨d, z, ne, e, mA, ⟨od, es, ep, e2, c⟩, r⟩ := x
    exact ⟨ho _ d, z, ne, k _ _ (.inl rfl) e, mA, ⟨od, es, ep, k _ _ (.inr d) e2, c⟩, r⟩
  | own y => obtain ⟨ob, e⟩ := x; exact ⟨ob, k _ _ (.inl rfl) e⟩
  | xd fs => obtain ⟨mA, ⟨od, es, ep, e, c⟩, r⟩ := x; exact ⟨mA, ⟨od, es, ep, k _ _ (.inl rfl) e, c⟩, r⟩
  | rng lo hi => obtain ⟨t, u, v, e⟩ := x; exact ⟨t, u, v, k _ _ (.inl rfl) e⟩
  | frz ob u ih => obtain ⟨e, q⟩ := x; exact ⟨k _ _ (.inl rfl) e, ih q⟩
  | tbl ps =>
    have e : h.get? a = some { cls := .none, data := .fields ps } := x
    show h'.get? a = some { cls := .none, data := .fields ps }
    exact k a _ (.inl rfl) e
  | met f y =>
    have e : h.get? a = some (PySem.W.methodObj (.ref f) (.ref y)) := x
    show h'.get? a = some (PySem.W.methodObj (.ref f) (.ref y))
    exact k a _ (.inl rfl) e
  | ext φ => obtain ⟨p, ⟨o, e⟩, st⟩ := x; exact ⟨st _ _ p fun o q => k _ _ (.inl rfl) q, ⟨o, k _ _ (.inl rfl) e⟩, st⟩
theorem HOk.lt (x : HOk P w H h) (e : H a = some o) : a < h.objs.size := (x a o e).lt
theorem HOk.fresh (x : HOk P w H h) (e : h.objs.size ≤ a) : H a = none := by
  cases q : H a with
  | none => rfl
  | some u => exact absurd (Nat.lt_of_lt_of_le (x.lt q) e) (Nat.lt_irrefl _)
theorem HOk.kept (x : HOk P w H h) (k : ∀ b u, h.get? b = some u → h'.get? b = some u) : HOk P w H h' := fun a o e =>
  (x a o e).stay (fun b u _ q => k b u q) (fun _ q => q) fun _ _ q => q
theorem HOk.laid (x : HOk P w H h) (k : ∀ b u, h.get? b = some u → h'.get? b = some u) (hp : h.objs.size ≤ a) (new : ObjOk P w (upd H a o) h' a o) : HOk P w (upd H a o) h' := fun b u e => by
  have hn := x.fresh hp
  by_cases hb : b = a
  · subst hb; rw [upd_same] at e; cases e; exact new
  · rw [upd_ne hb] at e
    exact (x b u e).stay (fun c v _ q => k c v q) (fun c q => by rw [upd_ne (ne_of_none q hn)]; exact q) fun c xs q => by rw [upd_ne (ne_of_none q hn)]; exact q
end
def Rd (H : Hp) (a : Addr) (u : HO) : Prop := H a = some u ∨ ∃ o, H a = some (.frz o u)
theorem Rd.of {H : Hp} {a : Addr} {u : HO} (h : H a = some u) : Rd H a u := .inl h
theorem Rd.ok {P : Program} {w : World} {H : Hp} {h : Heap} {a : Addr} {u : HO} (r : Rd H a u) (x : HOk P w H h) : ObjOk P w H h a u := by
  rcases r with r | ⟨o, r⟩
  · exact x a u r
  · obtain ⟨_, q⟩ := x a _ r
    exact q
def Mut : Option HO → Prop
  | some (.lst _) => True
  | some (.dK _) => True
  | some (.dT _) => True
  | some (.set _ _) => True
  | some (.ins _ _ _) => True
  | some (.ext _) => True
  | _ => False
section
variable {P : Program} {w : World} {H : Hp} {h h' : Heap} {x e : Addr} {o' : HO}
theorem HOk.write (ok : HOk P w H h) (mu : Mut (H x)) (he : e = x ∨ H e = some (.own x)) (k : ∀ b u, b ≠ e → h.get? b = some u → h'.get? b = some u) (heo : ∃ u, h'.get? e = some u)
    (new : ObjOk P w (upd H x o') h' x o') : HOk P w (upd H x o') h' := fun b u q => by
  have nown : ∀ c y, H c = some (.own y) → c ≠ x := fun c y r z => by subst z; rw [r] at mu; exact mu
  have ntup : ∀ c xs, H c = some (.tup xs) → c ≠ x := fun c xs r z => by subst z; rw [r] at mu; exact mu
  by_cases hb : b = x
  · subst hb; rw [upd_same] at q; cases q; exact new
  · rw [upd_ne hb] at q
    by_cases hbe : b = e
    · have q' : H b = some (.own x) := by
        rcases he with z | z
        · exact absurd (hbe.trans z) hb
        · rw [hbe]; exact z
      rw [q] at q'; cases q'
      obtain ⟨v, hv⟩ := heo
      exact ⟨v, by rw [hbe]; exact hv⟩
    · refine (ok b u q).stay (fun c v hc r => k c v ?_ r) (fun c r => by rw [upd_ne (nown c b r)]; exact r) fun c xs r => by rw [upd_ne (ntup c xs r)]; exact r
      rcases hc with rfl | hc
      · exact hbe
      · rintro rfl
        rcases he with z | z
        · exact nown c b hc z
        · rw [hc] at z; cases z; exact hb rfl
end
structure Un (fs ex : List Addr) (H H' : Hp) (h h' : Heap) : Prop where
  keep : ∀ b o, h.get? b = some o → H b = none → b ∉ fs → b ∉ ex → h'.get? b = some o
  slot : ∀ b o, h.get? b = some o → H b = none → b ∈ fs → b ∉ ex → ∃ sl, h'.get? b = some { o with slots := sl }
  free : ∀ b o, h.get? b = some o → H b = none → b ∉ ex → H' b = none
  there : ∀ b o, h.get? b = some o → b ∉ ex → ∃ o', h'.get? b = some o'
  tups : ∀ b xs, H b = some (.tup xs) → H' b = some (.tup xs)
  frzs : ∀ b o u, H b = some (.frz o u) → H' b = some (.frz o u)
  tbls : ∀ b ps, H b = some (.tbl ps) → ∃ more, H' b = some (.tbl (ps ++ more))
section
variable {fs fs' ex ex' : List Addr} {H H1 H2 : Hp} {h h1 h2 h' : Heap} {a x e : Addr} {o : HO}
theorem Un.any (u : Un fs ex H H1 h h1) {b : Addr} {ob : Obj} (q : h.get? b = some ob) (n : H b = none) (hx : b ∉ ex) : ∃ sl, h1.get? b = some { ob with slots := sl } := by
  by_cases hb : b ∈ fs
  · exact u.slot b ob q n hb hx
  · exact ⟨ob.slots, u.keep b ob q n hb hx⟩
theorem Un.trans (a : Un fs ex H H1 h h1) (b : Un fs ex H1 H2 h1 h2) : Un fs ex H H2 h h2 where
  keep := fun c ob q n hc hx => b.keep c ob (a.keep c ob q n hc hx) (a.free c ob q n hx) hc hx
  slot := fun c ob q n hc hx => by
    obtain ⟨sl, e1⟩ := a.slot c ob q n hc hx
    obtain ⟨sl', e2⟩ := b.slot c _ e1 (a.free c ob q n hx) hc hx
    exact ⟨sl', e2⟩
  free := fun c ob q n hx => by
    obtain ⟨o', e1⟩ := a.there c ob q hx
    exact b.free c o' e1 (a.free c ob q n hx) hx
  there := fun c ob q hx => by
    obtain ⟨o', e1⟩ := a.there c ob q hx
    exact b.there c o' e1 hx
  tups := fun c xs q => b.tups c xs (a.tups c xs q)
  frzs := fun c ob xs q => b.frzs c ob xs (a.frzs c ob xs q)
  tbls := fun c ps q => by
    obtain ⟨m1, e1⟩ := a.tbls c ps q
    obtain ⟨m2, e2⟩ := b.tbls c _ e1
    exact ⟨m1 ++ m2, by rw [e2, Array.append_assoc]⟩
theorem Un.kept (k : ∀ b u, h.get? b = some u → h'.get? b = some u) : Un fs ex H H h h' :=
  ⟨fun b ob q _ _ _ => k b ob q, fun b ob q _ _ _ => ⟨ob.slots, k b ob q⟩, fun _ _ _ n _ => n, fun b ob q _ => ⟨ob, k b ob q⟩, fun _ _ q => q, fun _ _ _ q => q, fun _ ps q => ⟨#[], by rw [q]; simp⟩⟩
theorem Un.refl : Un fs ex H H h h := Un.kept fun _ _ q => q
theorem Un.laid (k : ∀ b u, h.get? b = some u → h'.get? b = some u) (hp : h.objs.size ≤ a) (hn : H a = none) : Un fs ex H (upd H a o) h h' where
  keep := fun b u q _ _ _ => k b u q
  slot := fun b u q _ _ _ => ⟨u.slots, k b u q⟩
  free := fun b u q n _ => by rw [upd_ne (Nat.ne_of_lt (Nat.lt_of_lt_of_le (Heap.lt_size q) hp))]; exact n
  there := fun b u q _ => ⟨u, k b u q⟩
  tups := fun b xs q => by rw [upd_ne (ne_of_none q hn)]; exact q
  frzs := fun b u xs q => by rw [upd_ne (ne_of_none q hn)]; exact q
  tbls := fun b ps q => ⟨#[], by rw [upd_ne (ne_of_none q hn), q]; simp⟩
theorem Un.write (mu : Mut (H x)) (he : e = x ∨ H e = some (.own x)) (k : ∀ b u, b ≠ e → h.get? b = some u → h'.get? b = some u) (heo : ∃ u, h'.get? e = some u) : Un fs ex H (upd H x o) h h' := by
  have hx : ∀ b, H b = none → b ≠ x := fun b n z => by subst z; rw [n] at mu; exact mu
  have hb : ∀ b, H b = none → b ≠ e := fun b n z => by
    subst z
    rcases he with r | r
    · exact hx b n r
    · rw [n] at r; cases r
  have hm : ∀ b u, H b = some u → ¬ Mut (some u) → b ≠ x := fun b u q nm z => by subst z; rw [q] at mu; exact nm mu
  refine ⟨fun b u q n _ _ => k b u (hb b n) q, fun b u q n _ _ => ⟨u.slots, k b u (hb b n) q⟩, fun b u q n _ => by rw [upd_ne (hx b n)]; exact n, fun b u q _ => ?_,
    fun b xs q => by rw [upd_ne (hm b _ q fun z => z)]; exact q, fun b u xs q => by rw [upd_ne (hm b _ q fun z => z)]; exact q, fun b ps q => ⟨#[], by rw [upd_ne (hm b _ q fun z => z), q]; simp⟩⟩
  by_cases hbe : b = e
  · subst hbe; exact heo
  · exact ⟨u, k b u hbe q⟩
theorem Un.mono (u : Un fs ex H H1 h h1) (hs : ∀ b ∈ fs, b ∈ fs') (hx : ∀ b ∈ ex, b ∈ ex') : Un fs' ex' H H1 h h1 :=
  ⟨fun b ob q n hb he => u.keep b ob q n (fun z => hb (hs b z)) fun z => he (hx b z), fun _ _ q n _ he => u.any q n fun z => he (hx _ z), fun b ob q n he => u.free b ob q n fun z => he (hx b z), fun b ob q he => u.there b ob q fun z => he (hx b z), u.tups, u.frzs, u.tbls⟩
end
def trk (h : Heap) (H : Hp) : List Addr := (List.range h.objs.size).filter fun a => (H a).isSome
def hidT (h : Heap) (H : Hp) : Heap := PySem.W.hideAll h (trk h H)
theorem hidT_size (h : Heap) (H : Hp) : (hidT h H).objs.size = h.objs.size := PySem.W.hideAll_size _ _
theorem hidT_get {h : Heap} {H : Hp} {b : Addr} {o : Obj} (e : h.get? b = some o) (n : H b = none) : (hidT h H).get? b = some o :=
  PySem.W.hideAll_get _ e fun hm => by
    have q : (H b).isSome = true := (List.mem_filter.mp hm).2
    rw [n] at q; simp at q
theorem of_hidT {h : Heap} {H : Hp} {b : Addr} {o : Obj} (e : (hidT h H).get? b = some o) : h.get? b = some o ∧ H b = none := by
  have e' : h.get? b = some o := PySem.W.of_hideAll (trk h H) e
  refine ⟨e', ?_⟩
  cases q : H b with
  | none => rfl
  | some x =>
    have hm : b ∈ trk h H := List.mem_filter.mpr ⟨List.mem_range.mpr (Heap.lt_size e'), by simp [q]⟩
    have z : (hidT h H).get? b = none := PySem.W.hideAll_none (trk h H) hm
    rw [z] at e; cases e
def allNews (g h : Heap) (L : Addr) : List (Addr × Obj) := (List.range h.objs.size).filterMap fun a => if a = L ∨ (g.get? a).isSome = true then none else (h.get? a).map fun o => (a, o)
def rest (g h : Heap) (L d : Addr) : List (Addr × Obj) := (allNews g h L).filter fun p => decide (p.1 ≠ d)
end L2
namespace L2
open PySem PySem.Spec PyProof.Rows
structure Mod (K : PySem.W.Frag) (mg : Str → Option Value) (base : Heap) : Prop where
  kin : K.In base
  glob : base.Ns mainGlobals mg
  blt : ∃ mb, base.Ns builtinsNs mb ∧ ∀ x : Str, x ≠ "__name__" → mb x = bootBuiltins x
  nolimit : base.NoLimit
/-- the context: a def's body (or a comprehension's block) running. base: fixed through the whole law; s₀, H₀: the entry; outer: the frames whose slots others may change (a def's callers); stack: all frames that run;
   ex: iterators that were made ahead of the entry and are walked here (a comprehension's); fn: the names whose cells were made at the entry (a def: all; a comprehension's block: its own); calm: not within an except suite; pn: pins that every state bears; xe: what is wanted of an exception that leaves the code -/
structure Cx where
  prog : Program
  w : World
  K : PySem.W.Frag
  mg : Str → Option Value
  base : Heap
  A : Around
  N : List Str
  s₀ : Shared
  H₀ : Hp
  env : Env
  outer : List Env
  stack : List Env
  ex : List Addr
  fn : Str → Bool
  calm : Bool
  pn : List (Addr × Obj)
  xe : Value → Shared → Prop
def frs (l : List Env) : List Addr := l.filterMap (·.frame)
abbrev Cx.fs (X : Cx) : List Addr := frs X.outer
def Vis (sc : Scope) (x : Str) : Prop := sc.names.lookup x = some .local ∨ sc.names.lookup x = some .cell ∨ sc.names.lookup x = some .free
def Loc (sc : Scope) (x : Str) : Prop := sc.names.lookup x = some .local ∨ sc.names.lookup x = some .cell
def Look (env : Env) (h : Heap) (m : Str → Option Value) (x : Str) (u : Value) : Prop :=
  (env.kindOf x = some .local ∧ m x = some u) ∨ ((env.kindOf x = some .cell ∨ env.kindOf x = some .free) ∧ ∃ c, env.cells.lookup x = some c ∧ h.IsCell c (some u))
structure Cx.Ok (X : Cx) : Prop where
  mod : Mod X.K X.mg X.base
  kind : X.env.scope.kind = .function
  glob : X.env.globals = mainGlobals
  blt : X.env.builtins = builtinsNs
  above : X.s₀.heap.objs.size ≤ X.env.locals
  inj : ∀ x y c, X.env.cells.lookup x = some c → X.env.cells.lookup y = some c → x = y
  has : ∀ x, (X.env.kindOf x = some .cell ∨ X.env.kindOf x = some .free) → ∃ c, X.env.cells.lookup x = some c
  cab : ∀ x c, X.fn x = true → X.env.cells.lookup x = some c → X.s₀.heap.objs.size ≤ c
  hd : X.calm = true → X.A.handled = none
  frames : X.A.frames = some X.stack
  stk : X.stack = X.outer ∨ (X.stack = X.env :: X.outer ∧ X.env.frame = some X.env.locals)
  exf : ∀ b ∈ X.ex, b ≠ X.env.locals ∧ ∀ x c, X.env.cells.lookup x = some c → c ≠ b
  bs : ∀ b o, X.base.get? b = some o → X.s₀.heap.get? b = some o ∧ X.H₀ b = none
  bsz : X.base.objs.size ≤ X.s₀.heap.objs.size
  noex : ∀ b o, X.base.get? b = some o → b ∉ X.ex
  exfs : ∀ b ∈ X.ex, b ∉ X.fs
  funs : X.s₀.heap.FunFrames X.base X.outer
  frf : ∀ b ∈ X.fs, X.H₀ b = none
structure Inv (X : Cx) (pins : List (Addr × Obj)) (σ : List (Option V)) (H : Hp) (s : Shared) : Prop where
  ok : X.Ok
  os : s.os = X.s₀.os
  bare : AllBare s.gens
  base : Un X.fs X.ex X.H₀ H X.s₀.heap s.heap
  loc : ∃ m, s.heap.Ns X.env.locals m ∧ ∀ (i : Nat) (x : Str) (v : V), X.N[i]? = some x → σ[i]? = some (some v) → Vis X.env.scope x → ∃ u, RelV v u ∧ Look X.env s.heap m x u
  cell : ∀ x c, X.env.cells.lookup x = some c → ∃ v, s.heap.IsCell c v
  free : H X.env.locals = none
  freeC : ∀ x c, X.env.cells.lookup x = some c → H c = none
  pin : ∀ p ∈ X.pn ++ pins, s.heap.get? p.1 = some p.2 ∧ H p.1 = none ∧ p.1 ≠ X.env.locals ∧ p.1 ∉ X.fs ∧ ∀ v, p.2.data ≠ .cell v
  hok : HOk X.prog X.w H s.heap
  len : σ.length = X.N.length
section
variable {X : Cx} {pins : List (Addr × Obj)} {σ : List (Option V)} {H H' : Hp} {s : Shared} {h' : Heap}
theorem Cx.Ok.nofr (ok : X.Ok) {b : Addr} {o : Obj} (e : X.base.get? b = some o) : b ∉ X.fs := fun hb => by
  have := (ok.funs.mem hb).1
  rw [e] at this; cases this
theorem Inv.bs (I : Inv X pins σ H s) : ∀ b o, X.base.get? b = some o → s.heap.get? b = some o ∧ H b = none := fun b o e =>
  ⟨I.base.keep b o (I.ok.bs b o e).1 (I.ok.bs b o e).2 (I.ok.nofr e) (I.ok.noex b o e), I.base.free b o (I.ok.bs b o e).1 (I.ok.bs b o e).2 (I.ok.noex b o e)⟩
theorem Inv.bk (I : Inv X pins σ H s) : ∀ b o, X.base.get? b = some o → s.heap.get? b = some o := fun b o e => (I.bs b o e).1
theorem Inv.mod (I : Inv X pins σ H s) : Mod X.K X.mg X.base := I.ok.mod
theorem Inv.kIn (I : Inv X pins σ H s) : X.K.In s.heap := I.ok.mod.kin.keeps I.bk
theorem Inv.nolimit (I : Inv X pins σ H s) : s.heap.NoLimit := I.ok.mod.nolimit.keeps I.bk
theorem Inv.fr (I : Inv X pins σ H s) : ∃ m, Fr X.base X.env.locals s.heap m :=
  let ⟨m, hn, _⟩ := I.loc
  ⟨m, hn, I.bk, Nat.le_trans I.ok.bsz I.ok.above⟩
theorem Inv.lt (I : Inv X pins σ H s) : X.env.locals < s.heap.objs.size := let ⟨_, hn, _⟩ := I.loc; hn.lt
theorem Inv.sz (I : Inv X pins σ H s) : X.s₀.heap.objs.size ≤ s.heap.objs.size := Nat.le_trans I.ok.above (Nat.le_of_lt I.lt)
theorem Inv.nofs (I : Inv X pins σ H s) {a : Addr} (h : s.heap.objs.size ≤ a) : a ∉ X.fs := fun hb => by
  obtain ⟨_, o, ho, _⟩ := I.ok.funs.mem hb
  exact absurd (Nat.lt_of_lt_of_le (Heap.lt_size ho) (Nat.le_trans I.sz h)) (Nat.lt_irrefl _)
theorem Inv.cne (I : Inv X pins σ H s) : ∀ x c, X.env.cells.lookup x = some c → c ≠ X.env.locals := fun x c e z => by
  obtain ⟨v, o, ho, hd⟩ := I.cell x c e
  obtain ⟨m, ⟨o', es, ep, ho', hd', _⟩, _⟩ := I.loc
  rw [z, ho'] at ho; cases ho; rw [hd'] at hd; cases hd
theorem Inv.funs (I : Inv X pins σ H s) : s.heap.FunFrames X.base X.outer := by
  have all : ∀ (l : List Env), (∀ b ∈ frs l, b ∈ X.fs) → X.s₀.heap.FunFrames X.base l → s.heap.FunFrames X.base l := by
    intro l
    induction l with
    | nil => intro _ _; trivial
    | cons env r ih =>
      intro hs hl
      obtain ⟨hk, ⟨L, o, hf, hn, ho, hd⟩, hr⟩ := hl
      have hL : L ∈ X.fs := hs L (by unfold frs; rw [List.filterMap_cons, hf]; exact List.mem_cons_self)
      obtain ⟨sl, e⟩ := I.base.slot L o ho (I.ok.frf L hL) hL fun z => I.ok.exfs L z hL
      exact ⟨hk, ⟨L, _, hf, hn, e, hd⟩, ih (fun b hb => hs b (by unfold frs; rw [List.filterMap_cons, hf]; exact List.mem_cons_of_mem _ hb)) hr⟩
  exact all X.outer (fun _ hb => hb) I.ok.funs
theorem Inv.stack (I : Inv X pins σ H s) : s.heap.FunFrames X.base X.stack := by
  rcases I.ok.stk with e | ⟨e, hf⟩
  · rw [e]; exact I.funs
  · rw [e]
    obtain ⟨m, hn, _⟩ := I.loc
    refine .cons (by rw [I.ok.kind]; decide) hf hn ?_ I.funs
    exact Heap.get?_none_of_le (Nat.le_trans I.ok.bsz I.ok.above)
theorem Inv.stkSub (I : Inv X pins σ H s) : ∀ b ∈ frs X.stack, b ∈ X.env.locals :: X.fs := fun b hb => by
  rcases I.ok.stk with e | ⟨e, hf⟩
  · rw [e] at hb; exact List.mem_cons_of_mem _ hb
  · rw [e] at hb
    unfold frs at hb
    rw [List.filterMap_cons, hf] at hb
    exact hb
theorem Inv.stkFree (I : Inv X pins σ H s) : ∀ b ∈ frs X.stack, H b = none := fun b hb => by
  rcases List.mem_cons.mp (I.stkSub b hb) with e | hb
  · rw [e]; exact I.free
  · obtain ⟨_, o, ho, _⟩ := I.ok.funs.mem hb
    exact I.base.free b o ho (I.ok.frf b hb) fun z => I.ok.exfs b z hb
theorem Inv.step {g' : Array GenState} {t' : Nat} {d' : Drawn} {ch : List Addr} (I : Inv X pins σ H s)
    (hch : ∀ b ∈ ch, (b ∈ X.ex ∨ X.s₀.heap.objs.size ≤ b) ∧ b ≠ X.env.locals ∧ (∀ x c, X.env.cells.lookup x = some c → c ≠ b) ∧ ∀ p ∈ X.pn ++ pins, p.1 ≠ b)
    (keep : ∀ b o, b ≠ X.env.locals → b ∉ X.fs → b ∉ ch → s.heap.get? b = some o → H b = none → h'.get? b = some o)
    (slot : ∀ b o, b ≠ X.env.locals → b ∈ X.fs → b ∉ ch → s.heap.get? b = some o → H b = none → ∃ sl, h'.get? b = some { o with slots := sl }) (free : ∀ b o, b ∉ ch → s.heap.get? b = some o → H b = none → H' b = none)
    (there : ∀ b o, b ∉ ch → s.heap.get? b = some o → ∃ o', h'.get? b = some o')
    (tups : ∀ b xs, H b = some (.tup xs) → H' b = some (.tup xs)) (frzs : ∀ b o u, H b = some (.frz o u) → H' b = some (.frz o u)) (tbls : ∀ b ps, H b = some (.tbl ps) → ∃ more, H' b = some (.tbl (ps ++ more)))
    (ns : ∀ m, s.heap.Ns X.env.locals m → h'.Ns X.env.locals m) (hok : HOk X.prog X.w H' h') (hg : AllBare g') :
    Inv X pins σ H' { s with heap := h', gens := g', drawn := d', toks := t' } := by
  have neL : ∀ b o, X.s₀.heap.get? b = some o → b ≠ X.env.locals := fun b o e => Nat.ne_of_lt (Nat.lt_of_lt_of_le (Heap.lt_size e) I.ok.above)
  have neC : ∀ b o, X.s₀.heap.get? b = some o → b ∉ X.ex → b ∉ ch := fun b o e hx hb => by
    rcases (hch b hb).1 with z | z
    · exact hx z
    · exact absurd (Nat.lt_of_lt_of_le (Heap.lt_size e) z) (Nat.lt_irrefl _)
  have cellK : ∀ x c, X.env.cells.lookup x = some c → ∀ v, s.heap.IsCell c v → h'.IsCell c v := fun x c e v ⟨o, ho, hd⟩ => by
    have nch : c ∉ ch := fun z => (hch c z).2.2.1 x c e rfl
    by_cases hc : c ∈ X.fs
    · obtain ⟨sl, q⟩ := slot c o (I.cne x c e) hc nch ho (I.freeC x c e)
      exact ⟨_, q, hd⟩
    · exact ⟨o, keep c o (I.cne x c e) hc nch ho (I.freeC x c e), hd⟩
  refine ⟨I.ok, I.os, hg, ⟨fun b o e n hb hx => ?_, fun b o e n hb hx => ?_, fun b o e n hx => ?_, fun b o e hx => ?_, fun b xs e => tups b xs (I.base.tups b xs e), fun b o xs e => frzs b o xs (I.base.frzs b o xs e), fun b ps e => ?_⟩, ?_, fun x c e => ?_, ?_, fun x c e => ?_, fun p hp => ?_, hok, I.len⟩
  · exact keep b o (neL b o e) hb (neC b o e hx) (I.base.keep b o e n hb hx) (I.base.free b o e n hx)
  · obtain ⟨sl, e1⟩ := I.base.slot b o e n hb hx
    obtain ⟨sl', e2⟩ := slot b _ (neL b o e) hb (neC b o e hx) e1 (I.base.free b o e n hx)
    exact ⟨sl', e2⟩
  · obtain ⟨o', e1⟩ := I.base.there b o e hx
    exact free b o' (neC b o e hx) e1 (I.base.free b o e n hx)
  · obtain ⟨o', e1⟩ := I.base.there b o e hx
    exact there b o' (neC b o e hx) e1
  · obtain ⟨m1, e1⟩ := I.base.tbls b ps e
    obtain ⟨m2, e2⟩ := tbls b _ e1
    exact ⟨m1 ++ m2, by rw [e2, Array.append_assoc]⟩
  · obtain ⟨m, hn, hl⟩ := I.loc
    refine ⟨m, ns m hn, fun i x v e1 e2 e3 => ?_⟩
    obtain ⟨u, r, l⟩ := hl i x v e1 e2 e3
    refine ⟨u, r, ?_⟩
    rcases l with l | ⟨k, c, e, z⟩
    · exact .inl l
    · exact .inr ⟨k, c, e, cellK x c e _ z⟩
  · obtain ⟨v, z⟩ := I.cell x c e
    exact ⟨v, cellK x c e v z⟩
  · obtain ⟨m, ⟨o, _, _, ho, _⟩, _⟩ := I.loc
    exact free _ o (fun z => (hch _ z).2.1 rfl) ho I.free
  · obtain ⟨v, o, ho, hd⟩ := I.cell x c e
    exact free c o (fun z => (hch c z).2.2.1 x c e rfl) ho (I.freeC x c e)
  · obtain ⟨e, n, ne, nf, d⟩ := I.pin p hp
    have nch : p.1 ∉ ch := fun z => (hch p.1 z).2.2.2 p hp rfl
    exact ⟨keep p.1 p.2 ne nf nch e n, free p.1 p.2 nch e n, ne, nf, d⟩
theorem Inv.un {t' : Nat} (I : Inv X pins σ H s) (u : Un X.fs [] H H' s.heap h') (hok : HOk X.prog X.w H' h') : Inv X pins σ H' { s with heap := h', toks := t' } := by
  obtain ⟨m, ⟨o, es, ep, ho, r⟩, _⟩ := id I.loc
  obtain ⟨sl, hL⟩ := u.any ho I.free (by simp)
  exact I.step (g' := s.gens) (d' := s.drawn) (ch := []) (fun _ z => nomatch z) (fun b o _ hb _ e n => u.keep b o e n hb (by simp)) (fun b o _ hb _ e n => u.slot b o e n hb (by simp)) (fun b o _ e n => u.free b o e n (by simp)) (fun b o _ e => u.there b o e (by simp)) u.tups u.frzs u.tbls (fun m' hm => by
    obtain ⟨o', es', ep', ho', r'⟩ := hm
    rw [ho] at ho'; cases ho'
    exact ⟨_, es', ep', hL, r'⟩) hok I.bare
theorem Inv.call {g' : Array GenState} {t' : Nat} {d' : Drawn} {ch : List Addr} (I : Inv X pins σ H s) (u : Un (frs X.stack) ch H H' s.heap h') (hok : HOk X.prog X.w H' h') (hg : AllBare g')
    (hch : ∀ b ∈ ch, (b ∈ X.ex ∨ X.s₀.heap.objs.size ≤ b) ∧ b ≠ X.env.locals ∧ (∀ x c, X.env.cells.lookup x = some c → c ≠ b) ∧ ∀ p ∈ X.pn ++ pins, p.1 ≠ b) :
    Inv X pins σ H' { s with heap := h', gens := g', drawn := d', toks := t' } := by
  obtain ⟨m, ⟨o, es, ep, ho, r⟩, _⟩ := id I.loc
  obtain ⟨sl, hL⟩ := u.any ho I.free fun z => (hch _ z).2.1 rfl
  exact I.step (ch := ch) hch (fun b o hL hb hc e n => u.keep b o e n (fun z => (List.mem_cons.mp (I.stkSub b z)).elim hL hb) hc) (fun b o _ _ hc e n => u.any e n hc) (fun b o hc e n => u.free b o e n hc) (fun b o hc e => u.there b o e hc) u.tups u.frzs u.tbls (fun m' hm => by
    obtain ⟨o', es', ep', ho', r'⟩ := hm
    rw [ho] at ho'; cases ho'
    exact ⟨_, es', ep', hL, r'⟩) hok hg
theorem Inv.turned {t' : Nat} {it : Addr} (I : Inv X pins σ H s) (k : ∀ b o, b ≠ it → s.heap.get? b = some o → h'.get? b = some o) (hn : H it = none) (hL : it ≠ X.env.locals)
    (h1 : it ∈ X.ex ∨ X.s₀.heap.objs.size ≤ it) (h2 : ∀ x c, X.env.cells.lookup x = some c → c ≠ it) (h3 : ∀ p ∈ X.pn ++ pins, p.1 ≠ it) : Inv X pins σ H { s with heap := h', toks := t' } := by
  have nit : ∀ b u, H b = some u → b ≠ it := fun b u e z => by rw [z, hn] at e; cases e
  refine I.step (g' := s.gens) (d' := s.drawn) (ch := [it]) (fun b hb => ?_) (fun b o _ _ hc e _ => k b o (fun z => hc (by simp [z])) e) (fun b o _ _ hc e _ => ⟨o.slots, k b o (fun z => hc (by simp [z])) e⟩) (fun _ _ _ _ n => n)
    (fun b o hc e => ⟨o, k b o (fun z => hc (by simp [z])) e⟩) (fun _ _ e => e) (fun _ _ _ e => e) (fun b ps e => ⟨#[], by rw [e]; simp⟩) (fun m hm => ?_) (fun b u e => ?_) I.bare
  · have e : b = it := by simpa using hb
    subst e
    exact ⟨h1, hL, h2, h3⟩
  · obtain ⟨o, es, ep, ho, r⟩ := hm
    exact ⟨o, es, ep, k _ o (Ne.symm hL) ho, r⟩
  · refine (I.hok b u e).stay (fun c v hc q => k c v ?_ q) (fun _ q => q) fun _ _ q => q
    rcases hc with z | z
    · rw [z]; exact nit b u e
    · exact nit c _ z
theorem Inv.tok (I : Inv X pins σ H s) (t : Nat) : Inv X pins σ H { s with toks := t } := I.un (h' := s.heap) (t' := t) Un.refl I.hok
theorem Inv.kept {t' : Nat} (I : Inv X pins σ H s) (k : ∀ b u, s.heap.get? b = some u → h'.get? b = some u) : Inv X pins σ H { s with heap := h', toks := t' } := I.un (Un.kept k) (I.hok.kept k)
theorem Inv.laid {a : Addr} {o : HO} {t' : Nat} (I : Inv X pins σ H s) (k : ∀ b u, s.heap.get? b = some u → h'.get? b = some u) (hp : s.heap.objs.size ≤ a) (new : ObjOk X.prog X.w (upd H a o) h' a o) :
    Inv X pins σ (upd H a o) { s with heap := h', toks := t' } := I.un (Un.laid k hp (I.hok.fresh hp)) (I.hok.laid k hp new)
theorem Inv.write {x e : Addr} {o : HO} {t' : Nat} (I : Inv X pins σ H s) (mu : Mut (H x)) (he : e = x ∨ H e = some (.own x)) (k : ∀ b u, b ≠ e → s.heap.get? b = some u → h'.get? b = some u) (heo : ∃ u, h'.get? e = some u)
    (new : ObjOk X.prog X.w (upd H x o) h' x o) : Inv X pins σ (upd H x o) { s with heap := h', toks := t' } := I.un (Un.write mu he k heo) (I.hok.write mu he k heo new)
theorem Inv.pins_of {pins' : List (Addr × Obj)} (I : Inv X pins σ H s) (h : ∀ p ∈ pins', s.heap.get? p.1 = some p.2 ∧ H p.1 = none ∧ p.1 ≠ X.env.locals ∧ p.1 ∉ X.fs ∧ ∀ v, p.2.data ≠ .cell v) : Inv X pins' σ H s :=
  ⟨I.ok, I.os, I.bare, I.base, I.loc, I.cell, I.free, I.freeC, fun p hp => (List.mem_append.mp hp).elim (fun z => I.pin p (List.mem_append_left _ z)) (h p), I.hok, I.len⟩
theorem nodup_ix {N : List Str} (hN : N.Nodup) {i j : Nat} {x : Str} (a : N[i]? = some x) (b : N[j]? = some x) : i = j := by
  obtain ⟨h1, e1⟩ := List.getElem?_eq_some_iff.mp a
  obtain ⟨h2, e2⟩ := List.getElem?_eq_some_iff.mp b
  exact (List.getElem_inj hN).mp (e1.trans e2.symm)
theorem store_ok2 {M : Model} {A : Around} {E : Value → Shared → Prop} {i : Nat} {x : Str} {v : V} {u : Value} {Q : Unit → Shared → Prop} (I : Inv X pins σ H s) (hN : X.N.Nodup) (hi : X.N[i]? = some x) (hx : Loc X.env.scope x) (r : RelV v u)
    (h : ∀ s', Inv X pins (σ.set i (some v)) H s' → (∃ a, Heap.SameBut a s.heap s'.heap ∧ (a = X.env.locals ∨ X.env.cells.lookup x = some a)) → Q () s') (hf : X.fn x = true ∨ X.env.scope.names.lookup x = some .local := by first | exact .inl rfl | exact .inr rfl | assumption) : wpAny M A (storeName X.env x u) Q E s := by
  obtain ⟨m, hn, hl⟩ := id I.loc
  have hcls : (X.env.scope.kind == .class || (X.env.scope.kind == .module && X.env.locals != X.env.globals)) = false := by rw [I.ok.kind]; rfl
  have hiσ : i < σ.length := by rw [I.len]; exact (List.getElem?_eq_some_iff.mp hi).1
  have cne := I.cne
  have tracked : ∀ {a : Addr} {h' : Heap}, (∃ o, s.heap.get? a = some o ∧ H a = none) → Heap.SameBut a s.heap h' → HOk X.prog X.w H h' := fun {a h'} ha hs b ob e => by
    obtain ⟨_, _, hfree⟩ := ha
    refine (I.hok b ob e).stay (fun c w' hc q => (hs.2 c ?_).trans q) (fun _ q => q) fun _ _ q => q
    rintro rfl
    rcases hc with rfl | hc
    · rw [hfree] at e; cases e
    · rw [hfree] at hc; cases hc
  rcases hx with hk | hk
  · refine wpAny_storeName_local hk hn (fun h' hn' hs => ?_) hcls
    obtain ⟨oL, _, _, hoL, _⟩ := id hn
    refine h _ ⟨I.ok, I.os, I.bare, ⟨fun b o e n hb hx => ?_, fun b o e n hb hx => ?_, I.base.free, fun b o e hx => ?_, I.base.tups, I.base.frzs, I.base.tbls⟩, ⟨_, hn', fun j y v' e1 e2 e3 => ?_⟩, fun y c e => ?_, I.free, I.freeC, fun p hp => ?_, tracked ⟨oL, hoL, I.free⟩ hs, by simpa using I.len⟩ ⟨_, hs, .inl rfl⟩
    · exact (hs.2 b (Nat.ne_of_lt (Nat.lt_of_lt_of_le (Heap.lt_size e) I.ok.above))).trans (I.base.keep b o e n hb hx)
    · obtain ⟨sl, e1⟩ := I.base.slot b o e n hb hx
      exact ⟨sl, (hs.2 b (Nat.ne_of_lt (Nat.lt_of_lt_of_le (Heap.lt_size e) I.ok.above))).trans e1⟩
    · obtain ⟨o', e1⟩ := I.base.there b o e hx
      exact ⟨o', (hs.2 b (Nat.ne_of_lt (Nat.lt_of_lt_of_le (Heap.lt_size e) I.ok.above))).trans e1⟩
    · by_cases hj : j = i
      · subst hj
        rw [hi] at e1; cases e1
        rw [List.getElem?_set_self hiσ] at e2
        cases e2
        exact ⟨u, r, .inl ⟨hk, by simp⟩⟩
      · rw [List.getElem?_set_ne (Ne.symm hj)] at e2
        obtain ⟨u', r', q⟩ := hl j y v' e1 e2 e3
        refine ⟨u', r', ?_⟩
        rcases q with ⟨k, e⟩ | ⟨k, c, e, z⟩
        · refine .inl ⟨k, ?_⟩
          have : y ≠ x := fun e => hj (nodup_ix hN e1 (e ▸ hi))
          simp [this, e]
        · exact .inr ⟨k, c, e, z.sameBut hs (cne y c e)⟩
    · obtain ⟨w', z⟩ := I.cell y c e
      exact ⟨w', z.sameBut hs (cne y c e)⟩
    · obtain ⟨e, n, ne, nf, d⟩ := I.pin p hp
      exact ⟨(hs.2 p.1 ne).trans e, n, ne, nf, d⟩
  · have hfn : X.fn x = true := by
      rcases hf with z | z
      · exact z
      · rw [z] at hk; cases hk
    obtain ⟨c, hc⟩ := I.ok.has x (.inl hk)
    obtain ⟨w', z⟩ := I.cell x c hc
    refine wpAny_storeName_cell I.ok.kind hk hc z (fun h' hc' hs => ?_)
    obtain ⟨oc, hoc, hocd⟩ := id z
    refine h { s with heap := h' } ⟨I.ok, I.os, I.bare, ⟨fun b o e n hb hx => ?_, fun b o e n hb hx => ?_, I.base.free, fun b o e hx => ?_, I.base.tups, I.base.frzs, I.base.tbls⟩, ⟨m, hn.sameBut hs (Ne.symm (cne x c hc)), fun j y v' e1 e2 e3 => ?_⟩, fun y c' e => ?_, I.free, I.freeC, fun p hp => ?_, tracked ⟨oc, hoc, I.freeC x c hc⟩ hs, by simpa using I.len⟩ ⟨c, hs, .inr hc⟩
    · exact (hs.2 b (Nat.ne_of_lt (Nat.lt_of_lt_of_le (Heap.lt_size e) (I.ok.cab x c hfn hc)))).trans (I.base.keep b o e n hb hx)
    · obtain ⟨sl, e1⟩ := I.base.slot b o e n hb hx
      exact ⟨sl, (hs.2 b (Nat.ne_of_lt (Nat.lt_of_lt_of_le (Heap.lt_size e) (I.ok.cab x c hfn hc)))).trans e1⟩
    · obtain ⟨o', e1⟩ := I.base.there b o e hx
      exact ⟨o', (hs.2 b (Nat.ne_of_lt (Nat.lt_of_lt_of_le (Heap.lt_size e) (I.ok.cab x c hfn hc)))).trans e1⟩
    · by_cases hj : j = i
      · subst hj
        rw [hi] at e1; cases e1
        rw [List.getElem?_set_self hiσ] at e2
        cases e2
        exact ⟨u, r, .inr ⟨.inl hk, c, hc, hc'⟩⟩
      · rw [List.getElem?_set_ne (Ne.symm hj)] at e2
        obtain ⟨u', r', q⟩ := hl j y v' e1 e2 e3
        refine ⟨u', r', ?_⟩
        rcases q with q | ⟨k, c', e, z'⟩
        · exact .inl q
        · refine .inr ⟨k, c', e, z'.sameBut hs ?_⟩
          rintro rfl
          exact hj (nodup_ix hN e1 (I.ok.inj _ _ _ e hc ▸ hi))
    · by_cases hcc : c' = c
      · subst hcc; exact ⟨_, hc'⟩
      · obtain ⟨w2, z2⟩ := I.cell y c' e
        exact ⟨w2, z2.sameBut hs hcc⟩
    · obtain ⟨e, n, ne, nf, d⟩ := I.pin p hp
      refine ⟨(hs.2 p.1 ?_).trans e, n, ne, nf, d⟩
      intro q
      rw [q, hoc] at e
      have q' : oc = p.2 := Option.some.inj e
      exact d w' (by rw [← q']; exact hocd)
theorem store_ok {M : Model} {A : Around} {E : Value → Shared → Prop} {i : Nat} {x : Str} {v : V} {u : Value} {Q : Unit → Shared → Prop} (I : Inv X pins σ H s) (hN : X.N.Nodup) (hi : X.N[i]? = some x) (hx : Loc X.env.scope x) (r : RelV v u)
    (h : ∀ s', Inv X pins (σ.set i (some v)) H s' → Q () s') (hf : X.fn x = true ∨ X.env.scope.names.lookup x = some .local := by first | exact .inl rfl | exact .inr rfl | assumption) : wpAny M A (storeName X.env x u) Q E s :=
  store_ok2 I hN hi hx r (fun s' I' _ => h s' I') hf
theorem Inv.call' {s' : Shared} {ch : List Addr} (I : Inv X pins σ H s) (ho : s'.os = s.os) (u : Un (frs X.stack) ch H H' s.heap s'.heap) (hok : HOk X.prog X.w H' s'.heap) (hg : AllBare s'.gens)
    (hch : ∀ b ∈ ch, (b ∈ X.ex ∨ X.s₀.heap.objs.size ≤ b) ∧ b ≠ X.env.locals ∧ (∀ x c, X.env.cells.lookup x = some c → c ≠ b) ∧ ∀ p ∈ X.pn ++ pins, p.1 ≠ b) : Inv X pins σ H' s' := by
  obtain ⟨h', g', d', t', o'⟩ := s'
  have e : o' = s.os := ho
  subst e
  exact I.call (g' := g') (t' := t') (d' := d') u hok hg hch
end
abbrev XK := Value → Option Addr → Hp → Prop
abbrev St := List (Option V)
abbrev VK := V → Hp → Prop
abbrev TE := St → Hp → VK → Prop
abbrev TT := St → Hp → (Bool → Hp → Prop) → Prop
abbrev TA := St → Hp → (List V → Hp → Prop) → Prop
structure Ends where
  nx : St → Hp → Prop
  rt : VK
  bk : St → Hp → Prop := fun _ _ => False
  ct : St → Hp → Prop := fun _ _ => False
abbrev TS := Ends → St → Hp → Prop
def EP (X : Cx) (pins : List (Addr × Obj)) (σ : St) (Q : VK) (u : Value) (s' : Shared) : Prop := ∃ v H', Inv X pins σ H' s' ∧ RelV v u ∧ Q v H'
def TP (X : Cx) (pins : List (Addr × Obj)) (σ : St) (Q : Bool → Hp → Prop) (b : Bool) (s' : Shared) : Prop := ∃ H', Inv X pins σ H' s' ∧ Q b H'
def AP (X : Cx) (pins : List (Addr × Obj)) (σ : St) (Q : List V → Hp → Prop) (us : List Value) (s' : Shared) : Prop := ∃ vs H', Inv X pins σ H' s' ∧ Vals vs us ∧ Q vs H'
def SP (X : Cx) (pins : List (Addr × Obj)) (D : Ends) (f : Flow) (s' : Shared) : Prop :=
  match f with
  | .next => ∃ σ' H', Inv X pins σ' H' s' ∧ D.nx σ' H'
  | .brk => ∃ σ' H', Inv X pins σ' H' s' ∧ D.bk σ' H'
  | .cont => ∃ σ' H', Inv X pins σ' H' s' ∧ D.ct σ' H'
  | .ret u => ∃ v σ' H', Inv X pins σ' H' s' ∧ RelV v u ∧ D.rt v H'
def PE (X : Cx) (e : Expr) (t : TE) : Prop :=
  ∀ (pins : List (Addr × Obj)) (s : Shared) (σ : St) (H : Hp) (Q : VK), Inv X pins σ H s → t σ H Q → wpAny (model X.prog X.w) X.A (eval e X.env) (EP X pins σ Q) X.xe s
def PT (X : Cx) (e : Expr) (t : TT) : Prop :=
  ∀ (pins : List (Addr × Obj)) (s : Shared) (σ : St) (H : Hp) (Q : Bool → Hp → Prop), Inv X pins σ H s → t σ H Q → wpAny (model X.prog X.w) X.A (isTrue e X.env (eval e X.env)) (TP X pins σ Q) X.xe s
def PW (X : Cx) (e : Expr) (t : TT) : Prop :=
  ∀ (whole : Sem Value) (pins : List (Addr × Obj)) (s : Shared) (σ : St) (H : Hp) (Q : Bool → Hp → Prop), Inv X pins σ H s → t σ H Q → wpAny (model X.prog X.w) X.A (isTrue e X.env whole) (TP X pins σ Q) X.xe s
theorem PW.pt {X : Cx} {e : Expr} {t : TT} (h : PW X e t) : PT X e t := h _
def PA (X : Cx) (es : List Expr) (t : TA) : Prop :=
  ∀ (pos : Pos) (pins : List (Addr × Obj)) (s : Shared) (σ : St) (H : Hp) (Q : List V → Hp → Prop), Inv X pins σ H s → t σ H Q → wpAny (model X.prog X.w) X.A (spliced (backTo pos (starEach es X.env))) (AP X pins σ Q) X.xe s
def PS (X : Cx) (st : Stmt) (t : TS) : Prop :=
  ∀ (pins : List (Addr × Obj)) (s : Shared) (σ : St) (H : Hp) (D : Ends), Inv X pins σ H s → t D σ H → wpAny (model X.prog X.w) X.A (exec st X.env) (SP X pins D) X.xe s
def PSs (X : Cx) (st : List Stmt) (t : TS) : Prop :=
  ∀ (pins : List (Addr × Obj)) (s : Shared) (σ : St) (H : Hp) (D : Ends), Inv X pins σ H s → t D σ H → wpAny (model X.prog X.w) X.A (execs st X.env) (SP X pins D) X.xe s
theorem thn {α : Type} {t : Sem α} {Q Q' : α → Shared → Prop} {M : Model} {A : Around} {E : Value → Shared → Prop} {s : Shared} (h : wpAny M A t Q E s) (hQ : ∀ a s, Q a s → Q' a s) : wpAny M A t Q' E s := wpAny_mono h hQ fun _ _ x => x
end L2
namespace L2
open PySem PySem.Spec PyProof.Rows
section
variable {X : Cx}
theorem bin {a b : Expr} {ta tb : TE} (ha : PE X a ta) (hb : PE X b tb) {pins : List (Addr × Obj)} {s : Shared} {σ : St} {H : Hp} {R : V → V → Hp → Prop} (I : Inv X pins σ H s) (h : ta σ H fun x H1 => tb σ H1 fun y H2 => R x y H2)
    {α : Type} {Q : α → Shared → Prop} {f : Value → Value → Sem α}
    (hf : ∀ v u s2 x y H2, Inv X pins σ H2 s2 → RelV x v → RelV y u → R x y H2 → wpAny (model X.prog X.w) X.A (f v u) Q X.xe s2) :
    wpAny (model X.prog X.w) X.A (eval a X.env) (fun v s₁ => wpAny (model X.prog X.w) X.A (eval b X.env) (fun u s₂ => wpAny (model X.prog X.w) X.A (f v u) Q X.xe s₂) X.xe s₁) X.xe s := by
  refine thn (ha pins s σ H _ I h) fun v s1 ⟨x, H1, I1, r1, q1⟩ => ?_
  refine thn (hb pins s1 σ H1 _ I1 q1) fun u s2 ⟨y, H2, I2, r2, q2⟩ => ?_
  exact hf v u s2 x y H2 I2 r1 r2 q2
def tVar (i : Nat) : TE := fun σ H Q => ∃ v, σ[i]? = some (some v) ∧ Q v H
def tC (v : V) : TE := fun _ H Q => Q v H
theorem pe_var {i : Nat} {x : Str} {pos : Pos} (hN : X.N[i]? = some x) (hv : Vis X.env.scope x) (hd : (x == ("__debug__" : Str)) = false := by decide) (hcd : (x == ("__classdict__" : Str)) = false := by decide) : PE X (.Name x pos) (tVar i) := by
  intro pins s σ H Q I h
  obtain ⟨v, e, h⟩ := h
  obtain ⟨m, hn, hl⟩ := I.loc
  obtain ⟨u, r, l⟩ := hl i x v hN e hv
  have fin : EP X pins σ Q u s := ⟨v, H, I, r, h⟩
  rcases l with ⟨hk, hm⟩ | ⟨hk, c, hc, hcell⟩
  · exact wpAny_Name (wpAny_loadName_local I.ok.kind hk hn hm fin) hd
  · rcases hk with hk | hk
    · exact wpAny_Name (wpAny_loadName_cell I.ok.kind hk hc hcell fin) hd
    · exact wpAny_Name (wpAny_loadName_free I.ok.kind hk hc hcell fin hcd) hd
theorem pe_int {i j pos} : PE X (.Constant (.int i) j pos) (tC (.int i)) := fun _ _ _ H _ I h => wpAny_Constant_int ⟨.int i, H, I.tok _, ⟨_, rfl⟩, h⟩
theorem pe_bl {b j pos} : PE X (.Constant (.bool b) j pos) (tC (.bl b)) := fun _ _ _ H _ I h => Constant_bool ⟨.bl b, H, I, rfl, h⟩
theorem pe_non {j pos} : PE X (.Constant .none j pos) (tC .non) := fun _ _ _ H _ I h => Constant_none ⟨.non, H, I, rfl, h⟩
theorem pe_str {x j pos} : PE X (.Constant (.str x) j pos) (tC (.str x)) := fun _ _ _ H _ I h => Calls.Constant_str ⟨.str x, H, I.tok _, ⟨_, rfl⟩, h⟩
def Gl (X : Cx) (x : Str) : Prop := X.env.kindOf x = some .globalImplicit
theorem ld_glob {E : Value → Shared → Prop} {pins : List (Addr × Obj)} {s : Shared} {σ : St} {H : Hp} {x : Str} {u : Value} {pos : Pos} {Q : Value → Shared → Prop} (I : Inv X pins σ H s) (hg : Gl X x) (hm : X.mg x = some u) (h : Q u s)
    (hd : (x == ("__debug__" : Str)) = false := by decide) : wpAny (model X.prog X.w) X.A (eval (.Name x pos) X.env) Q E s :=
  Calls.Name_function_global I.ok.kind hg (Calls.loadGlobal_global (by rw [I.ok.glob]; exact I.mod.glob.keeps I.bk) hm h) hd
theorem ld_blt {E : Value → Shared → Prop} {pins : List (Addr × Obj)} {s : Shared} {σ : St} {H : Hp} {x : Str} {u : Value} {pos : Pos} {Q : Value → Shared → Prop} (I : Inv X pins σ H s) (hg : Gl X x) (hm : X.mg x = none) (hv : bootBuiltins x = some u) (h : Q u s)
    (hn : x ≠ "__name__" := by decide) (hd : (x == ("__debug__" : Str)) = false := by decide) : wpAny (model X.prog X.w) X.A (eval (.Name x pos) X.env) Q E s := by
  obtain ⟨mb, h1, h2⟩ := I.mod.blt
  exact Calls.Name_function_global I.ok.kind hg (Calls.loadGlobal_builtin (by rw [I.ok.glob]; exact I.mod.glob.keeps I.bk) hm (by rw [I.ok.blt]; exact h1.keeps I.bk) ((h2 x hn).trans hv) h) hd
theorem pe_glob {x : Str} {v : V} {u : Value} {pos : Pos} (hg : Gl X x) (hm : X.mg x = some u) (r : RelV v u) (hd : (x == ("__debug__" : Str)) = false := by decide) : PE X (.Name x pos) (tC v) :=
  fun _ _ _ H _ I h => ld_glob I hg hm ⟨v, H, I, r, h⟩ hd
theorem pe_bltn {x : Str} {v : V} {u : Value} {pos : Pos} (hg : Gl X x) (hm : X.mg x = none) (hv : bootBuiltins x = some u) (r : RelV v u) (hn : x ≠ "__name__" := by decide) (hd : (x == ("__debug__" : Str)) = false := by decide) : PE X (.Name x pos) (tC v) :=
  fun _ _ _ H _ I h => ld_blt I hg hm hv ⟨v, H, I, r, h⟩ hn hd
def t2I (ta tb : TE) (k : Int → Int → Hp → Prop) : St → Hp → Prop := fun σ H => ta σ H fun x H1 => tb σ H1 fun y H2 => ∃ i j, x = .int i ∧ y = .int j ∧ k i j H2
def tAdd (ta tb : TE) : TE := fun σ H Q => t2I ta tb (fun i j H2 => Q (.int (i + j)) H2) σ H
def tSub (ta tb : TE) : TE := fun σ H Q => t2I ta tb (fun i j H2 => Q (.int (i - j)) H2) σ H
def tMul (ta tb : TE) : TE := fun σ H Q => t2I ta tb (fun i j H2 => (-(2 ^ 64) < i ∧ i < 2 ^ 64) ∧ Q (.int (i * j)) H2) σ H
variable {a b : Expr} {ta tb : TE} {pos : Pos}
def PC (X : Cx) (op : CmpOp) (a b : Expr) (t : TE) : Prop :=
  ∀ (pins : List (Addr × Obj)) (s : Shared) (σ : St) (H : Hp) (Q : VK), Inv X pins σ H s → t σ H Q →
    wpAny (model X.prog X.w) X.A (eval a X.env) (fun v s₁ => wpAny (model X.prog X.w) X.A (eval b X.env) (fun u s₂ => wpAny (model X.prog X.w) X.A (compareOp op v u) (EP X pins σ Q) X.xe s₂) X.xe s₁) X.xe s
theorem nobehind (b : Expr) {op : CmpOp} (h : op ≠ .In) (h2 : op ≠ .NotIn) : behindInMarks op b = false := by
  have e1 : (op == CmpOp.In) = false := by cases op <;> first | rfl | exact absurd rfl h
  have e2 : (op == CmpOp.NotIn) = false := by cases op <;> first | rfl | exact absurd rfl h2
  cases b <;> simp [behindInMarks, e1, e2]
def tCmp (p : Int → Int → Bool) (ta tb : TE) : TE := fun σ H Q => t2I ta tb (fun i j H2 => Q (.bl (p i j)) H2) σ H
abbrev tLt : TE → TE → TE := tCmp fun i j => decide (i < j)
abbrev tLe : TE → TE → TE := tCmp fun i j => decide (i ≤ j)
abbrev tGt : TE → TE → TE := tCmp fun i j => decide (j < i)
abbrev tGe : TE → TE → TE := tCmp fun i j => decide (j ≤ i)
abbrev tEqI : TE → TE → TE := tCmp fun i j => decide (i = j)
abbrev tNeI : TE → TE → TE := tCmp fun i j => !decide (i = j)
def tIsN (ta : TE) : TE := fun σ H Q => ta σ H fun x H1 => Q (.bl (decide (x = .non))) H1
def tNotN (ta : TE) : TE := fun σ H Q => ta σ H fun x H1 => Q (.bl (!decide (x = .non))) H1
def tB (t : TE) : TT := fun σ H Q => t σ H fun x H1 => ∃ c, x = .bl c ∧ Q c H1
theorem pt_cmp {op : CmpOp} {t : TE} (h : PC X op a b t) (h1 : behindInMarks op b = false := by first | exact nobehind _ (by decide) (by decide) | rfl) : PT X (.Compare a [op] [b] pos) (tB t) := by
  intro pins s σ H Q I hw
  refine wpAny_isTrue_Compare1 (thn (h pins s σ H _ I hw) fun v s1 h1 => thn h1 fun u s2 h2 => thn h2 fun c s3 ⟨x, H1, I1, r1, q1⟩ => ?_) h1
  obtain ⟨d, rfl, q⟩ := q1
  cases r1
  exact wpAny_truthy_bool ⟨H1, I1, q⟩
variable {tA tB' : TT} {rest : List Expr}
def tAnd (t u : TT) : TT := fun σ H Q => t σ H fun c H1 => if c = true then u σ H1 Q else Q false H1
def tOr (t u : TT) : TT := fun σ H Q => t σ H fun c H1 => if c = true then Q true H1 else u σ H1 Q
def tNot (t : TT) : TT := fun σ H Q => t σ H fun c H1 => Q (!c) H1
theorem pw_and1 (ha : PT X a tA) : PW X (.BoolOp .And [a] pos) tA := by
  intro wh pins s σ H Q I h
  refine isTrue_and (thn (ha pins s σ H Q I h) fun c s1 e => ?_)
  cases c with
  | true => exact isTrue_and_nil e
  | false => exact e
theorem pw_or1 (ha : PT X a tA) : PW X (.BoolOp .Or [a] pos) tA := by
  intro wh pins s σ H Q I h
  refine isTrue_or (thn (ha pins s σ H Q I h) fun c s1 e => ?_)
  cases c with
  | false => exact isTrue_or_nil e
  | true => exact e
theorem pw_and (ha : PT X a tA) (hb : PW X (.BoolOp .And (b :: rest) pos) tB') : PW X (.BoolOp .And (a :: b :: rest) pos) (tAnd tA tB') := by
  intro wh pins s σ H Q I h
  refine isTrue_and (thn (ha pins s σ H _ I h) fun c s1 ⟨H1, I1, q1⟩ => ?_)
  cases c with
  | true => exact hb wh pins s1 σ H1 Q I1 q1
  | false => exact ⟨H1, I1, q1⟩
theorem pw_or (ha : PT X a tA) (hb : PW X (.BoolOp .Or (b :: rest) pos) tB') : PW X (.BoolOp .Or (a :: b :: rest) pos) (tOr tA tB') := by
  intro wh pins s σ H Q I h
  refine isTrue_or (thn (ha pins s σ H _ I h) fun c s1 ⟨H1, I1, q1⟩ => ?_)
  cases c with
  | true => exact ⟨H1, I1, q1⟩
  | false => exact hb wh pins s1 σ H1 Q I1 q1
theorem pt_not (ha : PT X a tA) : PT X (.UnaryOp .Not a pos) (tNot tA) := by
  intro pins s σ H Q I h
  exact isTrue_not (ha pins s σ H (fun c H1 => Q (!c) H1) I h)
def tAndV (ta tb : TE) : TE := fun σ H Q => ta σ H fun x H1 => ∃ c, x = .bl c ∧ if c = true then tb σ H1 Q else Q (.bl false) H1
def tOrV (ta tb : TE) : TE := fun σ H Q => ta σ H fun x H1 => ∃ c, x = .bl c ∧ if c = true then Q (.bl true) H1 else tb σ H1 Q
def tNotV (ta : TE) : TE := fun σ H Q => ta σ H fun x H1 => ∃ c, x = .bl c ∧ Q (.bl (!c)) H1
theorem pe_one {op} {t : TE} (h : PE X a t) : PE X (.BoolOp op [a] pos) t := fun pins s σ H Q I hw => BoolOp_one (h pins s σ H Q I hw)
theorem pe_and (ha : PE X a ta) (hb : PE X (.BoolOp .And (b :: rest) pos) tb) : PE X (.BoolOp .And (a :: b :: rest) pos) (tAndV ta tb) := by
  intro pins s σ H Q I h
  refine BoolOp_and (thn (ha pins s σ H _ I h) fun v s1 ⟨x, H1, I1, r1, q1⟩ => ?_)
  obtain ⟨c, rfl, q1⟩ := q1
  cases r1
  refine wpAny_truthy_bool ?_
  cases c with
  | true => exact hb pins s1 σ H1 Q I1 q1
  | false => exact ⟨.bl false, H1, I1, rfl, q1⟩
theorem pe_not (ha : PE X a ta) : PE X (.UnaryOp .Not a pos) (tNotV ta) := by
  intro pins s σ H Q I h
  refine UnaryOp_ (thn (ha pins s σ H _ I h) fun v s1 ⟨x, H1, I1, r1, q1⟩ => ?_)
  obtain ⟨c, rfl, q1⟩ := q1
  cases r1
  exact not_of (wpAny_truthy_bool ⟨.bl (!c), H1, I1, rfl, q1⟩)
def tIf (t : TT) (ta tb : TE) : TE := fun σ H Q => t σ H fun c H1 => if c = true then ta σ H1 Q else tb σ H1 Q
end
end L2
namespace L2
open PySem PySem.Spec PyProof.Rows
def SqL (K : PySem.W.Frag) (H : Hp) (a : Addr) (xs : List V) : Prop :=
  Rd H a (.lst xs) ∨
    ∃ (o : Obj) (its : Array Value) (n : Nat), K.lookup a = some o ∧ o.cls = .type "list" ∧ o.dict = none ∧ o.data = .seq its n ∧ its.size ≤ sizeLine ∧ Vals xs its.toList
def SqT (K : PySem.W.Frag) (H : Hp) (a : Addr) (xs : List V) : Prop :=
  Rd H a (.tup xs) ∨
    ∃ (o : Obj) (its : Array Value) (n : Nat), K.lookup a = some o ∧ o.cls = .type "tuple" ∧ o.data = .seq its n ∧ its.size ≤ sizeLine ∧ Vals xs its.toList
def absV : Value → Option V
  | .none => some .non
  | .bool b => some (.bl b)
  | .int i _ => some (.int i)
  | .str x _ => some (.str x)
  | .bytes b _ => some (.byt b)
  | .float b _ => some (.flt b)
  | .ref a => some (.ref a)
  | .type n => some (.ty n)
  | _ => none
theorem RelV.abs {x : V} {u : Value} (r : RelV x u) : absV u = some x := by
  cases x with
  | non => cases r; rfl
  | bl _ => cases r; rfl
  | int _ => obtain ⟨t, rfl⟩ := r; rfl
  | str _ => obtain ⟨t, rfl⟩ := r; rfl
  | byt _ => obtain ⟨t, rfl⟩ := r; rfl
  | flt _ => obtain ⟨t, rfl⟩ := r; rfl
  | ref _ => cases r; rfl
  | ty _ => cases r; rfl
theorem RelV.inj {x y : V} {u : Value} (r : RelV x u) (q : RelV y u) : x = y := Option.some.inj (r.abs.symm.trans q.abs)
theorem Vals.inj : ∀ {xs ys : List V} {us : List Value}, Vals xs us → Vals ys us → xs = ys
  | _, _, _, .nil, .nil => rfl
  | _, _, _, .cons r t, .cons r' t' => by rw [r.inj r', Vals.inj t t']
section
variable {X : Cx} {pins : List (Addr × Obj)} {σ : St} {H : Hp} {s : Shared} {a : Addr} {xs ys : List V}
theorem SqL.of {K : PySem.W.Frag} (h : H a = some (.lst xs)) : SqL K H a xs := .inl (.inl h)
theorem SqT.of {K : PySem.W.Frag} (h : H a = some (.tup xs)) : SqT K H a xs := .inl (.inl h)
theorem Inv.list (I : Inv X pins σ H s) (h : SqL X.K H a xs) : ∃ its : List Value, Vals xs its ∧ PlainL s.heap a its.toArray ∧ xs.length ≤ sizeLine := by
  rcases h with h | ⟨o, its, n, hk, hc, hd, hs, hz, r⟩
  · obtain ⟨z, its, n, r, e⟩ := h.ok I.hok
    exact ⟨its, r, ⟨_, n, e, rfl, rfl, rfl⟩, z⟩
  · refine ⟨its.toList, r, ⟨o, n, I.kIn a o hk, hc, hd, by simpa using hs⟩, ?_⟩
    have e := r.length
    simp only [Array.length_toList] at e
    omega
theorem Inv.tuple (I : Inv X pins σ H s) (h : SqT X.K H a xs) : ∃ its : List Value, Vals xs its ∧ IsTup s.heap a its.toArray ∧ xs.length ≤ sizeLine := by
  rcases h with h | ⟨o, its, n, hk, hc, hs, hz, r⟩
  · obtain ⟨z, its, r, p⟩ := h.ok I.hok
    exact ⟨its, r, p, z⟩
  · refine ⟨its.toList, r, ⟨o, I.kIn a o hk, hc, n, by simpa using hs⟩, ?_⟩
    have e := r.length
    simp only [Array.length_toList] at e
    omega
theorem Inv.list_inj (I : Inv X pins σ H s) (h : SqL X.K H a xs) (h' : SqL X.K H a ys) : xs = ys := by
  obtain ⟨its, r, ⟨o, n, e, _, _, d⟩, _⟩ := I.list h
  obtain ⟨its', r', ⟨o', n', e', _, _, d'⟩, _⟩ := I.list h'
  rw [e] at e'; cases e'
  rw [d] at d'
  injection d' with d1 _
  have : its = its' := by simpa using congrArg Array.toList d1
  subst this
  exact r.inj r'
end
abbrev Cx.wish (X : Cx) (E : Value → Shared → Prop) : Cx := { X with xe := E }
abbrev Cx.nox (X : Cx) : Cx := X.wish fun _ _ => False
theorem Cx.Ok.wish {X : Cx} (ok : X.Ok) (E : Value → Shared → Prop) : (X.wish E).Ok :=
  ⟨ok.mod, ok.kind, ok.glob, ok.blt, ok.above, ok.inj, ok.has, ok.cab, ok.hd, ok.frames, ok.stk, ok.exf, ok.bs, ok.bsz, ok.noex, ok.exfs, ok.funs, ok.frf⟩
theorem Cx.Ok.unwish {X : Cx} {E : Value → Shared → Prop} (ok : (X.wish E).Ok) : X.Ok :=
  ⟨ok.mod, ok.kind, ok.glob, ok.blt, ok.above, ok.inj, ok.has, ok.cab, ok.hd, ok.frames, ok.stk, ok.exf, ok.bs, ok.bsz, ok.noex, ok.exfs, ok.funs, ok.frf⟩
section
variable {X : Cx} {pins : List (Addr × Obj)} {σ : St} {H : Hp} {s : Shared} {E : Value → Shared → Prop}
theorem Inv.wish (I : Inv X pins σ H s) (E : Value → Shared → Prop) : Inv (X.wish E) pins σ H s := ⟨I.ok.wish E, I.os, I.bare, I.base, I.loc, I.cell, I.free, I.freeC, I.pin, I.hok, I.len⟩
theorem Inv.unwish (I : Inv (X.wish E) pins σ H s) : Inv X pins σ H s := ⟨I.ok.unwish, I.os, I.bare, I.base, I.loc, I.cell, I.free, I.freeC, I.pin, I.hok, I.len⟩
theorem SP.unwish {D : Ends} {f : Flow} {s' : Shared} (h : SP (X.wish E) pins D f s') : SP X pins D f s' := by
  cases f with
  | next => obtain ⟨σ', H', I, q⟩ := h; exact ⟨σ', H', I.unwish, q⟩
  | brk => obtain ⟨σ', H', I, q⟩ := h; exact ⟨σ', H', I.unwish, q⟩
  | cont => obtain ⟨σ', H', I, q⟩ := h; exact ⟨σ', H', I.unwish, q⟩
  | ret u => obtain ⟨v, σ', H', I, r, q⟩ := h; exact ⟨v, σ', H', I.unwish, r, q⟩
theorem PE.nox {e : Expr} {t : TE} (h : PE X.nox e t) : PE X e t := fun pins s σ H Q I hw =>
  wpAny_mono (h pins s σ H Q (I.wish _) hw) (fun _ _ ⟨v, H', I', r, q⟩ => ⟨v, H', I'.unwish, r, q⟩) fun _ _ z => False.elim z
theorem PT.nox {e : Expr} {t : TT} (h : PT X.nox e t) : PT X e t := fun pins s σ H Q I hw =>
  wpAny_mono (h pins s σ H Q (I.wish _) hw) (fun _ _ ⟨H', I', q⟩ => ⟨H', I'.unwish, q⟩) fun _ _ z => False.elim z
theorem PSs.nox {st : List Stmt} {t : TS} (h : PSs X.nox st t) : PSs X st t := fun pins s σ H D I hw =>
  wpAny_mono (h pins s σ H D (I.wish _) hw) (fun _ _ q => q.unwish) fun _ _ z => False.elim z
end
section
variable {X : Cx} {st : Stmt} {rest : List Stmt} {t u : TS} {e : Expr} {te : TE} {pos : Pos}
def tNext : TS := fun D σ H => D.nx σ H
def tSeq (t u : TS) : TS := fun D σ H => t { D with nx := u D } σ H
theorem pss_nil : PSs X [] tNext := fun _ _ σ H _ I h => wpAny_execs_nil ⟨σ, H, I, h⟩
theorem pss_cons (h1 : PS X st t) (h2 : PSs X rest u) : PSs X (st :: rest) (tSeq t u) := by
  intro pins s σ H D I h
  refine wpAny_execs_cons (thn (h1 pins s σ H { D with nx := u D } I h) fun f s1 q => ?_)
  cases f with
  | next =>
    obtain ⟨σ', H', I', q⟩ := q
    exact h2 pins s1 σ' H' D I' q
  | ret v => exact q
  | brk => exact q
  | cont => exact q
theorem pss_one (h1 : PS X st t) : PSs X [st] t := by
  intro pins s σ H D I h
  refine wpAny_execs_cons (thn (h1 pins s σ H D I h) fun f s1 q => ?_)
  cases f with
  | next => exact wpAny_execs_nil q
  | ret v => exact q
  | brk => exact q
  | cont => exact q
def tBreak : TS := fun D σ H => D.bk σ H
def tCont : TS := fun D σ H => D.ct σ H
theorem Inv.quiet {pins : List (Addr × Obj)} {σ : St} {H : Hp} {s : Shared} (I : Inv X pins σ H s) : interactive X.env = false := by simp [interactive, I.ok.kind]
def tDrop (te : TE) : TS := fun D σ H => te σ H fun _ H1 => D.nx σ H1
theorem ps_expr (he : PE X e te) (hs : swapsWith e none pos.line X.env = pure false := by rfl) : PS X (.Expr e pos) (tDrop te) := by
  intro pins s σ H D I h
  exact wpAny_Expr_any (thn (he pins s σ H _ I h) fun v s1 ⟨x, H1, I1, r1, q1⟩ => ⟨σ, H1, I1, q1⟩) I.quiet hs
def tRet (te : TE) : TS := fun D σ H => te σ H D.rt
theorem ps_ret (he : PE X e te) : PS X (.Return (some e) pos) (tRet te) := by
  intro pins s σ H D I h
  exact wpAny_Return_some (thn (he pins s σ H _ I h) fun v s1 ⟨x, H1, I1, r1, q1⟩ => ⟨x, σ, H1, I1, r1, q1⟩)
def tRetN : TS := fun D _ H => D.rt .non H
def tIfS (c : TT) (t u : TS) : TS := fun D σ H => c σ H fun b H1 => if b = true then t D σ H1 else u D σ H1
theorem ps_if {c : Expr} {a b : List Stmt} {tc : TT} (hc : PT X c tc) (ha : PSs X a t) (hb : PSs X b u) : PS X (.If c a b pos) (tIfS tc t u) := by
  intro pins s σ H D I h
  refine wpAny_If (thn (hc pins s σ H _ I h) fun d s1 ⟨H1, I1, q1⟩ => ?_)
  cases d with
  | true => exact ha pins s1 σ H1 D I1 q1
  | false => exact hb pins s1 σ H1 D I1 q1
def tNever : TS := fun _ _ _ => False
end
abbrev TG := V → St → Hp → (St → Hp → Prop) → Prop
abbrev TGs := List V → St → Hp → (St → Hp → Prop) → Prop
def PG (X : Cx) (target : Expr) (t : TG) : Prop :=
  ∀ (pins : List (Addr × Obj)) (s : Shared) (σ : St) (H : Hp) (v : V) (u : Value) (Q : St → Hp → Prop), Inv X pins σ H s → RelV v u → t v σ H Q →
    wpAny (model X.prog X.w) X.A (assign target X.env u) (fun _ s' => ∃ σ' H', Inv X pins σ' H' s' ∧ Q σ' H') X.xe s
def PGs (X : Cx) (ts : List Expr) (t : TGs) : Prop :=
  ∀ (pins : List (Addr × Obj)) (s : Shared) (σ : St) (H : Hp) (vs : List V) (us : List Value) (Q : St → Hp → Prop), Inv X pins σ H s → Vals vs us → t vs σ H Q →
    wpAny (model X.prog X.w) X.A (assignInOrder ((assignEach ts X.env).map (·.2)) us) (fun _ s' => ∃ σ' H', Inv X pins σ' H' s' ∧ Q σ' H') X.xe s
abbrev TSet := V → V → V → Hp → (Hp → Prop) → Prop
def PSet (X : Cx) (t : TSet) : Prop :=
  ∀ (pins : List (Addr × Obj)) (s : Shared) (σ : St) (H : Hp) (o i v : V) (ov iv u : Value) (Q : Hp → Prop), Inv X pins σ H s → RelV o ov → RelV i iv → RelV v u → t o i v H Q →
    wpAny (model X.prog X.w) X.A (setItem ov iv u) (fun _ s' => ∃ H', Inv X pins σ H' s' ∧ Q H') X.xe s
abbrev TIp := V → V → Hp → VK → Prop
def PIp (X : Cx) (op : Operator) (t : TIp) : Prop :=
  ∀ (pins : List (Addr × Obj)) (s : Shared) (σ : St) (H : Hp) (x y : V) (v u : Value) (Q : VK), Inv X pins σ H s → RelV x v → RelV y u → t x y H Q →
    wpAny (model X.prog X.w) X.A (inplaceOp op v u) (EP X pins σ Q) X.xe s
section
variable {X : Cx} {pos : Pos}
def gName (i : Nat) : TG := fun v σ H Q => Q (σ.set i (some v)) H
theorem pg_name {i : Nat} {x : Str} (hN : X.N.Nodup) (hi : X.N[i]? = some x) (hx : Loc X.env.scope x) (hf : X.fn x = true ∨ X.env.scope.names.lookup x = some .local := by first | exact .inl rfl | exact .inr rfl | assumption) : PG X (.Name x pos) (gName i) := by
  intro pins s σ H v u Q I r h
  exact wpAny_assign_Name (store_ok I hN hi hx r (fun s' I' => ⟨_, H, I', h⟩) hf)
def gNil : TGs := fun vs σ H Q => vs = [] ∧ Q σ H
def gCons (t : TG) (u : TGs) : TGs := fun vs σ H Q => ∃ v r, vs = v :: r ∧ t v σ H fun σ' H' => u r σ' H' Q
theorem pgs_nil : PGs X [] gNil := by
  intro pins s σ H vs us Q I r h
  obtain ⟨e, h⟩ := h
  subst e
  cases r
  exact assignInOrder_nil ⟨σ, H, I, h⟩
theorem pgs_cons {e : Expr} {es : List Expr} {t : TG} {u : TGs} (h1 : PG X e t) (h2 : PGs X es u)
    (hs : (assignEach (e :: es) X.env).map (·.2) = assign e X.env :: (assignEach es X.env).map (·.2) := by rfl) : PGs X (e :: es) (gCons t u) := by
  intro pins s σ H vs us Q I r h
  obtain ⟨v, vr, e1, h⟩ := h
  subst e1
  cases r with
  | cons r rr =>
    rw [hs]
    refine assignInOrder_cons (thn (h1 pins s σ H _ _ _ I r h) fun _ s1 ⟨σ1, H1, I1, q1⟩ => ?_)
    exact h2 pins s1 σ1 H1 _ _ Q I1 rr q1
def gTup (K : PySem.W.Frag) (n : Nat) (t : TGs) : TG := fun v σ H Q => ∃ a xs, v = .ref a ∧ SqT K H a xs ∧ xs.length = n ∧ t xs σ H Q
theorem pg_tup {es : List Expr} {k : Nat} {t : TGs} {n : Nat} (hc : X.calm = true) (h : PGs X es t)
    (hn : (assignEach es X.env).length = n := by rfl) (hst : (assignEach es X.env).findIdx? (·.1) = none := by rfl) : PG X (.Tuple es k pos) (gTup X.K n t) := by
  intro pins s σ H v u Q I r hw
  obtain ⟨a, xs, e1, hq, hl, hw⟩ := hw
  subst e1
  cases r
  obtain ⟨its, rv, ht, hz⟩ := I.tuple hq
  refine assign_Tuple_tuple (I.ok.hd hc) ht (by simp [hn, ← hl, rv.length]) hst fun h' hx => ?_
  have I1 : Inv X pins σ H { s with heap := h' } := I.kept (t' := s.toks) fun b o e => hx b o (Nat.ne_of_lt (Heap.lt_size e)) e
  exact h pins _ σ H xs _ Q I1 (by simpa using rv) hw
def gSub (to ti : TE) (t : TSet) : TG := fun v σ H Q => to σ H fun o H1 => ti σ H1 fun i H2 => t o i v H2 fun H3 => Q σ H3
def tAsg (te : TE) (g : TG) : TS := fun D σ H => te σ H fun x H1 => g x σ H1 D.nx
theorem ps_asg {tg e : Expr} {te : TE} {g : TG} (he : PE X e te) (hg : PG X tg g) (hs : swapsWithSole [tg] e pos.line X.env = pure false := by rfl) (hw : swappedStores [tg] e X.env = pure none := by rfl)
    (h1 : (assignEach [tg] X.env).map (·.2) = [assign tg X.env] := by rfl) : PS X (.Assign [tg] e pos) (tAsg te g) := by
  intro pins s σ H D I h
  refine wpAny_Assign_stores (thn (he pins s σ H _ I h) fun v s1 ⟨x, H1, I1, r1, q1⟩ => ?_) hs hw
  rw [h1]
  exact thn (hg pins s1 σ H1 x v _ I1 r1 q1) fun _ s2 q => q
theorem ps_set {i : Nat} {x : Str} {e : Expr} {te : TE} {pos' : Pos} (hN : X.N.Nodup) (hi : X.N[i]? = some x) (hx : Loc X.env.scope x) (he : PE X e te) (hs : swapsWith e (some (.Name x pos')) pos.line X.env = pure false := by rfl) (hf : X.fn x = true ∨ X.env.scope.names.lookup x = some .local := by first | exact .inl rfl | exact .inr rfl | assumption) :
    PS X (.Assign [.Name x pos'] e pos) (tAsg te (gName i)) := by
  intro pins s σ H D I h
  refine wpAny_Assign_Name (thn (he pins s σ H _ I h) fun v s1 ⟨y, H1, I1, r1, q1⟩ => ?_) hs
  exact store_ok I1 hN hi hx r1 (fun s2 I2 => ⟨_, H1, I2, q1⟩) hf
def tPar (i j : Nat) (ta : TA) : TS := fun D σ H => ta σ H fun vs H1 => ∃ v w, vs = [v, w] ∧ D.nx ((σ.set i (some v)).set j (some w)) H1
def tAug (i : Nat) (te : TE) (ti : TIp) : TS := fun D σ H => ∃ x, σ[i]? = some (some x) ∧ te σ H fun y H1 => ti x y H1 fun z H2 => D.nx (σ.set i (some z)) H2
def tAugS (to ti te : TE) (tget : V → V → Hp → VK → Prop) (tip : TIp) (tset : TSet) : TS := fun D σ H => to σ H fun o H1 => ti σ H1 fun i H2 => tget o i H2 fun x H3 => te σ H3 fun y H4 => tip x y H4 fun z H5 => tset o i z H5 fun H6 => D.nx σ H6
def PGet (X : Cx) (t : V → V → Hp → VK → Prop) : Prop :=
  ∀ (pins : List (Addr × Obj)) (s : Shared) (σ : St) (H : Hp) (o i : V) (ov iv : Value) (Q : VK), Inv X pins σ H s → RelV o ov → RelV i iv → t o i H Q →
    wpAny (model X.prog X.w) X.A (getItem ov iv) (EP X pins σ Q) X.xe s
def ipI (f : Int → Int → Int) : TIp := fun x y H Q => ∃ i j, x = .int i ∧ y = .int j ∧ Q (.int (f i j)) H
end
section
variable {X : Cx} {pos : Pos}
def tWhile (c : TT) (tb : TS) : TS := fun D σ H => ∃ W : Nat → St → Hp → Prop, (∃ m, W m σ H) ∧ ∀ m σ H, W m σ H →
  c σ H fun b H1 => if b = true then ∃ N : St → Hp → Prop, (∀ σ' H', N σ' H' → ∃ m', m' < m ∧ W m' σ' H') ∧ tb { D with nx := N, ct := N, bk := D.nx } σ H1 else D.nx σ H1
theorem ps_while {c : Expr} {body : List Stmt} {tc : TT} {tb : TS} (hp : PassesOwn (model X.prog X.w) X.A X.env X.xe) (hc : PT X c tc) (hb : PSs X body tb) : PS X (.While c body [] pos) (tWhile tc tb) := by
  intro pins s σ H D I h
  obtain ⟨W, ⟨m0, w0⟩, turn⟩ := h
  refine wpAny_While (codeAny_whileLoop (fun n s' => ∃ σ' H', Inv X pins σ' H' s' ∧ W n σ' H') ?_ m0 ⟨σ, H, I, w0⟩)
  rintro n s1 ⟨σ1, H1, I1, w1⟩
  refine wpAny_passesOwn hp (thn (hc pins s1 σ1 H1 _ I1 (turn n σ1 H1 w1)) fun b s2 ⟨H2, I2, q2⟩ => ?_)
  cases b with
  | true =>
    obtain ⟨N, hN, q2⟩ := q2
    rw [if_pos rfl]
    refine wpAny_passesOwn hp (thn (hb pins s2 σ1 H2 _ I2 q2) fun f s3 q3 => ?_)
    cases f with
    | next =>
      obtain ⟨σ3, H3, I3, n3⟩ := q3
      obtain ⟨m', hm, w3⟩ := hN σ3 H3 n3
      exact ⟨m', hm, σ3, H3, I3, w3⟩
    | cont =>
      obtain ⟨σ3, H3, I3, n3⟩ := q3
      obtain ⟨m', hm, w3⟩ := hN σ3 H3 n3
      exact ⟨m', hm, σ3, H3, I3, w3⟩
    | brk => exact q3
    | ret v => exact q3
  | false =>
    rw [if_neg Bool.false_ne_true]
    exact wpAny_execs_nil ⟨σ1, H2, I2, q2⟩
end
structure It where
  go : Nat → Hp → Prop
  yld : Nat → Hp → V → Hp → Prop
  stop : Nat → Hp → Prop
def FpOk (X : Cx) (pins : List (Addr × Obj)) (H : Hp) (b : Addr) : Prop :=
  H b = none ∧ b ≠ X.env.locals ∧ b ∉ X.fs ∧ (b ∈ X.ex ∨ X.s₀.heap.objs.size ≤ b) ∧ (∀ x c, X.env.cells.lookup x = some c → c ≠ b) ∧ ∀ p ∈ X.pn ++ pins, p.1 ≠ b
theorem Inv.fpOk {X : Cx} {pins : List (Addr × Obj)} {σ : St} {H H' : Hp} {s : Shared} {b : Addr} (I : Inv X pins σ H s) (hb : s.heap.objs.size ≤ b) (hn : H' b = none) : FpOk X pins H' b := by
  refine ⟨hn, Nat.ne_of_gt (Nat.lt_of_lt_of_le I.lt hb), I.nofs hb, .inr (Nat.le_trans I.sz hb), fun x c e z => ?_, fun p hp z => ?_⟩
  · obtain ⟨v, q⟩ := I.cell x c e
    exact absurd (Nat.lt_of_lt_of_le q.lt (by rw [z]; exact hb)) (Nat.lt_irrefl _)
  · exact absurd (Nat.lt_of_lt_of_le (Heap.lt_size (I.pin p hp).1) (by rw [z]; exact hb)) (Nat.lt_irrefl _)
structure Turn (P : Program) (w : World) (K : PySem.W.Frag) (tg : Expr) (J : It) (fp : List Addr) (it : Addr) (tn : Nat → Heap → Prop) : Prop where
  mem : it ∈ fp
  obj : ∀ i h, tn i h → ∀ b ∈ fp, ∃ o, h.get? b = some o ∧ ∀ v, o.data ≠ .cell v
  keep : ∀ i h h', tn i h → (∀ b ∈ fp, ∀ o, h.get? b = some o → h'.get? b = some o) → tn i h'
  item : ∀ (X : Cx), X.prog = P → X.w = w → X.K = K → X.calm = true → ∀ (i : Nat) (pins : List (Addr × Obj)) (s : Shared) (σ : St) (H : Hp) (E : Value → Shared → Prop), Inv X pins σ H s → (∀ b ∈ fp, FpOk X pins H b) → tn i s.heap → J.go i H →
    wpAny (model P w) X.A (pyNext (.ref it)) (fun r s1 => ∃ u, r = some u ∧
      wpAny (model P w) X.A (letOwnedTupleGo tg (.ref it) u) (fun _ s2 => ∃ x H', Inv X pins σ H' s2 ∧ RelV x u ∧ J.yld i H x H' ∧ tn (i + 1) s2.heap ∧ ∀ b ∈ fp, H' b = none) E s1) E s
  done : ∀ (X : Cx), X.prog = P → X.w = w → X.K = K → X.calm = true → ∀ (i : Nat) (pins : List (Addr × Obj)) (s : Shared) (σ : St) (H : Hp) (E : Value → Shared → Prop), Inv X pins σ H s → (∀ b ∈ fp, FpOk X pins H b) → tn i s.heap → J.stop i H →
    wpAny (model P w) X.A (pyNext (.ref it)) (fun r s1 => r = none ∧ Inv X pins σ H s1) E s
  self : ∀ (A : Around) (i : Nat) (s : Shared) (Q : Value → Shared → Prop) (E : Value → Shared → Prop), tn i s.heap → Q (.ref it) s → wpAny (model P w) A (pyIter (.ref it)) Q E s
abbrev TI := St → Hp → (It → Hp → Prop) → Prop
def PIE (X : Cx) (pins : List (Addr × Obj)) (σ : St) (tg : Expr) (R : It → Hp → Prop) (itv : Value) (s2 : Shared) : Prop :=
  ∃ (it : Addr) (fp : List Addr) (tn : Nat → Heap → Prop) (J : It) (H' : Hp), itv = .ref it ∧ Inv X pins σ H' s2 ∧ Turn X.prog X.w X.K tg J fp it tn ∧ tn 0 s2.heap ∧ (∀ b ∈ fp, FpOk X pins H' b) ∧ R J H'
def PI (X : Cx) (tg iter : Expr) (wi : TI) : Prop :=
  ∀ (pins : List (Addr × Obj)) (s : Shared) (σ : St) (H : Hp) (R : It → Hp → Prop), Inv X pins σ H s → wi σ H R →
    wpAny (model X.prog X.w) X.A (eval iter X.env) (fun v s1 => wpAny (model X.prog X.w) X.A (pyIter v) (PIE X pins σ tg R) X.xe s1) X.xe s
theorem go_of {M : Model} {A : Around} {E : Value → Shared → Prop} {s : Shared} {tg : Expr} {it : Addr} {u : Value} {o : Obj} {n : String} {vs : Array Value} {Q : Unit → Shared → Prop} (ho : s.heap.get? it = some o) (hc : o.cls = .type n) (hd : o.data = .fields vs)
    (hn : ["enumerate", "zip", "dict_itemiterator", "dict_reverseitemiterator", "odict_iterator", "itertools.zip_longest", "itertools.pairwise"].contains n = false) (hQ : Q () s) : wpAny M A (letOwnedTupleGo tg (.ref it) u) Q E s := by
  unfold letOwnedTupleGo
  cases tg <;> first
    | exact wpAny_pure hQ
    | (cases u <;> first
        | exact wpAny_pure hQ
        | (refine wpAny_bind (wpAny_load ho ?_)
           rw [hc, hd]
           show wpAny M A (if (["enumerate", "zip", "dict_itemiterator", "dict_reverseitemiterator", "odict_iterator", "itertools.zip_longest", "itertools.pairwise"].contains n && vs[0]? == some (rawInt _)) = true then _ else _) Q E s
           rw [if_neg (by intro h; rw [hn, Bool.false_and] at h; cases h)]
           exact wpAny_pure hQ))
def Itl (K : PySem.W.Frag) (a : Addr) : It :=
  ⟨fun i H => ∃ xs x, SqL K H a xs ∧ xs[i]? = some x, fun i H x H' => H' = H ∧ ∀ xs, SqL K H a xs → xs[i]? = some x, fun i H => ∃ xs, SqL K H a xs ∧ xs.length ≤ i⟩
def Itt (K : PySem.W.Frag) (a : Addr) : It :=
  ⟨fun i H => ∃ xs x, SqT K H a xs ∧ xs[i]? = some x, fun i H x H' => H' = H ∧ ∀ xs, SqT K H a xs → xs[i]? = some x, fun i H => ∃ xs, SqT K H a xs ∧ xs.length ≤ i⟩
def Itr (lo : Int) (n : Nat) : It := ⟨fun i _ => i < n, fun i H x H' => H' = H ∧ x = .int (lo + i), fun i _ => n ≤ i⟩
theorem turn_list {P : Program} {w : World} {K : PySem.W.Frag} {tg : Expr} (a it : Addr) : Turn P w K tg (Itl K a) [it] it (fun i h => h.IsListIter it a i) where
  mem := by simp
  obj := fun i h st b hb => by
    have e : b = it := by simpa using hb
    subst e
    obtain ⟨o, e, c, d⟩ := st
    exact ⟨o, e, fun v z => by rw [d] at z; cases z⟩
  keep := fun i h h' st k => st.at fun o e => k it (by simp) o e
  item := by
    intro X hP hw hK hc i pins s σ H E I hf st hg
    subst hP hw hK
    obtain ⟨xs, x, hq, hx⟩ := hg
    obtain ⟨its, rv, p, hz⟩ := I.list hq
    obtain ⟨u, hu, ru⟩ := rv.get hx
    obtain ⟨f0, f1, f2, f3, f4, f5⟩ := hf it (by simp)
    refine wpAny_pyNext_list_item st p.isList (x := u) (by simpa using hu) fun h' st' sb => ?_
    have I1 : Inv X pins σ H { s with heap := h' } := I.turned (t' := s.toks) (fun b o hb e => (sb.2 b hb).trans e) f0 f1 f3 f4 f5
    obtain ⟨o, e, c, d⟩ := id st'
    exact ⟨u, rfl, go_of (s := { s with heap := h' }) e c d (by decide) ⟨x, H, I1, ru, ⟨rfl, fun ys hy => by rw [I.list_inj hy hq]; exact hx⟩, st', fun b hb => (hf b hb).1⟩⟩
  done := by
    intro X hP hw hK hc i pins s σ H E I hf st hg
    subst hP hw hK
    obtain ⟨xs, hq, hx⟩ := hg
    obtain ⟨its, rv, p, hz⟩ := I.list hq
    obtain ⟨f0, f1, f2, f3, f4, f5⟩ := hf it (by simp)
    have hl := rv.length
    exact wpAny_pyNext_list_end (I.ok.hd hc) st p.isList (by simp; omega) fun h' eb => ⟨rfl, I.turned (t' := s.toks) (fun b o hb e => eb b o hb e) f0 f1 f3 f4 f5⟩
  self := fun _ _ _ _ _ st h => wpAny_pyIter_listiter st h
theorem turn_range {P : Program} {w : World} {K : PySem.W.Frag} {tg : Expr} (it : Addr) (lo : Int) (n : Nat) : Turn P w K tg (Itr lo n) [it] it (fun i h => IsRangeIter h it (lo + (i : Nat) * 1) ((n : Int) - (i : Nat)) 1) where
  mem := by simp
  obj := fun i h st b hb => by
    have e : b = it := by simpa using hb
    subst e
    exact ⟨_, st, fun v z => by
      have z' : Data.fields _ = Data.cell v := z
      cases z'⟩
  keep := fun i h h' st k => k it (by simp) _ st
  item := by
    intro X hP hw hK hc i pins s σ H E I hf st hg
    subst hP hw hK
    obtain ⟨f0, f1, f2, f3, f4, f5⟩ := hf it (by simp)
    have W := Walks.range (prog := X.prog) (w := X.w) (I.ok.hd hc) it lo 1 n
    refine W.item i s _ _ hg st fun v h' tk hv st' kk => ?_
    obtain ⟨t, rfl⟩ := hv
    have I1 : Inv X pins σ H { s with heap := h', toks := tk } := I.turned (fun b o hb e => kk b o (by simpa using hb) e) f0 f1 f3 f4 f5
    refine ⟨_, rfl, go_of (s := { s with heap := h', toks := tk }) (n := "range_iterator") st' rfl rfl (by decide) ⟨.int (lo + i), H, I1, ⟨t, ?_⟩, ⟨rfl, rfl⟩, st', fun b hb => (hf b hb).1⟩⟩
    rw [Int.mul_one]
  done := by
    intro X hP hw hK hc i pins s σ H E I hf st hg
    subst hP hw hK
    obtain ⟨f0, f1, f2, f3, f4, f5⟩ := hf it (by simp)
    exact wpAny_pyNext_range_end (I.ok.hd hc) st (by have : n ≤ i := hg; omega) fun h' eb => ⟨rfl, I.turned (t' := s.toks) (fun b o hb e => eb b o hb e) f0 f1 f3 f4 f5⟩
  self := fun _ _ _ _ _ st h => wpAny_pyIter_rangeiter st h
end L2
namespace L2
open PySem PySem.Spec PyProof.Rows
section
variable {X : Cx} {tg : Expr}
def iList (K : PySem.W.Frag) (tl : TE) : TI := fun σ H R => tl σ H fun x H1 => ∃ a, x = .ref a ∧ (∃ xs, SqL K H1 a xs) ∧ R (Itl K a) H1
def iTup (K : PySem.W.Frag) (tl : TE) : TI := fun σ H R => tl σ H fun x H1 => ∃ a, x = .ref a ∧ (∃ xs, SqT K H1 a xs) ∧ R (Itt K a) H1
theorem pi_list {l : Expr} {tl : TE} (hl : PE X l tl) : PI X tg l (iList X.K tl) := by
  intro pins s σ H R I h
  refine thn (hl pins s σ H _ I h) fun v s1 ⟨x, H1, I1, r1, q1⟩ => ?_
  obtain ⟨a, e, ⟨xs, hq⟩, q⟩ := q1
  subst e
  cases r1
  obtain ⟨its, rv, p, hz⟩ := I1.list hq
  refine wpAny_pyIter_list p.isList ?_
  refine ⟨s1.heap.objs.size, [s1.heap.objs.size], _, _, H1, rfl, I1.kept (t' := s1.toks) fun b o e => Heap.get?_push_of_some _ e, turn_list a _, ⟨_, Heap.get?_push_size _ rfl, rfl, rfl⟩, fun b hb => ?_, q⟩
  have e : b = s1.heap.objs.size := by simpa using hb
  subst e
  exact I1.fpOk (Nat.le_refl _) (I1.hok.fresh (Nat.le_refl _))
theorem range_it {pins : List (Addr × Obj)} {σ : St} {H : Hp} {s : Shared} {R : It → Hp → Prop} {E : Value → Shared → Prop} {lo hi : Int} {t u v : Tok} {tk : Nat} (I : Inv X pins σ H s) (h1 : -(2 ^ 62) ≤ lo) (h2 : lo < 2 ^ 62) (h3 : -(2 ^ 62) ≤ hi) (h4 : hi < 2 ^ 62)
    (q : R (Itr lo (hi - lo).toNat) H) : wpAny (model X.prog X.w) X.A (pyIter (.ref s.heap.objs.size)) (PIE X pins σ tg R) E { s with heap := s.heap.push { cls := .type "range", data := .fields #[.int lo t, .int hi u, .int 1 v] }, toks := tk } := by
  refine wpAny_pyIter_range (IsRange.new ..) (small_one h1 h2 h3 h4) ?_
  have I1 : Inv X pins σ H { s with heap := s.heap.push { cls := .type "range", data := .fields #[.int lo t, .int hi u, .int 1 v] }, toks := tk } := I.kept fun b o e => Heap.get?_push_of_some _ e
  refine ⟨(s.heap.push { cls := .type "range", data := .fields #[.int lo t, .int hi u, .int 1 v] }).objs.size, [(s.heap.push { cls := .type "range", data := .fields #[.int lo t, .int hi u, .int 1 v] }).objs.size], _, _, H, rfl,
    I1.kept (t' := tk) fun b o e => Heap.get?_push_of_some _ e, turn_range _ lo (hi - lo).toNat, ?_, fun b hb => ?_, q⟩
  · have e1 : lo + ((0 : Nat) : Int) * 1 = lo := by simp
    have e2 : (((hi - lo).toNat : Nat) : Int) - ((0 : Nat) : Int) = Builtin.Range.rangeSize lo hi 1 := by rw [rangeSize_one]; split <;> omega
    show IsRangeIter _ _ (lo + ((0 : Nat) : Int) * 1) ((((hi - lo).toNat : Nat) : Int) - ((0 : Nat) : Int)) 1
    rw [e1, e2]
    exact Heap.get?_push_size _ rfl
  · have e : b = (s.heap.push { cls := .type "range", data := .fields #[.int lo t, .int hi u, .int 1 v] }).objs.size := by simpa using hb
    subst e
    exact I1.fpOk (Nat.le_refl _) (I1.hok.fresh (Nat.le_refl _))
def iRng1 (ta : TA) : TI := fun σ H R => ta σ H fun vs H1 => ∃ j : Int, vs = [.int j] ∧ -(2 ^ 62) ≤ j ∧ j < 2 ^ 62 ∧ R (Itr 0 j.toNat) H1
def iRng2 (ta : TA) : TI := fun σ H R => ta σ H fun vs H1 => ∃ i j : Int, vs = [.int i, .int j] ∧ (-(2 ^ 62) ≤ i ∧ i < 2 ^ 62 ∧ -(2 ^ 62) ≤ j ∧ j < 2 ^ 62) ∧ R (Itr i (j - i).toNat) H1
theorem pi_range1 {a : Expr} {ta : TA} {p pos : Pos} (hg : Gl X "range") (hm : X.mg "range" = none) (ha : PA X [a] ta) (hs : starEach [a] X.env = [(false, eval a X.env)] := by rfl) : PI X tg (.Call (.Name "range" p) [a] [] pos) (iRng1 ta) := by
  intro pins s σ H R I h
  refine Call_ (ld_blt I hg hm boot_range (PyProof.Rows.callWith_type1 (thn (ha pos pins s σ H _ I h) fun us s1 ⟨vs, H1, I1, r1, q1⟩ => ?_) hs rfl))
  obtain ⟨j, e, q1, q2, q⟩ := q1
  subst e
  cases r1 with
  | cons r rr =>
    cases rr
    obtain ⟨t, rfl⟩ := r
    exact call_range_1 (range_it I1 (by omega) (by omega) q1 q2 (by simpa using q))
theorem pi_range2 {a b : Expr} {ta : TA} {p pos : Pos} (hg : Gl X "range") (hm : X.mg "range" = none) (ha : PA X [a, b] ta) (hs : starEach [a, b] X.env = [(false, eval a X.env), (false, eval b X.env)] := by rfl) (hs2 : starEach [b] X.env = [(false, eval b X.env)] := by rfl) :
    PI X tg (.Call (.Name "range" p) [a, b] [] pos) (iRng2 ta) := by
  intro pins s σ H R I h
  refine Call_ (ld_blt I hg hm boot_range (PyProof.Rows.callWith_type1 (thn (ha pos pins s σ H _ I h) fun us s1 ⟨vs, H1, I1, r1, q1⟩ => ?_) (by rw [hs, hs2]) (by rw [hs2]; rfl)))
  obtain ⟨i, j, e, ⟨q1, q2, q3, q4⟩, q⟩ := q1
  subst e
  cases r1 with
  | cons r rr =>
    cases rr with
    | cons r' rr =>
      cases rr
      obtain ⟨t, rfl⟩ := r
      obtain ⟨t', rfl⟩ := r'
      exact call_range_2 (range_it I1 q1 q2 q3 q4 q)
def tFor (wi : TI) (g : TG) (tb : TS) : TS := fun D σ H => wi σ H fun J H1 => ∃ W : Nat → Nat → St → Hp → Prop, (∃ m, W 0 m σ H1) ∧ ∀ i m σ H, W i m σ H →
  (J.stop i H ∧ D.nx σ H) ∨ (J.go i H ∧ ∃ N : St → Hp → Prop, (∀ σ' H', N σ' H' → ∃ m', m' < m ∧ W (i + 1) m' σ' H') ∧ ∀ x H', J.yld i H x H' → g x σ H' fun σ2 H2 => tb { D with nx := N, ct := N, bk := D.nx } σ2 H2)
def pinsAt (fp : List Addr) (h : Heap) : List (Addr × Obj) := fp.filterMap fun b => (h.get? b).map fun o => (b, o)
theorem mem_pinsAt {fp : List Addr} {h : Heap} {b : Addr} {o : Obj} (hb : b ∈ fp) (e : h.get? b = some o) : (b, o) ∈ pinsAt fp h := List.mem_filterMap.mpr ⟨b, hb, by rw [e]; rfl⟩
theorem of_pinsAt {fp : List Addr} {h : Heap} {p : Addr × Obj} (hp : p ∈ pinsAt fp h) : p.1 ∈ fp ∧ h.get? p.1 = some p.2 := by
  obtain ⟨b, hb, e⟩ := List.mem_filterMap.mp hp
  cases q : h.get? b with
  | none => rw [q] at e; cases e
  | some o =>
    rw [q] at e
    have e' : (b, o) = p := Option.some.inj e
    subst e'
    exact ⟨hb, q⟩
theorem Inv.pinned {pins : List (Addr × Obj)} {σ : St} {H : Hp} {s : Shared} {fp : List Addr} (I : Inv X pins σ H s) (hf : ∀ b ∈ fp, FpOk X pins H b) (ho : ∀ b ∈ fp, ∃ o, s.heap.get? b = some o ∧ ∀ v, o.data ≠ .cell v) : Inv X (pins ++ pinsAt fp s.heap) σ H s :=
  I.pins_of fun p hp => (List.mem_append.mp hp).elim (fun z => I.pin p (List.mem_append_right _ z)) fun z => by
    obtain ⟨hb, e⟩ := of_pinsAt z
    obtain ⟨f0, f1, f2, _⟩ := hf p.1 hb
    obtain ⟨o, e', d⟩ := ho p.1 hb
    rw [e] at e'; cases e'
    exact ⟨e, f0, f1, f2, d⟩
theorem Inv.unpinned {pins pl : List (Addr × Obj)} {σ : St} {H : Hp} {s : Shared} (I : Inv X (pins ++ pl) σ H s) : Inv X pins σ H s := I.pins_of fun p hp => I.pin p (List.mem_append_right _ (List.mem_append_left _ hp))
theorem ps_for {iter : Expr} {body : List Stmt} {wi : TI} {g : TG} {tb : TS} {pos : Pos} (hp : PassesOwn (model X.prog X.w) X.A X.env X.xe) (hc : X.calm = true) (hi : PI X tg iter wi) (hg : PG X tg g) (hb : PSs X body tb)
    (hs : ∀ x, foldedSetIterable iter X.env x = pure x := by intro _; rfl) : PS X (.For tg iter body [] pos) (tFor wi g tb) := by
  intro pins s σ H D I h
  refine wpAny_For (thn (hi pins s σ H _ I h) fun v s1 h1 => thn h1 fun itv s2 h2 => ?_) hs
  obtain ⟨it, fp, tn, J, H2, e, I2, T, st2, f2, W, ⟨m0, w0⟩, turn⟩ := h2
  subst e
  -- what stays true of the iterator's objects through the loop
  have stat : ∀ {H' : Hp}, (∀ b ∈ fp, H' b = none) → ∀ b ∈ fp, FpOk X pins H' b := fun hn b hb => ⟨hn b hb, (f2 b hb).2⟩
  refine codeAny_forLoop_any (fun n s' => ∃ i σ' H', Inv X pins σ' H' s' ∧ tn i s'.heap ∧ (∀ b ∈ fp, H' b = none) ∧ W i n σ' H') ?_ m0 ⟨0, σ, H2, I2, st2, fun b hb => (f2 b hb).1, w0⟩
  rintro n s3 ⟨i, σ3, H3, I3, st3, fr3, w3⟩
  rcases turn i n σ3 H3 w3 with ⟨stop, qn⟩ | ⟨go, N, hN, step⟩
  · refine wpAny_passesOwn hp (thn (T.done X rfl rfl rfl hc i pins s3 σ3 H3 X.xe I3 (stat fr3) st3 stop) fun r s4 ⟨hr, I4⟩ => ?_)
    subst hr
    exact wpAny_execs_nil ⟨σ3, H3, I4, qn⟩
  · refine wpAny_passesOwn hp (thn (T.item X rfl rfl rfl hc i pins s3 σ3 H3 X.xe I3 (stat fr3) st3 go) fun r s4 ⟨u, hr, h4⟩ => ?_)
    subst hr
    refine wpAny_passesOwn hp (thn h4 fun _ s5 ⟨x, H5, I5, r5, y5, st5, fr5⟩ => ?_)
    have I5' := I5.pinned (stat fr5) (T.obj _ _ st5)
    refine wpAny_passesOwn hp (thn (hg _ s5 σ3 H5 x u _ I5' r5 (step x H5 y5)) fun _ s6 ⟨σ6, H6, I6, q6⟩ => ?_)
    refine wpAny_passesOwn hp (thn (hb _ s6 σ6 H6 _ I6 q6) fun f s7 q7 => ?_)
    have again : ∀ {σ7 : St} {H7 : Hp}, Inv X (pins ++ pinsAt fp s5.heap) σ7 H7 s7 → N σ7 H7 → ∃ m, m < n ∧ ∃ i σ' H', Inv X pins σ' H' s7 ∧ tn i s7.heap ∧ (∀ b ∈ fp, H' b = none) ∧ W i m σ' H' := fun {σ7 H7} I7 n7 => by
      obtain ⟨m', hm, w7⟩ := hN σ7 H7 n7
      refine ⟨m', hm, i + 1, σ7, H7, I7.unpinned, T.keep _ _ _ st5 fun b hb o e => (I7.pin (b, o) (List.mem_append_right _ (List.mem_append_right _ (mem_pinsAt hb e)))).1, fun b hb => ?_, w7⟩
      obtain ⟨o, e, d⟩ := T.obj _ _ st5 b hb
      exact (I7.pin (b, o) (List.mem_append_right _ (List.mem_append_right _ (mem_pinsAt hb e)))).2.1
    cases f with
    | next => obtain ⟨σ7, H7, I7, n7⟩ := q7; exact again I7 n7
    | cont => obtain ⟨σ7, H7, I7, n7⟩ := q7; exact again I7 n7
    | brk => obtain ⟨σ7, H7, I7, q7⟩ := q7; exact ⟨σ7, H7, I7.unpinned, q7⟩
    | ret v => obtain ⟨x7, σ7, H7, I7, r7, q7⟩ := q7; exact ⟨x7, σ7, H7, I7.unpinned, r7, q7⟩
end
theorem for_list {K : PySem.W.Frag} {a : Addr} {xs : List V} {g : TG} {tb : TS} {D : Ends} {σ : St} {H : Hp} (Pv : Nat → St → Hp → Prop) (h0 : Pv 0 σ H) (hl : ∀ i σ H, i ≤ xs.length → Pv i σ H → SqL K H a xs)
    (hs : ∀ i x σ H, xs[i]? = some x → Pv i σ H → g x σ H fun σ2 H2 => tb { D with nx := Pv (i + 1), ct := Pv (i + 1), bk := D.nx } σ2 H2) (hd : ∀ σ H, Pv xs.length σ H → D.nx σ H) :
    ∃ W : Nat → Nat → St → Hp → Prop, (∃ m, W 0 m σ H) ∧ ∀ i m σ H, W i m σ H →
      ((Itl K a).stop i H ∧ D.nx σ H) ∨ ((Itl K a).go i H ∧ ∃ N : St → Hp → Prop, (∀ σ' H', N σ' H' → ∃ m', m' < m ∧ W (i + 1) m' σ' H') ∧ ∀ x H', (Itl K a).yld i H x H' → g x σ H' fun σ2 H2 => tb { D with nx := N, ct := N, bk := D.nx } σ2 H2) := by
  refine ⟨fun i m σ H => m = xs.length - i ∧ i ≤ xs.length ∧ Pv i σ H, ⟨xs.length, by simp, Nat.zero_le _, h0⟩, ?_⟩
  rintro i m σ H ⟨rfl, hi, p⟩
  have q := hl i σ H hi p
  by_cases hlt : i < xs.length
  · refine .inr ⟨⟨xs, xs[i], q, by simp [hlt]⟩, Pv (i + 1), fun σ' H' p' => ⟨xs.length - (i + 1), by omega, rfl, hlt, p'⟩, fun x H' y => ?_⟩
    obtain ⟨e, y⟩ := y
    subst e
    exact hs i x σ _ (y xs q) p
  · have e : i = xs.length := by omega
    subst e
    exact .inl ⟨⟨xs, q, Nat.le_refl _⟩, hd σ H p⟩
theorem for_range {lo : Int} {n : Nat} {g : TG} {tb : TS} {D : Ends} {σ : St} {H : Hp} (Pv : Nat → St → Hp → Prop) (h0 : Pv 0 σ H)
    (hs : ∀ i σ H, i < n → Pv i σ H → g (.int (lo + i)) σ H fun σ2 H2 => tb { D with nx := Pv (i + 1), ct := Pv (i + 1), bk := D.nx } σ2 H2) (hd : ∀ σ H, Pv n σ H → D.nx σ H) :
    ∃ W : Nat → Nat → St → Hp → Prop, (∃ m, W 0 m σ H) ∧ ∀ i m σ H, W i m σ H →
      ((Itr lo n).stop i H ∧ D.nx σ H) ∨ ((Itr lo n).go i H ∧ ∃ N : St → Hp → Prop, (∀ σ' H', N σ' H' → ∃ m', m' < m ∧ W (i + 1) m' σ' H') ∧ ∀ x H', (Itr lo n).yld i H x H' → g x σ H' fun σ2 H2 => tb { D with nx := N, ct := N, bk := D.nx } σ2 H2) := by
  refine ⟨fun i m σ H => m = n - i ∧ i ≤ n ∧ Pv i σ H, ⟨n, by simp, Nat.zero_le _, h0⟩, ?_⟩
  rintro i m σ H ⟨rfl, hi, p⟩
  by_cases hlt : i < n
  · refine .inr ⟨hlt, Pv (i + 1), fun σ' H' p' => ⟨n - (i + 1), by omega, rfl, hlt, p'⟩, fun x H' y => ?_⟩
    obtain ⟨e, y⟩ := y
    subst e y
    exact hs i σ _ hlt p
  · have e : i = n := by omega
    subst e
    exact .inl ⟨Nat.le_refl _, hd σ H p⟩
theorem while_by {c : TT} {tb : TS} {D : Ends} {σ : St} {H : Hp} (Pv : St → Hp → Prop) (μ : St → Hp → Nat) (h0 : Pv σ H)
    (hs : ∀ σ H, Pv σ H → c σ H fun b H1 => if b = true then tb { D with nx := fun σ' H' => Pv σ' H' ∧ μ σ' H' < μ σ H, ct := fun σ' H' => Pv σ' H' ∧ μ σ' H' < μ σ H, bk := D.nx } σ H1 else D.nx σ H1)
    (mono : ∀ σ H Q Q', (∀ b H1, Q b H1 → Q' b H1) → c σ H Q → c σ H Q') : tWhile c tb D σ H := by
  refine ⟨fun m σ H => m = μ σ H ∧ Pv σ H, ⟨_, rfl, h0⟩, ?_⟩
  rintro m σ H ⟨rfl, p⟩
  refine mono σ H _ _ (fun b H1 q => ?_) (hs σ H p)
  cases b with
  | true => exact ⟨_, fun σ' H' ⟨p', l⟩ => ⟨_, l, rfl, p'⟩, q⟩
  | false => exact q
end L2
namespace L2
open PySem PySem.Spec PyProof.Rows
abbrev R2 := V → V → Hp → VK → Prop
def OpR (X : Cx) (f : Value → Value → Sem Value) (r : R2) : Prop :=
  ∀ (pins : List (Addr × Obj)) (s : Shared) (σ : St) (H : Hp) (x y : V) (v u : Value) (Q : VK), Inv X pins σ H s → RelV x v → RelV y u → r x y H Q →
    wpAny (model X.prog X.w) X.A (f v u) (EP X pins σ Q) X.xe s
def UnR (X : Cx) (f : Value → Sem Value) (r : V → Hp → VK → Prop) : Prop :=
  ∀ (pins : List (Addr × Obj)) (s : Shared) (σ : St) (H : Hp) (x : V) (v : Value) (Q : VK), Inv X pins σ H s → RelV x v → r x H Q →
    wpAny (model X.prog X.w) X.A (f v) (EP X pins σ Q) X.xe s
def CallR (X : Cx) (f : Value) (r : List V → Hp → VK → Prop) : Prop :=
  ∀ (pins : List (Addr × Obj)) (s : Shared) (σ : St) (H : Hp) (xs : List V) (us : List Value) (Q : VK), Inv X pins σ H s → Vals xs us → r xs H Q →
    wpAny (model X.prog X.w) X.A (call f us) (EP X pins σ Q) X.xe s
def TruR (X : Cx) (r : V → Hp → (Bool → Hp → Prop) → Prop) : Prop :=
  ∀ (pins : List (Addr × Obj)) (s : Shared) (σ : St) (H : Hp) (x : V) (v : Value) (Q : Bool → Hp → Prop), Inv X pins σ H s → RelV x v → r x H Q →
    wpAny (model X.prog X.w) X.A (truthy v) (TP X pins σ Q) X.xe s
def tOp (r : R2) (ta tb : TE) : TE := fun σ H Q => ta σ H fun x H1 => tb σ H1 fun y H2 => r x y H2 Q
def tUn (r : V → Hp → VK → Prop) (ta : TE) : TE := fun σ H Q => ta σ H fun x H1 => r x H1 Q
def rI (C : Int → Int → Prop) (g : Int → Int → V) : R2 := fun x y H Q => ∃ i j, x = .int i ∧ y = .int j ∧ C i j ∧ Q (g i j) H
def rI0 (g : Int → Int → V) : R2 := fun x y H Q => ∃ i j, x = .int i ∧ y = .int j ∧ Q (g i j) H
def rU (g : Int → V) : V → Hp → VK → Prop := fun x H Q => ∃ i, x = .int i ∧ Q (g i) H
section
variable {X : Cx} {a b c : Expr} {ta tb tc : TE} {pos : Pos}
theorem binT (ha : PE X a ta) (hb : PE X b tb) {pins : List (Addr × Obj)} {s : Shared} {σ : St} {H : Hp} {R : V → V → Hp → Prop} (I : Inv X pins σ H s)
    (h : ta σ H fun x H1 => tb σ H1 fun y H2 => R x y H2) {Q : Value → Shared → Prop} {f : Value → Value → Sem Value}
    (hf : ∀ v u s2 x y H2, Inv X pins σ H2 s2 → RelV x v → RelV y u → R x y H2 → wpAny (model X.prog X.w) X.A (f v u) Q X.xe s2) :
    wpAny (model X.prog X.w) X.A (eval a X.env) (fun v s₁ => wpAny (model X.prog X.w) X.A (eval b X.env) (fun u s₂ => wpAny (model X.prog X.w) X.A (f v u) Q X.xe s₂) X.xe s₁) X.xe s := by
  refine thn (ha pins s σ H _ I h) fun v s1 ⟨x, H1, I1, r1, q1⟩ => ?_
  refine thn (hb pins s1 σ H1 _ I1 q1) fun u s2 ⟨y, H2, I2, r2, q2⟩ => ?_
  exact hf v u s2 x y H2 I2 r1 r2 q2
theorem pe_op {op : Operator} {r : R2} (ho : OpR X (binaryOp op) r) (ha : PE X a ta) (hb : PE X b tb) : PE X (.BinOp a op b pos) (tOp r ta tb) := by
  intro pins s σ H Q I h
  exact wpAny_BinOp (binT ha hb I h fun v u s2 x y H2 I2 rx ry q => ho pins s2 σ H2 x y v u Q I2 rx ry q)
theorem pe_un {op : UnaryOp} {r : V → Hp → VK → Prop} (ho : UnR X (unaryOp op) r) (ha : PE X a ta) : PE X (.UnaryOp op a pos) (tUn r ta) := by
  intro pins s σ H Q I h
  exact UnaryOp_ (thn (ha pins s σ H _ I h) fun v s1 ⟨x, H1, I1, r1, q1⟩ => ho pins s1 σ H1 x v Q I1 r1 q1)
theorem opI {f : Value → Value → Sem Value} {C : Int → Int → Prop} {g : Int → Int → Int}
    (rule : ∀ (i j : Int) (t u : Tok) (s : Shared) (Q : Value → Shared → Prop) (E : Value → Shared → Prop), C i j → Q (.int (g i j) s.toks) { s with toks := s.toks + 1 } → wpAny (model X.prog X.w) X.A (f (.int i t) (.int j u)) Q E s) :
    OpR X f (rI C fun i j => .int (g i j)) := by
  intro pins s σ H x y v u Q I rx ry h
  obtain ⟨i, j, rfl, rfl, hc, q⟩ := h
  obtain ⟨t, rfl⟩ := rx
  obtain ⟨t', rfl⟩ := ry
  exact rule i j t t' s _ _ hc ⟨.int (g i j), H, I.tok _, ⟨_, rfl⟩, q⟩
theorem opI0 {f : Value → Value → Sem Value} {g : Int → Int → Int}
    (rule : ∀ (i j : Int) (t u : Tok) (s : Shared) (Q : Value → Shared → Prop) (E : Value → Shared → Prop), Q (.int (g i j) s.toks) { s with toks := s.toks + 1 } → wpAny (model X.prog X.w) X.A (f (.int i t) (.int j u)) Q E s) :
    OpR X f (rI0 fun i j => .int (g i j)) := by
  intro pins s σ H x y v u Q I rx ry h
  obtain ⟨i, j, rfl, rfl, q⟩ := h
  obtain ⟨t, rfl⟩ := rx
  obtain ⟨t', rfl⟩ := ry
  exact rule i j t t' s _ _ ⟨.int (g i j), H, I.tok _, ⟨_, rfl⟩, q⟩
theorem opB0 {f : Value → Value → Sem Value} {g : Int → Int → Bool}
    (rule : ∀ (i j : Int) (t u : Tok) (s : Shared) (Q : Value → Shared → Prop) (E : Value → Shared → Prop), Q (.bool (g i j)) s → wpAny (model X.prog X.w) X.A (f (.int i t) (.int j u)) Q E s) :
    OpR X f (rI0 fun i j => .bl (g i j)) := by
  intro pins s σ H x y v u Q I rx ry h
  obtain ⟨i, j, rfl, rfl, q⟩ := h
  obtain ⟨t, rfl⟩ := rx
  obtain ⟨t', rfl⟩ := ry
  exact rule i j t t' s _ _ ⟨.bl (g i j), H, I, rfl, q⟩
def CDiv (i j : Int) : Prop := 0 < j ∧ j < 1073741824
def CDivN (i j : Int) : Prop := j ≠ 0 ∧ j.natAbs < 1073741824
def CPow (i j : Int) : Prop := 0 ≤ j ∧ j ≤ 1000000 ∧ i.natAbs < 2 ^ 64
def CMul (i j : Int) : Prop := (-(2 ^ 64) < i ∧ i < 2 ^ 64) ∨ (-(2 ^ 64) < j ∧ j < 2 ^ 64)
theorem CMul.ok {i j : Int} (h : CMul i j) : IntMulOk i j := by
  rcases h with ⟨h1, h2⟩ | ⟨h1, h2⟩
  · exact .of_left (intBits_le_64 h1 h2)
  · exact .of_right (intBits_le_64 h1 h2)
theorem op_add : OpR X (binaryOp .Add) (rI0 fun i j => .int (i + j)) := opI0 fun _ _ _ _ _ _ _ q => add_int q
theorem op_mul : OpR X (binaryOp .Mult) (rI CMul fun i j => .int (i * j)) := opI fun _ _ _ _ _ _ _ hc q => mul_int q hc.ok
theorem op_fdiv : OpR X (binaryOp .FloorDiv) (rI CDiv fun i j => .int (i / j)) := opI fun i j _ _ _ _ _ hc q => by
  have h1 : (0 : Int) < j := hc.1
  have h2 : j < 1073741824 := hc.2
  exact floordiv_int (by omega) (by rw [Int.fdiv_eq_ediv_of_nonneg i (by omega)]; exact q) (.inl (PyProof.noPylong_small (by omega)))
theorem op_mod : OpR X (binaryOp .Mod) (rI (fun _ j => 0 < j) fun i j => .int (i % j)) := opI fun i j _ _ _ _ _ hc q => by
  have h1 : (0 : Int) < j := hc
  exact mod_int' (by omega) (by rw [Int.fmod_eq_emod_of_nonneg i (by omega)]; exact q)
theorem unI {f : Value → Sem Value} {g : Int → Int}
    (rule : ∀ (i : Int) (t : Tok) (s : Shared) (Q : Value → Shared → Prop) (E : Value → Shared → Prop), Q (.int (g i) s.toks) { s with toks := s.toks + 1 } → wpAny (model X.prog X.w) X.A (f (.int i t)) Q E s) :
    UnR X f (rU fun i => .int (g i)) := by
  intro pins s σ H x v Q I rx h
  obtain ⟨i, rfl, q⟩ := h
  obtain ⟨t, rfl⟩ := rx
  exact rule i t s _ _ ⟨.int (g i), H, I.tok _, ⟨_, rfl⟩, q⟩
theorem un_neg : UnR X (unaryOp .USub) (rU fun i => .int (-i)) := unI fun _ _ _ _ _ q => neg_int q
end
def scal : V → V → Bool
  | .non, .non => true | .non, .int _ => true | .int _, .non => true | .non, .bl _ => true | .bl _, .non => true | .non, .str _ => true | .str _, .non => true
  | .int _, .int _ => true | .bl _, .bl _ => true | .str _, .str _ => true | .byt _, .byt _ => true
  | .int _, .str _ => true | .str _, .int _ => true | .bl _, .str _ => true | .str _, .bl _ => true
  | _, _ => false
def rEq : R2 := fun x y H Q => scal x y = true ∧ Q (.bl (decide (x = y))) H
def rNe : R2 := fun x y H Q => scal x y = true ∧ Q (.bl (!decide (x = y))) H
theorem dec_int {i j : Int} : decide (V.int i = V.int j) = (i == j) := by
  rw [Bool.eq_iff_iff]
  simp
theorem dec_bl {i j : Bool} : decide (V.bl i = V.bl j) = (i == j) := by
  rw [Bool.eq_iff_iff]
  simp
theorem dec_str {i j : Str} : decide (V.str i = V.str j) = (i == j) := by
  rw [Bool.eq_iff_iff]
  simp
theorem dec_byt {i j : Array UInt8} : decide (V.byt i = V.byt j) = (i.toList == j.toList) := by
  rw [Bool.eq_iff_iff]
  cases i
  cases j
  simp
section
variable {X : Cx} {a b c : Expr} {ta tb tc : TE} {pos : Pos}
theorem fin_bl {pins : List (Addr × Obj)} {σ : St} {H : Hp} {s : Shared} {Q : VK} {k k' : Bool} (I : Inv X pins σ H s) (q : Q (.bl k) H) (e : k = k') : EP X pins σ Q (.bool k') s := by
  subst e
  exact ⟨.bl k, H, I, rfl, q⟩
theorem op_eq : OpR X (compareOp .Eq) rEq := by
  intro pins s σ H x y v u Q I rx ry h
  obtain ⟨hs, q⟩ := h
  cases x with
  | non =>
    cases rx
    cases y with
    | non => cases ry; exact PySem.EqNone.eq_none_none (fin_bl I q (by simp))
    | bl j => cases ry; exact PySem.EqNone.eq_none_bool (fin_bl I q (by simp))
    | int j => obtain ⟨t', rfl⟩ := ry; exact PySem.EqNone.eq_none_int (fin_bl I q (by simp))
    | str j => obtain ⟨t', rfl⟩ := ry; exact PySem.EqNone.eq_none_str (fin_bl I q (by simp))
    | _ => exact absurd (show false = true from hs) Bool.false_ne_true
  | bl i =>
    cases rx
    cases y with
    | non => cases ry; exact PySem.EqNone.eq_bool_none (fin_bl I q (by simp))
    | bl j => cases ry; exact eq_bool (fin_bl I q dec_bl)
    | str j => obtain ⟨t', rfl⟩ := ry; exact PySem.EqMixed.eq_bool_str (fin_bl I q (by simp))
    | _ => exact absurd (show false = true from hs) Bool.false_ne_true
  | int i =>
    obtain ⟨t, rfl⟩ := rx
    cases y with
    | non => cases ry; exact PySem.EqNone.eq_int_none (fin_bl I q (by simp))
    | int j => obtain ⟨t', rfl⟩ := ry; exact eq_int (fin_bl I q dec_int)
    | str j => obtain ⟨t', rfl⟩ := ry; exact PySem.EqMixed.eq_int_str (fin_bl I q (by simp))
    | _ => exact absurd (show false = true from hs) Bool.false_ne_true
  | str i =>
    obtain ⟨t, rfl⟩ := rx
    cases y with
    | non => cases ry; exact PySem.EqNone.eq_str_none (fin_bl I q (by simp))
    | bl j => cases ry; exact PySem.EqMixed.eq_str_bool (fin_bl I q (by simp))
    | int j => obtain ⟨t', rfl⟩ := ry; exact PySem.EqMixed.eq_str_int (fin_bl I q (by simp))
    | str j => obtain ⟨t', rfl⟩ := ry; exact eq_str (fin_bl I q dec_str)
    | _ => exact absurd (show false = true from hs) Bool.false_ne_true
  | byt i =>
    obtain ⟨t, rfl⟩ := rx
    cases y with
    | byt j => obtain ⟨t', rfl⟩ := ry; exact PySem.W.eq_bytes (fin_bl I q dec_byt)
    | _ => exact absurd (show false = true from hs) Bool.false_ne_true
  | _ => cases y <;> exact absurd (show false = true from hs) Bool.false_ne_true
theorem op_ne : OpR X (compareOp .NotEq) rNe := by
  intro pins s σ H x y v u Q I rx ry h
  obtain ⟨hs, q⟩ := h
  cases x with
  | non =>
    cases rx
    cases y with
    | non => cases ry; exact PySem.EqNone.ne_none_none (fin_bl I q (by simp))
    | bl j => cases ry; exact PySem.EqNone.ne_none_bool (fin_bl I q (by simp))
    | int j => obtain ⟨t', rfl⟩ := ry; exact PySem.EqNone.ne_none_int (fin_bl I q (by simp))
    | str j => obtain ⟨t', rfl⟩ := ry; exact PySem.EqNone.ne_none_str (fin_bl I q (by simp))
    | _ => exact absurd (show false = true from hs) Bool.false_ne_true
  | bl i =>
    cases rx
    cases y with
    | non => cases ry; exact PySem.EqNone.ne_bool_none (fin_bl I q (by simp))
    | bl j => cases ry; exact ne_bool (fin_bl I q (congrArg not dec_bl))
    | str j => obtain ⟨t', rfl⟩ := ry; exact PySem.EqMixed.ne_bool_str (fin_bl I q (by simp))
    | _ => exact absurd (show false = true from hs) Bool.false_ne_true
  | int i =>
    obtain ⟨t, rfl⟩ := rx
    cases y with
    | non => cases ry; exact PySem.EqNone.ne_int_none (fin_bl I q (by simp))
    | int j => obtain ⟨t', rfl⟩ := ry; exact ne_int (fin_bl I q (congrArg not dec_int))
    | str j => obtain ⟨t', rfl⟩ := ry; exact PySem.EqMixed.ne_int_str (fin_bl I q (by simp))
    | _ => exact absurd (show false = true from hs) Bool.false_ne_true
  | str i =>
    obtain ⟨t, rfl⟩ := rx
    cases y with
    | non => cases ry; exact PySem.EqNone.ne_str_none (fin_bl I q (by simp))
    | bl j => cases ry; exact PySem.EqMixed.ne_str_bool (fin_bl I q (by simp))
    | int j => obtain ⟨t', rfl⟩ := ry; exact PySem.EqMixed.ne_str_int (fin_bl I q (by simp))
    | str j => obtain ⟨t', rfl⟩ := ry; exact ne_str (fin_bl I q (congrArg not dec_str))
    | _ => exact absurd (show false = true from hs) Bool.false_ne_true
  | byt i =>
    obtain ⟨t, rfl⟩ := rx
    cases y with
    | byt j => obtain ⟨t', rfl⟩ := ry; exact PySem.W.ne_bytes (fin_bl I q (congrArg not dec_byt))
    | _ => exact absurd (show false = true from hs) Bool.false_ne_true
  | _ => cases y <;> exact absurd (show false = true from hs) Bool.false_ne_true
theorem op_lt : OpR X (compareOp .Lt) (rI0 fun i j => .bl (decide (i < j))) := opB0 fun _ _ _ _ _ _ _ q => lt_int q
theorem op_gt : OpR X (compareOp .Gt) (rI0 fun i j => .bl (decide (j < i))) := opB0 fun _ _ _ _ _ _ _ q => gt_int q
theorem op_notN : OpR X (compareOp .IsNot) (fun x y H Q => y = .non ∧ Q (.bl (!decide (x = .non))) H) := by
  intro pins s σ H x y v u Q I rx ry h
  obtain ⟨rfl, q⟩ := h
  cases ry
  refine isnot_none_gen (fin_bl I q ?_)
  cases x <;> first
    | (cases rx; rfl)
    | (obtain ⟨t, rfl⟩ := rx; rfl)
def isObj : HO → Bool
  | .lst _ => true
  | .ins _ _ _ => true
  | _ => false
theorem OpR.or {f : Value → Value → Sem Value} {r r' : R2} (h : OpR X f r) (h' : OpR X f r') : OpR X f (fun x y H Q => r x y H Q ∨ r' x y H Q) := by
  intro pins s σ H x y v u Q I rx ry q
  rcases q with q | q
  · exact h pins s σ H x y v u Q I rx ry q
  · exact h' pins s σ H x y v u Q I rx ry q
theorem nomark (b : Expr) {op : CmpOp} (h : op ≠ .In := by decide) (h2 : op ≠ .NotIn := by decide) : behindInMarks op b = false := by
  have e1 : (op == CmpOp.In) = false := by cases op <;> first | rfl | exact absurd rfl h
  have e2 : (op == CmpOp.NotIn) = false := by cases op <;> first | rfl | exact absurd rfl h2
  cases b <;> simp [behindInMarks, e1, e2]
theorem pe_cmpR {op : CmpOp} {r : R2} (ho : OpR X (compareOp op) r) (ha : PE X a ta) (hb : PE X b tb) (hm : behindInMarks op b = false) : PE X (.Compare a [op] [b] pos) (tOp r ta tb) := by
  intro pins s σ H Q I h
  exact wpAny_Compare1 (binT ha hb I h fun v u s2 x y H2 I2 rx ry q => ho pins s2 σ H2 x y v u Q I2 rx ry q) hm
def tTest (t : TE) : TT := fun σ H Q => t σ H fun x H' => ∃ k, x = .bl k ∧ Q k H'
theorem pt_cmpR {op : CmpOp} {r : R2} (ho : OpR X (compareOp op) r) (ha : PE X a ta) (hb : PE X b tb) (hm : behindInMarks op b = false) : PT X (.Compare a [op] [b] pos) (tTest (tOp r ta tb)) := by
  intro pins s σ H Q I h
  refine wpAny_isTrue_Compare1 (thn (ha pins s σ H _ I h) fun v s1 ⟨x, H1, I1, r1, q1⟩ => thn (hb pins s1 σ H1 _ I1 q1) fun u s2 ⟨y, H2, I2, r2, q2⟩ =>
    thn (ho pins s2 σ H2 x y v u _ I2 r1 r2 q2) fun c s3 ⟨z, H3, I3, r3, k, e, q3⟩ => ?_) hm
  subst e
  cases r3
  exact wpAny_truthy_bool ⟨H3, I3, q3⟩
def tChain (r r' : R2) (ta tb tc : TE) : TE := fun σ H Q => ta σ H fun x H1 => tb σ H1 fun y H2 => r x y H2 fun z H3 => ∃ k, z = .bl k ∧
  (if k = true then tc σ H3 fun w' H4 => r' y w' H4 Q else Q (.bl false) H3)
def TruV (K : PySem.W.Frag) (x : V) (H : Hp) (k : Bool) : Prop :=
  match x with
  | .non => k = false
  | .bl b => k = b
  | .int i => k = (i != 0)
  | .str y => y.length ≤ sizeLine ∧ k = ((y.length : Int) != 0)
  | .byt y => y.size ≤ sizeLine ∧ k = ((y.size : Int) != 0)
  | .ref p => (∃ xs, SqL K H p xs ∧ k = !xs.isEmpty) ∨ (∃ xs, SqT K H p xs ∧ k = !xs.isEmpty) ∨ ∃ kvs, H p = some (.dK kvs) ∧ k = !kvs.isEmpty
  | _ => False
theorem isEmpty_kv {κ : Type} {kvs : List (κ × V)} {vs : List (κ × Value)} (r : KV kvs vs) : (!vs.isEmpty) = !kvs.isEmpty := by
  cases r <;> rfl
theorem isEmpty_of {xs : List V} {its : List Value} (r : Vals xs its) : (!its.toArray.isEmpty) = !xs.isEmpty := by
  cases r <;> simp
theorem line63 : (sizeLine : Nat) < 2 ^ 63 := by rw [sizeLine_eq]; decide
theorem tru_ok : TruR X (fun x H Q => ∃ k, TruV X.K x H k ∧ Q k H) := by
  intro pins s σ H x v Q I rx h
  obtain ⟨k, e, q⟩ := h
  have hl := line63
  have hs : sizeLine = 16777216 := sizeLine_eq
  cases x with
  | non =>
    cases rx
    have e' : k = false := e
    subst e'
    exact truthy_none ⟨H, I, q⟩
  | bl b =>
    cases rx
    have e' : k = b := e
    subst e'
    exact wpAny_truthy_bool ⟨H, I, q⟩
  | int i =>
    obtain ⟨t, rfl⟩ := rx
    have e' : k = (i != 0) := e
    subst e'
    exact PySem.P.truthy_int ⟨H, I, q⟩
  | str y =>
    obtain ⟨t, rfl⟩ := rx
    obtain ⟨hy, e'⟩ : y.length ≤ sizeLine ∧ k = ((y.length : Int) != 0) := e
    subst e'
    exact PySem.P.truthy_str (by omega) ⟨H, I.tok _, q⟩
  | byt y =>
    obtain ⟨t, rfl⟩ := rx
    obtain ⟨hy, e'⟩ : y.size ≤ sizeLine ∧ k = ((y.size : Int) != 0) := e
    subst e'
    exact PySem.W.truthy_bytes (by omega) ⟨H, I.tok _, q⟩
  | ref p =>
    cases rx
    have e' : (∃ xs, SqL X.K H p xs ∧ k = !xs.isEmpty) ∨ (∃ xs, SqT X.K H p xs ∧ k = !xs.isEmpty) ∨ ∃ kvs, H p = some (.dK kvs) ∧ k = !kvs.isEmpty := e
    rcases e' with ⟨xs, hx, e'⟩ | ⟨xs, hx, e'⟩ | ⟨kvs, hx, e'⟩
    · subst e'
      obtain ⟨its, r, pl, hz⟩ := I.list hx
      have hlen := r.length
      exact wpAny_truthy_list pl.isList (by simp only [List.size_toArray]; omega) ⟨H, I.tok _, by rw [isEmpty_of r]; exact q⟩
    · subst e'
      obtain ⟨its, r, pl, hz⟩ := I.tuple hx
      have hlen := r.length
      exact truthy_tuple pl (by simp only [List.size_toArray]; omega) ⟨H, I.tok _, by rw [isEmpty_of r]; exact q⟩
    · subst e'
      obtain ⟨hz, hS, vs, r, m⟩ : kvs.length ≤ sizeLine ∧ (p == sysModules) = false ∧ ∃ vs, KV kvs vs ∧ s.heap.DictOf (mixKind X.prog X.w) p vs := I.hok p _ hx
      have hlen : kvs.length = vs.length := Paired.length r
      exact wpAny_truthy_dict hS m (by omega) ⟨H, I.tok _, by rw [isEmpty_kv r]; exact q⟩
  | _ => exact (show False from e).elim
theorem pt_truth (ha : PE X a ta) (he : ∀ whole, isTrue a X.env whole = (do let v ← whole; standAt a.pos; holding [v] (truthy v))) :
    PT X a (fun σ H Q => ta σ H fun x H' => ∃ k, TruV X.K x H' k ∧ Q k H') := by
  intro pins s σ H Q I h
  exact isTrue_plain (thn (ha pins s σ H _ I h) fun v s1 ⟨x, H1, I1, r1, q1⟩ => tru_ok pins s1 σ H1 x v Q I1 r1 q1) (he _)
theorem op_add_str : OpR X (binaryOp .Add) (fun x y H Q => ∃ i j, x = .str i ∧ y = .str j ∧ i.length + j.length ≤ sizeLine ∧ Q (.str (i ++ j)) H) := by
  intro pins s σ H x y v u Q I rx ry h
  obtain ⟨i, j, rfl, rfl, hz, q⟩ := h
  obtain ⟨t, rfl⟩ := rx
  obtain ⟨t', rfl⟩ := ry
  exact add_str (fun t' tk => ⟨.str (i ++ j), H, I.tok _, ⟨_, rfl⟩, q⟩) hz
def PlainIxT (b : Expr) : Prop := ∀ o i, subscripted b false o i = operate [o, i] (getItem o i)
theorem vals1 {x : V} {us : List Value} (r : Vals [x] us) : ∃ u, us = [u] ∧ RelV x u := by
  cases r with
  | cons r1 r2 => cases r2; exact ⟨_, rfl, r1⟩
theorem vals2 {x y : V} {us : List Value} (r : Vals [x, y] us) : ∃ u w', us = [u, w'] ∧ RelV x u ∧ RelV y w' := by
  cases r with
  | cons r1 r2 =>
    cases r2 with
    | cons r3 r4 => cases r4; exact ⟨_, _, rfl, r1, r3⟩
theorem call_min2 (hc : X.calm = true) : CallR X (.builtin "min") (fun xs H Q => ∃ i j, xs = [.int i, .int j] ∧ Q (.int (if j < i then j else i)) H) := by
  intro pins s σ H xs us Q I r h
  obtain ⟨i, j, rfl, q⟩ := h
  obtain ⟨u, w', rfl, ⟨t, rfl⟩, ⟨t', rfl⟩⟩ := vals2 r
  refine min_two_ints (I.ok.hd hc) fun h' tk k => ⟨_, H, I.kept k, ?_, q⟩
  by_cases hj : j < i
  · rw [if_pos hj, if_pos hj]; exact ⟨_, rfl⟩
  · rw [if_neg hj, if_neg hj]; exact ⟨_, rfl⟩
def LenV (K : PySem.W.Frag) (x : V) (H : Hp) (n : Nat) : Prop :=
  match x with
  | .str y => y.length ≤ sizeLine ∧ n = y.length
  | .byt y => y.size ≤ sizeLine ∧ n = y.size
  | .ref p => (∃ xs, SqL K H p xs ∧ n = xs.length) ∨ ∃ xs, SqT K H p xs ∧ n = xs.length
  | _ => False
end
end L2
namespace L2
open PySem PySem.Spec PyProof.Rows
structure ObjM (h : Heap) (x dx C : Addr) (mA : Str → Option Value) : Prop where
  obj : h.get? x = some (PySem.W.instObj C dx)
  ns : h.Ns1 dx mA
  ne : dx ≠ x
theorem lookIn_ns {h : Heap} {dx : Addr} {mA : Str → Option Value} (n : h.Ns1 dx mA) : ∃ od, h.get? dx = some od ∧ ∀ name, PySem.W.lookIn name od = some (mA name) := by
  obtain ⟨o, es, ep, ho, hd, hk, _, hm⟩ := n
  refine ⟨o, ho, fun name => ?_⟩
  have e := hm name
  unfold nsFind findBy at e
  rw [← Array.find?_toList] at e
  unfold PySem.W.lookIn
  rw [hd]
  dsimp only
  split
  · rename_i y q
    rw [q] at e
    exact congrArg some e
  · rename_i q
    rw [q] at e
    have a : es.toList.any (·.refKey) = false := by
      rw [List.any_eq_false]
      intro y hy
      obtain ⟨z, t, hkey⟩ := hk y (Array.mem_toList_iff.mp hy)
      simp [DictEntry.refKey, hkey]
    have a' : ¬ es.toList.any (·.refKey) = true := by rw [a]; exact Bool.false_ne_true
    rw [if_neg a']
    exact congrArg some e
theorem ObjM.look {h : Heap} {x dx C : Addr} {mA : Str → Option Value} (I : ObjM h x dx C mA) : ∃ od, PySem.W.InstAt h x (PySem.W.instObj C dx) C (some od) ∧ ∀ name, PySem.W.lookIn name od = some (mA name) :=
  let ⟨od, ho, hl⟩ := lookIn_ns I.ns
  ⟨od, ⟨I.obj, rfl, rfl, ho⟩, hl⟩
section
variable {prog : Program} {w : World} {A : Around} {E : Value → Shared → Prop} {s : Shared} {K : PySem.W.Frag} {x dx C f : Addr} {mA : Str → Option Value} {name : Str} {v : Value}
end
def putF (f : Str) (v : V) : List (Str × V) → List (Str × V)
  | [] => [(f, v)]
  | (g, x) :: r => if g = f then (g, v) :: r else (g, x) :: putF f v r
theorem lookup_putF (f g : Str) (v : V) : ∀ fs : List (Str × V), (putF f v fs).lookup g = if g = f then some v else fs.lookup g
  | [] => by
    show List.lookup g [(f, v)] = _
    by_cases h : g = f
    · have hb : (g == f) = true := beq_iff_eq.mpr h
      simp only [List.lookup, hb, if_pos h]
    · have hb : (g == f) = false := beq_eq_false_iff_ne.mpr h
      simp only [List.lookup, hb, if_neg h]
  | (k, x) :: r => by
    have ih := lookup_putF f g v r
    rw [show putF f v ((k, x) :: r) = (if k = f then (k, v) :: r else (k, x) :: putF f v r) from rfl]
    by_cases hk : k = f
    · rw [if_pos hk]
      by_cases h : g = k
      · have hb : (g == k) = true := beq_iff_eq.mpr h
        simp only [List.lookup, hb, if_pos (h.trans hk)]
      · have hb : (g == k) = false := beq_eq_false_iff_ne.mpr h
        simp only [List.lookup, hb, if_neg (fun e : g = f => h (e.trans hk.symm))]
    · rw [if_neg hk]
      by_cases h : g = k
      · have hb : (g == k) = true := beq_iff_eq.mpr h
        simp only [List.lookup, hb, if_neg (fun e : g = f => hk (h.symm.trans e))]
      · have hb : (g == k) = false := beq_eq_false_iff_ne.mpr h
        simp only [List.lookup, hb]
        exact ih
theorem keys_putF (f : Str) (v : V) : ∀ fs : List (Str × V), f ∈ (putF f v fs).map (·.1) ∧ ∀ g, g ∈ fs.map (·.1) → g ∈ (putF f v fs).map (·.1)
  | [] => ⟨by simp [putF], fun g h => by simp at h⟩
  | (k, x) :: r => by
    obtain ⟨i1, i2⟩ := keys_putF f v r
    rw [show putF f v ((k, x) :: r) = (if k = f then (k, v) :: r else (k, x) :: putF f v r) from rfl]
    by_cases hk : k = f
    · rw [if_pos hk]
      subst hk
      exact ⟨by simp, fun g h => by simpa using h⟩
    · rw [if_neg hk]
      refine ⟨?_, fun g h => ?_⟩
      · rw [List.map_cons]
        exact List.mem_cons_of_mem _ i1
      · rw [List.map_cons] at h ⊢
        rcases List.mem_cons.mp h with e | e
        · exact List.mem_cons.mpr (.inl e)
        · exact List.mem_cons_of_mem _ (i2 g e)
theorem length_putF (f : Str) (v : V) : ∀ fs : List (Str × V), (putF f v fs).length ≤ fs.length + 1
  | [] => by simp [putF]
  | (k, x) :: r => by
    have ih := length_putF f v r
    rw [show putF f v ((k, x) :: r) = (if k = f then (k, v) :: r else (k, x) :: putF f v r) from rfl]
    by_cases hk : k = f
    · rw [if_pos hk, List.length_cons, List.length_cons]; omega
    · rw [if_neg hk, List.length_cons, List.length_cons]; omega
theorem RelO.some_of {v : V} {o : Option Value} (r : RelO (some v) o) : ∃ u, o = some u ∧ RelV v u := by
  cases o with
  | none => exact (show False from r).elim
  | some u => exact ⟨u, rfl, r⟩
theorem handed_of {v : V} {u : Value} (r : RelV v u) : PySem.W.handedIn u = true := by
  cases v with
  | non => cases (show u = Value.none from r); rfl
  | bl b => cases (show u = Value.bool b from r); rfl
  | int i => obtain ⟨t, e⟩ := (show ∃ t, u = Value.int i t from r); cases e; rfl
  | str x => obtain ⟨t, e⟩ := (show ∃ t, u = Value.str x t from r); cases e; rfl
  | byt b => obtain ⟨t, e⟩ := (show ∃ t, u = Value.bytes b t from r); cases e; rfl
  | flt b => obtain ⟨t, e⟩ := (show ∃ t, u = Value.float b t from r); cases e; rfl
  | ref a => cases (show u = Value.ref a from r); rfl
  | ty n => cases (show u = Value.type n from r); rfl
section
variable {P : Program} {w : World} {H H' : Hp} {h h' : Heap} {a C dx : Addr} {fs fs' : List (Str × V)}
theorem ins_get (hok : HOk P w H h) (e : H a = some (.ins C dx fs)) : ∃ mA, ObjM h a dx C mA ∧ (∀ f, RelO (fs.lookup f) (mA f)) ∧ PySem.Within mA (fs.map (·.1)) ∧ fs.length ≤ 1000 ∧ H dx = some (.own a) := by
  obtain ⟨d, z, ne, ob, mA, n, r, q⟩ := (show ObjOk P w H h a (.ins C dx fs) from hok a _ e)
  exact ⟨mA, ⟨ob, n, ne⟩, r, q, z, d⟩
end
structure Cls (K : PySem.W.Frag) (C : Addr) : Prop where
  pg : PySem.W.plainGet K C Str.empty = true
  hd : PySem.W.hasDictIn K C = true
  po : PySem.W.plainOver K C = true
  sa : PySem.W.findIn K (.ref C) "__setattr__" = some (some (.builtin "object.__setattr__"))
theorem Cls.get {K : PySem.W.Frag} {C : Addr} (c : Cls K C) (f : Str) : PySem.W.plainGet K C f = true := c.pg
def NoAttr (K : PySem.W.Frag) (C : Addr) (f : Str) : Prop := PySem.W.findIn K (.ref C) f = some none
theorem NoAttr.taker {K : PySem.W.Frag} {C : Addr} {f : Str} (n : NoAttr K C f) : PySem.W.takerIn K C f = some none := by
  unfold PySem.W.takerIn
  rw [show PySem.W.findIn K (.ref C) f = some none from n]
  rfl
structure Con (K : PySem.W.Frag) (C : Addr) (f : Str) (v : V) (u : Value) : Prop where
  at_ : PySem.W.findIn K (.ref C) f = some (some u)
  rel : RelV v u
  get : PySem.W.specialIn K u "__get__" = some none
  cp : PySem.W.copiedNames.contains f = false
structure Meth (K : PySem.W.Frag) (C : Addr) (m : Str) (f : Addr) : Prop where
  at_ : PySem.W.findIn K (.ref C) m = some (some (.ref f))
  fn : PySem.W.isFn K (.ref f) = true
  kp : PySem.W.keepIn K (.ref f) = true
section
variable {X : Cx} {pins : List (Addr × Obj)} {σ : St} {H : Hp} {s : Shared} {a C dx : Addr} {fs : List (Str × V)} {f : Str} {v : V} {A : Around} {E : Value → Shared → Prop}
theorem Inv.made (I : Inv X pins σ H s) : Inv X pins σ (upd (upd H s.heap.objs.size (.own (s.heap.objs.size + 1))) (s.heap.objs.size + 1) (.ins C s.heap.objs.size []))
    { s with heap := (s.heap.push PySem.W.emptyDict).push (PySem.W.instObj C s.heap.objs.size) } := by
  have e1 : (s.heap.push PySem.W.emptyDict).get? s.heap.objs.size = some PySem.W.emptyDict := Heap.get?_push_size s.heap rfl
  have e2 : ((s.heap.push PySem.W.emptyDict).push (PySem.W.instObj C s.heap.objs.size)).get? (s.heap.objs.size + 1) = some (PySem.W.instObj C s.heap.objs.size) := by
    have := Heap.get?_push_size (s.heap.push PySem.W.emptyDict) (o := PySem.W.instObj C s.heap.objs.size) rfl
    rwa [Heap.size_push] at this
  have e3 : (s.heap.push PySem.W.emptyDict).Ns s.heap.objs.size (fun _ => none) := ⟨PySem.W.emptyDict, #[], _, e1, rfl, (fun e he => absurd he (by simp)), fun _ => rfl⟩
  have I1 := I.laid (a := s.heap.objs.size) (o := .own (s.heap.objs.size + 1)) (h' := s.heap.push PySem.W.emptyDict) (t' := s.toks) (fun b u q => Heap.get?_push_of_some _ q) (Nat.le_refl _) ⟨_, e1⟩
  refine I1.laid (a := s.heap.objs.size + 1) (o := .ins C s.heap.objs.size []) (t' := s.toks) (fun b u q => Heap.get?_push_of_some _ q) (Nat.le_of_eq (Heap.size_push _ _)) ?_
  have ne : s.heap.objs.size ≠ s.heap.objs.size + 1 := Nat.ne_of_lt (Nat.lt_succ_self _)
  refine ⟨by rw [upd_ne ne, upd_same], Nat.zero_le _, ne, e2, fun _ => none, (Heap.Ns1.of_empty e3).at fun o q => Heap.get?_push_of_some _ q, fun _ => True.intro, fun y hy => absurd rfl hy⟩
theorem attr_of {prog : Program} {w : World} {env : Env} {e : Expr} {f : Str} {pos : Pos} {s : Shared} {Q : Value → Shared → Prop} (hb : attributeBase e f env (eval e env) = eval e env)
    (h : wpAny (model prog w) A (eval e env) (fun o s₁ => wpAny (model prog w) A (getAttr o f true) Q E s₁) E s) : wpAny (model prog w) A (eval (.Attribute e f pos) env) Q E s :=
  Attribute_any_ h (by rw [arm_eval_Attribute, hb])
end
def tFld (K : PySem.W.Frag) (ta : TE) (f : Str) : TE := fun σ H Q => ta σ H fun x H1 => ∃ a C dx fs v, x = .ref a ∧ H1 a = some (.ins C dx fs) ∧ Cls K C ∧ NoAttr K C f ∧ fs.lookup f = some v ∧ Q v H1
def tCon (K : PySem.W.Frag) (ta : TE) (f : Str) : TE := fun σ H Q => ta σ H fun x H1 => ∃ a C dx fs v u, x = .ref a ∧ H1 a = some (.ins C dx fs) ∧ Cls K C ∧ Con K C f v u ∧ fs.lookup f = none ∧ Q v H1
def sFld (K : PySem.W.Frag) (ta tv : TE) (f : Str) : TS := fun D σ H => tv σ H fun y H1 => ta σ H1 fun x H2 => ∃ a C dx fs, x = .ref a ∧ H2 a = some (.ins C dx fs) ∧ Cls K C ∧ NoAttr K C f ∧ fs.length < 1000 ∧
  D.nx σ (upd H2 a (.ins C dx (putF f y fs)))
def InOp (X : Cx) (op : Operator) (rd : V → V → Hp → VK → Prop) : Prop :=
  ∀ (pins : List (Addr × Obj)) (s : Shared) (σ : St) (H : Hp) (x y : V) (u v : Value) (Q : VK), Inv X pins σ H s → RelV x u → RelV y v → rd x y H Q → wpAny (model X.prog X.w) X.A (inplaceOp op u v) (EP X pins σ Q) X.xe s
def sFldAug (K : PySem.W.Frag) (ta tv : TE) (rd : V → V → Hp → VK → Prop) (f : Str) : TS := fun D σ H => ta σ H fun x H1 => ∃ a C dx fs v, x = .ref a ∧ H1 a = some (.ins C dx fs) ∧ Cls K C ∧ NoAttr K C f ∧ fs.lookup f = some v ∧
  tv σ H1 fun y H2 => rd v y H2 fun z H3 => ∃ dx' fs', H3 a = some (.ins C dx' fs') ∧ fs'.length < 1000 ∧ D.nx σ (upd H3 a (.ins C dx' (putF f z fs')))
section
variable {X : Cx} {o e value : Expr} {f : Str} {pos pos' tpos : Pos} {ta tv : TE}
def rAdd : V → V → Hp → VK → Prop := fun x y H Q => ∃ i j, x = .int i ∧ y = .int j ∧ Q (.int (i + j)) H
def rSub : V → V → Hp → VK → Prop := fun x y H Q => ∃ i j, x = .int i ∧ y = .int j ∧ Q (.int (i - j)) H
end
section
variable {X : Cx} {pins : List (Addr × Obj)} {σ : St} {H : Hp} {s : Shared} {A : Around} {E : Value → Shared → Prop} {Q : Value → Shared → Prop} {c : Value} {b : Bool}
inductive TyOf (K : PySem.W.Frag) (H : Hp) : V → Value → Prop where
  | non : TyOf K H .non (.type "NoneType")
  | bl (x : Bool) : TyOf K H (.bl x) (.type "bool")
  | int (i : Int) : TyOf K H (.int i) (.type "int")
  | str (x : Str) : TyOf K H (.str x) (.type "str")
  | flt (x : UInt64) : TyOf K H (.flt x) (.type "float")
  | lst {a : Addr} {xs : List V} (e : H a = some (.lst xs)) : TyOf K H (.ref a) (.type "list")
  | frz {a : Addr} {o : Obj} {xs : List V} (e : H a = some (.frz o (.lst xs))) : TyOf K H (.ref a) (.type "list")
  | tup {a : Addr} {xs : List V} (e : H a = some (.tup xs)) : TyOf K H (.ref a) (.type "tuple")
  | dK {a : Addr} {kvs : List (Key × V)} (e : H a = some (.dK kvs)) : TyOf K H (.ref a) (.type "dict")
  | dT {a : Addr} {kvs : List (List Key × V)} (e : H a = some (.dT kvs)) : TyOf K H (.ref a) (.type "dict")
  | ins {a C dx : Addr} {fs : List (Str × V)} (e : H a = some (.ins C dx fs)) (cl : Cls K C) (ha : PySem.W.findIn K (.ref C) "__class__" = some (some (.builtin "object.__class__")))
      (hn : PySem.W.specialIn K (.builtin "object.__class__") "__get__" = some (some (.builtin "getset_descriptor.__get__"))) (htk : PySem.W.takesIn K (.builtin "object.__class__") = some true)
      (hm : PySem.W.mroIn K C (.type "object") = some true) : TyOf K H (.ref a) (.ref C)
theorem isinst_ok {x : V} {u t : Value} (I : Inv X pins σ H s) (rx : RelV x u) (ty : TyOf X.K H x t) (e : PySem.W.kitOne X.K t c = some b) (h : ∀ tk, Q (.bool b) { s with toks := tk }) :
    wpAny (model X.prog X.w) A (call (.builtin "isinstance") [u, c]) Q E s := by
  cases ty with
  | non => cases (show u = Value.none from rx); exact PySem.W.kia_one PySem.W.kitx_none I.kIn True.intro e (fun z => nomatch z) h
  | bl y => cases (show u = Value.bool y from rx); exact PySem.W.kia_one PySem.W.kitx_bool I.kIn True.intro e (fun z => nomatch z) h
  | int i => obtain ⟨t, q⟩ := (show ∃ t, u = Value.int i t from rx); cases q; exact PySem.W.kia_one PySem.W.kitx_int I.kIn True.intro e (fun z => nomatch z) h
  | str y => obtain ⟨t, q⟩ := (show ∃ t, u = Value.str y t from rx); cases q; exact PySem.W.kia_one PySem.W.kitx_str I.kIn True.intro e (fun z => nomatch z) h
  | flt y => obtain ⟨t, q⟩ := (show ∃ t, u = Value.float y t from rx); cases q; exact PySem.W.kia_one PySem.W.kitx_float I.kIn True.intro e (fun z => nomatch z) h
  | @lst a xs ea =>
    cases (show u = Value.ref a from rx)
    obtain ⟨_, _, n, _, h1⟩ := (show ObjOk X.prog X.w H s.heap a (.lst xs) from I.hok a _ ea)
    exact PySem.W.kia_one PySem.W.kitx_list I.kIn ⟨_, h1, rfl⟩ e (fun z => nomatch z) h
  | @frz a ob xs ea =>
    cases (show u = Value.ref a from rx)
    obtain ⟨_, _, _, n, _, h1⟩ := (show ObjOk X.prog X.w H s.heap a (.frz ob (.lst xs)) from I.hok a _ ea)
    exact PySem.W.kia_one PySem.W.kitx_list I.kIn ⟨_, h1, rfl⟩ e (fun z => nomatch z) h
  | @tup a xs ea =>
    cases (show u = Value.ref a from rx)
    obtain ⟨_, _, _, p⟩ := (show ObjOk X.prog X.w H s.heap a (.tup xs) from I.hok a _ ea)
    obtain ⟨o, h1, h2, _⟩ := p
    exact PySem.W.kia_one PySem.W.kitx_tuple I.kIn ⟨o, h1, h2⟩ e (fun z => nomatch z) h
  | @dK a kvs ea =>
    cases (show u = Value.ref a from rx)
    obtain ⟨_, _, vs, _, p⟩ := (show ObjOk X.prog X.w H s.heap a (.dK kvs) from I.hok a _ ea)
    obtain ⟨o, es, ep, h1, h2, _⟩ := p
    exact PySem.W.kia_one PySem.W.kitx_dict I.kIn ⟨o, h1, h2.1⟩ e (fun z => nomatch z) h
  | @dT a kvs ea =>
    cases (show u = Value.ref a from rx)
    obtain ⟨_, _, xs, _, o, es, ep, h1, h2, _⟩ := (show ObjOk X.prog X.w H s.heap a (.dT kvs) from I.hok a _ ea)
    exact PySem.W.kia_one PySem.W.kitx_dict I.kIn ⟨o, h1, h2.1⟩ e (fun z => nomatch z) h
  | @ins a C dx fs ea cl ha hn htk hm =>
    cases (show u = Value.ref a from rx)
    obtain ⟨mA, O, _⟩ := ins_get I.hok ea
    obtain ⟨od, J, _⟩ := O.look
    exact PySem.W.kia_one (PySem.W.kitx_own (cl.get _) cl.hd ha hn htk hm) I.kIn J e (fun z => nomatch z) h
end
end L2
namespace L2
open PySem PySem.Spec PyProof.Rows
structure Room (k : Nat) (A : Around) : Prop where
  hd : A.handled = none
  dp : A.depth + 3 * k + 5 < recursionLimit
  un : A.units + 16 * k + 200 < cLine
theorem Room.mono {j k : Nat} {A : Around} (r : Room k A) (h : j ≤ k) : Room j A := ⟨r.hd, by have := r.dp; omega, by have := r.un; omega⟩
theorem Room.deeper {k : Nat} {A : Around} (r : Room (k + 1) A) (env : Env) : Room k (A.deeper env) :=
  ⟨r.hd, by have := r.dp; show A.depth + 1 + 3 * k + 5 < _; omega, by have := r.un; show A.units + 3 + 16 * k + 200 < _; omega⟩
theorem Room.in1 {k : Nat} {A : Around} (r : Room (k + 1) A) : Room k A.in1 :=
  ⟨r.hd, by have := r.dp; show A.depth + 3 * k + 5 < _; omega, by have := r.un; show A.units + 1 + 16 * k + 200 < _; omega⟩
theorem make_depth {A : Around} {C : Addr} {us : List Value} {kw : List (Str × Value)} : (A.under (.builtin "type.__call__" ⟨.ref C :: us, kw⟩)).depth = A.depth + 1 := by
  first | rfl | simp [Around.under, Code.weight, Code.isCreation, Code.isGuard, Code.isCaller, Code.frames, Code.isFrame, guardIds]
theorem make_units {A : Around} {C : Addr} {us : List Value} {kw : List (Str × Value)} : (A.under (.builtin "type.__call__" ⟨.ref C :: us, kw⟩)).units = A.units + 1 := by
  first | rfl | simp [Around.under, Code.cUnits, Code.frames, Code.isFrame]
theorem Room.make {k : Nat} {A : Around} (r : Room (k + 1) A) (C : Addr) (us : List Value) (kw : List (Str × Value)) : Room k (A.under (.builtin "type.__call__" ⟨.ref C :: us, kw⟩)) :=
  ⟨r.hd, by have := r.dp; rw [make_depth]; omega, by have := r.un; rw [make_units]; omega⟩
theorem Room.depth {k : Nat} {A : Around} (r : Room k A) : A.depth < recursionLimit := by have := r.dp; omega
theorem Room.units {k : Nat} {A : Around} (r : Room k A) : A.units + 64 < cLine := by have := r.un; omega
def tNil : TA := fun _ H Q => Q [] H
def tCons (ta : TE) (tr : TA) : TA := fun σ H Q => ta σ H fun x H1 => tr σ H1 fun xs H2 => Q (x :: xs) H2
section
variable {X : Cx} {e : Expr} {es : List Expr} {te : TE} {t : TA} {pos : Pos}
theorem pa_nil : PA X [] tNil := fun _ _ _ _ H Q I h => Calls.spliced_nil ⟨[], H, I, .nil, h⟩
theorem pa_cons (ha : PE X e te) (hr : PA X es t) (hs : starEach (e :: es) X.env = (false, eval e X.env) :: starEach es X.env := by rfl) : PA X (e :: es) (tCons te t) := by
  intro pos pins s σ H Q I h
  rw [hs]
  show wpAny _ _ (spliced ((false, eval e X.env) :: backTo pos (starEach es X.env))) _ _ s
  refine Calls.spliced_cons (thn (ha pins s σ H _ I h) fun u s1 ⟨x, H1, I1, r1, q1⟩ => ?_)
  exact thn (hr pos pins s1 σ H1 _ I1 q1) fun us s2 ⟨xs, H2, I2, r2, q2⟩ => ⟨x :: xs, H2, I2, .cons r1 r2, q2⟩
def tTup (t : TA) : TE := fun σ H Q => t σ H fun xs H1 => xs.length ≤ sizeLine ∧ ∀ p, H1 p = none → Q (.ref p) (upd H1 p (.tup xs))
def tLst (t : TA) : TE := fun σ H Q => t σ H fun xs H1 => xs.length ≤ sizeLine ∧ ∀ p, H1 p = none → Q (.ref p) (upd H1 p (.lst xs))
theorem pe_tup {x1} (h : PA X es t) : PE X (.Tuple es x1 pos) (tTup t) := by
  intro pins s σ H Q I hq
  refine wpAny_Tuple_spliced (thn (h pos pins s σ H _ I hq) fun us s1 ⟨xs, H1, I1, r, z, q⟩ => ⟨by rw [← r.length]; exact z, ?_⟩)
  have hf : H1 s1.heap.objs.size = none := I1.hok.fresh (Nat.le_refl _)
  refine ⟨.ref s1.heap.objs.size, upd H1 s1.heap.objs.size (.tup xs), I1.laid (t' := s1.toks) (fun b u e => Heap.get?_push_of_some _ e) (Nat.le_refl _) ?_, rfl, q _ hf⟩
  exact ⟨z, us, r, ⟨_, Heap.get?_push_size _ rfl, rfl, _, rfl⟩⟩
theorem pe_lst (h : PA X es t) : PE X (.List es pos) (tLst t) := by
  intro pins s σ H Q I hq
  refine wpAny_List_spliced (thn (h pos pins s σ H _ I hq) fun us s1 ⟨xs, H1, I1, r, z, q⟩ => ⟨by rw [← r.length]; exact z, ?_⟩)
  have hf : H1 s1.heap.objs.size = none := I1.hok.fresh (Nat.le_refl _)
  refine ⟨.ref s1.heap.objs.size, upd H1 s1.heap.objs.size (.lst xs), I1.laid (t' := s1.toks) (fun b u e => Heap.get?_push_of_some _ e) (Nat.le_refl _) ?_, rfl, q _ hf⟩
  exact ⟨z, us, 0, r, Heap.get?_push_size _ rfl⟩
end
abbrev Sp := List V → Hp → VK → XK → Prop
abbrev CXT := List Env → Hp → Shared → XK → Value → Shared → Prop
structure Env0 (P : Program) (w : World) (K : PySem.W.Frag) (mg : Str → Option Value) (base : Heap) (A : Around) (outer : List Env) (s : Shared) (H : Hp) : Prop where
  frames : A.frames = some outer
  mod : Mod K mg base
  bs : ∀ b o, base.get? b = some o → s.heap.get? b = some o ∧ H b = none
  bsz : base.objs.size ≤ s.heap.objs.size
  funs : s.heap.FunFrames base outer
  frf : ∀ b ∈ frs outer, H b = none
  hok : HOk P w H s.heap
  bare : AllBare s.gens
def CE (outer : List Env) (P : Program) (w : World) (H : Hp) (s : Shared) (Q : VK) (u : Value) (s' : Shared) : Prop :=
  ∃ v H', s'.os = s.os ∧ AllBare s'.gens ∧ Un (frs outer) [] H H' s.heap s'.heap ∧ HOk P w H' s'.heap ∧ RelV v u ∧ Q v H'
def CR (CX : CXT) (outer : List Env) (P : Program) (w : World) (H : Hp) (s : Shared) (Q : VK) (E : XK) (r : Result) (s' : Shared) : Prop :=
  match r with
  | .ok (.ret u) => CE outer P w H s Q u s'
  | .ok _ => False
  | .error e => CX outer H s E e s'
structure FnOk (P : Program) (w : World) (K : PySem.W.Frag) (mg : Str → Option Value) (base : Heap) (CX : CXT) (k : Nat) (f : Addr) (fd : FuncData) (ps : List Str) (sp : Sp) : Prop where
  len : ∀ vs H Q E, sp vs H Q E → vs.length = ps.length
  run : ∀ (A : Around) (outer : List Env) (s : Shared) (H : Hp) (args : Args) (us : List Value) (vs : List V) (Q : VK) (E : XK), Room k A → Env0 P w K mg base A outer s H → BindsTo s fd args (ps.zip us) → Vals vs us → sp vs H Q E →
    codeAny (model P w) A (.call (.ref f) args) (CR CX outer P w H s Q E) s
theorem FnOk.mono {P : Program} {w : World} {K : PySem.W.Frag} {mg : Str → Option Value} {base : Heap} {CX : CXT} {j k : Nat} {f : Addr} {fd : FuncData} {ps : List Str} {sp : Sp} (F : FnOk P w K mg base CX j f fd ps sp) (h : j ≤ k) :
    FnOk P w K mg base CX k f fd ps sp := ⟨F.len, fun A outer s H args us vs Q E hr => F.run A outer s H args us vs Q E (hr.mono h)⟩
theorem FnOk.imp {P : Program} {w : World} {K : PySem.W.Frag} {mg : Str → Option Value} {base : Heap} {CX : CXT} {k : Nat} {f : Addr} {fd : FuncData} {ps : List Str} {sp sp' : Sp} (F : FnOk P w K mg base CX k f fd ps sp)
    (h : ∀ vs H Q E, sp' vs H Q E → sp vs H Q E) : FnOk P w K mg base CX k f fd ps sp' :=
  ⟨fun vs H Q E q => F.len vs H Q E (h _ _ _ _ q), fun A outer s H args us vs Q E hr he hb hv hs => F.run A outer s H args us vs Q E hr he hb hv (h _ _ _ _ hs)⟩
theorem Env0.make {P : Program} {w : World} {K : PySem.W.Frag} {mg : Str → Option Value} {base : Heap} {A : Around} {outer : List Env} {s : Shared} {H : Hp} (e : Env0 P w K mg base A outer s H) (C : Addr) (us : List Value) (kw : List (Str × Value)) :
    Env0 P w K mg base (A.under (.builtin "type.__call__" ⟨.ref C :: us, kw⟩)) outer s H := ⟨by first | exact e.frames | (simpa [Around.under, Code.envs, Code.isFrame, pushEnvs] using e.frames), e.mod, e.bs, e.bsz, e.funs, e.frf, e.hok, e.bare⟩
theorem Env0.in1 {P : Program} {w : World} {K : PySem.W.Frag} {mg : Str → Option Value} {base : Heap} {A : Around} {outer : List Env} {s : Shared} {H : Hp} (e : Env0 P w K mg base A outer s H) :
    Env0 P w K mg base A.in1 outer s H := ⟨e.frames, e.mod, e.bs, e.bsz, e.funs, e.frf, e.hok, e.bare⟩
section
variable {X : Cx} {pins : List (Addr × Obj)} {σ : St} {H : Hp} {s s' : Shared}
theorem Inv.env0 (I : Inv X pins σ H s) : Env0 X.prog X.w X.K X.mg X.base X.A X.stack s H :=
  ⟨I.ok.frames, I.ok.mod, I.bs, Nat.le_trans I.ok.bsz I.sz, I.stack, I.stkFree, I.hok, I.bare⟩
theorem Inv.after {Q : VK} {u : Value} (I : Inv X pins σ H s) (h : CE X.stack X.prog X.w H s Q u s') : EP X pins σ Q u s' := by
  obtain ⟨v, H', os, bare, un, hok, r, q⟩ := h
  obtain ⟨hh, g, d, t, os'⟩ := s'
  obtain rfl : os' = s.os := os
  exact ⟨v, H', I.call (h' := hh) (g' := g) (d' := d) (t' := t) (ch := []) un hok bare (fun b z => absurd z (by simp)), r, q⟩
end
def tCall (sp : Sp) (dvs : List V) (E : XK) (t : TA) : TE := fun σ H Q => t σ H fun vs H1 => sp (vs ++ dvs) H1 Q E
def tMeth (C : Addr) (m : Str) (sp : Sp) (dvs : List V) (E : XK) (ta : TE) (t : TA) : TE := fun σ H Q => ta σ H fun x H1 => ∃ a dx fs, x = .ref a ∧ H1 a = some (.ins C dx fs) ∧ fs.lookup m = none ∧
  t σ H1 fun vs H2 => sp (x :: (vs ++ dvs)) H2 Q E
def tMake (C : Addr) (sp : Sp) (dvs : List V) (E : XK) (t : TA) : TE := fun σ H Q => t σ H fun vs H1 => ∀ x dx, H1 x = none → H1 dx = none → dx ≠ x →
  sp (.ref x :: (vs ++ dvs)) (upd (upd H1 dx (.own x)) x (.ins C dx [])) (fun v H2 => v = .non ∧ Q (.ref x) H2) E
def Binds (K : PySem.W.Frag) (fd : FuncData) (ps : List Str) (ds : List Value) : Prop :=
  ∀ (s : Shared) (us : List Value), K.In s.heap → (us ++ ds).length = ps.length → BindsTo s fd ⟨us, []⟩ (ps.zip (us ++ ds))
theorem Binds.all {K : PySem.W.Frag} {fd : FuncData} {ps : List Str} (h : ∀ us : List Value, us.length = ps.length → bindArgs fd ⟨us, []⟩ = pure (ps.zip us)) : Binds K fd ps [] := fun s us _ hl => by
  rw [List.append_nil] at hl ⊢
  exact .of_eq (h us hl)
def Passes (CX : CXT) (X : Cx) (E : XK) : Prop := ∀ (pins : List (Addr × Obj)) (σ : St) (H : Hp) (s : Shared) (e : Value) (s' : Shared), Inv X pins σ H s → CX X.stack H s E e s' → X.xe e s'
section
variable {X : Cx} {CX : CXT} {k : Nat} {f C : Addr} {fd : FuncData} {ps : List Str} {sp : Sp} {dvs : List V} {ds : List Value} {E : XK} {x m : Str} {p pos apos : Pos} {e o : Expr} {es : List Expr} {ta : TE} {t : TA}
theorem run_fn {pins : List (Addr × Obj)} {σ : St} {H : Hp} {s : Shared} {Q : VK} {us : List Value} {vs : List V} (F : FnOk X.prog X.w X.K X.mg X.base CX k f fd ps sp) (hr : Room k X.A) (hb : Binds X.K fd ps ds) (hd : Vals dvs ds) (hx : Passes CX X E)
    (I : Inv X pins σ H s) (r : Vals vs us) (h : sp (vs ++ dvs) H Q E) : wpAny (model X.prog X.w) X.A (call (.ref f) us) (EP X pins σ Q) X.xe s := by
  have r2 : Vals (vs ++ dvs) (us ++ ds) := r.append hd
  have hl : (us ++ ds).length = ps.length := by rw [← r2.length]; exact F.len _ _ _ _ h
  refine wpAny_call (codeAny_mono (F.run X.A X.stack s H ⟨us, []⟩ (us ++ ds) (vs ++ dvs) Q E hr I.env0 (hb s us I.kIn hl) r2 h) fun r s' hq => ?_)
  cases r with
  | error e => exact hx pins σ H s e s' I hq
  | ok fl =>
    cases fl with
    | ret u => exact I.after hq
    | next => exact False.elim hq
    | brk => exact False.elim hq
    | cont => exact False.elim hq
theorem pe_call (F : FnOk X.prog X.w X.K X.mg X.base CX k f fd ps sp) (hr : Room k X.A) (hg : Gl X x) (hm : X.mg x = some (.ref f)) (hk : PySem.W.keepIn X.K (.ref f) = true) (hb : Binds X.K fd ps ds) (hd : Vals dvs ds) (hx : Passes CX X E)
    (ha : PA X (e :: es) t) (hdb : (x == ("__debug__" : Str)) = false := by decide) (he : starEach (e :: es) X.env = (false, eval e X.env) :: starEach es X.env := by rfl) (hpl : (backTo pos (starEach es X.env)).any (·.1) = false := by rfl) :
    PE X (.Call (.Name x p) (e :: es) [] pos) (tCall sp dvs E t) := by
  intro pins s σ H Q I h
  refine wpAny_Call_Name_kw (ld_glob I hg hm ?_ hdb)
  refine PySem.W.callWith_K (h₀ := X.base) I.ok.mod.kin hk (thn (ha pos pins s σ H _ I h) fun us s1 ⟨vs, H1, I1, r, q⟩ => ⟨I1.kIn, ?_⟩) he hpl
  exact run_fn F hr hb hd hx I1 r q
structure Mk (K : PySem.W.Frag) (C f : Addr) : Prop where
  makes : PySem.W.makesIn K C = true
  init : PySem.W.findIn K (.ref C) "__init__" = some (some (.ref f))
  fn : PySem.W.isFn K (.ref f) = true
  kp : PySem.W.keepIn K (.ref C) = true
end
def PK (X : Cx) (kws : List Keyword) (t : TA) : Prop :=
  ∀ (pos : Pos) (pins : List (Addr × Obj)) (s : Shared) (σ : St) (H : Hp) (Q : List V → Hp → Prop), Inv X pins σ H s → t σ H Q → wpAny (model X.prog X.w) X.A (evalAll ((backToKw pos (keywordEach kws X.env)).map (·.2))) (AP X pins σ Q) X.xe s
section
variable {X : Cx} {CX : CXT} {k : Nat} {f C : Addr} {fd : FuncData} {ps ks : List Str} {sp : Sp} {E : XK} {x m : Str} {p pos apos kpos : Pos} {e o : Expr} {es : List Expr} {kws : List Keyword} {te ta : TE} {t tk : TA} {nm : Option Str}
theorem pk_nil : PK X [] tNil := fun _ _ _ _ H Q I h => wpAny_evalAll_nil ⟨[], H, I, .nil, h⟩
theorem pk_cons (ha : PE X e te) (hr : PK X kws t) : PK X (⟨nm, e, kpos⟩ :: kws) (tCons te t) := by
  intro pos pins s σ H Q I h
  show wpAny _ _ (evalAll ((do let v ← eval e X.env; standAt pos; pure v) :: (backToKw pos (keywordEach kws X.env)).map (·.2))) _ _ s
  refine wpAny_evalAll_cons (wpAny_bind (thn (ha pins s σ H _ I h) fun u s1 ⟨x, H1, I1, r1, q1⟩ => wpAny_bind (wpAny_standAt (wpAny_pure ?_))))
  exact thn (hr pos pins s1 σ H1 _ I1 q1) fun us s2 ⟨xs, H2, I2, r2, q2⟩ => ⟨x :: xs, H2, I2, .cons r1 r2, q2⟩
structure KBinds (K : PySem.W.Frag) (fd : FuncData) (ps ks : List Str) (g : List Value → List Value → List Value) (gV : List V → List V → List V) : Prop where
  to : ∀ (s : Shared) (us ws : List Value), K.In s.heap → (g us ws).length = ps.length → BindsTo s fd ⟨us, ks.zip ws⟩ (ps.zip (g us ws))
  rel : ∀ {vs : List V} {us : List Value} {zs : List V} {ws : List Value}, Vals vs us → Vals zs ws → Vals (gV vs zs) (g us ws)
def tCallK (sp : Sp) (gV : List V → List V → List V) (E : XK) (t tk : TA) : TE := fun σ H Q => t σ H fun vs H1 => tk σ H1 fun zs H2 => sp (gV vs zs) H2 Q E
variable {g : List Value → List Value → List Value} {gV : List V → List V → List V}
end
structure FnScope (N P : List Str) (sc : Scope) : Prop where
  kind : sc.kind = .function
  co : sc.isCoroutine = false
  gen : sc.isGenerator = false
  nd : N.Nodup
  pre : N.take P.length = P
  par : ∀ x ∈ P, sc.names.lookup x = some .local ∨ sc.names.lookup x = some .cell
  nofree : ∀ y ∈ sc.names, y.2 ≠ .free
theorem bindL_out {kindOf : Str → Option NameKind} {x : Str} : ∀ {binds : List (Str × Value)} {m : Str → Option Value}, (∀ v, (x, v) ∉ binds) → bindL kindOf binds m x = m x
  | [], _, _ => rfl
  | (n, v) :: r, m, h => by
    unfold bindL
    rw [bindL_out fun w hw => h w (List.mem_cons_of_mem _ hw)]
    split
    · have : x ≠ n := by rintro rfl; exact h v List.mem_cons_self
      simp [this]
    · rfl
theorem bindC_out {kindOf : Str → Option NameKind} {x : Str} : ∀ {binds : List (Str × Value)} {m : Str → Option Value}, (∀ v, (x, v) ∉ binds) → bindC kindOf binds m x = m x
  | [], _, _ => rfl
  | (n, v) :: r, m, h => by
    unfold bindC
    rw [bindC_out fun w hw => h w (List.mem_cons_of_mem _ hw)]
    split
    · rfl
    · have : x ≠ n := by rintro rfl; exact h v List.mem_cons_self
      simp [this]
theorem bindL_get {kindOf : Str → Option NameKind} {x : Str} {v : Value} : ∀ {P : List Str} {vs : List Value} {i : Nat} {m : Str → Option Value}, P.Nodup → P[i]? = some x → vs[i]? = some v → kindOf x = some .local →
    bindL kindOf (P.zip vs) m x = some v
  | [], _, _, _, _, h, _, _ => by simp at h
  | _ :: _, [], _, _, _, _, h, _ => by simp at h
  | p :: P, w :: vs, 0, m, nd, h1, h2, hk => by
    simp at h1 h2; subst h1; subst h2
    show bindL kindOf ((p, w) :: P.zip vs) m p = _
    unfold bindL
    rw [bindL_out fun v hv => (List.nodup_cons.mp nd).1 (List.of_mem_zip hv).1, if_pos hk]
    simp
  | p :: P, w :: vs, i + 1, m, nd, h1, h2, hk => by
    show bindL kindOf ((p, w) :: P.zip vs) m x = _
    unfold bindL
    exact bindL_get (i := i) (List.nodup_cons.mp nd).2 (by simpa using h1) (by simpa using h2) hk
theorem bindC_get {kindOf : Str → Option NameKind} {x : Str} {v : Value} : ∀ {P : List Str} {vs : List Value} {i : Nat} {m : Str → Option Value}, P.Nodup → P[i]? = some x → vs[i]? = some v → kindOf x ≠ some .local →
    bindC kindOf (P.zip vs) m x = some v
  | [], _, _, _, _, h, _, _ => by simp at h
  | _ :: _, [], _, _, _, _, h, _ => by simp at h
  | p :: P, w :: vs, 0, m, nd, h1, h2, hk => by
    simp at h1 h2; subst h1; subst h2
    show bindC kindOf ((p, w) :: P.zip vs) m p = _
    unfold bindC
    rw [bindC_out fun v hv => (List.nodup_cons.mp nd).1 (List.of_mem_zip hv).1, if_neg hk]
    simp
  | p :: P, w :: vs, i + 1, m, nd, h1, h2, hk => by
    show bindC kindOf ((p, w) :: P.zip vs) m x = _
    unfold bindC
    exact bindC_get (i := i) (List.nodup_cons.mp nd).2 (by simpa using h1) (by simpa using h2) hk
def start (N : List Str) (vs : List V) : St := vs.map some ++ List.replicate (N.length - vs.length) none
def cxOf (CX : CXT) (P : Program) (w : World) (K : PySem.W.Frag) (mg : Str → Option Value) (base : Heap) (N : List Str) (qual : Str) (scope : Scope) (f : Addr) (cd : Value) (A : Around) (outer : List Env) (s : Shared) (H : Hp) (E : XK) : Cx where
  prog := P
  w := w
  K := K
  mg := mg
  base := base
  A := A.deeper (envOfC qual scope s.heap.objs.size f cd)
  N := N
  s₀ := s
  H₀ := H
  env := envOfC qual scope s.heap.objs.size f cd
  outer := outer
  stack := envOfC qual scope s.heap.objs.size f cd :: outer
  ex := []
  calm := true
  fn := fun _ => true
  pn := []
  xe := fun e s' => wpAny (model P w) (A.deeper (envOfC qual scope s.heap.objs.size f cd)) (leaving (envOfC qual scope s.heap.objs.size f cd) e) (fun _ s'' => CX outer H s E e s'') (fun e' s'' => CX outer H s E e' s'') s'
theorem cell_has {sc : Scope} {n : Nat} {x : Str} (h : sc.names.lookup x = some .cell) : ∃ c, (cellsFrom n sc.names []).lookup x = some c := by
  have q := PySem.W.cellsFrom_some sc.names n [] (.inl h)
  exact Option.isSome_iff_exists.mp q
theorem inv_start {CX : CXT} {P : Program} {w : World} {K : PySem.W.Frag} {mg : Str → Option Value} {base : Heap} {N ps : List Str} {qual : Str} {scope : Scope} {f : Addr} {cd : Value} {A : Around} {outer : List Env} {s s1 : Shared} {H : Hp} {E : XK} {us : List Value} {vs : List V}
    (S : FnScope N ps scope) (hd : A.handled = none) (e0 : Env0 P w K mg base A outer s H) (hl : vs.length = ps.length) (r : Vals vs us)
    (x : InCallC s s.heap.objs.size (bindL (envOfC qual scope s.heap.objs.size f cd).kindOf (ps.zip us) fun _ => none) (cellsFrom (s.heap.objs.size + 1) scope.names []) (bindC (envOfC qual scope s.heap.objs.size f cd).kindOf (ps.zip us) fun _ => none) s1) :
    Inv (cxOf CX P w K mg base N qual scope f cd A outer s H E) [] (start N vs) H s1 := by
  have hpl : ps.length ≤ N.length := by have := congrArg List.length S.pre; rw [List.length_take] at this; omega
  obtain ⟨h1, tk, rfl, hk⟩ := x.done
  have noA : ∀ b : Addr, b ∉ (cxOf CX P w K mg base N qual scope f cd A outer s H E).ex := fun b z => absurd (show b ∈ ([] : List Addr) from z) (by simp)
  refine ⟨⟨e0.mod, S.kind, rfl, rfl, Nat.le_refl _, fun y z c h1 h2 => ?_, fun y hy => ?_, fun y c _ h => ?_, fun _ => hd, Around.frames_deeper e0.frames, .inr ⟨rfl, rfl⟩, fun b z => absurd z (noA b), e0.bs, e0.bsz, fun b _ _ => noA b, fun b z => absurd z (noA b), e0.funs, e0.frf⟩,
    rfl, e0.bare, Un.kept hk, ⟨_, x.toInCall.ns, fun i y v h1 h2 h3 => ?_⟩, fun y c h => ⟨_, x.cell y c h⟩, e0.hok.fresh (Nat.le_refl _), fun y c h => ?_, fun p hp => absurd (show p ∈ ([] : List (Addr × Obj)) from hp) (by simp), e0.hok.kept hk, ?_⟩
  · exact name_of_addr x.apart (PySem.mem_of_lookup h1) (PySem.mem_of_lookup h2)
  · have hy : scope.names.lookup y = some .cell ∨ scope.names.lookup y = some .free := hy
    rcases hy with hy | hy
    · exact cell_has hy
    · exact absurd rfl (S.nofree _ (PySem.mem_of_lookup hy))
  · exact Nat.le_of_lt (x.above y c (PySem.mem_of_lookup h))
  · have hi : i < vs.length := by
      unfold start at h2
      by_cases hi : i < vs.length
      · exact hi
      · rw [List.getElem?_append_right (by simpa using hi)] at h2
        rw [List.getElem?_replicate] at h2
        split at h2 <;> cases h2
    have ha : vs[i]? = some v := by
      unfold start at h2
      rw [List.getElem?_append_left (by simpa using hi), List.getElem?_map] at h2
      cases e : vs[i]? with
      | none => rw [e] at h2; cases h2
      | some a => rw [e] at h2; cases h2; rfl
    obtain ⟨u, hu, rv⟩ := r.get ha
    have hp : ps[i]? = some y := by
      rw [← S.pre, List.getElem?_take_of_lt (by omega)]; exact h1
    have ndP : ps.Nodup := by rw [← S.pre]; exact S.nd.sublist (List.take_sublist _ _)
    refine ⟨u, rv, ?_⟩
    rcases S.par y (List.mem_of_getElem? hp) with k | k
    · exact .inl ⟨k, bindL_get ndP hp hu k⟩
    · obtain ⟨c, e⟩ := cell_has (n := s.heap.objs.size + 1) k
      refine .inr ⟨.inl k, c, e, ?_⟩
      have q := x.cell y c e
      rw [bindC_get ndP hp hu (by show scope.names.lookup y ≠ _; rw [k]; decide)] at q
      exact q
  · exact e0.hok.fresh (Nat.le_of_lt (x.above y c (PySem.mem_of_lookup h)))
  · unfold start
    show _ = N.length
    rw [List.length_append, List.length_map, List.length_replicate]
    omega
theorem fn_of {CX : CXT} {P : Program} {w : World} {K : PySem.W.Frag} {mg : Str → Option Value} {base : Heap} {k : Nat} {f : Addr} {name qual : Str} {params : Arguments} {body : List Stmt} {scope : Scope} {dV kV doc pm cdv ct oc : Value} {an od : Option Addr}
    {osl : Array (Option Value)} {N ps : List Str} {sp : Sp} (lk : K.lookup f = some ⟨oc, od, .func (PySem.W.fnOf name qual params body scope dV kV doc pm an cdv ct), osl⟩) (hcd : PySem.W.codeIn K cdv qual = true) (S : FnScope N ps scope)
    (len : ∀ vs H Q E, sp vs H Q E → vs.length = ps.length)
    (hbody : ∀ (A : Around) (outer : List Env) (s : Shared) (H : Hp) (vs : List V) (Q : VK) (E : XK), Room k (A.deeper (envOfC qual scope s.heap.objs.size f cdv)) → sp vs H Q E →
      ∃ t, PSs (cxOf CX P w K mg base N qual scope f cdv A outer s H E) body t ∧ t { nx := fun _ H' => Q .non H', rt := Q } (start N vs) H) :
    FnOk P w K mg base CX (k + 1) f (PySem.W.fnOf name qual params body scope dV kV doc pm an cdv ct) ps sp := by
  refine ⟨len, fun A outer s H args us vs Q E hr e0 hb r hsp => ?_⟩
  have hl := len _ _ _ _ hsp
  have KX : K.In s.heap := e0.mod.kin.keeps fun b o e => (e0.bs b o e).1
  have lim : s.heap.NoLimit := e0.mod.nolimit.keeps fun b o e => (e0.bs b o e).1
  have hkind : ∀ y ∈ ps.zip us, scope.names.lookup y.1 = some .local ∨ (scope.names.lookup y.1 = some .cell ∧ ((cellsFrom (s.heap.objs.size + 1) scope.names []).lookup y.1).isSome = true) := fun ⟨n, v⟩ hy => by
    rcases S.par n (List.of_mem_zip hy).1 with q | q
    · exact .inl q
    · exact .inr ⟨q, PySem.W.cellsFrom_some _ _ _ (.inl q)⟩
  refine codeAny_call_function hr.depth (KX _ _ lk) rfl S.co S.gen rfl (PySem.W.codeRec_of KX hcd) (hb _ _ _ _ ?_)
  refine wpAny_newFunctionEnv_cells S.kind hkind fun env he s1 x => ?_
  subst he
  refine ⟨lim.keeps x.toInCall.keep, codeAny_func ?_⟩
  obtain ⟨t, ht, hq⟩ := hbody A outer s H vs Q E (hr.deeper _) hsp
  have I : Inv (cxOf CX P w K mg base N qual scope f cdv A outer s H E) [] (start N vs) H s1 := inv_start S hr.hd e0 hl r x
  refine wpAny_mono (ht [] s1 (start N vs) H _ I hq) (fun fl s' hs => ?_) fun e s' hs => hs
  have fin : ∀ {σ' : St} {H' : Hp} {v : V} {u : Value}, Inv (cxOf CX P w K mg base N qual scope f cdv A outer s H E) [] σ' H' s' → RelV v u → Q v H' → CE outer P w H s Q u s' :=
    fun {σ' H' v u} J rv q => ⟨v, H', J.os, J.bare, J.base, J.hok, rv, q⟩
  cases fl with
  | ret u =>
    obtain ⟨v, σ', H', J, rv, q⟩ := hs
    exact fin J rv q
  | next =>
    obtain ⟨σ', H', J, q⟩ := hs
    exact fin (v := V.non) (u := Value.none) J rfl q
  | brk =>
    obtain ⟨_, _, _, q⟩ := hs
    exact False.elim q
  | cont =>
    obtain ⟨_, _, _, q⟩ := hs
    exact False.elim q
end L2
namespace L2
open PySem PySem.Spec PyProof.Rows
section
variable {X : Cx} {x : Str} {p pos : Pos} {e : Expr} {es : List Expr} {t : TA} {id T : String} {r : List V → Hp → VK → Prop}
def tCB (r : List V → Hp → VK → Prop) (t : TA) : TE := fun σ H Q => t σ H fun vs H1 => r vs H1 Q
theorem pe_callB (hc : CallR X (.builtin id) r) (hg : Gl X x) (hm : X.mg x = none) (hv : bootBuiltins x = some (.builtin id)) (ha : PA X (e :: es) t) (hn : x ≠ "__name__" := by decide) (hdb : (x == ("__debug__" : Str)) = false := by decide)
    (he : starEach (e :: es) X.env = (false, eval e X.env) :: starEach es X.env := by rfl) (hpl : (backTo pos (starEach es X.env)).any (·.1) = false := by rfl) : PE X (.Call (.Name x p) (e :: es) [] pos) (tCB r t) := by
  intro pins s σ H Q I h
  refine wpAny_Call_Name_kw (ld_blt I hg hm hv ?_ hn hdb)
  exact PyProof.Rows.callWith_builtin1 (thn (ha pos pins s σ H _ I h) fun us s1 ⟨vs, H1, I1, r1, q1⟩ => hc pins s1 σ H1 vs us Q I1 r1 q1) he hpl
theorem pe_callTy (hc : CallR X (.type T) r) (hg : Gl X x) (hm : X.mg x = none) (hv : bootBuiltins x = some (.type T)) (ha : PA X (e :: es) t) (hn : x ≠ "__name__" := by decide) (hdb : (x == ("__debug__" : Str)) = false := by decide)
    (he : starEach (e :: es) X.env = (false, eval e X.env) :: starEach es X.env := by rfl) (hpl : (backTo pos (starEach es X.env)).any (·.1) = false := by rfl) : PE X (.Call (.Name x p) (e :: es) [] pos) (tCB r t) := by
  intro pins s σ H Q I h
  refine wpAny_Call_Name_kw (ld_blt I hg hm hv ?_ hn hdb)
  exact PyProof.Rows.callWith_type1 (thn (ha pos pins s σ H _ I h) fun us s1 ⟨vs, H1, I1, r1, q1⟩ => hc pins s1 σ H1 vs us Q I1 r1 q1) he hpl
end
end L2
namespace HT
open PySem PyProof.Rows
def lexLt : List Int → List Int → Bool
  | [], [] => false
  | [], _ :: _ => true
  | _ :: _, [] => false
  | x :: xs, y :: ys => if x = y then lexLt xs ys else decide (x < y)
section
open PySem.SeqAt
open PySem.AutoSeq1 (wpAny_loadPart')
open PySem.MeetsSeq PySem.MeetsSeq2 PySem.MeetsSeq3
end
section
variable {prog : Program} {w : World} {A : Around} {E : Value → Shared → Prop} {s : Shared}
def sIx (n d : Nat) : Option Int → Nat
  | none => d
  | some v => if v < 0 then (v + (n : Int)).toNat else min v.toNat n
end
end HT
namespace L2
open PySem PySem.Spec PyProof.Rows
abbrev TO := St → Hp → (Option Int → Hp → Prop) → Prop
def PO (X : Cx) (e : Option Expr) (t : TO) : Prop :=
  ∀ (pins : List (Addr × Obj)) (s : Shared) (σ : St) (H : Hp) (Q : Option Int → Hp → Prop), Inv X pins σ H s → t σ H Q →
    wpAny (model X.prog X.w) X.A (evalPart e X.env) (fun u s' => ∃ o H', Inv X pins σ H' s' ∧ IsPart u o ∧ Q o H') X.xe s
def tNoPart : TO := fun _ H Q => Q none H
def tPart (t : TE) : TO := fun σ H Q => t σ H fun x H1 => ∃ i, x = .int i ∧ Q (some i) H1
section
variable {X : Cx} {e : Expr} {te : TE} {lo hi : Option Expr} {tl th : TO} {pos p2 : Pos}
def SlR (X : Cx) (r : V → Option Int → Option Int → Hp → VK → Prop) : Prop :=
  ∀ (pins : List (Addr × Obj)) (s : Shared) (σ : St) (H : Hp) (x : V) (v vl vu : Value) (lo hi : Option Int) (sl : Addr) (Q : VK), Inv X pins σ H s → RelV x v → s.heap.IsSliceOf sl vl vu .none → IsPart vl lo → IsPart vu hi → r x lo hi H Q →
    ∃ T id, typeLookup (.type T) "__getitem__" = pure (some (.builtin id)) ∧ s.TypeIs v T ∧ wpAny (model X.prog X.w) X.A (getItem v (.ref sl)) (EP X pins σ Q) X.xe s
theorem SlR.or {r r' : V → Option Int → Option Int → Hp → VK → Prop} (h : SlR X r) (h' : SlR X r') : SlR X (fun x lo hi H Q => r x lo hi H Q ∨ r' x lo hi H Q) := by
  intro pins s σ H x v vl vu lo hi sl Q I rx hs pl pu q
  rcases q with q | q
  · exact h pins s σ H x v vl vu lo hi sl Q I rx hs pl pu q
  · exact h' pins s σ H x v vl vu lo hi sl Q I rx hs pl pu q
def tSl (r : V → Option Int → Option Int → Hp → VK → Prop) (te : TE) (tl th : TO) : TE := fun σ H Q => te σ H fun x H1 => tl σ H1 fun l H2 => th σ H2 fun u H3 => r x l u H3 Q
def cutV (xs : List V) (lo hi : Option Int) : List V := (xs.drop (HT.sIx xs.length 0 lo)).take (HT.sIx xs.length xs.length hi - HT.sIx xs.length 0 lo)
theorem cutV_length (xs : List V) (lo hi : Option Int) : (cutV xs lo hi).length ≤ xs.length := by
  unfold cutV
  rw [List.length_take, List.length_drop]
  omega
def rSlT (K : PySem.W.Frag) : V → Option Int → Option Int → Hp → VK → Prop := fun x lo hi H Q => ∃ a xs, x = .ref a ∧ SqT K H a xs ∧
  ¬ (HT.sIx xs.length 0 lo = 0 ∧ HT.sIx xs.length xs.length hi = xs.length) ∧ ∀ p, H p = none → Q (.ref p) (upd H p (.tup (cutV xs lo hi)))
def rLtT (K : PySem.W.Frag) : R2 := fun x y H Q => ∃ a b ns ms, x = .ref a ∧ y = .ref b ∧ SqT K H a (ns.map V.int) ∧ SqT K H b (ms.map V.int) ∧ Q (.bl (HT.lexLt ns ms)) H
def rCatT (K : PySem.W.Frag) : R2 := fun x y H Q => ∃ a b xs ys, x = .ref a ∧ y = .ref b ∧ SqT K H a xs ∧ SqT K H b ys ∧ xs ≠ [] ∧ xs.length + ys.length ≤ sizeLine ∧
  (ys = [] → Q (.ref a) H) ∧ (ys ≠ [] → ∀ p, H p = none → Q (.ref p) (upd H p (.tup (xs ++ ys))))
end
end L2
namespace L2
open PySem PySem.Spec PyProof.Rows
def ixN (n : Nat) (i : Int) : Option Nat := if 0 ≤ i then (if i < n then some i.toNat else none) else if -(n : Int) ≤ i then some (i + n).toNat else none
def atI {α : Type} (xs : List α) (i : Int) : Option α := (ixN xs.length i).bind fun j => xs[j]?
theorem ixN_seq {n : Nat} {i : Int} {j : Nat} (h : ixN n i = some j) : seqIndex? i n = some j ∧ j < n ∧ -(n : Int) ≤ i ∧ i < n := by
  unfold ixN at h
  by_cases h0 : 0 ≤ i
  · rw [if_pos h0] at h
    by_cases h1 : i < n
    · rw [if_pos h1] at h
      have e : i.toNat = j := Option.some.inj h
      exact ⟨by rw [seqIndex_of h0 h1, e], by omega, by omega, h1⟩
    · rw [if_neg h1] at h; cases h
  · rw [if_neg h0] at h
    by_cases h1 : -(n : Int) ≤ i
    · rw [if_pos h1] at h
      have e : (i + n).toNat = j := Option.some.inj h
      exact ⟨by rw [seqIndex_neg (by omega) h1, e], by omega, h1, by omega⟩
    · rw [if_neg h1] at h; cases h
theorem atI_get {α : Type} {xs : List α} {i : Int} {v : α} (h : atI xs i = some v) : ∃ j, seqIndex? i xs.length = some j ∧ xs[j]? = some v ∧ j < xs.length ∧ -(xs.length : Int) ≤ i ∧ i < xs.length := by
  unfold atI at h
  cases e : ixN xs.length i with
  | none => rw [e] at h; cases h
  | some j =>
    rw [e] at h
    obtain ⟨h1, h2, h3, h4⟩ := ixN_seq e
    exact ⟨j, h1, h, h2, h3, h4⟩
theorem atI_nat {α : Type} {xs : List α} {j : Nat} {v : α} (h : xs[j]? = some v) : atI xs (j : Int) = some v := by
  have hj : j < xs.length := (List.getElem?_eq_some_iff.mp h).1
  have e : ixN xs.length (j : Int) = some j := by
    unfold ixN
    rw [if_pos (by omega), if_pos (by omega)]; simp
  unfold atI; rw [e]; exact h
theorem atI_last {α : Type} (xs : List α) (v : α) : atI (xs ++ [v]) (-1) = some v := by
  have hl : (xs ++ [v]).length = xs.length + 1 := by simp
  have e : ixN (xs ++ [v]).length (-1) = some xs.length := by
    unfold ixN
    rw [hl, if_neg (by decide), if_pos (by omega)]
    congr 1
    omega
  unfold atI
  rw [e]
  show (xs ++ [v])[xs.length]? = some v
  simp
def PlainIx (b : Expr) : Prop := ∀ o i, subscripted b false o i = operate [o, i] (getItem o i)
def IxR (X : Cx) (r : R2) : Prop :=
  ∀ (value slice : Expr) (pins : List (Addr × Obj)) (s : Shared) (σ : St) (H : Hp) (x y : V) (v u : Value) (Q : VK), Inv X pins σ H s → RelV x v → RelV y u → r x y H Q →
    subscripted slice false v u = operate [v, u] (getItem v u) → wpAny (model X.prog X.w) X.A (subscriptTail value slice v u) (EP X pins σ Q) X.xe s
def MtR (X : Cx) (id : String) (r : V → List V → Hp → VK → Prop) : Prop :=
  ∀ (pins : List (Addr × Obj)) (s : Shared) (σ : St) (H : Hp) (x : V) (xs : List V) (v : Value) (us : List Value) (Q : VK), Inv X pins σ H s → RelV x v → Vals xs us → r x xs H Q →
    wpAny (model X.prog X.w) X.A (call (.builtin id) (v :: us)) (EP X pins σ Q) X.xe s
section
variable {X : Cx} {a b : Expr} {ta tb : TE} {pos : Pos}
theorem IxR.or {r r' : R2} (h : IxR X r) (h' : IxR X r') : IxR X (fun x y H Q => r x y H Q ∨ r' x y H Q) := by
  intro value slice pins s σ H x y v u Q I rx ry q hs
  rcases q with q | q
  · exact h value slice pins s σ H x y v u Q I rx ry q hs
  · exact h' value slice pins s σ H x y v u Q I rx ry q hs
theorem MtR.or {id : String} {r r' : V → List V → Hp → VK → Prop} (h : MtR X id r) (h' : MtR X id r') : MtR X id (fun x xs H Q => r x xs H Q ∨ r' x xs H Q) := by
  intro pins s σ H x xs v us Q I rx rs q
  rcases q with q | q
  · exact h pins s σ H x xs v us Q I rx rs q
  · exact h' pins s σ H x xs v us Q I rx rs q
theorem pe_ix {r : R2} (hr : IxR X r) (ha : PE X a ta) (hb : PE X b tb) (hs : PlainIx b) : PE X (.Subscript a b pos) (tOp r ta tb) := by
  intro pins s σ H Q I h
  exact Subscript_ (binT ha hb I h fun v u s2 x y H2 I2 rx ry q => hr a b pins s2 σ H2 x y v u Q I2 rx ry q (hs _ _))
def rIxL (K : PySem.W.Frag) : R2 := fun x y H Q => ∃ p xs i v, x = .ref p ∧ y = .int i ∧ SqL K H p xs ∧ atI xs i = some v ∧ Q v H
def rIxT (K : PySem.W.Frag) : R2 := fun x y H Q => ∃ p xs i v, x = .ref p ∧ y = .int i ∧ SqT K H p xs ∧ atI xs i = some v ∧ Q v H
def rIxS : R2 := fun x y H Q => ∃ z i c, x = .str z ∧ y = .int i ∧ z.length ≤ sizeLine ∧ atI z.cps.toList i = some c ∧ Q (.str ⟨#[c]⟩) H
theorem ix_list : IxR X (rIxL X.K) := by
  intro value slice pins s σ H x y v u Q I rx ry h hs
  obtain ⟨p, xs, i, z, rfl, rfl, hq, he, q⟩ := h
  cases rx
  obtain ⟨t, rfl⟩ := ry
  obtain ⟨its, r, pl, hz⟩ := I.list hq
  obtain ⟨j, h1, h2, h3, h4, h5⟩ := atI_get he
  obtain ⟨w, ew, rw'⟩ := r.get h2
  have hl := r.length
  have hn := line63
  have fin : EP X pins σ Q w s := ⟨z, H, I, rw', q⟩
  by_cases h0 : 0 ≤ i
  · have hj : i.toNat = j := by
      rw [seqIndex_of h0 h5] at h1
      exact Option.some.inj h1
    exact item_listR pl.isList h0 (by omega) (by rw [hj]; simpa using ew) fin hs
  · have hj : (i + (its.toArray.size : Int)).toNat = j := by
      rw [seqIndex_neg (by omega) h4] at h1
      rw [List.size_toArray, ← hl]
      exact Option.some.inj h1
    exact subscriptTail_builtinR (x := w) pl.isList.typeIs slot_list_getitem.lookup
      (wpAny_getItem_list_neg (Q := fun r s' => r = w ∧ EP X pins σ Q r s') pl.isList (by omega) (by rw [List.size_toArray] <;> omega) (by omega) (by rw [hj]; simpa using ew) ⟨rfl, fin⟩) hs
theorem ix_tup : IxR X (rIxT X.K) := by
  intro value slice pins s σ H x y v u Q I rx ry h hs
  obtain ⟨p, xs, i, z, rfl, rfl, hq, he, q⟩ := h
  cases rx
  obtain ⟨t, rfl⟩ := ry
  obtain ⟨its, r, pl, hz⟩ := I.tuple hq
  obtain ⟨j, h1, h2, h3, h4, h5⟩ := atI_get he
  obtain ⟨w, ew, rw'⟩ := r.get h2
  have hl := r.length
  have hn := line63
  have fin : EP X pins σ Q w s := ⟨z, H, I, rw', q⟩
  exact subscriptTail_builtinR (x := w) pl.typeIs slot_tuple_getitem.lookup
    (getItem_tuple (j := j) (Q := fun r s' => r = w ∧ EP X pins σ Q r s') pl (by omega) (by omega) (by rw [List.size_toArray, ← hl]; exact h1) (by simpa using ew) ⟨rfl, fin⟩) hs
theorem ix_str : IxR X rIxS := by
  intro value slice pins s σ H x y v u Q I rx ry h hs
  obtain ⟨z, i, c, rfl, rfl, hz, he, q⟩ := h
  obtain ⟨t, rfl⟩ := rx
  obtain ⟨t', rfl⟩ := ry
  obtain ⟨j, h1, h2, h3, h4, h5⟩ := atI_get he
  have hl : z.cps.toList.length = z.length := by simp [Str.length]
  rw [hl] at h1 h4 h5
  have hn := line63
  exact tail_any (typeIs_str s z t) slot_str_getitem.lookup (getItem_str (c := c) (by
    have e1 : decide (i < -(2 ^ 63 : Int)) = false := decide_eq_false (by omega)
    have e2 : decide (i ≥ 2 ^ 63) = false := decide_eq_false (by omega)
    rw [e1, e2, Bool.or_false]) (by rw [h1]; simpa using h2) ⟨.str ⟨#[c]⟩, H, I.tok _, ⟨_, rfl⟩, q⟩) hs
def rIx (K : PySem.W.Frag) : R2 := fun x y H Q => rIxL K x y H Q ∨ rIxT K x y H Q ∨ rIxS x y H Q
theorem Inv.lst {pins : List (Addr × Obj)} {σ : St} {H : Hp} {s : Shared} {p : Addr} {xs : List V} (I : Inv X pins σ H s) (h : H p = some (.lst xs)) :
    ∃ (its : List Value) (n : Nat), Vals xs its ∧ s.heap.get? p = some { cls := .type "list", data := .seq its.toArray n } ∧ xs.length ≤ sizeLine := by
  obtain ⟨z, its, n, r, e⟩ := I.hok p _ h
  exact ⟨its, n, r, e, z⟩
def rSetL : V → V → V → Hp → (Hp → Prop) → Prop := fun o i v H Q => ∃ p xs k j, o = .ref p ∧ i = .int k ∧ H p = some (.lst xs) ∧ ixN xs.length k = some j ∧ Q (upd H p (.lst (xs.set j v)))
theorem slice_bounds (lo hi : Option Int) (n : Nat) : (sliceBounds lo hi none n).1 = ((HT.sIx n 0 lo : Nat) : Int) ∧ (sliceBounds lo hi none n).2.1 = ((HT.sIx n n hi : Nat) : Int) ∧ (sliceBounds lo hi none n).2.2 = 1 := by
  refine ⟨?_, ?_, rfl⟩
  · cases lo with
    | none => simp [sliceBounds, HT.sIx]
    | some i =>
      simp only [sliceBounds, HT.sIx, Option.getD_none, show (1 : Int) > 0 by decide, if_true]
      by_cases h : i < 0
      · simp only [h, if_true] <;> omega
      · simp only [h, if_false] <;> omega
  · cases hi with
    | none => simp [sliceBounds, HT.sIx]
    | some i =>
      simp only [sliceBounds, HT.sIx, Option.getD_none, show (1 : Int) > 0 by decide, if_true]
      by_cases h : i < 0
      · simp only [h, if_true] <;> omega
      · simp only [h, if_false] <;> omega
theorem slicePick_cut (its : List Value) (lo hi : Option Int) : slicePick its.toArray lo hi none = ((its.drop (HT.sIx its.length 0 lo)).take (HT.sIx its.length its.length hi - HT.sIx its.length 0 lo)).toArray := by
  obtain ⟨h1, h2, h3⟩ := slice_bounds lo hi its.toArray.size
  unfold slicePick
  rw [h1, h2, h3]
  simp only [sliceRange_one, pick_run, List.size_toArray] <;> rfl
def rSlL (K : PySem.W.Frag) : V → Option Int → Option Int → Hp → VK → Prop := fun x lo hi H Q => ∃ a xs, x = .ref a ∧ SqL K H a xs ∧ ∀ p, H p = none → Q (.ref p) (upd H p (.lst (cutV xs lo hi)))
theorem sl_list : SlR X (rSlL X.K) := by
  intro pins s σ H x v vl vu lo hi sl Q I rx hs pl pu h
  obtain ⟨a, xs, rfl, hx, q⟩ := h
  cases rx
  obtain ⟨its, r, ht, hz⟩ := I.list hx
  have hlen := r.length
  refine ⟨"list", _, slot_list_getitem.lookup, ht.isList.typeIs, ?_⟩
  refine wpAny_getItem_list_slice ht.isList hs pl pu .none (by simp) ?_ (by rw [List.size_toArray] <;> omega)
  rw [slicePick_cut, ← hlen]
  refine ⟨.ref s.heap.objs.size, _, I.laid (t' := s.toks) (o := .lst (cutV xs lo hi)) (fun b ob q => Heap.get?_push_of_some _ q) (Nat.le_refl _) ?_, rfl, q _ (I.hok.fresh (Nat.le_refl _))⟩
  exact ⟨Nat.le_trans (cutV_length xs lo hi) hz, _, 0, (r.drop (HT.sIx xs.length 0 lo)).take (HT.sIx xs.length xs.length hi - HT.sIx xs.length 0 lo), Heap.get?_push_size _ rfl⟩
def flatV : V → Bool
  | .non => true
  | .bl _ => true
  | .int _ => true
  | .str _ => true
  | _ => false
def eqV : V → V → Bool
  | .non, .non => true
  | .bl a, .bl b => a == b
  | .bl a, .int b => (if a then 1 else 0) == b
  | .int a, .bl b => a == (if b then 1 else 0)
  | .int a, .int b => a == b
  | .str a, .str b => a == b
  | _, _ => false
theorem eqAt_V {A : Around} {s : Shared} {y x : V} {u v : Value} (ry : RelV y u) (rx : RelV x v) (fy : flatV y = true) (fx : flatV x = true) : SeqAt.EqAt A s u v (eqV y x) := by
  cases y with
  | non =>
    cases ry
    cases x with
    | non => cases rx; exact SeqAt.EqAt.same _
    | bl b => cases rx; exact SeqAt.EqAt.none_bool b
    | int b => obtain ⟨t, rfl⟩ := rx; exact SeqAt.EqAt.none_int b t
    | str b => obtain ⟨t, rfl⟩ := rx; exact SeqAt.EqAt.none_str b t
    | _ => exact absurd (show false = true from fx) Bool.false_ne_true
  | bl a =>
    cases ry
    cases x with
    | non => cases rx; exact SeqAt.EqAt.bool_none a
    | bl b => cases rx; exact SeqAt.EqAt.bool_bool a b
    | int b => obtain ⟨t, rfl⟩ := rx; exact SeqAt.EqAt.bool_int a b t
    | str b => obtain ⟨t, rfl⟩ := rx; exact SeqAt.EqAt.bool_str a b t
    | _ => exact absurd (show false = true from fx) Bool.false_ne_true
  | int a =>
    obtain ⟨t', rfl⟩ := ry
    cases x with
    | non => cases rx; exact SeqAt.EqAt.int_none a t'
    | bl b => cases rx; exact SeqAt.EqAt.int_bool a t' b
    | int b => obtain ⟨t, rfl⟩ := rx; exact SeqAt.EqAt.int_int a t' b t
    | str b => obtain ⟨t, rfl⟩ := rx; exact SeqAt.EqAt.int_str a t' b t
    | _ => exact absurd (show false = true from fx) Bool.false_ne_true
  | str a =>
    obtain ⟨t', rfl⟩ := ry
    cases x with
    | non => cases rx; exact SeqAt.EqAt.str_none a t'
    | bl b => cases rx; exact SeqAt.EqAt.str_bool a t' b
    | int b => obtain ⟨t, rfl⟩ := rx; exact SeqAt.EqAt.str_int a t' b t
    | str b => obtain ⟨t, rfl⟩ := rx; exact SeqAt.EqAt.str_str a t' b t
    | _ => exact absurd (show false = true from fx) Bool.false_ne_true
  | _ => exact absurd (show false = true from fy) Bool.false_ne_true
def eqU (x : V) (u : Value) : Bool := match u with
  | .none => eqV .non x
  | .bool b => eqV (.bl b) x
  | .int i _ => eqV (.int i) x
  | .str z _ => eqV (.str z) x
  | _ => false
theorem eqU_of {x y : V} {u : Value} (r : RelV y u) (f : flatV y = true) : eqU x u = eqV y x := by
  cases y with
  | non => cases r; rfl
  | bl b => cases r; rfl
  | int i => obtain ⟨t, rfl⟩ := r; rfl
  | str z => obtain ⟨t, rfl⟩ := r; rfl
  | _ => exact absurd (show false = true from f) Bool.false_ne_true
theorem any_eqU {x : V} : ∀ {xs : List V} {us : List Value}, Vals xs us → xs.all flatV = true → us.any (eqU x) = xs.any fun y => eqV y x
  | _, _, .nil, _ => rfl
  | y :: xs, u :: us, .cons r t, f => by
    rw [List.all_cons, Bool.and_eq_true] at f
    rw [List.any_cons, List.any_cons, eqU_of r f.1, any_eqU t f.2]
theorem mem_eqAt {A : Around} {s : Shared} {x : V} {v : Value} (rx : RelV x v) (fx : flatV x = true) : ∀ {xs : List V} {us : List Value}, Vals xs us → xs.all flatV = true → ∀ u ∈ us, SeqAt.EqAt A s u v (eqU x u)
  | _, _, .nil, _ => fun u hu => by cases hu
  | y :: xs, u :: us, .cons r t, f => fun u' hu => by
    rw [List.all_cons, Bool.and_eq_true] at f
    rcases List.mem_cons.mp hu with rfl | hu
    · rw [eqU_of r f.1]; exact eqAt_V r rx f.1 fx
    · exact mem_eqAt rx fx t f.2 u' hu
def inV (x : V) (xs : List V) : Bool := xs.any fun y => eqV y x
def rIn (K : PySem.W.Frag) (neg : Bool) : R2 := fun x y H Q => ∃ p xs, y = .ref p ∧ (SqL K H p xs ∨ SqT K H p xs) ∧ flatV x = true ∧ xs.all flatV = true ∧ Q (.bl (if neg then !inV x xs else inV x xs)) H
theorem op_in_seq : OpR X (compareOp .In) (rIn X.K false) := by
  intro pins s σ H x y v u Q I rx ry h
  obtain ⟨p, xs, rfl, hq, fx, fs, q⟩ := h
  cases ry
  rcases hq with hq | hq
  · obtain ⟨its, r, pl, hz⟩ := I.list hq
    refine SeqAt.in_listAt (eqU x) pl.isList (fun w hw => mem_eqAt rx fx r fs w (by simpa using hw)) ⟨.bl _, H, I, rfl, ?_⟩
    rw [show its.toArray.any (eqU x) = its.any (eqU x) by simp, any_eqU r fs]
    exact q
  · obtain ⟨its, r, pl, hz⟩ := I.tuple hq
    refine SeqAt.in_tupleAt (eqU x) pl (fun w hw => mem_eqAt rx fx r fs w (by simpa using hw)) ⟨.bl _, H, I, rfl, ?_⟩
    rw [show its.toArray.any (eqU x) = its.any (eqU x) by simp, any_eqU r fs]
    exact q
theorem op_notIn_seq : OpR X (compareOp .NotIn) (rIn X.K true) := by
  intro pins s σ H x y v u Q I rx ry h
  obtain ⟨p, xs, rfl, hq, fx, fs, q⟩ := h
  cases ry
  rcases hq with hq | hq
  · obtain ⟨its, r, pl, hz⟩ := I.list hq
    refine SeqAt.notIn_listAt (eqU x) pl.isList (fun w hw => mem_eqAt rx fx r fs w (by simpa using hw)) ⟨.bl _, H, I, rfl, ?_⟩
    rw [show its.toArray.any (eqU x) = its.any (eqU x) by simp, any_eqU r fs]
    exact q
  · obtain ⟨its, r, pl, hz⟩ := I.tuple hq
    refine SeqAt.notIn_tupleAt (eqU x) pl (fun w hw => mem_eqAt rx fx r fs w (by simpa using hw)) ⟨.bl _, H, I, rfl, ?_⟩
    rw [show its.toArray.any (eqU x) = its.any (eqU x) by simp, any_eqU r fs]
    exact q
theorem call_len_seq : CallR X (.builtin "len") (fun xs H Q => ∃ p ys, xs = [.ref p] ∧ (SqL X.K H p ys ∨ SqT X.K H p ys) ∧ Q (.int ys.length) H) := by
  intro pins s σ H xs us Q I r h
  obtain ⟨p, ys, rfl, hq, q⟩ := h
  obtain ⟨u, rfl, rx⟩ := vals1 r
  cases rx
  have hn := line63
  rcases hq with hq | hq
  · obtain ⟨its, r', pl, hz⟩ := I.list hq
    have hlen := r'.length
    exact Calls.call_len_list pl.isList (by simp only [List.size_toArray] <;> omega) ⟨.int ys.length, H, I.tok _, ⟨s.toks + 1, by rw [List.size_toArray, hlen]⟩, q⟩
  · obtain ⟨its, r', pl, hz⟩ := I.tuple hq
    have hlen := r'.length
    exact len_tuple pl (by simp only [List.size_toArray] <;> omega) ⟨.int ys.length, H, I.tok _, ⟨s.toks + 1, by rw [List.size_toArray, hlen]⟩, q⟩
theorem CallR.or {f : Value} {r r' : List V → Hp → VK → Prop} (h : CallR X f r) (h' : CallR X f r') : CallR X f (fun xs H Q => r xs H Q ∨ r' xs H Q) := by
  intro pins s σ H xs us Q I rs q
  rcases q with q | q
  · exact h pins s σ H xs us Q I rs q
  · exact h' pins s σ H xs us Q I rs q
theorem call_list_of : CallR X (.type "list") (fun xs H Q => ∃ p ys, xs = [.ref p] ∧ (SqL X.K H p ys ∨ SqT X.K H p ys) ∧ ∀ l, H l = none → Q (.ref l) (upd H l (.lst ys))) := by
  intro pins s σ H xs us Q I r h
  obtain ⟨p, ys, rfl, hq, q⟩ := h
  obtain ⟨u, rfl, rx⟩ := vals1 r
  cases rx
  have fin : ∀ (its : List Value), Vals ys its → ys.length ≤ sizeLine → ∀ (h' : Heap) (c' : Nat), (∀ b o', s.heap.get? b = some o' → h'.get? b = some o') →
      h'.get? s.heap.objs.size = some { cls := .type "list", dict := none, data := .seq its.toArray c', slots := #[] } → EP X pins σ Q (.ref s.heap.objs.size) { s with heap := h' } := fun its r' hz h' c' kp e =>
    ⟨.ref s.heap.objs.size, _, I.laid (t' := s.toks) kp (Nat.le_refl _) (show ObjOk X.prog X.w _ h' _ (.lst ys) from ⟨hz, its, c', r', e⟩), rfl, q _ (I.hok.fresh (Nat.le_refl _))⟩
  rcases hq with hq | hq
  · obtain ⟨its, r', pl, hz⟩ := I.list hq
    have hlen := r'.length
    obtain ⟨o, ho, hc, n, hd⟩ := pl.isList
    exact call_list_seq p (.inl rfl) ho hc hd (fun h' c' kp e => fin its r' hz h' c' kp e) (by simp only [List.size_toArray] <;> omega)
  · obtain ⟨its, r', pl, hz⟩ := I.tuple hq
    have hlen := r'.length
    obtain ⟨o, ho, hc, n, hd⟩ := pl
    exact call_list_seq p (.inr rfl) ho hc hd (fun h' c' kp e => fin its r' hz h' c' kp e) (by simp only [List.size_toArray] <;> omega)
def tyV (K : PySem.W.Frag) (T : String) (x : V) (H : Hp) : Prop := match x with
  | .str _ => T = "str"
  | .int _ => T = "int"
  | .ref p => (T = "list" ∧ ∃ xs, SqL K H p xs) ∨ (T = "tuple" ∧ ∃ o, K.lookup p = some o ∧ o.cls = .type "tuple" ∧ o.dict = none) ∨
      (T = "dict" ∧ ((∃ kvs, H p = some (.dK kvs)) ∨ ∃ kvs, H p = some (.dT kvs))) ∨ (T = "set" ∧ ∃ S n, H p = some (.set S n))
  | _ => False
theorem tyV_is {pins : List (Addr × Obj)} {σ : St} {H : Hp} {s : Shared} {T : String} {x : V} {v : Value} (I : Inv X pins σ H s) (r : RelV x v) (ty : tyV X.K T x H) :
    s.TypeIs v T ∧ ∀ a, v = .ref a → ∃ ob, s.heap.get? a = some ob ∧ ob.dict = none := by
  cases x with
  | str z =>
    obtain ⟨t, rfl⟩ := r
    cases (show T = "str" from ty)
    exact ⟨typeIs_str s z t, fun _ e => nomatch e⟩
  | int i =>
    obtain ⟨t, rfl⟩ := r
    cases (show T = "int" from ty)
    exact ⟨typeIs_int s i t, fun _ e => nomatch e⟩
  | ref p =>
    cases r
    rcases ty with ⟨rfl, xs, hq⟩ | ⟨rfl, o, hk, hc, hd⟩ | ⟨rfl, hk⟩ | ⟨rfl, S, n, hk⟩
    · obtain ⟨its, _, pl, _⟩ := I.list hq
      refine ⟨pl.isList.typeIs, fun a e => ?_⟩
      cases e
      obtain ⟨o, n, e, c, hd, _⟩ := pl
      exact ⟨o, e, hd⟩
    · refine ⟨⟨o, I.kIn p o hk, hc⟩, fun a e => ?_⟩
      cases e
      exact ⟨o, I.kIn _ o hk, hd⟩
    · have z : ∃ o, s.heap.get? p = some o ∧ o.ExactDict := by
        rcases hk with ⟨kvs, hk⟩ | ⟨kvs, hk⟩
        · obtain ⟨_, _, _, _, o, _, _, e, ex, _⟩ := I.hok p _ hk
          exact ⟨o, e, ex⟩
        · obtain ⟨_, _, _, _, o, _, _, e, ex, _⟩ := I.hok p _ hk
          exact ⟨o, e, ex⟩
      obtain ⟨o, e, ex⟩ := z
      refine ⟨⟨o, e, ex.1⟩, fun a e2 => ?_⟩
      cases e2
      exact ⟨o, e, ex.2.1⟩
    · obtain ⟨o, _, _, _, e, ex, _⟩ := I.hok p _ hk
      refine ⟨⟨o, e, ex.1⟩, fun a e2 => ?_⟩
      cases e2
      exact ⟨o, e, ex.2.1⟩
  | _ => exact False.elim ty
def tBM0 (K : PySem.W.Frag) (T : String) (r : V → List V → Hp → VK → Prop) (to : TE) : TE := fun σ H Q => to σ H fun x H1 => tyV K T x H1 ∧ r x [] H1 Q
def tBM (K : PySem.W.Frag) (T : String) (r : V → List V → Hp → VK → Prop) (to : TE) (t : TA) : TE := fun σ H Q => to σ H fun x H1 => tyV K T x H1 ∧ t σ H1 fun xs H2 => r x xs H2 Q
variable {o e : Expr} {es : List Expr} {to : TE} {t : TA} {name : Str} {apos cpos : Pos} {T id : String} {r : V → List V → Hp → VK → Prop}
theorem pe_bm (pa : PlainAttrs T) (slot : Slot T name id) (hty : typeOf (.builtin id) = pure (.type "method_descriptor")) (hm : MtR X id r) (ho : PE X o to) (ha : PA X (e :: es) t)
    (hbase : attributeBase o name X.env (eval o X.env) = eval o X.env := by rfl)
    (hfew : ((backTo cpos (starEach (e :: es) X.env)).all (fun x => !x.1) && (backToKw cpos (keywordEach [] X.env)).all (fun x => x.1.isSome)
      && decide ((e :: es).length + ([] : List Keyword).length + (if ([] : List Keyword).isEmpty then 0 else 1) < 30)) = true := by rfl)
    (hline : (apos.endLine == cpos.line) = true := by rfl) (hs : starEach (e :: es) X.env = (false, eval e X.env) :: starEach es X.env := by rfl) (hplain : (backTo cpos (starEach es X.env)).any (·.1) = false := by rfl) :
    PE X (.Call (.Attribute o name apos) (e :: es) [] cpos) (tBM X.K T r to t) := by
  intro pins s σ H Q I h
  refine wpAny_Call_method_late hbase hfew hline rfl (thn (ho pins s σ H _ I h) fun v s1 ⟨x, H1, I1, r1, ty, q1⟩ => ?_)
  obtain ⟨h1, h2⟩ := tyV_is I1 r1 ty
  refine ⟨T, id, pa, slot, hty, h1, h2, ?_⟩
  have hA := ha cpos pins s1 σ H1 _ I1 q1
  rw [hs] at hA ⊢
  refine Calls.callWith_builtin (by show (false || (backTo cpos (starEach es X.env)).any (·.1)) = false; rw [hplain] <;> rfl) (Calls.evalArgs_plain ?_)
  exact thn hA fun us s2 ⟨vs, H2, I2, r2, q2⟩ => hm pins s2 σ H2 x vs v us Q I2 r1 r2 q2
/- xs.append(e), list.index on a module's tuple .. are MtR facts of 06m -/
end
end L2
namespace L2
open PySem PySem.Spec PyProof.Rows
def MtM (X : Cx) (id : String) (r : V → List V → Hp → VK → Prop) : Prop :=
  ∀ (pins : List (Addr × Obj)) (s : Shared) (σ : St) (H : Hp) (x : V) (xs : List V) (v : Value) (us : List Value) (Q : VK), Inv X pins σ H s → RelV x v → Vals xs us → r x xs H Q →
    wpAny (model X.prog X.w) X.A (call (.builtin id) (v :: us)) (EP X pins σ Q) X.xe s
theorem Vals.one : ∀ {x : V} {us : List Value}, Vals [x] us → ∃ u, us = [u] ∧ RelV x u
  | _, _, .cons r .nil => ⟨_, rfl, r⟩
theorem Vals.two : ∀ {x y : V} {us : List Value}, Vals [x, y] us → ∃ u v, us = [u, v] ∧ RelV x u ∧ RelV y v
  | _, _, _, .cons r (.cons q .nil) => ⟨_, _, rfl, r, q⟩
theorem Vals.zero : ∀ {us : List Value}, Vals [] us → us = []
  | _, .nil => rfl
theorem Vals.dropLast {xs : List V} {us : List Value} (h : Vals xs us) : Vals xs.dropLast us.dropLast := by
  induction h with
  | nil => exact .nil
  | cons r t ih =>
    cases t with
    | nil => exact .nil
    | cons q t' => exact .cons r ih
theorem Vals.eraseIdx : ∀ {xs : List V} {us : List Value} (i : Nat), Vals xs us → Vals (xs.eraseIdx i) (us.eraseIdx i)
  | _, _, _, .nil => .nil
  | _, _, 0, .cons _ t => t
  | _, _, i + 1, .cons r t => .cons r (Vals.eraseIdx i t)
theorem Vals.reverse {xs : List V} {us : List Value} (h : Vals xs us) : Vals xs.reverse us.reverse := by
  induction h with
  | nil => exact .nil
  | cons r t ih => rw [List.reverse_cons, List.reverse_cons]; exact Vals.append ih (.cons r .nil)
theorem len_erase {α : Type} : ∀ (l : List α) (i : Nat), (l.eraseIdx i).length ≤ l.length
  | [], _ => Nat.le_refl _
  | _ :: _, 0 => Nat.le_succ _
  | _ :: r, i + 1 => Nat.succ_le_succ (len_erase r i)
section
variable {X : Cx} {pins : List (Addr × Obj)} {σ : St} {H : Hp} {s : Shared} {l b : Addr} {xs ys zs : List V}
theorem Inv.lset {its its' : List Value} {n : Nat} {f : Array Value → Array Value} {t' : Nat} (I : Inv X pins σ H s) (hH : H l = some (.lst xs))
    (e : s.heap.get? l = some { cls := .type "list", data := .seq its.toArray n }) (hf : f its.toArray = its'.toArray) (hv : Vals ys its') (hz : ys.length ≤ sizeLine) :
    Inv X pins σ (upd H l (.lst ys)) { s with heap := s.heap.update l (Obj.mapSeq f), toks := t' } := by
  have q := PySem.IsL.update e f
  rw [hf] at q
  refine I.write (x := l) (e := l) (by rw [hH]; exact trivial) (.inl rfl) (fun b' u hb hu => (Heap.get?_update_other s.heap (Obj.mapSeq f) (Ne.symm hb)).trans hu) ⟨_, q⟩ ?_
  exact ⟨hz, its', _, hv, q⟩
theorem Inv.fresh (I : Inv X pins σ H s) : H s.heap.objs.size = none := I.hok.fresh (Nat.le_refl _)
theorem Inv.lstM (I : Inv X pins σ H s) (hH : H l = some (.lst xs)) : xs.length ≤ sizeLine ∧ ∃ (its : List Value) (n : Nat), Vals xs its ∧ xs.length = its.length ∧ s.heap.get? l = some { cls := .type "list", data := .seq its.toArray n } := by
  obtain ⟨z, its, n, r, e⟩ := I.hok l _ hH
  exact ⟨z, its, n, r, r.length, e⟩
theorem notLongL {n : Nat} (h : n ≤ sizeLine) : Builtin.List.listTooLong n = false := by
  unfold Builtin.List.listTooLong
  exact decide_eq_false (by omega)
end
section
variable {X : Cx}
def rAppend : V → List V → Hp → VK → Prop := fun x vs H Q => ∃ l xs y, x = .ref l ∧ vs = [y] ∧ H l = some (.lst xs) ∧ xs.length < sizeLine ∧ Q .non (upd H l (.lst (xs ++ [y])))
theorem mt_append : MtM X "list.append" rAppend := by
  intro pins s σ H x vs v us Q I rx rv h
  obtain ⟨l, xs, y, rfl, rfl, hH, hz, q⟩ := h
  cases rx
  obtain ⟨u, rfl, ru⟩ := rv.one
  obtain ⟨z, its, n, r, hl, e⟩ := I.lstM hH
  refine call_meets F.slot_list_append ⟨_, e, rfl⟩ F.entry_list_append (F.args_list_append_2 _ _) (PySem.list_append l its.toArray n u (by rw [List.size_toArray]; omega)) ⟨e, ?_⟩
  refine ⟨.non, _, I.lset (its' := its ++ [u]) hH e (by simp) (r.append (.cons ru .nil)) ?_, rfl, q⟩
  rw [List.length_append, List.length_singleton]
  omega
def rExtend : V → List V → Hp → VK → Prop := fun x vs H Q => ∃ l b xs zs, x = .ref l ∧ vs = [.ref b] ∧ H l = some (.lst xs) ∧ H b = some (.lst zs) ∧ xs.length + zs.length ≤ sizeLine ∧ Q .non (upd H l (.lst (xs ++ zs)))
theorem mt_extend : MtM X "list.extend" rExtend := by
  intro pins s σ H x vs v us Q I rx rv h
  obtain ⟨l, b, xs, zs, rfl, rfl, hH, hB, hz, q⟩ := h
  cases rx
  obtain ⟨u, rfl, ru⟩ := rv.one
  cases ru
  obtain ⟨z, its, n, r, hl, e⟩ := I.lstM hH
  obtain ⟨z2, its2, n2, r2, hl2, e2⟩ := I.lstM hB
  have hsz : its.toArray.size + its2.toArray.size ≤ sizeLine := by rw [List.size_toArray, List.size_toArray]; omega
  have hlong : ¬ (!its.toArray.isEmpty && Builtin.List.listTooLong (its.toArray.size + its2.toArray.size)) = true := by
    rw [notLongL hsz, Bool.and_false]
    exact Bool.false_ne_true
  refine call_meets F.slot_list_extend ⟨_, e, rfl⟩ F.entry_list_extend (F.args_list_extend_2 _ _)
    (AutoSeq1.list_extend_list_list_0 l its.toArray n b its2.toArray n2 hlong (by rw [List.size_toArray]; omega) (by omega)) ⟨e, e2, ?_⟩
  refine ⟨.non, _, I.lset (its' := its ++ its2) hH e (by simp) (r.append r2) ?_, rfl, q⟩
  rw [List.length_append]
  omega
def rPop : V → List V → Hp → VK → Prop := fun x vs H Q => ∃ l xs y, x = .ref l ∧ vs = [] ∧ H l = some (.lst xs) ∧ xs[xs.length - 1]? = some y ∧ Q y (upd H l (.lst xs.dropLast))
def rPopAt : V → List V → Hp → VK → Prop := fun x vs H Q => ∃ l xs i k y, x = .ref l ∧ vs = [.int i] ∧ H l = some (.lst xs) ∧ -(2 ^ 63) ≤ i ∧ i < 2 ^ 63 ∧ seqIndex? i xs.length = some k ∧ xs[k]? = some y ∧ Q y (upd H l (.lst (xs.eraseIdx k)))
theorem mt_popAt : MtM X "list.pop" rPopAt := by
  intro pins s σ H x vs v us Q I rx rv h
  obtain ⟨l, xs, i, k, y, rfl, rfl, hH, h1, h2, hk, hy, q⟩ := h
  cases rx
  obtain ⟨u, rfl, ru⟩ := rv.one
  obtain ⟨t, rfl⟩ := ru
  obtain ⟨z, its, n, r, hl, e⟩ := I.lstM hH
  obtain ⟨w, hw, rw'⟩ := r.get hy
  refine call_meets F.slot_list_pop ⟨_, e, rfl⟩ F.entry_list_pop (F.args_list_pop_2 _ _)
    (MeetsSeq.list_pop_at l its.toArray n i t k w (fitsIndex_both h1 h2) (by rw [List.size_toArray, ← hl]; exact hk) (by rw [← Array.getElem?_toList]; exact hw) (by rw [List.size_toArray]; omega)) ⟨e, ?_⟩
  refine ⟨y, _, I.lset (its' := its.eraseIdx k) hH e ?_ (r.eraseIdx k) ?_, rw', q⟩
  · show its.toArray.eraseIdxIfInBounds k = (its.eraseIdx k).toArray
    rw [List.eraseIdxIfInBounds_toArray]
  · have := len_erase xs k
    omega
def rReverse : V → List V → Hp → VK → Prop := fun x vs H Q => ∃ l xs, x = .ref l ∧ vs = [] ∧ H l = some (.lst xs) ∧ Q .non (upd H l (.lst xs.reverse))
def rClear : V → List V → Hp → VK → Prop := fun x vs H Q => ∃ l xs, x = .ref l ∧ vs = [] ∧ H l = some (.lst xs) ∧ Q .non (upd H l (.lst []))
def rCat : R2 := fun x y H Q => ∃ l b xs zs, x = .ref l ∧ y = .ref b ∧ H l = some (.lst xs) ∧ H b = some (.lst zs) ∧ xs.length + zs.length ≤ sizeLine ∧ ∀ p, H p = none → Q (.ref p) (upd H p (.lst (xs ++ zs)))
def rRep : R2 := fun x y H Q => ∃ l k xs, x = .ref l ∧ y = .int k ∧ H l = some (.lst xs) ∧ -(2 ^ 63) ≤ k ∧ k < 2 ^ 63 ∧ xs.length * k.toNat ≤ sizeLine ∧
  ∀ p, H p = none → Q (.ref p) (upd H p (.lst (List.replicate k.toNat xs).flatten))
end
section
variable {prog : Program} {w : World} {A : Around} {E : Value → Shared → Prop} {s : Shared}
set_option maxRecDepth 100000 in
end
section
variable {X : Cx}
end
end L2
namespace Att
open PySem PySem.W PySem.Calls PyProof.Rows
theorem ints_of_wellAll {P : Params} {h : Heap} : ∀ (ns : List Int) (vs : List Value), WellAll P h vs (ns.map WData.int) → IntsAre vs ns := by
  intro ns
  induction ns with
  | nil =>
    intro vs w
    rw [List.map_nil] at w
    cases w
    exact .nil
  | cons n ns ih =>
    intro vs w
    rw [List.map_cons] at w
    cases w with
    | cons a b =>
      cases a
      exact .cons _ _ (ih _ b)
theorem script_of {l : OpenLaw} {n : Nat} (hn : l.most = some n) {P : Params} {h : Heap} {args : List WData} {vals : List Value}
    (hpre : l.row.toRowW.claim.pre args = true) (hwl : WellAll P h vals args) :
    ∃ a vs ns, vals = [Value.ref a] ∧ args = [WData.list (ns.map WData.int)] ∧ h.get? a = some { cls := .type "list", data := .seq vs.toArray } ∧ IntsAre vs ns ∧ ns.length ≤ n := by
  have hsh : WShape.hasAll [] args [.list .int] = true := (pre_splitW hpre).1
  have hc : l.pre.holds [] { args := args } = true := (pre_splitW hpre).2
  obtain ⟨d, r, rfl, h1, h2⟩ := hasAllW_cons hsh
  obtain rfl := hasAllW_nil h2
  obtain ⟨xs, rfl, h3⟩ := hasW_list h1
  obtain ⟨ns, rfl⟩ := items_int h3
  have hlen : ns.length ≤ n := by
    unfold OpenLaw.pre at hc
    have h4 : (WTm.not (.lt (.lit (.int (n : Int))) (.len (.arg 0)))).holds [] { args := [.list (ns.map .int)] } = true := by
      have h4 := (holds_andW hc).1
      rw [hn] at h4
      exact h4
    have h5 := condW_of h4 (w_not (w_lt w_lit (w_len_list (w_arg rfl))))
    rw [List.length_map] at h5
    refine Nat.le_of_not_lt fun q => ?_
    have q' : (n : Int) < ((ns.length : Nat) : Int) := by omega
    first
      | (rw [decide_eq_true q'] at h5; exact absurd h5 (by decide))
      | (simp at h5; omega)
  cases hwl with
  | cons w1 w2 =>
    cases w2
    cases w1 with
    | list ho hall => exact ⟨_, _, ns, rfl, rfl, ho, ints_of_wellAll ns _ hall, hlen⟩
theorem post_true (l : OpenLaw) (args : List WData) : l.row.toRowW.claim.post args (.bool true) args = true :=
  postW_of (r := l.row.toRowW) (X := (true == true))
    (show WShape.has [] (.bool true) .bool = true by first | rfl | decide | simp [WShape.has, WShape.arms, WShape.armsAll])
    (show (WTm.eq .res (.lit (.bool true))).value [] { args := args, res := some (.bool true), after := args } = some (.bool (true == true)) from w_eq_bool (w_res rfl) w_lit) rfl
theorem attach_call {l : OpenLaw} {n : Nat} {q : Program} {loose : List Str} {XP : (Str → Option Value) → Heap → Prop} {YP : World → Heap → Prop} {d : DefRec}
    (hn : l.most = some n) (hdf : d.params.defaults = [])
    (call : ∀ (w : World) (s₀ s₁ : Shared) (mg mb : Str → Option Value) (fa : Addr) (o : Obj) (pm cd doc : Value) (a : Addr) (vs : List Value) (ns : List Int),
      Ground q loose [] XP w s₀ mg mb s₁.heap → YP w s₁.heap →
      s₁.heap.get? fa = some o → o.data = .func (docDef d.name d.params d.body d.scope pm cd doc) → s₁.heap.CodeRec cd d.name → mg d.name = some (.ref fa) →
      s₁.heap.get? a = some { cls := .type "list", data := .seq vs.toArray } → IntsAre vs ns → ns.length ≤ n → s₁.gens = #[] →
      codeAny (model l.prog w) callerA (.call (.ref fa) ⟨[.ref a], []⟩) (fun r s' => r = .ok (.ret (.bool true)) ∧ OldK s₁.heap s'.heap ∧ s'.os = s₁.os ∧ AllBare s'.gens) s₁) :
    WalkO q loose XP YP l.row.toRowW d [] (fun f vs => PySem.call f vs) := by
  intro w s₀ s₁ mg mb G Y fa o pm cd doc dV kV ho hd hcd hD hmg hg args vals as hpre hlay hrd hwl hlo
  obtain rfl : dV = .none := Dflts.none hD hdf
  obtain rfl : kV = .none := Dflts.noKw hD
  obtain ⟨a, vs, ns, rfl, rfl, hobj, hints, hlen⟩ := script_of hn hpre hwl
  refine enter_call (codeAny_mono (call w s₀ s₁ mg mb fa o pm cd doc a vs ns G Y ho (fd_plain hd) hcd hmg hobj hints hlen hg) fun r s' hq => ?_)
  obtain ⟨rfl, h2, h3, h4⟩ := hq
  exact ⟨.inl ⟨.bool true, .bool true, [], rfl, fun _ => rfl, .bool true, post_true l _, fun _ => ⟨List.Pairwise.nil, fun _ hm => (nomatch hm)⟩⟩, h2, h3, h4⟩
section
variable {prog : Program} {w : World} {A : Around} {E : Value → Shared → Prop} {s : Shared} {K : Frag}
def noObjs (h : Heap) : Heap := { h with objs := #[] }
def ledger (h : Heap) (L d : Addr) : List (Addr × Obj) := (List.range h.objs.size).filterMap fun a => if a = L ∨ a = d then none else (h.get? a).map fun o => (a, o)
end
end Att
namespace L2
open PySem PySem.Spec PyProof.Rows
theorem vals_ints : ∀ {vs : List Value} {ns : List Int}, IntsAre vs ns → Vals (ns.map V.int) vs
  | _, _, .nil => .nil
  | _, _, .cons n t h => .cons ⟨t, rfl⟩ (vals_ints h)
def Only (H : Hp) : Prop := ∀ b, H b = none ∨ ∃ o xs, H b = some (.frz o (.lst xs))
theorem law_call {P : Program} {w : World} {K : PySem.W.Frag} {mg mb : Str → Option Value} {CX : CXT} {k : Nat} {fa a : Addr} {fd : FuncData} {x : Str} {sp : Sp} {s₁ : Shared} {vs : List Value} {ns : List Int}
    (KX : K.In s₁.heap) (hns : s₁.heap.Ns mainGlobals mg) (hb : s₁.heap.Ns builtinsNs mb) (hbb : ∀ x : Str, x ≠ "__name__" → mb x = bootBuiltins x) (hlim : s₁.heap.NoLimit) (hg : s₁.gens = #[])
    (ha : s₁.heap.get? a = some { cls := .type "list", data := .seq vs.toArray }) (hi : IntsAre vs ns) (hl : ns.length ≤ sizeLine) (hr : Room k callerA)
    (F : ∀ base : Heap, K.In base → base.Ns mainGlobals mg → FnOk P w K mg base CX k fa fd [x] sp) (hbind : ∀ (s : Shared) (u : Value), BindsTo s fd ⟨[u], []⟩ [(x, u)])
    (hsp : ∀ H : Hp, Only H → SqL K H a (ns.map V.int) → sp [.ref a] H (fun v _ => v = .bl true) fun _ _ _ => False)
    (hCX : ∀ H e s', CX [] H s₁ (fun _ _ _ => False) e s' → False) :
    codeAny (model P w) callerA (.call (.ref fa) ⟨[.ref a], []⟩) (fun r s' => r = .ok (.ret (.bool true)) ∧ OldK s₁.heap s'.heap ∧ s'.os = s₁.os ∧ AllBare s'.gens) s₁ := by
  have rv := vals_ints hi
  have lenV := hi.length
  -- from an abstract heap in which nothing but the script may be tracked
  have core : ∀ H : Hp, Only H → SqL K H a (ns.map V.int) → HOk P w H s₁.heap → (∀ b, H b ≠ none → b = a) → (H a ≠ none → K.lookup a = none) →
      codeAny (model P w) callerA (.call (.ref fa) ⟨[.ref a], []⟩) (fun r s' => r = .ok (.ret (.bool true)) ∧ OldK s₁.heap s'.heap ∧ s'.os = s₁.os ∧ AllBare s'.gens) s₁ := by
    intro H hO hS hok hA hK
    have base_of : ∀ {b : Addr} {o : Obj}, s₁.heap.get? b = some o → H b = none → (hidT s₁.heap H).get? b = some o := fun e n => hidT_get e n
    have noA : ∀ {b : Addr} {o : Obj} {es : Array DictEntry} {ep : Nat}, s₁.heap.get? b = some o → o.data = .dict es ep → H b = none := fun {b o es ep} e d => by
      cases q : H b with
      | none => rfl
      | some u =>
        have e' : b = a := hA b (by rw [q]; simp)
        subst e'
        rw [ha] at e; cases e
        have d' : Data.seq vs.toArray _ = Data.dict es ep := d
        cases d'
    have nsK : ∀ {b : Addr} {m : Str → Option Value}, s₁.heap.Ns b m → (hidT s₁.heap H).Ns b m := fun {b m} ⟨o, es, ep, e, d, r⟩ => ⟨o, es, ep, base_of e (noA e d), d, r⟩
    have hKb : K.In (hidT s₁.heap H) := fun b o e => base_of (KX b o e) (by
      cases q : H b with
      | none => rfl
      | some u =>
        have e' : b = a := hA b (by rw [q]; simp)
        subst e'
        rw [hK (by rw [q]; simp)] at e; cases e)
    have hM : Mod K mg (hidT s₁.heap H) := ⟨hKb, nsK hns, ⟨mb, nsK hb, hbb⟩, let ⟨mc, h1, h2⟩ := hlim; ⟨mc, nsK h1, h2⟩⟩
    have e0 : Env0 P w K mg (hidT s₁.heap H) callerA [] s₁ H := ⟨rfl, hM, fun b o e => of_hidT e, Nat.le_of_eq (hidT_size _ _), trivial, fun b hb => absurd (show b ∈ ([] : List Addr) from hb) (by simp), hok, .of_eq hg⟩
    refine codeAny_mono ((F _ hKb (nsK hns)).run callerA [] s₁ H ⟨[.ref a], []⟩ [.ref a] [.ref a] _ _ hr e0 (hbind s₁ (.ref a)) (.cons rfl .nil) (hsp H hO hS)) fun r s' h => ?_
    cases r with
    | error e => exact (hCX H e s' h).elim
    | ok fl =>
      cases fl with
      | next => exact False.elim h
      | brk => exact False.elim h
      | cont => exact False.elim h
      | ret u =>
        obtain ⟨v, H', os, bare, un, hok', r', q⟩ := h
        have q' : v = .bl true := q
        subst q'
        obtain rfl : u = Value.bool true := r'
        refine ⟨rfl, OldK.of_keep fun b o e => ?_, os, bare⟩
        cases q : H b with
        | none => exact un.keep b o e q (by intro z; exact absurd (show b ∈ ([] : List Addr) from z) (by simp)) (by simp)
        | some u =>
          rcases hO b with z | ⟨ob, xs, z⟩
          · rw [q] at z; cases z
          · have z2 := un.frzs b ob _ z
            obtain ⟨e1, _⟩ := hok b _ z
            obtain ⟨e2, _⟩ := hok' b _ z2
            rw [e] at e1; cases e1
            exact e2
  cases hk : K.lookup a with
  | some o =>
    -- the script is one of the module's own objects
    have e := KX a o hk
    rw [ha] at e
    cases e
    refine core (fun _ => none) (fun _ => .inl rfl) (.inr ⟨_, vs.toArray, _, hk, rfl, rfl, rfl, by rw [List.size_toArray, lenV]; exact hl, by simpa using rv⟩) (fun b u z => by have z' : (none : Option HO) = some u := z; cases z') (fun b z => absurd rfl z) fun z => absurd rfl z
  | none =>
    refine core (fun b => if b = a then some (.frz { cls := .type "list", data := .seq vs.toArray } (.lst (ns.map V.int))) else none) (fun b => ?_) (.inl (.inr ⟨{ cls := .type "list", data := .seq vs.toArray }, if_pos rfl⟩)) (fun b u z => ?_) (fun b z => ?_) fun _ => hk
    · by_cases hb : b = a
      · exact .inr ⟨_, _, if_pos hb⟩
      · exact .inl (if_neg hb)
    · by_cases hb : b = a
      · have z' := (if_pos hb).symm.trans z
        cases z'
        subst hb
        exact ⟨ha, by rw [List.length_map]; exact hl, vs, _, rv, ha⟩
      · have z' := (if_neg hb).symm.trans z
        cases z'
    · by_cases hb : b = a
      · exact hb
      · exact absurd (if_neg hb) z
end L2
namespace L2
open PySem PySem.Spec PyProof.Rows
abbrev KOf {K : PySem.W.Frag} {h : Heap} (_ : K.In h) : PySem.W.Frag := K
theorem walk_of {l : PySem.W.OpenLaw} {n k : Nat} {q : Program} {loose : List Str} {XP : (Str → Option Value) → Heap → Prop} {YP : World → Heap → Prop} {d : DefRec} {K : Params → PySem.W.Frag} {CX : World → CXT} {sp : World → Sp} {x : Str}
    (hn : l.most = some n) (hn2 : n ≤ sizeLine) (hdf : d.params.defaults = []) (hr : Room k callerA)
    (hY : ∀ (w : World) (h : Heap), YP w h → (K w.params).In h)
    (F : ∀ (w : World) (mg : Str → Option Value) (fa : Addr) (h : Heap), (K w.params).In h → h.Ns mainGlobals mg → mg d.name = some (.ref fa) →
      ∃ fd : FuncData, (∀ (s : Shared) (u : Value), BindsTo s fd ⟨[u], []⟩ [(x, u)]) ∧
        ∀ base : Heap, (K w.params).In base → base.Ns mainGlobals mg → FnOk l.prog w (K w.params) mg base (CX w) k fa fd [x] (sp w))
    (hsp : ∀ (w : World) (H : Hp) (a : Addr) (ns : List Int), ns.length ≤ n → Only H → SqL (K w.params) H a (ns.map V.int) → sp w [.ref a] H (fun v _ => v = .bl true) fun _ _ _ => False)
    (hCX : ∀ (w : World) (H : Hp) (s : Shared) (e : Value) (s' : Shared), CX w [] H s (fun _ _ _ => False) e s' → False) :
    PySem.W.WalkO q loose XP YP l.row.toRowW d [] (fun f vs => PySem.call f vs) := by
  refine Att.attach_call hn hdf fun w s₀ s₁ mg mb fa o pm cd doc a vs ns G Y ho hd hcd hmg hobj hints hlen hg => ?_
  have KX := hY w _ Y
  obtain ⟨fd, hb, hF⟩ := F w mg fa _ KX G.T.g hmg
  exact law_call KX G.T.g G.T.b G.T.builtins G.T.nolimit hg hobj hints (Nat.le_trans hlen hn2) hr hF hb (fun H hO hS => hsp w H a ns hlen hO hS) fun H e s' => hCX w H s₁ e s'
end L2
/- THE LAST THEOREM (shape; LID, My.* are yours):
   My.Adr: a structure of the addresses that your layer names (classes, functions); My.Txt K t: a structure (Prop) of the equations over K;
   My.txt_mk : {K} {implicit addresses ..} (e1 : nsIn K mainGlobals "law" = some (some (.ref f))) (e2 : K.lookup f = some ⟨oc, od, .func (fnOf "law" "law" params body scope dV kV doc pm an cdv ct), sl⟩) (e3 : codeIn K cdv "law" = true) .. : ∃ t, My.Txt K t
set_option maxRecDepth 100000 in
set_option maxHeartbeats 0 in
theorem PySem.Challenge.cw_LID_holds : PySem.Challenge.rw_LID.Holds := by
  w_on; o_law; k_head; (case hw => w_witness2)
  k_fill
  refine L2.walk_of (l := PySem.Challenge.rw_LID) (n := 63) (k := 40) (x := "script") (CX := fun w => ..) (sp := fun _ => My.sp_law) rfl (by decide) rfl ⟨rfl, by decide, by decide⟩ (fun w h Y => PySem.W.kIn_of Y) ?F ?S ?C
  case F =>
    intro w mg fa h KX G hmg
    have T : ∃ t, My.Txt (L2.KOf KX) t := by
      dsimp only [L2.KOf]                          -- K must stand as «<heap const> w.params» for k_is
      refine' My.txt_mk ?e1 ?e2 ?e3 ..
      (case e1 => PySem.W.k_is)                    -- in the order: a name -> its address -> its object -> its parts
      (case e2 => PySem.W.k_is)
      ..
    obtain ⟨t, T⟩ := T
    have e0 := hmg.symm.trans (PySem.W.mg_of KX G T.law)
    cases e0                                       -- fa is the law's own address
    exact ⟨_, fun s u => .of_eq rfl, fun base kb nb => My.law_fn T kb nb⟩     -- if «.of_eq rfl» comes too early: refine' ⟨_, ?b, fun base kb nb => My.law_fn T kb nb⟩; exact fun s u => .of_eq rfl
  case S => exact fun w H a ns hl hO hS => ..
  case C => exact ..
(the tactic k_is has no namespace: write k_is) -/
namespace L2
open PySem PySem.Spec PyProof.Rows
def inClass (s : Stmt) (j : Nat) : Stmt := match s with
  | .ClassDef _ _ _ body _ _ _ _ _ _ _ => body.getD j (.Pass ⟨0, 0, 0, 0⟩)
  | _ => .Pass ⟨0, 0, 0, 0⟩
def defArgs (s : Stmt) : Arguments := match s with
  | .FunctionDef _ a _ _ _ _ _ _ _ _ => a
  | _ => { posonlyargs := [], args := [], vararg := none, kwonlyargs := [], kw_defaults := [], kwarg := none, defaults := [] }
def defBody (s : Stmt) : List Stmt := match s with
  | .FunctionDef _ _ b _ _ _ _ _ _ _ => b
  | _ => []
def defScope (s : Stmt) : Scope := match s with
  | .FunctionDef _ _ _ _ _ _ sc _ _ _ => sc
  | _ => { kind := .function, names := [], isGenerator := false, isCoroutine := false }
abbrev CX0 : CXT := fun _ _ _ _ _ _ => False
abbrev E0 : XK := fun _ _ _ => False
theorem pass0 {X : Cx} : Passes CX0 X E0 := fun _ _ _ _ _ _ _ h => h.elim
structure Fun (K : PySem.W.Frag) (x qual : Str) (st : Stmt) (f : Addr) (fd : FuncData) : Prop where
  ex : ∃ (oc : Value) (od : Option Addr) (kV doc pm : Value) (an : Option Addr) (cdv ct : Value) (osl : Array (Option Value)),
    fd = PySem.W.fnOf x qual (defArgs st) (defBody st) (defScope st) .none kV doc pm an cdv ct ∧ K.lookup f = some ⟨oc, od, .func fd, osl⟩ ∧ PySem.W.codeIn K cdv qual = true
  kp : PySem.W.keepIn K (.ref f) = true
section
variable {P : Program} {w : World} {K : PySem.W.Frag} {mg : Str → Option Value} {base : Heap}
theorem Fun.ok {x qual : Str} {st : Stmt} {f : Addr} {fd : FuncData} {N ps : List Str} {k : Nat} {sp : Sp} (F : Fun K x qual st f fd) (S : FnScope N ps (defScope st)) (len : ∀ vs H Q E, sp vs H Q E → vs.length = ps.length)
    (hbody : ∀ (cdv : Value) (A : Around) (outer : List Env) (s : Shared) (H : Hp) (vs : List V) (Q : VK) (E : XK), Room k (A.deeper (envOfC qual (defScope st) s.heap.objs.size f cdv)) → sp vs H Q E →
      ∃ t, PSs (cxOf CX0 P w K mg base N qual (defScope st) f cdv A outer s H E).nox (defBody st) t ∧ t { nx := fun _ H' => Q .non H', rt := Q } (start N vs) H) : FnOk P w K mg base CX0 (k + 1) f fd ps sp := by
  obtain ⟨oc, od, kV, doc, pm, an, cdv, ct, osl, rfl, lk, hcd⟩ := F.ex
  refine fn_of lk hcd S len fun A outer s H vs Q E hr hsp => ?_
  obtain ⟨t, h, q⟩ := hbody cdv A outer s H vs Q E hr hsp
  exact ⟨t, h.nox, q⟩
theorem Fun.binds {x qual : Str} {st : Stmt} {f : Addr} {fd : FuncData} {ps : List Str} (F : Fun K x qual st f fd)
    (h : ∀ (kV doc pm : Value) (an : Option Addr) (cdv ct : Value) (us : List Value), us.length = ps.length → bindArgs (PySem.W.fnOf x qual (defArgs st) (defBody st) (defScope st) .none kV doc pm an cdv ct) ⟨us, []⟩ = pure (ps.zip us)) : Binds K fd ps [] := by
  obtain ⟨oc, od, kV, doc, pm, an, cdv, ct, osl, rfl, lk, hcd⟩ := F.ex
  exact .all (h kV doc pm an cdv ct)
theorem fun_mk {x qual : Str} {st : Stmt} {f : Addr} {oc : Value} {od an : Option Addr} {osl : Array (Option Value)} {kV doc pm cdv ct : Value} (l : K.lookup f = some ⟨oc, od, .func (PySem.W.fnOf x qual (defArgs st) (defBody st) (defScope st) .none kV doc pm an cdv ct), osl⟩)
    (c : PySem.W.codeIn K cdv qual = true) (k : PySem.W.keepIn K (.ref f) = true) : Fun K x qual st f (PySem.W.fnOf x qual (defArgs st) (defBody st) (defScope st) .none kV doc pm an cdv ct) := ⟨⟨oc, od, kV, doc, pm, an, cdv, ct, osl, rfl, l, c⟩, k⟩
end
theorem hu_of {A : Around} {k : Nat} (hr : Room k A) : A.units + 1 < cLine := Nat.lt_of_le_of_lt (Nat.add_le_add_left (by decide : 1 ≤ 64) _) hr.units
theorem small1000 {n : Nat} (h : n ≤ 1000) : n < sizeLine := Nat.lt_of_le_of_lt h (by decide)
section
variable {X : Cx}
theorem pv (i : Nat) {x : Str} {pos : Pos} (hN : X.N[i]? = some x := by rfl) (hv : Vis X.env.scope x := by first | exact Or.inl rfl | exact Or.inr (Or.inl rfl) | exact Or.inr (Or.inr rfl)) (hd : (x == ("__debug__" : Str)) = false := by decide)
    (hcd : (x == ("__classdict__" : Str)) = false := by decide) : PE X (.Name x pos) (tVar i) := pe_var hN hv hd hcd
end
theorem iteF {A B : Prop} (h : B) : if false = true then A else B := by
  rw [if_neg Bool.false_ne_true]
  exact h
theorem iteT {A B : Prop} (h : A) : if true = true then A else B := by
  rw [if_pos rfl]
  exact h
theorem ite2 {c A B : Prop} [Decidable c] (h1 : c → A) (h2 : ¬ c → B) : if c then A else B := by
  by_cases h : c
  · rw [if_pos h]
    exact h1 h
  · rw [if_neg h]
    exact h2 h
theorem iteNS {c A B : Prop} [Decidable c] (hc : c) (h : B) : if (!decide c) = true then A else B := by
  rw [decide_eq_true hc]
  exact iteF h
def Same (H H' : Hp) : Prop := ∀ b o, H b = some o → H' b = some o
theorem Same.refl (H : Hp) : Same H H := fun _ _ h => h
theorem Same.trans {H H1 H2 : Hp} (a : Same H H1) (b : Same H1 H2) : Same H H2 := fun c o h => b c o (a c o h)
theorem Same.free {H H' : Hp} (e : Same H H') {l : Addr} (h : H' l = Option.none) : H l = Option.none := by
  cases q : H l with
  | none => rfl
  | some o =>
    rw [e l o q] at h
    cases h
theorem Same.seq {K : PySem.W.Frag} {H H' : Hp} {a : Addr} {xs : List V} (e : Same H H') (h : SqL K H a xs) : SqL K H' a xs := by
  rcases h with (h | ⟨o, h⟩) | h
  · exact .inl (.inl (e _ _ h))
  · exact .inl (.inr ⟨o, e _ _ h⟩)
  · exact .inr h
end L2
set_option maxHeartbeats 4000000
namespace L2
open PySem PySem.Spec PyProof.Rows
section
variable {κ : Type} [DecidableEq κ]
def valV (kvs : List (κ × V)) (k : κ) : Option V := (kvs.find? fun kv => decide (kv.1 = k)).map (·.2)
def putK (kvs : List (κ × V)) (k : κ) (v : V) : List (κ × V) :=
  if (kvs.any fun kv => decide (kv.1 = k)) = true then kvs.map (fun kv => if kv.1 = k then (kv.1, v) else kv) else kvs ++ [(k, v)]
def dropK (kvs : List (κ × V)) (k : κ) : List (κ × V) := kvs.filter fun kv => decide (kv.1 ≠ k)
theorem valV_pos {p : κ × V} {r : List (κ × V)} {k : κ} (e : p.1 = k) : valV (p :: r) k = some p.2 := by simp [valV, List.find?_cons, e]
theorem valV_neg {p : κ × V} {r : List (κ × V)} {k : κ} (e : ¬ p.1 = k) : valV (p :: r) k = valV r k := by simp [valV, List.find?_cons, e]
theorem valV_any (k : κ) : ∀ kvs : List (κ × V), (kvs.any fun kv => decide (kv.1 = k)) = (valV kvs k).isSome
  | [] => rfl
  | p :: r => by
    rw [List.any_cons]
    by_cases e : p.1 = k
    · simp only [valV_pos e, decide_eq_true e, Bool.true_or, Option.isSome_some]
    · rw [valV_neg e, decide_eq_false e, Bool.false_or]; exact valV_any k r
theorem valV_map (k j : κ) (y : V) : ∀ kvs : List (κ × V), valV (kvs.map fun kv => if kv.1 = k then (kv.1, y) else kv) j = (valV kvs j).map fun x => if j = k then y else x
  | [] => rfl
  | p :: r => by
    have ih := valV_map k j y r
    rw [List.map_cons]
    by_cases h : p.1 = k
    · rw [if_pos h]
      by_cases e : p.1 = j
      · rw [valV_pos (p := (p.1, y)) e, valV_pos e, Option.map_some, if_pos (e.symm.trans h)]
      · rw [valV_neg (p := (p.1, y)) e, valV_neg e, ih]
    · rw [if_neg h]
      by_cases e : p.1 = j
      · rw [valV_pos (p := p) e, valV_pos e, Option.map_some, if_neg (fun z => h (e.trans z))]
      · rw [valV_neg (p := p) e, valV_neg e, ih]
theorem valV_snoc (k j : κ) (y : V) : ∀ kvs : List (κ × V), valV kvs k = none → valV (kvs ++ [(k, y)]) j = if j = k then some y else valV kvs j
  | [], _ => by
    by_cases e : k = j
    · rw [if_pos e.symm]; exact valV_pos (p := (k, y)) e
    · rw [if_neg (fun z => e z.symm)]; exact valV_neg (p := (k, y)) e
  | p :: r, hn => by
    rw [List.cons_append]
    have hk : ¬ p.1 = k := fun z => by rw [valV_pos z] at hn; cases hn
    rw [valV_neg hk] at hn
    have ih := valV_snoc k j y r hn
    by_cases e : p.1 = j
    · rw [valV_pos e, valV_pos e, if_neg (fun z => hk (e.trans z))]
    · rw [valV_neg e, valV_neg e, ih]
theorem valV_put (kvs : List (κ × V)) (k j : κ) (y : V) : valV (putK kvs k y) j = if j = k then some y else valV kvs j := by
  unfold putK
  by_cases a : (kvs.any fun kv => decide (kv.1 = k)) = true
  · rw [if_pos a, valV_map]
    rw [valV_any] at a
    by_cases e : j = k
    · obtain ⟨x, hx⟩ := Option.isSome_iff_exists.mp a
      rw [if_pos e, e, hx, Option.map_some, if_pos rfl]
    · rw [if_neg e]
      cases valV kvs j with
      | none => rfl
      | some x => rw [Option.map_some, if_neg e]
  · rw [if_neg a]
    refine valV_snoc k j y kvs ?_
    rw [valV_any] at a
    cases q : valV kvs k with
    | none => rfl
    | some x => rw [q] at a; exact (a rfl).elim
theorem length_putK (kvs : List (κ × V)) (k : κ) (v : V) : (putK kvs k v).length ≤ kvs.length + 1 := by
  unfold putK
  split
  · rw [List.length_map]; omega
  · rw [List.length_append, List.length_cons, List.length_nil]; omega
theorem putK_new {kvs : List (κ × V)} {k : κ} (v : V) (h : valV kvs k = none) : putK kvs k v = kvs ++ [(k, v)] := by
  unfold putK
  rw [valV_any, h]
  exact if_neg (by decide)
theorem RelO.isSome_eq {o : Option V} {u : Option Value} (r : RelO o u) : o.isSome = u.isSome := by
  cases o with
  | none => cases u with
    | none => rfl
    | some _ => exact (show False from r).elim
  | some _ => cases u with
    | none => exact (show False from r).elim
    | some _ => rfl
theorem RelO.getD {o : Option V} {u : Option Value} {d : V} {d' : Value} (r : RelO o u) (rd : RelV d d') : RelV (o.getD d) (u.getD d') := by
  cases o with
  | none => cases u with
    | none => exact rd
    | some _ => exact (show False from r).elim
  | some _ => cases u with
    | none => exact (show False from r).elim
    | some _ => exact r
theorem KV.val {kvs : List (κ × V)} {vs : List (κ × Value)} (r : KV kvs vs) (k : κ) : RelO (valV kvs k) (valueAt vs k) := by
  unfold KV at r
  induction r with
  | nil => exact True.intro
  | @cons p q ps qs h t ih =>
    obtain ⟨h1, h2⟩ := h
    by_cases e : p.1 = k
    · have e' : q.1 = k := h1.symm.trans e
      have b : valueAt (q :: qs) k = some q.2 := by simp [valueAt, List.find?_cons, e']
      rw [valV_pos e, b]; exact h2
    · have e' : ¬ q.1 = k := fun z => e (h1.trans z)
      have b : valueAt (q :: qs) k = valueAt qs k := by simp [valueAt, List.find?_cons, e']
      rw [valV_neg e, b]; exact ih
theorem KV.any {kvs : List (κ × V)} {vs : List (κ × Value)} (r : KV kvs vs) (k : κ) : (kvs.any fun kv => decide (kv.1 = k)) = vs.any fun kv => decide (kv.1 = k) := by
  unfold KV at r
  induction r with
  | nil => rfl
  | cons h t ih => rw [List.any_cons, List.any_cons, ih, h.1]
theorem KV.repl {kvs : List (κ × V)} {vs : List (κ × Value)} (r : KV kvs vs) (k : κ) {y : V} {u : Value} (ry : RelV y u) :
    KV (kvs.map fun kv => if kv.1 = k then (kv.1, y) else kv) (vs.map fun kv => if kv.1 = k then (kv.1, u) else kv) := by
  unfold KV at r ⊢
  induction r with
  | nil => exact .nil
  | @cons p q ps qs h t ih =>
    rw [List.map_cons, List.map_cons]
    refine .cons ?_ ih
    obtain ⟨h1, h2⟩ := h
    by_cases e : p.1 = k
    · rw [if_pos e, if_pos (h1.symm.trans e)]; exact ⟨h1, ry⟩
    · rw [if_neg e, if_neg (fun z => e (h1.trans z))]; exact ⟨h1, h2⟩
theorem KV.put {kvs : List (κ × V)} {vs : List (κ × Value)} (r : KV kvs vs) (k : κ) {y : V} {u : Value} (ry : RelV y u) : KV (putK kvs k y) (stored vs k u) := by
  unfold putK stored
  rw [r.any k]
  by_cases e : (vs.any fun kv => decide (kv.1 = k)) = true
  · rw [if_pos e, if_pos e]; exact r.repl k ry
  · rw [if_neg e, if_neg e]; exact Paired.snoc r ⟨rfl, ry⟩
theorem KV.drop {kvs : List (κ × V)} {vs : List (κ × Value)} (r : KV kvs vs) (k : κ) : KV (dropK kvs k) (without vs k) := by
  unfold KV at r ⊢
  unfold dropK without
  induction r with
  | nil => exact .nil
  | @cons p q ps qs h t ih =>
    obtain ⟨h1, h2⟩ := h
    rw [List.filter_cons, List.filter_cons]
    by_cases e : p.1 = k
    · have a : ¬ decide (p.1 ≠ k) = true := by simp [e]
      have b : ¬ decide (q.1 ≠ k) = true := by simp [h1.symm.trans e]
      rw [if_neg a, if_neg b]; exact ih
    · have e' : ¬ q.1 = k := fun z => e (h1.trans z)
      have a : decide (p.1 ≠ k) = true := by simp [e]
      have b : decide (q.1 ≠ k) = true := by simp [e']
      rw [if_pos a, if_pos b]; exact .cons ⟨h1, h2⟩ ih
theorem KV.keys {kvs : List (κ × V)} {vs : List (κ × Value)} (r : KV kvs vs) : kvs.map (·.1) = vs.map (·.1) := by
  unfold KV at r
  induction r with
  | nil => rfl
  | cons h t ih => rw [List.map_cons, List.map_cons, ih, h.1]
theorem KV.length {kvs : List (κ × V)} {vs : List (κ × Value)} (r : KV kvs vs) : kvs.length = vs.length := Paired.length r
end
theorem kV_is {P : Program} {w : World} {k : Key} {u : Value} (r : RelV (kV k) u) : (mixKind P w).is k u = true := by
  cases k with
  | inl i => obtain ⟨t, e⟩ := (show ∃ t, u = Value.int i t from r); subst e; exact mixKind_int P w i t
  | inr x => obtain ⟨t, e⟩ := (show ∃ t, u = Value.str x t from r); subst e; exact mixKind_str P w x t
theorem items_are {P : Program} {w : World} : ∀ {ks : List Key} {us : List Value}, Vals (ks.map kV) us → ItemsAre (mixKind P w) ks us
  | [], _, r => by rw [List.map_nil] at r; cases r; exact .nil
  | k :: ks, _, r => by
    rw [List.map_cons] at r
    cases r with
    | cons h t => exact .cons (kV_is h) (items_are t)
abbrev KT (H : Hp) : List (List Key × V) → List (List Key × Addr × Value) → Prop := Paired fun p q => p.1 = q.1 ∧ H q.2.1 = some (.tup (p.1.map kV)) ∧ RelV p.2 q.2.2
theorem KT.val {H : Hp} {kvs : List (List Key × V)} {xs : List (List Key × Addr × Value)} (r : KT H kvs xs) (k : List Key) : RelO (valV kvs k) ((atKey xs k).map (·.2)) := by
  induction r with
  | nil => exact True.intro
  | @cons p q ps qs h t ih =>
    obtain ⟨h1, _, h2⟩ := h
    by_cases e : p.1 = k
    · have e' : q.1 = k := h1.symm.trans e
      have b : atKey (q :: qs) k = some q.2 := by simp [atKey, List.find?_cons, e']
      rw [valV_pos e, b]; exact h2
    · have e' : ¬ q.1 = k := fun z => e (h1.trans z)
      have b : atKey (q :: qs) k = atKey qs k := by simp [atKey, List.find?_cons, e']
      rw [valV_neg e, b]; exact ih
theorem KT.repl {H : Hp} {kvs : List (List Key × V)} {xs : List (List Key × Addr × Value)} (r : KT H kvs xs) (k : List Key) {y : V} {u : Value} (ry : RelV y u) :
    KT H (kvs.map fun kv => if kv.1 = k then (kv.1, y) else kv) (xs.map (putAt k u)) := by
  induction r with
  | nil => exact .nil
  | @cons p q ps qs h t ih =>
    rw [List.map_cons, List.map_cons]
    refine .cons ?_ ih
    obtain ⟨h1, h2, h3⟩ := h
    unfold putAt
    by_cases e : p.1 = k
    · rw [if_pos e, if_pos (h1.symm.trans e)]; exact ⟨h1, h2, ry⟩
    · rw [if_neg e, if_neg (fun z => e (h1.trans z))]; exact ⟨h1, h2, h3⟩
theorem KT.put {H : Hp} {kvs : List (List Key × V)} {xs : List (List Key × Addr × Value)} (r : KT H kvs xs) (k : List Key) {b : Addr} {y : V} {u : Value} (hb : H b = some (.tup (k.map kV))) (ry : RelV y u) :
    KT H (putK kvs k y) (storedH xs k b u) := by
  have e : (kvs.any fun kv => decide (kv.1 = k)) = (atKey xs k).isSome := by
    rw [valV_any, (r.val k).isSome_eq, Option.isSome_map]
  unfold putK storedH
  rw [e]
  by_cases q : (atKey xs k).isSome = true
  · rw [if_pos q, if_pos q]; exact r.repl k ry
  · rw [if_neg q, if_neg q]; exact Paired.snoc r ⟨rfl, hb, ry⟩
theorem KT.keeps {H H' : Hp} {kvs : List (List Key × V)} {xs : List (List Key × Addr × Value)} (r : KT H kvs xs) (ht : ∀ b ys, H b = some (.tup ys) → H' b = some (.tup ys)) : KT H' kvs xs :=
  Paired.mapP r fun _ _ z => ⟨z.1, ht _ _ z.2.1, z.2.2⟩
section
variable {P : Program} {w : World} {H : Hp} {h : Heap} {a : Addr}
theorem rd_of {u : HO} (ok : HOk P w H h) (e : Rd H a u) : ObjOk P w H h a u := e.ok ok
theorem dk_rd {kvs : List (Key × V)} (ok : HOk P w H h) (e : Rd H a (.dK kvs)) : kvs.length ≤ sizeLine ∧ (a == sysModules) = false ∧ ∃ vs, KV kvs vs ∧ h.DictOf (mixKind P w) a vs :=
  show ObjOk P w H h a (.dK kvs) from rd_of ok e
theorem dk_of {kvs : List (Key × V)} (ok : HOk P w H h) (e : H a = some (.dK kvs)) : kvs.length ≤ sizeLine ∧ (a == sysModules) = false ∧ ∃ vs, KV kvs vs ∧ h.DictOf (mixKind P w) a vs := dk_rd ok (.inl e)
theorem key_of {ks : List Key} (ok : HOk P w H h) (e : H a = some (.tup (ks.map kV))) : (tupleKind (mixKind P w)).is h ks a := by
  obtain ⟨_, its, r, o, h1, h2, n, h3⟩ := (show ObjOk P w H h a (.tup (ks.map kV)) from ok a _ e)
  exact ⟨o, its.toArray, n, h1, h2, h3, by simpa using items_are r⟩
theorem dt_rd {kvs : List (List Key × V)} (ok : HOk P w H h) (e : Rd H a (.dT kvs)) : kvs.length ≤ sizeLine ∧ (a == sysModules) = false ∧
    ∃ xs, KT H kvs xs ∧ h.DictOfH (tupleKind (mixKind P w)) a xs := by
  obtain ⟨z, y, xs, r, o, es, ep, h1, h2, h3, h4, h5⟩ := (show ObjOk P w H h a (.dT kvs) from rd_of ok e)
  refine ⟨z, y, xs, r, o, es, ep, h1, h2, h3, h4, fun x hx => ?_, h5⟩
  have all : ∀ {l : List (List Key × V)} {m : List (List Key × Addr × Value)}, KT H l m → ∀ x ∈ m, (tupleKind (mixKind P w)).is h x.1 x.2.1 := by
    intro l m q
    induction q with
    | nil => intro x hx; exact nomatch hx
    | @cons p q ps qs hq t ih =>
      intro x hx
      rcases List.mem_cons.mp hx with e | hx
      · subst e
        exact key_of ok (by rw [← hq.1]; exact hq.2.1)
      · exact ih x hx
  exact all r x hx
theorem dt_of {kvs : List (List Key × V)} (ok : HOk P w H h) (e : H a = some (.dT kvs)) : kvs.length ≤ sizeLine ∧ (a == sysModules) = false ∧
    ∃ xs, KT H kvs xs ∧ h.DictOfH (tupleKind (mixKind P w)) a xs := dt_rd ok (.inl e)
end
def DGet (H : Hp) (a : Addr) (y : V) (r : Option V) : Prop :=
  (∃ kvs k, Rd H a (.dK kvs) ∧ y = kV k ∧ r = valV kvs k) ∨ ∃ kvs k b, Rd H a (.dT kvs) ∧ y = .ref b ∧ H b = some (.tup (k.map kV)) ∧ r = valV kvs k
def DPut (H : Hp) (a : Addr) (y v : V) (H' : Hp) : Prop :=
  (∃ kvs k, H a = some (.dK kvs) ∧ y = kV k ∧ kvs.length < sizeLine ∧ H' = upd H a (.dK (putK kvs k v))) ∨
  ∃ kvs k b, H a = some (.dT kvs) ∧ y = .ref b ∧ H b = some (.tup (k.map kV)) ∧ kvs.length < sizeLine ∧ H' = upd H a (.dT (putK kvs k v))
theorem DGet.k {H : Hp} {a : Addr} {kvs : List (Key × V)} {k : Key} (e : H a = some (.dK kvs)) : DGet H a (kV k) (valV kvs k) := .inl ⟨kvs, k, .inl e, rfl, rfl⟩
theorem DGet.t {H : Hp} {a b : Addr} {kvs : List (List Key × V)} {k : List Key} (e : H a = some (.dT kvs)) (eb : H b = some (.tup (k.map kV))) : DGet H a (.ref b) (valV kvs k) := .inr ⟨kvs, k, b, .inl e, rfl, eb, rfl⟩
theorem DPut.k {H : Hp} {a : Addr} {kvs : List (Key × V)} {k : Key} {v : V} (e : H a = some (.dK kvs)) (hl : kvs.length < sizeLine) : DPut H a (kV k) v (upd H a (.dK (putK kvs k v))) := .inl ⟨kvs, k, e, rfl, hl, rfl⟩
theorem DPut.t {H : Hp} {a b : Addr} {kvs : List (List Key × V)} {k : List Key} {v : V} (e : H a = some (.dT kvs)) (eb : H b = some (.tup (k.map kV))) (hl : kvs.length < sizeLine) :
    DPut H a (.ref b) v (upd H a (.dT (putK kvs k v))) := .inr ⟨kvs, k, b, e, rfl, eb, hl, rfl⟩
section
variable {X : Cx} {pins : List (Addr × Obj)} {σ : St} {H : Hp} {s : Shared} {a : Addr} {y v : V} {u r : Value} {o : Option V} {A : Around} {E : Value → Shared → Prop}
theorem Inv.big (I : Inv X pins σ H s) : sysModules < s.heap.objs.size := by
  have h : mainGlobals < s.heap.objs.size := (I.mod.glob.keeps I.bk).lt
  exact Nat.lt_trans (by decide) h
theorem d_getItem {Q : Value → Shared → Prop} (hu : A.units + 1 < cLine) (I : Inv X pins σ H s) (g : DGet H a y (some v)) (ry : RelV y u) (h : ∀ w' s', Inv X pins σ H s' → RelV v w' → Q w' s') :
    wpAny (model X.prog X.w) A (getItem (.ref a) u) Q E s := by
  rcases g with ⟨kvs, k, e, ey, l⟩ | ⟨kvs, k, b, e, ey, eb, l⟩
  · subst ey
    obtain ⟨z, hd, vs, rel, dd⟩ := dk_rd I.hok e
    obtain ⟨w', hw, rw'⟩ := RelO.some_of (v := v) (o := valueAt vs k) (by rw [l]; exact rel.val k)
    exact wpAny_getItem_of (kV_is ry) dd.mapOf hw (h w' _ (I.tok _) rw')
  · subst ey
    cases (show u = Value.ref b from ry)
    obtain ⟨z, hd, xs, rel, dd⟩ := dt_rd I.hok e
    obtain ⟨w', hw, rw'⟩ := RelO.some_of (v := v) (o := (atKey xs k).map (·.2)) (by rw [l]; exact rel.val k)
    obtain ⟨p, hp, hp2⟩ := Option.map_eq_some_iff.mp hw
    refine wpAny_getItem_heap (tupleKind_room_in1 hu) (key_of I.hok eb) dd hp ?_
    rw [hp2]
    exact h w' _ (I.tok _) rw'
theorem d_notIn {Q : Value → Shared → Prop} (hu : A.units + 1 < cLine) (I : Inv X pins σ H s) (g : DGet H a y o) (ry : RelV y u) (h : ∀ s', Inv X pins σ H s' → Q (.bool (!o.isSome)) s') :
    wpAny (model X.prog X.w) A (compareOp .NotIn u (.ref a)) Q E s := by
  rcases g with ⟨kvs, k, e, ey, l⟩ | ⟨kvs, k, b, e, ey, eb, l⟩
  · subst ey
    obtain ⟨z, hd, vs, rel, dd⟩ := dk_rd I.hok e
    refine wpAny_notIn_of (kV_is ry) hd dd.mapOf ?_
    rw [← (rel.val k).isSome_eq, ← l]
    exact h _ (I.tok _)
  · subst ey
    cases (show u = Value.ref b from ry)
    obtain ⟨z, hd, xs, rel, dd⟩ := dt_rd I.hok e
    refine wpAny_notIn_heap (tupleKind_room_in1 hu) (key_of I.hok eb) hd dd ?_
    have q := (rel.val k).isSome_eq
    rw [Option.isSome_map] at q
    rw [← q, ← l]
    exact h _ (I.tok _)
theorem d_write {h' : Heap} {t' : Nat} {ob : HO} (I : Inv X pins σ H s) (mu : Mut (H a)) (hs : Heap.SameBut a s.heap h') (he : ∃ q, h'.get? a = some q) (new : ObjOk X.prog X.w (upd H a ob) h' a ob) :
    Inv X pins σ (upd H a ob) { s with heap := h', toks := t' } :=
  I.write (x := a) (e := a) mu (.inl rfl) (fun b q hb z => (hs.2 b hb).trans z) he new
theorem dk_new {P : Program} {w : World} {H' : Hp} {h' : Heap} {kvs : List (Key × V)} {vs : List (Key × Value)} (z : kvs.length ≤ sizeLine) (hd : (a == sysModules) = false) (rel : KV kvs vs) (dd : h'.DictOf (mixKind P w) a vs) :
    ObjOk P w H' h' a (.dK kvs) := ⟨z, hd, vs, rel, dd⟩
theorem d_setItem {H' : Hp} {Q : Unit → Shared → Prop} (hu : A.units + 1 < cLine) (I : Inv X pins σ H s) (g : DPut H a y v H') (ry : RelV y u) (rv : RelV v r) (h : ∀ s', Inv X pins σ H' s' → Q () s') :
    wpAny (model X.prog X.w) A (setItem (.ref a) u r) Q E s := by
  rcases g with ⟨kvs, k, e, ey, l, eH⟩ | ⟨kvs, k, b, e, ey, eb, l, eH⟩
  · subst ey eH
    obtain ⟨z, hd, vs, rel, dd⟩ := dk_of I.hok e
    have hz : vs.length ≤ sizeLine := by rw [← rel.length]; exact z
    have hl : (putK kvs k v).length ≤ sizeLine := by have := length_putK kvs k v; omega
    refine wpAny_setItem_pairs (hsz := hz) (kV_is ry) dd fun h' dd' hs => h _ ?_
    have he : ∃ q, h'.get? a = some q := let ⟨q, _, _, hq, _⟩ := dd'; ⟨q, hq⟩
    exact d_write I (by rw [e]; exact True.intro) hs he (dk_new hl hd (rel.put k rv) dd')
  · subst ey eH
    cases (show u = Value.ref b from ry)
    obtain ⟨z, hd, xs, rel, dd⟩ := dt_of I.hok e
    have hz : xs.length ≤ sizeLine := by rw [← Paired.length rel]; exact z
    have hl : (putK kvs k v).length ≤ sizeLine := by have := length_putK kvs k v; omega
    refine wpAny_setItem_heap (hsz := hz) (tupleKind_room_in1 hu) (key_of I.hok eb) dd fun h' dd' hs => h _ ?_
    obtain ⟨q, es, ep, hq, h2, h3, h4, _, h5⟩ := dd'
    refine d_write I (by rw [e]; exact True.intro) hs ⟨q, hq⟩ ⟨hl, hd, _, (rel.put k eb rv).keeps fun c ys ec => ?_, q, es, ep, hq, h2, h3, h4, h5⟩
    rw [upd_ne (ne_of ec e (fun z => nomatch z))]
    exact ec
end
section
variable {X : Cx} {pins : List (Addr × Obj)} {σ : St} {H : Hp} {s : Shared} {a : Addr} {kvs : List (Key × V)} {k : Key} {u : Value} {A : Around} {E : Value → Shared → Prop}
end
def NoSl (i : Expr) : Prop := ∀ ov iv, subscripted i false ov iv = operate [ov, iv] (getItem ov iv)
theorem subD_of {prog : Program} {w : World} {A : Around} {E : Value → Shared → Prop} {s : Shared} {env : Env} {value slice : Expr} {pos : Pos} {T id : String} {Q : Value → Shared → Prop}
    (hl : typeLookup (.type T) "__getitem__" = pure (some (.builtin id))) (hs : NoSl slice)
    (h : wpAny (model prog w) A (eval value env) (fun o s₁ => wpAny (model prog w) A (eval slice env) (fun i s₂ => s₂.TypeIs o T ∧ wpAny (model prog w) A (getItem o i) Q E s₂) E s₁) E s) :
    wpAny (model prog w) A (eval (.Subscript value slice pos) env) Q E s := by
  refine Subscript_ (wpAny_mono h (fun o s₁ h₁ => wpAny_mono h₁ (fun i s₂ h₂ => ?_) fun _ _ x => x) fun _ _ x => x)
  obtain ⟨hT, h₂⟩ := h₂
  unfold subscriptTail
  refine wpAny_bind ?_
  rw [getitemInPython_of_ne hT.not_modules]
  refine wpAny_bind (wpAny_specialOf hT hl ?_)
  have fin : wpAny (model prog w) A (subscripted slice false o i) (fun r s₃ => wpAny (model prog w) A (letTemporaryGo value o r >>= fun _ => pure r) Q E s₃) E s₂ := by
    rw [hs o i]
    exact wpAny_operating (wpAny_mono h₂ (fun r s₃ h₃ => wpAny_bind (wpAny_letTemporaryGo (wpAny_pure h₃))) fun _ _ x => x)
  first
    | exact wpAny_pure (wpAny_bind fin)
    | exact wpAny_bind (wpAny_pure (wpAny_bind fin))
    | exact wpAny_bind fin
theorem dict_typeIs {X : Cx} {pins : List (Addr × Obj)} {σ : St} {H : Hp} {s : Shared} {a : Addr} {y : V} {o : Option V} (I : Inv X pins σ H s) (g : DGet H a y o) : s.TypeIs (.ref a) "dict" := by
  rcases g with ⟨kvs, k, e, _, _⟩ | ⟨kvs, k, b, e, _, _, _⟩
  · obtain ⟨_, _, vs, _, dd⟩ := dk_rd I.hok e
    exact dd.typeIs
  · obtain ⟨_, _, xs, _, dd⟩ := dt_rd I.hok e
    exact dd.typeIs
def tDGet (td ty : TE) : TE := fun σ H Q => td σ H fun x H1 => ty σ H1 fun y H2 => ∃ a v, x = .ref a ∧ DGet H2 a y (some v) ∧ Q v H2
def tDIn (ty td : TE) : TE := fun σ H Q => ty σ H fun y H1 => td σ H1 fun x H2 => ∃ a o, x = .ref a ∧ DGet H2 a y o ∧ Q (.bl o.isSome) H2
def tDNotIn (ty td : TE) : TE := fun σ H Q => ty σ H fun y H1 => td σ H1 fun x H2 => ∃ a o, x = .ref a ∧ DGet H2 a y o ∧ Q (.bl (!o.isSome)) H2
def sDPut (td ty tv : TE) : TS := fun D σ H => tv σ H fun v H1 => td σ H1 fun x H2 => ty σ H2 fun y H3 => ∃ a H4, x = .ref a ∧ DPut H3 a y v H4 ∧ D.nx σ H4
def sDAug (td ty tv : TE) (rd : V → V → Hp → VK → Prop) : TS := fun D σ H => td σ H fun x H1 => ty σ H1 fun y H2 => ∃ a v, x = .ref a ∧ DGet H2 a y (some v) ∧
  tv σ H2 fun y2 H3 => rd v y2 H3 fun z H4 => ∃ H5, DPut H4 a y z H5 ∧ D.nx σ H5
def sDDel (td ty : TE) : TS := fun D σ H => td σ H fun x H1 => ty σ H1 fun y H2 => ∃ a kvs k, x = .ref a ∧ H2 a = some (.dK kvs) ∧ y = kV k ∧ (valV kvs k).isSome = true ∧ D.nx σ (upd H2 a (.dK (dropK kvs k)))
section
variable {X : Cx} {o i e value : Expr} {pos pos' tpos : Pos} {td ty tv : TE}
theorem pe_dget (hu : X.A.units + 1 < cLine) (ho : PE X o td) (hi : PE X i ty) (hs : NoSl i) : PE X (.Subscript o i pos) (tDGet td ty) := by
  intro pins s σ H Q I h
  refine subD_of PySem.F.slot_dict_getitem.lookup hs (thn (ho pins s σ H _ I h) fun u s1 ⟨x, H1, I1, rx, q1⟩ => thn (hi pins s1 σ H1 _ I1 q1) fun iv s2 ⟨y, H2, I2, ry, a, v, ex, g, q2⟩ => ?_)
  subst ex
  obtain rfl : u = Value.ref a := rx
  exact ⟨dict_typeIs I2 g, d_getItem hu I2 g ry fun w' s3 I3 rw' => ⟨v, H2, I3, rw', q2⟩⟩
theorem pc_dnotin (hu : X.A.units + 1 < cLine) (hi : PE X i ty) (ho : PE X o td) : PC X .NotIn i o (tDNotIn ty td) := by
  intro pins s σ H Q I h
  refine thn (hi pins s σ H _ I h) fun iv s1 ⟨y, H1, I1, ry, q1⟩ => thn (ho pins s1 σ H1 _ I1 q1) fun u s2 ⟨x, H2, I2, rx, a, ov, ex, g, q2⟩ => ?_
  subst ex
  obtain rfl : u = Value.ref a := rx
  exact d_notIn hu I2 g ry fun s3 I3 => ⟨.bl (!ov.isSome), H2, I3, rfl, q2⟩
theorem ps_dput (hu : X.A.units + 1 < cLine) (ho : PE X o td) (hi : PE X i ty) (hv : PE X value tv) (hs : swapsWith value (some (.Subscript o i pos')) pos.line X.env = pure false) :
    PS X (.Assign [.Subscript o i pos'] value pos) (sDPut td ty tv) := by
  intro pins s σ H D I h
  refine wpAny_Assign_Subscript (thn (hv pins s σ H _ I h) fun r s1 ⟨v, H1, I1, rv, q1⟩ => thn (ho pins s1 σ H1 _ I1 q1) fun u s2 ⟨x, H2, I2, rx, q2⟩ => thn (hi pins s2 σ H2 _ I2 q2) fun iv s3 ⟨y, H3, I3, ry, a, H4, ex, g, q3⟩ => ?_) hs
  subst ex
  obtain rfl : u = Value.ref a := rx
  exact d_setItem hu I3 g ry rv fun s4 I4 => ⟨σ, H4, I4, q3⟩
end
theorem dk_empty {P : Program} {w : World} {H : Hp} (h : Heap) (hb : sysModules < h.objs.size) : ObjOk P w H (h.push { cls := .type "dict", data := .dict #[] }) h.objs.size (.dK []) :=
  ⟨Nat.zero_le _, beq_eq_false_iff_ne.mpr (Ne.symm (Nat.ne_of_lt hb)), [], .nil, Heap.DictOf.new h⟩
def tDNewK : TE := fun _ H Q => ∀ p, H p = none → Q (.ref p) (upd H p (.dK []))
def tDNewT : TE := fun _ H Q => ∀ p, H p = none → Q (.ref p) (upd H p (.dT []))
section
variable {X : Cx} {pos : Pos}
theorem pe_dnewK : PE X (.Dict [] [] pos) tDNewK := fun pins s σ H Q I h =>
  wpAny_Dict_empty ⟨.ref s.heap.objs.size, _, I.laid (a := s.heap.objs.size) (o := .dK []) (t' := s.toks) (fun _ _ q => Heap.get?_push_of_some _ q) (Nat.le_refl _) (dk_empty s.heap I.big), rfl, h _ (I.hok.fresh (Nat.le_refl _))⟩
end
def tPairs : List (TE × TE) → St → Hp → (List (V × V) → Hp → Prop) → Prop
  | [], _, H, Q => Q [] H
  | (tk, tv) :: r, σ, H, Q => tk σ H fun x H1 => tv σ H1 fun y H2 => tPairs r σ H2 fun ps H3 => Q ((x, y) :: ps) H3
abbrev VV : List (V × V) → List (Value × Value) → Prop := Paired fun p q => RelV p.1 q.1 ∧ RelV p.2 q.2
def PPs (X : Cx) (pos : Pos) (keys : List (Option Expr)) (values : List Expr) (trs : List (TE × TE)) : Prop :=
  ∀ (pins : List (Addr × Obj)) (s : Shared) (σ : St) (H : Hp) (Q : List (V × V) → Hp → Prop), Inv X pins σ H s → tPairs trs σ H Q →
    wpAny (model X.prog X.w) X.A (evalPairs (pairTrees keys values X.env pos)) (fun vs s' => ∃ ps H', Inv X pins σ H' s' ∧ VV ps vs ∧ Q ps H') X.xe s
def mergeK (kvs more : List (Key × V)) : List (Key × V) := more.foldl (fun acc kv => putK acc kv.1 kv.2) kvs
def tDisp (trs : List (TE × TE)) : TE := fun σ H Q => ∀ p, H p = none → tPairs trs σ (upd H p (.dK [])) fun ps H2 => H2 p = some (.dK []) ∧ ∃ kvs : List (Key × V), ps = kvs.map (fun kv => (kV kv.1, kv.2)) ∧ kvs.length ≤ 15 ∧ Q (.ref p) (upd H2 p (.dK (mergeK [] kvs)))
structure M1 (X : Cx) (o : Expr) (m : Str) (apos : Pos) (e : Expr) (cpos : Pos) : Prop where
  base : attributeBase o m X.env (eval o X.env) = eval o X.env
  few : ((backTo cpos (starEach [e] X.env)).all (fun x => !x.1) && (backToKw cpos (keywordEach [] X.env)).all (fun x => x.1.isSome)
    && decide (([e] : List Expr).length + ([] : List Keyword).length + (if ([] : List Keyword).isEmpty then 0 else 1) < 30)) = true
  line : (apos.endLine == cpos.line) = true
  trees : backTo cpos (starEach [e] X.env) = [(false, eval e X.env)]
structure M2 (X : Cx) (o : Expr) (m : Str) (apos : Pos) (e f : Expr) (cpos : Pos) : Prop where
  base : attributeBase o m X.env (eval o X.env) = eval o X.env
  few : ((backTo cpos (starEach [e, f] X.env)).all (fun x => !x.1) && (backToKw cpos (keywordEach [] X.env)).all (fun x => x.1.isSome)
    && decide (([e, f] : List Expr).length + ([] : List Keyword).length + (if ([] : List Keyword).isEmpty then 0 else 1) < 30)) = true
  line : (apos.endLine == cpos.line) = true
  trees : backTo cpos (starEach [e, f] X.env) = [(false, eval e X.env), (false, eval f X.env)]
def IsD (H : Hp) (a : Addr) : Prop := (∃ kvs, Rd H a (.dK kvs)) ∨ ∃ kvs, Rd H a (.dT kvs)
section
variable {X : Cx} {pins : List (Addr × Obj)} {σ : St} {H : Hp} {s : Shared} {a : Addr} {y d : V} {u r : Value} {o : Option V} {A : Around} {E : Value → Shared → Prop}
end
def tDGet1 (td ty : TE) : TE := fun σ H Q => td σ H fun x H1 => ∃ a, x = .ref a ∧ IsD H1 a ∧ ty σ H1 fun y H2 => ∃ o, DGet H2 a y o ∧ Q (o.getD .non) H2
def tDGet2 (td ty tx : TE) : TE := fun σ H Q => td σ H fun x H1 => ∃ a, x = .ref a ∧ IsD H1 a ∧ ty σ H1 fun y H2 => tx σ H2 fun z H3 => ∃ o, DGet H3 a y o ∧ Q (o.getD z) H3
def tDPop1 (td ty : TE) : TE := fun σ H Q => td σ H fun x H1 => ∃ a, x = .ref a ∧ IsD H1 a ∧ ty σ H1 fun y H2 => ∃ kvs k v, H2 a = some (.dK kvs) ∧ y = kV k ∧ valV kvs k = some v ∧ Q v (upd H2 a (.dK (dropK kvs k)))
def tDPop2 (td ty tx : TE) : TE := fun σ H Q => td σ H fun x H1 => ∃ a, x = .ref a ∧ IsD H1 a ∧ ty σ H1 fun y H2 => tx σ H2 fun z H3 => ∃ kvs k, H3 a = some (.dK kvs) ∧ y = kV k ∧
  (∀ v, valV kvs k = some v → Q v (upd H3 a (.dK (dropK kvs k)))) ∧ (valV kvs k = none → Q z H3)
section
variable {X : Cx} {o e f : Expr} {apos cpos : Pos} {td ty tx : TE}
end
section
variable {X : Cx} {pins : List (Addr × Obj)} {σ : St} {H : Hp} {s : Shared} {a : Addr} {kvs : List (Key × V)} {A : Around} {E : Value → Shared → Prop}
end
section
variable {X : Cx} {pins : List (Addr × Obj)} {σ : St} {H : Hp} {s : Shared} {a : Addr} {y : V} {u : Value} {A : Around} {E : Value → Shared → Prop}
end
end L2
namespace L2
open PySem PySem.Spec PyProof.Rows
section
variable {X : Cx}
end
section
variable {κ : Type} [DecidableEq κ]
theorem nd_snoc : ∀ {l : List κ} {k : κ}, l.Nodup → ¬ k ∈ l → (l ++ [k]).Nodup
  | [], k, _, _ => by simp
  | a :: r, k, h, hk => by
    obtain ⟨h1, h2⟩ := List.nodup_cons.mp h
    show (a :: (r ++ [k])).Nodup
    refine List.nodup_cons.mpr ⟨fun m => ?_, nd_snoc h2 fun m => hk (List.mem_cons.mpr (Or.inr m))⟩
    rcases List.mem_append.mp m with q | q
    · exact h1 q
    · exact hk (List.mem_cons.mpr (Or.inl (List.mem_singleton.mp q).symm))
end
end L2
namespace Blk
open PySem
def J : List (List Nat) → List Nat
  | [] => []
  | [x] => x
  | x :: y :: r => x ++ 32 :: J (y :: r)
def C : List Nat → List (List Nat)
  | [] => [[]]
  | c :: r => if c = 32 then [] :: C r else match C r with
    | [] => [[c]]
    | p :: ps => (c :: p) :: ps
theorem C_free : ∀ (x : List Nat), 32 ∉ x → C x = [x]
  | [], _ => rfl
  | c :: r, h => by
    have h1 : ¬ c = 32 := fun e => h (by rw [e]; exact List.mem_cons_self)
    have ih := C_free r fun m => h (List.mem_cons_of_mem _ m)
    show (if c = 32 then _ else _) = _
    rw [if_neg h1, ih]
theorem C_app : ∀ (x r : List Nat), 32 ∉ x → C (x ++ 32 :: r) = x :: C r
  | [], r, _ => by
    show (if 32 = 32 then _ else _) = _
    rw [if_pos rfl]
  | c :: x, r, h => by
    have h1 : ¬ c = 32 := fun e => h (by rw [e]; exact List.mem_cons_self)
    have ih := C_app x r fun m => h (List.mem_cons_of_mem _ m)
    show (if c = 32 then _ else match C (x ++ 32 :: r) with | [] => [[c]] | p :: ps => (c :: p) :: ps) = _
    rw [if_neg h1, ih]
theorem C_J : ∀ (ps : List (List Nat)), ps ≠ [] → (∀ p ∈ ps, 32 ∉ p) → C (J ps) = ps
  | [], h, _ => absurd rfl h
  | [x], _, h => C_free x (h x List.mem_cons_self)
  | x :: y :: r, _, h => by
    show C (x ++ 32 :: J (y :: r)) = _
    rw [C_app x _ (h x List.mem_cons_self), C_J (y :: r) (by intro e; cases e) fun p hp => h p (List.mem_cons_of_mem _ hp)]
theorem J_snoc : ∀ (ws : List (List Nat)) (w : List Nat), J (ws ++ [w]) = (ws.map (· ++ [32])).flatten ++ w
  | [], w => rfl
  | [x], w => by
    show x ++ 32 :: w = _
    simp
  | x :: y :: r, w => by
    have ih := J_snoc (y :: r) w
    show x ++ 32 :: J (y :: r ++ [w]) = _
    rw [ih]
    simp
def sg (x : Str) : List Nat := x.cps.toList
theorem sg_inj {x y : Str} (h : sg x = sg y) : x = y := by
  obtain ⟨a⟩ := x
  obtain ⟨b⟩ := y
  have e : a.toList = b.toList := h
  rw [Array.toList_inj.mp e]
theorem sg_app (x y : Str) : sg (x ++ y) = sg x ++ sg y := Array.toList_append ..
theorem map_sg_inj : ∀ {a b : List Str}, a.map sg = b.map sg → a = b
  | [], [], _ => rfl
  | [], _ :: _, h => by cases h
  | _ :: _, [], h => by cases h
  | x :: a, y :: b, h => by
    have e := List.cons.inj h
    rw [sg_inj e.1, map_sg_inj e.2]
theorem J_join : ∀ ps : List Str, ps ≠ [] → sg (Str.join ⟨#[32]⟩ ps) = J (ps.map sg)
  | [], h => absurd rfl h
  | [x], _ => rfl
  | x :: y :: r, _ => by
    have ih := J_join (y :: r) (by intro e; cases e)
    show sg (x ++ ⟨#[32]⟩ ++ Str.join ⟨#[32]⟩ (y :: r)) = sg x ++ 32 :: J ((y :: r).map sg)
    rw [sg_app, sg_app, ih]
    show sg x ++ [32] ++ _ = _
    rw [List.append_assoc] <;> rfl
theorem part_unique {z : Str} {a b : List Str} (ha : a ≠ []) (hb : b ≠ []) (fa : ∀ p ∈ a, 32 ∉ sg p) (fb : ∀ p ∈ b, 32 ∉ sg p) (ja : J (a.map sg) = sg z) (jb : J (b.map sg) = sg z) : a = b := by
  have h1 := C_J (a.map sg) (by simpa using ha) (by intro p hp; obtain ⟨q, hq, rfl⟩ := List.mem_map.mp hp; exact fa q hq)
  have h2 := C_J (b.map sg) (by simpa using hb) (by intro p hp; obtain ⟨q, hq, rfl⟩ := List.mem_map.mp hp; exact fb q hq)
  rw [ja] at h1
  rw [jb] at h2
  exact map_sg_inj (h1.symm.trans h2)
structure Parts (pre : List Nat) (ws : List Str) (w : Str) : Prop where
  free : ∀ p ∈ ws ++ [w], 32 ∉ sg p
  join : ((ws.map sg).map (· ++ [32])).flatten ++ sg w = pre
  many : ws.length ≤ pre.length
  len : w.length ≤ pre.length
theorem Parts.start : Parts [] [] ⟨#[]⟩ := by
  refine ⟨?_, rfl, Nat.le_refl _, Nat.le_refl _⟩
  intro p hp
  rw [List.mem_singleton.mp hp]
  intro h
  cases h
theorem Parts.blank {pre : List Nat} {ws : List Str} {w : Str} (P : Parts pre ws w) : Parts (pre ++ [32]) (ws ++ [w]) ⟨#[]⟩ := by
  refine ⟨?_, ?_, ?_, Nat.zero_le _⟩
  · intro p hp
    rcases List.mem_append.mp hp with h | h
    · exact P.free p h
    · rw [List.mem_singleton.mp h]
      intro h
      cases h
  · rw [← P.join]
    simp [sg]
  · have := P.many
    simp only [List.length_append, List.length_singleton]
    omega
theorem Parts.sign {pre : List Nat} {ws : List Str} {w : Str} {c : Nat} (P : Parts pre ws w) (h : c ≠ 32) : Parts (pre ++ [c]) ws (w ++ ⟨#[c]⟩) := by
  have e : sg (w ++ ⟨#[c]⟩) = sg w ++ [c] := sg_app ..
  refine ⟨?_, ?_, ?_, ?_⟩
  · intro p hp
    rcases List.mem_append.mp hp with q | q
    · exact P.free p (List.mem_append_left _ q)
    · rw [List.mem_singleton.mp q, e]
      intro m
      rcases List.mem_append.mp m with m | m
      · exact P.free w (List.mem_append_right _ (List.mem_singleton.mpr rfl)) m
      · exact h (List.mem_singleton.mp m).symm
  · rw [← P.join, e, List.append_assoc]
  · have := P.many
    simp only [List.length_append, List.length_singleton]
    omega
  · have := P.len
    have e2 := congrArg List.length e
    simp only [List.length_append, List.length_singleton] at e2 ⊢
    have e3 : (sg (w ++ ⟨#[c]⟩)).length = (w ++ ⟨#[c]⟩ : Str).length := by simp [sg, Str.length]
    have e4 : (sg w).length = w.length := by simp [sg, Str.length]
    omega
theorem Parts.done {z : Str} {ws : List Str} {w : Str} (P : Parts (sg z) ws w) {b : List Str} (hb : b ≠ []) (fb : ∀ p ∈ b, 32 ∉ sg p) (jb : Str.join ⟨#[32]⟩ b = z) : ws ++ [w] = b := by
  refine part_unique (z := z) (by simp) hb P.free fb ?_ ?_
  · rw [List.map_append, List.map_singleton, J_snoc]
    exact P.join
  · rw [← J_join b hb, jb]
end Blk
namespace L2
open PySem PySem.Spec PyProof.Rows
theorem small {n : Nat} (h : n ≤ 1000) : n ≤ sizeLine := Nat.le_of_lt (small1000 h)
theorem len_toList (z : Str) : z.cps.toList.length = z.length := by simp [Str.length]
theorem at_in {α : Type} {xs : List α} {i : Int} (h0 : 0 ≤ i) (h1 : i < (xs.length : Int)) : ∃ v, xs[i.toNat]? = some v ∧ atI xs i = some v := by
  have hk : i.toNat < xs.length := by omega
  have q : atI xs ((i.toNat : Nat) : Int) = some xs[i.toNat] := atI_nat (List.getElem?_eq_getElem hk)
  have e : ((i.toNat : Nat) : Int) = i := by omega
  rw [e] at q
  exact ⟨_, List.getElem?_eq_getElem hk, q⟩
theorem bt_list : bootBuiltins "list" = some (.type "list") := by decide +kernel
theorem bt_bool : bootBuiltins "bool" = some (.type "bool") := by decide +kernel
theorem bt_int : bootBuiltins "int" = some (.type "int") := by decide +kernel
theorem bt_isi : bootBuiltins "isinstance" = some (.builtin "isinstance") := by decide +kernel
theorem bt_min : bootBuiltins "min" = some (.builtin "min") := by decide +kernel
theorem bt_tuple : bootBuiltins "tuple" = some (.type "tuple") := by decide +kernel
theorem rel_ty (n : String) : RelV (.ty n) (.type n) := rfl
theorem rel_int (x : Int) (t : Tok) : RelV (.int x) (.int x t) := ⟨t, rfl⟩
def Itx (z : Str) : It := ⟨fun i _ => i < z.cps.size, fun i H x H' => H' = H ∧ ∃ c, z.cps[i]? = some c ∧ x = .str ⟨#[c]⟩, fun i _ => i = z.cps.size⟩
section
variable {X : Cx} {tg : Expr}
def iStr (tl : TE) : TI := fun σ H R => tl σ H fun x H1 => ∃ z, x = .str z ∧ R (Itx z) H1
end
section
variable {X : Cx}
def rIxSA : R2 := fun x y H Q => ∃ z i, x = .str z ∧ y = .int i ∧ z.length ≤ sizeLine ∧ 0 ≤ i ∧ i < ((z.length : Nat) : Int) ∧ ∀ c, z.cps.toList[i.toNat]? = some c → Q (.str ⟨#[c]⟩) H
theorem ix_strA : IxR X rIxSA := by
  intro value slice pins s σ H x y v u Q I rx ry h hs
  obtain ⟨z, i, rfl, rfl, hz, h0, h1, q⟩ := h
  obtain ⟨c, e1, e2⟩ := at_in (xs := z.cps.toList) h0 (by rw [len_toList]; exact h1)
  exact ix_str value slice pins s σ H _ _ v u Q I rx ry ⟨z, i, c, rfl, rfl, hz, e2, q c e1⟩ hs
def rIsi (K : PySem.W.Frag) : List V → Hp → VK → Prop := fun xs H Q => ∃ x n t b, xs = [x, .ty n] ∧ TyOf K H x t ∧ PySem.W.kitOne K t (.type n) = some b ∧ Q (.bl b) H
theorem call_isi : CallR X (.builtin "isinstance") (rIsi X.K) := by
  intro pins s σ H xs us Q I r h
  obtain ⟨x, n, t, b, rfl, ty, e, q⟩ := h
  obtain ⟨u, w', rfl, r1, r2⟩ := vals2 r
  cases (show w' = Value.type n from r2)
  exact isinst_ok I r1 ty e fun tk => ⟨.bl b, H, I.tok tk, rfl, q⟩
theorem kit_same {K : PySem.W.Frag} (n : String) : PySem.W.kitOne K (.type n) (.type n) = some true := by
  unfold PySem.W.kitOne
  rw [if_pos (beq_self_eq_true _)]
def eqVs (xs ys : List V) : Bool := xs.length == ys.length && (List.range xs.length).all fun j => eqV (xs.getD j .non) (ys.getD j .non)
theorem flat_at {xs : List V} (f : xs.all flatV = true) (j : Nat) : flatV (xs.getD j .non) = true := by
  by_cases h : j < xs.length
  · rw [List.getD_eq_getElem?_getD, List.getElem?_eq_getElem h]
    exact (List.all_eq_true.mp f) _ (List.getElem_mem h)
  · rw [List.getD_eq_getElem?_getD, List.getElem?_eq_none (by omega)]
    rfl
theorem vals_at {xs : List V} {us : List Value} (r : Vals xs us) (j : Nat) (h : j < us.toArray.size) : RelV (xs.getD j .non) (us.toArray[j]) := by
  have hl := r.length
  have h' : j < us.length := by simpa using h
  have h2 : j < xs.length := by omega
  obtain ⟨u, e1, e2⟩ := r.get (List.getElem?_eq_getElem h2)
  rw [List.getD_eq_getElem?_getD, List.getElem?_eq_getElem h2]
  have e3 : us.toArray[j] = u := by
    rw [List.getElem?_eq_getElem h'] at e1
    simpa using Option.some.inj e1
  rw [e3]
  exact e2
def rEqL (K : PySem.W.Frag) (neg : Bool) : R2 := fun x y H Q => ∃ p q xs ys, x = .ref p ∧ y = .ref q ∧ SqL K H p xs ∧ SqL K H q ys ∧ xs.all flatV = true ∧ ys.all flatV = true ∧ Q (.bl (if neg then !eqVs xs ys else eqVs xs ys)) H
theorem eqV_refl {x : V} (f : flatV x = true) : eqV x x = true := by
  cases x with
  | non => rfl
  | bl b => exact beq_self_eq_true b
  | int i => exact beq_self_eq_true i
  | str z => exact beq_self_eq_true z
  | _ => exact absurd (show false = true from f) Bool.false_ne_true
def rSplit : V → List V → Hp → VK → Prop := fun x vs H Q => ∃ z y, x = .str z ∧ vs = [.str y] ∧ (y.length == 0) = false ∧ z.length + 2 ≤ sizeLine ∧ ∀ p, H p = none → Q (.ref p) (upd H p (.lst ((Txt.split z y).map V.str)))
end
theorem same_new {H : Hp} {p : Addr} (h : H p = none) (o : HO) : Same H (upd H p o) := fun b u q => by rw [upd_ne (ne_of_none q h)]; exact q
theorem same_on {H H' : Hp} {p : Addr} (h : H p = none) (e : Same H H') (o : HO) : Same H (upd H' p o) := fun b u q => by rw [upd_ne (ne_of_none q h)]; exact e b u q
end L2
namespace L2
open PySem PySem.Spec PyProof.Rows
def closOf (cells : List (Str × Addr)) : List (Str × NameKind) → List (Str × Addr) → List (Str × Addr)
  | [], acc => acc
  | (n, k) :: r, acc => closOf cells r (if (k == .free) = true then (n, (cells.lookup n).getD 0) :: acc else acc)
theorem closureFor_of {scope : Scope} {env : Env} (h : ∀ p ∈ scope.names, p.2 = .free → (env.cells.lookup p.1).isSome = true) : closureFor scope env = pure (closOf env.cells scope.names []) := by
  obtain ⟨kd, names, g1, g2, more⟩ := scope
  simp only [closureFor]
  dsimp only at h ⊢
  generalize ([] : List (Str × Addr)) = acc
  induction names generalizing acc with
  | nil => rfl
  | cons p r ih =>
    obtain ⟨n, k⟩ := p
    have hr : ∀ p ∈ r, p.2 = .free → (env.cells.lookup p.1).isSome = true := fun p hp => h p (List.mem_cons_of_mem _ hp)
    have ih' := ih hr
    simp only [closOf]
    by_cases hk : k = .free
    · subst hk
      obtain ⟨c, hc⟩ := Option.isSome_iff_exists.mp (h (n, .free) List.mem_cons_self rfl)
      have hc' : List.lookup n env.cells = some c := hc
      rw [show (NameKind.free == NameKind.free) = true from rfl, if_pos rfl, hc']
      have e : cellOf env n = pure c := by unfold cellOf; rw [hc']
      have q := ih' ((n, c) :: acc)
      simp only [List.forIn_cons, beq_self_eq_true, if_true, e, pure_bind, Option.getD_some]
      exact q
    · have hb : (k == NameKind.free) = false := by simpa using hk
      have q := ih' acc
      simp only [List.forIn_cons, hb, Bool.false_eq_true, if_false, pure_bind]
      exact q
theorem closOf_in {cells : List (Str × Addr)} {y : Str} {c : Addr} : ∀ (names : List (Str × NameKind)) (acc : List (Str × Addr)), (∀ p ∈ names, p.2 = .free → (cells.lookup p.1).isSome = true) →
    (∀ y c, acc.lookup y = some c → cells.lookup y = some c) → (closOf cells names acc).lookup y = some c → cells.lookup y = some c
  | [], _, _, ha, h => ha _ _ h
  | (n, k) :: r, acc, hn, ha, h => by
    refine closOf_in r _ (fun p hp => hn p (List.mem_cons_of_mem _ hp)) (fun y c hy => ?_) h
    by_cases hk : (k == NameKind.free) = true
    · rw [if_pos hk] at hy
      rw [List.lookup_cons] at hy
      by_cases e : (y == n) = true
      · rw [e] at hy
        obtain ⟨d, hd⟩ := Option.isSome_iff_exists.mp (hn (n, k) List.mem_cons_self (by simpa using hk))
        have hd' : cells.lookup n = some d := hd
        have hy' : (cells.lookup n).getD 0 = c := Option.some.inj hy
        rw [hd'] at hy'
        rw [eq_of_beq e, hd']
        exact congrArg some hy'
      · rw [Bool.eq_false_iff.mpr e] at hy
        exact ha y c hy
    · rw [if_neg hk] at hy
      exact ha y c hy
theorem closOf_has {cells : List (Str × Addr)} {y : Str} : ∀ (names : List (Str × NameKind)) (acc : List (Str × Addr)), ((acc.lookup y).isSome = true ∨ (y, NameKind.free) ∈ names) → ((closOf cells names acc).lookup y).isSome = true
  | [], acc, h => h.elim id (fun z => by cases z)
  | (n, k) :: r, acc, h => by
    refine closOf_has r _ ?_
    rcases h with h | h
    · refine .inl ?_
      by_cases hk : (k == NameKind.free) = true
      · rw [if_pos hk, List.lookup_cons]
        by_cases e : (y == n) = true
        · rw [e]; rfl
        · rw [Bool.eq_false_iff.mpr e]; exact h
      · rw [if_neg hk]; exact h
    · rcases List.mem_cons.mp h with e | h
      · cases e
        refine .inl ?_
        rw [if_pos (show (NameKind.free == NameKind.free) = true from rfl), List.lookup_cons, beq_self_eq_true]
        rfl
      · exact .inr h
def compCx (X : Cx) (scope : Scope) (N' : List Str) (C : Addr) (ex : List Addr) (s₂ : Shared) (H₂ : Hp) : Cx where
  prog := X.prog
  w := X.w
  K := X.K
  mg := X.mg
  base := X.base
  A := X.A
  N := N'
  s₀ := s₂
  H₀ := H₂
  env := compEnvC scope (closOf X.env.cells scope.names []) C X.env
  outer := X.stack
  stack := X.stack
  ex := ex
  fn := fun _ => false
  calm := X.calm
  pn := []
  xe := fun _ _ => False
def FreesOk (X : Cx) (scope : Scope) : List (Str × Nat) → Prop
  | [] => True
  | p :: r => (X.N[p.2]? = some p.1 ∧ X.env.kindOf p.1 = some .cell ∧ (relabel scope X.env).names.lookup p.1 = some .cell ∧ (p.1, NameKind.free) ∈ scope.names) ∧ FreesOk X scope r
theorem FreesOk.at {X : Cx} {scope : Scope} : ∀ {fr : List (Str × Nat)}, FreesOk X scope fr → ∀ p ∈ fr, X.N[p.2]? = some p.1 ∧ X.env.kindOf p.1 = some .cell ∧ (relabel scope X.env).names.lookup p.1 = some .cell ∧ (p.1, NameKind.free) ∈ scope.names
  | [], _, p, hp => by cases hp
  | _ :: _, h, p, hp => by
    rcases List.mem_cons.mp hp with e | hp
    · rw [e]; exact h.1
    · exact FreesOk.at h.2 p hp
def inSt (frees : List (Str × Nat)) (σ : St) (x : Option V) : St := x :: frees.map fun p => (σ[p.2]?).join
def PIfs (X : Cx) (ifs : List Expr) (t : TT) : Prop :=
  ∀ (pins : List (Addr × Obj)) (s : Shared) (σ : St) (H : Hp) (Q : Bool → Hp → Prop), Inv X pins σ H s → t σ H Q →
    wpAny (model X.prog X.w) X.A (forIn ifs true fun c r => if r = true then do let ok ← isTrue c X.env (eval c X.env); pure (ForInStep.yield ok) else pure (ForInStep.yield r)) (TP X pins σ Q) X.xe s
theorem pifs_nil {X : Cx} : PIfs X [] (fun _ H Q => Q true H) := fun _ _ _ H _ I h => wpAny_tests_nil ⟨H, I, h⟩
theorem pifs_one {X : Cx} {c : Expr} {t : TT} (h : PT X c t) : PIfs X [c] t := fun pins s σ H Q I hw => wpAny_tests_one (h pins s σ H Q I hw)
def CompB (J : It) (tc : TT) (te : TE) (σf : Option V → St) (H1 : Hp) (Q : VK) : Prop := ∀ D, H1 D = none →
  ∃ W : Nat → Nat → List V → Hp → Prop, (∃ m, W 0 m [] (upd H1 D (.lst []))) ∧ ∀ i m ys H2, W i m ys H2 → H2 D = some (.lst ys) ∧
    ((J.stop i H2 ∧ Q (.ref D) H2) ∨ (J.go i H2 ∧ ys.length < sizeLine ∧ ∀ x H3, J.yld i H2 x H3 → tc (σf (some x)) H3 fun b H4 =>
      if b = true then te (σf (some x)) H4 fun y H5 => H5 D = some (.lst ys) ∧ ∃ m', m' < m ∧ W (i + 1) m' (ys ++ [y]) (upd H5 D (.lst (ys ++ [y]))) else ∃ m', m' < m ∧ W (i + 1) m' ys H4))
section
variable {prog : Program} {w : World} {A : Around} {R : Result → Shared → Prop} {s : Shared}
theorem comp_loop {elt target iter : Expr} {ifs : List Expr} {scope : Scope} {pos : Pos} {it acc : Value} {env : Env} (I : Nat → Shared → Prop)
    (turn : ∀ n s, I n s → wpAny (model prog w) A (pyNext it) (fun r s₁ => match r with
      | none => R (.ok .next) s₁
      | some v => wpAny (model prog w) A (letOwnedTupleGo target it v) (fun _ s₁' => wpAny (model prog w) A (assign target env v) (fun _ s₂ =>
          wpAny (model prog w) A (forIn ifs true fun c r => if r = true then do let ok ← isTrue c env (eval c env); pure (ForInStep.yield ok) else pure (ForInStep.yield r)) (fun ok s₃ =>
            if ok = true then wpAny (model prog w) A (eval elt env) (fun x s₄ =>
              wpAny (model prog w) A (call (.builtin "list.append") [acc, x]) (fun _ s₅ => ∃ m, m < n ∧ I m s₅) (fun _ _ => False) s₄) (fun _ _ => False) s₃
            else ∃ m, m < n ∧ I m s₃) (fun _ _ => False) s₂) (fun _ _ => False) s₁') (fun _ _ => False) s₁) (fun _ _ => False) s)
    (n : Nat) (h : I n s) :
    codeAny (model prog w) A (.compLoop (.ListComp elt [⟨target, iter, ifs, 0⟩] scope pos) 0 it acc env) R s := by
  have no : ∀ {α : Type} {t : Sem α} {Q : α → Shared → Prop} {E : Value → Shared → Prop} {s : Shared}, wpAny (model prog w) A t Q (fun _ _ => False) s → wpAny (model prog w) A t Q E s := fun h => wpAny_mono h (fun _ _ q => q) fun _ _ f => f.elim
  refine codeAny_loop rfl I (fun n s hI => ?_) n h
  show wpAny _ A ((compTurn (.ListComp elt [⟨target, iter, ifs, 0⟩] scope pos) 0 it acc env).onRaise (fun x => do noteFrame x env; theTreesLotGoes x)) _ _ s
  refine wpAny_noted ?_
  rw [compTurn_list]
  refine wpAny_bind (wpAny_standAt (wpAny_bind (wpAny_mono (turn n s hI) (fun r s₁ h₁ => ?_) fun _ _ h' => h'.elim)))
  cases r with
  | none => exact wpAny_pure h₁
  | some v =>
    refine wpAny_bind (wpAny_mono h₁ (fun _ s₁' h₁' => ?_) fun _ _ h' => h'.elim)
    refine wpAny_bind (wpAny_mono h₁' (fun _ s₂ h₂ => wpAny_bind (wpAny_mono h₂ (fun ok s₃ h₃ => ?_) fun _ _ h' => h'.elim)) fun _ _ h' => h'.elim)
    cases ok with
    | false => exact wpAny_pure ⟨rfl, h₃⟩
    | true =>
      exact wpAny_bind (wpAny_bind (wpAny_mono h₃ (fun x s₄ h₄ => wpAny_bind (wpAny_mono h₄ (fun _ s₅ h₅ => wpAny_pure (wpAny_pure ⟨rfl, h₅⟩)) fun _ _ h' => h'.elim)) fun _ _ h' => h'.elim))
end
section
variable {X : Cx} {elt iter : Expr} {x : Str} {px pos : Pos} {ifs : List Expr} {scope : Scope} {frees : List (Str × Nat)} {tc : TT} {te : TE}
structure CompOk (X : Cx) (scope : Scope) (x : Str) (frees : List (Str × Nat)) : Prop where
  cell : ∀ y ∈ scope.names, y.2 ≠ .cell
  kind : scope.kind = .function
  own : scope.names.lookup x = some .local
  names : ∀ y ∈ scope.names, y.2 = .local → scope.names.lookup y.1 = some .local
  fr : FreesOk X scope frees
  nd : (x :: frees.map (·.1)).Nodup
  cl : ∀ p ∈ scope.names, p.2 = .free → (X.env.cells.lookup p.1).isSome = true
  calm : X.calm = true
theorem relabel_free {scope : Scope} {env : Env} {y : Str} (hc : ∀ y ∈ scope.names, y.2 ≠ .cell) (h : (relabel scope env).names.lookup y = some .cell ∨ (relabel scope env).names.lookup y = some .free) : (y, NameKind.free) ∈ scope.names := by
  have key : ∀ k, (relabel scope env).names.lookup y = some k → k ≠ .local → k = .cell ∨ k = .free → (y, NameKind.free) ∈ scope.names := fun k hk _ hkk => by
    have hm := PySem.mem_of_lookup hk
    obtain ⟨⟨n, k0⟩, hm0, e⟩ := List.mem_map.mp hm
    by_cases hcond : (k0 == NameKind.free && env.scope.kind == .function && env.kindOf n == some .cell) = true
    · have e' : (n, NameKind.cell) = (y, k) := by rw [← e]; exact (if_pos hcond).symm
      have hk0 : k0 = .free := by
        rw [Bool.and_eq_true, Bool.and_eq_true] at hcond
        exact eq_of_beq hcond.1.1
      have en : n = y := congrArg Prod.fst e'
      rw [← en, ← hk0]
      exact hm0
    · have e' : (n, k0) = (y, k) := by rw [← e]; exact (if_neg hcond).symm
      have en : n = y := congrArg Prod.fst e'
      have ek : k0 = k := congrArg Prod.snd e'
      rcases hkk with hkk | hkk
      · exact absurd (ek.trans hkk) (hc _ hm0)
      · rw [← en, ← hkk, ← ek]
        exact hm0
  rcases h with h | h
  · exact key _ h (by decide) (.inl rfl)
  · exact key _ h (by decide) (.inr rfl)
theorem comp_core {pins : List (Addr × Obj)} {σ : St} {H1 : Hp} {s₂ : Shared} {it : Addr} {fp : List Addr} {tn : Nat → Heap → Prop} {J : It} {Q : VK} {RR : Value → Addr → Result → Shared → Prop} {E : Value → Shared → Prop}
    (O : CompOk X scope x frees) (hc : ∀ C ex s₂ H₂, PIfs (compCx X scope (x :: frees.map (·.1)) C ex s₂ H₂) ifs tc) (he : ∀ C ex s₂ H₂, PE (compCx X scope (x :: frees.map (·.1)) C ex s₂ H₂) elt te)
    (I : Inv X pins σ H1 s₂) (T : Turn X.prog X.w X.K (.Name x px) J fp it tn) (st : tn 0 s₂.heap) (hf : ∀ b ∈ fp, FpOk X pins H1 b) (hB : CompB J tc te (inSt frees σ) H1 Q)
    (hRR : ∀ D C H' s', Inv X pins σ H' s' → (∃ m, s'.heap.Ns C m) → FpOk X pins H' C → Q (.ref D) H' → RR (.ref D) C (.ok .next) s') :
    wpAny (model X.prog X.w) X.A (newList []) (fun acc s₃ => wpAny (model X.prog X.w) X.A (newFunctionEnv scope X.env.globals (closOf X.env.cells scope.names []) [] X.env.qual none .none (some X.env)) (fun cenv s₄ =>
      codeAny (model X.prog X.w) X.A (.compStart (.ListComp elt [⟨.Name x px, iter, ifs, 0⟩] scope pos) 0 (.ref it) acc { cenv with scope := relabel scope X.env }) (RR acc cenv.locals) s₄) E s₃) E s₂ := by
  refine wpAny_newObj_type (wpAny_newFunctionEnv O.cell (by intro y hy; simp at hy) (fun h₁ hns₁ hsb₁ => ?_) O.kind)
  dsimp only at hns₁ hsb₁ ⊢
  generalize hH2 : s₂.heap.push { cls := .type "list", dict := none, data := .seq ([] : List Value).toArray } = H2 at hns₁ hsb₁ ⊢
  have hC : H2.objs.size = s₂.heap.objs.size + 1 := by rw [← hH2, Heap.size_push]
  have hDC : s₂.heap.objs.size ≠ H2.objs.size := by rw [hC]; exact Nat.ne_of_lt (Nat.lt_succ_self _)
  have hCle : s₂.heap.objs.size ≤ H2.objs.size := by rw [hC]; exact Nat.le_succ _
  have below : ∀ b, b < s₂.heap.objs.size → b ≠ H2.objs.size ∧ b ≠ s₂.heap.objs.size := fun b hb => ⟨by rw [hC]; exact Nat.ne_of_lt (Nat.lt_succ_of_lt hb), Nat.ne_of_lt hb⟩
  have old : ∀ b o, s₂.heap.get? b = some o → h₁.get? b = some o := fun b o e => hsb₁.extBut b o (below b (Heap.lt_size e)).1 (Heap.get?_push_of_some _ (hH2 ▸ Heap.get?_push_of_some _ e))
  have hacc : h₁.get? s₂.heap.objs.size = some { cls := .type "list", data := .seq ([] : List Value).toArray } := hsb₁.extBut _ _ hDC (Heap.get?_push_of_some _ (hH2 ▸ Heap.get?_push_size _ rfl))
  have nD : H1 s₂.heap.objs.size = none := I.hok.fresh (Nat.le_refl _)
  obtain ⟨W, ⟨m0, w0⟩, hW⟩ := hB s₂.heap.objs.size nD
  -- the block's context and its first state
  let X' : Cx := compCx X scope (x :: frees.map (·.1)) H2.objs.size fp s₂ H1
  have inC : ∀ y c, (closOf X.env.cells scope.names []).lookup y = some c → X.env.cells.lookup y = some c := fun y c h => closOf_in scope.names [] O.cl (fun y c h => by cases h) h
  have fpl : ∀ b ∈ fp, b < s₂.heap.objs.size := fun b hb => by
    obtain ⟨o, e, _⟩ := T.obj _ _ st b hb
    exact Heap.lt_size e
  have ok' : X'.Ok := by
    refine ⟨I.ok.mod, O.kind, I.ok.glob, I.ok.blt, hCle, fun y z c h1 h2 => I.ok.inj y z c (inC y c h1) (inC z c h2), fun y hy => ?_, fun y c h _ => (by cases h), I.ok.hd, I.ok.frames, .inl rfl, fun b hb => ?_, I.bs, Nat.le_trans I.ok.bsz I.sz, fun b o e hb => ?_, fun b hb z => ?_, I.stack, I.stkFree⟩
    · exact Option.isSome_iff_exists.mp (closOf_has scope.names [] (.inr (relabel_free O.cell hy)))
    · exact ⟨(below b (fpl b hb)).1, fun y c h => (hf b hb).2.2.2.2.1 y c (inC y c h)⟩
    · rcases (hf b hb).2.2.2.1 with z | z
      · exact I.ok.noex b o e z
      · exact absurd (Nat.lt_of_lt_of_le (Nat.lt_of_lt_of_le (Heap.lt_size e) I.ok.bsz) z) (Nat.lt_irrefl _)
    · exact (List.mem_cons.mp (I.stkSub b z)).elim (hf b hb).2.1 (hf b hb).2.2.1
  have hok1 : HOk X.prog X.w (upd H1 s₂.heap.objs.size (.lst [])) h₁ := I.hok.laid old (Nat.le_refl _) ⟨Nat.zero_le _, [], 0, .nil, hacc⟩
  have I0 : ∀ tk, Inv X' [] (inSt frees σ none) (upd H1 s₂.heap.objs.size (.lst [])) { s₂ with heap := h₁, toks := tk } := fun tk => by
    refine ⟨ok', rfl, I.bare, Un.laid old (Nat.le_refl _) nD, ⟨_, hns₁, fun i y v h1 h2 h3 => ?_⟩, fun y c h => ?_, ?_, fun y c h => ?_, fun p hp => absurd (show p ∈ ([] : List (Addr × Obj)) from hp) (by simp), hok1, ?_⟩
    · cases i with
      | zero =>
        have h2' : (none : Option V) = some v := Option.some.inj h2
        cases h2'
      | succ j =>
        have h1' : (frees.map (·.1))[j]? = some y := h1
        have h2' : (frees.map fun p => (σ[p.2]?).join)[j]? = some (some v) := h2
        rw [List.getElem?_map] at h1' h2'
        cases e : frees[j]? with
        | none => rw [e] at h1'; cases h1'
        | some p =>
          rw [e] at h1' h2'
          have e1 : p.1 = y := Option.some.inj h1'
          have e2 : (σ[p.2]?).join = some v := Option.some.inj h2'
          obtain ⟨g1, g2, g3, g4⟩ := O.fr.at p (List.mem_of_getElem? e)
          have e3 : σ[p.2]? = some (some v) := by
            cases q : σ[p.2]? with
            | none => rw [q] at e2; cases e2
            | some o => rw [q] at e2; exact congrArg some e2
          obtain ⟨m, hn, hl⟩ := I.loc
          obtain ⟨u, r, l⟩ := hl p.2 p.1 v g1 e3 (.inr (.inl g2))
          refine ⟨u, r, ?_⟩
          rcases l with ⟨k, _⟩ | ⟨_, c, hc1, hc2⟩
          · rw [g2] at k; cases k
          · obtain ⟨c2, hc3⟩ := Option.isSome_iff_exists.mp (closOf_has (cells := X.env.cells) scope.names [] (.inr g4))
            have hc4 := inC _ _ hc3
            rw [hc1] at hc4
            cases hc4
            rw [← e1]
            refine .inr ⟨.inl g3, c, hc3, ?_⟩
            obtain ⟨o, ho, hd⟩ := hc2
            exact ⟨o, old c o ho, hd⟩
    · obtain ⟨v, o, ho, hd⟩ := I.cell y c (inC y c h)
      exact ⟨v, o, old c o ho, hd⟩
    · show upd H1 s₂.heap.objs.size (.lst []) H2.objs.size = none
      rw [upd_ne (Ne.symm hDC)]
      exact I.hok.fresh hCle
    · obtain ⟨v, o, ho, hd⟩ := I.cell y c (inC y c h)
      rw [upd_ne (below c (Heap.lt_size ho)).2]
      exact I.freeC y c (inC y c h)
    · show (inSt frees σ none).length = (x :: frees.map (·.1)).length
      simp [inSt]
  have stat : ∀ {H' : Hp}, (∀ b ∈ fp, H' b = none) → ∀ b ∈ fp, FpOk X' [] H' b := fun hn b hb =>
    ⟨hn b hb, (below b (fpl b hb)).1, fun z => (List.mem_cons.mp (I.stkSub b z)).elim (hf b hb).2.1 (hf b hb).2.2.1, .inl hb, fun y c h => (hf b hb).2.2.2.2.1 y c (inC y c h), fun p hp => absurd (show p ∈ ([] : List (Addr × Obj)) from hp) (by simp)⟩
  have hst₁ : tn 0 h₁ := T.keep _ _ _ st fun b _ o e => old b o e
  have fr0 : ∀ b ∈ fp, (upd H1 s₂.heap.objs.size (.lst [])) b = none := fun b hb => by
    rw [upd_ne (below b (fpl b hb)).2]
    exact (hf b hb).1
  have loop : ∀ tk, codeAny (model X.prog X.w) X.A (.compLoop (.ListComp elt [⟨.Name x px, iter, ifs, 0⟩] scope pos) 0 (.ref it) (.ref s₂.heap.objs.size) X'.env) (RR (.ref s₂.heap.objs.size) H2.objs.size) { s₂ with heap := h₁, toks := tk } := fun tk => by
    refine comp_loop (fun n s' => ∃ i ys o H', Inv X' [] (inSt frees σ o) H' s' ∧ tn i s'.heap ∧ (∀ b ∈ fp, H' b = none) ∧ W i n ys H') ?_ m0 ⟨0, [], none, _, I0 tk, hst₁, fr0, w0⟩
    rintro n s3 ⟨i, ys, o3, H3, I3, st3, fr3, w3⟩
    obtain ⟨hD3, alt⟩ := hW i n ys H3 w3
    rcases alt with ⟨stop, q⟩ | ⟨go, hlt, step⟩
    · refine thn (T.done X' rfl rfl rfl O.calm i [] s3 _ H3 _ I3 (stat fr3) st3 stop) fun r s4 ⟨hr, I4⟩ => ?_
      subst hr
      have J4 : Inv X pins σ H3 s4 := I.call' (ch := fp) I4.os I4.base I4.hok I4.bare fun b hb => ⟨(hf b hb).2.2.2.1, (hf b hb).2.1, (hf b hb).2.2.2.2.1, (hf b hb).2.2.2.2.2⟩
      obtain ⟨m4, hn4, _⟩ := I4.loc
      exact hRR _ _ H3 s4 J4 ⟨m4, hn4⟩ (I.fpOk hCle I4.free) q
    · refine thn (T.item X' rfl rfl rfl O.calm i [] s3 _ H3 _ I3 (stat fr3) st3 go) fun r s4 ⟨u, hr, h4⟩ => ?_
      subst hr
      refine thn h4 fun _ s5 ⟨v, H5, I5, r5, y5, st5, fr5⟩ => ?_
      have I5' := I5.pinned (stat fr5) (T.obj _ _ st5)
      have tail : ∀ {σ7 : St} {H7 : Hp} {s7 : Shared}, Inv X' ([] ++ pinsAt fp s5.heap) σ7 H7 s7 → Inv X' [] σ7 H7 s7 ∧ tn (i + 1) s7.heap ∧ ∀ b ∈ fp, H7 b = none := fun {σ7 H7 s7} I7 => by
        refine ⟨I7.unpinned, T.keep _ _ _ st5 fun b hb o e => (I7.pin (b, o) (List.mem_append_right _ (List.mem_append_right _ (mem_pinsAt hb e)))).1, fun b hb => ?_⟩
        obtain ⟨o, e, d⟩ := T.obj _ _ st5 b hb
        exact (I7.pin (b, o) (List.mem_append_right _ (List.mem_append_right _ (mem_pinsAt hb e)))).2.1
      have hg : PG X' (.Name x px) (gName 0) := pg_name O.nd rfl (Or.inl (lookup_relabel_local O.own)) (.inr (lookup_relabel_local O.own))
      refine thn (hg _ s5 _ H5 v u (fun σ6 H6 => σ6 = inSt frees σ (some v) ∧ H6 = H5) I5' r5 ⟨rfl, rfl⟩) fun _ s6 ⟨σ6, H6, I6, e6, e6'⟩ => ?_
      subst e6 e6'
      refine thn (hc _ _ _ _ _ s6 _ _ _ I6 (step v _ y5)) fun b s7 ⟨H7, I7, q7⟩ => ?_
      cases b with
      | false =>
        obtain ⟨m', hm, w7⟩ := (show ∃ m', m' < n ∧ W (i + 1) m' ys H7 from q7)
        obtain ⟨t1, t2, t3⟩ := tail I7
        exact ⟨m', hm, i + 1, ys, some v, H7, t1, t2, t3, w7⟩
      | true =>
        refine thn (he _ _ _ _ _ s7 _ _ _ I7 q7) fun y s8 ⟨y', H8, I8, r8, hD8, m', hm, w8⟩ => ?_
        refine thn (mt_append (X := X') _ s8 _ H8 (.ref s₂.heap.objs.size) [y'] _ [y] (fun _ H9 => H9 = upd H8 s₂.heap.objs.size (.lst (ys ++ [y']))) I8 rfl (.cons r8 .nil) ⟨_, _, _, rfl, rfl, hD8, hlt, rfl⟩) fun _ s9 ⟨_, H9, I9, _, e9⟩ => ?_
        subst e9
        obtain ⟨t1, t2, t3⟩ := tail I9
        exact ⟨m', hm, i + 1, ys ++ [y'], some v, _, t1, t2, t3, w8⟩
  exact codeAny_compStart_list (loop _) (T.self _ 0 _ _ _ hst₁ (loop _))
def tComp (frees : List (Str × Nat)) (tc : TT) (te : TE) (wi : TI) : TE := fun σ H Q => wi σ H fun J H1 => CompB J tc te (inSt frees σ) H1 Q
theorem pe_comp {wi : TI} (O : CompOk X scope x frees) (hxe : X.xe = fun _ _ => False) (hi : PI X (.Name x px) iter wi)
    (hc : ∀ C ex s₂ H₂, PIfs (compCx X scope (x :: frees.map (·.1)) C ex s₂ H₂) ifs tc) (he : ∀ C ex s₂ H₂, PE (compCx X scope (x :: frees.map (·.1)) C ex s₂ H₂) elt te)
    (hs : ∀ x, foldedSetIterable iter X.env x = pure x := by intro _; rfl) : PE X (.ListComp elt [⟨.Name x px, iter, ifs, 0⟩] scope pos) (tComp frees tc te wi) := by
  intro pins s σ H Q I h
  rw [eval_ListComp]
  refine wpAny_comprehension_free (use := none) rfl hs (closureFor_of O.cl) O.kind O.names (thn (hi pins s σ H _ I h) fun xv s₁ h₁ => thn h₁ fun itv s₂ h₂ => ?_)
  obtain ⟨it, fp, tn, J, H2, e, I2, T, st2, f2, hB⟩ := h₂
  subst e
  refine comp_core (RR := fun acc C => compPost (model X.prog X.w) X.A X.xe none (EP X pins σ Q) acc C) O hc he I2 T st2 f2 hB ?_
  intro D C H' s' I' hn hC q
  obtain ⟨m, hn⟩ := hn
  refine ⟨m, hn, fun h' hs' => ?_⟩
  exact ⟨.ref D, H', I'.turned (t' := s'.toks) (fun b o hb e => hs'.extBut b o hb e) hC.1 hC.2.1 hC.2.2.2.1 hC.2.2.2.2.1 hC.2.2.2.2.2, rfl, q⟩
theorem ps_comp {wi : TI} {i : Nat} {y : Str} {py spos : Pos} (O : CompOk X scope x frees) (hN : X.N.Nodup) (hiy : X.N[i]? = some y) (hy : X.env.kindOf y = some .local) (hsw : swapsWith (.ListComp elt [⟨.Name x px, iter, ifs, 0⟩] scope pos) (some (.Name y py)) spos.line X.env = pure true)
    (hi : PI X (.Name x px) iter wi) (hc : ∀ C ex s₂ H₂, PIfs (compCx X scope (x :: frees.map (·.1)) C ex s₂ H₂) ifs tc) (he : ∀ C ex s₂ H₂, PE (compCx X scope (x :: frees.map (·.1)) C ex s₂ H₂) elt te)
    (hs : ∀ x, foldedSetIterable iter X.env x = pure x := by intro _; rfl) : PS X (.Assign [.Name y py] (.ListComp elt [⟨.Name x px, iter, ifs, 0⟩] scope pos) spos) (tAsg (tComp frees tc te wi) (gName i)) := by
  intro pins s σ H D I h
  rw [exec_Assign_Name_used _ _ _ _ hsw]
  refine wpAny_bind (wpAny_standAt (wpAny_bind ?_))
  show wpAny _ X.A (do let _ ← comprehension (.ListComp elt [⟨.Name x px, iter, ifs, 0⟩] scope pos) scope X.env _ (newList []) false (eval iter X.env) (some (assign (.Name y py) X.env))) _ _ s
  refine wpAny_bind (wpAny_mono (wpAny_comprehension_free (use := some (assign (.Name y py) X.env)) (Q := fun _ s' => SP X pins D .next s') rfl hs (closureFor_of O.cl) O.kind O.names
    (thn (hi pins s σ H _ I h) fun xv s₁ h₁ => thn h₁ fun itv s₂ h₂ => ?_)) (fun _ s' hq => wpAny_pure (wpAny_pure hq)) fun _ _ e => e)
  obtain ⟨it, fp, tn, J, H2, e, I2, T, st2, f2, hB⟩ := h₂
  subst e
  refine comp_core (RR := fun acc C => compPost (model X.prog X.w) X.A X.xe (some (assign (.Name y py) X.env)) (fun _ s' => SP X pins D .next s') acc C) O hc he I2 T st2 f2 hB ?_
  intro A C H' s' I' hn hC q
  obtain ⟨m, hn⟩ := hn
  obtain ⟨oC, es, ep, hoC, hdC, hr⟩ := id hn
  have I'' : Inv X (pins ++ [(C, oC)]) σ H' s' := I'.pins_of fun p hp => (List.mem_append.mp hp).elim (fun z => I'.pin p (List.mem_append_right _ z)) fun z => by
    rw [List.mem_singleton.mp z]
    exact ⟨hoC, hC.1, hC.2.1, hC.2.2.1, fun v e => by rw [hdC] at e; cases e⟩
  show wpAny _ X.A (assign (.Name y py) X.env (.ref A)) _ _ _
  refine wpAny_assign_Name (store_ok I'' hN hiy (.inl hy) (v := .ref A) rfl (fun s3 I3 => ?_) (.inr hy))
  have hC3 := (I3.pin (C, oC) (List.mem_append_right _ (List.mem_append_right _ (List.mem_singleton.mpr rfl)))).1
  have J3 : Inv X pins (σ.set i (some (.ref A))) H' s3 := I3.unpinned
  refine ⟨m, ⟨oC, es, ep, hC3, hdC, hr⟩, fun h' hs' => ?_⟩
  exact ⟨_, H', J3.turned (t' := s3.toks) (fun b o hb e => hs'.extBut b o hb e) hC.1 hC.2.1 hC.2.2.2.1 hC.2.2.2.2.1 hC.2.2.2.2.2, q⟩
end
end L2
namespace L2
open PySem PySem.Spec PyProof.Rows
section
variable {X : Cx}
def rSlS : V → Option Int → Option Int → Hp → VK → Prop := fun x lo hi H Q => ∃ z, x = .str z ∧ z.length ≤ sizeLine ∧ Q (.str (Txt.slice z lo hi)) H
end
structure Seq (J : It) (H1 : Hp) (xs : List V) : Prop where
  go : ∀ i H, Same H1 H → i < xs.length → J.go i H
  yld : ∀ i H x H', Same H1 H → i < xs.length → J.yld i H x H' → H' = H ∧ xs[i]? = some x
  stop : ∀ H, Same H1 H → J.stop xs.length H
theorem seq_range (lo : Int) (n : Nat) (H1 : Hp) : Seq (Itr lo n) H1 ((List.range n).map fun i => V.int (lo + (i : Nat))) where
  go := fun i H _ h => by
    rw [List.length_map, List.length_range] at h
    exact h
  yld := fun i H x H' _ hi h => by
    obtain ⟨e, hx⟩ := h
    refine ⟨e, ?_⟩
    rw [List.length_map, List.length_range] at hi
    rw [List.getElem?_map, List.getElem?_range hi, hx]
    rfl
  stop := fun H _ => by
    show n ≤ _
    rw [List.length_map, List.length_range]
    exact Nat.le_refl _
theorem seq_list {K : PySem.W.Frag} {a : Addr} {xs : List V} {H1 : Hp} (h : SqL K H1 a xs) : Seq (Itl K a) H1 xs where
  go := fun i H e hi => ⟨xs, xs[i], e.seq h, List.getElem?_eq_getElem hi⟩
  yld := fun i H x H' e _ y => ⟨y.1, y.2 xs (e.seq h)⟩
  stop := fun H e => ⟨xs, e.seq h, Nat.le_refl _⟩
theorem take_more {α : Type} {xs : List α} {i : Nat} {x : α} (h : xs[i]? = some x) : xs.take (i + 1) = xs.take i ++ [x] := by
  rw [List.take_succ, h]
  rfl
theorem compB_seq {J : It} {tc : TT} {te : TE} {σf : Option V → St} {H1 : Hp} {Q : VK} {xs : List V} (S : Seq J H1 xs) (p : V → Bool) (g : V → V) (hz : xs.length < sizeLine)
    (hc : ∀ x ∈ xs, ∀ (H' : Hp) (R : Bool → Hp → Prop), Same H1 H' → R (p x) H' → tc (σf (some x)) H' R)
    (he : ∀ x ∈ xs, ∀ (H' : Hp) (R : VK), Same H1 H' → p x = true → R (g x) H' → te (σf (some x)) H' R)
    (q : ∀ D H', Same H1 H' → H1 D = none → H' D = some (.lst ((xs.filter p).map g)) → Q (.ref D) H') : CompB J tc te σf H1 Q := by
  intro D hD
  refine ⟨fun i m ys H2 => m = xs.length - i ∧ i ≤ xs.length ∧ Same H1 H2 ∧ H2 D = some (.lst ys) ∧ ys = ((xs.take i).filter p).map g, ⟨xs.length, rfl, Nat.zero_le _, same_new hD _, upd_same, rfl⟩, ?_⟩
  rintro i m ys H2 ⟨rfl, hi, sm, hD2, rfl⟩
  refine ⟨hD2, ?_⟩
  by_cases hlt : i < xs.length
  · refine .inr ⟨S.go i H2 sm hlt, ?_, fun x H3 y => ?_⟩
    · rw [List.length_map]
      refine Nat.lt_of_le_of_lt (List.length_filter_le _ _) ?_
      rw [List.length_take]
      omega
    · obtain ⟨e, hx⟩ := S.yld i H2 x H3 sm hlt y
      subst e
      have mem : x ∈ xs := List.mem_of_getElem? hx
      refine hc x mem _ _ sm ?_
      cases hp : p x with
      | false =>
        refine iteF ⟨xs.length - (i + 1), by omega, rfl, hlt, sm, hD2, ?_⟩
        rw [take_more hx, List.filter_append, List.filter_cons_of_neg (by rw [hp]; decide), List.filter_nil, List.append_nil]
      | true =>
        refine iteT (he x mem _ _ sm hp ⟨hD2, xs.length - (i + 1), by omega, rfl, hlt, same_on hD sm _, upd_same, ?_⟩)
        rw [take_more hx, List.filter_append, List.filter_cons_of_pos hp, List.filter_nil, List.map_append]
        rfl
  · have e : i = xs.length := by omega
    subst e
    refine .inl ⟨S.stop H2 sm, q D H2 sm hD ?_⟩
    rw [hD2, List.take_of_length_le (Nat.le_refl _)]
def cellsFor (cells : List (Str × Addr)) (names : List (Str × NameKind)) : Bool := names.all fun p => if (p.2 == NameKind.free) = true then (cells.lookup p.1).isSome else true
theorem cellsFor_at {cells : List (Str × Addr)} {names : List (Str × NameKind)} (h : cellsFor cells names = true) : ∀ p ∈ names, p.2 = .free → (cells.lookup p.1).isSome = true := fun p hp hk => by
  have q := (List.all_eq_true.mp h) p hp
  rw [hk, show (NameKind.free == NameKind.free) = true from rfl, if_pos rfl] at q
  exact q
end L2
namespace L2
open PySem PySem.Spec PyProof.Rows
section
variable {X : Cx}
theorem kit_int_bool (K : PySem.W.Frag) : PySem.W.kitOne K (.type "int") (.type "bool") = some false := by
  have e1 : PySem.W.kitMeta "bool" = true := by decide +kernel
  have e2 : PySem.W.subIn K (.type "int") (.type "bool") = some false := by
    show (fastBuiltinMro "int").map (·.contains (Value.type "bool")) = some false
    decide +kernel
  show (if (Value.type "int" == Value.type "bool") = true then some true else (if PySem.W.kitMeta "bool" = true then PySem.W.subIn K (.type "int") (.type "bool") else none)) = some false
  rw [if_neg (by decide), if_pos e1]
  exact e2
def rIxLA (K : PySem.W.Frag) : R2 := fun x y H Q => ∃ p xs i, x = .ref p ∧ y = .int i ∧ SqL K H p xs ∧ 0 ≤ i ∧ i < ((xs.length : Nat) : Int) ∧ ∀ v, xs[i.toNat]? = some v → Q v H
theorem ix_listA : IxR X (rIxLA X.K) := by
  intro value slice pins s σ H x y v u Q I rx ry h hs
  obtain ⟨p, xs, i, rfl, rfl, hq, h0, h1, q⟩ := h
  obtain ⟨c, e1, e2⟩ := at_in (xs := xs) h0 h1
  exact ix_list value slice pins s σ H _ _ v u Q I rx ry ⟨p, xs, i, c, rfl, rfl, hq, e2, q c e1⟩ hs
def intV : V → Bool
  | .int _ => true
  | _ => false
end
end L2
namespace L2
open PySem PySem.Spec PyProof.Rows
section
variable {X : Cx}
def PSk (X : Cx) (st : Stmt) (t : TS) : Prop :=
  ∀ (pins : List (Addr × Obj)) (s : Shared) (σ : St) (H : Hp) (D : Ends), Inv X pins σ H s → 1 ≤ s.toks → t D σ H → wpAny (model X.prog X.w) X.A (exec st X.env) (SP X pins D) X.xe s
def PSsK (X : Cx) (st : List Stmt) (t : TS) : Prop :=
  ∀ (pins : List (Addr × Obj)) (s : Shared) (σ : St) (H : Hp) (D : Ends), Inv X pins σ H s → 1 ≤ s.toks → t D σ H → wpAny (model X.prog X.w) X.A (execs st X.env) (SP X pins D) X.xe s
def PEk (X : Cx) (e : Expr) (t : TE) : Prop :=
  ∀ (pins : List (Addr × Obj)) (s : Shared) (σ : St) (H : Hp) (Q : VK), Inv X pins σ H s → 1 ≤ s.toks → t σ H Q → wpAny (model X.prog X.w) X.A (eval e X.env) (EP X pins σ Q) X.xe s
def PE1 (X : Cx) (e : Expr) (t : TE) : Prop :=
  ∀ (pins : List (Addr × Obj)) (s : Shared) (σ : St) (H : Hp) (Q : VK), Inv X pins σ H s → t σ H Q → wpAny (model X.prog X.w) X.A (eval e X.env) (fun u s' => 1 ≤ s'.toks ∧ EP X pins σ Q u s') X.xe s
def PS1 (X : Cx) (st : Stmt) (t : TS) : Prop :=
  ∀ (pins : List (Addr × Obj)) (s : Shared) (σ : St) (H : Hp) (D : Ends), Inv X pins σ H s → t D σ H → wpAny (model X.prog X.w) X.A (exec st X.env) (fun f s' => 1 ≤ s'.toks ∧ SP X pins D f s') X.xe s
theorem PS.k {st : Stmt} {t : TS} (h : PS X st t) : PSk X st t := fun pins s σ H D I _ hw => h pins s σ H D I hw
theorem PSs.k {st : List Stmt} {t : TS} (h : PSs X st t) : PSsK X st t := fun pins s σ H D I _ hw => h pins s σ H D I hw
def tRepl (y z : Str) (to : TE) : TE := fun σ H Q => to σ H fun v H1 => ∃ x, v = .str x ∧ x.length + (x.length + 1) * z.length ≤ 16777216 ∧ ∀ u : Str, u.length ≤ x.length + (x.length + 1) * z.length → Q (.str u) H1
end
end L2
namespace L2
open PySem PySem.Spec PyProof.Rows
section
variable {prog : Program} {w : World} {A : Around} {E : Value → Shared → Prop} {s : Shared}
set_option maxHeartbeats 2000000 in
end
end L2
namespace L2
open PySem PySem.Spec PyProof.Rows
section
variable {prog : Program} {w : World} {A : Around} {E : Value → Shared → Prop} {s : Shared}
end
end L2
namespace L2
open PySem PySem.Spec PyProof.Rows
section
variable {prog : Program} {w : World} {A : Around} {E : Value → Shared → Prop} {s : Shared}
theorem en_next {en ir : Addr} {fp : List Addr} {n i : Nat} {j : Int} {P : Nat → Value → Prop} {St : Nat → Heap → Prop} {old : Value} {Q : Value → Shared → Prop}
    (D : Draws prog w A ir fp n P St) (k0 : IsEnum s.heap en ir j old) (st : St i s.heap) (hlt : i < n) (hne : en ≠ ir) (hef : en ∉ fp)
    (hQ : ∀ x hz tk, P i x → IsEnumOut hz en ir (j + 1) x s.heap.objs.size → St (i + 1) hz →
      hz.get? s.heap.objs.size = some { cls := .type "tuple", data := .seq #[.int j tk, x] } → (∀ b o, b ≠ en → b ≠ ir → s.heap.get? b = some o → hz.get? b = some o) → Q (.ref s.heap.objs.size) { s with heap := hz, toks := tk + 1 }) :
    wpAny (model prog w) A (Builtin.«enumerate.__next__» ⟨[.ref en], []⟩) (fun fin z => ∃ v, fin = .done (.ret v) ∧ Q v z) E s := by
  obtain ⟨h0, gs, dr, t0, oo⟩ := s
  show wpAny _ _ (field (.ref en) 2 >>= _) _ _ _
  refine wpAny_bind (wpAny_field k0 rfl (x := .ref ir) rfl ?_)
  refine wpAny_bind (D.item i _ _ _ hlt st fun x h1 tk px st1 b1 => ?_)
  have s1 : Heap.SameBut ir h0 h1 := b1
  have k1 : IsEnum h1 en ir j old := (s1.2 en hne).trans k0
  show wpAny _ _ (field (.ref en) 3 >>= _) _ _ ⟨h1, gs, dr, tk, oo⟩
  refine wpAny_bind (wpAny_field k1 rfl (x := rawInt j) rfl ?_)
  show wpAny _ _ (field (.ref en) 4 >>= _) _ _ ⟨h1, gs, dr, tk, oo⟩
  refine wpAny_bind (wpAny_field k1 rfl (x := .none) rfl ?_)
  show wpAny _ _ (mkInt j >>= _) _ _ ⟨h1, gs, dr, tk, oo⟩
  refine wpAny_bind (wpAny_mkInt ?_)
  show wpAny _ _ (setField (.ref en) 3 (rawInt (j + 1)) >>= _) _ _ ⟨h1, gs, dr, tk + 1, oo⟩
  refine wpAny_bind (wpAny_setField_rec k1 (by simp) fun h2 k2 b2 => ?_)
  have s2 : Heap.SameBut en h1 h2 := b2
  have k2' : IsEnum h2 en ir (j + 1) old := k2
  show wpAny _ _ (setField (.ref en) 4 .none >>= _) _ _ ⟨h2, gs, dr, tk + 1, oo⟩
  refine wpAny_bind (wpAny_setField_rec k2' (by simp) fun h3 k3 b3 => ?_)
  have s3 : Heap.SameBut en h2 h3 := b3
  have k3' : IsEnum h3 en ir (j + 1) old := k3
  show wpAny _ _ (newTuple [.int j tk, x] >>= _) _ _ ⟨h3, gs, dr, tk + 1, oo⟩
  refine wpAny_bind (wpAny_newTuple ?_)
  have k4 : IsEnum (h3.push { cls := .type "tuple", data := .seq #[.int j tk, x] }) en ir (j + 1) old := Heap.get?_push_of_some _ k3'
  generalize e4 : h3.push { cls := .type "tuple", data := .seq #[.int j tk, x] } = h4 at k4
  have z3 : h3.objs.size = h0.objs.size := by rw [s3.1, s2.1, s1.1]
  have lt : en < h0.objs.size := Heap.lt_size k0
  have t4 : h4.get? h0.objs.size = some { cls := .type "tuple", data := .seq #[.int j tk, x] } := by
    rw [← e4, ← z3]
    exact Heap.get?_push_size _ rfl
  have kp4 : ∀ b o, b ≠ en → b ≠ ir → h0.get? b = some o → h4.get? b = some o := fun b o n1 n2 hb => by
    rw [← e4]
    exact Heap.get?_push_of_some _ (s3.extBut b o n1 (s2.extBut b o n1 (s1.extBut b o n2 hb)))
  have st4 : St (i + 1) h4 := D.frame _ _ _ st1 fun b hb o y => by
    have n1 : b ≠ en := fun q => hef (q ▸ hb)
    rw [← e4]
    exact Heap.get?_push_of_some _ (s3.extBut b o n1 (s2.extBut b o n1 y))
  show wpAny _ _ (Builtin.SmallTypes.ownedTupleIsFree (.ref en) >>= _) _ _ ⟨h4, gs, dr, tk + 1, oo⟩
  rw [z3]
  clear e4 k3 k3' b3 s3 k2 k2' b2 s2 k1 s1 b1 st1 z3 h3 h2 h1
  refine wpAny_bind ?_
  unfold Builtin.SmallTypes.ownedTupleIsFree
  refine wpAny_bind (wpAny_field k4 rfl (x := .none) rfl (wpAny_pure ?_))
  simp only [if_true]
  refine wpAny_bind (wpAny_rule ?_)
  refine wpAny_bind (wpAny_field k4 rfl (x := old) rfl ?_)
  refine wpAny_bind (wpAny_setField_rec k4 (by simp) fun h5 k5 b5 => ?_)
  have s5 : Heap.SameBut en h4 h5 := b5
  have k5' : IsEnum h5 en ir (j + 1) x := k5
  show wpAny _ _ (Builtin.SmallTypes.ownedTupleHandOut (.ref en) (.ref h0.objs.size) >>= _) _ _ ⟨h5, gs, dr, tk + 1, oo⟩
  refine wpAny_bind ?_
  unfold Builtin.SmallTypes.ownedTupleHandOut
  refine wpAny_bind (wpAny_setField_rec k5' (by simp) fun h6 k6 b6 => ?_)
  have s6 : Heap.SameBut en h5 h6 := b6
  have k6' : IsEnumOut h6 en ir (j + 1) x h0.objs.size := k6
  refine wpAny_setField_rec k6' (by simp) fun h7 k7 b7 => ?_
  have s7 : Heap.SameBut en h6 h7 := b7
  have k7' : IsEnumOut h7 en ir (j + 1) x h0.objs.size := k7
  refine wpAny_bind (wpAny_letGo (wpAny_pure ⟨_, rfl, hQ x h7 tk px k7' ?_ ?_ ?_⟩))
  · exact D.frame _ _ _ st4 fun b hb o y => by
      have n1 : b ≠ en := fun q => hef (q ▸ hb)
      exact s7.extBut b o n1 (s6.extBut b o n1 (s5.extBut b o n1 y))
  · exact s7.extBut _ _ (Nat.ne_of_gt lt) (s6.extBut _ _ (Nat.ne_of_gt lt) (s5.extBut _ _ (Nat.ne_of_gt lt) t4))
  · exact fun b o n1 n2 hb => s7.extBut b o n1 (s6.extBut b o n1 (s5.extBut b o n1 (kp4 b o n1 n2 hb)))
theorem en_item {en ir : Addr} {fp : List Addr} {n i : Nat} {j : Int} {P : Nat → Value → Prop} {St : Nat → Heap → Prop} {old : Value} {Q : Option Value → Shared → Prop}
    (D : Draws prog w A.in1 ir fp n P St) (k0 : IsEnum s.heap en ir j old) (st : St i s.heap) (hlt : i < n) (hne : en ≠ ir) (hef : en ∉ fp)
    (hQ : ∀ x hz tk, P i x → IsEnumOut hz en ir (j + 1) x s.heap.objs.size → St (i + 1) hz →
      hz.get? s.heap.objs.size = some { cls := .type "tuple", data := .seq #[.int j tk, x] } → (∀ b o, b ≠ en → b ≠ ir → s.heap.get? b = some o → hz.get? b = some o) → Q (some (.ref s.heap.objs.size)) { s with heap := hz, toks := tk + 1 }) :
    wpAny (model prog w) A (pyNext (.ref en)) Q E s := by
  have hT : s.TypeIs (.ref en) "enumerate" := ⟨_, k0, rfl⟩
  unfold pyNext
  refine wpAny_bind (wpAny_attempt (wpAny_callSpecial?_slot (name := Str.ofString "__next__") hT F.slot_enumerate_next (wpAny_call_entry F.slot_enumerate_next hT F.entry_enumerate_next ?_ (F.args_enumerate_next_1 _))))
  exact en_next D k0 st hlt hne hef fun x hz tk a b c d k => wpAny_pure (hQ x hz tk a b c d k)
end
def Ite (K : PySem.W.Frag) (a : Addr) (j : Int) : It :=
  ⟨fun i H => ∃ xs x, SqL K H a xs ∧ xs[i]? = some x, fun i H x H' => ∃ p y, x = .ref p ∧ H p = none ∧ H' = upd H p (.tup [.int (j + (i : Nat)), y]) ∧ ∀ xs, SqL K H a xs → xs[i]? = some y, fun i H => ∃ xs, SqL K H a xs ∧ xs.length = i⟩
theorem turn_enum {P : Program} {w : World} {K : PySem.W.Frag} {elts : List Expr} {x1} {pos : Pos} (a en ir : Addr) (j : Int) (hne : en ≠ ir) :
    Turn P w K (.Tuple elts x1 pos) (Ite K a j) [en, ir] en (fun i h => (∃ old, IsEnum h en ir (j + (i : Nat)) old) ∧ h.IsListIter ir a i) where
  mem := by simp
  obj := fun i h st b hb => by
    obtain ⟨⟨old, k⟩, o, e, c, d⟩ := st
    rcases List.mem_cons.mp hb with z | z
    · exact ⟨_, by rw [z]; exact k, fun v y => by cases y⟩
    · exact ⟨o, by rw [List.mem_singleton.mp z]; exact e, fun v y => by rw [d] at y; cases y⟩
  keep := fun i h h' st k => by
    obtain ⟨⟨old, q⟩, r⟩ := st
    exact ⟨⟨old, k en (by simp) _ q⟩, r.at fun o e => k ir (by simp) o e⟩
  item := by
    intro X hP hw hK hc i pins s σ H E I hf st hg
    subst hP hw hK
    obtain ⟨xs, x, hq, hx⟩ := hg
    obtain ⟨its, rv, p, hz⟩ := I.list hq
    obtain ⟨u, hu, ru⟩ := rv.get hx
    obtain ⟨f0, f1, f2, f3, f4, f5⟩ := hf en (by simp)
    obtain ⟨g0, g1, g2, g3, g4, g5⟩ := hf ir (by simp)
    obtain ⟨⟨old, k⟩, r⟩ := st
    have hii : i < its.toArray.size := by
      have := (List.getElem?_eq_some_iff.mp hu).1
      simpa using this
    have nal : a ≠ ir := fun e => by
      obtain ⟨o1, e1, c1, _⟩ := r
      obtain ⟨o2, e2, c2, _⟩ := p.isList
      rw [e] at e2
      rw [e1] at e2
      cases e2
      rw [c1] at c2
      exact absurd c2 (by intro z; injection z with z; exact absurd z (by decide))
    have nae : en ∉ [ir, a] := fun m => by
      rcases List.mem_cons.mp m with z | z
      · exact hne z
      · obtain ⟨o2, e2, c2, _⟩ := p.isList
        rw [← List.mem_singleton.mp z, k] at e2
        cases e2
        exact absurd c2 (by intro z; injection z with z; exact absurd z (by decide))
    have hh : X.A.in1.handled = none := I.ok.hd hc
    refine en_item (Draws.list hh ir a nal its.toArray) k ⟨r, p.isList⟩ hii hne nae fun y hz2 tk py ko st2 tup kp => ?_
    have ey : y = u := by
      have e : its[i]? = some y := by simpa using py
      rw [hu] at e
      exact (Option.some.inj e).symm
    subst ey
    refine ⟨_, rfl, ?_⟩
    refine wpAny_letOwnedTupleGo_enum ko fun h3 k3 b3 => ?_
    have s3 : Heap.SameBut en hz2 h3 := b3
    have lt1 : en < s.heap.objs.size := Heap.lt_size k
    have lt2 : ir < s.heap.objs.size := by
      obtain ⟨o, e, _⟩ := r
      exact Heap.lt_size e
    have st3 : h3.IsListIter ir a (i + 1) := by
      obtain ⟨o, e, q⟩ := st2.1
      exact ⟨o, (s3.2 ir (Ne.symm hne)).trans e, q⟩
    have k3' : IsEnum h3 en ir (j + ((i + 1 : Nat) : Int)) y := by
      have e : j + ((i + 1 : Nat) : Int) = j + (i : Nat) + 1 := by omega
      rw [e]
      exact k3
    have tup3 : h3.get? s.heap.objs.size = some { cls := .type "tuple", data := .seq #[.int (j + (i : Nat)) tk, y] } := (s3.2 _ (Nat.ne_of_gt lt1)).trans tup
    have fr : H s.heap.objs.size = none := I.hok.fresh (Nat.le_refl _)
    have I2 : Inv X pins σ (upd H s.heap.objs.size (.tup [.int (j + (i : Nat)), x])) { s with heap := h3, toks := tk + 1 } := by
      refine I.step (g' := s.gens) (d' := s.drawn) (ch := [en, ir]) (fun b hb => ?_) (fun b o _ _ hc e _ => ?_) (fun b o _ _ hc e _ => ?_) (fun b o _ e n => ?_) (fun b o hc e => ?_) (fun b xs e => ?_) (fun b o xs e => ?_) (fun b ps e => ⟨#[], ?_⟩) (fun m hm => ?_) (fun b v e => ?_) I.bare
      · rcases List.mem_cons.mp hb with z | z
        · rw [z]; exact ⟨f3, f1, f4, f5⟩
        · rw [List.mem_singleton.mp z]; exact ⟨g3, g1, g4, g5⟩
      · exact (s3.2 b (fun z => hc (by simp [z]))).trans (kp b o (fun z => hc (by simp [z])) (fun z => hc (by simp [z])) e)
      · exact ⟨o.slots, (s3.2 b (fun z => hc (by simp [z]))).trans (kp b o (fun z => hc (by simp [z])) (fun z => hc (by simp [z])) e)⟩
      · rw [upd_ne (Nat.ne_of_lt (Heap.lt_size e))]; exact n
      · by_cases hb : b = en ∨ b = ir
        · rcases hb with z | z
          · exact absurd (by simp [z]) hc
          · exact absurd (by simp [z]) hc
        · exact ⟨o, (s3.2 b (fun z => hb (.inl z))).trans (kp b o (fun z => hb (.inl z)) (fun z => hb (.inr z)) e)⟩
      · rw [upd_ne (ne_of_none e fr)]; exact e
      · rw [upd_ne (ne_of_none e fr)]; exact e
      · rw [upd_ne (ne_of_none e fr), e]; simp
      · obtain ⟨o, es, ep, ho, q⟩ := hm
        exact ⟨o, es, ep, (s3.2 _ (Ne.symm f1)).trans (kp _ o (Ne.symm f1) (Ne.symm g1) ho), q⟩
      · by_cases hb : b = s.heap.objs.size
        · subst hb
          rw [upd_same] at e
          cases e
          exact ⟨small (by show 2 ≤ 1000; decide), [.int (j + (i : Nat)) tk, y], .cons ⟨_, rfl⟩ (.cons ru .nil), _, tup3, rfl, _, rfl⟩
        · rw [upd_ne hb] at e
          have nn : ∀ c v, H c = some v → c ≠ en ∧ c ≠ ir := fun c v q => ⟨(fun z => by rw [z, f0] at q; cases q), (fun z => by rw [z, g0] at q; cases q)⟩
          refine (I.hok b v e).stay (fun c v' hc q => ?_) (fun c q => by rw [upd_ne (ne_of_none q fr)]; exact q) (fun c xs q => by rw [upd_ne (ne_of_none q fr)]; exact q)
          have m : c ≠ en ∧ c ≠ ir := by
            rcases hc with z | z
            · rw [z]; exact nn b v e
            · exact nn c _ z
          exact (s3.2 c m.1).trans (kp c v' m.1 m.2 q)
    refine ⟨.ref s.heap.objs.size, _, I2, rfl, ⟨_, x, rfl, fr, rfl, fun ys hy => by rw [I.list_inj hy hq]; exact hx⟩, ⟨⟨_, k3'⟩, st3⟩, fun b hb => ?_⟩
    rw [upd_ne (fun z => ?_)]
    · exact (hf b hb).1
    · rw [z] at hb
      rcases List.mem_cons.mp hb with q | q
      · exact Nat.ne_of_gt lt1 q
      · exact Nat.ne_of_gt lt2 (List.mem_singleton.mp q)
  done := by
    intro X hP hw hK hc i pins s σ H E I hf st hg
    subst hP hw hK
    obtain ⟨xs, hq, hx⟩ := hg
    obtain ⟨its, rv, p, hz⟩ := I.list hq
    obtain ⟨g0, g1, g2, g3, g4, g5⟩ := hf ir (by simp)
    obtain ⟨⟨old, k⟩, r⟩ := st
    have hl := rv.length
    have nal : a ≠ ir := fun e => by
      obtain ⟨o1, e1, c1, _⟩ := r
      obtain ⟨o2, e2, c2, _⟩ := p.isList
      rw [e] at e2
      rw [e1] at e2
      cases e2
      rw [c1] at c2
      exact absurd c2 (by intro z; injection z with z; exact absurd z (by decide))
    have hh : X.A.in1.handled = none := I.ok.hd hc
    have en_i : i = its.toArray.size := by simp; omega
    subst en_i
    refine wpAny_pyNext_enum_endD (Draws.list hh ir a nal its.toArray) k ⟨r, p.isList⟩ fun h' eb => ?_
    exact ⟨rfl, I.turned (t' := s.toks) (fun b o hb e => eb b o hb e) g0 g1 g3 g4 g5⟩
  self := fun A i s Q E st h => by
    obtain ⟨⟨old, k⟩, _⟩ := st
    exact wpAny_pyIter_enum k h
section
variable {X : Cx} {elts : List Expr} {x1 : Nat} {tpos : Pos}
def iEnumK (K : PySem.W.Frag) (tl : TA) (tj : TA) : TI := fun σ H R => tl σ H fun vs H1 => tj σ H1 fun zs H2 => ∃ a j, vs = [.ref a] ∧ zs = [.int j] ∧ (∃ xs, SqL K H2 a xs) ∧ Builtin.SmallTypes.fitsIndex j = true ∧ R (Ite K a j) H2
def iEnum (K : PySem.W.Frag) (tl : TA) : TI := fun σ H R => tl σ H fun vs H1 => ∃ a, vs = [.ref a] ∧ (∃ xs, SqL K H1 a xs) ∧ R (Ite K a 0) H1
theorem en_it {pins : List (Addr × Obj)} {σ : St} {H : Hp} {s : Shared} {R : It → Hp → Prop} {E : Value → Shared → Prop} {a : Addr} {j : Int} {h1 : Heap} (I : Inv X pins σ H s) (k : IsEnum h1 (s.heap.objs.size + 1) s.heap.objs.size j .none) (st : h1.IsListIter s.heap.objs.size a 0)
    (kp : ∀ b o, s.heap.get? b = some o → h1.get? b = some o) (q : R (Ite X.K a j) H) : wpAny (model X.prog X.w) X.A (pyIter (.ref (s.heap.objs.size + 1))) (PIE X pins σ (.Tuple elts x1 tpos) R) E { s with heap := h1 } := by
  refine wpAny_pyIter_enum k ?_
  have I1 : Inv X pins σ H { s with heap := h1 } := I.kept (t' := s.toks) kp
  refine ⟨s.heap.objs.size + 1, [s.heap.objs.size + 1, s.heap.objs.size], _, _, H, rfl, I1, turn_enum a _ _ j (Nat.succ_ne_self _), ⟨⟨.none, ?_⟩, st⟩, fun b hb => ?_, q⟩
  · have e : j + ((0 : Nat) : Int) = j := by omega
    rw [e]
    exact k
  · rcases List.mem_cons.mp hb with z | z
    · rw [z]; exact I.fpOk (Nat.le_succ _) (I.hok.fresh (Nat.le_succ _))
    · rw [List.mem_singleton.mp z]; exact I.fpOk (Nat.le_refl _) (I.hok.fresh (Nat.le_refl _))
theorem pi_enum {a : Expr} {tl : TA} {p pos : Pos} (hg : Gl X "enumerate") (hm : X.mg "enumerate" = none) (ha : PA X [a] tl) (hs : starEach [a] X.env = [(false, eval a X.env)] := by rfl) :
    PI X (.Tuple elts x1 tpos) (.Call (.Name "enumerate" p) [a] [] pos) (iEnum X.K tl) := by
  intro pins s σ H R I h
  refine Call_ (ld_blt I hg hm boot_enumerate (PyProof.Rows.callWith_type1 (thn (ha pos pins s σ H _ I h) fun us s1 ⟨vs, H1, I1, r1, q1⟩ => ?_) hs rfl))
  obtain ⟨l, rfl, ⟨xs, hq⟩, q⟩ := q1
  obtain ⟨u, rfl, ru⟩ := vals1 r1
  cases ru
  obtain ⟨its, rv, pl, hz⟩ := I1.list hq
  exact call_enumerate_list pl.isList fun h1 k st _ kp => en_it I1 k st kp q
end
theorem for_enum {K : PySem.W.Frag} {a : Addr} {j : Int} {xs : List V} {g : TG} {tb : TS} {D : Ends} {σ : St} {H : Hp} (Pv : Nat → St → Hp → Prop) (h0 : Pv 0 σ H) (hl : ∀ i σ H, i ≤ xs.length → Pv i σ H → SqL K H a xs)
    (hs : ∀ i x σ H p, xs[i]? = some x → Pv i σ H → H p = none → g (.ref p) σ (upd H p (.tup [.int (j + (i : Nat)), x])) fun σ2 H2 => tb { D with nx := Pv (i + 1), ct := Pv (i + 1), bk := D.nx } σ2 H2) (hd : ∀ σ H, Pv xs.length σ H → D.nx σ H) :
    ∃ W : Nat → Nat → St → Hp → Prop, (∃ m, W 0 m σ H) ∧ ∀ i m σ H, W i m σ H →
      ((Ite K a j).stop i H ∧ D.nx σ H) ∨ ((Ite K a j).go i H ∧ ∃ N : St → Hp → Prop, (∀ σ' H', N σ' H' → ∃ m', m' < m ∧ W (i + 1) m' σ' H') ∧ ∀ x H', (Ite K a j).yld i H x H' → g x σ H' fun σ2 H2 => tb { D with nx := N, ct := N, bk := D.nx } σ2 H2) := by
  refine ⟨fun i m σ H => m = xs.length - i ∧ i ≤ xs.length ∧ Pv i σ H, ⟨xs.length, by simp, Nat.zero_le _, h0⟩, ?_⟩
  rintro i m σ H ⟨rfl, hi, p⟩
  have q := hl i σ H hi p
  by_cases hlt : i < xs.length
  · refine .inr ⟨⟨xs, xs[i], q, by simp [hlt]⟩, Pv (i + 1), fun σ' H' p' => ⟨xs.length - (i + 1), by omega, rfl, hlt, p'⟩, fun x H' y => ?_⟩
    obtain ⟨c, z, rfl, hc, rfl, y⟩ := y
    exact hs i z σ H c (y xs q) p hc
  · have e : i = xs.length := by omega
    subst e
    exact .inl ⟨⟨xs, q, rfl⟩, hd σ H p⟩
end L2
namespace L2
open PySem PySem.Spec PyProof.Rows
section
variable {X : Cx} {pins : List (Addr × Obj)} {σ : St} {H : Hp} {s : Shared} {d : Addr} {kvs : List (Key × V)}
theorem Inv.freeze (I : Inv X pins σ H s) (h : H d = some (.dK kvs)) : ∃ o, s.heap.get? d = some o ∧ Inv X pins σ (upd H d (.frz o (.dK kvs))) s := by
  obtain ⟨z, hd, vs, r, o, es, ep, e, c⟩ := I.hok d _ h
  have mu : Mut (H d) := by rw [h]; trivial
  refine ⟨o, e, I.un (h' := s.heap) (t' := s.toks) (Un.write mu (.inl rfl) (fun _ _ _ q => q) ⟨o, e⟩) (I.hok.write mu (.inl rfl) (fun _ _ _ q => q) ⟨o, e⟩ ⟨e, z, hd, vs, r, o, es, ep, e, c⟩)⟩
theorem Inv.thaw {o : Obj} (I : Inv X pins σ H s) (h : H d = some (.frz o (.dK kvs))) (h0 : ∀ o u, X.H₀ d ≠ some (.frz o u)) : Inv X pins σ (upd H d (.dK kvs)) s := by
  have nn : ∀ b, H b = none → b ≠ d := fun b q z => by rw [z, h] at q; cases q
  refine ⟨I.ok, I.os, I.bare, ⟨I.base.keep, I.base.slot, fun b o' e n hx => ?_, I.base.there, fun b xs e => ?_, fun b o' u e => ?_, fun b ps e => ?_⟩, I.loc, I.cell, ?_, fun x c e => ?_, fun p hp => ?_, fun b u e => ?_, I.len⟩
  · have q := I.base.free b o' e n hx
    rw [upd_ne (nn b q)]
    exact q
  · have q := I.base.tups b xs e
    rw [upd_ne (ne_of q h (by intro z; cases z))]
    exact q
  · have q := I.base.frzs b o' u e
    rw [upd_ne (fun z => h0 o' u (by rw [← z]; exact e))]
    exact q
  · obtain ⟨more, q⟩ := I.base.tbls b ps e
    refine ⟨more, ?_⟩
    rw [upd_ne (ne_of q h (by intro z; cases z))]
    exact q
  · rw [upd_ne (nn _ I.free)]
    exact I.free
  · rw [upd_ne (nn _ (I.freeC x c e))]
    exact I.freeC x c e
  · obtain ⟨a, b, c⟩ := I.pin p hp
    exact ⟨a, by rw [upd_ne (nn _ b)]; exact b, c⟩
  · by_cases hb : b = d
    · subst hb
      rw [upd_same] at e
      cases e
      obtain ⟨q, ok⟩ := I.hok b _ h
      exact ok
    · rw [upd_ne hb] at e
      exact (I.hok b u e).stay (fun _ _ _ q => q) (fun c q => by rw [upd_ne (ne_of q h (by intro z; cases z))]; exact q) (fun c xs q => by rw [upd_ne (ne_of q h (by intro z; cases z))]; exact q)
theorem Inv.unfrozen (I : Inv X pins σ H s) (h : H d = some (.dK kvs)) : ∀ o u, X.H₀ d ≠ some (.frz o u) := fun o u e => by
  have q := I.base.frzs d o u e
  rw [h] at q
  cases q
def tFrz (t : TE) : TE := fun σ H Q => ∃ (d : Addr) (kvs : List (Key × V)), H d = some (.dK kvs) ∧ ∀ o, t σ (upd H d (.frz o (.dK kvs))) fun v H' => H' d = some (.frz o (.dK kvs)) ∧ Q v (upd H' d (.dK kvs))
def sFrz (t : TS) : TS := fun D σ H => ∃ (d : Addr) (kvs : List (Key × V)), H d = some (.dK kvs) ∧ ∀ o, t { nx := fun σ' H' => H' d = some (.frz o (.dK kvs)) ∧ D.nx σ' (upd H' d (.dK kvs)), rt := fun v H' => H' d = some (.frz o (.dK kvs)) ∧ D.rt v (upd H' d (.dK kvs)), bk := fun σ' H' => H' d = some (.frz o (.dK kvs)) ∧ D.bk σ' (upd H' d (.dK kvs)), ct := fun σ' H' => H' d = some (.frz o (.dK kvs)) ∧ D.ct σ' (upd H' d (.dK kvs)) } σ (upd H d (.frz o (.dK kvs)))
theorem ps_frz {st : Stmt} {t : TS} (h : PS X st t) : PS X st (sFrz t) := by
  intro pins s σ H D I hw
  obtain ⟨d, kvs, hd, q⟩ := hw
  obtain ⟨o, eo, I1⟩ := I.freeze hd
  refine thn (h pins s σ _ _ I1 (q o)) fun f s1 q1 => ?_
  have un := I.unfrozen hd
  cases f with
  | next => obtain ⟨σ', H', I2, hz, q2⟩ := q1; exact ⟨σ', _, I2.thaw hz un, q2⟩
  | brk => obtain ⟨σ', H', I2, hz, q2⟩ := q1; exact ⟨σ', _, I2.thaw hz un, q2⟩
  | cont => obtain ⟨σ', H', I2, hz, q2⟩ := q1; exact ⟨σ', _, I2.thaw hz un, q2⟩
  | ret u => obtain ⟨v, σ', H', I2, r, hz, q2⟩ := q1; exact ⟨v, σ', _, I2.thaw hz un, r, q2⟩
end
def Itd (d : Addr) (o : Obj) (kvs : List (Key × V)) : It :=
  ⟨fun i H => H d = some (.frz o (.dK kvs)) ∧ i < kvs.length, fun i H x H' => H' = H ∧ ∃ k v, kvs[i]? = some (k, v) ∧ x = kV k, fun i H => H d = some (.frz o (.dK kvs)) ∧ kvs.length = i⟩
theorem rel_key {k : Key} {v : Value} (h : keyIs k v = true) : RelV (kV k) v := by
  rcases keyIs_shape h with ⟨i, t, rfl, rfl⟩ | ⟨x, t, rfl, rfl⟩
  · exact ⟨t, rfl⟩
  · exact ⟨t, rfl⟩
section
variable {X : Cx} {tg : Expr}
def iDict (tl : TE) : TI := fun σ H R => tl σ H fun x H1 => ∃ d o kvs, x = .ref d ∧ H1 d = some (.frz o (.dK kvs)) ∧ R (Itd d o kvs) H1
def rInsert : V → List V → Hp → VK → Prop := fun x vs H Q => ∃ l xs i y, x = .ref l ∧ vs = [.int i, y] ∧ H l = some (.lst xs) ∧ 0 ≤ i ∧ i ≤ ((xs.length : Nat) : Int) ∧ xs.length < sizeLine ∧ Q .non (upd H l (.lst (xs.take i.toNat ++ y :: xs.drop i.toNat)))
theorem mt_insert : MtM X "list.insert" rInsert := by
  intro pins s σ H x vs v us Q I rx rv h
  obtain ⟨l, xs, i, y, rfl, rfl, hH, h0, h1, hz, q⟩ := h
  cases rx
  obtain ⟨u1, u2, rfl, ⟨t, rfl⟩, r2⟩ := rv.two
  obtain ⟨z, its, n, r, hl, e⟩ := I.lstM hH
  have s63 : (sizeLine : Nat) < 2 ^ 63 := line63
  have fit : ¬ (!Builtin.List.listFitsIndex i) = true := by
    have hb : Builtin.List.listFitsIndex i = true := by
      unfold Builtin.List.listFitsIndex
      simp
      omega
    rw [hb]
    simp
  refine call_meets F.slot_list_insert ⟨_, e, rfl⟩ F.entry_list_insert (F.args_list_insert_3 _ _ _) (AutoSeq1.list_insert_list_int_val_1 l its.toArray n i t u2 fit (by rw [List.size_toArray]; omega)) ⟨e, ?_⟩
  refine ⟨.non, _, I.lset (its' := its.take i.toNat ++ u2 :: its.drop i.toNat) hH e ?_ ((r.take _).append (.cons r2 (r.drop _))) ?_, rfl, q⟩
  · have e1 : ¬ i < 0 := by omega
    have e2 : min i.toNat its.toArray.size = i.toNat := by
      rw [List.size_toArray]
      omega
    simp only [if_neg e1, e2]
    apply Array.toList_inj.mp
    simp
    exact List.take_of_length_le (by rw [List.length_drop]; omega)
  · rw [List.length_append, List.length_cons, List.length_take, List.length_drop]
    omega
structure Dfn (P : Program) (w : World) (K : PySem.W.Frag) (mg : Str → Option Value) (base : Heap) (k : Nat) (x : Str) (ps : List Str) (sp : Sp) : Prop where
  ex : ∃ f fd, FnOk P w K mg base CX0 k f fd ps sp ∧ Binds K fd ps [] ∧ PySem.W.keepIn K (.ref f) = true ∧ mg x = some (.ref f)
theorem pe_callD {k : Nat} {x : Str} {ps : List Str} {sp : Sp} {e : Expr} {es : List Expr} {t : TA} {p pos : Pos} (D : Dfn X.prog X.w X.K X.mg X.base k x ps sp) (hr : Room k X.A) (hg : Gl X x) (ha : PA X (e :: es) t) (hdb : (x == ("__debug__" : Str)) = false := by decide)
    (he : starEach (e :: es) X.env = (false, eval e X.env) :: starEach es X.env := by rfl) (hpl : (backTo pos (starEach es X.env)).any (·.1) = false := by rfl) : PE X (.Call (.Name x p) (e :: es) [] pos) (tCall sp [] E0 t) := by
  obtain ⟨f, fd, F, b, kp, m⟩ := D.ex
  exact pe_call F hr hg m kp b .nil pass0 ha hdb he hpl
structure GS (mg : Str → Option Value) (x : Str) (z : Str) : Prop where
  ex : ∃ t, mg x = some (.str z t)
structure GI (mg : Str → Option Value) (x : Str) (z : Int) : Prop where
  ex : ∃ t, mg x = some (.int z t)
theorem pe_gi {x : Str} {z : Int} {pos : Pos} (G : GI X.mg x z) (hg : Gl X x) (hd : (x == ("__debug__" : Str)) = false := by decide) : PE X (.Name x pos) (tC (.int z)) := by
  obtain ⟨t, e⟩ := G.ex
  exact pe_glob hg e (rel_int _ _) hd
end
end L2
namespace L2
open PySem PySem.Spec PyProof.Rows
section
variable {X : Cx}
structure MkD (P : Program) (w : World) (K : PySem.W.Frag) (mg : Str → Option Value) (base : Heap) (k : Nat) (x : Str) (C : Addr) (ps : List Str) (sp : Sp) : Prop where
  ex : ∃ f fd, Mk K C f ∧ FnOk P w K mg base CX0 k f fd ps sp ∧ Binds K fd ps [] ∧ mg x = some (.ref C)
structure MtD (P : Program) (w : World) (K : PySem.W.Frag) (mg : Str → Option Value) (base : Heap) (k : Nat) (m : Str) (C : Addr) (ps : List Str) (sp : Sp) : Prop where
  ex : ∃ f fd, Meth K C m f ∧ FnOk P w K mg base CX0 k f fd ps sp ∧ Binds K fd ps []
theorem pe_ixK {K : PySem.W.Frag} {a b : Expr} {ta tb : TE} {pos : Pos} {r : PySem.W.Frag → R2} (hK : X.K = K) (hr : IxR X (r X.K)) (ha : PE X a ta) (hb : PE X b tb) (hs : PlainIx b) : PE X (.Subscript a b pos) (tOp (r K) ta tb) := by
  subst hK
  exact pe_ix hr ha hb hs
def tAt (t : TS) : TS := fun D σ H => ∃ σ', σ = σ' ∧ t D σ' H
end
end L2
namespace PySem.W
open PySem PySem.Spec PySem.Calls PyProof.Rows Builtin Builtin.ObjectAttr Builtin.Getset_descriptor
abbrev veMro : List Value := [.type "ValueError", .type "Exception", .type "BaseException", .type "object"]
def excMk (K : Frag) (C : Addr) : Bool := match K.lookup C with
  | some ⟨.type "type", _, .cls cd, sls⟩ => (match cd.mro, sls.toList with
    | .ref C' :: tlm, [_, _, _, _, some (.builtin n), _] => C' == C && n == "ValueError.__new__" && !cd.hasDel && tailIn K veMro tlm
    | _, _ => false)
  | _ => false
def ExcAt (h : Heap) (C : Addr) (tlm : List Value) : Prop := ∃ N nm q bs hdct sn sub ab col dd q0 q1 q2 q3 q5, h.get? C = some (excClassObj nm q C N bs tlm hdct sn sub ab col dd q0 q1 q2 q3 q5 "ValueError.__new__")
theorem excMk_obj {K : Frag} {h : Heap} {C : Addr} (X : K.In h) (q : excMk K C = true) : ∃ tlm, ExcAt h C tlm ∧ OwnTail h veMro tlm := by
  unfold excMk at q
  split at q
  · rename_i dd cd sls ho
    split at q
    · rename_i C' tlm q0 q1 q2 q3 n q5 hmm hss
      simp only [beq_iff_eq, Bool.and_eq_true, Bool.not_eq_true'] at q
      obtain ⟨⟨⟨rfl, rfl⟩, hdel⟩, ht⟩ := q
      obtain ⟨nm, bs, mro, ns, qun, hd, sn, sub, ab, col, del⟩ := cd
      dsimp only at hmm hdel
      subst hmm hdel
      have hsl : sls = #[q0, q1, q2, q3, some (.builtin "ValueError.__new__"), q5] := by
        obtain ⟨l⟩ := sls
        simp only at hss
        rw [hss]
      subst hsl
      exact ⟨tlm, ⟨ns, nm, qun, bs, hd, sn, sub, ab, col, dd, q0, q1, q2, q3, q5, X _ _ ho⟩, tail_of_in X ht⟩
    · cases q
  · cases q
abbrev excTup (us : List Value) : Obj := { cls := .type "tuple", data := .seq us.toArray }
abbrev excNew (C t0 : Addr) : Obj := { cls := .ref C, data := .fields #[.ref t0, .none, .none, .none, .bool false, .none] }
section
variable {prog : Program} {w : World} {A : Around} {K : Frag} {C f : Addr} {R : Result → Shared → Prop} {h : Heap} {g : Array GenState} {d : Drawn} {t : Nat} {os : OsState}
theorem make_X {us : List Value} (X : K.In h) (e : excMk K C = true) (hi : findIn K (.ref C) "__init__" = some (some (.ref f))) (hf : typeIn K (.ref f) = some (.type "function")) (hrest : us.length ≤ sizeLine)
    (hq : codeAny (model prog w) (A.under (.builtin "type.__call__" ⟨.ref C :: us, []⟩)) (.call (.ref f) ⟨.ref (h.objs.size + 1) :: us, []⟩) (InitBack (h.objs.size + 1) R) ⟨(h.push (excTup us)).push (excNew C h.objs.size), g, d, t, os⟩) :
    codeAny (model prog w) A (.call (.ref C) ⟨us, []⟩) R ⟨h, g, d, t, os⟩ := by
  obtain ⟨tlm, ⟨N, nm, q, bs, hdct, sn, sub, ab, col, dd, q0, q1, q2, q3, q5, hCl⟩, T⟩ := excMk_obj X e
  have FB := PySem.F.excBase_ValueError
  have f1 := tc_lookup
  have f2 := tc_bind (.ref C)
  have hTy : (⟨h, g, d, t, os⟩ : Shared).TypeIs (.ref C) "type" := ⟨_, hCl, rfl⟩
  refine codeAny_of_tree ?_
  show wpAny (model prog w) A.in1 (callAny (.ref C) _) _ _ _
  repeat (any_goals (first | assumption | with_reducible refine wpAny_loadPart_at hCl ?_ | wp_step))
  refine ⟨rfl, ?_⟩
  refine codeAny_call_builtin_at (Code.quiet_builtin _ (by decide +kernel)) entry_typeCall (wpAny_check_type_call_sub hCl ?_)
  repeat (first | with_reducible refine wpAny_loadPart_at hCl ?_ | with_reducible refine wpAny_madeBy_exc hCl ?_ | wp_step)
  refine codeAny_call_builtin_code (Code.quiet_builtin _ FB.quiet) (wpAny_check_new_subT FB T hCl ?_)
  refine codeAny_exc_new_subT FB T hCl ?_ hrest
  show wpAny _ _ _ _ _ _
  have k : ∀ b o, h.get? b = some o → ((h.push (excTup us)).push (excNew C h.objs.size)).get? b = some o := fun b o e => Heap.get?_push_of_some _ (Heap.get?_push_of_some _ e)
  have hx : ((h.push (excTup us)).push (excNew C h.objs.size)).get? (h.objs.size + 1) = some (excNew C h.objs.size) := by heap_get
  have t1 : Looks (model prog w) ((h.push (excTup us)).push (excNew C h.objs.size)) (typeOf (.ref (h.objs.size + 1))) (.ref C) := (Looks.ld hx).andThen .now
  have hcc : (Value.ref C :: tlm).contains (.ref C) = true := by simp
  have s0 : Looks (model prog w) h (isSubtype (.ref C) (.ref C)) true := by
    intro A Q E s kk qq
    obtain ⟨h1, g1, d1, tk1, os1⟩ := s
    exact wpAny_isSubtype_exc (kk _ _ hCl) (by rw [hcc]; exact qq)
  have s1 := s0.keeps k
  have i1 := (looks_findIn (M := model prog w) X hi).keeps k
  have b1 := (bind_fn (M := model prog w) X (.ref (h.objs.size + 1)) hf).keeps k
  have hC₁ := k _ _ hCl
  unfold isInstance
  refine wpAny_bind (wpAny_bind (t1.here (s1.here ?_)))
  simp only [Bool.false_eq_true, Bool.not_true, if_false]
  refine wpAny_bind (wpAny_holding ?_); unfold callSpecial? specialOf
  refine wpAny_bind (wpAny_bind (t1.here ?_))
  refine i1.here ?_
  refine wpAny_holding (wpAny_bind (b1.here ?_))
  refine wpAny_bind (wpAny_call ?_)
  refine codeAny_mono hq fun r s' zz => ?_
  rcases r with e | (v | _ | _ | _) <;> first | exact zz | exact zz.elim | skip
  obtain ⟨rfl, zz⟩ := zz
  exact wpAny_pure (wpAny_pure zz)
end
end PySem.W
namespace PySem.W
open PySem PySem.Spec PySem.Calls PyProof.Rows Builtin Builtin.ObjectAttr Builtin.Getset_descriptor
def onlyVE : List Value → Bool
  | .ref _ :: r => onlyVE r
  | .type n :: r => (.type n :: r) == veMro
  | _ => false
theorem refuse_VE (self : Value) : ∀ {l : List Value}, onlyVE l = true → refuseLoop self "__setattr__" l = pure ()
  | .ref c :: r, e => by rw [refuseLoop_ref]; exact refuse_VE self (show onlyVE r = true from e)
  | .type n :: r, e => by rw [show Value.type n :: r = veMro from beq_iff_eq.mp e]; exact PySem.F.store_ValueError.passes self
theorem has_VE {b : String} (hbb : veMro.contains (.type b) = true) : ∀ {l : List Value}, onlyVE l = true → l.contains (.type b) = true
  | .ref c :: r, e => by rw [List.contains_cons, has_VE hbb (l := r) e, Bool.or_true]
  | .type n :: r, e => by rw [show Value.type n :: r = veMro from beq_iff_eq.mp e]; exact hbb
def excOver (K : Frag) (C : Addr) : Bool := (clsIn K C).any fun cdt => onlyVE cdt.mro
section
variable {prog : Program} {w : World} {A : Around} {K : Frag} {C x : Addr} {s : Shared} {R : Result → Shared → Prop}
theorem osa_X {ox : Obj} {od : Option Obj} {nm : Str} {tk : Tok} {v : Value} {r : Option Value} (X : K.In s.heap) (I : InstAt s.heap x ox C od) (hp : excOver K C = true) (ht : takerIn K C nm = some r)
    (go : ∀ b, wpAny (model prog w) A.in1 (match r with | some a => setByDescriptor a (.ref x) v | none => storeInOwnDict (.ref x) (.ref C) (.str nm tk) nm v b)
      (fun fi s' => match fi with | .done f => R (.ok f) s' | .again c' => c'.quiet = true ∧ codeAny (model prog w) A c' R s') (fun e s' => R (.error e) s') s) :
    codeAny (model prog w) A (.call (.builtin "object.__setattr__") ⟨[.ref x, .str nm tk, v], []⟩) R s := by
  have SFo := PySem.F.store_object
  obtain ⟨cdt, hcd, hov⟩ := any_some hp
  have nem : cdt.mro.isEmpty = false := by cases q : cdt.mro with | nil => rw [q] at hov; cases hov | cons _ _ => rfl
  have sub : Looks (model prog w) s.heap (isInstance (.ref x) (.type "object")) true := I.type.andThen (looks_mroIn X (by unfold mroIn; rw [hcd, Option.bind_some, if_neg (by rw [nem]; decide), has_VE (by decide +kernel) hov]))
  refine codeAny_call_builtin SFo.slot.plain SFo.entry (@check_slot (model prog w) _ _ s "object.__setattr__" "object" "__setattr__" (.ref x) [.str nm tk, v] [] _ SFo.kind SFo.split sub (SFo.args (.ref x) (.str nm tk) v) ?_)
  obtain ⟨atr, ha, hrr⟩ := Option.bind_eq_some_iff.mp ht
  have hmr : Looks (model prog w) s.heap (mroOf (.ref C)) cdt.mro := (looks_clsIn X hcd).andThen .now
  have l3 : Looks (model prog w) s.heap (storeTaker? atr) r := by
    cases atr with
    | none => cases hrr; exact .now
    | some a =>
      obtain ⟨b, hbb, rfl⟩ := Option.map_eq_some_iff.mp hrr
      refine (looks_takesIn X hbb).andThen ?_
      cases b <;> exact .now
  rw [osa_eq, refuse_eq]
  refine wpAny_bind (wpAny_bind (I.type.here (wpAny_bind (hmr.here ?_))))
  rw [refuse_VE _ hov]
  refine wpAny_pure (wpAny_bind (I.type.here (wpAny_bind ((looks_findIn X ha).here (wpAny_bind (l3.here ?_))))))
  exact go _
variable {E : Value → Shared → Prop} {vs : Array Value} {sl : Array (Option Value)} {nm : Str} {v : Value}
theorem setX_new {Q : Unit → Shared → Prop} (X : K.In s.heap) (hx : s.heap.get? x = some ⟨.ref C, none, .fields vs, sl⟩) (hs : findIn K (.ref C) "__setattr__" = some (some (.builtin "object.__setattr__")))
    (hp : excOver K C = true) (ht : takerIn K C nm = some none) (hh : hasDictIn K C = true)
    (h : ∀ h', h'.get? x = some ⟨.ref C, some s.heap.objs.size, .fields vs, sl⟩ → h'.Ns1 s.heap.objs.size (fun y => if y = nm then some v else none) → (∀ b o, b ≠ x → s.heap.get? b = some o → h'.get? b = some o) →
      Q () { s with heap := h', toks := s.toks + 2 }) : wpAny (model prog w) A (setAttr (.ref x) nm v) Q E s := by
  have J : InstAt s.heap x ⟨.ref C, none, .fields vs, sl⟩ C none := ⟨hx, rfl, rfl, True.intro⟩
  refine set_plain X J hs (osa_X (s := { s with toks := s.toks + 1 }) (r := none) X J hp ht fun b => ?_)
  obtain ⟨cdt, hcd, hdc⟩ := any_some hh
  refine wpAny_bind (wpAny_pure (wpAny_bind (wpAny_bind (wpAny_loadPart hx (wpAny_bind (Looks.here (s := { s with toks := s.toks + 1 }) (looks_clsIn X hcd) ?_))))))
  rw [hdc]
  have hxz : x ≠ s.heap.objs.size := Nat.ne_of_lt (Heap.lt_size hx)
  have hx1 : (s.heap.push { cls := .type "dict", data := .dict #[] }).get? x = some ⟨.ref C, none, .fields vs, sl⟩ := Heap.get?_push_of_some _ hx
  refine wpAny_bind (wpAny_alloc (wpAny_bind (wpAny_update hx1 ?_)))
  refine wpAny_pure (a := some s.heap.objs.size) ?_
  have hx2 : ((s.heap.push { cls := .type "dict", data := .dict #[] }).update x fun o => { cls := o.cls, dict := some s.heap.objs.size, data := o.data, slots := o.slots }).get? x = some ⟨.ref C, some s.heap.objs.size, .fields vs, sl⟩ := by
    rw [Heap.get?_update_self _ hx1 rfl]
  have hgx : ((s.heap.push { cls := .type "dict", data := .dict #[] }).update x fun o => { cls := o.cls, dict := some s.heap.objs.size, data := o.data, slots := o.slots }).get? s.heap.objs.size = some { cls := .type "dict", data := .dict #[] } :=
    (Heap.get?_update_ne _ _ _ _ hxz.symm).trans (Heap.get?_push_at rfl rfl)
  have hnd : ((s.heap.push { cls := .type "dict", data := .dict #[] }).update x fun o => { cls := o.cls, dict := some s.heap.objs.size, data := o.data, slots := o.slots }).Ns s.heap.objs.size (fun _ => none) :=
    ⟨_, #[], _, hgx, rfl, fun e he => absurd he (by simp), fun _ => rfl⟩
  refine wpAny_bind (wpAny_pure (wpAny_bind (wpAny_nsSet1 (Heap.Ns1.of_empty hnd) fun h' hn' hs' => ?_)))
  obtain ⟨oD, esD, epD, hoE, hdE, hcE⟩ := hn'.count (Within.cons nm v Within.nil)
  refine wpAny_bind (wpAny_lookBehind hoE (by rw [hdE]; exact pastItsLine_dict (Nat.le_trans hcE (by rw [List.length_cons, List.length_nil, sizeLine_eq]; omega))) ?_)
  refine wpAny_pure (h h' ((hs'.2 x hxz).trans hx2) hn' fun b o hbb q => ?_)
  exact (hs'.2 b (Nat.ne_of_lt (Heap.lt_size q))).trans ((Heap.get?_update_ne _ _ _ _ hbb).trans (Heap.get?_push_of_some _ q))
theorem setX_old {Q : Unit → Shared → Prop} {dxa : Addr} {mA : Str → Option Value} {ns : List Str} (X : K.In s.heap) (hx : s.heap.get? x = some ⟨.ref C, some dxa, .fields vs, sl⟩) (hn : s.heap.Ns1 dxa mA) (hne : dxa ≠ x)
    (hs : findIn K (.ref C) "__setattr__" = some (some (.builtin "object.__setattr__"))) (hp : excOver K C = true) (ht : takerIn K C nm = some none) (hh : hasDictIn K C = true) (hw : Within mA ns) (hsz : ns.length < sizeLine)
    (h : ∀ h', h'.Ns1 dxa (fun y => if y = nm then some v else mA y) → (∀ b o, b ≠ dxa → s.heap.get? b = some o → h'.get? b = some o) →
      Q () { s with heap := h', toks := s.toks + 2 }) : wpAny (model prog w) A (setAttr (.ref x) nm v) Q E s := by
  obtain ⟨od, hov, hl⟩ := L2.lookIn_ns hn
  have J : InstAt s.heap x ⟨.ref C, some dxa, .fields vs, sl⟩ C (some od) := ⟨hx, rfl, rfl, hov⟩
  refine set_plain X J hs (osa_X (s := { s with toks := s.toks + 1 }) (r := none) X J hp ht fun b => ?_)
  obtain ⟨cdt, hcd, hdc⟩ := any_some hh
  refine wpAny_bind (wpAny_pure (wpAny_bind (wpAny_bind (wpAny_loadPart hx (wpAny_bind (Looks.here (s := { s with toks := s.toks + 1 }) (looks_clsIn X hcd) ?_))))))
  rw [hdc]
  refine wpAny_pure (a := some dxa) (wpAny_bind (wpAny_pure (wpAny_bind ?_)))
  refine wpAny_nsSet1 (s := { s with toks := s.toks + 1 }) hn fun h' hn' hs' => ?_
  obtain ⟨oD, esD, epD, hoE, hdE, hcE⟩ := hn'.count (Within.cons nm v hw)
  refine wpAny_bind (wpAny_lookBehind hoE (by rw [hdE]; exact pastItsLine_dict (Nat.le_trans hcE (by rw [List.length_cons]; omega))) ?_)
  exact wpAny_pure (h h' hn' fun b o hbb q => (hs'.2 b hbb).trans q)
end
end PySem.W
namespace PySem.W
open PySem PySem.Spec PySem.Calls PyProof.Rows Builtin Builtin.ObjectAttr Builtin.Getset_descriptor
section
variable {prog : Program} {w : World} {A : Around} {K : Frag} {C x : Addr} {s : Shared} {E : Value → Shared → Prop} {ox : Obj} {od : Option Obj} {nm : Str} {v : Value} {Q : Value → Shared → Prop} {expr : Bool}
theorem gaX_call {h : Heap} {g : Array GenState} {d : Drawn} {t : Nat} {os : OsState} {tk : Tok} {R : Result → Shared → Prop} (X : K.In h) (I : InstAt h x ox C od) (hp : excOver K C = true) (hf : findObj K C od nm = some (.value v)) (hq : R (.ok (.ret v)) ⟨h, g, d, t, os⟩) :
    codeAny (model prog w) A (.call (.builtin "BaseException.__getattribute__") ⟨[.ref x, .str nm tk], []⟩) R ⟨h, g, d, t, os⟩ := by
  obtain ⟨cdt, hcd, hov⟩ := any_some hp
  have nem : cdt.mro.isEmpty = false := by cases q : cdt.mro with | nil => rw [q] at hov; cases hov | cons _ _ => rfl
  have sub : Looks (model prog w) h (isInstance (.ref x) (.type "BaseException")) true := I.type.andThen (looks_mroIn X (by unfold mroIn; rw [hcd, Option.bind_some, if_neg (by rw [nem]; decide), has_VE (by decide +kernel) hov]))
  have l0 := I.type (M := model prog w)
  have l1 := looks_find (M := model prog w) X I hf
  refine codeAny_call_builtin (by decide +kernel) PySem.F.entry_bexc_ga (@check_slot (model prog w) _ _ _ "BaseException.__getattribute__" "BaseException" "__getattribute__" (.ref x) [.str nm tk] [] _ (by decide +kernel) (by decide +kernel) sub (PySem.F.args_bexc_ga (.ref x) (.str nm tk)) ?_)
  refine wpAny_bind (wpAny_pure (wpAny_bind (wpAny_pure (wpAny_bind (l0.at (wpAny_bind (l1.at ?_)))))))
  exact wpAny_pure hq
theorem getX (X : K.In s.heap) (I : InstAt s.heap x ox C od) (hga : findIn K (.ref C) "__getattribute__" = some (some (.builtin "BaseException.__getattribute__"))) (hgn : findIn K (.ref C) "__getattr__" = some none) (hp : excOver K C = true)
    (hf : findObj K C od nm = some (.value v)) (hhd : handedIn v = true) (h : Q v { s with toks := s.toks + 1 }) : wpAny (model prog w) A (getAttr (.ref x) nm expr) Q E s := by
  obtain ⟨hp', g, d, t, os⟩ := s
  have l0 := I.type (M := model prog w)
  have l1 := looks_findIn (M := model prog w) X hga
  have l2 := looks_findIn (M := model prog w) X hgn
  have f3 : bindSpecial (.builtin "BaseException.__getattribute__") (.ref x) = pure (.builtin "BaseException.__getattribute__", [.ref x]) :=
    (Slot.of (T := "ValueError") (name := "__getattribute__") (owner := "BaseException") (n := "__getattribute__") (by rw [typeLookup_type, builtinLookup_eq_fast]; kernel_rfl) (by decide +kernel) (by decide +kernel) (by decide +kernel)
      (.inl (by decide +kernel)) (by rw [isSubtype_type]; kernel_rfl)).bind (.ref x)
  have hxo : (expr && onTheHeap (Value.builtin "BaseException.__getattribute__")) = false := by cases expr <;> rfl
  unfold getAttr getAttrBy
  refine wpAny_bind (wpAny_mkText (wpAny_holding (wpAny_bind (l0.at (wpAny_bind (l1.at ?_))))))
  have hx2 : (onTheHeap (Value.ref C) && Value.builtin "BaseException.__getattribute__" == Value.builtin "object.__getattribute__") = false := by
    rw [show (Value.builtin "BaseException.__getattribute__" == Value.builtin "object.__getattribute__") = false by decide +kernel, Bool.and_false]
  dsimp only at l0 l1 l2 X I h ⊢
  rw [hx2, if_neg Bool.false_ne_true]
  unfold getAttrByItsOwn
  refine wpAny_bind (l2.at ?_)
  repeat (any_goals first | assumption | wp_step)
  refine gaX_call X I hp hf ?_
  show wpAny (model prog w) A (handedOut v) _ _ _
  rw [handedOut_of hhd]; exact wpAny_pure h
end
end PySem.W
namespace L2
open PySem PyProof.Rows PySem.Spec PySem.Calls
def XO (e C : Addr) (d : Option Addr) : HO := .ext fun h => ∃ t0, h.get? e = some ⟨.ref C, d, .fields #[.ref t0, .none, .none, .none, .bool false, .none], #[]⟩
def XC (e C : Addr) (d : Option Addr) : HO := .ext fun h => ∃ vs sl, h.get? e = some ⟨.ref C, d, .fields vs, sl⟩ ∧ vs[2]? = some .none
def XD (a : Addr) (fs : List (Str × V)) : HO := .ext fun h => fs.length ≤ 1000 ∧ ∃ mA, h.Ns1 a mA ∧ (∀ f, RelO (fs.lookup f) (mA f)) ∧ PySem.Within mA (fs.map (·.1))
def IsX (H : Hp) (e C : Addr) (d : Option Addr) : Prop := H e = some (XO e C d) ∨ H e = some (XC e C d)
section
variable {P : Program} {w : World} {H : Hp} {h : Heap} {e C a : Addr} {d : Option Addr} {fs : List (Str × V)}
theorem xo_ok {t0 : Addr} (q : h.get? e = some ⟨.ref C, d, .fields #[.ref t0, .none, .none, .none, .bool false, .none], #[]⟩) : ObjOk P w H h e (XO e C d) :=
  ⟨⟨t0, q⟩, ⟨_, q⟩, fun _ _ ⟨t, z⟩ k => ⟨t, k _ z⟩⟩
theorem xc_ok {vs : Array Value} {sl : Array (Option Value)} (q : h.get? e = some ⟨.ref C, d, .fields vs, sl⟩) (c : vs[2]? = some .none) : ObjOk P w H h e (XC e C d) :=
  ⟨⟨vs, sl, q, c⟩, ⟨_, q⟩, fun _ _ ⟨v, s, z, c⟩ k => ⟨v, s, k _ z, c⟩⟩
theorem xd_ok {mA : Str → Option Value} (l : fs.length ≤ 1000) (n : h.Ns1 a mA) (r : ∀ f, RelO (fs.lookup f) (mA f)) (wi : PySem.Within mA (fs.map (·.1))) : ObjOk P w H h a (XD a fs) :=
  ⟨⟨l, mA, n, r, wi⟩, let ⟨o, _, _, q, _⟩ := n; ⟨o, q⟩, fun _ _ ⟨l, m, n, r, z⟩ k => ⟨l, m, n.at k, r, z⟩⟩
theorem xo_get (hok : HOk P w H h) (q : H e = some (XO e C d)) : ∃ t0, h.get? e = some ⟨.ref C, d, .fields #[.ref t0, .none, .none, .none, .bool false, .none], #[]⟩ :=
  (show ObjOk P w H h e (XO e C d) from hok e _ q).1
theorem x_getC (hok : HOk P w H h) (q : IsX H e C d) : ∃ vs sl, h.get? e = some ⟨.ref C, d, .fields vs, sl⟩ ∧ vs[2]? = some .none := by
  rcases q with q | q
  · obtain ⟨t, z⟩ := xo_get hok q; exact ⟨_, _, z, rfl⟩
  · exact (show ObjOk P w H h e (XC e C d) from hok e _ q).1
theorem x_get (hok : HOk P w H h) (q : IsX H e C d) : ∃ vs sl, h.get? e = some ⟨.ref C, d, .fields vs, sl⟩ := let ⟨vs, sl, z, _⟩ := x_getC hok q; ⟨vs, sl, z⟩
theorem xd_get (hok : HOk P w H h) (q : H a = some (XD a fs)) : fs.length ≤ 1000 ∧ ∃ mA, h.Ns1 a mA ∧ (∀ f, RelO (fs.lookup f) (mA f)) ∧ PySem.Within mA (fs.map (·.1)) :=
  (show ObjOk P w H h a (XD a fs) from hok a _ q).1
end
structure ClsX (K : PySem.W.Frag) (C : Addr) : Prop where
  hd : PySem.W.hasDictIn K C = true
  po : PySem.W.excOver K C = true
  sa : PySem.W.findIn K (.ref C) "__setattr__" = some (some (.builtin "object.__setattr__"))
  ga : PySem.W.findIn K (.ref C) "__getattribute__" = some (some (.builtin "BaseException.__getattribute__"))
  gn : PySem.W.findIn K (.ref C) "__getattr__" = some none
section
variable {X : Cx} {pins : List (Addr × Obj)} {σ : St} {H : Hp} {s : Shared} {a C dx : Addr} {d : Option Addr} {fs : List (Str × V)} {f : Str} {v y : V} {u : Value} {A : Around} {E : Value → Shared → Prop}
theorem getX_ok {b : Bool} {Q : Value → Shared → Prop} (I : Inv X pins σ H s) (e : IsX H a C (some dx)) (ed : H dx = some (XD dx fs)) (c : ClsX X.K C) (n : NoAttr X.K C f) (l : fs.lookup f = some v)
    (h : ∀ u s', Inv X pins σ H s' → RelV v u → Q u s') : wpAny (model X.prog X.w) A (getAttr (.ref a) f b) Q E s := by
  obtain ⟨vs, sl, hx⟩ := x_get I.hok e
  obtain ⟨_, mA, hn, r, _⟩ := xd_get I.hok ed
  obtain ⟨u, hu, ru⟩ := RelO.some_of (v := v) (o := mA f) (by rw [← l]; exact r f)
  obtain ⟨od, ho, hl⟩ := lookIn_ns hn
  exact PySem.W.getX I.kIn (ox := ⟨.ref C, some dx, .fields vs, sl⟩) (od := some od) ⟨hx, rfl, rfl, ho⟩ c.ga c.gn c.po (PySem.W.findObj_own c.hd n rfl (by rw [hl, hu])) (handed_of ru) (h u _ (I.tok _) ru)
theorem setX1_ok {Q : Unit → Shared → Prop} (I : Inv X pins σ H s) (e : H a = some (XO a C none)) (c : ClsX X.K C) (n : NoAttr X.K C f) (ry : RelV y u)
    (h : ∀ dx s', H dx = none → dx ≠ a → Inv X pins σ (upd (upd H dx (XD dx [(f, y)])) a (XO a C (some dx))) s' → Q () s') : wpAny (model X.prog X.w) A (setAttr (.ref a) f u) Q E s := by
  obtain ⟨t0, hx⟩ := xo_get I.hok e
  refine PySem.W.setX_new I.kIn hx c.sa c.po n.taker c.hd fun h' h1 h2 h3 => ?_
  have hf := I.hok.fresh (Nat.le_refl s.heap.objs.size)
  have hne : s.heap.objs.size ≠ a := fun z => by rw [z, e] at hf; cases hf
  obtain ⟨od, es, ep, q1, q2, q3⟩ := id h2
  have hfr : od.isFreed = false := (Heap.get?_some_iff.mp q1).2
  have g1 : (s.heap.push od).get? s.heap.objs.size = some od := Heap.get?_push_size s.heap hfr
  have I1 : Inv X pins σ (upd H s.heap.objs.size (XD s.heap.objs.size [(f, y)])) { s with heap := s.heap.push od, toks := s.toks } := by
    refine I.laid (fun b o q => Heap.get?_push_of_some _ q) (Nat.le_refl _) (xd_ok (by simp) (h2.at fun o q => ?_) (fun g => ?_) (fun g hg => ?_))
    · rw [q1] at q; cases q; exact g1
    · show RelO ([(f, y)].lookup g) (if g = f then some u else none)
      by_cases z : g = f
      · have hb : (g == f) = true := beq_iff_eq.mpr z
        simp only [List.lookup, hb, if_pos z]; exact ry
      · have hb : (g == f) = false := beq_eq_false_iff_ne.mpr z
        simp only [List.lookup, hb, if_neg z]; exact True.intro
    · by_cases z : g = f
      · rw [z]; exact .head _
      · exact absurd (if_neg z) hg
  refine h s.heap.objs.size _ hf hne (I1.write (x := a) (e := a) (t' := s.toks + 2) (h' := h') (by rw [upd_ne (Ne.symm hne), e]; exact True.intro) (.inl rfl) (fun b o hb q => ?_) ⟨_, h1⟩ (xo_ok h1))
  by_cases z : b = s.heap.objs.size
  · subst z; rw [g1] at q; cases q; exact q1
  · have hb' : s.heap.get? b = some o := by rw [← q]; exact (Heap.get?_push_ne _ _ _ z).symm
    exact h3 b o hb hb'
theorem setX2_ok {Q : Unit → Shared → Prop} (I : Inv X pins σ H s) (e : IsX H a C (some dx)) (ed : H dx = some (XD dx fs)) (hne : dx ≠ a) (c : ClsX X.K C) (n : NoAttr X.K C f) (hl : fs.length < 1000) (ry : RelV y u)
    (h : ∀ s', Inv X pins σ (upd H dx (XD dx (putF f y fs))) s' → Q () s') : wpAny (model X.prog X.w) A (setAttr (.ref a) f u) Q E s := by
  obtain ⟨vs, sl, hx⟩ := x_get I.hok e
  obtain ⟨_, mA, hn, r, wi⟩ := xd_get I.hok ed
  refine PySem.W.setX_old I.kIn hx hn hne c.sa c.po n.taker c.hd wi (by rw [List.length_map, sizeLine_eq]; omega) fun h' h1 h2 => h _ ?_
  refine I.write (x := dx) (e := dx) (by rw [ed]; exact True.intro) (.inl rfl) h2 (let ⟨o, _, _, q, _⟩ := h1; ⟨o, q⟩) (xd_ok ?_ h1 (fun g => ?_) (fun g hg => ?_))
  · have := length_putF f y fs; omega
  · show RelO ((putF f y fs).lookup g) (if g = f then some u else mA g)
    rw [lookup_putF]
    by_cases q : g = f
    · rw [if_pos q, if_pos q]; exact ry
    · rw [if_neg q, if_neg q]; exact r g
  · by_cases q : g = f
    · rw [q]; exact (keys_putF f y fs).1
    · refine (keys_putF f y fs).2 g (wi g fun z => hg ?_)
      show (if g = f then some u else mA g) = none
      rw [if_neg q]; exact z
end
end L2
namespace PySem.W
open PySem PySem.Spec PySem.Calls PyProof.Rows Builtin Builtin.ObjectAttr Builtin.Getset_descriptor
section
variable {prog : Program} {w : World} {A : Around} {K : Frag} {C x t0 : Addr} {s : Shared} {E : Value → Shared → Prop} {od : Option Addr} {Q : Value → Shared → Prop}
theorem initX {us : List Value} (X : K.In s.heap) (hx : s.heap.get? x = some ⟨.ref C, od, .fields #[.ref t0, .none, .none, .none, .bool false, .none], #[]⟩) (e : excMk K C = true) (hz : us.length ≤ sizeLine)
    (h : ∀ h', h'.get? x = some ⟨.ref C, od, .fields #[.ref s.heap.objs.size, .none, .none, .none, .bool false, .none], #[]⟩ → (∀ b o, b ≠ x → s.heap.get? b = some o → h'.get? b = some o) → Q .none { s with heap := h' }) :
    wpAny (model prog w) A (call (.builtin "ValueError.__init__") (.ref x :: us)) Q E s := by
  obtain ⟨bm, ⟨N, nm, q, bs, hdct, sn, sub, ab, col, dd, k0, k1, k2, k3, k5, hC⟩, T⟩ := excMk_obj X e
  have FB := PySem.F.excBase_ValueError
  obtain ⟨hp, g, d, t, os⟩ := s
  refine wpAny_call (codeAny_call_builtin FB.init.plain FB.initEntry (wpAny_check_init_subT FB T hC hx rfl ?_))
  delta Builtin.«BaseException.__init__»
  dsimp only
  rw [if_neg (by simp)]
  unfold Builtin.BaseException.bexcPut newTuple
  have hx1 := Heap.get?_push_of_some (h := hp) { cls := .type "tuple", data := .seq us.toArray } hx
  refine wpAny_bind (wpAny_newObj_type (wpAny_bind (wpAny_bind (wpAny_field hx1 rfl rfl (wpAny_bind (wpAny_setField hx1 rfl (by show 0 < 6; decide) ?_))))) (by show us.toArray.size ≤ sizeLine; rw [List.size_toArray]; exact hz))
  refine wpAny_letGo (wpAny_pure (h _ ?_ fun b o hb hq => ?_))
  · rw [Heap.get?_update_self _ hx1 rfl]
    rfl
  · exact (Heap.get?_update_ne _ _ _ _ hb).trans (Heap.get?_push_of_some _ hq)
end
end PySem.W
namespace PySem.W
open PySem PySem.Spec PySem.Calls PyProof.Rows Builtin Builtin.ObjectAttr Builtin.Getset_descriptor
section
variable {prog : Program} {w : World} {A : Around} {K : Frag} {C x : Addr} {s : Shared} {E : Value → Shared → Prop} {ox : Obj} {od : Obj}
structure ClsAt (K : Frag) (C : Addr) : Prop where
  hd : hasDictIn K C = true
  po : excOver K C = true
  ga : findIn K (.ref C) "__getattribute__" = some (some (.builtin "BaseException.__getattribute__"))
  gn : findIn K (.ref C) "__getattr__" = some none
  ca : findIn K (.ref C) "__class__" = some (some (.builtin "object.__class__"))
  cn : specialIn K (.builtin "object.__class__") "__get__" = some (some (.builtin "getset_descriptor.__get__"))
  ct : takesIn K (.builtin "object.__class__") = some true
end
end PySem.W
namespace L2
open PySem PyProof.Rows PySem.Spec PySem.Calls
theorem ClsX.at {K : PySem.W.Frag} {C : Addr} (c : ClsX K C) (ca : PySem.W.findIn K (.ref C) "__class__" = some (some (.builtin "object.__class__")))
    (cn : PySem.W.specialIn K (.builtin "object.__class__") "__get__" = some (some (.builtin "getset_descriptor.__get__"))) (ct : PySem.W.takesIn K (.builtin "object.__class__") = some true) : PySem.W.ClsAt K C :=
  ⟨c.hd, c.po, c.ga, c.gn, ca, cn, ct⟩
theorem upd_self {H : Hp} {a : Addr} {o : HO} (e : H a = some o) : upd H a o = H := by
  funext b
  unfold upd
  by_cases q : b = a
  · rw [if_pos q, q, e]
  · rw [if_neg q]
structure MkX (K : PySem.W.Frag) (C f : Addr) : Prop where
  makes : PySem.W.excMk K C = true
  init : PySem.W.findIn K (.ref C) "__init__" = some (some (.ref f))
  fn : PySem.W.isFn K (.ref f) = true
  kp : PySem.W.keepIn K (.ref C) = true
def tMakeX (C : Addr) (sp : Sp) (E : XK) (t : TA) : TE := fun σ H Q => t σ H fun vs H1 => ∀ x, H1 x = none → sp (.ref x :: vs) (upd H1 x (XO x C none)) (fun v H2 => v = .non ∧ Q (.ref x) H2) E
section
variable {X : Cx} {CX : CXT} {k : Nat} {f C : Addr} {fd : FuncData} {ps : List Str} {sp : Sp} {E : XK} {x m : Str} {p pos apos : Pos} {e o : Expr} {es : List Expr} {ta : TE} {t : TA}
theorem Inv.madeX {pins : List (Addr × Obj)} {σ : St} {H : Hp} {s : Shared} {us : List Value} (I : Inv X pins σ H s) :
    Inv X pins σ (upd H (s.heap.objs.size + 1) (XO (s.heap.objs.size + 1) C none)) { s with heap := (s.heap.push (PySem.W.excTup us)).push (PySem.W.excNew C s.heap.objs.size) } := by
  have e2 : ((s.heap.push (PySem.W.excTup us)).push (PySem.W.excNew C s.heap.objs.size)).get? (s.heap.objs.size + 1) = some (PySem.W.excNew C s.heap.objs.size) := by
    have := Heap.get?_push_size (s.heap.push (PySem.W.excTup us)) (o := PySem.W.excNew C s.heap.objs.size) rfl
    rwa [Heap.size_push] at this
  have I1 := I.kept (h' := s.heap.push (PySem.W.excTup us)) (t' := s.toks) (fun b u q => Heap.get?_push_of_some _ q)
  exact I1.laid (a := s.heap.objs.size + 1) (t' := s.toks) (fun b u q => Heap.get?_push_of_some _ q) (Nat.le_of_eq (Heap.size_push _ _)) (xo_ok e2)
theorem run_makeX {pins : List (Addr × Obj)} {σ : St} {H : Hp} {s : Shared} {Q : VK} {us : List Value} {vs : List V} (M : MkX X.K C f) (F : FnOk X.prog X.w X.K X.mg X.base CX k f fd ps sp) (hr : Room (k + 1) X.A) (hb : Binds X.K fd ps [])
    (hx : Passes CX X E) (hz : ps.length ≤ 1000) (I : Inv X pins σ H s) (r : Vals vs us)
    (h : ∀ x, H x = none → sp (.ref x :: vs) (upd H x (XO x C none)) (fun v H2 => v = .non ∧ Q (.ref x) H2) E) :
    wpAny (model X.prog X.w) X.A (call (.ref C) us) (EP X pins σ Q) X.xe s := by
  have hq := h (s.heap.objs.size + 1) (I.hok.fresh (Nat.le_succ _))
  have I2 := Inv.madeX (C := C) (us := us) I
  have r2 : Vals (V.ref (s.heap.objs.size + 1) :: vs) (Value.ref (s.heap.objs.size + 1) :: us) := .cons rfl r
  have hl : (Value.ref (s.heap.objs.size + 1) :: us).length = ps.length := by
    have e := r2.length
    rw [F.len _ _ _ _ hq] at e
    exact e.symm
  have hb2 := hb { s with heap := (s.heap.push (PySem.W.excTup us)).push (PySem.W.excNew C s.heap.objs.size) } (Value.ref (s.heap.objs.size + 1) :: us) I2.kIn (by rw [List.append_nil]; exact hl)
  rw [List.append_nil] at hb2
  refine wpAny_call (PySem.W.make_X (f := f) I.kIn M.makes M.init (beq_iff_eq.mp M.fn) (by rw [List.length_cons] at hl; rw [sizeLine_eq]; omega) (codeAny_mono (F.run _ X.stack _ _ ⟨Value.ref (s.heap.objs.size + 1) :: us, []⟩ (Value.ref (s.heap.objs.size + 1) :: us) _ _ E (hr.make C us [])
    (I2.env0.make C us []) hb2 r2 hq) fun r s' hq' => ?_))
  cases r with
  | error e => exact hx pins σ _ _ e s' I2 hq'
  | ok fl =>
    cases fl with
    | ret u =>
      obtain ⟨v, H', I3, rv, ev, q3⟩ := I2.after hq'
      subst ev
      exact ⟨rv, ⟨V.ref (s.heap.objs.size + 1), H', I3, rfl, q3⟩⟩
    | next => exact False.elim hq'
    | brk => exact False.elim hq'
    | cont => exact False.elim hq'
theorem pe_makeX (M : MkX X.K C f) (F : FnOk X.prog X.w X.K X.mg X.base CX k f fd ps sp) (hr : Room (k + 1) X.A) (hg : Gl X x) (hm : X.mg x = some (.ref C)) (hb : Binds X.K fd ps []) (hx : Passes CX X E) (hz : ps.length ≤ 1000)
    (ha : PA X (e :: es) t) (hdb : (x == ("__debug__" : Str)) = false := by decide) (he : starEach (e :: es) X.env = (false, eval e X.env) :: starEach es X.env := by rfl) (hpl : (backTo pos (starEach es X.env)).any (·.1) = false := by rfl) :
    PE X (.Call (.Name x p) (e :: es) [] pos) (tMakeX C sp E t) := by
  intro pins s σ H Q I h
  refine wpAny_Call_Name_kw (ld_glob I hg hm ?_ hdb)
  refine PySem.W.callWith_K (h₀ := X.base) I.ok.mod.kin M.kp (thn (ha pos pins s σ H _ I h) fun us s1 ⟨vs, H1, I1, r, q⟩ => ⟨I1.kIn, ?_⟩) he hpl
  exact run_makeX M F hr hb hx hz I1 r q
structure InX (K : PySem.W.Frag) (B : Addr) : Prop where
  sp : PySem.W.specialIn K (.ref B) "__getattribute__" = some (some (.builtin "type.__getattribute__"))
  rd : PySem.W.readsIn K B (.type "type") = true
  fc : PySem.W.findCls K (.ref B) (.type "type") "__init__" = some (.val (.builtin "ValueError.__init__"))
def tInX (K : PySem.W.Frag) (t : TA) : TE := fun σ H Q => t σ H fun vs H1 => ∃ a C d xs, vs = .ref a :: xs ∧ xs.length ≤ 1000 ∧ H1 a = some (XO a C d) ∧ PySem.W.excMk K C = true ∧ Q .non H1
theorem pe_initX {B : Addr} {pl : Sem Bool} (J : InX X.K B) (hg : Gl X x) (hm : X.mg x = some (.ref B)) (ha : PA X (e :: es) t) (hdb : (x == ("__debug__" : Str)) = false := by decide)
    (hst : starEach (e :: es) X.env = (false, eval e X.env) :: starEach es X.env := by rfl) (hpl : (backTo pos (starEach es X.env)).any (·.1) = false := by rfl)
    (ht : eval (.Call (.Attribute (.Name x p) "__init__" apos) (e :: es) [] pos) X.env = (do
      let ov ← eval (.Name x p) X.env
      standAt apos.atName
      let (f, first) ← holding [ov] (getMethod ov "__init__" pl)
      callWith pos f first (backTo pos (starEach (e :: es) X.env)) (backToKw pos (keywordEach [] X.env))) := by rfl) :
    PE X (.Call (.Attribute (.Name x p) "__init__" apos) (e :: es) [] pos) (tInX X.K t) := by
  intro pins s σ H Q I h
  refine PySem.W.methodCall_KW (pl := pl) (ld_glob I hg hm ?_ hdb) ht
  refine PySem.W.method_cls I.kIn J.sp (PySem.W.cls_value I.kIn J.rd J.fc rfl ?_)
  have hA := ha pos pins _ σ H _ (I.tok (s.toks + 1)) h
  show wpAny _ _ (callWith pos (.builtin "ValueError.__init__") [] (backTo pos (starEach (e :: es) X.env)) []) _ _ _
  rw [hst] at hA ⊢
  refine Calls.callWith_builtin (by show (false || (backTo pos (starEach es X.env)).any (·.1)) = false; rw [hpl] <;> rfl) (Calls.evalArgs_plain ?_)
  refine thn hA fun us s2 ⟨vs, H2, I2, r2, a, C, d, xs, ev, hl, ea, mk, q⟩ => ?_
  subst ev
  cases r2 with
  | cons ru rr =>
    cases ru
    obtain ⟨t0, hx⟩ := xo_get I2.hok ea
    refine PySem.W.initX I2.kIn hx mk (by rw [← rr.length, sizeLine_eq]; omega) fun h' h1 h2 => ⟨.non, H2, ?_, rfl, q⟩
    have := I2.write (x := a) (e := a) (o := XO a C d) (t' := s2.toks) (h' := h') (by rw [ea]; exact True.intro) (.inl rfl) h2 ⟨_, h1⟩ (xo_ok h1)
    rwa [upd_self ea] at this
end
end L2
namespace L2
open PySem PyProof.Rows PySem.Spec PySem.Calls
def XF (H : Hp) (e C : Addr) (fs : List (Str × V)) : Prop := ∃ dx, H e = some (XO e C (some dx)) ∧ H dx = some (XD dx fs) ∧ dx ≠ e
theorem XF.keep {H H' : Hp} {e C : Addr} {fs : List (Str × V)} (x : XF H e C fs) (k : Same H H') : XF H' e C fs := let ⟨d, a, b, c⟩ := x; ⟨d, k _ _ a, k _ _ b, c⟩
theorem XF.upd {H : Hp} {e C p : Addr} {fs : List (Str × V)} {o : HO} (x : XF H e C fs) (k : ∀ φ, H p ≠ some (.ext φ)) : XF (L2.upd H p o) e C fs := by
  obtain ⟨d, a, b, c⟩ := x
  have h1 : e ≠ p := fun z => k _ (by rw [← z]; exact a)
  have h2 : d ≠ p := fun z => k _ (by rw [← z]; exact b)
  exact ⟨d, by rw [upd_ne h1]; exact a, by rw [upd_ne h2]; exact b, c⟩
def sFldX (K : PySem.W.Frag) (ta tv : TE) (f : Str) : TS := fun D σ H => tv σ H fun y H1 => ta σ H1 fun x H2 =>
  (∃ a C, x = .ref a ∧ H2 a = some (XO a C none) ∧ ClsX K C ∧ NoAttr K C f ∧ ∀ dx, H2 dx = none → dx ≠ a → D.nx σ (upd (upd H2 dx (XD dx [(f, y)])) a (XO a C (some dx)))) ∨
  (∃ a C dx fs, x = .ref a ∧ IsX H2 a C (some dx) ∧ H2 dx = some (XD dx fs) ∧ dx ≠ a ∧ ClsX K C ∧ NoAttr K C f ∧ fs.length < 1000 ∧ D.nx σ (upd H2 dx (XD dx (putF f y fs))))
def tFldX (K : PySem.W.Frag) (ta : TE) (f : Str) : TE := fun σ H Q => ta σ H fun x H1 => ∃ a C fs v, x = .ref a ∧ XF H1 a C fs ∧ ClsX K C ∧ NoAttr K C f ∧ fs.lookup f = some v ∧ Q v H1
structure ClsI (K : PySem.W.Frag) (C : Addr) : Prop where
  c : ClsX K C
  ca : PySem.W.findIn K (.ref C) "__class__" = some (some (.builtin "object.__class__"))
  cn : PySem.W.specialIn K (.builtin "object.__class__") "__get__" = some (some (.builtin "getset_descriptor.__get__"))
  ct : PySem.W.takesIn K (.builtin "object.__class__") = some true
def clV : V → Value
  | .ref a => .ref a
  | .ty n => .type n
  | _ => .none
def rIsX (K : PySem.W.Frag) : List V → Hp → VK → Prop := fun xs H Q => ∃ a C fs c b, xs = [.ref a, c] ∧ XF H a C fs ∧ ClsI K C ∧ (∀ u, RelV c u → u = clV c) ∧ PySem.W.kitOne K (.ref C) (clV c) = some b ∧ Q (.bl b) H
def rUpd : V → List V → Hp → VK → Prop := fun x vs H Q => ∃ d e kvs more, x = .ref d ∧ vs = [.ref e] ∧ H d = some (.dK kvs) ∧ H e = some (.dK more) ∧ d ≠ e ∧ kvs.length + more.length ≤ 1000 ∧ Q .non (upd H d (.dK (mergeK kvs more)))
section
variable {X : Cx} {o e value : Expr} {f : Str} {pos pos' tpos : Pos} {ta tv : TE}
theorem ps_fldX (ha : PE X o ta) (hv : PE X value tv) (hs : swapsWith value (some (.Attribute o f pos')) pos.line X.env = pure false) : PS X (.Assign [.Attribute o f pos'] value pos) (sFldX X.K ta tv f) := by
  intro pins s σ H D I h
  refine plainObj_wpAny_Assign_Attribute (thn (hv pins s σ H _ I h) fun u s1 ⟨y, H1, I1, ry, q⟩ => thn (ha pins s1 σ H1 _ I1 q) fun ov s2 ⟨x, H2, I2, rx, q2⟩ => ?_) hs
  rcases q2 with ⟨a, C, ex, ea, c, n, q3⟩ | ⟨a, C, dx, fs, ex, ea, ed, ne, c, n, l, q3⟩
  · subst ex
    obtain rfl : ov = Value.ref a := rx
    exact setX1_ok I2 ea c n ry fun dx s3 h1 h2 I3 => ⟨σ, _, I3, q3 dx h1 h2⟩
  · subst ex
    obtain rfl : ov = Value.ref a := rx
    exact setX2_ok I2 ea ed ne c n l ry fun s3 I3 => ⟨σ, _, I3, q3⟩
end
end L2
namespace L2
open PySem PyProof.Rows PySem.Spec PySem.Calls
def Deq (K : PySem.W.Frag) (H : Hp) : Nat → V → V → Prop
  | 0, x, y => x = y ∧ flatV x = true
  | n + 1, x, y => (x = y ∧ flatV x = true) ∨ ∃ a b xs ys, x = .ref a ∧ y = .ref b ∧ ((SqL K H a xs ∧ SqL K H b ys) ∨ (SqT K H a xs ∧ SqT K H b ys)) ∧ xs.length = ys.length ∧ ∀ j, j < xs.length → Deq K H n (xs.getD j .non) (ys.getD j .non)
theorem deq_eqAt {X : Cx} {pins : List (Addr × Obj)} {σ : St} {H : Hp} {s : Shared} (I : Inv X pins σ H s) : ∀ (n : Nat) (A : Around) (x y : V) (u v : Value), A.units + n < cLine → Deq X.K H n x y → RelV x u → RelV y v → SeqAt.EqAt A s u v true
  | 0, A, x, y, u, v, _, ⟨e, f⟩, rx, ry => by
    subst e
    have := eqAt_V (A := A) (s := s) rx ry f f
    rwa [eqV_refl f] at this
  | n + 1, A, x, y, u, v, hu, h, rx, ry => by
    rcases h with ⟨e, f⟩ | ⟨a, b, xs, ys, rfl, rfl, hs, hl, he⟩
    · subst e
      have := eqAt_V (A := A) (s := s) rx ry f f
      rwa [eqV_refl f] at this
    · cases rx
      cases ry
      by_cases hab : a = b
      · subst hab; exact SeqAt.EqAt.same _
      have hu1 : A.in1.units + n < cLine := by
        have : A.in1.units = A.units + 1 := by first | rfl | exact Around.units_in1 A
        omega
      refine SeqAt.EqAt.of_refs hab ?_
      rcases hs with ⟨h1, h2⟩ | ⟨h1, h2⟩
      · obtain ⟨its, r1, l1, _⟩ := I.list h1
        obtain ⟨jts, r2, l2, _⟩ := I.list h2
        have e1 := r1.length
        have e2 := r2.length
        have := SeqAt.RcAt.lists (A := A) (e := fun _ => true) l1.isList l2.isList (by simp; omega) (by omega) (fun j q1 q2 => deq_eqAt I n A.in1 _ _ _ _ hu1 (he j (by simp at q1; omega)) (vals_at r1 j q1) (vals_at r2 j q2))
        rwa [show (List.range its.toArray.size).all (fun _ => true) = true from List.all_eq_true.mpr fun _ _ => rfl] at this
      · obtain ⟨its, r1, l1, _⟩ := I.tuple h1
        obtain ⟨jts, r2, l2, _⟩ := I.tuple h2
        have e1 := r1.length
        have e2 := r2.length
        have := SeqAt.RcAt.tuples (A := A) (e := fun _ => true) l1 l2 (by omega) (fun j q1 q2 => deq_eqAt I n A.in1 _ _ _ _ hu1 (he j (by simp at q1; omega)) (vals_at r1 j q1) (vals_at r2 j q2))
        rw [show (List.range (min its.toArray.size jts.toArray.size)).all (fun _ => true) = true from List.all_eq_true.mpr fun _ _ => rfl, Bool.true_and, beq_iff_eq.mpr (by simp; omega)] at this
        exact this
def rEqD (K : PySem.W.Frag) (n : Nat) : R2 := fun x y H Q => ∃ a b xs ys, x = .ref a ∧ y = .ref b ∧ SqL K H a xs ∧ SqL K H b ys ∧ xs.length = ys.length ∧ (∀ j, j < xs.length → Deq K H n (xs.getD j .non) (ys.getD j .non)) ∧ Q (.bl true) H
structure MkXD (P : Program) (w : World) (K : PySem.W.Frag) (mg : Str → Option Value) (base : Heap) (k : Nat) (x : Str) (C : Addr) (ps : List Str) (sp : Sp) : Prop where
  ex : ∃ f fd, MkX K C f ∧ FnOk P w K mg base CX0 k f fd ps sp ∧ Binds K fd ps [] ∧ mg x = some (.ref C)
  few : ps.length ≤ 1000
theorem pe_makeXD {X : Cx} {k : Nat} {x : Str} {C : Addr} {ps : List Str} {sp : Sp} {e : Expr} {es : List Expr} {t : TA} {p pos : Pos} (D : MkXD X.prog X.w X.K X.mg X.base k x C ps sp) (hr : Room (k + 1) X.A) (hg : Gl X x) (ha : PA X (e :: es) t) (hdb : (x == ("__debug__" : Str)) = false := by decide)
    (he : starEach (e :: es) X.env = (false, eval e X.env) :: starEach es X.env := by rfl) (hpl : (backTo pos (starEach es X.env)).any (·.1) = false := by rfl) : PE X (.Call (.Name x p) (e :: es) [] pos) (tMakeX C sp E0 t) := by
  obtain ⟨f, fd, M, F, b, m⟩ := D.ex
  exact pe_makeX M F hr hg m b pass0 D.few ha hdb he hpl
def xcls (K : PySem.W.Frag) (C : Addr) (fs : List Str) : Bool :=
  PySem.W.hasDictIn K C && PySem.W.excOver K C && PySem.W.findIn K (.ref C) "__setattr__" == some (some (.builtin "object.__setattr__")) && PySem.W.findIn K (.ref C) "__getattribute__" == some (some (.builtin "BaseException.__getattribute__")) &&
  PySem.W.findIn K (.ref C) "__getattr__" == some none && PySem.W.findIn K (.ref C) "__class__" == some (some (.builtin "object.__class__")) && fs.all fun f => PySem.W.findIn K (.ref C) f == some none
structure XCl (K : PySem.W.Frag) (C : Addr) (fs : List Str) : Prop where
  i : ClsI K C
  n : ∀ f ∈ fs, NoAttr K C f
  m : PySem.W.excMk K C = true
theorem XCl.of {K : PySem.W.Frag} {C : Addr} {fs : List Str} (h : xcls K C fs = true) (m : PySem.W.excMk K C = true) (cn : PySem.W.specialIn K (.builtin "object.__class__") "__get__" = some (some (.builtin "getset_descriptor.__get__"))) (ct : PySem.W.takesIn K (.builtin "object.__class__") = some true) : XCl K C fs := by
  unfold xcls at h
  simp only [Bool.and_eq_true, beq_iff_eq, List.all_eq_true] at h
  obtain ⟨⟨⟨⟨⟨⟨h1, h2⟩, h3⟩, h4⟩, h5⟩, h6⟩, h7⟩ := h
  exact ⟨⟨⟨h1, h2, h3, h4, h5⟩, h6, cn, ct⟩, fun f hf => h7 f hf, m⟩
end L2
namespace L2
open PySem PyProof.Rows PySem.Spec PySem.Calls
def kitTab (K : PySem.W.Frag) (cs : List Addr) (b : Addr) : Bool :=
  (List.range cs.length).all fun i => PySem.W.kitOne K (.ref (cs.getD i 0)) (.ref b) == some true && PySem.W.kitOne K (.ref (cs.getD i 0)) (.type "ValueError") == some true && (List.range cs.length).all fun j => PySem.W.kitOne K (.ref (cs.getD i 0)) (.ref (cs.getD j 0)) == some (i == j)
theorem valV_at {kvs : List (Key × V)} {ks : List Key} {j : Nat} {k : Key} {v : V} (e : kvs.map (·.1) = ks) (n : ks.Nodup) (h : kvs[j]? = some (k, v)) : valV kvs k = some v := by
  subst e
  unfold valV
  induction kvs generalizing j with
  | nil => cases h
  | cons p r ih =>
    rw [List.map_cons, List.nodup_cons] at n
    cases j with
    | zero =>
      cases Option.some.inj h
      rw [List.find?_cons_of_pos (by simp)]
      rfl
    | succ j =>
      have h' : r[j]? = some (k, v) := h
      have ne : p.1 ≠ k := fun z => n.1 (List.mem_map.mpr ⟨(k, v), List.mem_of_getElem? h', z.symm⟩)
      rw [List.find?_cons_of_neg (by simpa using ne)]
      exact ih h' n.2
theorem DGet.look {H : Hp} {a : Addr} {kvs : List (Key × V)} {ks : List Key} {j : Nat} {k : Key} {v : V} (eH : H a = some (.dK kvs)) (e : kvs.map (·.1) = ks) (n : ks.Nodup) (h : kvs[j]? = some (k, v)) : DGet H a (kV k) (some v) := by
  rw [← valV_at e n h]
  exact DGet.k eH
def spC (m : Nat) : Sp := fun vs H Q _ =>
  (1 ≤ m ∧ ∃ z : Str, vs = [.str z] ∧ Q (.str z) H) ∨
  (2 ≤ m ∧ ∃ (a : Addr) (zs : List Str), vs = [.ref a] ∧ H a = some (.lst (zs.map V.str)) ∧ zs.length ≤ 100 ∧ ∀ p H', Same H H' → H p = none → H' p = some (.lst (zs.map V.str)) → Q (.ref p) H') ∨
  (3 ≤ m ∧ ∃ (a l : Addr) (z : Str) (zs : List Str), vs = [.ref a] ∧ H a = some (.tup [.str z, .ref l]) ∧ H l = some (.lst (zs.map V.str)) ∧ zs.length ≤ 100 ∧
    ∀ p q H', Same H H' → H p = none → H q = none → H' p = some (.tup [.str z, .ref q]) → H' q = some (.lst (zs.map V.str)) → Q (.ref p) H') ∨
  (4 ≤ m ∧ ∃ (a b l : Addr) (z : Str) (zs : List Str), vs = [.ref a] ∧ H a = some (.lst [.ref b]) ∧ H b = some (.tup [.str z, .ref l]) ∧ H l = some (.lst (zs.map V.str)) ∧ zs.length ≤ 100 ∧
    ∀ r p q H', Same H H' → H r = none → H' r = some (.lst [.ref p]) → H' p = some (.tup [.str z, .ref q]) → H' q = some (.lst (zs.map V.str)) → Q (.ref r) H')
theorem Fun.never {P : Program} {w : World} {K : PySem.W.Frag} {mg : Str → Option Value} {base : Heap} {x qual : Str} {st : Stmt} {f : Addr} {fd : FuncData} (_F : Fun K x qual st f fd) : FnOk P w K mg base CX0 0 f fd ["value"] (spC 0) := by
  have no : ∀ vs H Q E, spC 0 vs H Q E → False := fun vs H Q E h => by
    rcases h with h | h | h | h <;> exact absurd h.1 (by decide)
  exact ⟨fun vs H Q E q => (no _ _ _ _ q).elim, fun A outer s H args us vs Q E _ _ _ _ hs => (no _ _ _ _ hs).elim⟩
end L2
namespace PySem.W
open PySem
structure Noted (e : Addr) (cl : Value) (d : Option Addr) (fr : List Addr) (off : Addr → Prop) (h h' : Heap) : Prop where
  exc : ∃ vs sl T oT ts, h'.get? e = some ⟨cl, d, .fields vs, sl⟩ ∧ vs[1]? = some (.ref T) ∧ T ≠ e ∧ h.objs.size ≤ T ∧ h'.get? T = some oT ∧ oT.data = .fields ts ∧ ts[3]? = some .none
  keep : ∀ b o, b ≠ e → ¬ off b → b ∉ fr → h.get? b = some o → h'.get? b = some o
  slot : ∀ b o, b ≠ e → ¬ off b → h.get? b = some o → ∃ sl, h'.get? b = some { o with slots := sl }
  ctx : ∀ o o' vs vs', h.get? e = some o → h'.get? e = some o' → o.data = .fields vs → o'.data = .fields vs' → vs'[2]? = vs[2]?
abbrev tbObj (ws : Array Value) : Obj := { cls := .type "traceback", dict := none, data := .fields ws }
section
variable {M : Model} {E : Value → Shared → Prop} {A : Around} {s : Shared}
theorem note_core {bh : Heap} {env : Env} {outer : List Env} {L e : Addr} {cl head : Value} {d : Option Addr} {vs : Array Value} {sl : Array (Option Value)} {hadNext : Bool} {Q : Unit → Shared → Prop}
    (hA : A.frames = some (env :: outer)) (hl : s.heap.FunFrames bh (env :: outer)) (hf : env.frame = some L) (he : s.heap.get? e = some ⟨cl, d, .fields vs, sl⟩) (hz : 1 < vs.size)
    (k : ∀ h', Noted e cl d ((env :: outer).filterMap (·.frame)) (fun _ => False) s.heap h' → Q () { s with heap := h' }) :
    wpAny M A (do let fo ← frameOf env; let pl ← entryPlaceOf L hadNext; let tb ← EntryCells.newEntry head fo .none (rawInt L) .none pl; setField (.ref e) 1 tb) (fun _ s1 => wpAny M A (setFlight (.ref e) none) Q E s1) E s := by
  have eno : e ∉ (env :: outer).filterMap (·.frame) := fun z => by
    obtain ⟨_, ob, q1, q2⟩ := hl.mem z
    rw [he] at q1
    cases q1
    exact q2 vs rfl
  refine wpAny_bind (wpAny_frameOf_fun hA hl hf fun g so => ?_)
  refine wpAny_bind (wpAny_entryPlaceOf fun pla hpl => ?_)
  unfold EntryCells.newEntry; unfold newFields
  refine (wpAny_bind (wpAny_newObj_type ?_ (hpl.sizeOk5 _ _ _ _ _)))
  generalize hws : ([head, .ref L, .none, rawInt L, .none] ++ (if pla.isEmpty then List.replicate 6 Value.none else pla)).toArray = ws
  have wz : 3 < ws.size := by
    rw [← hws]
    simp only [List.size_toArray, List.length_append, List.length_cons, List.length_nil]
    omega
  have e1 : g.get? e = some ⟨cl, d, .fields vs, sl⟩ := (so.2.1 e eno).trans he
  have nT : g.objs.size ≠ e := Nat.ne_of_gt (Heap.lt_size e1)
  have e2 : (g.push (tbObj ws)).get? e = _ := Heap.get?_push_of_some (h := g) (tbObj ws) e1
  refine wpAny_setField e2 rfl hz ?_
  generalize hu : (g.push (tbObj ws)).update e (Obj.mapFields (·.setIfInBounds 1 (Value.ref g.objs.size))) = g2
  have e3 : g2.get? e = some ⟨cl, d, .fields (vs.setIfInBounds 1 (.ref g.objs.size)), sl⟩ := by
    rw [← hu]
    exact Heap.get?_update_self _ e2 rfl
  have t3 : g2.get? g.objs.size = some (tbObj ws) := by
    rw [← hu, Heap.get?_update_other _ _ (Ne.symm nT)]
    exact Heap.get?_push_size g rfl
  have o3 : ∀ b ob, b ≠ e → g.get? b = some ob → g2.get? b = some ob := fun b ob hb q => by
    rw [← hu, Heap.get?_update_other _ _ (Ne.symm hb)]
    exact Heap.get?_push_of_some _ q
  unfold setFlight
  refine wpAny_bind (wpAny_field e3 rfl (x := .ref g.objs.size) (by simp [hz]) ?_)
  rw [if_pos (by simp)]
  refine wpAny_setField t3 rfl wz (k _ ⟨?_, fun b ob hb _ hx q => ?_, fun b ob hb _ q => ?_, fun o o' ws' vs' q1 q2 q3 q4 => ?_⟩)
  · refine ⟨vs.setIfInBounds 1 (.ref g.objs.size), sl, g.objs.size, _, _, ?_, by simp [hz], nT, ?_, Heap.get?_update_self _ t3 rfl, rfl, by simp [wz]⟩
    · rw [Heap.get?_update_other _ _ nT]
      exact e3
    · exact Nat.le_of_eq so.1.symm
  · have q1 : g.get? b = some ob := (so.2.1 b hx).trans q
    rw [Heap.get?_update_other _ _ (Nat.ne_of_gt (Heap.lt_size q1))]
    exact o3 b ob hb q1
  · obtain ⟨s1, q1⟩ := so.2.2 b ob q
    refine ⟨s1, ?_⟩
    rw [Heap.get?_update_other _ _ (Nat.ne_of_gt (Heap.lt_size q1))]
    exact o3 b _ hb q1
  · rw [Heap.get?_update_other _ _ nT, e3] at q2
    rw [he] at q1
    cases q1
    cases q2
    cases q3
    cases q4
    simp
def HeadAt (h : Heap) (e T : Addr) : Prop := T ≠ e ∧ ∃ oT ts, h.get? T = some oT ∧ oT.data = .fields ts ∧ ts[3]? = some .none
theorem note_fly {bh : Heap} {env : Env} {outer : List Env} {L e : Addr} {cl : Value} {d : Option Addr} {vs : Array Value} {sl : Array (Option Value)} {off : Addr → Prop} {Q : Unit → Shared → Prop}
    (hA : A.frames = some (env :: outer)) (hl : s.heap.FunFrames bh (env :: outer)) (hf : env.frame = some L) (he : s.heap.get? e = some ⟨cl, d, .fields vs, sl⟩)
    (hv : vs[1]? = some .none ∨ ∃ T, vs[1]? = some (.ref T) ∧ HeadAt s.heap e T ∧ off T)
    (k : ∀ h', Noted e cl d ((env :: outer).filterMap (·.frame)) off s.heap h' → Q () { s with heap := h' }) :
    wpAny M A (noteFrame (.ref e) env) (fun _ s1 => wpAny M A (setFlight (.ref e) none) Q E s1) E s := by
  unfold noteFrame
  simp only [hf]
  rcases hv with hv | ⟨T, hv, ⟨nT, oT, ts, hT, dT, h3⟩, ho⟩
  · refine wpAny_bind (wpAny_field he rfl hv ?_)
    rw [if_neg (by decide)]
    exact note_core hA hl hf he (Array.getElem?_eq_some_iff.mp hv).1 fun h' n => k h' ⟨n.exc, fun b o h1 _ => n.keep b o h1 (fun z => z), fun b o h1 _ => n.slot b o h1 (fun z => z), n.ctx⟩
  · refine wpAny_bind (wpAny_field he rfl hv ?_)
    rw [if_pos (by simp)]
    refine wpAny_bind (wpAny_field hT dT h3 ?_)
    rw [if_neg (by simp [rawInt])]
    refine wpAny_bind (wpAny_setField hT dT (Array.getElem?_eq_some_iff.mp h3).1 ?_)
    generalize hu : s.heap.update T (Obj.mapFields (·.setIfInBounds 3 Value.none)) = g
    have oth : ∀ b, b ≠ T → g.get? b = s.heap.get? b := fun b hb => by rw [← hu]; exact Heap.get?_update_other _ _ (Ne.symm hb)
    have hz : g.objs.size = s.heap.objs.size := by rw [← hu]; exact Heap.size_after_update ..
    refine note_core (s := { s with heap := g }) hA (hl.of_keeps fun b o q nf => ⟨o, (oth b fun z => ?_).trans q, rfl⟩) hf ((oth e (Ne.symm nT)).trans he) (Array.getElem?_eq_some_iff.mp hv).1 fun h' n => k h' ⟨?_, fun b o h1 h2 h3 q => ?_, fun b o h1 h2 q => ?_, fun o o' ws vs' q1 => n.ctx o o' ws vs' ((oth e (Ne.symm nT)).trans q1)⟩
    · rw [z, hT] at q
      cases q
      exact nf ts dT
    · obtain ⟨vs', sl', T', o', ts', x1, x2, x3, x4, x5⟩ := n.exc
      exact ⟨vs', sl', T', o', ts', x1, x2, x3, by rw [← hz]; exact x4, x5⟩
    · exact n.keep b o h1 (fun z => z) h3 ((oth b fun z => h2 (z ▸ ho)).trans q)
    · exact n.slot b o h1 (fun z => z) ((oth b fun z => h2 (z ▸ ho)).trans q)
end
end PySem.W
namespace L2
open PySem PyProof.Rows PySem.Spec PySem.Calls
def TrX (n : Nat) (H : Hp) (ea : Addr) (h : Heap) : Prop := ∃ cl d vs sl T, h.get? ea = some ⟨cl, d, .fields vs, sl⟩ ∧ vs[1]? = some (.ref T) ∧ PySem.W.HeadAt h ea T ∧ n ≤ T ∧ H T = none
def CXe (P : Program) (w : World) : CXT := fun outer H s E e s' => ∃ ea C d H', e = .ref ea ∧ s'.os = s.os ∧ AllBare s'.gens ∧ Un (frs outer) [] H H' s.heap s'.heap ∧ HOk P w H' s'.heap ∧ H' ea = some (XC ea C d) ∧
  TrX s.heap.objs.size H' ea s'.heap ∧ E (.ref C) (some ea) H'
def TrI (X : Cx) (pins : List (Addr × Obj)) (H : Hp) (ea : Addr) (h : Heap) : Prop := ∃ cl d vs sl T, h.get? ea = some ⟨cl, d, .fields vs, sl⟩ ∧ vs[1]? = some (.ref T) ∧ PySem.W.HeadAt h ea T ∧ X.s₀.heap.objs.size ≤ T ∧ H T = none ∧
  T ≠ X.env.locals ∧ (∀ x c, X.env.cells.lookup x = some c → c ≠ T) ∧ ∀ p ∈ X.pn ++ pins, p.1 ≠ T
structure Top (X : Cx) : Prop where
  ex : X.ex = []
  stk : X.stack = X.env :: X.outer
  fr : X.env.frame = some X.env.locals
def PassesS (X : Cx) (G : St → XK) : Prop := ∀ (pins : List (Addr × Obj)) (σ : St) (H : Hp) (s : Shared) (e : Value) (s' : Shared), Inv X pins σ H s → CXe X.prog X.w X.stack H s (G σ) e s' → X.xe e s'
def RaisesS (X : Cx) (G : St → XK) : Prop := ∀ (pins : List (Addr × Obj)) (σ : St) (H : Hp) (s : Shared) (ea C : Addr) (d : Option Addr), Inv X pins σ H s → H ea = some (XO ea C d) → G σ (.ref C) (some ea) (upd H ea (XC ea C d)) → X.xe (.ref ea) s
abbrev G0 : St → XK := fun _ _ _ _ => False
theorem passE0 {X : Cx} : PassesS X G0 := fun _ _ _ _ _ _ _ ⟨_, _, _, _, _, _, _, _, _, _, _, z⟩ => z.elim
section
variable {X : Cx} {pins : List (Addr × Obj)} {σ : St} {H H' : Hp} {s s' : Shared} {ea C : Addr} {d : Option Addr} {h' : Heap}
theorem Inv.flew {E : XK} {e : Value} (I : Inv X pins σ H s) (c : CXe X.prog X.w X.stack H s E e s') : ∃ ea C d H', e = .ref ea ∧ Inv X pins σ H' s' ∧ H' ea = some (XC ea C d) ∧ TrI X pins H' ea s'.heap ∧ E (.ref C) (some ea) H' := by
  obtain ⟨ea, C, d, H', rfl, ho, hb, un, ok, hx, ⟨cl, d', vs, sl, T, g1, g2, g3, g4, g5⟩, q⟩ := c
  refine ⟨ea, C, d, H', rfl, I.call' ho un ok hb (fun b z => absurd z (by simp)), hx, ⟨cl, d', vs, sl, T, g1, g2, g3, Nat.le_trans I.sz g4, g5, fun z => ?_, fun x c hc z => ?_, fun p hp z => ?_⟩, q⟩
  · have lt := I.lt
    rw [← z] at lt
    exact absurd (Nat.lt_of_lt_of_le lt g4) (Nat.lt_irrefl _)
  · obtain ⟨v, o, q1, _⟩ := I.cell x c hc
    have lt := Heap.lt_size q1
    rw [z] at lt
    exact absurd (Nat.lt_of_lt_of_le lt g4) (Nat.lt_irrefl _)
  · have lt := Heap.lt_size (I.pin p hp).1
    rw [z] at lt
    exact absurd (Nat.lt_of_lt_of_le lt g4) (Nat.lt_irrefl _)
theorem Inv.noted {off : Addr → Prop} (t : Top X) (I : Inv X pins σ H s) (hx : H ea = some (XC ea C d))
    (ht : ∀ T, off T → X.s₀.heap.objs.size ≤ T ∧ H T = none ∧ T ≠ X.env.locals ∧ (∀ x c, X.env.cells.lookup x = some c → c ≠ T) ∧ ∀ p ∈ X.pn ++ pins, p.1 ≠ T) (h1 : ∀ T U, off T → off U → T = U)
    (n : PySem.W.Noted ea (.ref C) d (X.env :: X.outer |>.filterMap (·.frame)) off s.heap h') : Inv X pins σ H { s with heap := h' } ∧ TrI X pins H ea h' := by
  have fr : ∀ b, b ∈ (X.env :: X.outer).filterMap (·.frame) ↔ b = X.env.locals ∨ b ∈ X.fs := fun b => by
    rw [List.filterMap_cons, t.fr]
    exact List.mem_cons
  have frn : ∀ b, b ∈ (X.env :: X.outer).filterMap (·.frame) → H b = none := fun b hb => I.stkFree b (by rw [t.stk]; exact hb)
  obtain ⟨vs, sl, T, oT, ts, x1, x2, x3, x4, x5, x6, x7⟩ := n.exc
  have nea : ∀ b, H b = none → b ≠ ea := fun b hb z => by rw [z, hx] at hb; cases hb
  obtain ⟨ch, hch⟩ : ∃ ch : List Addr, (∀ b ∈ ch, off b) ∧ ∀ b, off b → b ∈ ch := by
    by_cases z : ∃ T, off T
    · obtain ⟨T, hT⟩ := z
      exact ⟨[T], fun b hb => by rw [List.mem_singleton.mp hb]; exact hT, fun b hb => by rw [h1 b T hb hT]; exact List.mem_singleton.mpr rfl⟩
    · exact ⟨[], fun b hb => absurd hb (by simp), fun b hb => absurd ⟨b, hb⟩ z⟩
  have I' : Inv X pins σ H { s with heap := h', gens := s.gens, drawn := s.drawn, toks := s.toks } := by
    refine I.step (ch := ch) (fun b hb => ?_) (fun b o h1 h2 h3 q hn => ?_) (fun b o h1 h2 h3 q hn => ?_) (fun _ _ _ _ q => q) (fun b o h3 q => ?_) (fun _ _ q => q) (fun _ _ _ q => q) (fun b ps q => ⟨#[], by rw [q]; simp⟩) (fun m hm => ?_) (fun b u hb => ?_) I.bare
    · obtain ⟨a1, _, a3, a4, a5⟩ := ht b (hch.1 b hb)
      exact ⟨.inr a1, a3, a4, a5⟩
    · exact n.keep b o (nea b hn) (fun z => h3 (hch.2 b z)) (fun z => ((fr b).mp z).elim h1 h2) q
    · exact n.slot b o (nea b hn) (fun z => h3 (hch.2 b z)) q
    · by_cases z : b = ea
      · rw [z]; exact ⟨_, x1⟩
      · obtain ⟨l, q1⟩ := n.slot b o z (fun z => h3 (hch.2 b z)) q
        exact ⟨_, q1⟩
    · obtain ⟨o, es, ep, ho, r⟩ := hm
      obtain ⟨l, q1⟩ := n.slot _ o (nea _ I.free) (fun z => (ht _ z).2.2.1 rfl) ho
      exact ⟨_, es, ep, q1, r⟩
    · by_cases z : b = ea
      · subst z
        rw [hx] at hb
        cases hb
        obtain ⟨vs0, sl0, g0, c0⟩ := x_getC I.hok (.inr hx)
        exact xc_ok x1 ((n.ctx _ _ _ _ g0 x1 rfl rfl).trans c0)
      · refine (I.hok b u hb).stay (fun c v hc q => n.keep c v ?_ (fun z => ?_) (fun z => ?_) q) (fun _ q => q) fun _ _ q => q
        · rcases hc with rfl | hc
          · exact z
          · intro z
            rw [z, hx] at hc
            cases hc
        · have hn := (ht c z).2.1
          rcases hc with rfl | hc
          · rw [hb] at hn; cases hn
          · rw [hc] at hn; cases hn
        · have hn := frn c z
          rcases hc with rfl | hc
          · rw [hb] at hn; cases hn
          · rw [hc] at hn; cases hn
  have lt := I.lt
  refine ⟨I', .ref C, d, vs, sl, T, x1, x2, ⟨x3, oT, ts, x5, x6, x7⟩, Nat.le_trans I.sz x4, I.hok.fresh x4, fun z => ?_, fun x c hc z => ?_, fun p hp z => ?_⟩
  · rw [← z] at lt
    exact absurd (Nat.lt_of_lt_of_le lt x4) (Nat.lt_irrefl _)
  · obtain ⟨v, o, q1, _⟩ := I.cell x c hc
    have lt := Heap.lt_size q1
    rw [z] at lt
    exact absurd (Nat.lt_of_lt_of_le lt x4) (Nat.lt_irrefl _)
  · have lt := Heap.lt_size (I.pin p hp).1
    rw [z] at lt
    exact absurd (Nat.lt_of_lt_of_le lt x4) (Nat.lt_irrefl _)
theorem note_flew {Q : Unit → Shared → Prop} {E : Value → Shared → Prop} (t : Top X) (I : Inv X pins σ H s) (hx : H ea = some (XC ea C d)) (tr : TrI X pins H ea s.heap)
    (k : ∀ s', Inv X pins σ H s' → TrI X pins H ea s'.heap → Q () s') :
    wpAny (model X.prog X.w) X.A (noteFrame (.ref ea) X.env) (fun _ s1 => wpAny (model X.prog X.w) X.A (setFlight (.ref ea) none) Q E s1) E s := by
  obtain ⟨cl, d', vs, sl, T, g1, g2, g3, g4⟩ := tr
  obtain ⟨vs', sl', q⟩ := x_get I.hok (.inr hx)
  rw [g1] at q
  cases q
  refine PySem.W.note_fly (bh := X.base) (off := fun b => b = T) (outer := X.outer) (by rw [← t.stk]; exact I.ok.frames) (by rw [← t.stk]; exact I.stack) t.fr g1 (.inr ⟨T, g2, g3, rfl⟩) fun h' n => ?_
  obtain ⟨a, b⟩ := I.noted (off := fun b => b = T) t hx (fun U z => (show U = T from z) ▸ g4) (fun _ _ p q => p.trans q.symm) n
  exact k _ a b
theorem note_made {Q : Unit → Shared → Prop} {E : Value → Shared → Prop} (t : Top X) (I : Inv X pins σ H s) (hx : H ea = some (XO ea C d))
    (k : ∀ s', Inv X pins σ (upd H ea (XC ea C d)) s' → TrI X pins (upd H ea (XC ea C d)) ea s'.heap → Q () s') :
    wpAny (model X.prog X.w) X.A (noteFrame (.ref ea) X.env) (fun _ s1 => wpAny (model X.prog X.w) X.A (setFlight (.ref ea) none) Q E s1) E s := by
  obtain ⟨t0, g1⟩ := xo_get I.hok hx
  have I1 : Inv X pins σ (upd H ea (XC ea C d)) { s with heap := s.heap, toks := s.toks } := I.write (x := ea) (e := ea) (by rw [hx]; exact True.intro) (.inl rfl) (fun _ _ _ q => q) ⟨_, g1⟩ (xc_ok g1 rfl)
  refine PySem.W.note_fly (bh := X.base) (off := fun _ => False) (outer := X.outer) (by rw [← t.stk]; exact I.ok.frames) (by rw [← t.stk]; exact I.stack) t.fr g1 (.inl rfl) fun h' n => ?_
  obtain ⟨a, b⟩ := I1.noted t upd_same (fun _ z => z.elim) (fun _ _ z => z.elim) n
  exact k _ a b
theorem TrI.tr (t : TrI X pins H ea h') : TrX X.s₀.heap.objs.size H ea h' := let ⟨cl, d, vs, sl, T, a, b, c, e, f, _⟩ := t; ⟨cl, d, vs, sl, T, a, b, c, e, f⟩
end
section
variable {P : Program} {w : World} {K : PySem.W.Frag} {mg : Str → Option Value} {base : Heap} {N ps : List Str} {qual x : Str} {scope : Scope} {f : Addr} {cd : Value} {A : Around} {outer : List Env} {s : Shared} {H : Hp} {E : XK} {k : Nat}
abbrev cxE (P : Program) (w : World) (K : PySem.W.Frag) (mg : Str → Option Value) (base : Heap) (N : List Str) (qual : Str) (scope : Scope) (f : Addr) (cd : Value) (A : Around) (outer : List Env) (s : Shared) (H : Hp) (E : XK) : Cx :=
  cxOf (CXe P w) P w K mg base N qual scope f cd A outer s H E
theorem top_def : Top (cxE P w K mg base N qual scope f cd A outer s H E) := ⟨rfl, rfl, rfl⟩
theorem own_def : PassesOwn (model P w) (cxE P w K mg base N qual scope f cd A outer s H E).A (cxE P w K mg base N qual scope f cd A outer s H E).env (cxE P w K mg base N qual scope f cd A outer s H E).xe := PassesOwn.leaving
theorem pass_def : PassesS (cxE P w K mg base N qual scope f cd A outer s H E) (fun _ => E) := by
  intro pins σ H1 s1 e s2 I c
  obtain ⟨ea, C, d, H2, rfl, I2, hx, tr, q⟩ := I.flew c
  show wpAny _ _ (leaving _ _) _ _ _
  unfold leaving
  refine wpAny_bind (note_flew top_def I2 hx tr fun s3 I3 t3 => ?_)
  exact ⟨ea, C, d, H2, rfl, I3.os, I3.bare, I3.base, I3.hok, hx, t3.tr, q⟩
theorem raise_def : RaisesS (cxE P w K mg base N qual scope f cd A outer s H E) (fun _ => E) := by
  intro pins σ H1 s1 ea C d I hx q
  show wpAny _ _ (leaving _ _) _ _ _
  unfold leaving
  refine wpAny_bind (note_made top_def I hx fun s3 I3 t3 => ?_)
  exact ⟨ea, C, d, _, rfl, I3.os, I3.bare, I3.base, I3.hok, upd_same, t3.tr, q⟩
theorem Fun.okE {st : Stmt} {fd : FuncData} {sp : Sp} (F : Fun K x qual st f fd) (S : FnScope N ps (defScope st)) (len : ∀ vs H Q E, sp vs H Q E → vs.length = ps.length)
    (hbody : ∀ (cdv : Value) (A : Around) (outer : List Env) (s : Shared) (H : Hp) (vs : List V) (Q : VK) (E : XK), Room k (A.deeper (envOfC qual (defScope st) s.heap.objs.size f cdv)) → sp vs H Q E →
      ∃ t, PSs (cxE P w K mg base N qual (defScope st) f cdv A outer s H E) (defBody st) t ∧ t { nx := fun _ H' => Q .non H', rt := Q } (start N vs) H) : FnOk P w K mg base (CXe P w) (k + 1) f fd ps sp := by
  obtain ⟨oc, od, kV, doc, pm, an, cdv, ct, osl, rfl, lk, hcd⟩ := F.ex
  exact fn_of lk hcd S len fun A outer s H vs Q E hr hsp => hbody cdv A outer s H vs Q E hr hsp
theorem FnOk.lift {CX : CXT} {fd : FuncData} {sp : Sp} (F : FnOk P w K mg base CX0 k f fd ps sp) : FnOk P w K mg base CX k f fd ps sp :=
  ⟨F.len, fun A outer s H args us vs Q E hr e0 hb r h => codeAny_mono (F.run A outer s H args us vs Q E hr e0 hb r h) fun r s' q => match r, q with
    | .ok (.ret _), q => q
    | .ok .next, q => q
    | .ok .brk, q => q
    | .ok .cont, q => q
    | .error _, q => False.elim q⟩
structure DfE (P : Program) (w : World) (K : PySem.W.Frag) (mg : Str → Option Value) (base : Heap) (k : Nat) (x : Str) (ps : List Str) (sp : Sp) : Prop where
  ex : ∃ f fd, FnOk P w K mg base (CXe P w) k f fd ps sp ∧ Binds K fd ps [] ∧ PySem.W.keepIn K (.ref f) = true ∧ mg x = some (.ref f)
structure MtE (P : Program) (w : World) (K : PySem.W.Frag) (mg : Str → Option Value) (base : Heap) (k : Nat) (m : Str) (C : Addr) (ps : List Str) (sp : Sp) : Prop where
  ex : ∃ f fd, Meth K C m f ∧ FnOk P w K mg base (CXe P w) k f fd ps sp ∧ Binds K fd ps []
theorem MtD.e {m : Str} {C : Addr} {sp : Sp} (D : MtD P w K mg base k m C ps sp) : MtE P w K mg base k m C ps sp := let ⟨f, fd, a, b, c⟩ := D.ex; ⟨f, fd, a, b.lift, c⟩
theorem Dfn.e {sp : Sp} (D : Dfn P w K mg base k x ps sp) : DfE P w K mg base k x ps sp := let ⟨f, fd, a, b, c⟩ := D.ex; ⟨f, fd, a.lift, b, c⟩
end
def tCallE (sp : Sp) (G : St → XK) (t : TA) : TE := fun σ H Q => t σ H fun vs H1 => sp vs H1 Q (G σ)
def tMethE (P : Program) (w : World) (K : PySem.W.Frag) (mg : Str → Option Value) (base : Heap) (k : Nat) (m : Str) (G : St → XK) (ta : TE) (t : TA) : TE := fun σ H Q => ta σ H fun x H1 => ∃ a C dx fs ps sp, x = .ref a ∧ H1 a = some (.ins C dx fs) ∧ fs.lookup m = none ∧ Cls K C ∧ MtE P w K mg base k m C ps sp ∧
  t σ H1 fun vs H2 => sp (x :: vs) H2 Q (G σ)
section
variable {X : Cx} {k : Nat} {ps : List Str} {sp : Sp} {G : St → XK} {x m : Str} {p pos apos : Pos} {e o : Expr} {es : List Expr} {ta : TE} {t : TA}
theorem run_fnE {pins : List (Addr × Obj)} {σ : St} {H : Hp} {s : Shared} {Q : VK} {us : List Value} {vs : List V} {f : Addr} {fd : FuncData} (F : FnOk X.prog X.w X.K X.mg X.base (CXe X.prog X.w) k f fd ps sp) (hr : Room k X.A) (hb : Binds X.K fd ps []) (hx : PassesS X G)
    (I : Inv X pins σ H s) (r : Vals vs us) (h : sp vs H Q (G σ)) : wpAny (model X.prog X.w) X.A (call (.ref f) us) (EP X pins σ Q) X.xe s := by
  have hl : us.length = ps.length := by rw [← r.length]; exact F.len _ _ _ _ h
  have hb2 := hb s us I.kIn (by rw [List.append_nil]; exact hl)
  rw [List.append_nil] at hb2
  refine wpAny_call (codeAny_mono (F.run X.A X.stack s H ⟨us, []⟩ us vs Q (G σ) hr I.env0 hb2 r h) fun r s' hq => ?_)
  cases r with
  | error e => exact hx pins σ H s e s' I hq
  | ok fl =>
    cases fl with
    | ret u => exact I.after hq
    | next => exact False.elim hq
    | brk => exact False.elim hq
    | cont => exact False.elim hq
theorem pe_callE (D : DfE X.prog X.w X.K X.mg X.base k x ps sp) (hx : PassesS X G) (hr : Room k X.A) (hg : Gl X x) (ha : PA X (e :: es) t) (hdb : (x == ("__debug__" : Str)) = false := by decide)
    (he : starEach (e :: es) X.env = (false, eval e X.env) :: starEach es X.env := by rfl) (hpl : (backTo pos (starEach es X.env)).any (·.1) = false := by rfl) : PE X (.Call (.Name x p) (e :: es) [] pos) (tCallE sp G t) := by
  intro pins s σ H Q I h
  obtain ⟨f, fd, F, b, kp, hm⟩ := D.ex
  refine wpAny_Call_Name_kw (ld_glob I hg hm ?_ hdb)
  refine PySem.W.callWith_K (h₀ := X.base) I.ok.mod.kin kp (thn (ha pos pins s σ H _ I h) fun us s1 ⟨vs, H1, I1, r, q⟩ => ⟨I1.kIn, ?_⟩) he hpl
  exact run_fnE F hr b hx I1 r q
end
end L2
namespace PySem.W
open PySem PyProof.Rows PySem.Spec PySem.Calls
def mroHas (K : Frag) (C : Addr) (c : Value) : Bool := match K.lookup C with
  | some ⟨_, _, .cls cd, _⟩ => cd.mro.contains c
  | _ => false
theorem exc_mro {K : Frag} {h : Heap} {C : Addr} (X : K.In h) (q : excMk K C = true) : ∃ tlm, ExcAt h C tlm ∧ OwnTail h veMro tlm ∧ ∀ c, mroHas K C c = (Value.ref C :: tlm).contains c := by
  obtain ⟨tlm, hE, T⟩ := excMk_obj X q
  refine ⟨tlm, hE, T, fun c => ?_⟩
  unfold mroHas
  cases hk : K.lookup C with
  | none =>
    unfold excMk at q
    rw [hk] at q
    cases q
  | some o =>
    obtain ⟨N, nm, q, bs, hdct, sn, sub, ab, col, dd, q0, q1, q2, q3, q5, hCl⟩ := hE
    have z := X _ _ hk
    rw [hCl] at z
    cases z
    rfl
section
variable {M : Model} {A : Around} {E : Value → Shared → Prop} {env : Env} {K : Frag}
theorem exc_match {h : Heap} {g : Array GenState} {d : Drawn} {t : Nat} {os : OsState} {e C D : Addr} {oe : Obj} {Q : Bool → Shared → Prop} (X : K.In h) (qC : excMk K C = true) (qD : excMk K D = true) (he : h.get? e = some oe) (hc : oe.cls = .ref C)
    (hq : Q (mroHas K C (.ref D)) ⟨h, g, d, t, os⟩) : wpAny M A (excMatches (.ref e) (.ref D)) Q E ⟨h, g, d, t, os⟩ := by
  obtain ⟨tl, ⟨N, nm, q, bs, hdct, sn, sub, ab, col, dd, q0, q1, q2, q3, q5, hC⟩, _, mh⟩ := exc_mro X qC
  obtain ⟨tl', ⟨N', nm', q', bs', hdct', sn', sub', ab', col', dd', q0', q1', q2', q3', q5', hD⟩, T, _⟩ := exc_mro X qD
  have hB : (Value.ref D :: tl').contains (.type "BaseException") = true := by
    rw [List.contains_cons, T.hasType (show veMro.contains (.type "BaseException") = true from by decide +kernel), Bool.or_true]
  rw [mh] at hq
  have f := tc_notTuple
  unfold excMatches
  repeat (first | (with_reducible refine wpAny_loadPart_at he ?_; rw [hc]) | with_reducible refine wpAny_loadPart_at hD ?_ | (with_reducible refine wpAny_isSubtype_exc hD ?_; rw [hB]) | with_reducible refine wpAny_isSubtype_exc hC ?_ | wp_step)
  all_goals (cases hb : (Value.ref C :: tl).contains (.ref D) <;> (rw [hb] at hq; wp_walk; exact hq))
theorem raise_X {s : Shared} {x : Sem Value} {Q : Flow → Shared → Prop} (hh : A.handled = none)
    (h : wpAny M A x (fun v s1 => ∃ e C d t0, v = .ref e ∧ K.In s1.heap ∧ excMk K C = true ∧ s1.heap.get? e = some ⟨.ref C, d, .fields #[.ref t0, .none, .none, .none, .bool false, .none], #[]⟩ ∧ E (.ref e) s1) E s) :
    wpAny M A (raiseStmt env (some x) none) Q E s := by  -- raised here
  unfold raiseStmt
  refine wpAny_bind (wpAny_mono h (fun v s1 h1 => ?_) fun _ _ x => x)
  obtain ⟨e, C, d, t0, rfl, X, qC, he, hE⟩ := h1
  obtain ⟨tl, ⟨N, nm, q, bs, hdct, sn, sub, ab, col, dd, q0, q1, q2, q3, q5, hC⟩, T, _⟩ := exc_mro X qC
  have hB : (Value.ref C :: tl).contains (.type "BaseException") = true := by
    rw [List.contains_cons, T.hasType (show veMro.contains (.type "BaseException") = true from by decide +kernel), Bool.or_true]
  obtain ⟨hp, g, d', tk, os⟩ := s1
  repeat (first | with_reducible refine wpAny_loadPart_at he ?_ | with_reducible refine wpAny_loadPart_at hC ?_ | (with_reducible refine wpAny_isSubtype_exc hC ?_; rw [hB]) | wp_step)
  exact (wpAny_raiseNew_none hh hE)
end
end PySem.W
namespace L2
open PySem PyProof.Rows PySem.Spec PySem.Calls
def tRaise (K : PySem.W.Frag) (G : St → XK) (te : TE) : TS := fun _ σ H => te σ H fun v H1 => ∃ ea C d, v = .ref ea ∧ H1 ea = some (XO ea C d) ∧ PySem.W.excMk K C = true ∧ G σ (.ref C) (some ea) (upd H1 ea (XC ea C d))
abbrev Cx.caught (X : Cx) (ea : Addr) : Cx := { X with A := X.A.mark (some (.ref ea)), calm := false, xe := fun _ _ => False }
abbrev Cx.inTry (X : Cx) (ps : List (Addr × Obj)) (xe : Value → Shared → Prop) : Cx := { X with pn := X.pn ++ ps, xe := xe }
section
variable {X : Cx} {pins : List (Addr × Obj)} {σ : St} {H : Hp} {s : Shared} {ea : Addr}
theorem ps_raise {G : St → XK} {e : Expr} {te : TE} {pos : Pos} (hR : RaisesS X G) (hc : X.calm = true) (he : PE X e te) : PS X (.Raise (some e) none pos) (tRaise X.K G te) := by
  intro pins s σ H D I h
  show wpAny _ _ (do standAt pos; raiseStmt X.env (some (do let v ← eval e X.env; standAt pos; pure v)) none) _ _ s
  refine wpAny_bind (wpAny_standAt (PySem.W.raise_X (K := X.K) (I.ok.hd hc) (wpAny_bind (thn (he pins s σ H _ I h) fun v s1 ⟨x, H1, I1, rx, ea, C, d, ex, hx, mk, q⟩ => wpAny_bind (wpAny_standAt (wpAny_pure ?_))))))
  subst ex
  obtain rfl : v = Value.ref ea := rx
  obtain ⟨t0, g1⟩ := xo_get I1.hok hx
  exact ⟨ea, C, d, t0, rfl, I1.kIn, mk, g1, hR pins σ H1 s1 ea C d I1 hx q⟩
theorem Cx.Ok.caught (ok : X.Ok) : (X.caught ea).Ok :=
  ⟨ok.mod, ok.kind, ok.glob, ok.blt, ok.above, ok.inj, ok.has, ok.cab, (fun z => nomatch z), ok.frames, ok.stk, ok.exf, ok.bs, ok.bsz, ok.noex, ok.exfs, ok.funs, ok.frf⟩
theorem Inv.caught (I : Inv X pins σ H s) : Inv (X.caught ea) pins σ H s := ⟨I.ok.caught, I.os, I.bare, I.base, I.loc, I.cell, I.free, I.freeC, I.pin, I.hok, I.len⟩
theorem Inv.uncaught (o : X.Ok) (I : Inv (X.caught ea) pins σ H s) : Inv X pins σ H s := ⟨o, I.os, I.bare, I.base, I.loc, I.cell, I.free, I.freeC, I.pin, I.hok, I.len⟩
theorem Cx.Ok.inTry {ps : List (Addr × Obj)} {xe : Value → Shared → Prop} (ok : X.Ok) : (X.inTry ps xe).Ok :=
  ⟨ok.mod, ok.kind, ok.glob, ok.blt, ok.above, ok.inj, ok.has, ok.cab, ok.hd, ok.frames, ok.stk, ok.exf, ok.bs, ok.bsz, ok.noex, ok.exfs, ok.funs, ok.frf⟩
theorem Inv.inTry {xe : Value → Shared → Prop} (I : Inv X pins σ H s) : Inv (X.inTry pins xe) [] σ H s := ⟨I.ok.inTry, I.os, I.bare, I.base, I.loc, I.cell, I.free, I.freeC, fun p hp => I.pin p (by rw [← List.append_nil (X.pn ++ pins)]; exact hp), I.hok, I.len⟩
theorem Inv.outTry {ps : List (Addr × Obj)} {xe : Value → Shared → Prop} (o : X.Ok) (I : Inv (X.inTry ps xe) pins σ H s) : Inv X ps σ H s := ⟨o, I.os, I.bare, I.base, I.loc, I.cell, I.free, I.freeC, fun p hp => I.pin p (List.mem_append_left _ hp), I.hok, I.len⟩
theorem SP.outTry {ps : List (Addr × Obj)} {xe : Value → Shared → Prop} {D : Ends} {f : Flow} {s' : Shared} (o : X.Ok) (h : SP (X.inTry ps xe) pins D f s') : SP X ps D f s' := by
  cases f with
  | next => obtain ⟨σ', H', I, q⟩ := h; exact ⟨σ', H', I.outTry o, q⟩
  | brk => obtain ⟨σ', H', I, q⟩ := h; exact ⟨σ', H', I.outTry o, q⟩
  | cont => obtain ⟨σ', H', I, q⟩ := h; exact ⟨σ', H', I.outTry o, q⟩
  | ret u => obtain ⟨v, σ', H', I, r, q⟩ := h; exact ⟨v, σ', H', I.outTry o, r, q⟩
theorem unbind_ok {M : Model} {A : Around} {E : Value → Shared → Prop} {i : Nat} {n : Str} {v : V} {Q : Unit → Shared → Prop} (I : Inv X pins σ H s) (hN : X.N.Nodup) (hi : X.N[i]? = some n) (hx : X.env.scope.names.lookup n = some .local) (hv : σ[i]? = some (some v))
    (h : ∀ s', Inv X pins (σ.set i none) H s' → Q () s') : wpAny M A (unbindName X.env n) Q E s := by
  obtain ⟨m, hn, hl⟩ := id I.loc
  obtain ⟨u, _, lk⟩ := hl i n v hi hv (.inl hx)
  have hm : m n = some u := by
    rcases lk with ⟨_, e⟩ | ⟨k, _⟩
    · exact e
    · have kx : X.env.kindOf n = some .local := hx
      rw [kx] at k
      rcases k with k | k <;> cases k
  have hcls : (X.env.scope.kind == .class || (X.env.scope.kind == .module && X.env.locals != X.env.globals)) = false := by rw [I.ok.kind]; rfl
  have iσ : i < σ.length := by rw [I.len]; exact (List.getElem?_eq_some_iff.mp hi).1
  refine wpAny_unbindName_local hx hn hm hcls fun h' u' hn' hs => h _ ?_
  obtain ⟨oLo, _, _, hoLo, _⟩ := id hn
  have ne0 : ∀ b o, X.s₀.heap.get? b = some o → b ≠ X.env.locals := fun b o e => Nat.ne_of_lt (Nat.lt_of_lt_of_le (Heap.lt_size e) I.ok.above)
  refine ⟨I.ok, I.os, I.bare, ⟨fun b o e nn hb he => (hs.2 b (ne0 b o e)).trans (I.base.keep b o e nn hb he), fun b o e nn hb he => ?_, I.base.free, fun b o e he => ?_, I.base.tups, I.base.frzs, I.base.tbls⟩, ⟨_, hn', fun j y w' e1 e2 e3 => ?_⟩, fun y c e => ?_, I.free, I.freeC, fun p hp => ?_, fun b ob e => ?_, by simpa using I.len⟩
  · obtain ⟨sl, q⟩ := I.base.slot b o e nn hb he
    exact ⟨sl, (hs.2 b (ne0 b o e)).trans q⟩
  · obtain ⟨o', q⟩ := I.base.there b o e he
    exact ⟨o', (hs.2 b (ne0 b o e)).trans q⟩
  · have hj : j ≠ i := fun z => by
      subst z
      rw [List.getElem?_set_self iσ] at e2
      cases e2
    rw [List.getElem?_set_ne (Ne.symm hj)] at e2
    obtain ⟨u2, r2, q⟩ := hl j y w' e1 e2 e3
    refine ⟨u2, r2, ?_⟩
    rcases q with ⟨k, e⟩ | ⟨k, c, e, z⟩
    · refine .inl ⟨k, ?_⟩
      have hy : y ≠ n := fun z => hj (nodup_ix hN e1 (z ▸ hi))
      show (if y = n then u' else m y) = some u2
      rw [if_neg hy]
      exact e
    · exact .inr ⟨k, c, e, z.sameBut hs (I.cne y c e)⟩
  · obtain ⟨w', z⟩ := I.cell y c e
    exact ⟨w', z.sameBut hs (I.cne y c e)⟩
  · obtain ⟨e, nn, ne, nf, dd⟩ := I.pin p hp
    exact ⟨(hs.2 p.1 ne).trans e, nn, ne, nf, dd⟩
  · refine (I.hok b ob e).stay (fun c w' hc q => (hs.2 c ?_).trans q) (fun _ q => q) fun _ _ q => q
    rintro rfl
    rcases hc with rfl | hc
    · rw [I.free] at e; cases e
    · rw [I.free] at hc; cases hc
end
abbrev TH := Ends → St → Hp → Addr → Addr → Prop
def PH (X : Cx) (hs : List ExceptHandler) (t : TH) : Prop := ∀ (pins : List (Addr × Obj)) (s : Shared) (σ : St) (H : Hp) (D : Ends) (ea C : Addr) (d : Option Addr), Inv X pins σ H s → H ea = some (XC ea C d) → TrI X pins H ea s.heap → t D σ H C ea →
  wpAny (model X.prog X.w) X.A (handleBy (.ref ea) X.env hs) (SP X pins D) X.xe s
def tNoH : TH := fun _ _ _ _ _ => False
def Ends.less (D : Ends) (i : Nat) : Ends := { nx := fun σ H => D.nx (σ.set i none) H, rt := D.rt, bk := fun σ H => D.bk (σ.set i none) H, ct := fun σ H => D.ct (σ.set i none) H }
def tAs (K : PySem.W.Frag) (B : Addr) (i : Nat) (ts : TS) (tr : TH) : TH := fun D σ H C ea => PySem.W.excMk K C = true ∧ PySem.W.excMk K B = true ∧ ∃ b, PySem.W.mroHas K C (.ref B) = b ∧ if b = true then ts (D.less i) (σ.set i (some (.ref ea))) H else tr D σ H C ea
def tTry (tb : (St → XK) → TS) (th : TH) : TS := fun D σ H => tb (fun σ' c oa H' => ∃ C ea, c = .ref C ∧ oa = some ea ∧ th D σ' H' C ea) D σ H
section
variable {X : Cx}
theorem ph_nil : PH X [] tNoH := fun _ _ _ _ _ _ _ _ _ _ _ h => h.elim
theorem ph_as {x n : Str} {B : Addr} {i : Nat} {b₀ : Stmt} {suite : List Stmt} {ts : TS} {tr : TH} {np hpos : Pos} {rest : List ExceptHandler} (hg : Gl X x) (hm : X.mg x = some (.ref B)) (hN : X.N.Nodup) (hi : X.N[i]? = some n) (hl : X.env.scope.names.lookup n = some .local)
    (hs : ∀ ea, PSs (X.caught ea) (b₀ :: suite) ts) (hr : PH X rest tr) (hd : (x == ("__debug__" : Str)) = false := by decide) : PH X (.ExceptHandler (some (.Name x np)) (some n) (b₀ :: suite) hpos :: rest) (tAs X.K B i ts tr) := by
  intro pins s σ H D ea C d I hx tr h
  obtain ⟨mC, mB, b, hb, h⟩ := h
  have I1 : Inv (X.caught ea) pins σ H s := I.caught
  refine wpAny_handleBy_cons (codeAny_handlers_test (ld_glob I1 hg hm ?_ hd)) (by intro q; cases q)
  obtain ⟨vs, sl, g1⟩ := x_get I.hok (.inr hx)
  refine PySem.W.exc_match (K := X.K) I.kIn mC mB g1 rfl ?_
  rw [hb]
  cases b with
  | false => exact hr pins s σ H D ea C d I hx tr h
  | true =>
    show codeAny _ _ _ _ _
    refine (codeAny_handlers_suite_as ?_)
    obtain ⟨cl, d', vs', sl', T, g1', g2, ⟨nT, oT, ts', gT, dT, h3⟩, g4, g5, g6, g7, g8⟩ := tr
    rw [g1] at g1'
    cases g1'
    unfold setFlight
    refine wpAny_bind (wpAny_field g1 rfl g2 ?_)
    rw [if_pos (by simp)]
    refine wpAny_setField gT dT (Array.getElem?_eq_some_iff.mp h3).1 ?_
    have I2 : Inv (X.caught ea) pins σ H { s with heap := s.heap.update T (Obj.mapFields (·.setIfInBounds 3 ((none : Option Addr).elim Value.none fun f => rawInt f))), toks := s.toks } :=
      I1.turned (it := T) (fun b o hb q => by rw [Heap.get?_update_other _ _ (Ne.symm hb)]; exact q) g5 g6 (.inr g4) g7 g8
    refine store_ok (X := X.caught ea) I2 hN hi (.inl hl) (v := .ref ea) rfl (fun s3 I3 => ?_) (.inr hl)
    refine wpAny_mono (hs ea pins s3 _ H (D.less i) I3 h) (fun f s4 q => ?_) fun _ _ z => False.elim z
    have fin : ∀ {σ' : St} {H' : Hp} {Q : Shared → Prop}, Inv (X.caught ea) pins σ' H' s4 → (∀ s5, Inv X pins (σ'.set i none) H' s5 → Q s5) → wpAny (model X.prog X.w) X.A (do bindName X.env n .none; unbindBehindTheSuite X.env n hpos) (fun _ s5 => Q s5) X.xe s4 := fun {σ' H' Q} J k => by
      have J' := J.uncaught I.ok
      refine wpAny_bind (wpAny_bindName (store_ok J' hN hi (.inl hl) (v := .non) rfl (fun s5 I5 => ?_) (.inr hl)))
      unfold unbindBehindTheSuite
      refine wpAny_onRaise (unbind_ok I5 hN hi hl (List.getElem?_set_self (by rw [J'.len]; exact (List.getElem?_eq_some_iff.mp hi).1)) fun s6 I6 => k s6 ?_)
      rwa [List.set_set] at I6
    cases f with
    | next => obtain ⟨σ', H', J, q⟩ := q; exact fin (Q := fun s5 => SP X pins D .next s5) J fun s5 I5 => ⟨_, H', I5, q⟩
    | brk => obtain ⟨σ', H', J, q⟩ := q; exact fin (Q := fun s5 => SP X pins D .brk s5) J fun s5 I5 => ⟨_, H', I5, q⟩
    | cont => obtain ⟨σ', H', J, q⟩ := q; exact fin (Q := fun s5 => SP X pins D .cont s5) J fun s5 I5 => ⟨_, H', I5, q⟩
    | ret u => obtain ⟨v, σ', H', J, r, q⟩ := q; exact fin (Q := fun s5 => SP X pins D (.ret u) s5) J fun s5 I5 => ⟨v, _, H', I5, r, q⟩
theorem ps_try {body : List Stmt} {h₀ : ExceptHandler} {hs : List ExceptHandler} {pos : Pos} {tb : (St → XK) → TS} {th : TH} (t : Top X)
    (hb : ∀ (ps : List (Addr × Obj)) (xe : Value → Shared → Prop) (G : St → XK), PassesS (X.inTry ps xe) G → PassesOwn (model X.prog X.w) X.A X.env xe → PSs (X.inTry ps xe) body (tb G))
    (hh : PH X (h₀ :: hs) th) : PS X (.Try body (h₀ :: hs) [] [] pos) (tTry tb th) := by
  intro pins s σ H D I h
  have o := I.ok
  refine wpAny_Try_except (thn (hb pins _ _ ?_ PassesOwn.looking [] s σ H D I.inTry h) fun f s1 q => ?_)
  · intro ps2 σ2 H2 s2 e s3 I2 c
    obtain ⟨ea, C, d, H3, rfl, I3, hx, tr, C', ea', e1, e2, q⟩ := I2.flew c
    cases e1
    cases e2
    have tr' : TrI X pins H3 ea s3.heap := let ⟨a1, a2, a3, a4, a5, b1, b2, b3, b4, b5, b6, b7, b8⟩ := tr; ⟨a1, a2, a3, a4, a5, b1, b2, b3, b4, b5, b6, b7, fun p hp => b8 p (List.mem_append_left _ hp)⟩
    exact note_flew t (I3.outTry o) hx tr' fun s4 I4 t4 => hh pins s4 σ2 H3 D ea C d I4 hx t4 q
  · have q' := q.outTry o
    cases f with
    | next => exact wpAny_execs_nil q'
    | brk => exact q'
    | cont => exact q'
    | ret u => exact q'
end
end L2
namespace L2
open PySem PyProof.Rows PySem.Spec PySem.Calls
def XG (H : Hp) (e C : Addr) (fs : List (Str × V)) : Prop := ∃ dx, IsX H e C (some dx) ∧ H dx = some (XD dx fs) ∧ dx ≠ e
theorem XF.g {H : Hp} {e C : Addr} {fs : List (Str × V)} (x : XF H e C fs) : XG H e C fs := let ⟨d, a, b, c⟩ := x; ⟨d, .inl a, b, c⟩
theorem XG.keep {H H' : Hp} {e C : Addr} {fs : List (Str × V)} (x : XG H e C fs) (k : Same H H') : XG H' e C fs := by
  obtain ⟨d, a, b, c⟩ := x
  rcases a with a | a
  · exact ⟨d, .inl (k _ _ a), k _ _ b, c⟩
  · exact ⟨d, .inr (k _ _ a), k _ _ b, c⟩
theorem XF.raised {H : Hp} {e C : Addr} {fs : List (Str × V)} (x : XF H e C fs) : ∃ dx, H e = some (XO e C (some dx)) ∧ XG (L2.upd H e (XC e C (some dx))) e C fs :=
  let ⟨d, a, b, c⟩ := x
  ⟨d, a, d, .inr upd_same, by rw [upd_ne c]; exact b, c⟩
def rIsO (K : PySem.W.Frag) : List V → Hp → VK → Prop := fun xs H Q => ∃ x c t b, xs = [x, c] ∧ TyOf K H x t ∧ (∀ u, RelV c u → u = clV c) ∧ PySem.W.kitOne K t (clV c) = some b ∧ Q (.bl b) H
def rIsG (K : PySem.W.Frag) : List V → Hp → VK → Prop := fun xs H Q => ∃ a C fs c b, xs = [.ref a, c] ∧ XG H a C fs ∧ ClsI K C ∧ (∀ u, RelV c u → u = clV c) ∧ PySem.W.kitOne K (.ref C) (clV c) = some b ∧ Q (.bl b) H
def rIsGT (K : PySem.W.Frag) : List V → Hp → VK → Prop := fun xs H Q => ∃ a C fs tp cs b, xs = [.ref a, .ref tp] ∧ XG H a C fs ∧ ClsI K C ∧ H tp = some (.tup cs) ∧ (∀ c ∈ cs, ∀ u, RelV c u → u = clV c) ∧ PySem.W.kitAny K (.ref C) (cs.map clV) = some b ∧ Q (.bl b) H
def tFldG (K : PySem.W.Frag) (ta : TE) (f : Str) : TE := fun σ H Q => ta σ H fun x H1 => ∃ a C fs v, x = .ref a ∧ XG H1 a C fs ∧ ClsX K C ∧ NoAttr K C f ∧ fs.lookup f = some v ∧ Q v H1
section
variable {X : Cx} {e o : Expr} {es : List Expr} {f x : Str} {p pos apos : Pos} {ta : TE} {t : TA} {k : Nat} {ps : List Str} {sp : Sp}
theorem pe_fldG (he : PE X e ta) (hb : attributeBase e f X.env (eval e X.env) = eval e X.env) : PE X (.Attribute e f pos) (tFldG X.K ta f) := by
  intro pins s σ H Q I h
  refine attr_of hb (thn (he pins s σ H _ I h) fun u s1 ⟨x, H1, I1, rx, a, C, fs, v, ex, ⟨dx, ea, ed, _⟩, c, n, l, q⟩ => ?_)
  subst ex
  obtain rfl : u = Value.ref a := rx
  exact getX_ok I1 ea ed c n l fun u' s2 I2 ru => ⟨v, H1, I2, ru, q⟩
structure InO (K : PySem.W.Frag) (B f : Addr) : Prop where
  sp : PySem.W.specialIn K (.ref B) "__getattribute__" = some (some (.builtin "type.__getattribute__"))
  rd : PySem.W.readsIn K B (.type "type") = true
  fc : PySem.W.findCls K (.ref B) (.type "type") "__init__" = some (.val (.ref f))
structure InD (P : Program) (w : World) (K : PySem.W.Frag) (mg : Str → Option Value) (base : Heap) (k : Nat) (x : Str) (B : Addr) (ps : List Str) (sp : Sp) : Prop where
  ex : ∃ f fd, InO K B f ∧ FnOk P w K mg base CX0 k f fd ps sp ∧ Binds K fd ps [] ∧ PySem.W.keepIn K (.ref f) = true ∧ mg x = some (.ref B)
end
section
variable {P : Program} {w : World} {K : PySem.W.Frag} {mg : Str → Option Value} {base : Heap} {j k : Nat} {x m : Str} {C : Addr} {ps : List Str} {sp : Sp}
theorem MtE.mono (D : MtE P w K mg base j m C ps sp) (h : j ≤ k) : MtE P w K mg base k m C ps sp := let ⟨f, fd, a, b, c⟩ := D.ex; ⟨f, fd, a, b.mono h, c⟩
theorem DfE.mono (D : DfE P w K mg base j x ps sp) (h : j ≤ k) : DfE P w K mg base k x ps sp := let ⟨f, fd, a, b⟩ := D.ex; ⟨f, fd, a.mono h, b⟩
end
end L2
namespace L2
open PySem PyProof.Rows PySem.Spec PySem.Calls
structure OwnTy (K : PySem.W.Frag) (C : Addr) : Prop where
  ha : PySem.W.findIn K (.ref C) "__class__" = some (some (.builtin "object.__class__"))
  hn : PySem.W.specialIn K (.builtin "object.__class__") "__get__" = some (some (.builtin "getset_descriptor.__get__"))
  tk : PySem.W.takesIn K (.builtin "object.__class__") = some true
  hm : PySem.W.mroIn K C (.type "object") = some true
theorem OwnTy.ty {K : PySem.W.Frag} {C a dx : Addr} {H : Hp} {fs : List (Str × V)} (o : OwnTy K C) (cl : Cls K C) (e : H a = some (.ins C dx fs)) : TyOf K H (.ref a) (.ref C) := .ins e cl o.ha o.hn o.tk o.hm
theorem top_nox {CX : CXT} {P : Program} {w : World} {K : PySem.W.Frag} {mg : Str → Option Value} {base : Heap} {N : List Str} {qual : Str} {scope : Scope} {f : Addr} {cd : Value} {A : Around} {outer : List Env} {s : Shared} {H : Hp} {E : XK} :
    Top (cxOf CX P w K mg base N qual scope f cd A outer s H E).nox := ⟨rfl, rfl, rfl⟩
end L2
namespace L2
open PySem PyProof.Rows PySem.Spec PySem.Calls
section
variable {X : Cx} {P : Program} {w : World} {K : PySem.W.Frag} {mg : Str → Option Value} {base : Heap} {G : St → XK} {m : Str} {pos apos : Pos} {e o : Expr} {es : List Expr} {ta : TE} {t : TA}
end
end L2
namespace L2
open PySem PyProof.Rows PySem.Spec PySem.Calls
section
variable {X : Cx} {K : PySem.W.Frag} {e : Expr} {f : Str} {pos : Pos} {ta : TE}
theorem pe_fldGK (h : X.K = K) (he : PE X e ta) (hb : attributeBase e f X.env (eval e X.env) = eval e X.env) : PE X (.Attribute e f pos) (tFldG K ta f) := by
  subst h
  exact pe_fldG he hb
end
end L2
namespace L2
open PySem PySem.Spec PyProof.Rows
def Its (lo d : Int) (n : Nat) : It := ⟨fun i _ => i < n, fun i H x H' => H' = H ∧ x = .int (lo + i * d), fun i _ => n ≤ i⟩
section
variable {X : Cx} {tg : Expr}
def iRng3 (ta : TA) : TI := fun σ H R => ta σ H fun vs H1 => ∃ i j d : Int, vs = [.int i, .int j, .int d] ∧ (-(2 ^ 60) ≤ i ∧ i < 2 ^ 60 ∧ -(2 ^ 60) ≤ j ∧ j < 2 ^ 60 ∧ 0 < d ∧ d < 2 ^ 29) ∧ R (Its i d (if i < j then (j - i - 1) / d + 1 else 0).toNat) H1
end
end L2
namespace L2
open PySem PySem.Spec PyProof.Rows
def New (H H' : Hp) (G : Hp → Prop) : Prop := ∃ S : Addr → Prop, (∀ b, S b → H b = none ∧ ∃ o, H' b = some o) ∧ ∀ H3, (∀ b, S b → H3 b = H' b) → G H3
theorem compB_mk {J : It} {tc : TT} {te : TE} {σf : Option V → St} {H1 : Hp} {Q : VK} {xs : List V} (S : Seq J H1 xs) (G : V → V → Hp → Prop) (hz : xs.length < sizeLine)
    (hc : ∀ x ∈ xs, ∀ (H' : Hp) (R : Bool → Hp → Prop), Same H1 H' → R true H' → tc (σf (some x)) H' R)
    (he : ∀ x ∈ xs, ∀ (H' : Hp) (R : VK), Same H1 H' → (∀ y H'', Same H' H'' → New H' H'' (G x y) → R y H'') → te (σf (some x)) H' R)
    (q : ∀ D H' ys, Same H1 H' → H1 D = none → H' D = some (.lst ys) → ys.length = xs.length → (∀ (i : Nat) x y, xs[i]? = some x → ys[i]? = some y → G x y H') → Q (.ref D) H') : CompB J tc te σf H1 Q := by
  intro D hD
  refine ⟨fun i m ys H2 => m = xs.length - i ∧ i ≤ xs.length ∧ Same H1 H2 ∧ H2 D = some (.lst ys) ∧ ys.length = i ∧ ∀ (k : Nat) x y, xs[k]? = some x → ys[k]? = some y → ∃ Z : Addr → Prop, (∀ b, Z b → b ≠ D ∧ ∃ o, H2 b = some o) ∧ ∀ H3, (∀ b, Z b → H3 b = H2 b) → G x y H3,
    ⟨xs.length, rfl, Nat.zero_le _, same_new hD _, upd_same, rfl, fun k x y _ e => by simp at e⟩, ?_⟩
  rintro i m ys H2 ⟨rfl, hi, sm, hD2, hl, hg⟩
  refine ⟨hD2, ?_⟩
  by_cases hlt : i < xs.length
  · refine .inr ⟨S.go i H2 sm hlt, by omega, fun x H3 y => ?_⟩
    obtain ⟨e, hx⟩ := S.yld i H2 x H3 sm hlt y
    subst e
    have mem : x ∈ xs := List.mem_of_getElem? hx
    refine hc x mem _ _ sm (iteT (he x mem _ _ sm fun yv H5 s5 ny => ⟨s5 _ _ hD2, xs.length - (i + 1), by omega, rfl, hlt, same_on hD (sm.trans s5) _, upd_same, by rw [List.length_append, hl]; rfl, fun k x' y' ex ey => ?_⟩))
    by_cases hk : k < i
    · rw [List.getElem?_append_left (by omega)] at ey
      obtain ⟨Z, z1, z2⟩ := hg k x' y' ex ey
      refine ⟨Z, fun b hb => ?_, fun H6 h6 => z2 H6 fun b hb => ?_⟩
      · obtain ⟨nb, o, ho⟩ := z1 b hb
        exact ⟨nb, o, by rw [upd_ne nb]; exact s5 _ _ ho⟩
      · obtain ⟨nb, o, ho⟩ := z1 b hb
        rw [h6 b hb, upd_ne nb, s5 _ _ ho, ho]
    · have ek : k = i := by
        have := (List.getElem?_eq_some_iff.mp ey).1
        rw [List.length_append, hl] at this
        have : k < i + 1 := this
        omega
      subst ek
      rw [List.getElem?_append_right (by omega), hl, Nat.sub_self] at ey
      obtain rfl : yv = y' := Option.some.inj ey
      obtain rfl : x = x' := Option.some.inj (hx.symm.trans ex)
      obtain ⟨Z, z1, z2⟩ := ny
      have nD : ∀ b, Z b → b ≠ D := fun b hb e => by
        have := (z1 b hb).1
        rw [e, hD2] at this
        cases this
      refine ⟨Z, fun b hb => ?_, fun H6 h6 => z2 H6 fun b hb => ?_⟩
      · obtain ⟨_, o, ho⟩ := z1 b hb
        exact ⟨nD b hb, o, by rw [upd_ne (nD b hb)]; exact ho⟩
      · rw [h6 b hb, upd_ne (nD b hb)]
  · have e : i = xs.length := by omega
    refine .inl ⟨by rw [e]; exact S.stop H2 sm, q D H2 ys sm hD hD2 (by omega) fun k x y ex ey => ?_⟩
    obtain ⟨Z, _, z2⟩ := hg k x y ex ey
    exact z2 H2 fun _ _ => rfl
end L2
namespace L2
open PySem PySem.Spec PyProof.Rows
def ofVal : Value → V
  | .bool b => .bl b
  | .int i _ => .int i
  | .str x _ => .str x
  | .bytes b _ => .byt b
  | .float b _ => .flt b
  | .ref a => .ref a
  | .type n => .ty n
  | _ => .non
theorem ofVal_rel {v : V} {u : Value} (r : RelV v u) : ofVal u = v := by
  cases v with
  | non => cases (show u = Value.none from r); rfl
  | bl b => cases (show u = Value.bool b from r); rfl
  | int i => obtain ⟨t, q⟩ := (show ∃ t, u = Value.int i t from r); cases q; rfl
  | str x => obtain ⟨t, q⟩ := (show ∃ t, u = Value.str x t from r); cases q; rfl
  | byt b => obtain ⟨t, q⟩ := (show ∃ t, u = Value.bytes b t from r); cases q; rfl
  | flt b => obtain ⟨t, q⟩ := (show ∃ t, u = Value.float b t from r); cases q; rfl
  | ref a => cases (show u = Value.ref a from r); rfl
  | ty n => cases (show u = Value.type n from r); rfl
def rIndex : V → List V → Hp → VK → Prop := fun x vs H Q => ∃ l xs y j, x = .ref l ∧ vs = [y] ∧ H l = some (.lst xs) ∧ xs.all flatV = true ∧ flatV y = true ∧ xs.length ≤ 1000 ∧ j < xs.length ∧ eqV (xs.getD j .non) y = true ∧ (∀ m, m < j → eqV (xs.getD m .non) y = false) ∧ Q (.int (j : Nat)) H
theorem mt_index {X : Cx} : MtR X "list.index" rIndex := by
  intro pins s σ H x vs v us Q I rx rv h
  obtain ⟨l, xs, y, j, rfl, rfl, hH, fx, fy, hz, hj, hit, hno, q⟩ := h
  cases rx
  obtain ⟨u, rfl, ru⟩ := vals1 rv
  obtain ⟨z, its, n, r, hl, e⟩ := I.lstM hH
  have at_ : ∀ m (hm : m < its.toArray.size), eqV (ofVal (its.toArray[m])) y = eqV (xs.getD m .non) y := fun m hm => by rw [ofVal_rel (vals_at r m hm)]
  have hj2 : j < its.toArray.size := by simp; omega
  refine call_meets F.slot_list_index ⟨_, e, rfl⟩ F.entry_list_index (F.args_list_index_2 _ _) (SeqAt.list_indexAt l its.toArray n none #[] u (fun w => eqV (ofVal w) y) j hj2 (by omega) (by rw [at_ j hj2]; exact hit) (fun m hm hlt => by rw [at_ m hm]; exact hno m hlt)) ⟨e, fun w hw => ?_, ⟨.int (j : Nat), H, I.tok _, ⟨_, rfl⟩, q⟩⟩
  obtain ⟨m, hm, rfl⟩ := Array.getElem_of_mem hw
  have ra := vals_at r m hm
  have := eqAt_V (A := X.A.in1) (s := s) ra ru (flat_at fx m) fy
  rwa [← ofVal_rel ra] at this
end L2
namespace L2
open PySem PyProof.Rows PySem.Spec PySem.Calls
def rDq (K : PySem.W.Frag) (n : Nat) (b : Bool) : R2 := fun x y H Q => ∃ a c xs ys, x = .ref a ∧ y = .ref c ∧ ((SqL K H a xs ∧ SqL K H c ys) ∨ (SqT K H a xs ∧ SqT K H c ys)) ∧ xs.length = ys.length ∧ (∀ j, j < xs.length → Deq K H n (xs.getD j .non) (ys.getD j .non)) ∧ Q (.bl b) H
theorem in1_units {A : Around} {n : Nat} (h : A.units + (n + 1) < cLine) : A.in1.units + n < cLine := by
  have : A.in1.units = A.units + 1 := by first | rfl | exact Around.units_in1 _
  omega
theorem op_eq_dq {X : Cx} {n : Nat} (hu : X.A.units + (n + 1) < cLine) : OpR X (compareOp .Eq) (rDq X.K n true) := by
  intro pins s σ H x y v u Q I rx ry h
  obtain ⟨a, c, xs, ys, rfl, rfl, hs, hl, he, q⟩ := h
  cases rx
  cases ry
  rcases hs with ⟨h1, h2⟩ | ⟨h1, h2⟩
  · obtain ⟨its, r1, l1, _⟩ := I.list h1
    obtain ⟨jts, r2, l2, _⟩ := I.list h2
    have e1 := r1.length
    have e2 := r2.length
    have := SeqAt.RcAt.lists (A := X.A) (e := fun _ => true) l1.isList l2.isList (by simp; omega) (by omega) (fun j q1 q2 => deq_eqAt I n X.A.in1 _ _ _ _ (in1_units hu) (he j (by simp at q1; omega)) (vals_at r1 j q1) (vals_at r2 j q2))
    rw [show (List.range its.toArray.size).all (fun _ => true) = true from List.all_eq_true.mpr fun _ _ => rfl] at this
    exact this X.prog X.w _ _ ⟨.bl true, H, I, rfl, q⟩
  · obtain ⟨its, r1, l1, _⟩ := I.tuple h1
    obtain ⟨jts, r2, l2, _⟩ := I.tuple h2
    have e1 := r1.length
    have e2 := r2.length
    have := SeqAt.RcAt.tuples (A := X.A) (e := fun _ => true) l1 l2 (by omega) (fun j q1 q2 => deq_eqAt I n X.A.in1 _ _ _ _ (in1_units hu) (he j (by simp at q1; omega)) (vals_at r1 j q1) (vals_at r2 j q2))
    rw [show (List.range (min its.toArray.size jts.toArray.size)).all (fun _ => true) = true from List.all_eq_true.mpr fun _ _ => rfl, Bool.true_and, beq_iff_eq.mpr (by simp; omega)] at this
    exact this X.prog X.w _ _ ⟨.bl true, H, I, rfl, q⟩
theorem op_ne_dq {X : Cx} {n : Nat} (hu : X.A.units + (n + 1) < cLine) : OpR X (compareOp .NotEq) (rDq X.K n false) := by
  intro pins s σ H x y v u Q I rx ry h
  obtain ⟨a, c, xs, ys, rfl, rfl, hs, hl, he, q⟩ := h
  cases rx
  cases ry
  rcases hs with ⟨h1, h2⟩ | ⟨h1, h2⟩
  · obtain ⟨its, r1, l1, _⟩ := I.list h1
    obtain ⟨jts, r2, l2, _⟩ := I.list h2
    have e1 := r1.length
    have e2 := r2.length
    have := SeqAt.RcNeAt.lists (A := X.A) (e := fun _ => true) l1.isList l2.isList (by simp; omega) (by omega) (fun j q1 q2 => deq_eqAt I n X.A.in1 _ _ _ _ (in1_units hu) (he j (by simp at q1; omega)) (vals_at r1 j q1) (vals_at r2 j q2))
    rw [show (List.range its.toArray.size).all (fun _ => true) = true from List.all_eq_true.mpr fun _ _ => rfl] at this
    exact this X.prog X.w _ _ ⟨.bl false, H, I, rfl, q⟩
  · obtain ⟨its, r1, l1, _⟩ := I.tuple h1
    obtain ⟨jts, r2, l2, _⟩ := I.tuple h2
    have e1 := r1.length
    have e2 := r2.length
    have := SeqAt.RcNeAt.tuples (A := X.A) (e := fun _ => true) l1 l2 (by omega) (fun j q1 q2 => deq_eqAt I n X.A.in1 _ _ _ _ (in1_units hu) (he j (by simp at q1; omega)) (vals_at r1 j q1) (vals_at r2 j q2))
    rw [show (List.range (min its.toArray.size jts.toArray.size)).all (fun _ => true) = true from List.all_eq_true.mpr fun _ _ => rfl, Bool.true_and, beq_iff_eq.mpr (by simp; omega)] at this
    exact this X.prog X.w _ _ ⟨.bl false, H, I, rfl, q⟩
end L2
namespace L2
open PySem PyProof.Rows PySem.Spec PySem.Calls
theorem op_in_seqK {X : Cx} {K : PySem.W.Frag} (h : X.K = K) : OpR X (compareOp .In) (rIn K false) := h ▸ op_in_seq
theorem hu_n {A : Around} {k : Nat} (hr : Room k A) (n : Nat) (h : n ≤ 60) : A.units + (n + 1) < cLine := Nat.lt_of_le_of_lt (Nat.add_le_add_left (by omega : n + 1 ≤ 64) _) hr.units
end L2
namespace L2
open PySem PyProof.Rows PySem.Spec PySem.Calls
def inSt2 (frees : List (Str × Nat)) (σ : St) (x y : Option V) : St := x :: y :: frees.map fun p => (σ[p.2]?).join
def CompB2 (K : PySem.W.Frag) (J : It) (tc : TT) (te : TE) (σf : Option V → Option V → St) (H1 : Hp) (Q : VK) : Prop := ∀ D, H1 D = none →
  ∃ W : Nat → Nat → List V → Hp → Prop, (∃ m, W 0 m [] (upd H1 D (.lst []))) ∧ ∀ i m ys H2, W i m ys H2 → H2 D = some (.lst ys) ∧
    ((J.stop i H2 ∧ Q (.ref D) H2) ∨ (J.go i H2 ∧ ys.length < sizeLine ∧ ∀ z H3, J.yld i H2 z H3 → ∃ a x x2, z = .ref a ∧ SqT K H3 a [x, x2] ∧ tc (σf (some x) (some x2)) H3 fun b H4 =>
      if b = true then te (σf (some x) (some x2)) H4 fun y H5 => H5 D = some (.lst ys) ∧ ∃ m', m' < m ∧ W (i + 1) m' (ys ++ [y]) (upd H5 D (.lst (ys ++ [y]))) else ∃ m', m' < m ∧ W (i + 1) m' ys H4))
section
variable {X : Cx} {elt iter : Expr} {x x2 : Str} {px px2 tp pos : Pos} {kk : Nat} {ifs : List Expr} {scope : Scope} {frees : List (Str × Nat)} {tc : TT} {te : TE}
structure CompOk2 (X : Cx) (scope : Scope) (x x2 : Str) (frees : List (Str × Nat)) : Prop where
  cell : ∀ y ∈ scope.names, y.2 ≠ .cell
  kind : scope.kind = .function
  own : scope.names.lookup x = some .local
  own2 : scope.names.lookup x2 = some .local
  names : ∀ y ∈ scope.names, y.2 = .local → scope.names.lookup y.1 = some .local
  fr : FreesOk X scope frees
  nd : (x :: x2 :: frees.map (·.1)).Nodup
  cl : ∀ p ∈ scope.names, p.2 = .free → (X.env.cells.lookup p.1).isSome = true
  calm : X.calm = true
def tComp2 (K : PySem.W.Frag) (frees : List (Str × Nat)) (tc : TT) (te : TE) (wi : TI) : TE := fun σ H Q => wi σ H fun J H1 => CompB2 K J tc te (inSt2 frees σ) H1 Q
end
end L2
namespace L2
open PySem PySem.Spec PyProof.Rows
def rngV (i : Int) (n : Nat) : List V := (List.range n).map fun k => V.int (i + (k : Nat))
theorem vals_of : ∀ {xs : List V} {us : List Value}, xs.length = us.length → (∀ (k : Nat) x u, xs[k]? = some x → us[k]? = some u → RelV x u) → Vals xs us
  | [], [], _, _ => .nil
  | x :: xs, u :: us, e, h => .cons (h 0 x u rfl rfl) (vals_of (Nat.succ.inj e) fun k y w h1 h2 => h (k + 1) y w h1 h2)
  | [], _ :: _, e, _ => nomatch e
  | _ :: _, [], e, _ => nomatch e
section
variable {X : Cx}
def tListRange (ta : TA) : TE := fun σ H Q => ta σ H fun vs H1 => ∃ i j : Int, vs = [.int i, .int j] ∧ (-(2 ^ 62) ≤ i ∧ i < 2 ^ 62 ∧ -(2 ^ 62) ≤ j ∧ j < 2 ^ 62) ∧ (j - i).toNat ≤ sizeLine ∧ (j - i).toNat ≤ 2 ^ 24 ∧ ∀ l, H1 l = none → Q (.ref l) (upd H1 l (.lst (rngV i (j - i).toNat)))
end
end L2
namespace L2
open PySem PySem.Spec PyProof.Rows
def rListOf (K : PySem.W.Frag) : List V → Hp → VK → Prop := fun xs H Q => ∃ p ys, xs = [.ref p] ∧ (SqL K H p ys ∨ SqT K H p ys) ∧ ∀ l, H l = none → Q (.ref l) (upd H l (.lst ys))
theorem call_list_ofK {X : Cx} {K : PySem.W.Frag} (h : X.K = K) : CallR X (.type "list") (rListOf K) := h ▸ call_list_of
end L2
namespace PySem
open Sem (wp)
end PySem
namespace PySem
open Sem (wp)
section
variable {prog : Program} {w : World} {K : Type} [DecidableEq K] {knd : KeyKind prog w K} {A : Around} {R : Result → Shared → Prop}
def putAll (ps : List (K × Value)) : List (K × Value) := ps.foldl (fun acc p => stored acc p.1 p.2) []
end
end PySem
namespace L2
open PySem PySem.Spec PyProof.Rows
def rDictPairs (K : PySem.W.Frag) : List V → Hp → VK → Prop := fun xs H Q => ∃ p ts kvs, xs = [.ref p] ∧ H p = some (.lst ts) ∧ ts.length = kvs.length ∧ (∀ (i : Nat) y (q : Key × V), ts[i]? = some y → kvs[i]? = some q → ∃ t, y = .ref t ∧ SqT K H t [kV q.1, q.2]) ∧ (kvs.map (·.1)).Nodup ∧
  ∀ d, H d = none → Q (.ref d) (upd H d (.dK kvs))
def rDictOf : List V → Hp → VK → Prop := fun xs H Q => ∃ a kvs, xs = [.ref a] ∧ Rd H a (.dK kvs) ∧ ∀ d, H d = none → Q (.ref d) (upd H d (.dK kvs))
end L2
namespace L2
open PySem PyProof.Rows PySem.Spec PySem.Calls
section
variable {X : Cx}
def rGetL : V → V → Hp → VK → Prop := fun o i H Q => ∃ p xs k, o = .ref p ∧ i = .int k ∧ H p = some (.lst xs) ∧ 0 ≤ k ∧ k < ((xs.length : Nat) : Int) ∧ ∀ v, xs[k.toNat]? = some v → Q v H
def rEqT (K : PySem.W.Frag) (neg : Bool) : R2 := fun x y H Q => ∃ p q xs ys, x = .ref p ∧ y = .ref q ∧ SqT K H p xs ∧ SqT K H q ys ∧ xs.length = ys.length ∧ xs.all flatV = true ∧ ys.all flatV = true ∧ Q (.bl (if neg then !eqVs xs ys else eqVs xs ys)) H
end
end L2
namespace L2
open PySem PySem.Spec PyProof.Rows
section
variable {X : Cx}
def tPl (K : PySem.W.Frag) (B : Addr) (ts : TS) (tr : TH) : TH := fun D σ H C ea => PySem.W.excMk K C = true ∧ PySem.W.excMk K B = true ∧ ∃ b, PySem.W.mroHas K C (.ref B) = b ∧ if b = true then ts D σ H else tr D σ H C ea
end
end L2
namespace L2
open PySem PyProof.Rows PySem.Spec PySem.Calls
section
variable {X : Cx}
def rNeS (K : PySem.W.Frag) : R2 := fun x y H Q => (∃ a i xs, x = .ref a ∧ y = .str i ∧ (SqL K H a xs ∨ SqT K H a xs) ∧ Q (.bl true) H) ∨ rNe x y H Q
end
end L2
namespace L2
open PySem PySem.Spec PyProof.Rows
end L2
namespace L2
open PySem PySem.Spec PyProof.Rows
section
variable {X : Cx}
def rListDict : List V → Hp → VK → Prop := fun xs H Q => ∃ p kvs, xs = [.ref p] ∧ H p = some (.dK kvs) ∧ ∀ l, H l = none → Q (.ref l) (upd H l (.lst (kvs.map fun q => kV q.1)))
theorem call_list_dict (hc : X.calm = true) : CallR X (.type "list") rListDict := by
  intro pins s σ H xs us Q I r h
  obtain ⟨p, kvs, rfl, hp, q⟩ := h
  obtain ⟨u, rfl, rx⟩ := vals1 r
  cases rx
  obtain ⟨z, hd, vs, rk, o, es, ep, e', xd, dt, ko, pr, nd⟩ := I.hok p _ hp
  have hl := KV.length rk
  refine PySem.W.kdl_call (PySem.W.kdl_dict (knd := mixKind X.prog X.w) (kvs := vs) (ep := ep) hd) (I.ok.hd hc) ⟨o, es, e', xd, dt, ko, pr, nd⟩ (by omega) (fun h' tk acc' c' kp e it => ?_)
  refine ⟨.ref s.heap.objs.size, _, I.laid (t' := tk) kp (Nat.le_refl _) (show ObjOk X.prog X.w _ h' _ (.lst (kvs.map fun q => kV q.1)) from ⟨by rw [List.length_map]; exact z, acc'.toList, c', vals_of ?_ fun k x u hx hu => ?_, e⟩), rfl, q _ (I.hok.fresh (Nat.le_refl _))⟩
  · have h1 : acc'.toList.length = vs.length := it.1
    rw [List.length_map, h1]
    exact hl
  · have hu' : acc'[k]? = some u := by simpa using hu
    obtain ⟨k', x', e1, e2⟩ := it.2 k u hu'
    rw [List.getElem?_map] at hx
    obtain ⟨y, ey, rfl⟩ := Option.map_eq_some_iff.mp hx
    have q1 : (kvs.map (·.1))[k]? = (vs.map (·.1))[k]? := by rw [KV.keys rk]
    rw [List.getElem?_map, List.getElem?_map, ey, e1] at q1
    have q2 : y.1 = k' := Option.some.inj q1
    show RelV (kV y.1) u
    rw [q2]
    exact rel_key e2
end
end L2
namespace L2
open PySem PySem.Spec PyProof.Rows
section
variable {X : Cx}
def rSortedL (K : PySem.W.Frag) : List V → Hp → VK → Prop := fun xs H Q => ∃ p ss, xs = [.ref p] ∧ SqL K H p (ss.map V.str) ∧ ss.length < 64 ∧ ∀ l ss', H l = none → List.Perm ss' ss → sortedS ss' = true → Q (.ref l) (upd H l (.lst (ss'.map V.str)))
end
end L2
namespace L2
open PySem PySem.Calls PyProof.Rows PyProof.V PySem.Spec PySem.W
end L2
namespace L2
open PySem PySem.Spec PyProof.Rows
section
variable {X : Cx}
def rCount : V → List V → Hp → VK → Prop := fun x vs H Q => ∃ l xs y, x = .ref l ∧ vs = [y] ∧ H l = some (.lst xs) ∧ xs.all flatV = true ∧ flatV y = true ∧ Q (.int ((xs.countP fun z => eqV z y : Nat) : Int)) H
def rSortedD : List V → Hp → VK → Prop := fun xs H Q => ∃ p kvs ss, xs = [.ref p] ∧ H p = some (.dK kvs) ∧ kvs.map (fun q => kV q.1) = ss.map V.str ∧ ss.length < 64 ∧ ∀ l ss', H l = none → List.Perm ss' ss → sortedS ss' = true → Q (.ref l) (upd H l (.lst (ss'.map V.str)))
end
end L2
namespace L2
open PySem PySem.Spec PyProof.Rows
section
variable {X : Cx}
def rSIndex : V → List V → Hp → VK → Prop := fun x vs H Q => ∃ z y i rest, x = .str z ∧ vs = [.str y] ∧ Builtin.Str.occurrences z y 0 z.length 1 = i :: rest ∧ Q (.int ((i : Nat) : Int)) H
end
end L2
theorem L2.bt_sorted : PySem.bootBuiltins "sorted" = some (.builtin "sorted") := PyProof.Rows.boot_sorted
namespace L2
open PySem PyProof.Rows PySem.Spec PySem.Calls
section
variable {X : Cx}
def rSetD : V → List V → Hp → VK → Prop := fun x vs H Q => ∃ d kvs k y, x = .ref d ∧ vs = [kV k, y] ∧ H d = some (.dK kvs) ∧ kvs.length < 1000 ∧ (∀ u, valV kvs k = some u → Q u H) ∧ (valV kvs k = none → Q y (upd H d (.dK (kvs ++ [(k, y)]))))
def hasD (kb : List (Key × V)) (p : Key × V) : Bool := match valV kb p.1 with
  | some y => eqV p.2 y
  | none => false
def eqD (ka kb : List (Key × V)) : Bool := ka.length == kb.length && ka.all (hasD kb)
def rEqDk (neg : Bool) : R2 := fun x y H Q => ∃ a b ka kb, x = .ref a ∧ y = .ref b ∧ H a = some (.dK ka) ∧ H b = some (.dK kb) ∧ (∀ p ∈ ka, flatV p.2 = true) ∧ (∀ p ∈ kb, flatV p.2 = true) ∧ Q (.bl (if neg then !eqD ka kb else eqD ka kb)) H
def pickV (xs : List V) (lo hi st : Option Int) : List V := (sliceRange (sliceBounds lo hi st xs.length).1 (sliceBounds lo hi st xs.length).2.1 (sliceBounds lo hi st xs.length).2.2).filterMap (xs[·]?)
def tSl3 (K : PySem.W.Frag) (te : TE) (tl th ts : TO) : TE := fun σ H Q => te σ H fun x H1 => tl σ H1 fun l H2 => th σ H2 fun u H3 => ts σ H3 fun c H4 => ∃ a xs, x = .ref a ∧ SqL K H4 a xs ∧ c ≠ some 0 ∧ ∀ p, H4 p = none → Q (.ref p) (upd H4 p (.lst (pickV xs l u c)))
def thirds (n : Nat) : List Nat := (List.range n).filter fun k => k % 3 == 1
end
end L2
namespace L2
open PySem PyProof.Rows PySem.Spec PySem.Calls
def KW (v d : Addr) : HO := .ext fun h => PySem.W.KdlKeysView h v d
def VW (v d : Addr) : HO := .ext fun h => h.IsValuesView v d
section
variable {X : Cx}
def rKeys : V → List V → Hp → VK → Prop := fun x vs H Q => ∃ d kvs, x = .ref d ∧ vs = [] ∧ H d = some (.dK kvs) ∧ ∀ v, H v = none → Q (.ref v) (upd H v (KW v d))
def rListKeys : List V → Hp → VK → Prop := fun xs H Q => ∃ v d kvs, xs = [.ref v] ∧ H v = some (KW v d) ∧ H d = some (.dK kvs) ∧ ∀ l, H l = none → Q (.ref l) (upd H l (.lst (kvs.map fun q => kV q.1)))
def rValues : V → List V → Hp → VK → Prop := fun x vs H Q => ∃ d kvs, x = .ref d ∧ vs = [] ∧ H d = some (.dK kvs) ∧ ∀ v, H v = none → Q (.ref v) (upd H v (VW v d))
theorem kv_at {κ : Type} {R : κ × V → κ × Value → Prop} : ∀ {kvs : List (κ × V)} {vs : List (κ × Value)} {k : Nat} {p : κ × V} {q : κ × Value}, Paired R kvs vs → kvs[k]? = some p → vs[k]? = some q → R p q
  | _, _, k, _, _, .nil, e, _ => by simp at e
  | _, _, 0, _, _, .cons r _, e, e' => by
    obtain rfl := Option.some.inj e
    obtain rfl := Option.some.inj e'
    exact r
  | _, _, k + 1, _, _, .cons _ t, e, e' => kv_at (k := k) t e e'
def rListVals : List V → Hp → VK → Prop := fun xs H Q => ∃ v d kvs, xs = [.ref v] ∧ H v = some (VW v d) ∧ H d = some (.dK kvs) ∧ ∀ l, H l = none → Q (.ref l) (upd H l (.lst (kvs.map fun q => q.2)))
end
end L2
namespace L2
open PySem PyProof.Rows PySem.Spec PySem.Calls
def IW (v d : Addr) : HO := .ext fun h => h.IsItemsView v d
def Itm (d : Addr) (o : Obj) (kvs : List (Key × V)) : It :=
  ⟨fun i H => H d = some (.frz o (.dK kvs)) ∧ i < kvs.length, fun i H x H' => ∃ p k v, x = .ref p ∧ H p = none ∧ H' = upd H p (.tup [kV k, v]) ∧ kvs[i]? = some (k, v), fun i H => H d = some (.frz o (.dK kvs)) ∧ kvs.length = i⟩
theorem turn_items {P : Program} {w : World} {K : PySem.W.Frag} {elts : List Expr} {x1} {pos : Pos} (d it : Addr) (o : Obj) (kvs : List (Key × V)) {vs : List (Key × Value)} {es : Array DictEntry} {ep : Nat} (rk : KV kvs vs) (hd : o.ExactDict) (he : o.data = .dict es ep) (hk : KeysOf (mixKind P w) es) (hp : Pairs (mixKind P w) es.toList vs) (nd : (vs.map (·.1)).Nodup) :
    Turn P w K (.Tuple elts x1 pos) (Itm d o kvs) [it] it (fun i h => ∃ ok ov, IsItemIter h it d i vs.length ep ok ov) where
  mem := by simp
  obj := fun i h st b hb => by
    have e : b = it := by simpa using hb
    subst e
    obtain ⟨ok, ov, k⟩ := st
    exact ⟨_, k, fun v z => by cases z⟩
  keep := fun i h h' st k => by
    obtain ⟨ok, ov, q⟩ := st
    exact ⟨ok, ov, k it (by simp) _ q⟩
  item := by
    intro X hP hw hK hc i pins s σ H E I hf st hg
    subst hP hw hK
    obtain ⟨hz, hi⟩ := hg
    obtain ⟨eo, _⟩ := I.hok d _ hz
    obtain ⟨f0, f1, f2, f3, f4, f5⟩ := hf it (by simp)
    obtain ⟨ok, ov, k⟩ := st
    have hl := KV.length rk
    have hi2 : i < vs.length := by omega
    have ev : vs[i]? = some (vs[i].1, vs[i].2) := List.getElem?_eq_getElem hi2
    have ks : kvs[i]? = some (kvs[i].1, kvs[i].2) := List.getElem?_eq_getElem hi
    have keq : kvs[i].1 = vs[i].1 := by
      have q := KV.keys rk
      have q1 : (kvs.map (·.1))[i]? = (vs.map (·.1))[i]? := by rw [q]
      rw [List.getElem?_map, List.getElem?_map, ks, ev] at q1
      exact Option.some.inj q1
    have rvl : RelV kvs[i].2 vs[i].2 := (kv_at rk (List.getElem?_eq_getElem hi) (List.getElem?_eq_getElem hi2)).2
    refine wpAny_pyNext_items_item k ⟨o, es, eo, hd, he, hk, hp, nd⟩ ev fun key hz2 hkey ko tup sz kp => ?_
    refine ⟨_, rfl, ?_⟩
    refine wpAny_letOwnedTupleGo_items ko fun h3 k3 s3 => ?_
    have lt1 : it < s.heap.objs.size := Heap.lt_size k
    have tup3 : h3.get? s.heap.objs.size = some { cls := .type "tuple", data := .seq #[key, vs[i].2] } := (s3.2 _ (Nat.ne_of_gt lt1)).trans tup
    have fr : H s.heap.objs.size = none := I.hok.fresh (Nat.le_refl _)
    have I2 : Inv X pins σ (upd H s.heap.objs.size (.tup [kV kvs[i].1, kvs[i].2])) { s with heap := h3 } := by
      refine I.step (t' := s.toks) (g' := s.gens) (d' := s.drawn) (ch := [it]) (fun b hb => ?_) (fun b o _ _ hc e _ => ?_) (fun b o _ _ hc e _ => ?_) (fun b o _ e n => ?_) (fun b o hc e => ?_) (fun b xs e => ?_) (fun b o xs e => ?_) (fun b ps e => ⟨#[], ?_⟩) (fun m hm => ?_) (fun b v e => ?_) I.bare
      · rw [List.mem_singleton.mp hb]; exact ⟨f3, f1, f4, f5⟩
      · exact (s3.2 b (fun z => hc (by simp [z]))).trans (kp b o (fun z => hc (by simp [z])) e)
      · exact ⟨o.slots, (s3.2 b (fun z => hc (by simp [z]))).trans (kp b o (fun z => hc (by simp [z])) e)⟩
      · rw [upd_ne (Nat.ne_of_lt (Heap.lt_size e))]; exact n
      · exact ⟨o, (s3.2 b (fun z => hc (by simp [z]))).trans (kp b o (fun z => hc (by simp [z])) e)⟩
      · rw [upd_ne (ne_of_none e fr)]; exact e
      · rw [upd_ne (ne_of_none e fr)]; exact e
      · rw [upd_ne (ne_of_none e fr), e]; simp
      · obtain ⟨o, es, ep, ho, q⟩ := hm
        exact ⟨o, es, ep, (s3.2 _ (Ne.symm f1)).trans (kp _ o (Ne.symm f1) ho), q⟩
      · by_cases hb : b = s.heap.objs.size
        · subst hb
          rw [upd_same] at e
          cases e
          exact ⟨small (by show 2 ≤ 1000; decide), [key, vs[i].2], .cons (by rw [keq]; exact rel_key hkey) (.cons rvl .nil), _, tup3, rfl, _, rfl⟩
        · rw [upd_ne hb] at e
          have nn : ∀ c v, H c = some v → c ≠ it := fun c v q z => by rw [z, f0] at q; cases q
          refine (I.hok b v e).stay (fun c v' hc q => ?_) (fun c q => by rw [upd_ne (ne_of_none q fr)]; exact q) (fun c xs q => by rw [upd_ne (ne_of_none q fr)]; exact q)
          have m : c ≠ it := by
            rcases hc with z | z
            · rw [z]; exact nn b v e
            · exact nn c _ z
          exact (s3.2 c m).trans (kp c v' m q)
    refine ⟨.ref s.heap.objs.size, _, I2, rfl, ⟨_, _, _, rfl, fr, rfl, ks⟩, ⟨_, _, k3⟩, fun b hb => ?_⟩
    rw [upd_ne (fun z => ?_)]
    · exact (hf b hb).1
    · rw [z] at hb
      exact Nat.ne_of_gt lt1 (List.mem_singleton.mp hb)
  done := by
    intro X hP hw hK hc i pins s σ H E I hf st hg
    subst hP hw hK
    obtain ⟨hz, hi⟩ := hg
    obtain ⟨eo, _⟩ := I.hok d _ hz
    obtain ⟨f0, f1, f2, f3, f4, f5⟩ := hf it (by simp)
    obtain ⟨ok, ov, k⟩ := st
    have hl := KV.length rk
    have hin : vs[i]? = none := List.getElem?_eq_none (by omega)
    exact wpAny_pyNext_items_end (I.ok.hd hc) k ⟨o, es, eo, hd, he, hk, hp, nd⟩ hin fun h' eb => ⟨rfl, I.turned (t' := s.toks) (fun b o hb e => eb b o hb e) f0 f1 f3 f4 f5⟩
  self := fun A i s Q E st h => by
    obtain ⟨ok, ov, k⟩ := st
    exact PySem.W.kcp_self k h
section
variable {X : Cx} {elts : List Expr} {x1 : Nat} {tpos : Pos}
def rItems : V → List V → Hp → VK → Prop := fun x vs H Q => ∃ d o kvs, x = .ref d ∧ vs = [] ∧ H d = some (.frz o (.dK kvs)) ∧ ∀ v, H v = none → Q (.ref v) (upd H v (IW v d))
theorem mt_items : MtR X "dict.items" rItems := by
  intro pins s σ H x vs v us Q I rx rv h
  obtain ⟨d, o, kvs, rfl, rfl, hz, q⟩ := h
  cases rx
  cases rv
  obtain ⟨eo, z, hd, vs1, rk, o', es, ep, e', xd, dt, ko, pr, nd⟩ := I.hok d _ hz
  have d1 : s.heap.DictAt (mixKind X.prog X.w) d vs1 ep := ⟨o', es, e', xd, dt, ko, pr, nd⟩
  have d2 : s.heap.DictOf (mixKind X.prog X.w) d vs1 := d1.dictOf
  refine call_meetsIn PySem.F.slot_dict_items d2.typeIs PySem.F.entry_dict_items (PySem.F.args_dict_items_1 _) (meets_dict_items (mixKind X.prog X.w) d hd) ⟨⟨vs1, d2⟩, ?_⟩
  refine ⟨.ref s.heap.objs.size, _, I.laid (t' := s.toks) (o := IW s.heap.objs.size d) (fun b ob q => Heap.get?_push_of_some _ q) (Nat.le_refl _) ?_, rfl, q _ (I.hok.fresh (Nat.le_refl _))⟩
  refine ⟨⟨_, Heap.get?_push_size _ rfl, rfl, rfl⟩, ⟨_, Heap.get?_push_size _ rfl⟩, fun h1 h2 ⟨o, ho, r⟩ k => ⟨o, k o ho, r⟩⟩
def iItems (tl : TE) : TI := fun σ H R => tl σ H fun x H1 => ∃ v d o kvs, x = .ref v ∧ H1 v = some (IW v d) ∧ H1 d = some (.frz o (.dK kvs)) ∧ R (Itm d o kvs) H1
theorem pi_items {l : Expr} {tl : TE} (hl : PE X l tl) : PI X (.Tuple elts x1 tpos) l (iItems tl) := by
  intro pins s σ H R I h
  refine thn (hl pins s σ H _ I h) fun v s1 ⟨x, H1, I1, r1, q1⟩ => ?_
  obtain ⟨v, d, o, kvs, rfl, hv, hz, q⟩ := q1
  cases r1
  obtain ⟨eo, z, hd, vs, rk, o', es, ep, e', xd, dt, ko, pr, nd⟩ := I1.hok d _ hz
  rw [eo] at e'
  cases e'
  obtain ⟨kv, _, _⟩ := (show ObjOk X.prog X.w H1 s1.heap v (IW v d) from I1.hok v _ hv)
  refine wpAny_pyIter_items kv (knd := mixKind X.prog X.w) ⟨o, es, eo, xd, dt, ko, pr, nd⟩ ?_
  refine ⟨s1.heap.objs.size, [s1.heap.objs.size], _, _, H1, rfl, I1.kept (t' := s1.toks) fun b o e => Heap.get?_push_of_some _ e, turn_items d _ o kvs rk xd dt ko pr nd, ⟨_, _, Heap.get?_push_size _ rfl⟩, fun b hb => ?_, q⟩
  have e : b = s1.heap.objs.size := by simpa using hb
  subst e
  exact I1.fpOk (Nat.le_refl _) (I1.hok.fresh (Nat.le_refl _))
end
end L2
namespace L2
open PySem PyProof.Rows PySem.Spec PySem.Calls
def DeqD (H : Hp) (x y : V) : Prop := (x = y ∧ flatV x = true) ∨ ∃ a b ka kb, x = .ref a ∧ y = .ref b ∧ H a = some (.dK ka) ∧ H b = some (.dK kb) ∧ (∀ p ∈ ka, flatV p.2 = true) ∧ (∀ p ∈ kb, flatV p.2 = true) ∧ eqD ka kb = true
def rTd (K : PySem.W.Frag) : R2 := fun x y H Q => ∃ a c xs ys, x = .ref a ∧ y = .ref c ∧ SqT K H a xs ∧ SqT K H c ys ∧ xs.length = ys.length ∧ (∀ j, j < xs.length → DeqD H (xs.getD j .non) (ys.getD j .non)) ∧ Q (.bl true) H
end L2
namespace L2
open PySem PyProof.Rows PySem.Spec PySem.Calls
theorem for_items {d : Addr} {o : Obj} {kvs : List (Key × V)} {g : TG} {tb : TS} {D : Ends} {σ : St} {H : Hp} (Pv : Nat → St → Hp → Prop) (h0 : Pv 0 σ H) (hl : ∀ i σ H, i ≤ kvs.length → Pv i σ H → H d = some (.frz o (.dK kvs)))
    (hs : ∀ i k v p σ H, kvs[i]? = some (k, v) → H p = none → Pv i σ H → g (.ref p) σ (upd H p (.tup [kV k, v])) fun σ2 H2 => tb { D with nx := Pv (i + 1), ct := Pv (i + 1), bk := D.nx } σ2 H2) (hd : ∀ σ H, Pv kvs.length σ H → D.nx σ H) :
    ∃ W : Nat → Nat → St → Hp → Prop, (∃ m, W 0 m σ H) ∧ ∀ i m σ H, W i m σ H →
      ((Itm d o kvs).stop i H ∧ D.nx σ H) ∨ ((Itm d o kvs).go i H ∧ ∃ N : St → Hp → Prop, (∀ σ' H', N σ' H' → ∃ m', m' < m ∧ W (i + 1) m' σ' H') ∧ ∀ x H', (Itm d o kvs).yld i H x H' → g x σ H' fun σ2 H2 => tb { D with nx := N, ct := N, bk := D.nx } σ2 H2) := by
  refine ⟨fun i m σ H => m = kvs.length - i ∧ i ≤ kvs.length ∧ Pv i σ H, ⟨kvs.length, by simp, Nat.zero_le _, h0⟩, ?_⟩
  rintro i m σ H ⟨rfl, hi, p⟩
  have q := hl i σ H hi p
  by_cases hlt : i < kvs.length
  · refine .inr ⟨⟨q, hlt⟩, Pv (i + 1), fun σ' H' p' => ⟨kvs.length - (i + 1), by omega, rfl, hlt, p'⟩, fun x H' y => ?_⟩
    obtain ⟨a, k, v, rfl, na, rfl, e⟩ := y
    exact hs i k v a σ _ e na p
  · have e : i = kvs.length := by omega
    subst e
    exact .inl ⟨⟨q, rfl⟩, hd σ H p⟩
section
variable {X : Cx}
def tItems0 (to : TE) : TE := fun σ H Q => to σ H fun x H1 => rItems x [] H1 Q
theorem pe_items0 {o : Expr} {to : TE} {apos cpos : Pos} (ho : PE X o to) (hbase : attributeBase o "items" X.env (eval o X.env) = eval o X.env := by rfl) (hline : (apos.endLine == cpos.line) = true := by rfl) : PE X (.Call (.Attribute o "items" apos) [] [] cpos) (tItems0 to) := by
  intro pins s σ H Q I h
  refine wpAny_Call_method0_late hbase hline (thn (ho pins s σ H _ I h) fun v s1 ⟨x, H1, I1, r1, q1⟩ => ?_)
  have q2 := q1
  obtain ⟨d, o, kvs, rfl, _, hz, _⟩ := q2
  have r2 := r1
  cases r1
  obtain ⟨_, _, _, _, _, o', _, _, e', xd, _⟩ := I1.hok d _ hz
  exact ⟨"dict", "dict.items", PySem.F.plainAttrs_dict, PySem.F.slot_dict_items, PySem.F.type_dict_items, ⟨o', e', xd.1⟩, fun a e => by cases e; exact ⟨o', e', xd.2.1⟩, Calls.callWith_builtin rfl (PySem.evalArgs_none (mt_items pins s1 σ H1 (.ref d) [] _ [] Q I1 r2 .nil q1))⟩
end
end L2
namespace L2
open PySem PyProof.Rows PySem.Spec PySem.Calls
def DeqB (K : PySem.W.Frag) (H : Hp) : Nat → V → V → Bool → Prop
  | 0, x, y, b => flatV x = true ∧ flatV y = true ∧ b = eqV x y
  | n + 1, x, y, b => (flatV x = true ∧ flatV y = true ∧ b = eqV x y) ∨ ∃ a c xs ys, x = .ref a ∧ y = .ref c ∧ (a = c → b = true) ∧ ((SqL K H a xs ∧ SqL K H c ys) ∨ (SqT K H a xs ∧ SqT K H c ys)) ∧ xs.length = ys.length ∧ ∃ e : Nat → Bool, (∀ j, j < xs.length → DeqB K H n (xs.getD j .non) (ys.getD j .non) (e j)) ∧ b = (List.range xs.length).all e
def rDb (K : PySem.W.Frag) (n : Nat) (neg : Bool) : R2 := fun x y H Q => ∃ a c xs ys, x = .ref a ∧ y = .ref c ∧ ((SqL K H a xs ∧ SqL K H c ys ∧ xs.length ≠ ys.length ∧ Q (.bl neg) H) ∨
  (((SqL K H a xs ∧ SqL K H c ys) ∨ (SqT K H a xs ∧ SqT K H c ys)) ∧ xs.length = ys.length ∧ ∃ e : Nat → Bool, (∀ j, j < xs.length → DeqB K H n (xs.getD j .non) (ys.getD j .non) (e j)) ∧ Q (.bl (if neg then !(List.range xs.length).all e else (List.range xs.length).all e)) H))
def rNeLd (K : PySem.W.Frag) : R2 := fun x y H Q => ∃ a c xs ys, x = .ref a ∧ y = .ref c ∧ SqL K H a xs ∧ SqL K H c ys ∧ xs.length = ys.length ∧ (∀ j, j < xs.length → Deq K H 2 (xs.getD j .non) (ys.getD j .non) ∨ DeqD H (xs.getD j .non) (ys.getD j .non)) ∧ Q (.bl false) H
end L2
namespace L2
open PySem PyProof.Rows PySem.Spec PySem.Calls
def cxLam (P : Program) (w : World) (K : PySem.W.Frag) (mg : Str → Option Value) (base : Heap) (x y : Str) (qual : Str) (scope : Scope) (f : Addr) (cd : Value) (cl : List (Str × Addr)) (A : Around) (outer : List Env) (s : Shared) (H : Hp) : Cx where
  prog := P
  w := w
  K := K
  mg := mg
  base := base
  A := A.deeper (PySem.W.envX qual scope s.heap.objs.size f cd cl)
  N := [x, y]
  s₀ := s
  H₀ := H
  env := PySem.W.envX qual scope s.heap.objs.size f cd cl
  outer := outer
  stack := PySem.W.envX qual scope s.heap.objs.size f cd cl :: outer
  ex := []
  fn := fun z => z == x
  calm := true
  pn := []
  xe := fun _ _ => False
structure LamScope (x y : Str) (scope : Scope) : Prop where
  kind : scope.kind = .function
  co : scope.isCoroutine = false
  gen : scope.isGenerator = false
  lx : scope.names.lookup x = some .local
  ly : scope.names.lookup y = some .free
  nocell : ∀ z ∈ scope.names, z.2 ≠ .cell
  one : ∀ z, scope.names.lookup z = some .free → z = y
  ne : x ≠ y
end L2
namespace L2
open PySem PyProof.Rows PySem.Spec PySem.Calls
def lexB (e lt : Nat → Bool) : List Nat → Bool
  | [] => false
  | j :: r => if e j then lexB e lt r else lt j
def ltV (x y : V) : Bool := match x, y with
  | .int i, .int j => decide (i < j)
  | .str i, .str j => decide (i.cps.toList < j.cps.toList)
  | _, _ => false
def OrdV (x y : V) : Prop := (∃ i j, x = .int i ∧ y = .int j) ∨ ∃ i j, x = .str i ∧ y = .str j
def lexV (xs ys : List V) : Bool := lexB (fun j => eqV (xs.getD j .non) (ys.getD j .non)) (fun j => ltV (xs.getD j .non) (ys.getD j .non)) (List.range xs.length)
end L2
namespace L2
open PySem PyProof.Rows PySem.Spec PySem.Calls
section
variable {X : Cx} {pins : List (Addr × Obj)} {σ : St}
theorem pin_less {H : Hp} {s : Shared} {l : List (Addr × Obj)} (J : Inv X (pins ++ l) σ H s) : Inv X pins σ H s := J.pins_of fun r hr => J.pin r (List.mem_append_right _ (List.mem_append_left _ hr))
theorem pin_turn {H : Hp} {s : Shared} {S I : Addr} {so io so' : Obj} {h' : Heap} {t' : Nat} (J : Inv X (pins ++ [(S, so), (I, io)]) σ H s) (k : ∀ b o, b ≠ S → s.heap.get? b = some o → h'.get? b = some o) (e : h'.get? S = some so') (nc : ∀ v, so'.data ≠ .cell v)
    (h1 : X.s₀.heap.objs.size ≤ S) (h2 : ∀ x c, X.env.cells.lookup x = some c → c ≠ S) (h3 : ∀ p ∈ X.pn ++ pins, p.1 ≠ S) (hIS : I ≠ S) : Inv X (pins ++ [(S, so'), (I, io)]) σ H { s with heap := h', toks := t' } := by
  have pS := J.pin (S, so) (List.mem_append_right _ (List.mem_append_right _ (.head _)))
  have pI := J.pin (I, io) (List.mem_append_right _ (List.mem_append_right _ (.tail _ (.head _))))
  have J2 := (pin_less J).turned (t' := t') k pS.2.1 pS.2.2.1 (.inr h1) h2 h3
  refine J2.pins_of fun r hr => ?_
  rcases List.mem_append.mp hr with hr | hr
  · exact J2.pin r (List.mem_append_right _ hr)
  · rcases List.mem_cons.mp hr with rfl | hr
    · exact ⟨e, pS.2.1, pS.2.2.1, pS.2.2.2.1, nc⟩
    · rw [List.mem_singleton.mp hr]
      exact ⟨k _ _ hIS pI.1, pI.2⟩
structure OwnA (X : Cx) (pins : List (Addr × Obj)) (S : Addr) : Prop where
  h1 : X.s₀.heap.objs.size ≤ S
  h2 : ∀ x c, X.env.cells.lookup x = some c → c ≠ S
  h3 : ∀ p ∈ X.pn ++ pins, p.1 ≠ S
end
end L2
namespace L2
open PySem PyProof.Rows PySem.Spec PySem.Calls
def CD (c : Addr) (qual : Str) : HO := .ext fun h => h.CodeRec (.ref c) qual
def FN (f : Addr) (o : Obj) : HO := .ext fun h => h.get? f = some o
theorem cd_ok {P : Program} {w : World} {H : Hp} {h : Heap} {c : Addr} {qual : Str} (e : h.CodeRec (.ref c) qual) : ObjOk P w H h c (CD c qual) := by
  refine ⟨e, ?_, fun h1 h2 e1 k => ?_⟩
  · obtain ⟨c', oc, vs, tq, hc, hoc, _⟩ := e
    cases hc
    exact ⟨oc, hoc⟩
  · obtain ⟨c', oc, vs, tq, hc, hoc, hd, hq⟩ := e1
    cases hc
    exact ⟨c, oc, vs, tq, rfl, k _ hoc, hd, hq⟩
theorem fn_ok {P : Program} {w : World} {H : Hp} {h : Heap} {f : Addr} {o : Obj} (e : h.get? f = some o) : ObjOk P w H h f (FN f o) := ⟨e, ⟨o, e⟩, fun _ _ e1 k => k _ e1⟩
def tab1 (pos : Pos) (c : Addr) : Array Value := #[rawInt pos.line, rawInt pos.col, .ref c]
def TabAt (H : Hp) (P : Addr) (pos : Pos) (qual : Str) (c : Addr) : Prop := H P = some (.tbl (tab1 pos c)) ∧ H c = some (CD c qual)
def TabOk (H : Hp) (P : Addr) (pos : Pos) (qual : Str) : Prop := H P = some (.tbl #[]) ∨ ∃ c, TabAt H P pos qual c
def SameP (P : Addr) (H H' : Hp) : Prop := ∀ b o, b ≠ P → H b = some o → H' b = some o
theorem SameP.refl (P : Addr) (H : Hp) : SameP P H H := fun _ _ _ e => e
theorem SameP.trans {P : Addr} {H H1 H2 : Hp} (a : SameP P H H1) (b : SameP P H1 H2) : SameP P H H2 := fun x o n e => b x o n (a x o n e)
theorem Same.p {P : Addr} {H H' : Hp} (a : Same H H') : SameP P H H' := fun b o _ e => a b o e
theorem TabAt.same {H H' : Hp} {P : Addr} {pos : Pos} {qual : Str} {c : Addr} (t : TabAt H P pos qual c) (s : Same H H') : TabAt H' P pos qual c := ⟨s _ _ t.1, s _ _ t.2⟩
theorem TabOk.same {H H' : Hp} {P : Addr} {pos : Pos} {qual : Str} (t : TabOk H P pos qual) (s : Same H H') : TabOk H' P pos qual := t.imp (s _ _) fun ⟨c, z⟩ => ⟨c, z.same s⟩
def BMain (base : Heap) (mg : Str → Option Value) : Prop := ∃ bm ob, mg "__builtins__" = some (.ref bm) ∧ bm ≠ builtinsNs ∧ base.get? bm = some ob ∧ ob.cls = .type "module" ∧ ob.dict = some builtinsNs ∧ ob.data = .plain
section
variable {X : Cx} {pins : List (Addr × Obj)} {σ : St} {H : Hp} {s : Shared}
theorem Inv.bat {P : Addr} {ps : Array Value} (I : Inv X pins σ H s) (B : BMain X.base X.mg) (hP : s.heap.get? P = some (PySem.W.tabObj ps)) : s.heap.BuiltinsAt X.mg P := by
  obtain ⟨bm, ob, h1, h2, h3, h4, h5, h6⟩ := B
  have e := I.bk _ _ h3
  refine ⟨bm, ob, h1, h2, fun z => ?_, fun z => ?_, e, h4, h5, h6⟩
  · obtain ⟨o, es, ep, ho, hd, _⟩ := I.mod.glob.keeps I.bk
    rw [z, ho] at e; cases e; rw [hd] at h6; cases h6
  · rw [z, hP] at e; cases e; cases h4
theorem Inv.gP {P : Addr} {ps : Array Value} (I : Inv X pins σ H s) (hP : s.heap.get? P = some (PySem.W.tabObj ps)) : mainGlobals ≠ P := fun z => by
  obtain ⟨o, es, ep, ho, hd, _⟩ := I.mod.glob.keeps I.bk
  rw [z, hP] at ho; cases ho; cases hd
theorem Inv.grown {P c : Addr} {ps ps' : Array Value} {qual : Str} {h' : Heap} {tk : Nat} (I : Inv X pins σ H s) (hH : H P = some (.tbl ps)) (hx : Heap.ExtBut P s.heap h') (hc : s.heap.objs.size ≤ c) (hrec : h'.CodeRec (.ref c) qual) (hP : h'.get? P = some (PySem.W.tabObj (ps ++ ps'))) :
    Inv X pins σ (upd (upd H P (.tbl (ps ++ ps'))) c (CD c qual)) { s with heap := h', toks := tk } := by
  have nc : H c = none := I.hok.fresh hc
  have cP : c ≠ P := fun z => by rw [z, hH] at nc; cases nc
  have ne : ∀ b, H b = none → b ≠ P := fun b n z => by rw [z, hH] at n; cases n
  have HH : ∀ b, b ≠ P → b ≠ c → upd (upd H P (.tbl (ps ++ ps'))) c (CD c qual) b = H b := fun b n1 n2 => by rw [upd_ne n2, upd_ne n1]
  have some_ne : ∀ b u, H b = some u → b ≠ c := fun b u e z => by rw [z, nc] at e; cases e
  refine I.un (t' := tk) ⟨fun b o e n _ _ => hx b o (ne b n) e, fun b o e n _ _ => ⟨o.slots, hx b o (ne b n) e⟩, fun b o e n _ => by rw [HH b (ne b n) (fun z => Nat.not_lt.mpr hc (by rw [← z]; exact Heap.lt_size e))]; exact n, fun b o e _ => ?_, fun b xs e => ?_, fun b o u e => ?_, fun b qs e => ?_⟩ (fun b u e => ?_)
  · by_cases z : b = P
    · exact ⟨_, z ▸ hP⟩
    · exact ⟨o, hx b o z e⟩
  · rw [HH b (ne_of e hH (by intro z; cases z)) (some_ne b _ e)]; exact e
  · rw [HH b (ne_of e hH (by intro z; cases z)) (some_ne b _ e)]; exact e
  · by_cases z : b = P
    · subst z
      rw [hH] at e
      injection e with e
      injection e with e
      subst e
      exact ⟨ps', by rw [upd_ne (Ne.symm cP), upd_same]⟩
    · exact ⟨#[], by rw [HH b z (some_ne b _ e), e]; simp⟩
  · by_cases z : b = c
    · subst z
      rw [upd_same] at e
      obtain rfl := Option.some.inj e
      exact cd_ok hrec
    · rw [upd_ne z] at e
      by_cases z2 : b = P
      · subst z2
        rw [upd_same] at e
        obtain rfl := Option.some.inj e
        exact hP
      · rw [upd_ne z2] at e
        refine (I.hok b u e).stay (fun d v hd q => hx d v ?_ q) (fun d q => ?_) (fun d xs q => ?_)
        · rcases hd with rfl | hd
          · exact z2
          · exact ne_of hd hH (by intro z; cases z)
        · rw [HH d (ne_of q hH (by intro z; cases z)) (some_ne d _ q)]; exact q
        · rw [HH d (ne_of q hH (by intro z; cases z)) (some_ne d _ q)]; exact q
def LamO (qual : Str) (params : Arguments) (body : Expr) (scope : Scope) (clos : List (Str × Addr)) (c : Addr) (o : Obj) : Prop := ∃ pm ctv, o = PySem.W.kla_obj "<lambda>" qual params body scope clos pm c ctv
theorem pe_lam {params : Arguments} {body : Expr} {scope : Scope} {pos : Pos} {c₀ P : Addr} {clos : List (Str × Addr)} {Q : VK} (I : Inv X pins σ H s) (B : BMain X.base X.mg) (hcode : X.env.code = .ref c₀) (C : PySem.W.codeHdIn X.K c₀ P = true) (hcl : closureFor scope X.env = pure clos) (hdef : defaultsOf params X.env = ([], []))
    (ht : TabOk H P pos (X.env.qual ++ "<lambda>")) (q : ∀ f o c H', SameP P H H' → H f = none → TabAt H' P pos (X.env.qual ++ "<lambda>") c → H' f = some (FN f o) → LamO (X.env.qual ++ "<lambda>") params body scope clos c o → Q (.ref f) H') :
    wpAny (model X.prog X.w) X.A (eval (.Lambda params body scope pos) X.env) (EP X pins σ Q) X.xe s := by
  have CH := PySem.W.codeHd_of_K I.kIn C
  have G := I.mod.glob.keeps I.bk
  refine PySem.W.kla_eval hdef ?_
  rcases ht with ht | ⟨c, ht, hc⟩
  · have hP : s.heap.get? P = some (PySem.W.tabObj #[]) := I.hok P _ ht
    refine PySem.W.kla_makeFunction (mg := X.mg) hcl I.ok.glob G hcode CH hP trivial rfl (I.gP hP) (I.bat B hP) fun c' ctv h' tk hx hge hlt hrec htb => ?_
    have J := I.grown (tk := tk) ht hx hge hrec (ps' := #[rawInt pos.line, rawInt pos.col, .ref c']) htb
    have nf : upd (upd H P (.tbl (#[] ++ #[rawInt pos.line, rawInt pos.col, .ref c']))) c' (CD c' (X.env.qual ++ "<lambda>")) h'.objs.size = none := J.hok.fresh (Nat.le_refl _)
    have nf0 : H h'.objs.size = none := I.hok.fresh (Nat.le_trans hge (Nat.le_of_lt hlt))
    have nc : H c' = none := I.hok.fresh hge
    have cP : c' ≠ P := fun z => by rw [z, ht] at nc; cases nc
    have fc : h'.objs.size ≠ c' := Nat.ne_of_gt hlt
    have fP : h'.objs.size ≠ P := fun z => by rw [z, ht] at nf0; cases nf0
    refine ⟨.ref h'.objs.size, _, J.laid (t' := tk) (a := h'.objs.size) (o := FN h'.objs.size (PySem.W.kla_obj "<lambda>" (X.env.qual ++ "<lambda>") params body scope clos ((X.mg "__name__").getD .none) c' ctv)) (fun b o e => Heap.get?_push_of_some _ e) (Nat.le_refl _) (fn_ok (Heap.get?_push_size _ rfl)), rfl, ?_⟩
    refine q _ _ c' _ (fun b o nb e => ?_) nf0 ⟨?_, ?_⟩ upd_same ⟨_, _, rfl⟩
    · have n1 : b ≠ h'.objs.size := fun z => by rw [z, nf0] at e; cases e
      have n2 : b ≠ c' := fun z => by rw [z, nc] at e; cases e
      rw [upd_ne n1, upd_ne n2, upd_ne nb]; exact e
    · rw [upd_ne (Ne.symm fP), upd_ne (Ne.symm cP), upd_same]; rfl
    · rw [upd_ne (Ne.symm fc), upd_same]
  · have hP : s.heap.get? P = some (PySem.W.tabObj (tab1 pos c)) := I.hok P _ ht
    have hrec : s.heap.CodeRec (.ref c) (X.env.qual ++ "<lambda>") := (I.hok c _ hc).1
    refine PySem.W.kla_makeFunctionHit (mg := X.mg) (cv := .ref c) hcl I.ok.glob G hcode CH hP trivial (by show (if _ then _ else _) = _; simp [rawInt]) (I.bat B hP) fun ctv h' tk hk hsz => ?_
    have J := I.kept (t' := tk) hk
    have nf : H h'.objs.size = none := I.hok.fresh hsz
    refine ⟨.ref h'.objs.size, _, J.laid (t' := tk) (a := h'.objs.size) (o := FN h'.objs.size (PySem.W.kla_obj "<lambda>" (X.env.qual ++ "<lambda>") params body scope clos ((X.mg "__name__").getD .none) c ctv)) (fun b o e => Heap.get?_push_of_some _ e) (Nat.le_refl _) (fn_ok (Heap.get?_push_size _ rfl)), rfl, ?_⟩
    have ss := same_new nf (FN h'.objs.size (PySem.W.kla_obj "<lambda>" (X.env.qual ++ "<lambda>") params body scope clos ((X.mg "__name__").getD .none) c ctv))
    exact q _ _ c _ ss.p nf ⟨ss _ _ ht, ss _ _ hc⟩ upd_same ⟨_, _, rfl⟩
end
end L2
namespace L2
open PySem PyProof.Rows PySem.Spec PySem.Calls
theorem cw_bltkw {M : Model} {A : Around} {E : Value → Shared → Prop} {s : Shared} {pos : Pos} {T : String} {args : List (Bool × Sem Value)} {kws : List (Option Str × Sem Value)} {Q : Value → Shared → Prop} (hp : (args.any (·.1) || kws.any (·.1.isNone)) = false)
    (h : wpAny M A (evalArgs (.builtin T) true args kws) (fun a s1 => wpAny M A (call (.builtin T) a.pos a.kw) Q E s1) E s) : wpAny M A (callWith pos (.builtin T) [] args kws) Q E s := by
  unfold callWith
  refine wpAny_bind (wpAny_holding (wpAny_mono h (fun a s1 h1 => wpAny_bind (wpAny_standAt ?_)) fun _ _ x => x))
  simp only [hp]
  refine wpAny_bind (wpAny_pure ?_)
  exact wpAny_bind (wpAny_mono h1 (fun r s2 hr => wpAny_bind (wpAny_holding (wpAny_point (wpAny_pure hr)))) fun _ _ x => x)
theorem SqL.sameP {K : PySem.W.Frag} {H H' : Hp} {P l : Addr} {xs : List V} {ps : Array Value} (h : SqL K H l xs) (hP : H P = some (.tbl ps)) (s : SameP P H H') : SqL K H' l xs := by
  rcases h with (h | ⟨o, h⟩) | h
  · exact .inl (.inl (s _ _ (ne_of h hP (by intro z; cases z)) h))
  · exact .inl (.inr ⟨o, s _ _ (ne_of h hP (by intro z; cases z)) h⟩)
  · exact .inr h
theorem TabOk.is {H : Hp} {P : Addr} {pos : Pos} {qual : Str} (t : TabOk H P pos qual) : ∃ ps, H P = some (.tbl ps) := by
  rcases t with t | ⟨c, t, _⟩
  · exact ⟨_, t⟩
  · exact ⟨_, t⟩
section
variable {X : Cx}
def tLam (P : Addr) (pos : Pos) (qual : Str) (params : Arguments) (body : Expr) (scope : Scope) (clos : List (Str × Addr)) : TE := fun _ H Q => TabOk H P pos qual ∧ ∀ f o c H', SameP P H H' → H f = none → TabAt H' P pos qual c → H' f = some (FN f o) → LamO qual params body scope clos c o → Q (.ref f) H'
theorem pe_lamE {params : Arguments} {body : Expr} {scope : Scope} {pos : Pos} {c₀ P : Addr} {clos : List (Str × Addr)} (B : BMain X.base X.mg) (hcode : X.env.code = .ref c₀) (C : PySem.W.codeHdIn X.K c₀ P = true) (hcl : closureFor scope X.env = pure clos) (hdef : defaultsOf params X.env = ([], []) := by rfl) :
    PE X (.Lambda params body scope pos) (tLam P pos (X.env.qual ++ "<lambda>") params body scope clos) := fun pins s σ H Q I h => pe_lam I B hcode C hcl hdef h.1 h.2
def tMinLam (K : PySem.W.Frag) (ta : TA) (P : Addr) (pos : Pos) (qual : Str) (tb : TE) (iy : Nat) : TE := fun σ H Q => ta σ H fun vs H1 => ∃ (l : Addr) (xs : List V) (vy : V) (key : Nat → List V), vs = [.ref l] ∧ SqL K H1 l xs ∧ 0 < xs.length ∧ σ[iy]? = some (some vy) ∧ TabOk H1 P pos qual ∧
  (∀ i j, i < xs.length → j < xs.length → (key i).length = (key j).length ∧ (key i).all flatV = true ∧ ∀ n, n < (key i).length → OrdV ((key i).getD n .non) ((key j).getD n .non)) ∧
  (∀ H2, SameP P H1 H2 → ∀ (i : Nat) x, xs[i]? = some x → tb [some x, some vy] H2 fun v H4 => ∃ p, v = .ref p ∧ Same H2 H4 ∧ H4 p = some (.tup (key i))) ∧
  ∀ H' v, SameP P H1 H' → TabOk H' P pos qual → xs[argBest (fun i j => lexV (key i) (key j)) (xs.length - 1)]? = some v → Q v H'
end
end L2
namespace L2
open PySem PySem.Spec PyProof.Rows
theorem law_callT {P : Program} {w : World} {K : PySem.W.Frag} {mg mb : Str → Option Value} {CX : CXT} {k : Nat} {fa a : Addr} {fd : FuncData} {x : Str} {sp : Sp} {s₁ : Shared} {vs : List Value} {ns : List Int} {ts : List (Addr × Addr)}
    (KX : K.In s₁.heap) (hns : s₁.heap.Ns mainGlobals mg) (hb : s₁.heap.Ns builtinsNs mb) (hbb : ∀ x : Str, x ≠ "__name__" → mb x = bootBuiltins x) (hlim : s₁.heap.NoLimit) (hbm : BMain s₁.heap mg) (hg : s₁.gens = #[])
    (hT : ∀ t ∈ ts, s₁.heap.get? t.2 = some (PySem.W.tabObj #[])) (hC : ∀ t ∈ ts, PySem.W.codeHdIn K t.1 t.2 = true) (hKt : ∀ t ∈ ts, K.lookup t.2 = none)
    (ha : s₁.heap.get? a = some { cls := .type "list", data := .seq vs.toArray }) (hi : IntsAre vs ns) (hl : ns.length ≤ sizeLine) (hr : Room k callerA)
    (F : ∀ base : Heap, K.In base → base.Ns mainGlobals mg → BMain base mg → FnOk P w K mg base CX k fa fd [x] sp) (hbind : ∀ (s : Shared) (u : Value), BindsTo s fd ⟨[u], []⟩ [(x, u)])
    (hsp : ∀ H : Hp, (∀ t ∈ ts, H t.2 = some (.tbl #[])) → SqL K H a (ns.map V.int) → sp [.ref a] H (fun v _ => v = .bl true) fun _ _ _ => False)
    (hCX : ∀ H e s', CX [] H s₁ (fun _ _ _ => False) e s' → False) :
    codeAny (model P w) callerA (.call (.ref fa) ⟨[.ref a], []⟩) (fun r s' => r = .ok (.ret (.bool true)) ∧ OldK s₁.heap s'.heap ∧ s'.os = s₁.os ∧ AllBare s'.gens) s₁ := by
  have rv := vals_ints hi
  have lenV := hi.length
  have core : ∀ H : Hp, (∀ b, H b = none ∨ (∃ o xs, H b = some (.frz o (.lst xs))) ∨ ((∃ t ∈ ts, t.2 = b) ∧ H b = some (.tbl #[]))) → (∀ t ∈ ts, H t.2 = some (.tbl #[])) → SqL K H a (ns.map V.int) → HOk P w H s₁.heap → (∀ b, H b ≠ none → b = a ∨ ∃ t ∈ ts, t.2 = b) → (H a ≠ none → K.lookup a = none) →
      codeAny (model P w) callerA (.call (.ref fa) ⟨[.ref a], []⟩) (fun r s' => r = .ok (.ret (.bool true)) ∧ OldK s₁.heap s'.heap ∧ s'.os = s₁.os ∧ AllBare s'.gens) s₁ := by
    intro H hO hOt hS hok hA hK
    have base_of : ∀ {b : Addr} {o : Obj}, s₁.heap.get? b = some o → H b = none → (hidT s₁.heap H).get? b = some o := fun e n => hidT_get e n
    have trk : ∀ {b : Addr} {o : Obj}, s₁.heap.get? b = some o → o.cls ≠ .type "list" → o.cls ≠ .none → H b = none := fun {b o} e n1 n2 => by
      cases q : H b with
      | none => rfl
      | some u =>
        rcases hA b (by rw [q]; simp) with e' | ⟨t, ht, e'⟩
        · subst e'
          rw [ha] at e; cases e
          exact absurd rfl n1
        · subst e'
          rw [hT t ht] at e; cases e
          exact absurd rfl n2
    have noA : ∀ {b : Addr} {o : Obj} {es : Array DictEntry} {ep : Nat}, s₁.heap.get? b = some o → o.data = .dict es ep → H b = none := fun {b o es ep} e d => by
      cases q : H b with
      | none => rfl
      | some u =>
        rcases hA b (by rw [q]; simp) with e' | ⟨t, ht, e'⟩
        · subst e'
          rw [ha] at e; cases e
          have d' : Data.seq vs.toArray _ = Data.dict es ep := d
          cases d'
        · subst e'
          rw [hT t ht] at e; cases e
          have d' : Data.fields _ = Data.dict es ep := d
          cases d'
    have nsK : ∀ {b : Addr} {m : Str → Option Value}, s₁.heap.Ns b m → (hidT s₁.heap H).Ns b m := fun {b m} ⟨o, es, ep, e, d, r⟩ => ⟨o, es, ep, base_of e (noA e d), d, r⟩
    have hKb : K.In (hidT s₁.heap H) := fun b o e => base_of (KX b o e) (by
      cases q : H b with
      | none => rfl
      | some u =>
        rcases hA b (by rw [q]; simp) with e' | ⟨t, ht, e'⟩
        · subst e'
          rw [hK (by rw [q]; simp)] at e; cases e
        · subst e'
          rw [hKt t ht] at e; cases e)
    have hM : Mod K mg (hidT s₁.heap H) := ⟨hKb, nsK hns, ⟨mb, nsK hb, hbb⟩, let ⟨mc, h1, h2⟩ := hlim; ⟨mc, nsK h1, h2⟩⟩
    have hB : BMain (hidT s₁.heap H) mg := by
      obtain ⟨bm, ob, h1, h2, h3, h4, h5⟩ := hbm
      exact ⟨bm, ob, h1, h2, base_of h3 (trk h3 (by rw [h4]; decide) (by rw [h4]; intro z; cases z)), h4, h5⟩
    have e0 : Env0 P w K mg (hidT s₁.heap H) callerA [] s₁ H := ⟨rfl, hM, fun b o e => of_hidT e, Nat.le_of_eq (hidT_size _ _), trivial, fun b hb => absurd (show b ∈ ([] : List Addr) from hb) (by simp), hok, .of_eq hg⟩
    refine codeAny_mono ((F _ hKb (nsK hns) hB).run callerA [] s₁ H ⟨[.ref a], []⟩ [.ref a] [.ref a] _ _ hr e0 (hbind s₁ (.ref a)) (.cons rfl .nil) (hsp H hOt hS)) fun r s' h => ?_
    cases r with
    | error e => exact (hCX H e s' h).elim
    | ok fl =>
      cases fl with
      | next => exact False.elim h
      | brk => exact False.elim h
      | cont => exact False.elim h
      | ret u =>
        obtain ⟨v, H', os, bare, un, hok', r', q⟩ := h
        have q' : v = .bl true := q
        subst q'
        obtain rfl : u = Value.bool true := r'
        have kp : ∀ b o, s₁.heap.get? b = some o → asItWas s₁.heap s'.heap b o := fun b o e => by
          cases q : H b with
          | none => exact .inl (un.keep b o e q (by intro z; exact absurd (show b ∈ ([] : List Addr) from z) (by simp)) (by simp))
          | some u =>
            rcases hO b with z | ⟨ob, xs, z⟩ | ⟨⟨t, ht, e'⟩, z⟩
            · rw [q] at z; cases z
            · have z2 := un.frzs b ob _ z
              obtain ⟨e1, _⟩ := hok b _ z
              obtain ⟨e2, _⟩ := hok' b _ z2
              rw [e] at e1; cases e1
              exact .inl e2
            · subst e'
              obtain ⟨more, z2⟩ := un.tbls _ _ z
              have e2 : s'.heap.get? t.2 = some { cls := .none, data := .fields (#[] ++ more) } := hok' t.2 _ z2
              rw [hT t ht] at e; cases e
              have CH := PySem.W.codeHd_of_K KX (hC t ht)
              exact .inr (.inl ⟨(CH.tab (hT t ht)).isCodeTable, rfl, #[], more, rfl, e2⟩)
        exact ⟨rfl, ⟨kp, fun b o e => un.there b o e (by simp)⟩, os, bare⟩
  have aT : ∀ t ∈ ts, t.2 ≠ a := fun t ht z => by
    have e := hT t ht
    rw [z, ha] at e; cases e
  have dT : ∀ b, Decidable (∃ t ∈ ts, t.2 = b) := fun b => by infer_instance
  cases hk : K.lookup a with
  | some o =>
    have e := KX a o hk
    rw [ha] at e
    cases e
    refine core (fun b => if ∃ t ∈ ts, t.2 = b then some (.tbl #[]) else none) (fun b => ?_) (fun t ht => if_pos ⟨t, ht, rfl⟩) (.inr ⟨_, vs.toArray, _, hk, rfl, rfl, rfl, by rw [List.size_toArray, lenV]; exact hl, by simpa using rv⟩) (fun b u z => ?_) (fun b z => ?_) fun z => absurd (if_neg (fun ⟨t, ht, e⟩ => aT t ht e)) z
    · by_cases hb : ∃ t ∈ ts, t.2 = b
      · exact .inr (.inr ⟨hb, if_pos hb⟩)
      · exact .inl (if_neg hb)
    · by_cases hb : ∃ t ∈ ts, t.2 = b
      · have z' := (if_pos hb).symm.trans z
        cases z'
        obtain ⟨t, ht, rfl⟩ := hb
        exact hT t ht
      · have z' := (if_neg hb).symm.trans z
        cases z'
    · by_cases hb : ∃ t ∈ ts, t.2 = b
      · exact .inr hb
      · exact absurd (if_neg hb) z
  | none =>
    refine core (fun b => if b = a then some (.frz { cls := .type "list", data := .seq vs.toArray } (.lst (ns.map V.int))) else if ∃ t ∈ ts, t.2 = b then some (.tbl #[]) else none) (fun b => ?_) (fun t ht => (if_neg (aT t ht)).trans (if_pos ⟨t, ht, rfl⟩)) (.inl (.inr ⟨{ cls := .type "list", data := .seq vs.toArray }, if_pos rfl⟩)) (fun b u z => ?_) (fun b z => ?_) fun _ => hk
    · by_cases hb : b = a
      · exact .inr (.inl ⟨_, _, if_pos hb⟩)
      · by_cases hb2 : ∃ t ∈ ts, t.2 = b
        · exact .inr (.inr ⟨hb2, (if_neg hb).trans (if_pos hb2)⟩)
        · exact .inl ((if_neg hb).trans (if_neg hb2))
    · by_cases hb : b = a
      · have z' := (if_pos hb).symm.trans z
        cases z'
        subst hb
        exact ⟨ha, by rw [List.length_map]; exact hl, vs, _, rv, ha⟩
      · have z' := (if_neg hb).symm.trans z
        by_cases hb2 : ∃ t ∈ ts, t.2 = b
        · have z'' := (if_pos hb2).symm.trans z'
          cases z''
          obtain ⟨t, ht, rfl⟩ := hb2
          exact hT t ht
        · have z'' := (if_neg hb2).symm.trans z'
          cases z''
    · by_cases hb : b = a
      · exact .inl hb
      · by_cases hb2 : ∃ t ∈ ts, t.2 = b
        · exact .inr hb2
        · exact absurd ((if_neg hb).trans (if_neg hb2)) z
theorem walk_of1 {l : PySem.W.OpenLaw} {n k : Nat} {q : Program} {loose : List Str} {XP : (Str → Option Value) → Heap → Prop} {YP : World → Heap → Prop} {d : DefRec} {K : Params → PySem.W.Frag} {CX : World → CXT} {sp : World → Sp} {x : Str} {tP : Addr}
    (hn : l.most = some n) (hn2 : n ≤ sizeLine) (hdf : d.params.defaults = []) (hr : Room k callerA)
    (hY : ∀ (w : World) (h : Heap), YP w h → (K w.params).In h) (hT : ∀ (w : World) (h : Heap), YP w h → h.get? tP = some (PySem.W.tabObj #[])) (hKt : ∀ (w : World), (K w.params).lookup tP = none)
    (F : ∀ (w : World) (mg : Str → Option Value) (fa : Addr) (h : Heap), (K w.params).In h → h.Ns mainGlobals mg → mg d.name = some (.ref fa) →
      ∃ fd : FuncData, (∀ (s : Shared) (u : Value), BindsTo s fd ⟨[u], []⟩ [(x, u)]) ∧ (∃ c, PySem.W.codeHdIn (K w.params) c tP = true) ∧
        ∀ base : Heap, (K w.params).In base → base.Ns mainGlobals mg → BMain base mg → FnOk l.prog w (K w.params) mg base (CX w) k fa fd [x] (sp w))
    (hsp : ∀ (w : World) (H : Hp) (a : Addr) (ns : List Int), ns.length ≤ n → H tP = some (.tbl #[]) → SqL (K w.params) H a (ns.map V.int) → sp w [.ref a] H (fun v _ => v = .bl true) fun _ _ _ => False)
    (hCX : ∀ (w : World) (H : Hp) (s : Shared) (e : Value) (s' : Shared), CX w [] H s (fun _ _ _ => False) e s' → False) :
    PySem.W.WalkO q loose XP YP l.row.toRowW d [] (fun f vs => PySem.call f vs) := by
  refine Att.attach_call hn hdf fun w s₀ s₁ mg mb fa o pm cd doc a vs ns G Y ho hd hcd hmg hobj hints hlen hg => ?_
  have KX := hY w _ Y
  obtain ⟨fd, hb, ⟨c, hc⟩, hF⟩ := F w mg fa _ KX G.T.g hmg
  have one : ∀ {p : Addr × Addr → Prop}, p (c, tP) → ∀ t ∈ [(c, tP)], p t := fun h t ht => by rw [List.mem_singleton.mp ht]; exact h
  exact law_callT (ts := [(c, tP)]) KX G.T.g G.T.b G.T.builtins G.T.nolimit G.T.bmain hg (one (hT w _ Y)) (one hc) (one (hKt w)) hobj hints (Nat.le_trans hlen hn2) hr hF hb (fun H hO hS => hsp w H a ns hlen (hO (c, tP) (.head _)) hS) fun H e s' => hCX w H s₁ e s'
section
variable {P : Program} {w : World} {K : PySem.W.Frag} {mg : Str → Option Value} {base : Heap}
end
section
variable {X : Cx}
def tListRange1 (ta : TA) : TE := fun σ H Q => ta σ H fun vs H1 => ∃ j : Int, vs = [.int j] ∧ (-(2 ^ 62) ≤ j ∧ j < 2 ^ 62) ∧ j.toNat ≤ sizeLine ∧ j.toNat ≤ 2 ^ 24 ∧ ∀ l, H1 l = none → Q (.ref l) (upd H1 l (.lst (rngV 0 j.toNat)))
end
end L2
namespace L2
open PySem PyProof.Rows PySem.Spec PySem.Calls PySem.W
section
variable {n : Nat} {kf : Nat → Int}
def PrmO (n : Nat) (p : Array Nat) : Prop := p.toList.Perm (List.range n)
def KP (kf : Nat → Int) (p : Array Nat) (i : Nat) : Int := kf (p.getD i 0)
theorem PrmO.size {p : Array Nat} (h : PrmO n p) : p.size = n := by
  have e := List.Perm.length_eq h
  rw [Array.length_toList, List.length_range] at e
  exact e
theorem PrmO.lt {p : Array Nat} (h : PrmO n p) {i : Nat} (hi : i < n) : p.getD i 0 < n := by
  have hs : i < p.size := by rw [h.size]; exact hi
  have m : p.getD i 0 ∈ p.toList := by
    rw [Array.getD_eq_getD_getElem?, Array.getElem?_eq_getElem hs]
    exact Array.getElem_mem_toList _
  exact List.mem_range.mp ((List.Perm.mem_iff h).mp m)
theorem PrmO.inj {p : Array Nat} (h : PrmO n p) {i j : Nat} (hi : i < n) (hj : j < n) (e : p.getD i 0 = p.getD j 0) : i = j := by
  have nd : p.toList.Nodup := (List.Perm.nodup_iff h).mpr List.nodup_range
  have hs : i < p.toList.length := by rw [Array.length_toList, h.size]; exact hi
  have ht : j < p.toList.length := by rw [Array.length_toList, h.size]; exact hj
  have e1 : p.getD i 0 = p.toList[i] := by
    rw [Array.getD_eq_getD_getElem?, Array.getElem?_eq_getElem (by simpa using hs)]
    simp
  have e2 : p.getD j 0 = p.toList[j] := by
    rw [Array.getD_eq_getD_getElem?, Array.getElem?_eq_getElem (by simpa using ht)]
    simp
  rw [e1, e2] at e
  exact (List.getElem_inj nd).mp e
theorem PrmO.of {p q : Array Nat} (h : PrmO n p) (e : q.Perm p) : PrmO n q := (Array.perm_iff_toList_perm.mp e).trans h
theorem kp_get {p : Array Nat} {i j : Nat} {q : Array Nat} (e : q[i]? = p[j]?) : KP kf q i = KP kf p j := by
  unfold KP
  rw [Array.getD_eq_getD_getElem?, Array.getD_eq_getD_getElem?, e]
def Up (kf : Nat → Int) (p : Array Nat) (m : Nat) : Prop := ∀ i, i + 1 < m → KP kf p i < KP kf p (i + 1)
def Dn (kf : Nat → Int) (p : Array Nat) (m : Nat) : Prop := ∀ i, i + 1 < m → KP kf p (i + 1) < KP kf p i
theorem Up.lt {p : Array Nat} {m : Nat} (u : Up kf p m) : ∀ d i, i + d + 1 < m → KP kf p i < KP kf p (i + d + 1)
  | 0, i, h => u i h
  | d + 1, i, h => Int.lt_trans (u.lt d i (by omega)) (u (i + d + 1) h)
theorem Up.le {p : Array Nat} {m : Nat} (u : Up kf p m) {i j : Nat} (h : i < j) (hj : j < m) : KP kf p i < KP kf p j := by
  have := u.lt (j - i - 1) i (by omega)
  rwa [show i + (j - i - 1) + 1 = j by omega] at this
variable {s : Shared} {cmp : Nat → Nat → (Bool → Shared → Prop) → Shared → Prop}
def Asks (n : Nat) (kf : Nat → Int) (s : Shared) (cmp : Nat → Nat → (Bool → Shared → Prop) → Shared → Prop) : Prop := (∀ i j, i < n → j < n → kf i = kf j → i = j) ∧ ∀ i j C, i < n → j < n → i ≠ j → C (decide (kf i < kf j)) s → cmp i j C s
theorem ask_at {α : Type} {k : Bool → KasT α} {G : α → Shared → Prop} {p : Array Nat} {i j : Nat} (a : Asks n kf s cmp) (h : PrmO n p) (hi : i < n) (hj : j < n) (ne : i ≠ j) (h1 : KP kf p i < KP kf p j → (k true).kasWp cmp G s) (h2 : ¬ KP kf p i < KP kf p j → (k false).kasWp cmp G s) : (KasT.ask (p.getD i 0) (p.getD j 0) k).kasWp cmp G s := by
  refine a.2 _ _ _ (h.lt hi) (h.lt hj) (fun e => ne (h.inj hi hj e)) ?_
  by_cases c : KP kf p i < KP kf p j
  · rw [decide_eq_true (show kf (p.getD i 0) < kf (p.getD j 0) from c)]; exact h1 c
  · rw [decide_eq_false (show ¬ kf (p.getD i 0) < kf (p.getD j 0) from c)]; exact h2 c
theorem other {p : Array Nat} {i j : Nat} (a : Asks n kf s cmp) (h : PrmO n p) (hi : i < n) (hj : j < n) (ne : i ≠ j) (c : ¬ KP kf p i < KP kf p j) : KP kf p j < KP kf p i := by
  have d : KP kf p i ≠ KP kf p j := fun e => ne (h.inj hi hj (a.1 _ _ (h.lt hi) (h.lt hj) e))
  omega
theorem asc_up {G : Nat → Shared → Prop} {p : Array Nat} (a : Asks n kf s cmp) (h : PrmO n p) : ∀ (f m : Nat), 1 ≤ m → m + f ≤ n → Up kf p m → (∀ m', m ≤ m' → m' ≤ m + f → Up kf p m' → (m' < m + f → KP kf p m' < KP kf p (m' - 1)) → G m' s) → (kas_asc p f m).kasWp cmp G s
  | 0, m, _, _, u, g => g m (Nat.le_refl _) (Nat.le_refl _) u fun z => absurd z (Nat.lt_irrefl _)
  | f + 1, m, m1, le, u, g => by
    refine ask_at (i := m) (j := m - 1) a h (by omega) (by omega) (by omega) (fun c => ?_) (fun c => ?_)
    · exact g m (Nat.le_refl _) (by omega) u fun _ => c
    · have c2 := other a h (by omega) (by omega) (by omega) c
      show (kas_asc p f (m + 1)).kasWp cmp G s
      refine asc_up a h f (m + 1) (by omega) (by omega) (fun i hi => ?_) (fun m' e1 e2 u' z => g m' (by omega) (by omega) u' fun e3 => z (by omega))
      by_cases e : i + 1 = m
      · rw [e]
        rwa [show m - 1 = i by omega] at c2
      · exact u i (by omega)
theorem desc_dn {G : Array Nat × Nat × Nat → Shared → Prop} {p : Array Nat} (a : Asks n kf s cmp) (h : PrmO n p) : ∀ (f m : Nat), 1 ≤ m → m + f ≤ n → Dn kf p m → (∀ m', m ≤ m' → m' ≤ m + f → Dn kf p m' → G (p, m', 0) s) → (kas_desc f p m 0).kasWp cmp G s
  | 0, m, _, _, u, g => g m (Nat.le_refl _) (Nat.le_refl _) u
  | f + 1, m, m1, le, u, g => by
    refine ask_at (i := m) (j := m - 1) a h (by omega) (by omega) (by omega) (fun c => ?_) (fun c => ?_)
    · show (kas_desc f p (m + 1) 0).kasWp cmp G s
      refine desc_dn a h f (m + 1) (by omega) (by omega) (fun i hi => ?_) (fun m' e1 e2 u' => g m' (by omega) (by omega) u')
      by_cases e : i + 1 = m
      · rw [e]
        rwa [show m - 1 = i by omega] at c
      · exact u i (by omega)
    · have c2 := other a h (by omega) (by omega) (by omega) c
      refine ask_at (i := m - 1) (j := m) a h (by omega) (by omega) (by omega) (fun _ => ?_) (fun c3 => absurd c2 c3)
      exact g m (Nat.le_refl _) (by omega) u
theorem rev_up {p : Array Nat} {m : Nat} (h : PrmO n p) (hm : m ≤ n) (u : Dn kf p m) : PrmO n (kas_rev p 0 m) ∧ Up kf (kas_rev p 0 m) m := by
  have g := fun k => getElem?_mirror_all (xs := p) (i := 0) (j := m) (by rw [h.size]; exact hm) k
  refine ⟨h.of (mirror_perm _ _ _ _), fun i hi => ?_⟩
  have g1 := g i
  rw [if_pos ⟨Nat.zero_le _, by omega⟩] at g1
  have g2 := g (i + 1)
  rw [if_pos ⟨Nat.zero_le _, by omega⟩] at g2
  show KP kf (mirror p 0 m ((m - 0) / 2)) i < KP kf (mirror p 0 m ((m - 0) / 2)) (i + 1)
  rw [kp_get g1, kp_get g2]
  have := u (0 + m - 1 - (i + 1)) (by omega)
  rwa [show 0 + m - 1 - (i + 1) + 1 = 0 + m - 1 - i by omega] at this
theorem count_up {G : Nat × Array Nat → Shared → Prop} {p : Array Nat} (a : Asks n kf s cmp) (h : PrmO n p) (h1 : 1 ≤ n) (g : ∀ m q, 1 ≤ m → m ≤ n → PrmO n q → Up kf q m → G (m, q) s) : (kas_count n p).kasWp cmp G s := by
  unfold kas_count
  rw [KasT.kasWp_bind]
  refine asc_up a h (n - 1) 1 (Nat.le_refl _) (by omega) (fun i hi => absurd hi (by omega)) (fun m m1 mn u w => ?_)
  by_cases e : m = n
  · rw [if_pos (beq_iff_eq.mpr e)]
    exact g m p m1 (by omega) h u
  · rw [if_neg (fun z => e (beq_iff_eq.mp z))]
    have w := w (by omega)
    by_cases c : m > 1
    · rw [if_pos c]
      refine ask_at (i := 0) (j := m - 1) a h (by omega) (by omega) (by omega) (fun _ => g m p m1 (by omega) h u) (fun c2 => ?_)
      exact absurd (u.le (i := 0) (j := m - 1) (by omega) (by omega)) c2
    · rw [if_neg c]
      obtain rfl : m = 1 := by omega
      unfold kas_descPart
      rw [KasT.kasWp_bind]
      refine desc_dn a h (n - (1 + 1)) 2 (by omega) (by omega) (fun i hi => ?_) (fun m e1 e2 d => ?_)
      · obtain rfl : i = 0 := by omega
        exact w
      · show (kas_tail3 m n p).kasWp cmp G s
        unfold kas_tail3
        rw [KasT.kasWp_bind]
        obtain ⟨h', u'⟩ := rev_up h (show m ≤ n by omega) d
        exact asc_up a h' (n - m) m (by omega) (by omega) u' fun m' e3 e4 u2 _ => g m' _ (by omega) (by omega) h' u2
theorem place_at {G : Nat → Shared → Prop} {p : Array Nat} {k : Nat} (a : Asks n kf s cmp) (h : PrmO n p) (hk : k < n) (u : Up kf p k) : ∀ (f l r : Nat), r - l ≤ f → l ≤ r → r ≤ k → (∀ i, i < l → KP kf p i < KP kf p k) → (∀ i, r ≤ i → i < k → KP kf p k < KP kf p i) → (∀ l, l ≤ k → (∀ i, i < l → KP kf p i < KP kf p k) → (∀ i, l ≤ i → i < k → KP kf p k < KP kf p i) → G l s) → (kas_place p k f l r).kasWp cmp G s
  | 0, l, r, hf, lr, rk, a1, a2, g => g l (by omega) a1 (by rw [show l = r by omega]; exact a2)
  | f + 1, l, r, hf, lr, rk, a1, a2, g => by
    unfold kas_place
    by_cases c : l ≥ r
    · rw [if_pos c]
      exact g l (by omega) a1 (by rw [show l = r by omega]; exact a2)
    · rw [if_neg c]
      refine ask_at (i := k) (j := (l + r) / 2) a h hk (by omega) (by omega) (fun c2 => ?_) (fun c2 => ?_)
      · show (kas_place p k f l ((l + r) / 2)).kasWp cmp G s
        refine place_at a h hk u f l ((l + r) / 2) (by omega) (by omega) (by omega) a1 (fun i e1 e2 => ?_) g
        by_cases e : i = (l + r) / 2
        · rw [e]; exact c2
        · exact Int.lt_trans c2 (u.le (by omega) e2)
      · have c3 := other a h hk (by omega) (by omega) c2
        show (kas_place p k f ((l + r) / 2 + 1) r).kasWp cmp G s
        refine place_at a h hk u f ((l + r) / 2 + 1) r (by omega) (by omega) rk (fun i e1 => ?_) a2 g
        by_cases e : i = (l + r) / 2
        · rw [e]; exact c3
        · exact Int.lt_trans (u.le (j := (l + r) / 2) (by omega) (by omega)) c3
theorem put_up {p : Array Nat} {k l : Nat} (h : PrmO n p) (hk : k < n) (u : Up kf p k) (lk : l ≤ k) (a1 : ∀ i, i < l → KP kf p i < KP kf p k) (a2 : ∀ i, l ≤ i → i < k → KP kf p k < KP kf p i) : PrmO n (bubble p k (k - l)) ∧ Up kf (bubble p k (k - l)) (k + 1) := by
  have g := fun j => getElem?_bubble (xs := p) (src := k) (by rw [h.size]; exact hk) (k - l) (Nat.sub_le _ _) j
  rw [show k - (k - l) = l by omega] at g
  have at' : ∀ j, KP kf (bubble p k (k - l)) j = if j = l then KP kf p k else if l < j ∧ j ≤ k then KP kf p (j - 1) else KP kf p j := fun j => by
    have e := g j
    by_cases c : j = l
    · rw [if_pos c] at e ⊢; exact kp_get e
    · rw [if_neg c] at e ⊢
      by_cases c2 : l < j ∧ j ≤ k
      · rw [if_pos c2] at e ⊢; exact kp_get e
      · rw [if_neg c2] at e ⊢; exact kp_get e
  refine ⟨h.of (bubble_perm _ _ _), fun i hi => ?_⟩
  rw [at', at']
  by_cases c1 : i = l
  · rw [if_pos c1, if_neg (by omega), if_pos ⟨by omega, by omega⟩]
    exact a2 _ (by omega) (by omega)
  · rw [if_neg c1]
    by_cases c2 : i + 1 = l
    · rw [if_neg (by omega), if_pos c2]
      exact a1 _ (by omega)
    · rw [if_neg c2]
      by_cases c3 : i < l
      · rw [if_neg (by omega), if_neg (by omega)]
        exact u i (by omega)
      · rw [if_pos ⟨by omega, by omega⟩, if_pos ⟨by omega, by omega⟩]
        have := u (i - 1) (by omega)
        rwa [show i - 1 + 1 = i by omega] at this
theorem bin_up {G : Array Nat → Shared → Prop} (a : Asks n kf s cmp) (g : ∀ p, PrmO n p → Up kf p n → G p s) : ∀ (f k : Nat) (p : Array Nat), k + f = n → PrmO n p → Up kf p k → (kas_bin f p k).kasWp cmp G s
  | 0, k, p, e, h, u => g p h (by rw [← e]; exact u)
  | f + 1, k, p, e, h, u => by
    unfold kas_bin
    rw [KasT.kasWp_bind]
    refine place_at a h (by omega) u k 0 k (by omega) (Nat.zero_le _) (Nat.le_refl _) (fun i z => absurd z (Nat.not_lt_zero _)) (fun i z1 z2 => absurd z2 (Nat.not_lt.mpr z1)) (fun l lk a1 a2 => ?_)
    obtain ⟨h', u'⟩ := put_up h (by omega) u lk a1 a2
    exact bin_up a g f (k + 1) _ (by omega) h' u'
theorem sort_up {G : Array Nat → Shared → Prop} (a : Asks n kf s cmp) (h1 : 1 ≤ n) (g : ∀ p, PrmO n p → Up kf p n → G p s) : (kas_sort n).kasWp cmp G s := by
  unfold kas_sort
  rw [KasT.kasWp_bind]
  refine count_up a (show PrmO n (List.toArray (List.range n)) from List.Perm.refl _) h1 (fun m q m1 mn h u => ?_)
  dsimp only
  by_cases c : m < n
  · rw [if_pos c, Nat.max_eq_left m1]
    exact bin_up a g _ m q (by omega) h u
  · rw [if_neg c]
    exact g q h (by rw [show n = m by omega]; exact u)
theorem up_pair {p : Array Nat} (h : PrmO n p) (u : Up kf p n) : (p.toList.map kf).Pairwise (· < ·) := by
  rw [List.pairwise_iff_getElem]
  intro i j hi hj hij
  have hi' : i < p.size := by simpa using hi
  have hj' : j < p.size := by simpa using hj
  have q := u.le hij (by rw [← h.size]; exact hj')
  unfold KP at q
  rw [Array.getD_eq_getD_getElem?, Array.getD_eq_getD_getElem?, Array.getElem?_eq_getElem hi', Array.getElem?_eq_getElem hj'] at q
  simpa using q
end
end L2
namespace L2
open PySem PyProof.Rows PySem.Spec PySem.Calls PySem.W
inductive VP : List (Int × V) → List (Int × Value) → Prop where
  | nil : VP [] []
  | cons {k : Int} {x : V} {v : Value} {xs : List (Int × V)} {vs : List (Int × Value)} (r : RelV x v) (h : VP xs vs) : VP ((k, x) :: xs) ((k, v) :: vs)
theorem VP.of : ∀ {kz : List Int} {xs : List V} {vs : List Value}, Vals xs vs → VP (kz.zip xs) (kz.zip vs)
  | [], _, _, _ => .nil
  | _ :: _, _, _, .nil => .nil
  | _ :: _, _, _, .cons r h => .cons r (VP.of h)
theorem VP.vals : ∀ {xs : List (Int × V)} {vs : List (Int × Value)}, VP xs vs → Vals (xs.map Prod.snd) (vs.map Prod.snd)
  | _, _, .nil => .nil
  | _, _, .cons r h => .cons r h.vals
theorem VP.fsts : ∀ {xs : List (Int × V)} {vs : List (Int × Value)}, VP xs vs → xs.map Prod.fst = vs.map Prod.fst
  | _, _, .nil => rfl
  | _, _, .cons r h => by rw [List.map_cons, List.map_cons, h.fsts]
theorem VP.back {ps qs : List (Int × Value)} (p : ps.Perm qs) : ∀ {xs : List (Int × V)}, VP xs qs → ∃ ys, List.Perm ys xs ∧ VP ys ps := by
  induction p with
  | nil => exact fun h => ⟨_, .refl _, h⟩
  | cons x _ ih =>
    intro xs h
    cases h with
    | cons r h =>
      obtain ⟨ys, p, v⟩ := ih h
      exact ⟨_, p.cons _, .cons r v⟩
  | swap x y l =>
    intro xs h
    cases h with
    | cons r h =>
      cases h with
      | cons r2 h => exact ⟨_, .swap _ _ _, .cons r2 (.cons r h)⟩
  | trans _ _ ih1 ih2 =>
    intro xs h
    obtain ⟨ys, p, v⟩ := ih2 h
    obtain ⟨zs, p2, v2⟩ := ih1 v
    exact ⟨zs, p2.trans p, v2⟩
theorem fst_pair {α β : Type} {R : Int → Int → Prop} {xs : List (Int × α)} {vs : List (Int × β)} (e : xs.map Prod.fst = vs.map Prod.fst) (h : vs.Pairwise fun p q => R p.1 q.1) : xs.Pairwise fun p q => R p.1 q.1 := by
  have h1 : (vs.map Prod.fst).Pairwise R := List.pairwise_map.mpr h
  rw [← e] at h1
  exact List.pairwise_map.mp h1
section
variable {X : Cx} {pins : List (Addr × Obj)} {σ : St}
theorem Inv.adopt {H : Hp} {s : Shared} {D : Addr} {o : HO} (J : Inv X pins σ H s) (w : OwnA X pins D) (nD : H D = none) (hL : D ≠ X.env.locals) (new : ObjOk X.prog X.w (upd H D o) s.heap D o) : Inv X pins σ (upd H D o) s := by
  have ne : ∀ b u, H b = some u → b ≠ D := fun b u e z => by rw [z, nD] at e; cases e
  refine ⟨J.ok, J.os, J.bare, ⟨J.base.keep, J.base.slot, fun b u e n x => ?_, J.base.there, fun b ys e => ?_, fun b u v e => ?_, fun b ps e => ?_⟩, J.loc, J.cell, ?_, fun x c e => ?_, fun p hp => ?_, fun b u e => ?_, J.len⟩
  · rw [upd_ne (Nat.ne_of_lt (Nat.lt_of_lt_of_le (Heap.lt_size e) w.h1))]
    exact J.base.free b u e n x
  · have := J.base.tups b ys e
    rw [upd_ne (ne _ _ this)]; exact this
  · have := J.base.frzs b u v e
    rw [upd_ne (ne _ _ this)]; exact this
  · obtain ⟨more, this⟩ := J.base.tbls b ps e
    exact ⟨more, by rw [upd_ne (ne _ _ this)]; exact this⟩
  · rw [upd_ne (Ne.symm hL)]; exact J.free
  · rw [upd_ne (w.h2 x c e)]; exact J.freeC x c e
  · obtain ⟨a, b, c⟩ := J.pin p hp
    exact ⟨a, by rw [upd_ne (w.h3 p hp)]; exact b, c⟩
  · by_cases z : b = D
    · subst z
      rw [upd_same] at e
      obtain rfl := Option.some.inj e
      exact new
    · rw [upd_ne z] at e
      exact (J.hok b u e).stay (fun c v _ q => q) (fun c q => by rw [upd_ne (ne _ _ q)]; exact q) fun c xs q => by rw [upd_ne (ne _ _ q)]; exact q
theorem sk_tail {H : Hp} {s : Shared} {A : Around} {E : Value → Shared → Prop} {P : PySem.Fin → Shared → Prop} {D kS : Addr} {ks : Array Value} {e1 e2 : Nat} {st : SortSt} {out : List Value} {ys : List V}
    (J : Inv X (pins ++ [(kS, seqObj "list" ks e2), (D, seqObj "list" #[] e1)]) σ H s) (oD : OwnA X pins D) (oS : OwnA X pins kS) (hSD : kS ≠ D) (lk : ks.size ≤ 64) (hf : failedOf st = none) (ho : (arrOf st).map (·.2) = out.toArray) (rv : Vals ys out) (l64 : ys.length < 64)
    (h : ∀ s', H D = none → Inv X pins σ (upd H D (.lst ys)) s' → P (.done (.ret .none)) s') : wpAny (model X.prog X.w) A (ksk_tail D false e1 (.ref kS) st) P E s := by
  have pS := J.pin (kS, seqObj "list" ks e2) (List.mem_append_right _ (List.mem_append_right _ (.head _)))
  have pD := J.pin (D, seqObj "list" #[] e1) (List.mem_append_right _ (List.mem_append_right _ (.tail _ (.head _))))
  have u1 := Heap.SameBut.update s.heap kS (Obj.mapSeq fun _ => (#[] : Array Value))
  have gD : (s.heap.update kS (Obj.mapSeq fun _ => (#[] : Array Value))).get? D = some (seqObj "list" #[] e1) := (u1.2 D (Ne.symm hSD)).trans pD.1
  have u2 := Heap.SameBut.update (s.heap.update kS (Obj.mapSeq fun _ => (#[] : Array Value))) D (Obj.mapSeq fun _ => out.toArray)
  have g2 := get?_update_seq gD fun _ => out.toArray
  have lo : out.length = ys.length := rv.length.symm
  unfold ksk_tail
  dsimp only
  refine wpAny_bind (listUpdate_at pS.1 rfl (wpAny_bind (wpAny_letGo (wpAny_bind (seqEpoch_at gD rfl (wpAny_bind ?_))))) (Nat.le_trans lk (by rw [sizeLine_eq]; omega)) (Nat.zero_le _))
  rw [ho, hf]
  refine listUpdate_at gD rfl ?_ (Nat.zero_le _) (by show out.toArray.size ≤ _; rw [List.size_toArray, lo, sizeLine_eq]; omega)
  simp only [bne_self_eq_false, Bool.false_eq_true, if_false]
  refine wpAny_pure (h _ pD.2.1 ?_)
  have J1 := (pin_less J).turned (t' := s.toks) (it := kS) (fun b u nb e => (u1.2 b nb).trans e) pS.2.1 pS.2.2.1 (.inr oS.h1) oS.h2 oS.h3
  have J2 := J1.turned (t' := s.toks) (it := D) (fun b u nb e => (u2.2 b nb).trans e) pD.2.1 pD.2.2.1 (.inr oD.h1) oD.h2 oD.h3
  exact J2.adopt oD pD.2.1 pD.2.2.1 ⟨by rw [sizeLine_eq]; omega, out, _, rv, g2⟩
theorem sk_end {H : Hp} {s : Shared} {A : Around} {E : Value → Shared → Prop} {P : PySem.Fin → Shared → Prop} {D kS : Addr} {ks : Array Value} {e1 e2 : Nat} {its : List Value} {xs : List V} {kz : List Int}
    (J : Inv X (pins ++ [(kS, seqObj "list" ks e2), (D, seqObj "list" #[] e1)]) σ H s) (oD : OwnA X pins D) (oS : OwnA X pins kS) (hSD : kS ≠ D) (hk : IntsAre ks.toList kz) (rv : Vals xs its) (hl : kz.length = xs.length) (l64 : xs.length < 64)
    (h : ∀ s' qs, H D = none → List.Perm qs (kz.zip xs) → qs.Pairwise (fun p q => p.1 ≤ q.1) → Inv X pins σ (upd H D (.lst (qs.map Prod.snd))) s' → P (.done (.ret .none)) s') : wpAny (model X.prog X.w) A (ksk_end D false its.toArray e1 (.ref kS) ks) P E s := by
  have li : xs.length = its.length := rv.length
  have lk : ks.size = its.length := by
    have := hk.length
    rw [Array.length_toList] at this
    omega
  have lz : (ks.zip its.toArray).size = its.length := by rw [Array.size_zip, lk, List.size_toArray, Nat.min_self]
  have fin : ∀ st : SortSt, (arrOf st).Perm (ks.zip its.toArray) → SortedTo (arrOf st) (arrOf st).size → failedOf st = none → wpAny (model X.prog X.w) A (ksk_tail D false e1 (.ref kS) st) P E s := fun st hp hs hf => by
    obtain ⟨ps, p1, p2, p3⟩ := ksk_out (b := false) hk hp hs
    obtain ⟨qs, q1, q2⟩ := VP.back p1 (VP.of rv)
    have ea : (arrOf st).map (·.2) = (ps.map Prod.snd).toArray := by
      rw [← p2, if_neg (by decide), Array.toArray_toList]
    refine sk_tail (ys := qs.map Prod.snd) J oD oS hSD (by omega) hf ea q2.vals ?_ (fun s' nD J' => h s' qs nD q1 (fst_pair (R := fun a b => a ≤ b) q2.fsts ?_) J')
    · rw [List.length_map, q1.length_eq, List.length_zip]; omega
    · exact p3.imp fun {a b} z => by simpa using z
  unfold ksk_end
  dsimp only
  rw [if_neg (by decide)]
  by_cases c : its.toArray.size < 2
  · rw [if_pos c, if_pos c]
    refine wpAny_bind (wpAny_pure ?_)
    rw [StateT.run_pure]
    refine wpAny_bind (wpAny_pure (fin (SortSt.mk' general' (if false = true then (ks.zip its.toArray).reverse else ks.zip its.toArray) #[] 7 none) (Array.Perm.refl _) (fun i j a b => ?_) rfl))
    have b2 : j < (ks.zip its.toArray).size := b
    rw [List.size_toArray] at c
    obtain rfl : i = j := by omega
    exact Int.le_refl _
  · rw [if_neg c, if_neg c]
    rw [List.size_toArray] at c
    rw [ksk_kind hk (by omega)]
    refine wpAny_bind (wpAny_pure ?_)
    refine wpAny_bind (wpAny_mono (wpS_sortRuns (a₀ := ks.zip its.toArray) (st := SortSt.mk' oneType' (if false = true then (ks.zip its.toArray).reverse else ks.zip its.toArray) #[] 7 none) (Q := fun _ t => (arrOf t).Perm (ks.zip its.toArray) ∧ failedOf t = none ∧ SortedTo (arrOf t) (ks.zip its.toArray).size) (ksk_intKeys hk) ⟨Array.Perm.refl _, rfl, rfl, rfl⟩ (by omega) (by omega) fun t a b c => ⟨a, b, c⟩) ?_ fun _ _ z => z)
    rintro ⟨⟨⟩, t⟩ s' ⟨rfl, a, b, c⟩
    exact fin t a (by rw [a.size_eq]; exact c) b
end
end L2
namespace L2
open PySem PyProof.Rows PySem.Spec PySem.Calls PySem.W
section
variable {X : Cx} {pins : List (Addr × Obj)} {σ : St}
theorem sk_rest {H0 : Hp} {s : Shared} {A : Around} {E : Value → Shared → Prop} {P : PySem.Fin → Shared → Prop} {D kS : Addr} {e1 : Nat} {its : List Value} {xs : List V} {kz : List Int} {fv : Value}
    (J : Inv X (pins ++ [(kS, seqObj "list" #[] 0), (D, seqObj "list" #[] e1)]) σ H0 s) (oD : OwnA X pins D) (oS : OwnA X pins kS) (hSD : kS ≠ D) (rv : Vals xs its) (hl : kz.length = xs.length) (l64 : xs.length < 64)
    (turn : ∀ (i : Nat) (x : V) (v : Value) (k : Int), xs[i]? = some x → kz[i]? = some k → RelV x v → ∀ (ex : List (Addr × Obj)) (H : Hp) (s : Shared), Inv X (pins ++ ex) σ H s → Same H0 H →
      wpAny (model X.prog X.w) A (call fv [v]) (fun z s' => ∃ t H', z = .int k t ∧ Same H H' ∧ Inv X (pins ++ ex) σ H' s') (fun _ _ => False) s)
    (h : ∀ H s' qs, Same H0 H → H D = none → List.Perm qs (kz.zip xs) → qs.Pairwise (fun p q => p.1 ≤ q.1) → Inv X pins σ (upd H D (.lst (qs.map Prod.snd))) s' → P (.done (.ret .none)) s') : wpAny (model X.prog X.w) A (ksk_rest D fv false its.toArray e1 (.ref kS)) P E s := by
  have li : xs.length = its.length := rv.length
  unfold ksk_rest
  refine wpAny_bind (wpAny_rule ?_)
  rw [List.forIn_toArray]
  refine wpAny_bind (ksk_fold (fun i s' => ∃ (H : Hp) (kA : Array Value) (e : Nat), Same H0 H ∧ Inv X (pins ++ [(kS, seqObj "list" kA e), (D, seqObj "list" #[] e1)]) σ H s' ∧ IntsAre kA.toList (kz.take i)) its 0 s ⟨H0, #[], 0, Same.refl _, J, by simpa using IntsAre.nil⟩ ?step ?done)
  case step =>
    rintro j v s' hv ⟨H, kA, e, sm, J1, hk⟩
    rw [Nat.zero_add] at hk ⊢
    have hj : j < its.length := (List.getElem?_eq_some_iff.mp hv).1
    obtain ⟨x, hx⟩ : ∃ x, xs[j]? = some x := ⟨_, List.getElem?_eq_getElem (by omega)⟩
    obtain ⟨k, hkj⟩ : ∃ k, kz[j]? = some k := ⟨_, List.getElem?_eq_getElem (by omega)⟩
    have rx : RelV x v := by
      obtain ⟨u, hu, ru⟩ := rv.get hx
      rw [hv] at hu
      rw [Option.some.inj hu]
      exact ru
    have lz : kA.size ≤ its.length := by
      have := hk.length
      rw [Array.length_toList, List.length_take] at this
      omega
    refine wpAny_bind (wpAny_attempt (wpAny_mono (turn j x v k hx hkj rx _ H s' J1 sm) (fun z s2 hz => ?_) fun _ _ z => z.elim))
    obtain ⟨t, H2, rfl, sm2, J2⟩ := hz
    dsimp only
    have pS := J2.pin (kS, seqObj "list" kA e) (List.mem_append_right _ (List.mem_append_right _ (.head _)))
    have u1 := Heap.SameBut.update s2.heap kS (Obj.mapSeq (·.push (.int k t)))
    have g1 := get?_update_seq pS.1 (·.push (.int k t))
    refine wpAny_bind (listUpdate_at pS.1 rfl ?_ (by rw [sizeLine_eq]; omega) (by rw [Array.size_push, sizeLine_eq]; omega))
    refine wpAny_pure ⟨rfl, H2, _, _, sm.trans sm2, pin_turn (t' := s2.toks) J2 (fun b o nb q => (u1.2 b nb).trans q) g1 (fun v z => by cases z) oS.h1 oS.h2 oS.h3 (Ne.symm hSD), ?_⟩
    rw [show (kA.push (Value.int k t)).toList = kA.toList ++ [Value.int k t] by simp, List.take_add_one, hkj]
    exact ksk_snoc hk
  case done =>
    rintro s' ⟨H, kA, e, sm, J1, hk⟩
    rw [List.take_of_length_le (by omega)] at hk
    have pS := J1.pin (kS, seqObj "list" kA e) (List.mem_append_right _ (List.mem_append_right _ (.head _)))
    refine wpAny_bind (listItems_at pS.1 rfl ?_)
    exact sk_end J1 oD oS hSD hk rv hl l64 fun s2 qs n a b c => h H s2 qs sm n a b c
theorem sk_sort {H0 : Hp} {s : Shared} {A : Around} {E : Value → Shared → Prop} {P : PySem.Fin → Shared → Prop} {D : Addr} {n : Nat} {its : List Value} {xs : List V} {kz : List Int} {fv : Value}
    (J : Inv X pins σ H0 s) (oD : OwnA X pins D) (nD : H0 D = none) (hL : D ≠ X.env.locals) (hfs : D ∉ X.fs) (ho : s.heap.get? D = some (seqObj "list" its.toArray n)) (rv : Vals xs its) (hl : kz.length = xs.length) (l64 : xs.length < 64)
    (turn : ∀ (i : Nat) (x : V) (v : Value) (k : Int), xs[i]? = some x → kz[i]? = some k → RelV x v → ∀ (ex : List (Addr × Obj)) (H : Hp) (s : Shared), Inv X (pins ++ ex) σ H s → Same H0 H →
      wpAny (model X.prog X.w) A (call fv [v]) (fun z s' => ∃ t H', z = .int k t ∧ Same H H' ∧ Inv X (pins ++ ex) σ H' s') (fun _ _ => False) s)
    (h : ∀ H s' qs, Same H0 H → H D = none → List.Perm qs (kz.zip xs) → qs.Pairwise (fun p q => p.1 ≤ q.1) → Inv X pins σ (upd H D (.lst (qs.map Prod.snd))) s' → P (.done (.ret .none)) s') : wpAny (model X.prog X.w) A (ksk_tree D fv false) P E s := by
  have li : xs.length = its.length := rv.length
  have u1 := Heap.SameBut.update s.heap D (Obj.mapSeq fun _ => (#[] : Array Value))
  have g1 := get?_update_seq ho fun _ => #[]
  have lD := Heap.lt_size ho
  have J1 := J.turned (t' := s.toks) (it := D) (fun b u nb e => (u1.2 b nb).trans e) nD hL (.inr oD.h1) oD.h2 oD.h3
  have z1 : (s.heap.update D (Obj.mapSeq fun _ => (#[] : Array Value))).objs.size = s.heap.objs.size := Heap.size_update ..
  have kp : ∀ b o, (s.heap.update D (Obj.mapSeq fun _ => (#[] : Array Value))).get? b = some o → (((s.heap.update D (Obj.mapSeq fun _ => (#[] : Array Value))).push { cls := .type "tuple", data := .seq its.toArray }).push { cls := .type "list", data := .seq #[] }).get? b = some o := fun b o e => Heap.get?_push_of_some _ (Heap.get?_push_of_some _ e)
  unfold ksk_tree
  refine wpAny_bind (listItems_at ho rfl (wpAny_bind (listUpdate_at ho rfl (wpAny_bind (seqEpoch_at g1 rfl (wpAny_bind (wpAny_newTuple ?_ (by show its.length ≤ _; rw [sizeLine_eq]; omega))))) (by rw [List.size_toArray, sizeLine_eq]; omega) (Nat.zero_le _))))
  refine wpAny_bind (wpAny_newList (wpAny_holding ?_) (Nat.zero_le _))
  have z2 : ((s.heap.update D (Obj.mapSeq fun _ => (#[] : Array Value))).push { cls := .type "tuple", data := .seq its.toArray }).objs.size = s.heap.objs.size + 1 := by rw [size_push', z1]
  have J2 := J1.kept (t' := s.toks) kp
  have gS : (((s.heap.update D (Obj.mapSeq fun _ => (#[] : Array Value))).push { cls := .type "tuple", data := .seq its.toArray }).push { cls := .type "list", data := .seq #[] }).get? ((s.heap.update D (Obj.mapSeq fun _ => (#[] : Array Value))).push { cls := .type "tuple", data := .seq its.toArray }).objs.size = some (seqObj "list" #[] 0) := Heap.get?_push_size _ rfl
  have fS := J1.fpOk (b := ((s.heap.update D (Obj.mapSeq fun _ => (#[] : Array Value))).push { cls := .type "tuple", data := .seq its.toArray }).objs.size) (by rw [z2]; show _ ≤ _; rw [z1]; exact Nat.le_succ _) (J1.hok.fresh (by rw [z2]; show _ ≤ _; rw [z1]; exact Nat.le_succ _))
  have oS : OwnA X pins ((s.heap.update D (Obj.mapSeq fun _ => (#[] : Array Value))).push { cls := .type "tuple", data := .seq its.toArray }).objs.size := ⟨Nat.le_trans J.sz (by rw [z2]; exact Nat.le_succ _), fS.2.2.2.2.1, fS.2.2.2.2.2⟩
  have hSD : ((s.heap.update D (Obj.mapSeq fun _ => (#[] : Array Value))).push { cls := .type "tuple", data := .seq its.toArray }).objs.size ≠ D := by rw [z2]; exact Nat.ne_of_gt (Nat.lt_succ_of_lt lD)
  refine sk_rest (J2.pins_of fun p hp => ?_) oD oS hSD rv hl l64 turn h
  rcases List.mem_append.mp hp with hp | hp
  · exact J2.pin p (List.mem_append_right _ hp)
  · rcases List.mem_cons.mp hp with rfl | hp
    · exact ⟨gS, fS.1, fS.2.1, fS.2.2.1, fun v z => by cases z⟩
    · rw [List.mem_singleton.mp hp]
      exact ⟨kp _ _ g1, nD, hL, hfs, fun v z => by cases z⟩
theorem sorted_front {H0 : Hp} {s : Shared} {A : Around} {E Q : Value → Shared → Prop} {l : Addr} {its : List Value} {kw : List (Str × Value)} (I : Inv X pins σ H0 s) (hl : s.heap.IsList l its.toArray) (l64 : its.length < 64) (a1 : argsOk "sorted" ⟨[.ref l], kw⟩) (a2 : ∀ x, argsOk "list.sort" ⟨[.ref x], kw⟩)
    (go : ∀ (D : Addr) (h1 : Heap), Inv X pins σ H0 { s with heap := h1 } → OwnA X pins D → H0 D = none → D ≠ X.env.locals → D ∉ X.fs → h1.get? D = some (seqObj "list" its.toArray 0) →
      wpAny (model X.prog X.w) A.in1.in1 (Builtin.«list.sort» ⟨[.ref D], kw⟩) (fun z s' => z = .done (.ret .none) ∧ Q (.ref D) s') E { s with heap := h1 }) :
    wpAny (model X.prog X.w) A (call (.builtin "sorted") [.ref l] kw) Q E s := by
  refine call_function_entry_kw kind_sorted plain_sorted entry_sorted a1 ?_
  unfold Builtin.«sorted»
  refine wpAny_bind (m := checkCount "sorted" 1 1 _) (wpAny_pure (wpAny_bind (collect_list hl (wpAny_bind (wpAny_newList ?_ (by rw [sizeLine_eq]; omega))) (by rw [sizeLine_eq]; omega))))
  have z1 : ((s.heap.push (seqObj "list" #[] 0)).update s.heap.objs.size (Obj.mapSeq (· ++ its.toArray))).objs.size = s.heap.objs.size + 1 := by rw [Heap.size_update, size_push']
  have kp : ∀ b o, s.heap.get? b = some o → (((s.heap.push (seqObj "list" #[] 0)).update s.heap.objs.size (Obj.mapSeq (· ++ its.toArray))).push { cls := .type "list", data := .seq its.toArray }).get? b = some o := fun b o e => by
    have lt := Heap.lt_size e
    refine Heap.get?_push_of_some _ ?_
    rw [Heap.get?_update_ne _ _ _ _ (Nat.ne_of_lt lt)]
    exact Heap.get?_push_of_some _ e
  have gD : (((s.heap.push (seqObj "list" #[] 0)).update s.heap.objs.size (Obj.mapSeq (· ++ its.toArray))).push { cls := .type "list", data := .seq its.toArray }).get? ((s.heap.push (seqObj "list" #[] 0)).update s.heap.objs.size (Obj.mapSeq (· ++ its.toArray))).objs.size = some (seqObj "list" its.toArray 0) := Heap.get?_push_size _ rfl
  have fD := I.fpOk (b := ((s.heap.push (seqObj "list" #[] 0)).update s.heap.objs.size (Obj.mapSeq (· ++ its.toArray))).objs.size) (by rw [z1]; exact Nat.le_succ _) (I.hok.fresh (by rw [z1]; exact Nat.le_succ _))
  have oD : OwnA X pins ((s.heap.push (seqObj "list" #[] 0)).update s.heap.objs.size (Obj.mapSeq (· ++ its.toArray))).objs.size := ⟨Nat.le_trans I.sz (by rw [z1]; exact Nat.le_succ _), fD.2.2.2.2.1, fD.2.2.2.2.2⟩
  refine wpAny_bind (wpAny_holding (wpAny_call_entry_kw slot_list_sort ⟨_, gD, rfl⟩ entry_list_sort (wpAny_mono (go _ _ (I.kept (t' := s.toks) kp) oD fD.1 fD.2.1 fD.2.2.1 gD) (fun z s' hz => ?_) fun _ _ x => x) (a2 _)))
  obtain ⟨rfl, q⟩ := hz
  exact ⟨_, rfl, wpAny_pure ⟨_, rfl, q⟩⟩
end
end L2
namespace L2
open PySem PyProof.Rows PySem.Spec PySem.Calls PySem.W
def cxLam0 (P : Program) (w : World) (K : PySem.W.Frag) (mg : Str → Option Value) (base : Heap) (x : Str) (qual : Str) (scope : Scope) (f : Addr) (cd : Value) (A : Around) (outer : List Env) (s : Shared) (H : Hp) : Cx where
  prog := P
  w := w
  K := K
  mg := mg
  base := base
  A := A.deeper (PySem.W.envX qual scope s.heap.objs.size f cd [])
  N := [x]
  s₀ := s
  H₀ := H
  env := PySem.W.envX qual scope s.heap.objs.size f cd []
  outer := outer
  stack := PySem.W.envX qual scope s.heap.objs.size f cd [] :: outer
  ex := []
  fn := fun z => z == x
  calm := true
  pn := []
  xe := fun _ _ => False
structure LamScope0 (x : Str) (scope : Scope) : Prop where
  kind : scope.kind = .function
  co : scope.isCoroutine = false
  gen : scope.isGenerator = false
  lx : scope.names.lookup x = some .local
  nocell : ∀ z ∈ scope.names, z.2 ≠ .cell
  nofree : ∀ z, scope.names.lookup z ≠ some .free
theorem lam_start0 {P : Program} {w : World} {K : PySem.W.Frag} {mg : Str → Option Value} {base : Heap} {x qual : Str} {scope : Scope} {f : Addr} {cd : Value} {A : Around} {outer : List Env} {s : Shared} {H : Hp} {h₁ : Heap} {tk : Nat} {u : Value} {v : V}
    (S : LamScope0 x scope) (hd : A.handled = none) (e0 : Env0 P w K mg base A outer s H) (ru : RelV v u)
    (hns : h₁.Ns s.heap.objs.size (fun z => [(x, u)].reverse.lookup z)) (hk : ∀ b o, s.heap.get? b = some o → h₁.get? b = some o) :
    Inv (cxLam0 P w K mg base x qual scope f cd A outer s H) [] [some v] H { s with heap := h₁, toks := tk } := by
  have noA : ∀ b : Addr, b ∉ (cxLam0 P w K mg base x qual scope f cd A outer s H).ex := fun b z => absurd (show b ∈ ([] : List Addr) from z) (by simp)
  have hcl : ∀ z d, (cxLam0 P w K mg base x qual scope f cd A outer s H).env.cells.lookup z ≠ some d := fun z d h => by
    have h' : List.lookup z ([] : List (Str × Addr)) = some d := h
    cases h'
  refine ⟨⟨e0.mod, S.kind, rfl, rfl, Nat.le_refl _, fun a b d h1 h2 => absurd h1 (hcl a d), fun z hz => ?_, fun z d hf hz => absurd hz (hcl z d), fun _ => hd, Around.frames_deeper e0.frames, .inr ⟨rfl, rfl⟩, fun b z => absurd z (noA b), e0.bs, e0.bsz, fun b _ _ => noA b, fun b z => absurd z (noA b), e0.funs, e0.frf⟩,
    rfl, e0.bare, Un.kept hk, ⟨_, hns, fun i z r h1 h2 h3 => ?_⟩, fun z d h => absurd h (hcl z d), e0.hok.fresh (Nat.le_refl _), fun z d h => absurd h (hcl z d), fun p hp => absurd (show p ∈ ([] : List (Addr × Obj)) from hp) (by simp), e0.hok.kept hk, rfl⟩
  · have hz : scope.names.lookup z = some .cell ∨ scope.names.lookup z = some .free := hz
    rcases hz with hz | hz
    · exact absurd rfl (S.nocell _ (PySem.mem_of_lookup hz))
    · exact absurd hz (S.nofree z)
  · match i, h1, h2 with
    | 0, h1, h2 =>
      obtain rfl : x = z := Option.some.inj h1
      obtain rfl : v = r := Option.some.inj (Option.some.inj h2)
      exact ⟨u, ru, .inl ⟨S.lx, by show List.lookup x [(x, u)] = some u; rw [List.lookup_cons, beq_self_eq_true]⟩⟩
theorem lam_run0 {P : Program} {w : World} {K : PySem.W.Frag} {mg : Str → Option Value} {base : Heap} {x qual : Str} {params : Arguments} {body : Expr} {scope : Scope} {f c' : Addr} {pm ctv : Value} {A : Around} {outer : List Env} {s : Shared} {H : Hp} {u : Value} {v : V} {t : TE} {Q : VK}
    (S : LamScope0 x scope) (hd : A.handled = none) (hdep : A.depth < recursionLimit) (e0 : Env0 P w K mg base A outer s H) (ru : RelV v u)
    (hf : s.heap.get? f = some (PySem.W.kla_obj "<lambda>" qual params body scope [] pm c' ctv)) (hcd : s.heap.CodeRec (.ref c') qual)
    (hbind : bindArgs (PySem.W.kla_fn "<lambda>" qual params body scope [] pm (.ref c') ctv) ⟨[u], []⟩ = pure [(x, u)])
    (hb : PE (cxLam0 P w K mg base x qual scope f (.ref c') A outer s H) body t) (hq : t [some v] H Q) :
    codeAny (model P w) A (.call (.ref f) ⟨[u], []⟩) (fun r s' => match r with | .ok (.ret z) => CE outer P w H s Q z s' | _ => False) s := by
  have lim : s.heap.NoLimit := e0.mod.nolimit.keeps fun b o e => (e0.bs b o e).1
  refine PySem.W.kla_callFunE hdep hf rfl S.co S.gen rfl hcd ?_
  rw [hbind]
  refine wpAny_pure (wpAny_newFunctionEnv S.nocell (fun z hz => ?_) (fun h₁ hns hsb => ⟨lim.fresh _ hsb, ?_⟩) S.kind)
  · rw [List.mem_singleton.mp hz]; exact S.lx
  show codeAny _ _ (.expr body (PySem.W.envX qual scope s.heap.objs.size f (.ref c') [])) _ _
  have hk : ∀ b o, s.heap.get? b = some o → h₁.get? b = some o := fun b o e => hsb.extBut b o (Nat.ne_of_lt (Heap.lt_size e)) (Heap.get?_push_of_some _ e)
  have I := lam_start0 (qual := qual) (f := f) (cd := .ref c') (tk := s.toks + 1) S hd e0 ru hns hk
  refine PySem.W.kla_codeExpr (wpAny_mono (hb [] _ _ H Q I hq) (fun z s' h => ?_) fun e s' h => (show False from h).elim)
  obtain ⟨vv, H', J, rv, q⟩ := h
  exact ⟨vv, H', J.os, J.bare, J.base, J.hok, rv, q⟩
section
variable {X : Cx}
def tSortLam (K : PySem.W.Frag) (ta : TA) (P : Addr) (pos : Pos) (qual : Str) (tb : TE) : TE := fun σ H Q => ta σ H fun vs H1 => ∃ (l : Addr) (xs : List V) (kz : List Int), vs = [.ref l] ∧ SqL K H1 l xs ∧ xs.length < 64 ∧ kz.length = xs.length ∧ TabOk H1 P pos qual ∧
  (∀ H2, SameP P H1 H2 → ∀ (i : Nat) x k, xs[i]? = some x → kz[i]? = some k → tb [some x] H2 fun v H4 => v = .int k ∧ Same H2 H4) ∧
  ∀ H2 D qs, H2 D = none → SameP P H1 H2 → TabOk H2 P pos qual → List.Perm qs (kz.zip xs) → qs.Pairwise (fun p q => p.1 ≤ q.1) → Q (.ref D) (upd H2 D (.lst (qs.map Prod.snd)))
theorem pe_sortlam {a : Expr} {ta : TA} {params : Arguments} {body : Expr} {scope : Scope} {p pos lpos kpos : Pos} {c₀ P : Addr} {x : Str} {tb : TE} (hr : Room 1 X.A) (hg : Gl X "sorted") (hm : X.mg "sorted" = none) (ha : PA X [a] ta) (S : LamScope0 x scope)
    (B : BMain X.base X.mg) (hcode : X.env.code = .ref c₀) (C : PySem.W.codeHdIn X.K c₀ P = true) (hcl : closureFor scope X.env = pure [])
    (hbind : ∀ pm c' ctv u, bindArgs (PySem.W.kla_fn "<lambda>" (X.env.qual ++ "<lambda>") params body scope [] pm (.ref c') ctv) ⟨[u], []⟩ = pure [(x, u)])
    (hb : ∀ (f : Addr) (cd : Value) (A : Around) (outer : List Env) (s : Shared) (H : Hp), PE (cxLam0 X.prog X.w X.K X.mg X.base x (X.env.qual ++ "<lambda>") scope f cd A outer s H) body tb)
    (hs : starEach [a] X.env = [(false, eval a X.env)] := by rfl) (hdef : defaultsOf params X.env = ([], []) := by rfl) (bt : bootBuiltins "sorted" = some (.builtin "sorted") := by decide +kernel)
    (hall : (backToKw pos (keywordEach [⟨some "key", .Lambda params body scope lpos, kpos⟩] X.env)).all (·.1.isSome) = true := by rfl) (hks : (backToKw pos (keywordEach [⟨some "key", .Lambda params body scope lpos, kpos⟩] X.env)).filterMap (·.1) = [("key" : Str)] := by rfl)
    (hpl : ((backTo pos (starEach [a] X.env)).any (·.1) || (backToKw pos (keywordEach [⟨some "key", .Lambda params body scope lpos, kpos⟩] X.env)).any (·.1.isNone)) = false := by rfl) :
    PE X (.Call (.Name "sorted" p) [a] [⟨some "key", .Lambda params body scope lpos, kpos⟩] pos) (tSortLam X.K ta P lpos (X.env.qual ++ "<lambda>") tb) := by
  intro pins s σ H Q I h
  refine wpAny_Call_Name_kw (ld_blt I hg hm bt ?_)
  refine cw_bltkw hpl (evalArgs_kw2 hall (thn (ha pos pins s σ H _ I h) fun us s1 ⟨vs, H1, I1, r1, q1⟩ => ?_) hs)
  obtain ⟨l, xs, kz, rfl, hl, l64, lz, ht, hbody, hq⟩ := q1
  obtain ⟨u, rfl, ru⟩ := vals1 r1
  cases ru
  have K1 : PK X [⟨some "key", .Lambda params body scope lpos, kpos⟩] _ := pk_cons (pe_lamE B hcode C hcl hdef) pk_nil
  obtain ⟨ps, hP⟩ := ht.is
  refine thn (K1 pos pins s1 σ H1 (fun zs H2 => ∃ f o c', zs = [V.ref f] ∧ SameP P H1 H2 ∧ TabAt H2 P lpos (X.env.qual ++ "<lambda>") c' ∧ H2 f = some (FN f o) ∧ LamO (X.env.qual ++ "<lambda>") params body scope [] c' o) I1 ⟨ht, fun f o c' H' sP nf tA hf hO => ⟨f, o, c', rfl, sP, tA, hf, hO⟩⟩) fun ws s2 ⟨zs, H2, I2, r2, q2⟩ => ?_
  obtain ⟨f, o, c', rfl, sP, tA, hf, hO⟩ := q2
  obtain ⟨u2, rfl, ru2⟩ := vals1 r2
  cases ru2
  rw [hks]
  obtain ⟨pm, ctv, rfl⟩ := hO
  obtain ⟨its, rv, pl, _⟩ := I2.list (hl.sameP hP sP)
  have li := rv.length
  refine sorted_front I2 pl.isList (by omega) (ksk_s1 _ _) (fun x => ksk_l1 _ _) (fun D h1 J oD nD hL hfs gD => ?_)
  show wpAny _ _ (Builtin.«list.sort» ⟨[.ref D], [(Str.ofString "key", .ref f)]⟩) _ _ _
  rw [ksk_t1]
  refine sk_sort J oD nD hL hfs gD rv lz l64 (fun i xv v k hx hk rx ex H3 s3 J3 s23 => ?_) (fun H3 s3 qs s23 nD3 p1 p2 J3 => ⟨rfl, ?_⟩)
  · have e0 := J3.env0
    have e1 : Env0 X.prog X.w X.K X.mg X.base X.A.in1.in1 X.stack s3 H3 := ⟨e0.frames, e0.mod, e0.bs, e0.bsz, e0.funs, e0.frf, e0.hok, e0.bare⟩
    have hf3 : s3.heap.get? f = some _ := (J3.hok f _ (s23 _ _ hf)).1
    have hcd : s3.heap.CodeRec (.ref c') (X.env.qual ++ "<lambda>") := (J3.hok c' _ (s23 _ _ tA.2)).1
    have run := lam_run0 (u := v) S (show X.A.in1.in1.handled = none from hr.hd) (show X.A.in1.in1.depth < recursionLimit by have := hr.dp; show X.A.depth < _; omega) e1 rx hf3 hcd (hbind pm c' ctv v) (hb f (.ref c') X.A.in1.in1 X.stack s3 H3) (hbody H3 (sP.trans s23.p) i xv k hx hk)
    refine wpAny_call (codeAny_mono run fun r s' hr' => ?_)
    cases r with
    | error e => exact hr'.elim
    | ok fl =>
      cases fl with
      | next => exact hr'.elim
      | brk => exact hr'.elim
      | cont => exact hr'.elim
      | ret z =>
        obtain ⟨vv, H4, J4, rv, rfl, s34⟩ := J3.after hr'
        obtain ⟨t, rfl⟩ := rv
        exact ⟨t, H4, rfl, s34, J4⟩
  · exact ⟨.ref D, _, J3, rfl, hq H3 D qs nD3 (sP.trans s23.p) (.inr ⟨c', tA.same s23⟩) p1 p2⟩
end
end L2
namespace L2
open PySem PyProof.Rows PySem.Spec PySem.Calls PySem.W
section
variable {X : Cx} {pins : List (Addr × Obj)} {σ : St}
def FirstI (H : Hp) (r : Int × Addr) : Prop := ∃ rest, H r.2 = some (.tup (.int r.1 :: rest))
theorem first_at {H : Hp} {s : Shared} {r : Int × Addr} (J : Inv X pins σ H s) (h : FirstI H r) : ∃ (o : Obj) (t : Tok) (vs : List Value) (n : Nat), s.heap.get? r.2 = some o ∧ o.cls = .type "tuple" ∧ o.data = .seq (Value.int r.1 t :: vs).toArray n := by
  obtain ⟨rest, e⟩ := h
  obtain ⟨its, rv, ⟨o, ho, hc, n, hd⟩, _⟩ := J.tuple (SqT.of e)
  cases rv with
  | cons a b =>
    obtain ⟨t, rfl⟩ := a
    exact ⟨o, t, _, n, ho, hc, hd⟩
theorem firsts_at {H : Hp} {s : Shared} (J : Inv X pins σ H s) : ∀ (rs : List (Int × Addr)), (∀ r ∈ rs, FirstI H r) → ∃ fs, KatTups s.heap (rs.map fun r => Value.ref r.2) fs ∧ fs.length = rs.length ∧ ∀ v ∈ fs, ∃ k t, v = Value.int k t
  | [], _ => ⟨[], .nil, rfl, fun v hv => absurd hv List.not_mem_nil⟩
  | r :: rs, h => by
    obtain ⟨fs, a, b, c⟩ := firsts_at J rs fun x hx => h x (.tail _ hx)
    obtain ⟨o, t, vs, n, ho, hc, hd⟩ := first_at J (h r (.head _))
    refine ⟨Value.int r.1 t :: fs, KatTups.cons ho hc hd (by simp) a, by rw [List.length_cons, List.length_cons, b], fun v hv => ?_⟩
    rcases List.mem_cons.mp hv with rfl | hv
    · exact ⟨_, _, rfl⟩
    · exact c v hv
theorem lt_firsts {H : Hp} {s : Shared} {A : Around} {E : Value → Shared → Prop} {C : Bool → Shared → Prop} {r q : Int × Addr} (J : Inv X pins σ H s) (h1 : FirstI H r) (h2 : FirstI H q) (ne : r.1 ≠ q.1) (c : C (decide (r.1 < q.1)) s) : wpAny (model X.prog X.w) A (keyLt' (tuples' true) (.ref r.2) (.ref q.2)) C E s := by
  obtain ⟨o, t, vs, n, ho, _, hd⟩ := first_at J h1
  obtain ⟨o2, t2, vs2, n2, ho2, _, hd2⟩ := first_at J h2
  refine kat_lt ho hd ho2 hd2 ?_
  show KatLex _ _ _ _ _ _ ((Value.int r.1 t, Value.int q.1 t2) :: vs.zip vs2) 0 s
  refine kat_cons (eqAt_V (y := .int r.1) (x := .int q.1) ⟨t, rfl⟩ ⟨t2, rfl⟩ rfl rfl _ _ _ _ ?_)
  rw [show eqV (.int r.1) (.int q.1) = false from decide_eq_false ne]
  exact kat_no (kat_lt_int c)
theorem sk_plain {H0 : Hp} {s : Shared} {A : Around} {E : Value → Shared → Prop} {P : PySem.Fin → Shared → Prop} {D : Addr} {n : Nat} {rs : List (Int × Addr)}
    (J : Inv X pins σ H0 s) (oD : OwnA X pins D) (nD : H0 D = none) (hL : D ≠ X.env.locals) (hfs : D ∉ X.fs) (ho : s.heap.get? D = some (seqObj "list" (rs.map fun r => Value.ref r.2).toArray n)) (hr : ∀ r ∈ rs, FirstI H0 r) (nd : (rs.map (·.1)).Nodup) (l64 : rs.length < 64)
    (h : ∀ s' qs, List.Perm qs rs → qs.Pairwise (fun p q => p.1 < q.1) → Inv X pins σ (upd H0 D (.lst (qs.map fun r => V.ref r.2))) s' → P (.done (.ret .none)) s') : wpAny (model X.prog X.w) A (Builtin.«list.sort» ⟨[.ref D], []⟩) P E s := by
  generalize hi : (rs.map fun r => Value.ref r.2) = its at ho
  have li : its.length = rs.length := by rw [← hi, List.length_map]
  have u1 := Heap.SameBut.update s.heap D (Obj.mapSeq fun _ => (#[] : Array Value))
  have g1 := get?_update_seq ho fun _ => #[]
  have J1 := J.turned (t' := s.toks) (it := D) (fun b u nb e => (u1.2 b nb).trans e) nD hL (.inr oD.h1) oD.h2 oD.h3
  rw [list_sort_plain]
  refine wpAny_bind (listItems_at ho rfl (wpAny_bind (listUpdate_at ho rfl (wpAny_bind (seqEpoch_at g1 rfl (wpAny_bind (wpAny_newTuple ?_ (by show its.length ≤ _; rw [sizeLine_eq]; omega))))) (by rw [List.size_toArray, sizeLine_eq]; omega) (Nat.zero_le _))))
  refine wpAny_bind (wpAny_newList (wpAny_holding ?_) (Nat.zero_le _))
  have kp : ∀ b o, (s.heap.update D (Obj.mapSeq fun _ => (#[] : Array Value))).get? b = some o → (((s.heap.update D (Obj.mapSeq fun _ => (#[] : Array Value))).push { cls := .type "tuple", data := .seq its.toArray }).push { cls := .type "list", data := .seq #[] }).get? b = some o := fun b o e => Heap.get?_push_of_some _ (Heap.get?_push_of_some _ e)
  have J2 := J1.kept (t' := s.toks) kp
  have g2 := kp _ _ g1
  dsimp only
  generalize e1 : (if ((fun _ => (#[] : Array Value)) its.toArray).size == its.toArray.size then n else n + 1) = en at g2 g1
  show wpAny (model X.prog X.w) A _ P E { s with heap := ((s.heap.update D (Obj.mapSeq fun _ => (#[] : Array Value))).push { cls := .type "tuple", data := .seq its.toArray }).push { cls := .type "list", data := .seq #[] } }
  generalize ((s.heap.update D (Obj.mapSeq fun _ => (#[] : Array Value))).push { cls := .type "tuple", data := .seq its.toArray }).push { cls := .type "list", data := .seq #[] } = h3 at J2 g2 ⊢
  have fin : ∀ (st : SortSt) (qs : List (Int × Addr)), List.Perm qs rs → qs.Pairwise (fun p q => p.1 < q.1) → (arrOf st).map (·.2) = (qs.map fun r => Value.ref r.2).toArray → failedOf st = none → wpAny (model X.prog X.w) A (do
      let touched := (← seqEpoch D) != en
      Builtin.List.listUpdate (.ref D) fun _ => (arrOf st).map (·.2)
      if let some e := failedOf st then rule "list.sort.comparison-raised"; throw e
      if touched then rule "list.sort.modified"; raiseError "ValueError" "list modified during sort"
      ret .none) P E { s with heap := h3 } := fun st qs p1 p2 ea hf => by
    refine wpAny_bind (seqEpoch_at g2 rfl (wpAny_bind ?_))
    rw [ea, hf]
    refine listUpdate_at g2 rfl ?_ (Nat.zero_le _) (by show (qs.map _).toArray.size ≤ _; rw [List.size_toArray, List.length_map, p1.length_eq, sizeLine_eq]; omega)
    simp only [bne_self_eq_false, Bool.false_eq_true, if_false]
    have u2 := Heap.SameBut.update h3 D (Obj.mapSeq fun _ => (qs.map fun r => Value.ref r.2).toArray)
    have g4 := get?_update_seq g2 fun _ => (qs.map fun r => Value.ref r.2).toArray
    have J3 := J2.turned (t' := s.toks) (it := D) (fun b u nb e => (u2.2 b nb).trans e) nD hL (.inr oD.h1) oD.h2 oD.h3
    refine wpAny_pure (h _ qs p1 p2 (J3.adopt oD nD hL ⟨by rw [List.length_map, p1.length_eq, sizeLine_eq]; omega, _, _, ?_, g4⟩))
    have all : ∀ l : List (Int × Addr), Vals (l.map fun r => V.ref r.2) (l.map fun r => Value.ref r.2) := fun l => by
      induction l with
      | nil => exact .nil
      | cons a l ih => exact .cons rfl ih
    exact all qs
  by_cases c : its.toArray.size < 2
  · rw [if_pos c, if_pos c]
    refine wpAny_bind (wpAny_pure ?_)
    rw [StateT.run_pure]
    refine wpAny_bind (wpAny_pure (fin (SortSt.mk' general' (its.toArray.zip its.toArray) #[] 7 none) rs (.refl _) ?_ ?_ rfl))
    · rw [List.size_toArray, li] at c
      match rs, c with
      | [], _ => exact .nil
      | [r], _ => exact List.pairwise_singleton _ _
    · rw [hi]
      show (its.toArray.zip its.toArray).map (·.2) = _
      apply Array.toList_inj.mp
      simp only [Array.toList_map, Array.toList_zip]
      exact List.map_snd_zip (Nat.le_refl _)
  · rw [if_neg c, if_neg c]
    rw [List.size_toArray, li] at c
    obtain ⟨fs, t1, t2, t3⟩ := firsts_at J2 rs hr
    rw [hi] at t1
    refine wpAny_bind (kat_kind (T := .type "int") t1 (by omega) (fun v hv => ?_) rfl ?_)
    · obtain ⟨k, t, rfl⟩ := t3 v hv
      exact .now
    have at_ : ∀ i, i < rs.length → its.getD i Value.none = .ref (rs.getD i (0, 0)).2 ∧ rs.getD i (0, 0) ∈ rs := fun i hi' => by
      rw [← hi]
      have e1 : rs.getD i (0, 0) = rs[i] := by simp [hi']
      rw [e1]
      exact ⟨by simp [hi'], List.getElem_mem _⟩
    have asks : Asks its.length (fun i => (rs.getD i (0, 0)).1) { s with heap := h3 } (kas_ask X.prog X.w A (tuples' true) its) := by
      have inj : ∀ i j, i < its.length → j < its.length → (rs.getD i (0, 0)).1 = (rs.getD j (0, 0)).1 → i = j := fun i j hi' hj' e => by
        rw [li] at hi' hj'
        have a1 : (rs.map (·.1))[i]'(by rw [List.length_map]; exact hi') = (rs.getD i (0, 0)).1 := by simp [hi']
        have a2 : (rs.map (·.1))[j]'(by rw [List.length_map]; exact hj') = (rs.getD j (0, 0)).1 := by simp [hj']
        exact (List.getElem_inj nd).mp ((a1.trans e).trans a2.symm)
      refine ⟨inj, fun i j C hi' hj' ne hC => ?_⟩
      unfold kas_ask
      obtain ⟨b1, b2⟩ := at_ i (by omega)
      obtain ⟨b3, b4⟩ := at_ j (by omega)
      rw [b1, b3]
      exact lt_firsts J2 (hr _ b2) (hr _ b4) (fun e => ne (inj i j hi' hj' e)) hC
    refine wpAny_bind (wpAny_mono (kat_run (Q := fun st s' => s' = { s with heap := h3 } ∧ failedOf st = none ∧ ∃ p : Array Nat, arrOf st = p.map (kas_item (its.toArray.zip its.toArray)) ∧ PrmO its.length p ∧ Up (fun i => (rs.getD i (0, 0)).1) p its.length) (G := fun p s' => s' = { s with heap := h3 } ∧ PrmO its.length p ∧ Up (fun i => (rs.getD i (0, 0)).1) p its.length)
      rfl (by omega) (by omega) (fun p st s' _ a b z => ⟨z.1, b, p, a, z.2.1, z.2.2⟩) (sort_up asks (by omega) fun p a b => ⟨rfl, a, b⟩)) ?_ fun _ _ z => z)
    rintro ⟨⟨⟩, st⟩ s' ⟨rfl, hf, p, ha, hp, hu⟩
    refine fin st (p.toList.map fun i => rs.getD i (0, 0)) ?_ ?_ ?_ hf
    · have p1 := List.Perm.map (fun i => rs.getD i (0, 0)) hp
      have p2 : (List.range its.length).map (fun i => rs.getD i (0, 0)) = rs := by
        rw [li]
        refine List.ext_getElem (by simp) fun i a b => ?_
        simp [b]
      rw [p2] at p1
      exact p1
    · have := up_pair hp hu
      exact List.pairwise_map.mpr (List.pairwise_map.mp this)
    · rw [kat_snds rfl ha, List.map_map]
      congr 1
      refine List.map_congr_left fun i hi' => ?_
      have : i < its.length := List.mem_range.mp ((List.Perm.mem_iff hp).mp hi')
      exact (at_ i (by omega)).1
def rSortedT (K : PySem.W.Frag) : List V → Hp → VK → Prop := fun xs H Q => ∃ l rs, xs = [.ref l] ∧ SqL K H l (rs.map fun r => V.ref r.2) ∧ rs.length < 64 ∧ (∀ r ∈ rs, FirstI H r) ∧ (rs.map (·.1)).Nodup ∧ ∀ D qs, H D = none → List.Perm qs rs → qs.Pairwise (fun p q : Int × Addr => p.1 < q.1) → Q (.ref D) (upd H D (.lst (qs.map fun r => V.ref r.2)))
theorem call_sorted_t : CallR X (.builtin "sorted") (rSortedT X.K) := by
  intro pins s σ H xs us Q I r h
  obtain ⟨l, rs, rfl, hq, h64, hr, nd, q⟩ := h
  obtain ⟨u, rfl, rx⟩ := vals1 r
  cases rx
  obtain ⟨its, rv, pl, hz⟩ := I.list hq
  have hl := rv.length
  rw [List.length_map] at hl
  have ei : its = rs.map fun r => Value.ref r.2 := by
    have all : ∀ (l : List (Int × Addr)) (vs : List Value), Vals (l.map fun r => V.ref r.2) vs → vs = l.map fun r => Value.ref r.2 := fun l => by
      induction l with
      | nil => intro vs h; cases h; rfl
      | cons a l ih =>
        intro vs h
        cases h with
        | cons a b => cases a; rw [ih _ b]; rfl
    exact all rs its rv
  subst ei
  exact sorted_front I pl.isList (by omega) (args_sorted1 _) (fun x => args_list_sort _) fun D h1 J oD nD hL hfs gD => sk_plain J oD nD hL hfs gD hr nd h64 fun s' qs p1 p2 J' => ⟨rfl, .ref D, _, J', rfl, q D qs nD p1 p2⟩
end
end L2
namespace L2
open PySem PyProof.Rows PySem.Spec PySem.Calls
section
variable {P : Program} {w : World} {K : PySem.W.Frag} {mg : Str → Option Value} {base : Heap}
theorem Fun.okLE {x qual : Str} {st : Stmt} {f c₀ : Addr} {fd : FuncData} {N ps : List Str} {k : Nat} {sp : Sp} (F : Fun K x qual st f fd) (hL : fd.code = .ref c₀) (S : FnScope N ps (defScope st)) (len : ∀ vs H Q E, sp vs H Q E → vs.length = ps.length)
    (hbody : ∀ (A : Around) (outer : List Env) (s : Shared) (H : Hp) (vs : List V) (Q : VK) (E : XK), Room k (A.deeper (envOfC qual (defScope st) s.heap.objs.size f (.ref c₀))) → sp vs H Q E →
      ∃ t, PSs (cxE P w K mg base N qual (defScope st) f (.ref c₀) A outer s H E) (defBody st) t ∧ t { nx := fun _ H' => Q .non H', rt := Q } (start N vs) H) : FnOk P w K mg base (CXe P w) (k + 1) f fd ps sp := by
  obtain ⟨oc, od, kV, doc, pm, an, cdv, ct, osl, rfl, lk, hcd⟩ := F.ex
  obtain rfl : cdv = .ref c₀ := hL
  exact fn_of lk hcd S len fun A outer s H vs Q E hr hsp => hbody A outer s H vs Q E hr hsp
theorem LamScope0.mk1 {x : Str} {scope : Scope} (hn : scope.names = [(x, .local)]) (kind : scope.kind = .function) (co : scope.isCoroutine = false) (gen : scope.isGenerator = false) : LamScope0 x scope := by
  refine ⟨kind, co, gen, ?_, fun z hz => ?_, fun z hz => ?_⟩
  · rw [hn, List.lookup_cons, beq_self_eq_true]
  · rw [hn] at hz
    rw [List.mem_singleton.mp hz]; intro z; cases z
  · have m := PySem.mem_of_lookup hz
    rw [hn] at m
    injection List.mem_singleton.mp m with _ e; cases e
end
section
variable {P : Program} {w : World} {K : PySem.W.Frag} {mg : Str → Option Value} {base : Heap} {N : List Str} {qual : Str} {scope : Scope} {f : Addr} {cd : Value} {A : Around} {outer : List Env} {s : Shared} {H : Hp} {E : XK}
def ThawE (H : Hp) (E : XK) : XK := fun C ea H' => ∃ (d : Addr) (o : Obj) (kvs : List (Key × V)), H d = some (.dK kvs) ∧ H' d = some (.frz o (.dK kvs)) ∧ E C ea (upd H' d (.dK kvs))
theorem pass_thaw : PassesS (cxE P w K mg base N qual scope f cd A outer s H E) (fun _ => ThawE H E) := by
  intro pins σ H1 s1 e s2 I c
  obtain ⟨ea, C, d, H2, rfl, I2, hx, tr, dd, o, kvs, h0, hz, q⟩ := I.flew c
  show wpAny _ _ (leaving _ _) _ _ _
  unfold leaving
  refine wpAny_bind (note_flew top_def I2 hx tr fun s3 I3 t3 => ?_)
  have I4 := I3.thaw hz (fun o u z => by have z' : H dd = some (.frz o u) := z; rw [h0] at z'; cases z')
  refine ⟨ea, C, d, _, rfl, I4.os, I4.bare, I4.base, I4.hok, ?_, ?_, q⟩
  · rw [upd_ne (fun z => by rw [z, hz] at hx; cases hx)]; exact hx
  · obtain ⟨cl, d', vs, sl, T, g1, g2, g3, g4, g5⟩ := t3.tr
    exact ⟨cl, d', vs, sl, T, g1, g2, g3, g4, by rw [upd_ne (fun z => by rw [z, hz] at g5; cases g5)]; exact g5⟩
end
end L2
namespace My
open PySem L2
def fig : List Nat := List.range' 48 10
def isnum (z : Str) : Bool := decide ((1 : Int) ≤ (z.length : Nat)) && decide (((z.length : Nat) : Int) ≤ 9) && (z.cps.toList.all fun c => decide (c ∈ fig)) && (decide (z = ⟨#[48]⟩) || !decide (z.cps.toList.headD 0 = 48))
def val (z : Str) : Int := ((NumText.digitsVal z.cps.toList : Nat) : Int)
def wr (z : Str) : V := if isnum z = true then .int (val z) else .non
def inNum (z : Str) (lo hi : Int) : V := if (isnum z && decide (lo ≤ val z) && decide (val z ≤ hi)) = true then .int (val z) else .non
def low : List Nat := List.range' 97 26
def good (z : Str) : Bool := decide ((1 : Int) ≤ (z.length : Nat)) && decide (((z.length : Nat) : Int) ≤ 12) && decide (z.cps.toList.headD 0 ∈ low) && z.cps.toList.all fun c => decide (c ∈ low ++ fig)
def lay (z : Str) : Bool := decide (z = Str.ofString "both") || (Txt.startswith z (Str.ofString "up:") && decide (¬ inNum (Txt.slice z (some 3) none) 2 16 = V.non))
def goods : List V := (((List.range 15).map fun i => V.int (2 + ((i : Nat) : Int))).filter fun _ => true).map fun v => match v with | .int n => V.str (Str.ofString "up:" ++ Str.ofString (toString n)) | _ => .non
def goodTexts : List Str := (List.range 15).map fun i => Str.ofString "up:" ++ Str.ofString (toString (2 + ((i : Nat) : Int)))
end My
namespace My
open PySem L2
open Blk (sg sg_inj sg_app)
def Jc (c : Nat) : List (List Nat) → List Nat
  | [] => []
  | [x] => x
  | x :: y :: r => x ++ c :: Jc c (y :: r)
def Cc (c : Nat) : List Nat → List (List Nat)
  | [] => [[]]
  | d :: r => if d = c then [] :: Cc c r else match Cc c r with
    | [] => [[d]]
    | p :: ps => (d :: p) :: ps
def tn (n : Int) : Str := Str.ofString (toString n)
end My
namespace My
open PySem L2
open Blk (sg sg_inj sg_app)
inductive VO where
  | v (x : V) | pair (a b : Int)
  deriving DecidableEq
def non : VO := .v .non
abbrev cX : Str := Str.ofString "x"
abbrev cCol : Str := Str.ofString "colour:"
abbrev cPap : Str := Str.ofString "paper:"
abbrev cCov : Str := Str.ofString "cover:"
abbrev cAft : Str := Str.ofString "after:"
abbrev cSta : Str := Str.ofString "staple"
abbrev cLay : Str := Str.ofString "layout"
abbrev cOne : Str := Str.ofString "one"
abbrev cPla : Str := Str.ofString "plain"
abbrev cDash : Str := Str.ofString "-"
abbrev cBlank : Str := Str.ofString " "
def rst (z p : Str) : Str := Txt.slice z (some ((p.length : Nat) : Int)) none
def readCol (span : Str) (pages : Int) : VO := match Txt.split span cDash with
  | [a, b] => (match inNum a 1 pages with
    | .int f => (match inNum b f pages with
      | .int l => .pair f l
      | _ => non)
    | _ => non)
  | _ => non
def three : List Str := [cPap, cCov, cAft]
def four : List Str := [cX, cCol, cPap, cCov]
def valueOf (z : Str) (pages : Int) : VO :=
  if z = cSta then .v (.bl true) else if lay z = true then .v (.str z) else if Txt.startswith z cX = true then .v (inNum (rst z cX) 1 99) else if Txt.startswith z cCol = true then readCol (rst z cCol) pages
  else match three.find? (fun p => Txt.startswith z p && good (rst z p)) with
    | some p => .v (.str (rst z p))
    | none => non
def sortOf (z : Str) : Str := if lay z = true then cLay else (four.find? fun p => Txt.startswith z p).getD z
def readTail (pages : Int) : List Str → Nat → List (Str × VO) → Except Nat (List (Str × VO))
  | [], _, t => .ok t
  | w :: r, p, t => if valueOf w pages = non ∨ sortOf w ∈ t.map (·.1) then .error p else readTail pages r (p + 1) (t ++ [(sortOf w, valueOf w pages)])
def toldV (t : List (Str × VO)) (k : Str) : Option VO := (t.find? fun p => decide (p.1 = k)).map (·.2)
structure JF where
  name : Str
  asker : Str
  pages : Int
  copies : VO
  layout : VO
  paper : VO
  cover : VO
  colour : VO
  staple : VO
  after : List VO
def readHead (ws : List Str) : Except Nat Int :=
  if good (ws.getD 0 cBlank) = false then .error 0 else if ws.length < 2 then .error ws.length else if good (ws.getD 1 cBlank) = false then .error 1 else if ws.length < 3 then .error ws.length else
  match inNum (ws.getD 2 cBlank) 1 999 with
  | .int n => .ok n
  | _ => .error 2
def toldJob (ws : List Str) (pages : Int) (t : List (Str × VO)) : JF :=
  { name := ws.getD 0 cBlank, asker := ws.getD 1 cBlank, pages := pages, copies := (toldV t cX).getD (.v (.int 1)), layout := (toldV t cLay).getD (.v (.str cOne)), paper := (toldV t cPap).getD (.v (.str cPla)), cover := (toldV t cCov).getD non, colour := (toldV t cCol).getD non,
    staple := (toldV t cSta).getD (.v (.bl false)), after := (t.filter fun p => Txt.startswith p.1 cAft).map (·.2) }
def readJ (z : Str) : Except Nat JF := match readHead (Txt.split z cBlank) with
  | .error p => .error p
  | .ok n => match readTail n ((Txt.split z cBlank).drop 3) 3 [] with
    | .error p => .error p
    | .ok t => .ok (toldJob (Txt.split z cBlank) n t)
structure Jb where
  name : Str
  asker : Str
  pages : Int
  copies : Int
  layout : Str
  paper : Str
  cover : Option Str
  colour : Option (Int × Int)
  staple : Bool
  after : List Str
structure Jb.Ok (j : Jb) : Prop where
  name : good j.name = true
  asker : good j.asker = true
  p0 : 1 ≤ j.pages
  p1 : j.pages ≤ 999
  c0 : 1 ≤ j.copies
  c1 : j.copies ≤ 99
  lay : j.layout ∈ cOne :: Str.ofString "both" :: goodTexts
  paper : good j.paper = true
  cover : ∀ z, j.cover = some z → good z = true
  colour : ∀ a b, j.colour = some (a, b) → 1 ≤ a ∧ a ≤ b ∧ b ≤ j.pages
  after : ∀ z ∈ j.after, good z = true
  nd : j.after.Nodup
  few : j.after.length ≤ 3
def Jb.jf (j : Jb) : JF := { name := j.name, asker := j.asker, pages := j.pages, copies := .v (.int j.copies), layout := .v (.str j.layout), paper := .v (.str j.paper), cover := (match j.cover with | some z => .v (.str z) | none => non), colour := (match j.colour with | some (a, b) => .pair a b | none => non), staple := .v (.bl j.staple), after := j.after.map fun z => .v (.str z) }
def Jb.ents (j : Jb) (told : Bool) : List (Bool × Str × Str × VO) :=
  [(!decide (j.copies = 1) || told, cX ++ tn j.copies, cX, .v (.int j.copies)), (!decide (j.layout = cOne), j.layout, cLay, .v (.str j.layout)),
   (j.colour.isSome, cCol ++ tn (j.colour.getD (1, 1)).1 ++ cDash ++ tn (j.colour.getD (1, 1)).2, cCol, .pair (j.colour.getD (1, 1)).1 (j.colour.getD (1, 1)).2),
   (!decide (j.paper = cPla) || told, cPap ++ j.paper, cPap, .v (.str j.paper)), (j.cover.isSome, cCov ++ j.cover.getD cPla, cCov, .v (.str (j.cover.getD cPla))), (j.staple, cSta, cSta, .v (.bl true))]
def Jb.words (j : Jb) (told : Bool) : List Str := ((j.ents told).filter (·.1)).map (·.2.1)
def Jb.afts (j : Jb) : List Str := j.after.map fun n => cAft ++ n
end My
namespace My
open PySem L2
open Blk (sg sg_inj sg_app)
def sorts : List Str := [cX, cLay, cCol, cPap, cCov, cSta]
def told (pages : Int) (M : List Str) : List (Str × VO) := M.map fun w => (sortOf w, valueOf w pages)
structure Mix (ws as M : List Str) : Prop where
  perm : M.Perm (ws ++ as)
  afts : (M.filter fun w => Txt.startswith w cAft) = as
def Jb.head (j : Jb) : List Str := [j.name, j.asker, tn j.pages]
end My
namespace My
open PySem L2
open Blk (sg sg_inj sg_app)
def HoldsV (H : Hp) (x : V) : VO → Prop
  | .v y => x = y
  | .pair a b => ∃ p, x = .ref p ∧ H p = some (.tup [.int a, .int b])
theorem HoldsV.same {H H' : Hp} {x : V} {o : VO} (h : HoldsV H x o) (e : Same H H') : HoldsV H' x o := by
  cases o with
  | v y => exact h
  | pair a b => obtain ⟨p, h1, h2⟩ := h; exact ⟨p, h1, e _ _ h2⟩
theorem HoldsV.upd {H : Hp} {x : V} {o : VO} {D : Addr} {kvs : List (Key × V)} {u : HO} (h : HoldsV H x o) (hD : H D = some (.dK kvs)) : HoldsV (L2.upd H D u) x o := by
  cases o with
  | v y => exact h
  | pair a b =>
    obtain ⟨p, h1, h2⟩ := h
    exact ⟨p, h1, by rw [upd_ne (ne_of h2 hD (by intro z; cases z))]; exact h2⟩
def TR (H : Hp) (q : Key × V) (p : Str × VO) : Prop := q.1 = Sum.inr p.1 ∧ HoldsV H q.2 p.2
structure Told (H : Hp) (D : Addr) (kvs : List (Key × V)) (t : List (Str × VO)) : Prop where
  at_ : H D = some (.dK kvs)
  rel : Paired (TR H) kvs t
  nd : (t.map (·.1)).Nodup
theorem Told.look {H : Hp} {D : Addr} {kvs : List (Key × V)} {t : List (Str × VO)} (T : Told H D kvs t) (k : Str) : match valV kvs (Sum.inr k : Key), toldV t k with | some x, some o => HoldsV H x o | none, none => True | _, _ => False := by
  have key : ∀ {kvs : List (Key × V)} {t : List (Str × VO)}, Paired (TR H) kvs t → match valV kvs (Sum.inr k : Key), toldV t k with | some x, some o => HoldsV H x o | none, none => True | _, _ => False := by
    intro kvs t r
    induction r with
    | nil => trivial
    | @cons q p kvs t h r ih =>
      obtain ⟨h1, h2⟩ := h
      by_cases e : p.1 = k
      · rw [valV_pos (by rw [h1, e])]
        unfold toldV
        rw [List.find?_cons_of_pos (h := by exact decide_eq_true e)]
        exact h2
      · rw [valV_neg (by rw [h1]; intro z; injection z with z; exact e z)]
        unfold toldV
        rw [List.find?_cons_of_neg (h := by rw [decide_eq_false e]; decide)]
        exact ih
  exact key T.rel
theorem Told.has {H : Hp} {D : Addr} {kvs : List (Key × V)} {t : List (Str × VO)} (T : Told H D kvs t) (k : Str) : (valV kvs (Sum.inr k : Key)).isSome = decide (k ∈ t.map (·.1)) := by
  have q := T.look k
  cases e2 : toldV t k with
  | none =>
    have nm : k ∉ t.map (·.1) := fun m => by
      obtain ⟨p, hp, rfl⟩ := List.mem_map.mp m
      unfold toldV at e2
      rw [Option.map_eq_none_iff] at e2
      have := List.find?_eq_none.mp e2 p hp
      exact this (decide_eq_true rfl)
    rw [decide_eq_false nm]
    cases e1 : valV kvs (Sum.inr k : Key) with
    | none => rfl
    | some x => rw [e1, e2] at q; exact q.elim
  | some o =>
    have m : k ∈ t.map (·.1) := by
      unfold toldV at e2
      obtain ⟨p, hp, _⟩ := Option.map_eq_some_iff.mp e2
      exact List.mem_map.mpr ⟨p, List.mem_of_find?_eq_some hp, by have q := List.find?_some hp; exact of_decide_eq_true q⟩
    rw [decide_eq_true m]
    cases e1 : valV kvs (Sum.inr k : Key) with
    | none => rw [e1, e2] at q; exact q.elim
    | some x => rfl
theorem Told.same {H H' : Hp} {D : Addr} {kvs : List (Key × V)} {t : List (Str × VO)} (T : Told H D kvs t) (e : Same H H') : Told H' D kvs t := ⟨e _ _ T.at_, Paired.mapP T.rel fun _ _ h => ⟨h.1, h.2.same e⟩, T.nd⟩
theorem paired_snoc {α β : Type} {R : α → β → Prop} : ∀ {xs : List α} {ys : List β} {x : α} {y : β}, Paired R xs ys → R x y → Paired R (xs ++ [x]) (ys ++ [y])
  | _, _, _, _, .nil, h => .cons h .nil
  | _, _, _, _, .cons a b, h => .cons a (paired_snoc b h)
theorem Told.put {H : Hp} {D : Addr} {kvs : List (Key × V)} {t : List (Str × VO)} (T : Told H D kvs t) {k : Str} {x : V} {o : VO} (hx : HoldsV H x o) (hn : valV kvs (Sum.inr k : Key) = none) :
    Told (upd H D (.dK (putK kvs (Sum.inr k) x))) D (kvs ++ [(Sum.inr k, x)]) (t ++ [(k, o)]) := by
  have hk : k ∉ t.map (·.1) := fun m => by
    have q := T.has k
    rw [hn, decide_eq_true m] at q
    cases q
  refine ⟨?_, ?_, by rw [List.map_append]; exact nd_snoc T.nd hk⟩
  · rw [upd_same, putK_new x hn]
  · exact paired_snoc (Paired.mapP T.rel fun _ _ h => ⟨h.1, h.2.upd T.at_⟩) ⟨rfl, hx.upd T.at_⟩
theorem Told.keys {H : Hp} {kvs : List (Key × V)} {t : List (Str × VO)} (r : Paired (TR H) kvs t) : kvs.map (·.1) = (t.map (·.1)).map Sum.inr := by
  induction r with
  | nil => rfl
  | cons h r ih => rw [List.map_cons, List.map_cons, List.map_cons, ih, h.1]
def luV (kvs : List (Key × V)) : V → V
  | .str s => (valV kvs (Sum.inr s : Key)).getD .non
  | _ => .non
def afterP : V → Bool
  | .str x => Txt.startswith x cAft
  | _ => false
theorem Told.after {H : Hp} {D : Addr} {kvs : List (Key × V)} {t : List (Str × VO)} (T : Told H D kvs t) (g : V → V) (hg : ∀ q ∈ kvs, g (kV q.1) = q.2) :
    Paired (fun a o => HoldsV H a o) (((kvs.map fun p => kV p.1).filter afterP).map g) ((t.filter fun p => Txt.startswith p.1 cAft).map (·.2)) := by
  rw [List.filter_map, List.map_map]
  have e : (kvs.filter (afterP ∘ fun p => kV p.1)).map (g ∘ fun p => kV p.1) = (kvs.filter (afterP ∘ fun p => kV p.1)).map (·.2) := List.map_congr_left fun q hq => hg q (List.mem_filter.mp hq).1
  rw [e]
  clear e hg
  have key : ∀ {kvs : List (Key × V)} {t : List (Str × VO)}, Paired (TR H) kvs t → Paired (fun a o => HoldsV H a o) ((kvs.filter (afterP ∘ fun p => kV p.1)).map (·.2)) ((t.filter fun p => Txt.startswith p.1 cAft).map (·.2)) := by
    intro kvs t r
    induction r with
    | nil => exact .nil
    | @cons q p kvs t h r ih =>
      obtain ⟨h1, h2⟩ := h
      have e1 : (afterP ∘ fun p : Key × V => kV p.1) q = Txt.startswith p.1 cAft := by
        show afterP (kV q.1) = _
        rw [h1]
        rfl
      cases hs : Txt.startswith p.1 cAft with
      | true =>
        rw [List.filter_cons_of_pos (by rw [e1, hs]), List.filter_cons_of_pos (by exact hs)]
        exact .cons h2 ih
      | false =>
        rw [List.filter_cons_of_neg (by rw [e1, hs]; decide), List.filter_cons_of_neg (by rw [hs]; decide)]
        exact ih
  exact key T.rel
theorem Told.len {H : Hp} {D : Addr} {kvs : List (Key × V)} {t : List (Str × VO)} (T : Told H D kvs t) : kvs.length = t.length := Paired.length T.rel
def jobF (a b c d e f g h i j : V) : List (Str × V) := [("name", a), ("asker", b), ("pages", c), ("copies", d), ("layout", e), ("paper", f), ("cover", g), ("colour", h), ("staple", i), ("after", j)]
structure JobAt (C : Addr) (H : Hp) (x : Addr) (f : JF) : Prop where
  ex : ∃ (dx pa : Addr) (d e p g h i : V) (as : List V), H x = some (.ins C dx (jobF (.str f.name) (.str f.asker) (.int f.pages) d e p g h i (.ref pa))) ∧ HoldsV H d f.copies ∧ HoldsV H e f.layout ∧ HoldsV H p f.paper ∧ HoldsV H g f.cover ∧ HoldsV H h f.colour ∧ HoldsV H i f.staple ∧
    H pa = some (.tup as) ∧ Paired (fun a o => HoldsV H a o) as f.after
theorem JobAt.same {C : Addr} {H H' : Hp} {x : Addr} {f : JF} (J : JobAt C H x f) (e : Same H H') : JobAt C H' x f := by
  obtain ⟨dx, pa, v1, v2, v3, v4, v5, v6, as, h0, h1, h2, h3, h4, h5, h6, h7, h8⟩ := J.ex
  exact ⟨dx, pa, v1, v2, v3, v4, v5, v6, as, e _ _ h0, h1.same e, h2.same e, h3.same e, h4.same e, h5.same e, h6.same e, e _ _ h7, Paired.mapP h8 fun _ _ h => h.same e⟩
end My
namespace My
open PySem L2
open Blk (sg sg_inj sg_app)
def nmC (f r : Nat) (size place l : Nat) : List Nat := (f :: List.replicate (size - 1) r).set place l
def nm (f r : Nat) (size place l : Nat) : Str := ⟨(nmC f r size place l).toArray⟩
def ltr (s : Nat) (j : Nat) : Nat := 97 + (s + 5 * j) % 26
def nms (f r size place s : Nat) (m : Nat) : List Str := (List.range m).map fun j => nm f r size place (ltr s j)
structure NamesOk (ns : List Str) (m : Nat) : Prop where
  len : ns.length = m
  good : ∀ z ∈ ns, good z = true
  nd : ns.Nodup
def six : List Str := [Str.ofString "x2", Str.ofString "staple", Str.ofString "both", Str.ofString "up2", Str.ofString "plain", Str.ofString "after"]
def one (c : Nat) : Str := ⟨#[c]⟩
def optV : Option Str → V
  | some z => .str z
  | none => .non
structure Due (H : Hp) (t : Addr) (j : Jb) : Prop where
  ex : ∃ (vc : V) (pa : Addr), H t = some (.tup [.str j.name, .str j.asker, .int j.pages, .int j.copies, .str j.layout, .str j.paper, optV j.cover, vc, .bl j.staple, .ref pa]) ∧ HoldsV H vc j.jf.colour ∧ H pa = some (.tup (j.after.map V.str))
theorem Due.same {H H' : Hp} {t : Addr} {j : Jb} (D : Due H t j) (e : Same H H') : Due H' t j := by
  obtain ⟨vc, pa, h1, h2, h3⟩ := D.ex
  exact ⟨vc, pa, e _ _ h1, h2.same e, e _ _ h3⟩
end My
namespace My
open PySem L2
open Blk (sg sg_inj sg_app)
theorem ins_perm {α : Type} (M : List α) (i : Nat) (y : α) : (M.take i ++ y :: M.drop i).Perm (M ++ [y]) := by
  have a : (M.take i ++ y :: M.drop i).Perm (y :: (M.take i ++ M.drop i)) := List.perm_middle
  rw [List.take_append_drop] at a
  exact a.trans (List.perm_append_singleton y M).symm
structure Mid (ws as : List Str) (A : Nat) (M : List Str) : Prop where
  perm : M.Perm (ws ++ as)
  le : A ≤ M.length
  pre : ((M.take A).filter fun w => Txt.startswith w cAft) = as
  post : ((M.drop A).filter fun w => Txt.startswith w cAft) = []
theorem Mid.start {ws M : List Str} (p : M.Perm ws) (h : ∀ w ∈ ws, Txt.startswith w cAft = false) : Mid ws [] 0 M := by
  refine ⟨by rw [List.append_nil]; exact p, Nat.zero_le _, by simp, ?_⟩
  rw [List.drop_zero]
  exact List.filter_eq_nil_iff.mpr fun w hw => by rw [h w (p.mem_iff.mp hw)]; decide
theorem Mid.put {ws as M : List Str} {A B : Nat} {y : Str} (m : Mid ws as A M) (h1 : A ≤ B) (h2 : B ≤ M.length) (hy : Txt.startswith y cAft = true) : Mid ws (as ++ [y]) (B + 1) (M.take B ++ y :: M.drop B) := by
  have hl : (M.take B).length = B := by rw [List.length_take]; omega
  refine ⟨?_, ?_, ?_, ?_⟩
  · exact (ins_perm M B y).trans (by rw [← List.append_assoc]; exact m.perm.append_right [y])
  · rw [List.length_append, List.length_cons, hl, List.length_drop]
    omega
  · have e : (M.take B ++ y :: M.drop B).take (B + 1) = M.take B ++ [y] := by
      rw [List.take_append, hl, List.take_of_length_le (by omega), show B + 1 - B = 1 by omega]
      rfl
    rw [e, List.filter_append]
    have e2 : ((M.take B).filter fun w => Txt.startswith w cAft) = as := by
      have e3 : M.take B = M.take A ++ (M.drop A).take (B - A) := by
        rw [← List.take_append_drop A (M.take B), List.take_take, Nat.min_eq_left h1, List.drop_take]
      rw [e3, List.filter_append, m.pre]
      have e4 : (((M.drop A).take (B - A)).filter fun w => Txt.startswith w cAft) = [] := by
        refine List.filter_eq_nil_iff.mpr fun w hw => ?_
        exact List.filter_eq_nil_iff.mp m.post w (List.mem_of_mem_take hw)
      rw [e4, List.append_nil]
    rw [e2]
    simp [hy]
  · have e : (M.take B ++ y :: M.drop B).drop (B + 1) = M.drop B := by
      rw [List.drop_append, hl, List.drop_of_length_le (by omega), show B + 1 - B = 1 by omega]
      rfl
    rw [e]
    refine List.filter_eq_nil_iff.mpr fun w hw => ?_
    have : w ∈ M.drop A := by
      have e3 : M.drop B = (M.drop A).drop (B - A) := by rw [List.drop_drop]; congr 1; omega
      rw [e3] at hw
      exact List.mem_of_mem_drop hw
    exact List.filter_eq_nil_iff.mp m.post w this
theorem Mid.done {ws as M : List Str} {A : Nat} (m : Mid ws as A M) : Mix ws as M := by
  refine ⟨m.perm, ?_⟩
  rw [← List.take_append_drop A M, List.filter_append, m.pre, m.post, List.append_nil]
end My
namespace My
open PySem L2
abbrev Tag := Str × Int
abbrev Pc := Str × List Int
def stepP (told : List Pc) (g : Tag) : Option (List Pc) :=
  if g.2 = -1 then some (told ++ [(g.1, [])]) else match told.getLast? with
    | some m => if m.1 = g.1 then some (told.dropLast ++ [(m.1, m.2 ++ [g.2])]) else none
    | none => none
def runP : List Pc → List Tag → Nat → Except Nat (List Pc)
  | told, [], _ => .ok told
  | told, g :: r, i => match stepP told g with
    | some t => runP t r (i + 1)
    | none => .error i
def wrongF : Option Str → List Tag → Nat → Option Nat
  | _, [], _ => none
  | last, g :: r, i => if g.2 = -1 then wrongF (some g.1) r (i + 1) else if some g.1 = last then wrongF last r (i + 1) else some i
theorem last_app {α : Type} (l : List α) (x : α) : (l ++ [x]).getLast? = some x := by simp
end My
namespace My
open PySem L2
def top (i : Nat) : Stmt := PySem.Challenge.pw_spoolhall_k37_gathered.main.body.getD i (.Pass ⟨0, 0, 0, 0⟩)
abbrev s_NoHeap_init : Stmt := inClass (top 2) 0
abbrev s_pieces : Stmt := top 5
abbrev s_gathered : Stmt := top 6
abbrev s_first_lack : Stmt := top 7
abbrev s__law_cell_at : Stmt := top 9
abbrev s__law_mix : Stmt := top 10
abbrev s__law_word : Stmt := top 11
abbrev s__law_runs : Stmt := top 12
abbrev s__law_mixed : Stmt := top 13
abbrev s__law_heaps : Stmt := top 14
abbrev s__law_alike : Stmt := top 15
abbrev s__law_is : Stmt := top 16
abbrev s__law_refused : Stmt := top 17
abbrev s__law_spoilt : Stmt := top 18
abbrev s_law : Stmt := top 19
structure Txt (K : PySem.W.Frag) (mg : Str → Option Value) (cNoHeap cHallError tP_gathered : Addr) : Prop where
  len : mg "len" = none
  range : mg "range" = none
  enumerate : mg "enumerate" = none
  int : mg "int" = none
  bool : mg "bool" = none
  tuple : mg "tuple" = none
  list : mg "list" = none
  isinstance : mg "isinstance" = none
  min : mg "min" = none
  sorted : mg "sorted" = none
  ValueError : mg "ValueError" = none
  SLIP : GI mg "SLIP" (-1)
  mh_NoHeap_NoHeap : PySem.W.mroHas K cNoHeap (.ref cNoHeap) = true
  x_NoHeap : XCl K cNoHeap ["place"]
  mg_NoHeap : mg "NoHeap" = some (.ref cNoHeap)
  in_HallError : InX K cHallError
  mg_HallError : mg "HallError" = some (.ref cHallError)
  kit : kitTab K [cNoHeap] cHallError = true
end My
seal L2.PE L2.PS L2.PSs L2.PT L2.PW L2.PA L2.PI L2.PG L2.PGs L2.PSet L2.PIfs L2.PO L2.PK L2.CallR L2.OpR L2.IxR L2.SlR L2.UnR
namespace My
open PySem L2
open Blk (sg sg_inj sg_app)
section
variable {P : Program} {w : World} {K : PySem.W.Frag} {mg : Str → Option Value} {base : Heap}
structure Scr (K : PySem.W.Frag) (H : Hp) (a : Addr) : Prop where
  ex : ∃ ns : List Int, SqL K H a (ns.map V.int) ∧ ns.length ≤ 63
theorem Scr.same {K : PySem.W.Frag} {H H' : Hp} {a : Addr} (s : Scr K H a) (e : Same H H') : Scr K H' a := by
  obtain ⟨ns, h, l⟩ := s.ex
  exact ⟨ns, e.seq h, l⟩
end
end My
namespace My
open PySem L2
open Blk (sg sg_inj sg_app)
section
variable {P : Program} {w : World} {K : PySem.W.Frag} {mg : Str → Option Value} {base : Heap}
def KeptBut (x : Addr) (H H' : Hp) : Prop := ∀ b o, b ≠ x → H b = some o → H' b = some o
def sp_one (C : Addr) (f : Str) : Sp := fun vs H Q _ => ∃ (x : Addr) (y : V), vs = [.ref x, y] ∧ H x = some (XO x C none) ∧ ∀ H', KeptBut x H H' → XF H' x C [(f, y)] → Q .non H'
theorem kept_set {H : Hp} {x dx : Addr} {o u : HO} (hd : H dx = none) : KeptBut x H (upd (upd H dx o) x u) := fun b v hb e => by
  rw [upd_ne hb, upd_ne (ne_of_none e hd)]; exact e
theorem xf_set {H : Hp} {x dx C : Addr} {fs : List (Str × V)} (hx : dx ≠ x) : XF (upd (upd H dx (XD dx fs)) x (XO x C (some dx))) x C fs := ⟨dx, upd_same, by rw [upd_ne hx, upd_same], hx⟩
theorem same_made {H H' : Hp} {x : Addr} {o : HO} (hx : H x = none) (k : KeptBut x (upd H x o) H') : Same H H' := fun b v e => by
  have hb : b ≠ x := ne_of_none e hx
  exact k b v hb (by rw [upd_ne hb]; exact e)
theorem raise_one {K : PySem.W.Frag} {C : Addr} {f : Str} {y : V} {H : Hp} {E : XK} (mk : PySem.W.excMk K C = true) (h : ∀ ea H', Same H H' → H ea = none → XG H' ea C [(f, y)] → E (.ref C) (some ea) H') :
    ∀ x, H x = none → sp_one C f (.ref x :: [y]) (upd H x (XO x C none)) (fun v H2 => v = .non ∧ ∃ ea C' d, V.ref x = .ref ea ∧ H2 ea = some (XO ea C' d) ∧ PySem.W.excMk K C' = true ∧ E (.ref C') (some ea) (upd H2 ea (XC ea C' d))) E0 := by
  intro x nx
  refine ⟨x, y, rfl, upd_same, fun H' kb xf => ⟨rfl, ?_⟩⟩
  obtain ⟨dx, a, g⟩ := xf.raised
  exact ⟨x, C, some dx, rfl, a, mk, h x _ (same_on nx (same_made nx kb) _) nx g⟩
end
end My
namespace My
open PySem L2
open Blk (sg sg_inj sg_app)
section
variable {P : Program} {w : World} {K : PySem.W.Frag} {mg : Str → Option Value} {base : Heap}
theorem sc_NoHeap_init : FnScope ["self", "place"] ["self", "place"] (defScope s_NoHeap_init) := ⟨rfl, rfl, rfl, by decide +kernel, rfl, by decide +kernel, by decide +kernel⟩
theorem ok_NoHeap_init {fa cNoHeap cHallError tP_gathered : Addr} {fd : FuncData} (F : Fun K "__init__" "NoHeap.__init__" s_NoHeap_init fa fd) (T : Txt K mg cNoHeap cHallError tP_gathered)  :
    FnOk P w K mg base CX0 1 fa fd ["self", "place"] (sp_one cNoHeap "place") := by
  refine F.ok sc_NoHeap_init (fun vs H Q E h => ?_) (fun cdv A outer s H vs Q E hr h => ?_)
  · obtain ⟨x, y, rfl, _⟩ := h
    rfl
  obtain ⟨x, y, rfl, hx, q⟩ := h
  refine ⟨_, (pss_cons (ps_expr (pe_initX T.in_HallError rfl T.mg_HallError (pa_cons (pv 0) (pa_cons (pv 1) pa_nil))))
  (pss_one (ps_fldX (pv 0) (pv 1) rfl))), ?_⟩
  refine ⟨_, rfl, _, rfl, x, _, none, [y], rfl, (by simp), hx, T.x_NoHeap.m, ?_⟩
  refine ⟨_, rfl, _, rfl, .inl ⟨x, _, rfl, hx, T.x_NoHeap.i.c, T.x_NoHeap.n _ (.head _), fun dx nd ne => ?_⟩⟩
  exact q _ (kept_set nd) (xf_set ne)
def TagsAt (H : Hp) (a : Addr) (h : List Tag) : Prop := ∃ ts : List (Addr × Tag), h = ts.map (·.2) ∧ H a = some (.lst (ts.map fun r => V.ref r.1)) ∧ ∀ r ∈ ts, H r.1 = some (.tup [.str r.2.1, .int r.2.2])
theorem TagsAt.same {H H' : Hp} {a : Addr} {h : List Tag} (x : TagsAt H a h) (k : Same H H') : TagsAt H' a h := let ⟨ts, e, e1, g⟩ := x; ⟨ts, e, k _ _ e1, fun r hr => k _ _ (g r hr)⟩
def PcAt (H0 H : Hp) (p : Addr) (L : List Pc) : Prop := H0 p = none ∧ ∃ rows : List (Addr × Addr × Pc), L = rows.map (·.2.2) ∧ H p = some (.lst (rows.map fun r => V.ref r.1)) ∧ (rows.map (·.2.1)).Nodup ∧
  ∀ r ∈ rows, H r.1 = some (.tup [.str r.2.2.1, .ref r.2.1]) ∧ H r.2.1 = some (.lst (r.2.2.2.map V.int)) ∧ H0 r.2.1 = none ∧ r.2.1 ≠ p
theorem PcAt.same {H0 H H' : Hp} {p : Addr} {L : List Pc} (x : PcAt H0 H p L) (k : Same H H') : PcAt H0 H' p L :=
  let ⟨n, rows, e, e1, nd, g⟩ := x
  ⟨n, rows, e, k _ _ e1, nd, fun r hr => let ⟨a, b, c⟩ := g r hr; ⟨k _ _ a, k _ _ b, c⟩⟩
theorem PcAt.slip {H0 H H2 : Hp} {p t l : Addr} {L : List Pc} {n : Str} {rows : List (Addr × Addr × Pc)} (n0 : H0 p = none) (eL : L = rows.map (·.2.2)) (hp : H p = some (.lst (rows.map fun r => V.ref r.1))) (nd : (rows.map (·.2.1)).Nodup)
    (g : ∀ r ∈ rows, H r.1 = some (.tup [.str r.2.2.1, .ref r.2.1]) ∧ H r.2.1 = some (.lst (r.2.2.2.map V.int)) ∧ H0 r.2.1 = none ∧ r.2.1 ≠ p) (s2 : Same H H2) (nl : H l = none) (n0l : H0 l = none) (hl : H2 l = some (.lst [])) (ht : H2 t = some (.tup [.str n, .ref l])) :
    PcAt H0 (upd H2 p (.lst ((rows.map fun r => V.ref r.1) ++ [V.ref t]))) p (L ++ [(n, [])]) := by
  have lp : l ≠ p := fun e => by rw [e, hp] at nl; cases nl
  refine ⟨n0, rows ++ [(t, l, (n, []))], by rw [eL, List.map_append]; rfl, by rw [upd_same, List.map_append]; rfl, ?_, fun r hr => ?_⟩
  · rw [List.map_append, List.nodup_append]
    refine ⟨nd, by simp, fun x hx y hy => ?_⟩
    have hy' : y = l := by simpa using hy
    obtain ⟨r, hr, rfl⟩ := List.mem_map.mp hx
    rw [hy']
    intro e
    have := (g r hr).2.1
    rw [e, nl] at this
    cases this
  · rcases List.mem_append.mp hr with hr | hr
    · obtain ⟨a, b, c, d⟩ := g r hr
      refine ⟨?_, ?_, c, d⟩
      · rw [upd_ne (ne_of (s2 _ _ a) (s2 _ _ hp) (by intro z; cases z))]; exact s2 _ _ a
      · rw [upd_ne d]; exact s2 _ _ b
    · rw [List.mem_singleton.mp hr]
      refine ⟨?_, ?_, n0l, lp⟩
      · show upd H2 p _ t = _
        rw [upd_ne (ne_of ht (s2 _ _ hp) (by intro z; cases z))]; exact ht
      · show upd H2 p _ l = _
        rw [upd_ne lp]; exact hl
theorem PcAt.more {H0 H : Hp} {p t l : Addr} {m : Pc} {k : Int} {rows : List (Addr × Addr × Pc)} (n0 : H0 p = none) (hp : H p = some (.lst ((rows ++ [(t, l, m)]).map fun r => V.ref r.1))) (nd : ((rows ++ [(t, l, m)]).map (·.2.1)).Nodup)
    (g : ∀ r ∈ rows ++ [(t, l, m)], H r.1 = some (.tup [.str r.2.2.1, .ref r.2.1]) ∧ H r.2.1 = some (.lst (r.2.2.2.map V.int)) ∧ H0 r.2.1 = none ∧ r.2.1 ≠ p) :
    PcAt H0 (upd H l (.lst (m.2.map V.int ++ [V.int k]))) p (rows.map (·.2.2) ++ [(m.1, m.2 ++ [k])]) := by
  obtain ⟨a, b, c, d⟩ := g (t, l, m) (List.mem_append_right _ (.head _))
  have a' : H t = some (.tup [.str m.1, .ref l]) := a
  have b' : H l = some (.lst (m.2.map V.int)) := b
  refine ⟨n0, rows ++ [(t, l, (m.1, m.2 ++ [k]))], by rw [List.map_append]; rfl, ?_, ?_, fun r hr => ?_⟩
  · rw [upd_ne (Ne.symm d), hp, List.map_append, List.map_append]
    rfl
  · rw [List.map_append] at nd ⊢
    exact nd
  · rcases List.mem_append.mp hr with hr | hr
    · obtain ⟨x, y, z, w⟩ := g r (List.mem_append_left _ hr)
      have nl : r.2.1 ≠ l := fun e => by
        rw [List.map_append, List.nodup_append] at nd
        exact nd.2.2 r.2.1 (List.mem_map.mpr ⟨r, hr, rfl⟩) l (.head _) e
      refine ⟨?_, ?_, z, w⟩
      · rw [upd_ne (ne_of x b' (by intro z; cases z))]; exact x
      · rw [upd_ne nl]; exact y
    · rw [List.mem_singleton.mp hr]
      refine ⟨?_, ?_, c, d⟩
      · show upd H l _ t = _
        rw [upd_ne (ne_of a' b' (by intro z; cases z))]; exact a'
      · show upd H l _ l = _
        rw [upd_same, List.map_append]; rfl
def sp_pieces (cN : Addr) : Sp := fun vs H Q E => ∃ (a : Addr) (h : List Tag), vs = [.ref a] ∧ TagsAt H a h ∧ h.length ≤ 300 ∧ (∀ L, runP [] h 0 = .ok L → ∀ p H', Same H H' → PcAt H H' p L → Q (.ref p) H') ∧
  ∀ i : Nat, runP [] h 0 = .error i → ∀ ea H', Same H H' → XG H' ea cN [("place", .int (i : Int))] → E (.ref cN) (some ea) H'
theorem sc_pieces : FnScope ["heap", "told", "place", "tag"] ["heap"] (defScope s_pieces) := ⟨rfl, rfl, rfl, by decide +kernel, rfl, by decide +kernel, by decide +kernel⟩
theorem ok_pieces {fa cNoHeap cHallError tP_gathered : Addr} {fd : FuncData} (F : Fun K "pieces" "pieces" s_pieces fa fd) (T : Txt K mg cNoHeap cHallError tP_gathered) (X_NoHeap : MkXD P w K mg base 1 "NoHeap" cNoHeap ["self", "place"] (sp_one cNoHeap "place")) :
    FnOk P w K mg base (CXe P w) 3 fa fd ["heap"] (sp_pieces cNoHeap) := by
  refine F.okE sc_pieces (fun vs H Q E h => ?_) (fun cdv A outer s H vs Q E hr h => ?_)
  · obtain ⟨a, h, rfl, _⟩ := h
    rfl
  obtain ⟨a, h, rfl, ⟨ts, eh, ha, gt⟩, lh, q1, q2⟩ := h
  refine ⟨_, (pss_cons (ps_set (i := 1) sc_pieces.nd rfl (by first | exact Or.inl rfl | exact Or.inr rfl) (pe_lst pa_nil))
  (pss_cons (ps_for own_def rfl (pi_enum rfl T.enumerate (pa_cons (pv 0) pa_nil)) (pg_tup rfl (pgs_cons (pg_name (i := 2) sc_pieces.nd rfl (by first | exact Or.inl rfl | exact Or.inr rfl)) (pgs_cons (pg_name (i := 3) sc_pieces.nd rfl (by first | exact Or.inl rfl | exact Or.inr rfl)) pgs_nil)))
  (pss_one (ps_if (pt_cmpR op_eq (pe_ix ix_tup (pv 3) pe_int (fun _ _ => rfl)) (pe_gi T.SLIP rfl) (nomark _)) (pss_one (ps_expr (pe_bm PySem.F.plainAttrs_list PySem.F.slot_list_append PySem.F.type_list_append mt_append (pv 1) (pa_cons (pe_tup (pa_cons (pe_ix ix_tup (pv 3) pe_int (fun _ _ => rfl)) (pa_cons (pe_lst pa_nil) pa_nil))) pa_nil)))) (pss_one (ps_if (PW.pt (pw_and (pt_truth (pv 1) (fun _ => rfl)) (pw_and1 (pt_cmpR op_eq (pe_ix ix_tup (pe_ix ix_list (pv 1) (pe_un un_neg pe_int) (fun _ _ => rfl)) pe_int (fun _ _ => rfl)) (pe_ix ix_tup (pv 3) pe_int (fun _ _ => rfl)) (nomark _))))) (pss_one (ps_expr (pe_bm PySem.F.plainAttrs_list PySem.F.slot_list_append PySem.F.type_list_append mt_append (pe_ix ix_tup (pe_ix ix_list (pv 1) (pe_un un_neg pe_int) (fun _ _ => rfl)) pe_int (fun _ _ => rfl)) (pa_cons (pe_ix ix_tup (pv 3) pe_int (fun _ _ => rfl)) pa_nil)))) (pss_one (ps_raise raise_def rfl (pe_makeXD X_NoHeap (hr.mono (by decide)) rfl (pa_cons (pv 2) pa_nil)))))))))
  (pss_one (ps_ret (pv 1))))), ?_⟩
  have z2 : 2 ≤ sizeLine := small (by decide)
  have lt : ts.length = h.length := by rw [eh, List.length_map]
  refine ⟨Nat.zero_le _, fun p np => ?_⟩
  have sp := same_new np (.lst [])
  refine ⟨_, rfl, a, rfl, ⟨_, SqL.of (sp _ _ ha)⟩, for_enum (K := K) (a := a) (j := 0) (xs := ts.map fun r => V.ref r.1) (fun i σ H' => Same H H' ∧ ∃ (v2 v3 : Option V) (told : List Pc), σ = [some (.ref a), some (.ref p), v2, v3] ∧ PcAt H H' p told ∧ told.length ≤ i ∧ (∀ g ∈ told, g.2.length ≤ i) ∧ runP told (h.drop i) i = runP [] h 0)
    ⟨sp, _, _, [], rfl, ⟨np, [], rfl, upd_same, List.nodup_nil, fun r hr => absurd hr List.not_mem_nil⟩, Nat.le_refl _, fun g hg => absurd hg List.not_mem_nil, rfl⟩ (fun i σ H' _ z => SqL.of (z.1 _ _ ha)) (fun i x σ H' t hx z nt => ?_) (fun σ H' z => ?_)⟩
  · obtain ⟨sm, v2, v3, told, rfl, ⟨n0, rows, eL, hp, nd, g⟩, l1, l2, er⟩ := z
    rw [List.getElem?_map] at hx
    obtain ⟨r, hr, rfl⟩ := Option.map_eq_some_iff.mp hx
    have hg : h[i]? = some r.2 := by rw [eh, List.getElem?_map, hr]; rfl
    have hi : i < h.length := (List.getElem?_eq_some_iff.mp hg).1
    have ed : h.drop i = r.2 :: h.drop (i + 1) := by
      rw [List.drop_eq_getElem_cons hi]
      congr 1
      exact (List.getElem?_eq_some_iff.mp hg).2
    rw [ed] at er
    have st := same_new nt (.tup [.int (0 + (i : Int)), .ref r.1])
    have htag : upd H' t (.tup [.int (0 + (i : Int)), .ref r.1]) r.1 = some (.tup [.str r.2.1, .int r.2.2]) := st _ _ (sm _ _ (gt r (List.mem_of_getElem? hr)))
    refine ⟨t, _, rfl, SqT.of upd_same, rfl, _, _, rfl, _, _, rfl, rfl, ?_⟩
    generalize upd H' t (.tup [.int (0 + (i : Int)), .ref r.1]) = H1 at st htag ⊢
    have sm1 := sm.trans st
    have hp1 := st _ _ hp
    have g1 : ∀ r ∈ rows, H1 r.1 = some (.tup [.str r.2.2.1, .ref r.2.1]) ∧ H1 r.2.1 = some (.lst (r.2.2.2.map V.int)) ∧ H r.2.1 = none ∧ r.2.1 ≠ p := fun r hr => let ⟨a, b, c⟩ := g r hr; ⟨st _ _ a, st _ _ b, c⟩
    have lr : rows.length = told.length := by rw [eL, List.length_map]
    refine ⟨_, rfl, r.1, _, _, _, rfl, rfl, SqT.of htag, atI_nat (j := 1) rfl, rfl, _, rfl, ?_⟩
    refine ite2 (fun c => ?_) (fun c => ?_)
    · have c' : r.2.2 = -1 := by
        have := of_decide_eq_true c
        injection this
      refine ⟨_, rfl, .inl ⟨rfl, _, SqL.of hp1⟩, _, rfl, r.1, _, _, _, rfl, rfl, SqT.of htag, atI_nat (j := 0) rfl, Nat.zero_le _, fun l nl => ⟨z2, fun t2 nt2 => ?_⟩⟩
      have s2 := (same_new nl (.lst [])).trans (same_new nt2 (.tup [.str r.2.1, .ref l]))
      refine ⟨p, _, _, rfl, rfl, s2 _ _ hp1, small1000 (by rw [List.length_map]; omega), ?_⟩
      refine ⟨same_on np (sm1.trans s2) _, _, _, told ++ [(r.2.1, [])], rfl, PcAt.slip n0 eL hp1 nd g1 s2 nl (sm1.free nl) (by rw [upd_ne (ne_of_none upd_same nt2)]; exact upd_same) upd_same, by rw [List.length_append]; show told.length + 1 ≤ i + 1; omega, fun y hy => ?_, ?_⟩
      · rcases List.mem_append.mp hy with hy | hy
        · exact Nat.le_succ_of_le (l2 y hy)
        · rw [List.mem_singleton.mp hy]; exact Nat.zero_le _
      · rw [← er]
        show _ = match stepP told r.2 with | some t => runP t (h.drop (i + 1)) (i + 1) | none => .error i
        unfold stepP
        rw [if_pos c']
    · have c' : ¬ r.2.2 = -1 := fun e => c (decide_eq_true (by rw [e]))
      rcases List.eq_nil_or_concat rows with er0 | ⟨rows0, ⟨t', l', m⟩, er0⟩
      · subst er0
        refine ⟨_, rfl, false, .inl ⟨_, SqL.of hp1, rfl⟩, iteF (iteF ?_)⟩
        refine ⟨_, rfl, raise_one T.x_NoHeap.m fun ea H2 s2 _ gx => ?_⟩
        have e0 : runP [] h 0 = .error i := by
          rw [← er, eL]
          show (match stepP [] r.2 with | some t => runP t (h.drop (i + 1)) (i + 1) | none => .error i) = _
          unfold stepP
          rw [if_neg c']
          rfl
        refine q2 i e0 ea H2 (sm1.trans s2) ?_
        rwa [show (0 : Int) + (i : Int) = (i : Int) from by omega] at gx
      · rw [List.concat_eq_append] at er0
        subst er0
        have hp2 : H1 p = some (.lst ((rows0.map fun r => V.ref r.1) ++ [V.ref t'])) := by rw [hp1, List.map_append]; rfl
        have el : atI ((rows0.map fun r => V.ref r.1) ++ [V.ref t']) (-1) = some (V.ref t') := atI_last _ _
        obtain ⟨a', b', c2, d2⟩ := g1 (t', l', m) (List.mem_append_right _ (.head _))
        have a2 : H1 t' = some (.tup [.str m.1, .ref l']) := a'
        have b2 : H1 l' = some (.lst (m.2.map V.int)) := b'
        have et : told.getLast? = some m := by rw [eL, List.map_append]; exact last_app _ _
        have ed2 : told.dropLast = rows0.map (·.2.2) := by rw [eL, List.map_append]; exact List.dropLast_concat
        have hm2 : m.2.length ≤ i := l2 m (List.mem_of_getLast? et)
        refine ⟨_, rfl, true, .inl ⟨_, SqL.of hp2, ?_⟩, iteT ?_⟩
        · simp
        refine ⟨_, rfl, _, rfl, p, _, _, _, rfl, rfl, SqL.of hp2, el, t', _, _, _, rfl, rfl, SqT.of a2, atI_nat (j := 0) rfl, _, rfl, r.1, _, _, _, rfl, rfl, SqT.of htag, atI_nat (j := 0) rfl, rfl, _, rfl, ?_⟩
        refine ite2 (fun c3 => ?_) (fun c3 => ?_)
        · have c4 : m.1 = r.2.1 := by
            have := of_decide_eq_true c3
            injection this
          refine ⟨_, rfl, _, rfl, p, _, _, _, rfl, rfl, SqL.of hp2, el, t', _, _, _, rfl, rfl, SqT.of a2, atI_nat (j := 1) rfl, .inl ⟨rfl, _, SqL.of b2⟩, _, rfl, r.1, _, _, _, rfl, rfl, SqT.of htag, atI_nat (j := 1) rfl, l', _, _, rfl, rfl, b2, small1000 (by rw [List.length_map]; omega), ?_⟩
          refine ⟨same_on c2 sm1 _, _, _, rows0.map (·.2.2) ++ [(m.1, m.2 ++ [r.2.2])], rfl, PcAt.more n0 hp1 nd g1, ?_, fun y hy => ?_, ?_⟩
          · rw [List.length_append, List.length_map]
            rw [List.length_append] at lr
            have : rows0.length + 1 = told.length := lr
            show rows0.length + 1 ≤ i + 1
            omega
          · rcases List.mem_append.mp hy with hy | hy
            · refine Nat.le_succ_of_le (l2 y ?_)
              rw [eL, List.map_append]
              exact List.mem_append_left _ hy
            · rw [List.mem_singleton.mp hy]
              show (m.2 ++ [r.2.2]).length ≤ i + 1
              rw [List.length_append]
              show m.2.length + 1 ≤ i + 1
              omega
          · rw [← er]
            show _ = match stepP told r.2 with | some t => runP t (h.drop (i + 1)) (i + 1) | none => .error i
            unfold stepP
            rw [if_neg c', et]
            dsimp only
            rw [if_pos c4, ed2]
        · have c4 : ¬ m.1 = r.2.1 := fun e => c3 (decide_eq_true (by rw [e]))
          refine ⟨_, rfl, raise_one T.x_NoHeap.m fun ea H2 s2 _ gx => ?_⟩
          have e0 : runP [] h 0 = .error i := by
            rw [← er]
            show (match stepP told r.2 with | some t => runP t (h.drop (i + 1)) (i + 1) | none => .error i) = _
            unfold stepP
            rw [if_neg c', et]
            dsimp only
            rw [if_neg c4]
          refine q2 i e0 ea H2 (sm1.trans s2) ?_
          rwa [show (0 : Int) + (i : Int) = (i : Int) from by omega] at gx
  · obtain ⟨sm, v2, v3, told, rfl, pc, l1, l2, er⟩ := z
    rw [List.length_map, lt, List.drop_length] at er
    exact ⟨_, rfl, q1 told er.symm p H' sm pc⟩
end
end My
namespace My
open PySem L2
open Blk (sg sg_inj sg_app)
section
variable {P : Program} {w : World} {K : PySem.W.Frag} {mg : Str → Option Value} {base : Heap}
abbrev HRow := Str × Addr × List Tag
def hrD (rows : List HRow) : List (Key × V) := rows.map fun r => ((Sum.inr r.1 : Key), V.ref r.2.1)
structure HpsAt (H : Hp) (d : Addr) (rows : List HRow) : Prop where
  o : H d = some (.dK (hrD rows))
  t : ∀ r ∈ rows, TagsAt H r.2.1 r.2.2
  l : (rows.map fun r => r.2.2.length).sum ≤ 300
theorem HpsAt.same {H H' : Hp} {d : Addr} {rows : List HRow} (x : HpsAt H d rows) (s : Same H H') : HpsAt H' d rows := ⟨s _ _ x.o, fun r hr => (x.t r hr).same s, x.l⟩
theorem HpsAt.sameP {H H' : Hp} {d tP : Addr} {ps : Array Value} {rows : List HRow} (x : HpsAt H d rows) (hP : H tP = some (.tbl ps)) (s : SameP tP H H') : HpsAt H' d rows := by
  refine ⟨s _ _ (ne_of x.o hP (by intro z; cases z)) x.o, fun r hr => ?_, x.l⟩
  obtain ⟨ts, e, e1, g⟩ := x.t r hr
  exact ⟨ts, e, s _ _ (ne_of e1 hP (by intro z; cases z)) e1, fun r hr => s _ _ (ne_of (g r hr) hP (by intro z; cases z)) (g r hr)⟩
def hdN (p : Pc) : Int := p.2.headD 0
def pickP (name pr : Str) (L : List Pc) : List Pc := (L.filter fun p => decide (p.1 = name) && !p.2.isEmpty).map fun p => (pr, p.2)
def gathA (name : Str) : List Pc → List HRow → Except Nat (List Pc)
  | acc, [] => .ok acc
  | acc, r :: rs => match runP [] r.2.2 0 with
    | .ok L => gathA name (acc ++ pickP name r.1 L) rs
    | .error i => .error i
theorem run_len : ∀ (h : List Tag) (told : List Pc) (i : Nat) {L : List Pc}, runP told h i = .ok L → L.length ≤ told.length + h.length
  | [], told, i, L, e => by cases e; exact Nat.le_refl _
  | g :: r, told, i, L, e => by
    unfold runP at e
    cases q : stepP told g with
    | none => rw [q] at e; cases e
    | some t =>
      rw [q] at e
      have h1 := run_len r t (i + 1) e
      have h2 : t.length ≤ told.length + 1 := by
        unfold stepP at q
        by_cases c : g.2 = -1
        · rw [if_pos c] at q
          rw [← Option.some.inj q, List.length_append]; exact Nat.le_refl _
        · rw [if_neg c] at q
          cases e2 : told.getLast? with
          | none => rw [e2] at q; cases q
          | some m =>
            rw [e2] at q
            dsimp only at q
            by_cases c2 : m.1 = g.1
            · rw [if_pos c2] at q
              rw [← Option.some.inj q, List.length_append, List.length_dropLast]
              show told.length - 1 + 1 ≤ _
              omega
            · rw [if_neg c2] at q; cases q
      rw [List.length_cons]
      omega
theorem pick_len (name pr : Str) (L : List Pc) : (pickP name pr L).length ≤ L.length := by
  unfold pickP
  rw [List.length_map]
  exact List.length_filter_le _ _
theorem pick_take {name pr : Str} {L : List Pc} {j : Nat} {p : Pc} (h : L[j]? = some p) : pickP name pr (L.take (j + 1)) = pickP name pr (L.take j) ++ if p.1 = name ∧ p.2 ≠ [] then [(pr, p.2)] else [] := by
  unfold pickP
  rw [List.take_add_one, h]
  show (List.filter _ (L.take j ++ [p])).map _ = _
  rw [List.filter_append, List.map_append]
  congr 1
  by_cases c : p.1 = name ∧ p.2 ≠ []
  · rw [if_pos c]
    have : (decide (p.1 = name) && !p.2.isEmpty) = true := by
      rw [decide_eq_true c.1]
      cases e : p.2 with
      | nil => exact absurd e c.2
      | cons a b => rfl
    rw [List.filter_cons_of_pos (p := fun p : Pc => decide (p.1 = name) && !p.2.isEmpty) this]
    rfl
  · rw [if_neg c]
    have : ¬ (decide (p.1 = name) && !p.2.isEmpty) = true := fun z => c (by
      rw [Bool.and_eq_true] at z
      refine ⟨of_decide_eq_true z.1, fun e => ?_⟩
      rw [e] at z
      cases z.2)
    rw [List.filter_cons_of_neg (p := fun p : Pc => decide (p.1 = name) && !p.2.isEmpty) this]
    rfl
theorem perm_back {α β : Type} {f : α → β} {qs ps : List β} (p : qs.Perm ps) : ∀ {xs : List α}, ps = xs.map f → ∃ ys : List α, ys.Perm xs ∧ qs = ys.map f := by
  induction p with
  | nil => exact fun e => ⟨_, .refl _, e⟩
  | cons x _ ih =>
    intro xs e
    cases xs with
    | nil => cases e
    | cons y xs =>
      injection e with e1 e2
      obtain ⟨ys, p, q⟩ := ih e2
      exact ⟨y :: ys, p.cons _, by rw [List.map_cons, e1, q]⟩
  | swap x y l =>
    intro xs e
    match xs, e with
    | a :: b :: xs, e =>
      injection e with e1 e2
      injection e2 with e2 e3
      exact ⟨b :: a :: xs, .swap _ _ _, by rw [List.map_cons, List.map_cons, e1, e2, e3]⟩
  | trans _ _ ih1 ih2 =>
    intro xs e
    obtain ⟨ys, p, q⟩ := ih2 e
    obtain ⟨zs, p2, q2⟩ := ih1 q
    exact ⟨zs, p2.trans p, q2⟩
theorem zip_both {α β γ : Type} (f : α → β) (g : α → γ) : ∀ l : List α, (l.map f).zip (l.map g) = l.map fun x => (f x, g x)
  | [] => rfl
  | x :: l => by rw [List.map_cons, List.map_cons, List.zip_cons_cons, zip_both f g l]; rfl
theorem PcAt.off {H0 H : Hp} {p d : Addr} {L : List Pc} {o : Obj} {u v : HO} (x : PcAt H0 H p L) (h : H d = some (.frz o u)) : PcAt H0 (upd H d v) p L := by
  obtain ⟨n, rows, e, e1, nd, g⟩ := x
  refine ⟨n, rows, e, by rw [upd_ne (ne_of e1 h (by intro z; cases z))]; exact e1, nd, fun r hr => ?_⟩
  obtain ⟨a, b, c⟩ := g r hr
  exact ⟨by rw [upd_ne (ne_of a h (by intro z; cases z))]; exact a, by rw [upd_ne (ne_of b h (by intro z; cases z))]; exact b, c⟩
theorem PcAt.add {H0 H : Hp} {p t l : Addr} {m : Pc} {L : List Pc} (x : PcAt H0 H p L) (nl : H0 l = none) (lp : l ≠ p) (hl : H l = some (.lst (m.2.map V.int))) (ht : H t = some (.tup [.str m.1, .ref l])) (no : ∀ rows : List (Addr × Addr × Pc), H p = some (.lst (rows.map fun r => V.ref r.1)) → (∀ r ∈ rows, H r.1 = some (.tup [.str r.2.2.1, .ref r.2.1])) → ∀ r ∈ rows, r.2.1 ≠ l) :
    ∃ vs, H p = some (.lst vs) ∧ vs.length = L.length ∧ PcAt H0 (upd H p (.lst (vs ++ [.ref t]))) p (L ++ [m]) := by
  obtain ⟨n, rows, e, e1, nd, g⟩ := x
  refine ⟨_, e1, by rw [List.length_map, e, List.length_map], n, rows ++ [(t, l, m)], by rw [List.map_append, e]; rfl, by rw [upd_same, List.map_append]; rfl, ?_, fun r hr => ?_⟩
  · rw [List.map_append, List.nodup_append]
    refine ⟨nd, List.nodup_cons.mpr ⟨List.not_mem_nil, List.nodup_nil⟩, fun a ha b hb z => ?_⟩
    obtain ⟨r, hr, rfl⟩ := List.mem_map.mp ha
    exact no rows e1 (fun r hr => (g r hr).1) r hr (z.trans (List.mem_singleton.mp hb))
  · rcases List.mem_append.mp hr with hr | hr
    · obtain ⟨a, b, c, d⟩ := g r hr
      exact ⟨by rw [upd_ne (ne_of a e1 (by intro z; cases z))]; exact a, by rw [upd_ne d]; exact b, c, d⟩
    · rw [List.mem_singleton.mp hr]
      exact ⟨by show upd H p _ t = _; rw [upd_ne (ne_of ht e1 (by intro z; cases z))]; exact ht, by show upd H p _ l = _; rw [upd_ne lp]; exact hl, nl, lp⟩
theorem xg_off {H : Hp} {e C d : Addr} {fs : List (Str × V)} {o : Obj} {u v : HO} (x : XG H e C fs) (h : H d = some (.frz o u)) : XG (upd H d v) e C fs := by
  obtain ⟨dx, hx, hd, ne⟩ := x
  refine ⟨dx, ?_, by rw [upd_ne (ne_of hd h (by intro z; cases z))]; exact hd, ne⟩
  rcases hx with hx | hx
  · exact .inl (by rw [upd_ne (ne_of hx h (by intro z; cases z))]; exact hx)
  · exact .inr (by rw [upd_ne (ne_of hx h (by intro z; cases z))]; exact hx)
def gPos : Pos := match defBody s_gathered with
  | [_, _, .Return (some (.Call _ _ [⟨_, .Lambda _ _ _ p, _⟩] _)) _] => p
  | _ => ⟨0, 0, 0, 0⟩
abbrev gQual : Str := (Str.ofString "gathered" ++ ".<locals>.") ++ "<lambda>"
abbrev GTab (H : Hp) (tP : Addr) : Prop := TabOk H tP gPos gQual
def sp_gathered (cN tP : Addr) : Sp := fun vs H Q E => ∃ (d : Addr) (rows : List HRow) (name : Str), vs = [.ref d, .str name] ∧ HpsAt H d rows ∧ GTab H tP ∧
  (∀ L, gathA name [] rows = .ok L → L.length < 64 ∧ ∀ D H' L', SameP tP H H' → GTab H' tP → List.Perm L' L → L'.Pairwise (fun a b => hdN a ≤ hdN b) → PcAt H H' D L' → Q (.ref D) H') ∧
  ∀ i : Nat, gathA name [] rows = .error i → ∀ ea H', Same H H' → XG H' ea cN [("place", .int (i : Int))] → E (.ref cN) (some ea) H'
theorem sc_gathered : FnScope ["heaps", "name", "found", "printer", "heap", "owner", "numbers"] ["heaps", "name"] (defScope s_gathered) := ⟨rfl, rfl, rfl, by decide +kernel, rfl, by decide +kernel, by decide +kernel⟩
theorem ok_gathered {fa cL cNoHeap cHallError tP_gathered : Addr} {fd : FuncData} (F : Fun K "gathered" "gathered" s_gathered fa fd) (T : Txt K mg cNoHeap cHallError tP_gathered) (hL : fd.code = .ref cL) (hC : PySem.W.codeHdIn K cL tP_gathered = true) (BM : BMain base mg) (D_pieces : DfE P w K mg base 3 "pieces" ["heap"] (sp_pieces cNoHeap)) :
    FnOk P w K mg base (CXe P w) 4 fa fd ["heaps", "name"] (sp_gathered cNoHeap tP_gathered) := by
  refine F.okLE hL sc_gathered (fun vs H Q E h => ?_) (fun A outer s H vs Q E hr h => ?_)
  · obtain ⟨d, rows, name, rfl, _⟩ := h
    rfl
  obtain ⟨d, rows, name, rfl, A, ht, q1, q2⟩ := h
  refine ⟨_, (pss_cons (ps_set (i := 2) sc_gathered.nd rfl (by first | exact Or.inl rfl | exact Or.inr rfl) (pe_lst pa_nil))
  (pss_cons (ps_frz (ps_for own_def rfl (pi_items (pe_items0 (pv 0))) (pg_tup rfl (pgs_cons (pg_name (i := 3) sc_gathered.nd rfl (by first | exact Or.inl rfl | exact Or.inr rfl)) (pgs_cons (pg_name (i := 4) sc_gathered.nd rfl (by first | exact Or.inl rfl | exact Or.inr rfl)) pgs_nil)))
  (pss_one (ps_for own_def rfl (pi_list (pe_callE D_pieces pass_thaw (hr.mono (by decide)) rfl (pa_cons (pv 4) pa_nil))) (pg_tup rfl (pgs_cons (pg_name (i := 5) sc_gathered.nd rfl (by first | exact Or.inl rfl | exact Or.inr rfl)) (pgs_cons (pg_name (i := 6) sc_gathered.nd rfl (by first | exact Or.inl rfl | exact Or.inr rfl)) pgs_nil)))
  (pss_one (ps_if (PW.pt (pw_and (pt_cmpR op_eq (pv 5) (pv 1) (nomark _)) (pw_and1 (pt_truth (pv 6) (fun _ => rfl))))) (pss_one (ps_expr (pe_bm PySem.F.plainAttrs_list PySem.F.slot_list_append PySem.F.type_list_append mt_append (pv 2) (pa_cons (pe_tup (pa_cons (pv 3) (pa_cons (pv 6) pa_nil))) pa_nil)))) pss_nil))))))
  (pss_one (ps_ret (pe_sortlam (x := "part") (hr.mono (by decide)) rfl T.sorted (pa_cons (pv 2) pa_nil) (LamScope0.mk1 rfl rfl rfl rfl) BM rfl hC rfl (fun _ _ _ _ => rfl) (fun _ _ _ _ _ _ => by exact (pe_ixK (K := K) (r := rIxL) rfl ix_list (pe_ixK (K := K) (r := rIxT) rfl ix_tup (pv 0) pe_int (fun _ _ => rfl)) pe_int (fun _ _ => rfl)))))))), ?_⟩
  have hd := A.o
  have z2 : 2 ≤ sizeLine := small (by decide)
  have lrw : (hrD rows).length = rows.length := List.length_map _
  refine ⟨Nat.zero_le _, fun p np => ?_⟩
  have s1 := same_new np (.lst [])
  have hp1 : upd H p (.lst []) p = some (.lst []) := upd_same
  generalize upd H p (.lst []) = H1 at s1 hp1 ⊢
  have dp : d ≠ p := ne_of_none hd np
  refine ⟨d, _, s1 _ _ hd, fun o => ?_⟩
  have hf2 : upd H1 d (.frz o (.dK (hrD rows))) d = some (.frz o (.dK (hrD rows))) := upd_same
  have k2 : ∀ b u, b ≠ d → H1 b = some u → upd H1 d (.frz o (.dK (hrD rows))) b = some u := fun b u nb e => by rw [upd_ne nb]; exact e
  have fr2 : ∀ b, upd H1 d (.frz o (.dK (hrD rows))) b = none → H b = none := fun b hb => by
    by_cases c : b = d
    · rw [c, hf2] at hb; cases hb
    · rw [upd_ne c] at hb; exact s1.free hb
  generalize upd H1 d (.frz o (.dK (hrD rows))) = H2 at hf2 k2 fr2 ⊢
  refine ⟨_, rfl, d, o, _, rfl, rfl, hf2, fun v nv => ⟨v, d, o, _, rfl, upd_same, by rw [upd_ne (ne_of_none hf2 nv)]; exact hf2, ?_⟩⟩
  have s3 := same_new nv (IW v d)
  generalize upd H2 v (IW v d) = H3 at s3 ⊢
  have k3 : ∀ b u, b ≠ d → H b = some u → H3 b = some u := fun b u nb e => s3 _ _ (k2 b u nb (s1 _ _ e))
  have fr3 : ∀ b, H3 b = none → H b = none := fun b hb => fr2 b (s3.free hb)
  refine for_items (fun i σ G => ∃ (v3 v4 v5 v6 : Option V) (F : List Pc), σ = [some (.ref d), some (.str name), some (.ref p), v3, v4, v5, v6] ∧ (∀ b u, b ≠ d → H b = some u → G b = some u) ∧ (∀ b, G b = none → H b = none) ∧ G d = some (.frz o (.dK (hrD rows))) ∧ PcAt H G p F ∧ F.length ≤ ((rows.take i).map fun r => r.2.2.length).sum ∧ (∀ m ∈ F, m.2 ≠ []) ∧ gathA name F (rows.drop i) = gathA name [] rows) ⟨_, _, _, _, [], rfl, k3, fr3, s3 _ _ hf2, ⟨np, [], rfl, s3 _ _ (k2 _ _ (Ne.symm dp) hp1), List.nodup_nil, fun r hr => absurd hr List.not_mem_nil⟩, Nat.zero_le _, fun m hm => absurd hm List.not_mem_nil, rfl⟩ (fun i σ G _ z => ?_) (fun i k v t σ G hkv nt z => ?_) (fun σ G z => ?_)
  · obtain ⟨_, _, _, _, _, _, _, _, hz, _⟩ := z
    exact hz
  · obtain ⟨v3, v4, v5, v6, F, rfl, kG, frG, hfG, pcG, lF, neF, eG⟩ := z
    obtain ⟨r, er, ek⟩ : ∃ r : HRow, rows[i]? = some r ∧ (k, v) = ((Sum.inr r.1 : Key), V.ref r.2.1) := by
      unfold hrD at hkv
      rw [List.getElem?_map] at hkv
      obtain ⟨r, e1, e2⟩ := Option.map_eq_some_iff.mp hkv
      exact ⟨r, e1, e2.symm⟩
    obtain ⟨rfl, rfl⟩ := Prod.mk.inj ek
    have hr := List.mem_of_getElem? er
    have hi : i < rows.length := (List.getElem?_eq_some_iff.mp er).1
    have ed : rows.drop i = r :: rows.drop (i + 1) := by
      rw [List.drop_eq_getElem_cons hi]
      congr 1
      exact (List.getElem?_eq_some_iff.mp er).2
    rw [ed] at eG
    have s4 := same_new nt (.tup [kV (Sum.inr r.1), V.ref r.2.1])
    have ht4 : upd G t (.tup [kV (Sum.inr r.1), V.ref r.2.1]) t = some (.tup [kV (Sum.inr r.1), V.ref r.2.1]) := upd_same
    generalize upd G t (.tup [kV (Sum.inr r.1), V.ref r.2.1]) = G4 at s4 ht4 ⊢
    refine ⟨t, _, rfl, SqT.of ht4, rfl, _, _, rfl, _, _, rfl, rfl, ?_⟩
    have tg : TagsAt G4 r.2.1 r.2.2 := by
      obtain ⟨ts, e, e1, g⟩ := A.t r hr
      exact ⟨ts, e, s4 _ _ (kG _ _ (ne_of e1 hd (by intro z; cases z)) e1), fun x hx => s4 _ _ (kG _ _ (ne_of (g x hx) hd (by intro z; cases z)) (g x hx))⟩
    have lh : r.2.2.length ≤ 300 := by
      have := A.l
      rw [← List.take_append_drop i rows, ed, List.map_append, List.sum_append, List.map_cons, List.sum_cons] at this
      omega
    refine ⟨_, rfl, r.2.1, r.2.2, rfl, tg, lh, fun L eL pp G5 s5 pc => ?_, fun i' e' ea G5 s5 xg => ?_⟩
    rotate_left
    · have ee : gathA name [] rows = .error i' := by
        rw [← eG]
        show (match runP [] r.2.2 0 with | .ok L => gathA name (F ++ pickP name r.1 L) (rows.drop (i + 1)) | .error i => .error i) = _
        rw [e']
      have h5 := s5 _ _ (s4 _ _ hfG)
      refine ⟨d, o, _, hd, h5, q2 i' ee ea _ (fun b u e => ?_) ?_⟩
      · by_cases c : b = d
        · rw [c, hd] at e
          rw [c, upd_same]; exact e
        · rw [upd_ne c]; exact s5 _ _ (s4 _ _ (kG b u c e))
      · exact xg_off xg h5
    obtain ⟨npp, prow, eP, hpp, ndP, gP⟩ := pc
    have s45 := s4.trans s5
    have lP : prow.length = L.length := by rw [eP, List.length_map]
    have pc4 := pcG.same s4
    have no4 : ∀ vs, G4 p = some (.lst vs) → ∀ t' pr l', V.ref t' ∈ vs → G4 t' = some (.tup [.str pr, .ref l']) → G4 l' ≠ none := fun vs e1 t' pr l' m e2 e3 => by
      obtain ⟨_, rows', _, e1', _, g'⟩ := pc4
      rw [e1] at e1'
      injection e1' with e1'
      injection e1' with e1'
      rw [e1'] at m
      obtain ⟨q, hq, eq⟩ := List.mem_map.mp m
      injection eq with eq
      obtain ⟨a, b, _⟩ := g' q hq
      rw [eq, e2] at a
      injection a with a
      injection a with a
      injection a with _ a
      injection a with a _
      injection a with a
      rw [← a, e3] at b
      cases b
    refine ⟨pp, rfl, ⟨_, SqL.of hpp⟩, for_list (K := K) (a := pp) (xs := prow.map fun (r : Addr × Addr × Pc) => V.ref r.1) (fun j σ G' => ∃ (v5 v6 : Option V), σ = [some (.ref d), some (.str name), some (.ref p), some (.str r.1), some (.ref r.2.1), v5, v6] ∧ (∀ b u, b ≠ d → H b = some u → G' b = some u) ∧ (∀ b, G' b = none → H b = none) ∧ G' d = some (.frz o (.dK (hrD rows))) ∧ G' pp = some (.lst (prow.map fun r => V.ref r.1)) ∧ (∀ q ∈ prow, G' q.1 = some (.tup [.str q.2.2.1, .ref q.2.1]) ∧ G' q.2.1 = some (.lst (q.2.2.2.map V.int))) ∧ PcAt H G' p (F ++ pickP name r.1 (L.take j)) ∧
      ∀ vs, G' p = some (.lst vs) → ∀ t' pr l', V.ref t' ∈ vs → G' t' = some (.tup [.str pr, .ref l']) → G4 l' ≠ none ∨ ∃ k q, k < j ∧ prow[k]? = some q ∧ q.2.1 = l') ?_ (fun j σ G' _ z => ?_) (fun j x σ G' hx z => ?_) (fun σ G' z => ?_)⟩
    · refine ⟨_, _, rfl, fun b u nb e => s45 _ _ (kG b u nb e), fun b hb => frG b (s45.free hb), s45 _ _ hfG, hpp, fun q hq => ⟨(gP q hq).1, (gP q hq).2.1⟩, ?_, fun vs e1 t' pr l' m e2 => .inl ?_⟩
      · rw [List.take_zero]
        show PcAt H G5 p (F ++ [])
        rw [List.append_nil]; exact pc4.same s5
      · obtain ⟨_, rows', _, e1', _, g'⟩ := id pc4
        have e5 := s5 _ _ e1'
        rw [e1] at e5
        injection e5 with e5
        injection e5 with e5
        obtain ⟨q, hq, eq⟩ := List.mem_map.mp (e5 ▸ m)
        injection eq with eq
        have a := s5 _ _ (g' q hq).1
        rw [eq, e2] at a
        injection a with a
        injection a with a
        injection a with _ a
        injection a with a _
        injection a with a
        intro z
        have b := (g' q hq).2.1
        rw [← a, z] at b
        cases b
    · obtain ⟨_, _, _, _, _, _, hz, _⟩ := z
      exact SqL.of hz
    · obtain ⟨v5, v6, rfl, kG', frG', hf', hpp', gq, pcF, no'⟩ := z
      rw [List.getElem?_map] at hx
      obtain ⟨q, hq, rfl⟩ := Option.map_eq_some_iff.mp hx
      have hq' := List.mem_of_getElem? hq
      obtain ⟨ga, gb⟩ := gq q hq'
      have hL : L[j]? = some q.2.2 := by rw [eP, List.getElem?_map, hq]; rfl
      refine ⟨q.1, _, rfl, SqT.of ga, rfl, _, _, rfl, _, _, rfl, rfl, ?_⟩
      rw [pick_take hL]
      have skip : ¬ (q.2.2.1 = name ∧ q.2.2.2 ≠ []) → ∃ (v5 v6 : Option V), [some (V.ref d), some (V.str name), some (V.ref p), some (V.str r.1), some (V.ref r.2.1), some (V.str q.2.2.1), some (V.ref q.2.1)] = [some (.ref d), some (.str name), some (.ref p), some (.str r.1), some (.ref r.2.1), v5, v6] ∧ (∀ b u, b ≠ d → H b = some u → G' b = some u) ∧ (∀ b, G' b = none → H b = none) ∧ G' d = some (.frz o (.dK (hrD rows))) ∧ G' pp = some (.lst (prow.map fun r => V.ref r.1)) ∧ (∀ q ∈ prow, G' q.1 = some (.tup [.str q.2.2.1, .ref q.2.1]) ∧ G' q.2.1 = some (.lst (q.2.2.2.map V.int))) ∧ PcAt H G' p (F ++ (pickP name r.1 (L.take j) ++ if q.2.2.1 = name ∧ q.2.2.2 ≠ [] then [(r.1, q.2.2.2)] else [])) ∧
        ∀ vs, G' p = some (.lst vs) → ∀ t' pr l', V.ref t' ∈ vs → G' t' = some (.tup [.str pr, .ref l']) → G4 l' ≠ none ∨ ∃ k q, k < j + 1 ∧ prow[k]? = some q ∧ q.2.1 = l' := fun c => by
        refine ⟨_, _, rfl, kG', frG', hf', hpp', gq, by rw [if_neg c, List.append_nil]; exact pcF, fun vs e1 t' pr l' m e2 => ?_⟩
        rcases no' vs e1 t' pr l' m e2 with z | ⟨k, q, h1, h2, h3⟩
        · exact .inl z
        · exact .inr ⟨k, q, Nat.lt_succ_of_lt h1, h2, h3⟩
      refine ⟨_, rfl, _, rfl, rfl, _, rfl, ite2 (fun c => ?_) (fun c => ?_)⟩
      rotate_left
      · exact iteF (skip fun z => c (decide_eq_true (by rw [z.1])))
      have c1 : q.2.2.1 = name := by
        have := of_decide_eq_true c
        injection this
      cases en : q.2.2.2 with
      | nil =>
        rw [en] at skip
        exact ⟨_, rfl, false, .inl ⟨_, SqL.of gb, by rw [en]; rfl⟩, iteF (skip fun z => z.2 rfl)⟩
      | cons n0 ns =>
        refine ⟨_, rfl, true, .inl ⟨_, SqL.of gb, by rw [en]; rfl⟩, iteT ?_⟩
        have lpp : ∀ q ∈ prow, q.2.1 ≠ p := fun q hq z => by
          obtain ⟨_, _, _, e1, _⟩ := pc4
          have := (gP q hq).2.2.1
          rw [z, e1] at this
          cases this
        have ppp : pp ≠ p := fun z => by
          obtain ⟨_, _, _, e1, _⟩ := pc4
          rw [z, e1] at npp
          cases npp
        have nl : H q.2.1 = none := frG _ (s4.free (gP q hq').2.2.1)
        obtain ⟨_, _, _, hp', _⟩ := id pcF
        refine ⟨_, rfl, .inl ⟨rfl, _, SqL.of hp'⟩, _, rfl, _, rfl, z2, fun t2 nt2 => ?_⟩
        have s6 := same_new nt2 (.tup [.str r.1, .ref q.2.1])
        have ht6 : upd G' t2 (.tup [.str r.1, .ref q.2.1]) t2 = some (.tup [.str r.1, .ref q.2.1]) := upd_same
        dsimp only
        have old : ∀ b, b ≠ t2 → upd G' t2 (.tup [.str r.1, .ref q.2.1]) b = G' b := fun b nb => upd_ne nb
        generalize upd G' t2 (.tup [.str r.1, .ref q.2.1]) = G6 at s6 ht6 old ⊢
        obtain ⟨vs, hp6, lv, pc6⟩ := PcAt.add (m := (r.1, n0 :: ns)) (pcF.same s6) nl (lpp q hq') (s6 _ _ (by rw [gb, en])) ht6 (fun rw' e1 e2 x hx z => by
          have hp0 := s6 _ _ hp'
          rw [e1] at hp0
          injection hp0 with hp0
          injection hp0 with hp0
          have m : V.ref x.1 ∈ rw'.map fun r => V.ref r.1 := List.mem_map.mpr ⟨x, hx, rfl⟩
          have nt : x.1 ≠ t2 := fun z2 => by
            obtain ⟨_, rows', _, e1', _, g'⟩ := pcF
            rw [hp'] at e1'
            injection e1' with e1'
            injection e1' with e1'
            rw [hp0, e1'] at m
            obtain ⟨y2, hy2, ey2⟩ := List.mem_map.mp m
            injection ey2 with ey2
            have := (g' y2 hy2).1
            rw [ey2, z2, nt2] at this
            cases this
          have e3 := e2 x hx
          rw [old _ nt] at e3
          rcases no' _ hp' x.1 _ x.2.1 (by rw [← hp0]; exact m) e3 with z3 | ⟨k, q3, h1, h2, h3⟩
          · rw [z] at z3
            exact z3 (gP q hq').2.2.1
          · rw [z] at h3
            have lk : k < prow.length := (List.getElem?_eq_some_iff.mp h2).1
            have lj : j < prow.length := (List.getElem?_eq_some_iff.mp hq).1
            have a1 : (prow.map (·.2.1))[k]'(by rw [List.length_map]; exact lk) = q3.2.1 := by rw [List.getElem_map, (List.getElem?_eq_some_iff.mp h2).2]
            have a2 : (prow.map (·.2.1))[j]'(by rw [List.length_map]; exact lj) = q.2.1 := by rw [List.getElem_map, (List.getElem?_eq_some_iff.mp hq).2]
            have := (List.getElem_inj ndP).mp ((a1.trans h3).trans a2.symm)
            omega)
        refine ⟨p, vs, _, rfl, rfl, hp6, ?_, ?_⟩
        · have l1 : L.length ≤ 0 + r.2.2.length := run_len r.2.2 [] 0 eL
          have l2 := pick_len name r.1 (L.take j)
          rw [List.length_take] at l2
          have l3 := A.l
          rw [← List.take_append_drop i rows, ed, List.map_append, List.sum_append, List.map_cons, List.sum_cons] at l3
          rw [lv, List.length_append]
          exact small1000 (by omega)
        refine ⟨_, _, rfl, fun b u nb e => ?_, fun b hb => ?_, ?_, ?_, fun q2 hq2 => ⟨?_, ?_⟩, ?_, fun vs' e1 t' pr l' m e2 => ?_⟩
        · rw [upd_ne (ne_of_none e np)]; exact s6 _ _ (kG' b u nb e)
        · by_cases z : b = p
          · rw [z, upd_same] at hb; cases hb
          · rw [upd_ne z] at hb; exact frG' b (s6.free hb)
        · rw [upd_ne dp]; exact s6 _ _ hf'
        · rw [upd_ne ppp]; exact s6 _ _ hpp'
        · rw [upd_ne (ne_of (s6 _ _ (gq q2 hq2).1) hp6 (by intro z; cases z))]; exact s6 _ _ (gq q2 hq2).1
        · rw [upd_ne (lpp q2 hq2)]; exact s6 _ _ (gq q2 hq2).2
        · rw [if_pos ⟨c1, by intro z; cases z⟩, ← List.append_assoc]; exact pc6
        · rw [upd_same] at e1
          injection e1 with e1
          injection e1 with e1
          rw [← e1] at m
          have np' : t' ≠ p := fun z => by rw [z, upd_same] at e2; cases e2
          rw [upd_ne np'] at e2
          rcases List.mem_append.mp m with m | m
          · have hp0 := s6 _ _ hp'
            rw [hp6] at hp0
            injection hp0 with hp0
            injection hp0 with hp0
            have nt : t' ≠ t2 := fun z => by
              obtain ⟨_, rows', _, e1', _, g'⟩ := pcF
              rw [hp'] at e1'
              injection e1' with e1'
              injection e1' with e1'
              rw [hp0, e1'] at m
              obtain ⟨y2, hy2, ey2⟩ := List.mem_map.mp m
              injection ey2 with ey2
              have := (g' y2 hy2).1
              rw [ey2, z, nt2] at this
              cases this
            rw [old _ nt] at e2
            rcases no' _ hp' t' pr l' (by rw [← hp0]; exact m) e2 with z | ⟨k, q3, h1, h2, h3⟩
            · exact .inl z
            · exact .inr ⟨k, q3, Nat.lt_succ_of_lt h1, h2, h3⟩
          · have := List.mem_singleton.mp m
            injection this with this
            rw [this, ht6] at e2
            injection e2 with e2
            injection e2 with e2
            injection e2 with _ e2
            injection e2 with e2 _
            injection e2 with e2
            exact .inr ⟨j, q, Nat.lt_succ_self _, hq, e2⟩
    · obtain ⟨v5, v6, rfl, kG', frG', hf', hpp', gq, pcF, no'⟩ := z
      rw [List.length_map, lP, List.take_length] at pcF
      refine ⟨_, _, _, _, F ++ pickP name r.1 L, rfl, kG', frG', hf', pcF, ?_, fun m hm => ?_, ?_⟩
      · have l1 : L.length ≤ 0 + r.2.2.length := run_len r.2.2 [] 0 eL
        have l2 := pick_len name r.1 L
        rw [List.take_add_one, er, List.map_append, List.sum_append, List.length_append]
        show _ ≤ _ + (r.2.2.length + 0)
        omega
      · rcases List.mem_append.mp hm with hm | hm
        · exact neF m hm
        · unfold pickP at hm
          obtain ⟨x, hx, rfl⟩ := List.mem_map.mp hm
          have := (List.mem_filter.mp hx).2
          rw [Bool.and_eq_true] at this
          intro z
          rw [show x.2 = [] from z] at this
          cases this.2
      · rw [← eG]
        show _ = (match runP [] r.2.2 0 with | .ok L => gathA name (F ++ pickP name r.1 L) (rows.drop (i + 1)) | .error i => .error i)
        rw [eL]
  · obtain ⟨v3, v4, v5, v6, F, rfl, kG, frG, hfG, pcG, lF, neF, eG⟩ := z
    rw [lrw, List.drop_length] at eG
    have ok : gathA name [] rows = .ok F := eG.symm
    refine ⟨hfG, ?_⟩
    have s5 : Same H (upd G d (.dK (hrD rows))) := fun b u e => by
      by_cases c : b = d
      · rw [c, hd] at e
        rw [c, upd_same]; exact e
      · rw [upd_ne c]; exact kG b u c e
    have pc5 : PcAt H (upd G d (.dK (hrD rows))) p F := pcG.off hfG
    dsimp only
    generalize upd G d (.dK (hrD rows)) = H5 at s5 pc5 ⊢
    obtain ⟨f64, q1'⟩ := q1 F ok
    obtain ⟨npp, fr, eF, hp5, nd5, g5⟩ := pc5
    obtain ⟨tps, htp⟩ := (ht.same s5).is
    refine ⟨_, rfl, p, _, fr.map fun r => hdN r.2.2, rfl, SqL.of hp5, ?_, ?_, ht.same s5, fun H6 s6 i x k hx hk => ?_, fun H6 D qs nD s6 t6 pm pw => ?_⟩
    · rw [List.length_map, ← List.length_map (f := fun r : Addr × Addr × Pc => r.2.2), ← eF]; exact f64
    · rw [List.length_map, List.length_map]
    · rw [List.getElem?_map] at hx hk
      obtain ⟨r, er, rfl⟩ := Option.map_eq_some_iff.mp hx
      rw [er] at hk
      obtain rfl := Option.some.inj hk
      have hr := List.mem_of_getElem? er
      obtain ⟨ga, gb, _⟩ := g5 r hr
      have ga6 := s6 _ _ (ne_of ga htp (by intro z; cases z)) ga
      have gb6 := s6 _ _ (ne_of gb htp (by intro z; cases z)) gb
      have ne := neF r.2.2 (by rw [eF]; exact List.mem_map.mpr ⟨r, hr, rfl⟩)
      refine ⟨_, rfl, r.1, _, _, _, rfl, rfl, SqT.of ga6, atI_nat (j := 1) rfl, r.2.1, _, _, _, rfl, rfl, SqL.of gb6, atI_nat (j := 0) (v := V.int (hdN r.2.2)) ?_, rfl, Same.refl _⟩
      unfold hdN
      cases e : r.2.2.2 with
      | nil => exact absurd e ne
      | cons a b => rfl
    · rw [show (fr.map fun r => hdN r.2.2).zip (fr.map fun r => V.ref r.1) = fr.map (fun r => (hdN r.2.2, V.ref r.1)) from zip_both _ _ fr] at pm
      obtain ⟨fs, p1, rfl⟩ := perm_back pm rfl
      have nD5 : H5 D = none := by
        cases e : H5 D with
        | none => rfl
        | some u =>
          by_cases c : D = tP_gathered
          · obtain ⟨_, z⟩ := t6.is
            rw [c, z] at nD; cases nD
          · rw [s6 _ _ c e] at nD; cases nD
      have hD7 : upd H6 D (.lst ((fs.map fun r => (hdN r.2.2, V.ref r.1)).map Prod.snd)) D = some (.lst (fs.map fun r => V.ref r.1)) := by rw [upd_same, List.map_map]; rfl
      have s7 : SameP tP_gathered H (upd H6 D (.lst ((fs.map fun r => (hdN r.2.2, V.ref r.1)).map Prod.snd))) := fun b u nb e => by
        rw [upd_ne (ne_of_none (s5 _ _ e) nD5)]
        exact s6 _ _ nb (s5 _ _ e)
      have s67 := same_new nD (.lst ((fs.map fun r => (hdN r.2.2, V.ref r.1)).map Prod.snd))
      have pw2 : (fs.map (·.2.2)).Pairwise (fun a b => hdN a ≤ hdN b) := by
        rw [List.pairwise_map] at pw ⊢
        exact pw
      refine q1' D _ (fs.map (·.2.2)) s7 (t6.same s67) (by rw [eF]; exact p1.map _) pw2 ⟨s5.free nD5, fs, rfl, hD7, (List.Perm.nodup_iff (p1.map _)).mpr nd5, fun r hr => ?_⟩
      obtain ⟨ga, gb, gc, _⟩ := g5 r (p1.mem_iff.mp hr)
      exact ⟨s67 _ _ (s6 _ _ (ne_of ga htp (by intro z; cases z)) ga), s67 _ _ (s6 _ _ (ne_of gb htp (by intro z; cases z)) gb), gc, ne_of_none gb nD5⟩
end
end My
namespace My
open PySem L2
open Blk (sg sg_inj sg_app)
section
variable {P : Program} {w : World} {K : PySem.W.Frag} {mg : Str → Option Value} {base : Heap}
def numsOf (L : List Pc) : List Int := L.flatMap (·.2)
def lackN (ns : List Int) (t : Nat) : Option Nat := (List.range t).find? fun n => !ns.contains (n : Int)
def lackV (o : Option Nat) : V := match o with | some n => .int (n : Int) | none => .non
theorem lack_hit {ns : List Int} {t k : Nat} (hk : k < t) (h : ∀ j, j < k → (j : Int) ∈ ns) (n : ¬ (k : Int) ∈ ns) : lackN ns t = some k := by
  unfold lackN
  rw [List.find?_eq_some_iff_getElem]
  refine ⟨by rw [Bool.not_eq_true', ← Bool.not_eq_true, List.contains_iff_mem]; exact n, k, by simpa using hk, by simp, fun j hj => ?_⟩
  rw [List.getElem_range, Bool.not_not, List.contains_iff_mem]
  exact h j hj
theorem lack_none {ns : List Int} {t : Nat} (h : ∀ j, j < t → (j : Int) ∈ ns) : lackN ns t = none := by
  unfold lackN
  rw [List.find?_eq_none]
  intro x hx
  rw [Bool.not_eq_true', Bool.not_eq_false, List.contains_iff_mem]
  exact h x (List.mem_range.mp hx)
theorem tab_off {H G : Hp} {tP y : Addr} {pos : Pos} {qual : Str} {kvs : List (Key × V)} (t : TabOk H tP pos qual) (hy : H y = some (.dK kvs)) (k : ∀ b, b ≠ y → G b = H b) : TabOk G tP pos qual := by
  rcases t with t | ⟨c, t, u⟩
  · exact .inl (by rw [k _ (ne_of t hy (by intro z; cases z))]; exact t)
  · exact .inr ⟨c, by rw [k _ (ne_of t hy (by intro z; cases z))]; exact t, by rw [k _ (ne_of u hy (by intro z; cases z))]; exact u⟩
theorem nums_take {L : List Pc} {i : Nat} {p : Pc} (h : L[i]? = some p) : numsOf (L.take (i + 1)) = numsOf (L.take i) ++ p.2 := by
  unfold numsOf
  rw [List.take_add_one, h, List.flatMap_append]
  show _ ++ (p.2 ++ []) = _
  rw [List.append_nil]
def sp_first_lack (cN tP : Addr) : Sp := fun vs H Q E => ∃ (d : Addr) (rows : List HRow) (name : Str) (t : Nat) (L : List Pc), vs = [.ref d, .str name, .int (t : Int)] ∧ HpsAt H d rows ∧ GTab H tP ∧ t ≤ 900 ∧ gathA name [] rows = .ok L ∧ L.length < 64 ∧ (numsOf L).length ≤ 300 ∧
  ∀ H', SameP tP H H' → GTab H' tP → Q (lackV (lackN (numsOf L) t)) H'
theorem sc_first_lack : FnScope ["heaps", "name", "total", "lying", "part", "number"] ["heaps", "name", "total"] (defScope s_first_lack) := ⟨rfl, rfl, rfl, by decide +kernel, rfl, by decide +kernel, by decide +kernel⟩
theorem ok_first_lack {fa cNoHeap cHallError tP_gathered : Addr} {fd : FuncData} (F : Fun K "first_lack" "first_lack" s_first_lack fa fd) (T : Txt K mg cNoHeap cHallError tP_gathered) (D_gathered : DfE P w K mg base 4 "gathered" ["heaps", "name"] (sp_gathered cNoHeap tP_gathered)) :
    FnOk P w K mg base (CXe P w) 5 fa fd ["heaps", "name", "total"] (sp_first_lack cNoHeap tP_gathered) := by
  refine F.okE sc_first_lack (fun vs H Q E h => ?_) (fun cdv A outer s H vs Q E hr h => ?_)
  · obtain ⟨d, rows, name, t, L, rfl, _⟩ := h
    rfl
  obtain ⟨d, rows, name, t, L, rfl, A, ht, t9, eL, l64, l3, q⟩ := h
  have hu := hu_of hr
  refine ⟨_, (pss_cons (ps_set (i := 3) sc_first_lack.nd rfl (by first | exact Or.inl rfl | exact Or.inr rfl) pe_dnewK)
  (pss_cons (ps_for own_def rfl (pi_list (pe_callE D_gathered pass_def (hr.mono (by decide)) rfl (pa_cons (pv 0) (pa_cons (pv 1) pa_nil)))) (pg_name (i := 4) sc_first_lack.nd rfl (by first | exact Or.inl rfl | exact Or.inr rfl))
  (pss_one (ps_for own_def rfl (pi_list (pe_ix ix_tup (pv 4) pe_int (fun _ _ => rfl))) (pg_name (i := 5) sc_first_lack.nd rfl (by first | exact Or.inl rfl | exact Or.inr rfl))
  (pss_one (ps_dput hu (pv 3) (pv 5) pe_bl rfl)))))
  (pss_cons (ps_for own_def rfl (pi_range1 rfl T.range (pa_cons (pv 2) pa_nil)) (pg_name (i := 5) sc_first_lack.nd rfl (by first | exact Or.inl rfl | exact Or.inr rfl))
  (pss_one (ps_if (pt_cmp (pc_dnotin hu (pv 5) (pv 3))) (pss_one (ps_ret (pv 5))) pss_nil)))
  (pss_one (ps_ret pe_non))))), ?_⟩
  refine fun y ny => ?_
  have s1 := same_new ny (.dK [])
  have hy1 : upd H y (.dK []) y = some (.dK []) := upd_same
  generalize upd H y (.dK []) = H1 at s1 hy1 ⊢
  refine ⟨_, rfl, _, rfl, d, rows, name, rfl, A.same s1, ht.same s1, fun L' e' => ?_, fun i e => by rw [eL] at e; cases e⟩
  obtain rfl : L = L' := by rw [eL] at e'; injection e'
  refine ⟨l64, fun D H2 M s2 t2 pm pw pc => ?_⟩
  obtain ⟨nD, fr, eM, hD, nd, g⟩ := pc
  obtain ⟨tps, htp⟩ := (ht.same s1).is
  have hy2 : H2 y = some (.dK []) := s2 _ _ (ne_of hy1 htp (by intro z; cases z)) hy1
  have mm : ∀ n, n ∈ numsOf M ↔ n ∈ numsOf L := fun n => by
    unfold numsOf
    rw [List.mem_flatMap, List.mem_flatMap]
    constructor
    · rintro ⟨x, hx, hn⟩; exact ⟨x, pm.mem_iff.mp hx, hn⟩
    · rintro ⟨x, hx, hn⟩; exact ⟨x, pm.mem_iff.mpr hx, hn⟩
  have ml : (numsOf M).length = (numsOf L).length := (pm.flatMap_right _).length_eq
  have lM : M.length = fr.length := by rw [eM, List.length_map]
  refine ⟨D, rfl, ⟨_, SqL.of hD⟩, for_list (K := K) (a := D) (xs := fr.map fun (r : Addr × Addr × Pc) => V.ref r.1) (fun i σ G => ∃ (v4 v5 : Option V) (kvs : List (Key × V)), σ = [some (.ref d), some (.str name), some (.int (t : Int)), some (.ref y), v4, v5] ∧ G y = some (.dK kvs) ∧ (∀ b, b ≠ y → G b = H2 b) ∧ (∀ n : Int, (valV kvs (Sum.inl n)).isSome = true ↔ n ∈ numsOf (M.take i)) ∧ kvs.length ≤ (numsOf (M.take i)).length) ⟨_, _, [], rfl, hy2, fun _ _ => rfl, fun n => ⟨(fun z => nomatch z), (fun z => nomatch z)⟩, Nat.zero_le _⟩ (fun i σ G _ z => ?_) (fun i x σ G hx z => ?_) (fun σ G z => ?_)⟩
  · obtain ⟨_, _, _, _, _, k, _⟩ := z
    exact SqL.of (by rw [k _ (ne_of hD hy2 (by intro z; cases z))]; exact hD)
  · obtain ⟨v4, v5, kvs, rfl, hyG, k, mem, lk⟩ := z
    rw [List.getElem?_map] at hx
    obtain ⟨r, er, rfl⟩ := Option.map_eq_some_iff.mp hx
    obtain ⟨ga, gb, _⟩ := g r (List.mem_of_getElem? er)
    have eMi : M[i]? = some r.2.2 := by rw [eM, List.getElem?_map, er]; rfl
    have ga' : G r.1 = some (.tup [.str r.2.2.1, .ref r.2.1]) := by rw [k _ (ne_of ga hy2 (by intro z; cases z))]; exact ga
    have nt := nums_take eMi
    have lt : (numsOf (M.take (i + 1))).length ≤ (numsOf M).length := by
      have e : numsOf M = numsOf (M.take (i + 1)) ++ numsOf (M.drop (i + 1)) := by
        unfold numsOf
        rw [← List.flatMap_append, List.take_append_drop]
      rw [e, List.length_append]; exact Nat.le_add_right _ _
    refine ⟨_, rfl, r.1, _, _, _, rfl, rfl, SqT.of ga', atI_nat (j := 1) rfl, r.2.1, rfl, ⟨_, SqL.of (by rw [k _ (ne_of gb hy2 (by intro z; cases z))]; exact gb)⟩, ?_⟩
    refine for_list (K := K) (a := r.2.1) (xs := r.2.2.2.map V.int) (fun j σ G => ∃ (v5 : Option V) (kvs : List (Key × V)), σ = [some (.ref d), some (.str name), some (.int (t : Int)), some (.ref y), some (.ref r.1), v5] ∧ G y = some (.dK kvs) ∧ (∀ b, b ≠ y → G b = H2 b) ∧ (∀ n : Int, (valV kvs (Sum.inl n)).isSome = true ↔ n ∈ numsOf (M.take i) ++ r.2.2.2.take j) ∧ kvs.length ≤ (numsOf (M.take i) ++ r.2.2.2.take j).length) ⟨_, kvs, rfl, hyG, k, by rw [List.take_zero, List.append_nil]; exact mem, by rw [List.take_zero, List.append_nil]; exact lk⟩ (fun j σ G _ z => ?_) (fun j x σ G hx z => ?_) (fun σ G z => ?_)
    · obtain ⟨_, _, _, _, k, _⟩ := z
      exact SqL.of (by rw [k _ (ne_of gb hy2 (by intro z; cases z))]; exact gb)
    · obtain ⟨v5, kvs, rfl, hyG, k, mem, lk⟩ := z
      rw [List.getElem?_map] at hx
      obtain ⟨n0, en, rfl⟩ := Option.map_eq_some_iff.mp hx
      have et : r.2.2.2.take (j + 1) = r.2.2.2.take j ++ [n0] := by rw [List.take_add_one, en]; rfl
      have l5 : (numsOf (M.take i) ++ r.2.2.2.take j).length ≤ 300 := by
        rw [nt, List.length_append] at lt
        rw [List.length_append, List.length_take]
        omega
      refine ⟨_, rfl, _, rfl, y, _, rfl, DPut.k (k := Sum.inl n0) hyG (small1000 (by omega)), ⟨_, _, rfl, upd_same, fun b nb => by rw [upd_ne nb]; exact k b nb, fun n => ?_, ?_⟩⟩
      · rw [valV_put, et, ← List.append_assoc, List.mem_append, List.mem_singleton]
        by_cases c : n = n0
        · rw [if_pos (by rw [c])]; exact ⟨fun _ => .inr c, fun _ => rfl⟩
        · rw [if_neg (fun z => c (Sum.inl.inj z)), mem]
          exact ⟨fun z => .inl z, fun z => z.resolve_right c⟩
      · have := length_putK kvs (Sum.inl n0) (.bl true)
        rw [et, ← List.append_assoc, List.length_append]
        show _ ≤ _ + 1
        omega
    · obtain ⟨v5, kvs, rfl, hyG, k, mem, lk⟩ := z
      rw [List.length_map, List.take_length, ← nt] at mem lk
      exact ⟨_, _, kvs, rfl, hyG, k, mem, lk⟩
  · obtain ⟨v4, v5, kvs, rfl, hyG, k, mem, lk⟩ := z
    rw [List.length_map, ← lM, List.take_length] at mem
    have fin : SameP tP_gathered H G := fun b u nb e => by
      have e1 := s1 _ _ e
      rw [k _ (ne_of_none e ny)]
      exact s2 _ _ nb e1
    have tab : GTab G tP_gathered := tab_off t2 hy2 k
    have mem' : ∀ n : Int, (valV kvs (Sum.inl n)).isSome = true ↔ n ∈ numsOf L := fun n => (mem n).trans (mm n)
    refine ⟨_, rfl, _, rfl, by omega, by omega, ?_⟩
    refine for_range (lo := 0) (n := ((t : Int)).toNat) (fun j σ G' => G' = G ∧ (∀ i, i < j → ((i : Nat) : Int) ∈ numsOf L) ∧ ∃ v5, σ = [some (.ref d), some (.str name), some (.int (t : Int)), some (.ref y), v4, v5]) ⟨rfl, fun i z => absurd z (Nat.not_lt_zero _), _, rfl⟩ (fun j σ G' hj z => ?_) (fun σ G' z => ?_)
    · obtain ⟨rfl, pre, v5, rfl⟩ := z
      have ej : (0 : Int) + (j : Int) = (j : Int) := Int.zero_add _
      refine ⟨_, rfl, _, rfl, y, _, rfl, DGet.k (k := Sum.inl (0 + (j : Int))) hyG, _, rfl, ite2 (fun c => ?_) (fun c => ?_)⟩
      · rw [ej] at c ⊢
        have nn : ¬ (j : Int) ∈ numsOf L := fun z => by
          rw [(mem' _).mpr z] at c; cases c
        refine ⟨_, rfl, ?_⟩
        have := q G' fin tab
        rw [lack_hit (by omega) pre nn] at this
        exact this
      · rw [ej] at c
        have yy : (j : Int) ∈ numsOf L := (mem' _).mp (by
          cases e : (valV kvs (Sum.inl (j : Int))).isSome with
          | true => rfl
          | false => rw [e] at c; exact absurd rfl c)
        refine ⟨rfl, fun i hi => ?_, _, rfl⟩
        by_cases e : i = j
        · rw [e]; exact yy
        · exact pre i (by omega)
    · obtain ⟨rfl, pre, v5, rfl⟩ := z
      have := q G' fin tab
      rw [lack_none (fun j hj => pre j (by omega))] at this
      exact this
end
end My
namespace My
open PySem L2
open Blk (sg sg_inj sg_app)
section
variable {P : Program} {w : World} {K : PySem.W.Frag} {mg : Str → Option Value} {base : Heap}
def sp__law_cell_at (K : PySem.W.Frag) : Sp := fun vs H Q _ => ∃ (a : Addr) (k : Int) (ns : List Int), vs = [.ref a, .int k] ∧ SqL K H a (ns.map V.int) ∧ 0 ≤ k ∧ Q (.int (ns.getD k.toNat 0)) H
theorem sc__law_cell_at : FnScope ["_law_script", "_law_k"] ["_law_script", "_law_k"] (defScope s__law_cell_at) := ⟨rfl, rfl, rfl, by decide +kernel, rfl, by decide +kernel, by decide +kernel⟩
theorem ok__law_cell_at {fa cNoHeap cHallError tP_gathered : Addr} {fd : FuncData} (F : Fun K "_law_cell_at" "_law_cell_at" s__law_cell_at fa fd) (T : Txt K mg cNoHeap cHallError tP_gathered)  :
    FnOk P w K mg base CX0 1 fa fd ["_law_script", "_law_k"] (sp__law_cell_at K) := by
  refine F.ok sc__law_cell_at (fun vs H Q E h => ?_) (fun cdv A outer s H vs Q E hr h => ?_)
  · obtain ⟨a, k, ns, rfl, _⟩ := h
    rfl
  obtain ⟨a, k, ns, rfl, hS, k0, q⟩ := h
  refine ⟨_, (pss_cons (ps_if (pt_cmpR op_lt (pv 1) (pe_callB call_len_seq rfl T.len PySem.boot_len (pa_cons (pv 0) pa_nil)) (nomark _)) (pss_one (ps_ret (pe_ix ix_listA (pv 0) (pv 1) (fun _ _ => rfl)))) pss_nil)
  (pss_one (ps_ret pe_int))), ?_⟩
  refine ⟨_, rfl, _, rfl, a, _, rfl, .inl hS, _, _, rfl, rfl, _, rfl, ?_⟩
  refine ite2 (fun c => ?_) (fun c => ?_)
  · refine ⟨_, rfl, _, rfl, a, _, _, rfl, rfl, hS, k0, of_decide_eq_true c, fun v hv => ?_⟩
    rw [List.getElem?_map] at hv
    obtain ⟨z, ez, rfl⟩ := Option.map_eq_some_iff.mp hv
    rw [List.getD_eq_getElem?_getD, ez] at q
    exact q
  · have c' : ¬ k < ((ns.map V.int).length : Int) := fun z => c (decide_eq_true z)
    rw [List.length_map] at c'
    rw [List.getD_eq_getElem?_getD, List.getElem?_eq_none (by omega)] at q
    exact q
def mixV (c k m : Int) : Int := ((c % 1000003 + 1) * (k * k + 48271)) % (([65537, 64007, 62003] : List Int).getD (k % 3).toNat 1) % m
theorem mix_lo {c k m : Int} (h : 0 < m) : 0 ≤ mixV c k m := Int.emod_nonneg _ (by omega)
theorem mix_hi {c k m : Int} (h : 0 < m) : mixV c k m < m := Int.emod_lt_of_pos _ h
def sp__law_mix (K : PySem.W.Frag) : Sp := fun vs H Q _ => ∃ c k m : Int, vs = [.int c, .int k, .int m] ∧ 0 ≤ k ∧ k ≤ 10000 ∧ 0 < m ∧ ∀ H', Same H H' → Q (.int (mixV c k m)) H'
theorem sc__law_mix : FnScope ["_law_cell", "_law_k", "_law_many"] ["_law_cell", "_law_k", "_law_many"] (defScope s__law_mix) := ⟨rfl, rfl, rfl, by decide +kernel, rfl, by decide +kernel, by decide +kernel⟩
theorem ok__law_mix {fa cNoHeap cHallError tP_gathered : Addr} {fd : FuncData} (F : Fun K "_law_mix" "_law_mix" s__law_mix fa fd) (T : Txt K mg cNoHeap cHallError tP_gathered)  :
    FnOk P w K mg base CX0 1 fa fd ["_law_cell", "_law_k", "_law_many"] (sp__law_mix K) := by
  refine F.ok sc__law_mix (fun vs H Q E h => ?_) (fun cdv A outer s H vs Q E hr h => ?_)
  · obtain ⟨c, k, m, rfl, _⟩ := h
    rfl
  obtain ⟨c, k, m, rfl, k0, k1, m0, q⟩ := h
  have z3 : 3 ≤ sizeLine := small (by decide)
  refine ⟨_, (pss_one (ps_ret (pe_op op_mod (pe_op op_mod (pe_op op_mul (pe_op op_add (pe_op op_mod (pv 0) pe_int) pe_int) (pe_op op_add (pe_op op_mul (pv 1) (pv 1)) pe_int)) (pe_ix ix_listA (pe_lst (pa_cons pe_int (pa_cons pe_int (pa_cons pe_int pa_nil)))) (pe_op op_mod (pv 1) pe_int) (fun _ _ => rfl))) (pv 2)))), ?_⟩
  have b0 := Int.emod_nonneg c (show (1000003 : Int) ≠ 0 by decide)
  have b1 := Int.emod_lt_of_pos c (show (0 : Int) < 1000003 by decide)
  have d0 := Int.emod_nonneg k (show (3 : Int) ≠ 0 by decide)
  have d1 := Int.emod_lt_of_pos k (show (0 : Int) < 3 by decide)
  refine ⟨_, rfl, _, _, rfl, rfl, (by show (0 : Int) < 1000003; decide), _, _, rfl, rfl, _, rfl, _, rfl, _, _, rfl, rfl, .inr ⟨by omega, by omega⟩, _, _, rfl, rfl, _, _, rfl, rfl, .inl ⟨by omega, by omega⟩, z3, fun p np => ?_⟩
  have s1 := same_new np (.lst [V.int 65537, V.int 64007, V.int 62003])
  have h1 : upd H p (.lst [V.int 65537, V.int 64007, V.int 62003]) p = some (.lst (([65537, 64007, 62003] : List Int).map V.int)) := upd_same
  generalize upd H p (.lst [V.int 65537, V.int 64007, V.int 62003]) = H1 at s1 h1 ⊢
  refine ⟨_, rfl, _, _, rfl, rfl, (by show (0 : Int) < 3; decide), p, _, _, rfl, rfl, SqL.of h1, d0, (by show k % 3 < 3; exact d1), fun v hv => ?_⟩
  rw [List.getElem?_map] at hv
  obtain ⟨d, ed, rfl⟩ := Option.map_eq_some_iff.mp hv
  have hd : 0 < d := by
    have hm := List.mem_of_getElem? ed
    simp only [List.mem_cons, List.not_mem_nil, or_false] at hm
    rcases hm with rfl | rfl | rfl <;> decide
  have eg : ([65537, 64007, 62003] : List Int).getD (k % 3).toNat 1 = d := by rw [List.getD_eq_getElem?_getD, ed]; rfl
  refine ⟨_, _, rfl, rfl, hd, _, rfl, _, _, rfl, rfl, m0, ?_⟩
  have := q H1 s1
  unfold mixV at this
  rw [eg] at this
  exact this
abbrev abc : Str := Str.ofString "abcdefghijklmnopqrstuvwxyz"
def ltr5 (j : Nat) : Nat := abc.cps.toList.getD j 0
def stp (c t : Int) (k : Nat) : Int := c / 12 + (k : Int) * (k : Int) + (if (k : Int) = c / 144 % (1 + c % 12) then t else 0)
def wordL (c t : Int) (n : Nat) : List Nat := (List.range n).map fun k => ltr5 (stp c t k % 26).toNat
def wordP (c t : Int) (n : Nat) : Str := ⟨(wordL c t n).toArray⟩
theorem word_step {c t : Int} {i : Nat} {S : Int} {ch : Nat} (e : S = stp c t i) (h : abc.cps.toList[(S % 26).toNat]? = some ch) : wordP c t i ++ (⟨#[ch]⟩ : Str) = wordP c t (i + 1) := by
  refine Blk.sg_inj ?_
  rw [Blk.sg_app]
  show wordL c t i ++ [ch] = wordL c t (i + 1)
  unfold wordL
  rw [List.range_succ, List.map_append]
  have : ltr5 (stp c t i % 26).toNat = ch := by
    unfold ltr5
    rw [List.getD_eq_getElem?_getD, ← e, h]
    rfl
  rw [List.map_cons, List.map_nil, this]
theorem word_len {c t : Int} {n : Nat} : (wordP c t n).length = n := by
  show (wordL c t n).toArray.size = n
  unfold wordL
  rw [List.size_toArray, List.length_map, List.length_range]
def wSize (c : Int) : Nat := (1 + c % 12).toNat
theorem ltr5_inj : ∀ a b : Nat, a < 26 → b < 26 → ltr5 a = ltr5 b → a = b := by
  have h : ∀ a : Fin 26, ∀ b : Fin 26, ltr5 a.1 = ltr5 b.1 → a = b := by decide +kernel
  intro a b ha hb e
  exact congrArg Fin.val (h ⟨a, ha⟩ ⟨b, hb⟩ e)
theorem word_ne {c t u : Int} (t0 : 0 ≤ t) (t1 : t < 26) (u0 : 0 ≤ u) (u1 : u < 26) (e : wordP c t (wSize c) = wordP c u (wSize c)) : t = u := by
  have m0 := Int.emod_nonneg c (show (12 : Int) ≠ 0 by decide)
  have m1 := Int.emod_lt_of_pos c (show (0 : Int) < 12 by decide)
  have ez : ((wSize c : Nat) : Int) = 1 + c % 12 := by unfold wSize; omega
  have e2 : wordL c t (wSize c) = wordL c u (wSize c) := congrArg Blk.sg e
  have p0 := Int.emod_nonneg (c / 144) (show (1 + c % 12 : Int) ≠ 0 by omega)
  have p1 := Int.emod_lt_of_pos (c / 144) (show (0 : Int) < 1 + c % 12 by omega)
  obtain ⟨p, hp⟩ : ∃ p : Nat, (p : Int) = c / 144 % (1 + c % 12) := ⟨(c / 144 % (1 + c % 12)).toNat, by omega⟩
  have hk : p < wSize c := by omega
  have e3 : (wordL c t (wSize c))[p]? = (wordL c u (wSize c))[p]? := by rw [e2]
  unfold wordL at e3
  rw [List.getElem?_map, List.getElem?_map, List.getElem?_range hk] at e3
  have e4 := Option.some.inj e3
  have a0 := Int.emod_nonneg (stp c t p) (show (26 : Int) ≠ 0 by decide)
  have a1 := Int.emod_lt_of_pos (stp c t p) (show (0 : Int) < 26 by decide)
  have b0 := Int.emod_nonneg (stp c u p) (show (26 : Int) ≠ 0 by decide)
  have b1 := Int.emod_lt_of_pos (stp c u p) (show (0 : Int) < 26 by decide)
  have h1 := ltr5_inj _ _ (by omega) (by omega) e4
  have h2 : stp c t p % 26 = stp c u p % 26 := by omega
  unfold stp at h2
  rw [if_pos hp, if_pos hp] at h2
  generalize c / 12 + (p : Int) * (p : Int) = X at h2
  omega
def sp__law_word (K : PySem.W.Frag) : Sp := fun vs H Q _ => ∃ c t : Int, vs = [.int c, .int t] ∧ Q (.str (wordP c t (wSize c))) H
theorem sc__law_word : FnScope ["_law_cell", "_law_turn", "_law_letters", "_law_size", "_law_word_here", "_law_k", "_law_step"] ["_law_cell", "_law_turn"] (defScope s__law_word) := ⟨rfl, rfl, rfl, by decide +kernel, rfl, by decide +kernel, by decide +kernel⟩
theorem ok__law_word {fa cNoHeap cHallError tP_gathered : Addr} {fd : FuncData} (F : Fun K "_law_word" "_law_word" s__law_word fa fd) (T : Txt K mg cNoHeap cHallError tP_gathered)  :
    FnOk P w K mg base CX0 1 fa fd ["_law_cell", "_law_turn"] (sp__law_word K) := by
  refine F.ok sc__law_word (fun vs H Q E h => ?_) (fun cdv A outer s H vs Q E hr h => ?_)
  · obtain ⟨c, t, rfl, _⟩ := h
    rfl
  obtain ⟨c, t, rfl, q⟩ := h
  refine ⟨_, (pss_cons (ps_set (i := 2) sc__law_word.nd rfl (by first | exact Or.inl rfl | exact Or.inr rfl) pe_str)
  (pss_cons (ps_set (i := 3) sc__law_word.nd rfl (by first | exact Or.inl rfl | exact Or.inr rfl) (pe_op op_add pe_int (pe_op op_mod (pv 0) pe_int)))
  (pss_cons (ps_set (i := 4) sc__law_word.nd rfl (by first | exact Or.inl rfl | exact Or.inr rfl) pe_str)
  (pss_cons (ps_for PassesOwn.never rfl (pi_range1 rfl T.range (pa_cons (pv 3) pa_nil)) (pg_name (i := 5) sc__law_word.nd rfl (by first | exact Or.inl rfl | exact Or.inr rfl))
  (pss_cons (ps_set (i := 6) sc__law_word.nd rfl (by first | exact Or.inl rfl | exact Or.inr rfl) (pe_op op_add (pe_op op_fdiv (pv 0) pe_int) (pe_op op_mul (pv 5) (pv 5))))
  (pss_cons (ps_if (pt_cmpR op_eq (pv 5) (pe_op op_mod (pe_op op_fdiv (pv 0) pe_int) (pv 3)) (nomark _)) (pss_one (ps_set (i := 6) sc__law_word.nd rfl (by first | exact Or.inl rfl | exact Or.inr rfl) (pe_op op_add (pv 6) (pv 1)))) pss_nil)
  (pss_one (ps_set (i := 4) sc__law_word.nd rfl (by first | exact Or.inl rfl | exact Or.inr rfl) (pe_op op_add_str (pv 4) (pe_ix ix_strA (pv 2) (pe_op op_mod (pv 6) pe_int) (fun _ _ => rfl))))))))
  (pss_one (ps_ret (pv 4))))))), ?_⟩
  have m0 := Int.emod_nonneg c (show (12 : Int) ≠ 0 by decide)
  have m1 := Int.emod_lt_of_pos c (show (0 : Int) < 12 by decide)
  have l26 : abc.length = 26 := by decide +kernel
  refine ⟨_, rfl, _, _, rfl, rfl, (by show (0 : Int) < 12; decide), _, _, rfl, rfl, ?_⟩
  refine ⟨_, rfl, _, rfl, by omega, by omega, for_range (lo := 0) (n := (1 + c % 12).toNat) (fun i σ H' => H' = H ∧ ∃ (v5 v6 : Option V), σ = [some (.int c), some (.int t), some (.str abc), some (.int (1 + c % 12)), some (.str (wordP c t i)), v5, v6]) ⟨rfl, _, _, rfl⟩ (fun i σ H' hi z => ?_) (fun σ H' z => ?_)⟩
  · obtain ⟨rfl, v5, v6, rfl⟩ := z
    rw [Int.zero_add]
    refine ⟨_, rfl, _, _, rfl, rfl, ⟨by decide, by decide⟩, _, rfl, _, rfl, _, _, rfl, rfl, .inl ⟨by omega, by omega⟩, _, _, rfl, rfl, ?_⟩
    refine ⟨_, rfl, _, rfl, _, _, rfl, rfl, ⟨by decide, by decide⟩, _, rfl, _, _, rfl, rfl, (by show (0 : Int) < 1 + c % 12; omega), rfl, _, rfl, ?_⟩
    have one : ∀ ch : Nat, (⟨#[ch]⟩ : Str).length = 1 := fun _ => rfl
    have un : ∀ {a b : Int}, decide (V.int a = V.int b) = true → a = b := fun h => by
      have := of_decide_eq_true h
      injection this
    have nu : ∀ {a b : Int}, ¬ decide (V.int a = V.int b) = true → ¬ a = b := fun h e => h (decide_eq_true (by rw [e]))
    refine ite2 (fun c1 => ⟨_, rfl, _, rfl, _, _, rfl, rfl, ?_⟩) (fun c1 => ?_)
    all_goals
      refine ⟨_, rfl, _, rfl, _, rfl, _, _, rfl, rfl, (by show (0 : Int) < 26; decide), _, _, rfl, rfl, (by rw [l26]; exact small (by decide)), Int.emod_nonneg _ (by decide), (by rw [l26]; exact Int.emod_lt_of_pos _ (by decide)), fun ch hch => ?_⟩
      refine ⟨_, _, rfl, rfl, (by rw [one, word_len]; exact small (by omega)), ?_⟩
    · rw [word_step (i := i) (by unfold stp; rw [if_pos (un c1)]) hch]
      exact ⟨rfl, _, _, rfl⟩
    · rw [word_step (i := i) (by unfold stp; rw [if_neg (nu c1), Int.add_zero]) hch]
      exact ⟨rfl, _, _, rfl⟩
  · obtain ⟨rfl, v5, v6, rfl⟩ := z
    exact ⟨_, rfl, q⟩
end
end My
namespace My
open PySem L2
open Blk (sg sg_inj sg_app)
section
variable {P : Program} {w : World} {K : PySem.W.Frag} {mg : Str → Option Value} {base : Heap}
def RunsAt (H : Hp) (a : Addr) (R : List (List Int)) : Prop := ∃ rs : List (Addr × List Int), R = rs.map (·.2) ∧ H a = some (.lst (rs.map fun r => V.ref r.1)) ∧ ∀ r ∈ rs, H r.1 = some (.lst (r.2.map V.int)) ∧ r.1 ≠ a
theorem RunsAt.same {H H' : Hp} {a : Addr} {R : List (List Int)} (x : RunsAt H a R) (s : Same H H') : RunsAt H' a R := let ⟨rs, e, e1, g⟩ := x; ⟨rs, e, s _ _ e1, fun r hr => ⟨s _ _ (g r hr).1, (g r hr).2⟩⟩
def offI (lo : V) (i : Int) : Bool := !decide (V.int i = lo)
def rngF (lo : V) (n : Nat) : List Int := ((List.range n).map fun i => ((i : Nat) : Int)).filter (offI lo)
structure RunsOk (n : Nat) (lo : V) (R : List (List Int)) : Prop where
  ne : ∀ r ∈ R, r ≠ []
  fl : R.flatten = rngF lo n
theorem flat_len : ∀ (R : List (List Int)), (∀ r ∈ R, r ≠ []) → R.length ≤ R.flatten.length
  | [], _ => Nat.le_refl _
  | r :: R, h => by
    have := flat_len R fun x hx => h x (.tail _ hx)
    have l1 : 1 ≤ r.length := by
      cases r with
      | nil => exact absurd rfl (h [] (.head _))
      | cons a b => exact Nat.succ_le_succ (Nat.zero_le _)
    rw [List.flatten_cons, List.length_append, List.length_cons]
    omega
theorem rngF_len (lo : V) (n : Nat) : (rngF lo n).length ≤ n := by
  unfold rngF
  refine Nat.le_trans (List.length_filter_le _ _) ?_
  rw [List.length_map, List.length_range]
  exact Nat.le_refl _
theorem rngF_mem {lo : V} {n : Nat} {i : Int} : i ∈ rngF lo n ↔ 0 ≤ i ∧ i < n ∧ V.int i ≠ lo := by
  unfold rngF offI
  rw [List.mem_filter, List.mem_map, Bool.not_eq_true', decide_eq_false_iff_not]
  constructor
  · rintro ⟨⟨j, hj, rfl⟩, h⟩
    have := List.mem_range.mp hj
    exact ⟨by omega, by omega, h⟩
  · rintro ⟨h1, h2, h3⟩
    exact ⟨⟨i.toNat, List.mem_range.mpr (by omega), by omega⟩, h3⟩
theorem rngF_add (lo : V) (a b : Nat) : rngF lo (a + b) = rngF lo a ++ ((List.range b).map fun i => (a : Int) + ((i : Nat) : Int)).filter (offI lo) := by
  unfold rngF
  rw [List.range_add, List.map_append, List.filter_append, List.map_map]
  congr 2
def atN (σ : St) (i : Nat) : Nat := match σ[i]? with | some (some (V.int m)) => m.toNat | _ => 0
theorem filter_ints (lo : V) : ∀ l : List Int, ((l.map V.int).filter fun v => !decide (v = lo)) = (l.filter (offI lo)).map V.int
  | [] => rfl
  | x :: l => by
    rw [List.map_cons, List.filter_cons, List.filter_cons, filter_ints lo l]
    by_cases c : offI lo x = true
    · rw [if_pos c, if_pos (show (!decide (V.int x = lo)) = true from c)]; rfl
    · rw [if_neg c, if_neg (show ¬ (!decide (V.int x = lo)) = true from c)]
def sp__law_runs (K : PySem.W.Frag) : Sp := fun vs H Q _ => ∃ (a : Addr) (n : Nat) (lo : V) (ns : List Int), vs = [.ref a, .int (n : Int), lo] ∧ SqL K H a (ns.map V.int) ∧ n ≤ 40 ∧ (lo = .non ∨ ∃ i, lo = .int i) ∧ ∀ p R H', Same H H' → H p = none → RunsAt H' p R → RunsOk n lo R → Q (.ref p) H'
theorem sc__law_runs : FnScope ["_law_script", "_law_n", "_law_left_out", "_law_runs_here", "_law_number", "_law_k", "_law_many", "_law_some"] ["_law_script", "_law_n", "_law_left_out"] (defScope s__law_runs) := ⟨rfl, rfl, rfl, by decide +kernel, rfl, by decide +kernel, by decide +kernel⟩
theorem ok__law_runs {fa cNoHeap cHallError tP_gathered : Addr} {fd : FuncData} (F : Fun K "_law_runs" "_law_runs" s__law_runs fa fd) (T : Txt K mg cNoHeap cHallError tP_gathered) (D__law_mix : Dfn P w K mg base 1 "_law_mix" ["_law_cell", "_law_k", "_law_many"] (sp__law_mix K)) (D__law_cell_at : Dfn P w K mg base 1 "_law_cell_at" ["_law_script", "_law_k"] (sp__law_cell_at K)) :
    FnOk P w K mg base CX0 2 fa fd ["_law_script", "_law_n", "_law_left_out"] (sp__law_runs K) := by
  refine F.ok sc__law_runs (fun vs H Q E h => ?_) (fun cdv A outer s H vs Q E hr h => ?_)
  · obtain ⟨a, n, lo, ns, rfl, _⟩ := h
    rfl
  obtain ⟨a, n, lo, ns, rfl, hS, n4, hlo, q⟩ := h
  have hu := hu_n hr 0 (by decide)
  refine ⟨_, (pss_cons (ps_set (i := 3) sc__law_runs.nd rfl (by first | exact Or.inl rfl | exact Or.inr rfl) (pe_lst pa_nil))
  (pss_cons (ps_set (i := 4) sc__law_runs.nd rfl (by first | exact Or.inl rfl | exact Or.inr rfl) pe_int)
  (pss_cons (ps_set (i := 5) sc__law_runs.nd rfl (by first | exact Or.inl rfl | exact Or.inr rfl) pe_int)
  (pss_cons (ps_while PassesOwn.never (pt_cmpR op_lt (pv 4) (pv 1) (nomark _)) (pss_cons (ps_set (i := 6) sc__law_runs.nd rfl (by first | exact Or.inl rfl | exact Or.inr rfl) (pe_op op_add pe_int (pe_callD D__law_mix (hr.mono (by decide)) rfl (pa_cons (pe_callD D__law_cell_at (hr.mono (by decide)) rfl (pa_cons (pv 0) (pa_cons (pe_op op_add pe_int (pv 5)) pa_nil))) (pa_cons (pv 5) (pa_cons pe_int pa_nil))))))
  (pss_cons (ps_comp (i := 7) (frees := [("_law_left_out", 2)]) ⟨by decide +kernel, rfl, rfl, by decide +kernel, ⟨⟨rfl, rfl, rfl, by decide +kernel⟩, trivial⟩, by decide +kernel, cellsFor_at rfl, rfl⟩ sc__law_runs.nd rfl rfl rfl (pi_range2 rfl T.range (pa_cons (pv 4) (pa_cons (pe_callB (call_min2 rfl) rfl T.min bt_min (pa_cons (pv 1) (pa_cons (pe_op op_add (pv 4) (pv 6)) pa_nil))) pa_nil))) (fun _ _ _ _ => by exact (pifs_one (pt_cmpR op_ne (pv 0) (pv 1) (nomark _)))) (fun _ _ _ _ => by exact (pv 0)))
  (pss_cons (ps_if (pt_cmpR op_gt (pe_callB call_len_seq rfl T.len PySem.boot_len (pa_cons (pv 7) pa_nil)) pe_int (nomark _)) (pss_one (ps_expr (pe_bm PySem.F.plainAttrs_list PySem.F.slot_list_append PySem.F.type_list_append mt_append (pv 3) (pa_cons (pv 7) pa_nil)))) pss_nil)
  (pss_cons (ps_set (i := 4) sc__law_runs.nd rfl (by first | exact Or.inl rfl | exact Or.inr rfl) (pe_op op_add (pv 4) (pv 6)))
  (pss_one (ps_set (i := 5) sc__law_runs.nd rfl (by first | exact Or.inl rfl | exact Or.inr rfl) (pe_op op_add (pv 5) pe_int))))))))
  (pss_one (ps_ret (pv 3))))))), ?_⟩
  refine ⟨Nat.zero_le _, fun p np => ?_⟩
  have s1 := same_new np (.lst [])
  have hp1 : upd H p (.lst []) p = some (.lst []) := upd_same
  generalize upd H p (.lst []) = H1 at s1 hp1 ⊢
  dsimp only [gName]
  refine while_by (fun σ G => ∃ (m k : Nat) (v6 v7 : Option V) (R : List (List Int)), σ = [some (.ref a), some (.int (n : Int)), some lo, some (.ref p), some (.int (m : Int)), some (.int (k : Int)), v6, v7] ∧ Same H G ∧ RunsAt G p R ∧ (∀ r ∈ R, r ≠ []) ∧ k ≤ m ∧ R.flatten = rngF lo (min n m)) (fun σ _ => n - atN σ 4) ⟨0, 0, _, _, [], rfl, s1, ⟨[], rfl, hp1, fun r hr => absurd hr List.not_mem_nil⟩, fun r hr => absurd hr List.not_mem_nil, Nat.le_refl _, by rw [Nat.min_eq_right (Nat.zero_le _)]; rfl⟩ (fun σ G z => ?_) (fun σ G Q Q' hQ z => ?_)
  · obtain ⟨m, k, v6, v7, R, rfl, sG, ⟨rs, eR, hp, g⟩, ne, km, fl⟩ := z
    refine ⟨_, rfl, _, rfl, _, _, rfl, rfl, _, rfl, ite2 (fun c => ?_) (fun c => ?_)⟩
    · have c' : m < n := by have := of_decide_eq_true c; omega
      have m1 := mix_lo (c := ns.getD (4 + (k : Int)).toNat 0) (k := (k : Int)) (show (0 : Int) < 6 by decide)
      have m2 := mix_hi (c := ns.getD (4 + (k : Int)).toNat 0) (k := (k : Int)) (show (0 : Int) < 6 by decide)
      refine ⟨_, rfl, _, rfl, _, _, rfl, rfl, a, _, ns, rfl, sG.seq hS, by omega, _, rfl, _, _, _, rfl, by omega, by omega, by decide, fun G1 t1 => ⟨_, _, rfl, rfl, ?_⟩⟩
      obtain ⟨d, ed⟩ : ∃ d : Nat, 1 + mixV (ns.getD (4 + (k : Int)).toNat 0) (k : Int) 6 = ((d + 1 : Nat) : Int) := ⟨(mixV (ns.getD (4 + (k : Int)).toNat 0) (k : Int) 6).toNat, by omega⟩
      have d6 : d ≤ 5 := by omega
      dsimp only [gName]
      rw [ed]
      clear ed m1 m2
      have sG1 := sG.trans t1
      refine ⟨_, rfl, _, rfl, _, rfl, _, rfl, _, _, rfl, rfl, _, _, rfl, _, _, rfl, ⟨by omega, by omega, by omega, by omega⟩, ?_⟩
      generalize en : ((if (m : Int) + ((d + 1 : Nat) : Int) < (n : Int) then (m : Int) + ((d + 1 : Nat) : Int) else (n : Int)) - (m : Int)).toNat = cnt
      have hc : m + cnt = min n (m + (d + 1)) := by
        rw [← en]
        by_cases c2 : (m : Int) + ((d + 1 : Nat) : Int) < (n : Int)
        · rw [if_pos c2, Nat.min_eq_right (by omega)]; omega
        · rw [if_neg c2, Nat.min_eq_left (by omega)]; omega
      have cl : cnt ≤ 40 := by omega
      refine compB_seq (seq_range (m : Int) cnt G1) (fun v => !decide (v = lo)) (fun v => v) (by rw [List.length_map, List.length_range]; exact small1000 (by omega)) (fun x hx H' R' _ rr => ?_) (fun x hx H' R' _ _ rr => ⟨_, rfl, rr⟩) (fun D G2 t2 nD hD => ?_)
      · obtain ⟨i, _, rfl⟩ := List.mem_map.mp hx
        rcases hlo with rfl | ⟨z, rfl⟩
        · exact ⟨_, rfl, _, rfl, rfl, _, rfl, rr⟩
        · exact ⟨_, rfl, _, rfl, rfl, _, rfl, rr⟩
      have eD : ((((List.range cnt).map fun i => V.int ((m : Int) + (i : Nat))).filter fun v => !decide (v = lo)).map fun v => v) = ((((List.range cnt).map fun i => (m : Int) + ((i : Nat) : Int)).filter (offI lo))).map V.int := by
        rw [← filter_ints, List.map_map, List.map_id']
        rfl
      rw [eD] at hD
      clear eD
      have fl2 : rngF lo (min n (m + (d + 1))) = R.flatten ++ ((List.range cnt).map fun i => (m : Int) + ((i : Nat) : Int)).filter (offI lo) := by
        rw [← hc, rngF_add, fl, Nat.min_eq_right (by omega)]
      have lz : ((((List.range cnt).map fun i => (m : Int) + ((i : Nat) : Int)).filter (offI lo))).length ≤ cnt := by
        refine Nat.le_trans (List.length_filter_le _ _) ?_
        rw [List.length_map, List.length_range]; exact Nat.le_refl _
      generalize ((List.range cnt).map fun i => (m : Int) + ((i : Nat) : Int)).filter (offI lo) = ch at hD fl2 lz
      have sG2 := sG1.trans t2
      have hp2 := t2 _ _ (t1 _ _ hp)
      dsimp only [gName]
      have lR : R.length ≤ 40 := by
        have a1 := flat_len R ne
        rw [fl] at a1
        have := rngF_len lo (min n m)
        omega
      have fin : ∀ (R' : List (List Int)) (G3 : Hp), Same H G3 → RunsAt G3 p R' → (∀ r ∈ R', r ≠ []) → R'.flatten = rngF lo (min n (m + (d + 1))) → (∃ (m' k' : Nat) (v6 v7 : Option V) (R : List (List Int)), [some (V.ref a), some (V.int (n : Int)), some lo, some (V.ref p), some (V.int ((m : Int) + ((d + 1 : Nat) : Int))), some (V.int ((k : Int) + 1)), some (V.int ((d + 1 : Nat) : Int)), some (V.ref D)] = [some (.ref a), some (.int (n : Int)), some lo, some (.ref p), some (.int (m' : Int)), some (.int (k' : Int)), v6, v7] ∧ Same H G3 ∧ RunsAt G3 p R ∧ (∀ r ∈ R, r ≠ []) ∧ k' ≤ m' ∧ R.flatten = rngF lo (min n m')) ∧ n - ((m : Int) + ((d + 1 : Nat) : Int)).toNat < n - m := fun R' G3 s3 r3 ne3 fl3 =>
        ⟨⟨m + (d + 1), k + 1, some (.int ((d + 1 : Nat) : Int)), some (.ref D), R', by rw [show (m : Int) + ((d + 1 : Nat) : Int) = ((m + (d + 1) : Nat) : Int) by omega, show (k : Int) + 1 = ((k + 1 : Nat) : Int) by omega], s3, r3, ne3, by omega, fl3⟩, by omega⟩
      refine ⟨_, rfl, D, _, rfl, .inl (SqL.of hD), _, _, rfl, rfl, _, rfl, ite2 (fun c3 => ?_) (fun c3 => ?_)⟩
      · have c4 : ch ≠ [] := fun z => by
          rw [z] at c3
          exact absurd (of_decide_eq_true c3) (by decide)
        refine ⟨_, rfl, .inl ⟨rfl, _, SqL.of hp2⟩, _, rfl, p, _, _, rfl, rfl, hp2, ?_, ?_⟩
        · rw [List.length_map, ← List.length_map (f := fun r : Addr × List Int => r.2), ← eR]; exact small1000 (by omega)
        have r3 : RunsAt (upd G2 p (.lst ((rs.map fun r => V.ref r.1) ++ [V.ref D]))) p (R ++ [ch]) := by
          refine ⟨rs ++ [(D, ch)], by rw [eR, List.map_append]; rfl, by rw [upd_same, List.map_append]; rfl, fun r hr => ?_⟩
          rcases List.mem_append.mp hr with hr | hr
          · exact ⟨by rw [upd_ne (g r hr).2]; exact t2 _ _ (t1 _ _ (g r hr).1), (g r hr).2⟩
          · rw [List.mem_singleton.mp hr]
            have nDp : D ≠ p := fun z => by rw [z, t1 _ _ hp] at nD; cases nD
            exact ⟨by show upd G2 p _ D = _; rw [upd_ne nDp]; exact hD, nDp⟩
        exact ⟨_, rfl, _, rfl, _, _, rfl, rfl, _, rfl, _, _, rfl, rfl, fin (R ++ [ch]) _ (same_on np sG2 _) r3 (fun r hr => (List.mem_append.mp hr).elim (ne r) (fun z => by rw [List.mem_singleton.mp z]; exact c4)) (by rw [List.flatten_append, fl2]; simp)⟩
      · have c4 : ch = [] := by
          cases ch with
          | nil => rfl
          | cons x y => exact absurd (decide_eq_true (by rw [List.length_map, List.length_cons]; omega)) c3
        rw [c4, List.append_nil] at fl2
        exact ⟨_, rfl, _, rfl, _, _, rfl, rfl, _, rfl, _, _, rfl, rfl, fin R _ sG2 ⟨rs, eR, hp2, fun r hr => ⟨t2 _ _ (t1 _ _ (g r hr).1), (g r hr).2⟩⟩ ne fl2.symm⟩
    · have c' : ¬ m < n := fun z => c (decide_eq_true (by omega))
      rw [Nat.min_eq_left (by omega)] at fl
      exact ⟨_, rfl, q p R G sG np ⟨rs, eR, hp, g⟩ ⟨ne, fl⟩⟩
  · obtain ⟨v, e, w, e2, i, j, e3, e4, b, eb, z⟩ := z
    exact ⟨v, e, w, e2, i, j, e3, e4, b, eb, hQ _ _ z⟩
end
end My
namespace My
open PySem L2
open Blk (sg sg_inj sg_app)
section
variable {P : Program} {w : World} {K : PySem.W.Frag} {mg : Str → Option Value} {base : Heap}
theorem perm_pop {α : Type} : ∀ (l : List α) (k : Nat) {y : α}, l[k]? = some y → (y :: l.eraseIdx k).Perm l
  | [], k, y, h => by cases h
  | x :: l, 0, y, h => by obtain rfl : x = y := Option.some.inj h; exact .refl _
  | x :: l, k + 1, y, h => by
    have := perm_pop l k (y := y) h
    rw [List.eraseIdx_cons_succ]
    exact (List.Perm.swap _ _ _).trans (this.cons x)
theorem erase_map {α β : Type} (f : α → β) : ∀ (l : List α) (k : Nat), (l.map f).eraseIdx k = (l.eraseIdx k).map f
  | [], _ => rfl
  | _ :: _, 0 => rfl
  | x :: l, k + 1 => by rw [List.map_cons, List.eraseIdx_cons_succ, List.eraseIdx_cons_succ, List.map_cons, erase_map f l k]
def sp__law_mixed (K : PySem.W.Frag) : Sp := fun vs H Q _ => ∃ (a l : Addr) (ns : List Int) (R : List (List Int)), vs = [.ref a, .ref l] ∧ SqL K H a (ns.map V.int) ∧ RunsAt H l R ∧ R.length ≤ 60 ∧ ∀ p R' H', Same H H' → H p = none → List.Perm R' R → RunsAt H' p R' → Q (.ref p) H'
theorem sc__law_mixed : FnScope ["_law_script", "_law_runs_here", "_law_left", "_law_told"] ["_law_script", "_law_runs_here"] (defScope s__law_mixed) := ⟨rfl, rfl, rfl, by decide +kernel, rfl, by decide +kernel, by decide +kernel⟩
theorem ok__law_mixed {fa cNoHeap cHallError tP_gathered : Addr} {fd : FuncData} (F : Fun K "_law_mixed" "_law_mixed" s__law_mixed fa fd) (T : Txt K mg cNoHeap cHallError tP_gathered) (D__law_mix : Dfn P w K mg base 1 "_law_mix" ["_law_cell", "_law_k", "_law_many"] (sp__law_mix K)) (D__law_cell_at : Dfn P w K mg base 1 "_law_cell_at" ["_law_script", "_law_k"] (sp__law_cell_at K)) :
    FnOk P w K mg base CX0 2 fa fd ["_law_script", "_law_runs_here"] (sp__law_mixed K) := by
  refine F.ok sc__law_mixed (fun vs H Q E h => ?_) (fun cdv A outer s H vs Q E hr h => ?_)
  · obtain ⟨a, l, ns, R, rfl, _⟩ := h
    rfl
  obtain ⟨a, l, ns, R, rfl, hS, ⟨rs, eR, hl, g⟩, l6, q⟩ := h
  have hu := hu_n hr 0 (by decide)
  refine ⟨_, (pss_cons (ps_set (i := 2) sc__law_mixed.nd rfl (by first | exact Or.inl rfl | exact Or.inr rfl) (pe_callTy call_list_of rfl T.list bt_list (pa_cons (pv 1) pa_nil)))
  (pss_cons (ps_set (i := 3) sc__law_mixed.nd rfl (by first | exact Or.inl rfl | exact Or.inr rfl) (pe_lst pa_nil))
  (pss_cons (ps_while PassesOwn.never (pt_cmpR op_gt (pe_callB call_len_seq rfl T.len PySem.boot_len (pa_cons (pv 2) pa_nil)) pe_int (nomark _)) (pss_one (ps_expr (pe_bm PySem.F.plainAttrs_list PySem.F.slot_list_append PySem.F.type_list_append mt_append (pv 3) (pa_cons (pe_bm PySem.F.plainAttrs_list PySem.F.slot_list_pop PySem.F.type_list_pop mt_popAt (pv 2) (pa_cons (pe_callD D__law_mix (hr.mono (by decide)) rfl (pa_cons (pe_callD D__law_cell_at (hr.mono (by decide)) rfl (pa_cons (pv 0) (pa_cons pe_int pa_nil))) (pa_cons (pe_callB call_len_seq rfl T.len PySem.boot_len (pa_cons (pv 2) pa_nil)) (pa_cons (pe_callB call_len_seq rfl T.len PySem.boot_len (pa_cons (pv 2) pa_nil)) pa_nil)))) pa_nil)) pa_nil)))))
  (pss_one (ps_ret (pv 3)))))), ?_⟩
  refine ⟨_, rfl, l, _, rfl, .inl (SqL.of hl), fun lp nlp => ?_⟩
  have s1 := same_new nlp (.lst (rs.map fun r => V.ref r.1))
  have hlp : upd H lp (.lst (rs.map fun r => V.ref r.1)) lp = some (.lst (rs.map fun r => V.ref r.1)) := upd_same
  dsimp only [gName]
  generalize upd H lp (.lst (rs.map fun r => V.ref r.1)) = H1 at s1 hlp ⊢
  refine ⟨Nat.zero_le _, fun p np1 => ?_⟩
  have s2 := same_new np1 (.lst [])
  have hp2 : upd H1 p (.lst []) p = some (.lst []) := upd_same
  have np : H p = none := s1.free np1
  have lpp : lp ≠ p := ne_of_none hlp np1
  dsimp only [gName]
  have lrs : R.length = rs.length := by rw [eR, List.length_map]
  have hlp2 := s2 _ _ hlp
  generalize upd H1 p (.lst []) = H2 at s2 hp2 hlp2 ⊢
  have s12 := s1.trans s2
  refine ⟨fun mm σ G => σ = [some (.ref a), some (.ref l), some (.ref lp), some (.ref p)] ∧ Same H G ∧ ∃ (ls ts : List (Addr × List Int)), mm = ls.length ∧ G lp = some (.lst (ls.map fun r => V.ref r.1)) ∧ G p = some (.lst (ts.map fun r => V.ref r.1)) ∧ (ts ++ ls).Perm rs, ⟨_, rfl, s12, rs, [], rfl, hlp2, hp2, .refl _⟩, ?_⟩
  rintro mm σ G ⟨rfl, sG, ls, ts, rfl, hlG, hpG, pm⟩
  have ll : ts.length + ls.length = rs.length := by rw [← List.length_append]; exact pm.length_eq
  refine ⟨_, rfl, lp, _, rfl, .inl (SqL.of hlG), _, _, rfl, rfl, _, rfl, ?_⟩
  rw [List.length_map]
  by_cases c : 0 < ls.length
  · have e : decide ((0 : Int) < (ls.length : Int)) = true := decide_eq_true (by omega)
    rw [e]
    have m1 := mix_lo (c := ns.getD (3 : Int).toNat 0) (k := (ls.length : Int)) (show (0 : Int) < (ls.length : Int) by omega)
    have m2 := mix_hi (c := ns.getD (3 : Int).toNat 0) (k := (ls.length : Int)) (show (0 : Int) < (ls.length : Int) by omega)
    refine ⟨_, fun σ' H' z => z, ?_⟩
    have lm : (ls.map fun r => V.ref r.1).length = ls.length := List.length_map _
    refine ⟨_, rfl, .inl ⟨rfl, _, SqL.of hpG⟩, _, rfl, .inl ⟨rfl, _, SqL.of hlG⟩, _, rfl, a, _, ns, rfl, sG.seq hS, by decide, _, rfl, lp, _, rfl, .inl (SqL.of hlG), _, rfl, lp, _, rfl, .inl (SqL.of hlG), _, _, _, rfl, by omega, by rw [lm]; omega, by rw [lm]; omega, fun G1 t1 => ?_⟩
    rw [lm]
    generalize mixV (ns.getD (3 : Int).toNat 0) (ls.length : Int) (ls.length : Int) = mi at m1 m2
    have lt : mi.toNat < ls.length := by omega
    have hl1 := t1 _ _ hlG
    have hp1 := t1 _ _ hpG
    refine ⟨lp, _, mi, mi.toNat, V.ref (ls[mi.toNat]).1, rfl, rfl, hl1, by omega, by omega, by rw [lm]; exact seqIndex_of m1 m2, by rw [List.getElem?_map, List.getElem?_eq_getElem lt]; rfl, ?_⟩
    have hp3 : upd G1 lp (.lst ((ls.map fun r => V.ref r.1).eraseIdx mi.toNat)) p = some (.lst (ts.map fun r => V.ref r.1)) := by rw [upd_ne (Ne.symm lpp)]; exact hp1
    refine ⟨p, _, _, rfl, rfl, hp3, small1000 (by rw [List.length_map]; omega), ls.length - 1, by omega, rfl, same_on np (same_on nlp (sG.trans t1) _) _, ls.eraseIdx mi.toNat, ts ++ [ls[mi.toNat]], ?_, ?_, ?_, ?_⟩
    · rw [List.length_eraseIdx_of_lt lt]
    · rw [upd_ne lpp, upd_same, erase_map]
    · rw [upd_same, List.map_append]; rfl
    · refine List.Perm.trans ?_ pm
      rw [List.append_assoc]
      exact (perm_pop ls mi.toNat (List.getElem?_eq_getElem lt)).append_left ts
  · have e : decide ((0 : Int) < (ls.length : Int)) = false := decide_eq_false (by omega)
    rw [e]
    have z : ls = [] := List.eq_nil_of_length_eq_zero (by omega)
    subst z
    rw [List.append_nil] at pm
    refine ⟨_, rfl, q p (ts.map (·.2)) G sG np (by rw [eR]; exact pm.map _) ⟨ts, rfl, hpG, fun r hr => ?_⟩⟩
    obtain ⟨ga, _⟩ := g r (pm.mem_iff.mp hr)
    exact ⟨sG _ _ ga, ne_of_none ga np⟩
end
end My
namespace My
open PySem L2
open Blk (sg sg_inj sg_app)
section
variable {P : Program} {w : World} {K : PySem.W.Frag} {mg : Str → Option Value} {base : Heap}
def tagsP (p : Pc) : List Tag := (p.1, -1) :: p.2.map fun n => (p.1, n)
def tagsOf (P : List Pc) : List Tag := P.flatMap tagsP
theorem run_app : ∀ (a b : List Tag) (told : List Pc) (i : Nat) {t : List Pc}, runP told a i = .ok t → runP told (a ++ b) i = runP t b (i + a.length)
  | [], b, told, i, t, e => by cases e; rfl
  | g :: a, b, told, i, t, e => by
    unfold runP at e
    rw [List.cons_append]
    show (match stepP told g with | some t => runP t (a ++ b) (i + 1) | none => .error i) = _
    cases q : stepP told g with
    | none => rw [q] at e; cases e
    | some t' =>
      rw [q] at e
      show runP t' (a ++ b) (i + 1) = _
      rw [run_app a b t' (i + 1) e, List.length_cons, show i + 1 + a.length = i + (a.length + 1) by omega]
theorem run_nums (nm : Str) : ∀ (ns ms : List Int) (told : List Pc) (i : Nat), (∀ n ∈ ns, n ≠ -1) → runP (told ++ [(nm, ms)]) (ns.map fun n => (nm, n)) i = .ok (told ++ [(nm, ms ++ ns)])
  | [], ms, told, i, _ => by rw [List.append_nil]; rfl
  | n :: ns, ms, told, i, h => by
    have st : stepP (told ++ [(nm, ms)]) (nm, n) = some (told ++ [(nm, ms ++ [n])]) := by
      unfold stepP
      rw [if_neg (h n (.head _)), last_app]
      dsimp only
      rw [if_pos rfl, List.dropLast_concat]
    show (match stepP (told ++ [(nm, ms)]) (nm, n) with | some t => runP t (ns.map fun n => (nm, n)) (i + 1) | none => .error i) = _
    rw [st]
    show runP (told ++ [(nm, ms ++ [n])]) _ _ = _
    rw [run_nums nm ns (ms ++ [n]) told (i + 1) (fun x hx => h x (.tail _ hx)), List.append_assoc]
    rfl
theorem run_piece (p : Pc) (told : List Pc) (i : Nat) (h : ∀ n ∈ p.2, n ≠ -1) : runP told (tagsP p) i = .ok (told ++ [p]) := by
  show (match stepP told (p.1, -1) with | some t => runP t (p.2.map fun n => (p.1, n)) (i + 1) | none => .error i) = _
  have st : stepP told (p.1, -1) = some (told ++ [(p.1, [])]) := if_pos rfl
  rw [st]
  show runP (told ++ [(p.1, [])]) _ _ = _
  rw [run_nums p.1 p.2 [] told (i + 1) h]
  rfl
theorem run_tags : ∀ (P told : List Pc) (i : Nat), (∀ p ∈ P, ∀ n ∈ p.2, n ≠ -1) → runP told (tagsOf P) i = .ok (told ++ P)
  | [], told, i, _ => by rw [List.append_nil]; rfl
  | p :: P, told, i, h => by
    show runP told (tagsP p ++ tagsOf P) i = _
    rw [run_app _ _ _ _ (run_piece p told i (h p (.head _))), run_tags P _ _ (fun x hx => h x (.tail _ hx)), List.append_assoc]
    rfl
abbrev SP := List (Str × Pc)
def segP (S : SP) (p : Str) : List Pc := (S.filter fun s => decide (s.1 = p)).map (·.2)
def rowsOf (base : List (Str × Addr)) (S : SP) : List HRow := base.map fun b => (b.1, b.2, tagsOf (segP S b.1))
def gS (name : Str) (S : SP) : List Pc := (S.filter fun s => decide (s.2.1 = name) && !s.2.2.isEmpty).map fun s => (s.1, s.2.2)
def appR (rows : List HRow) (nm : Str) (g : List Tag) : List HRow := rows.map fun x => if x.1 = nm then (x.1, x.2.1, x.2.2 ++ g) else x
theorem appR_app (rows : List HRow) (nm : Str) (g h : List Tag) : appR (appR rows nm g) nm h = appR rows nm (g ++ h) := by
  unfold appR
  rw [List.map_map]
  refine List.map_congr_left fun x _ => ?_
  show (fun y : HRow => if y.1 = nm then (y.1, y.2.1, y.2.2 ++ h) else y) (if x.1 = nm then (x.1, x.2.1, x.2.2 ++ g) else x) = _
  by_cases c : x.1 = nm
  · rw [if_pos c, if_pos c]
    show (if x.1 = nm then (x.1, x.2.1, (x.2.2 ++ g) ++ h) else _) = _
    rw [if_pos c, List.append_assoc]
  · rw [if_neg c, if_neg c]
    exact if_neg c
theorem rows_add (base : List (Str × Addr)) (S : SP) (nm : Str) (p : Pc) : rowsOf base (S ++ [(nm, p)]) = appR (rowsOf base S) nm (tagsP p) := by
  unfold rowsOf appR
  rw [List.map_map]
  refine List.map_congr_left fun b _ => ?_
  show _ = if b.1 = nm then (b.1, b.2, tagsOf (segP S b.1) ++ tagsP p) else (b.1, b.2, tagsOf (segP S b.1))
  unfold segP
  rw [List.filter_append, List.map_append]
  by_cases c : b.1 = nm
  · rw [if_pos c, List.filter_cons_of_pos (p := fun s : Str × Pc => decide (s.1 = b.1)) (decide_eq_true c.symm)]
    unfold tagsOf
    rw [List.flatMap_append]
    simp
  · rw [if_neg c, List.filter_cons_of_neg (p := fun s : Str × Pc => decide (s.1 = b.1)) (fun z => c (of_decide_eq_true z).symm)]
    simp
structure SOk (js : List Str) (S : SP) : Prop where
  ow : ∀ s ∈ S, s.2.1 ∈ js
  nn : ∀ s ∈ S, ∀ n ∈ s.2.2, 0 ≤ n
theorem SOk.add {js : List Str} {S : SP} (h : SOk js S) {s : Str × Pc} (h1 : s.2.1 ∈ js) (h2 : ∀ n ∈ s.2.2, 0 ≤ n) : SOk js (S ++ [s]) :=
  ⟨fun x hx => (List.mem_append.mp hx).elim (h.ow x) (fun z => by rw [List.mem_singleton.mp z]; exact h1), fun x hx => (List.mem_append.mp hx).elim (h.nn x) (fun z => by rw [List.mem_singleton.mp z]; exact h2)⟩
theorem seg_mem {S : SP} {p : Str} {x : Pc} (h : x ∈ segP S p) : ∃ s ∈ S, s.2 = x ∧ s.1 = p := by
  unfold segP at h
  obtain ⟨s, hs, rfl⟩ := List.mem_map.mp h
  obtain ⟨h1, h2⟩ := List.mem_filter.mp hs
  exact ⟨s, h1, rfl, of_decide_eq_true h2⟩
theorem pick_seg (name p : Str) : ∀ S : SP, pickP name p (segP S p) = (gS name S).filter fun q => decide (q.1 = p)
  | [] => rfl
  | s :: S => by
    have ih := pick_seg name p S
    unfold pickP segP gS at ih ⊢
    by_cases c : s.1 = p
    · rw [List.filter_cons_of_pos (p := fun s : Str × Pc => decide (s.1 = p)) (decide_eq_true c), List.map_cons]
      by_cases c2 : (decide (s.2.1 = name) && !s.2.2.isEmpty) = true
      · rw [List.filter_cons_of_pos (p := fun p : Pc => decide (p.1 = name) && !p.2.isEmpty) c2, List.filter_cons_of_pos (p := fun s : Str × Pc => decide (s.2.1 = name) && !s.2.2.isEmpty) c2, List.map_cons, List.map_cons, List.filter_cons_of_pos (p := fun q : Pc => decide (q.1 = p)) (decide_eq_true c), ih, c]
      · rw [List.filter_cons_of_neg (p := fun p : Pc => decide (p.1 = name) && !p.2.isEmpty) c2, List.filter_cons_of_neg (p := fun s : Str × Pc => decide (s.2.1 = name) && !s.2.2.isEmpty) c2, ih]
    · rw [List.filter_cons_of_neg (p := fun s : Str × Pc => decide (s.1 = p)) (fun z => c (of_decide_eq_true z))]
      by_cases c2 : (decide (s.2.1 = name) && !s.2.2.isEmpty) = true
      · rw [List.filter_cons_of_pos (p := fun s : Str × Pc => decide (s.2.1 = name) && !s.2.2.isEmpty) c2, List.map_cons, List.filter_cons_of_neg (p := fun q : Pc => decide (q.1 = p)) (fun z => c (of_decide_eq_true z)), ih]
      · rw [List.filter_cons_of_neg (p := fun s : Str × Pc => decide (s.2.1 = name) && !s.2.2.isEmpty) c2, ih]
theorem gath_rows (name : Str) {js : List Str} {S : SP} (ok : SOk js S) : ∀ (base : List (Str × Addr)) (acc : List Pc), gathA name acc (rowsOf base S) = .ok (acc ++ base.flatMap fun b => (gS name S).filter fun q => decide (q.1 = b.1))
  | [], acc => by rw [List.flatMap_nil, List.append_nil]; rfl
  | b :: base, acc => by
    have r := run_tags (segP S b.1) [] 0 (fun p hp n hn => by
      obtain ⟨s, hs, rfl, _⟩ := seg_mem hp
      have := ok.nn s hs n hn
      omega)
    show (match runP [] (tagsOf (segP S b.1)) 0 with | .ok L => gathA name (acc ++ pickP name b.1 L) (rowsOf base S) | .error i => .error i) = _
    rw [r]
    show gathA name (acc ++ pickP name b.1 (segP S b.1)) (rowsOf base S) = _
    rw [gath_rows name ok base, pick_seg, List.flatMap_cons, List.append_assoc]
theorem part_perm {α : Type} (f : α → Str) : ∀ (ks : List Str) (X : List α), ks.Nodup → (∀ x ∈ X, f x ∈ ks) → (ks.flatMap fun k => X.filter fun x => decide (f x = k)).Perm X
  | [], X, _, h => by
    cases X with
    | nil => exact .refl _
    | cons x X => exact absurd (h x (.head _)) List.not_mem_nil
  | k :: ks, X, nd, h => by
    rw [List.flatMap_cons]
    have nd' := List.nodup_cons.mp nd
    have e : (ks.flatMap fun k => X.filter fun x => decide (f x = k)) = ks.flatMap fun k' => (X.filter fun x => !decide (f x = k)).filter fun x => decide (f x = k') := by
      rw [List.flatMap_def, List.flatMap_def]
      congr 1
      refine List.map_congr_left fun k' hk' => ?_
      rw [List.filter_filter]
      refine List.filter_congr fun x _ => ?_
      by_cases c : f x = k'
      · have : f x ≠ k := fun z => nd'.1 (by rw [← z, c]; exact hk')
        rw [decide_eq_true c, decide_eq_false this]; rfl
      · rw [decide_eq_false c]; rfl
    rw [e]
    refine List.Perm.trans (List.Perm.append_left _ (part_perm f ks (X.filter fun x => !decide (f x = k)) nd'.2 (fun x hx => ?_))) ?_
    · obtain ⟨h1, h2⟩ := List.mem_filter.mp hx
      rcases List.mem_cons.mp (h x h1) with z | z
      · rw [decide_eq_true z] at h2; cases h2
      · exact z
    · exact List.filter_append_perm _ _
theorem gath_perm (name : Str) {js : List Str} {S : SP} (ok : SOk js S) {base : List (Str × Addr)} (nd : (base.map (·.1)).Nodup) (hs : ∀ s ∈ S, s.1 ∈ base.map (·.1)) : ∃ M, gathA name [] (rowsOf base S) = .ok M ∧ List.Perm M (gS name S) := by
  refine ⟨_, gath_rows name ok base [], ?_⟩
  rw [List.nil_append]
  have := part_perm (fun q : Pc => q.1) (base.map (·.1)) (gS name S) nd (fun x hx => by
    unfold gS at hx
    obtain ⟨s, h1, rfl⟩ := List.mem_map.mp hx
    exact hs s (List.mem_filter.mp h1).1)
  rw [List.flatMap_map] at this
  exact this
theorem gath_none {name : Str} {js : List Str} {S : SP} (ok : SOk js S) (hn : name ∉ js) (base : List (Str × Addr)) : gathA name [] (rowsOf base S) = .ok [] := by
  have e : gS name S = [] := by
    unfold gS
    rw [List.map_eq_nil_iff, List.filter_eq_nil_iff]
    intro s hs z
    rw [Bool.and_eq_true] at z
    exact hn (by rw [← of_decide_eq_true z.1]; exact ok.ow s hs)
  rw [gath_rows name ok, e]
  simp
theorem gS_add (name : Str) (S : SP) (s : Str × Pc) : gS name (S ++ [s]) = gS name S ++ if s.2.1 = name ∧ s.2.2 ≠ [] then [(s.1, s.2.2)] else [] := by
  unfold gS
  rw [List.filter_append, List.map_append]
  congr 1
  by_cases c : s.2.1 = name ∧ s.2.2 ≠ []
  · have : (decide (s.2.1 = name) && !s.2.2.isEmpty) = true := by
      rw [decide_eq_true c.1]
      cases e : s.2.2 with
      | nil => exact absurd e c.2
      | cons a b => rfl
    rw [if_pos c, List.filter_cons_of_pos (p := fun s : Str × Pc => decide (s.2.1 = name) && !s.2.2.isEmpty) this]
    rfl
  · have : ¬ (decide (s.2.1 = name) && !s.2.2.isEmpty) = true := fun z => c (by
      rw [Bool.and_eq_true] at z
      refine ⟨of_decide_eq_true z.1, fun e => ?_⟩
      rw [e] at z
      cases z.2)
    rw [if_neg c, List.filter_cons_of_neg (p := fun s : Str × Pc => decide (s.2.1 = name) && !s.2.2.isEmpty) this]
    rfl
structure HB (H0 H : Hp) (d : Addr) (rows : List HRow) : Prop where
  n0 : H0 d = none
  o : H d = some (.dK (hrD rows))
  t : ∀ r ∈ rows, TagsAt H r.2.1 r.2.2
  nw : ∀ r ∈ rows, H0 r.2.1 = none
  nd : (rows.map (·.2.1)).Nodup
  nk : (rows.map (·.1)).Nodup
theorem HB.same {H0 H H' : Hp} {d : Addr} {rows : List HRow} (h : HB H0 H d rows) (s : Same H H') : HB H0 H' d rows := ⟨h.n0, s _ _ h.o, fun r hr => (h.t r hr).same s, h.nw, h.nd, h.nk⟩
theorem val_rows : ∀ {rows : List HRow}, (rows.map (·.1)).Nodup → ∀ r ∈ rows, valV (hrD rows) (Sum.inr r.1 : Key) = some (.ref r.2.1)
  | x :: rows, nd, r, hr => by
    rw [List.map_cons, List.nodup_cons] at nd
    show valV ((Sum.inr x.1, V.ref x.2.1) :: hrD rows) _ = _
    rcases List.mem_cons.mp hr with rfl | hr
    · exact valV_pos (p := ((Sum.inr r.1 : Key), V.ref r.2.1)) rfl
    · rw [valV_neg (p := ((Sum.inr x.1 : Key), V.ref x.2.1)) (fun z => nd.1 (by rw [Sum.inr.inj z]; exact List.mem_map.mpr ⟨r, hr, rfl⟩))]
      exact val_rows nd.2 r hr
theorem HB.get {H0 H : Hp} {d : Addr} {rows : List HRow} (h : HB H0 H d rows) {r : HRow} (hr : r ∈ rows) : DGet H d (.str r.1) (some (.ref r.2.1)) := by
  have := DGet.k (k := (Sum.inr r.1 : Key)) h.o
  rw [val_rows h.nk r hr] at this
  exact this
theorem appR_fst (rows : List HRow) (nm : Str) (g : List Tag) : (appR rows nm g).map (·.1) = rows.map (·.1) := by
  unfold appR
  rw [List.map_map]
  refine List.map_congr_left fun x _ => ?_
  show (if x.1 = nm then (x.1, x.2.1, x.2.2 ++ g) else x).1 = _
  split <;> rfl
theorem appR_ad (rows : List HRow) (nm : Str) (g : List Tag) : (appR rows nm g).map (·.2.1) = rows.map (·.2.1) := by
  unfold appR
  rw [List.map_map]
  refine List.map_congr_left fun x _ => ?_
  show (if x.1 = nm then (x.1, x.2.1, x.2.2 ++ g) else x).2.1 = _
  split <;> rfl
theorem appR_hrD (rows : List HRow) (nm : Str) (g : List Tag) : hrD (appR rows nm g) = hrD rows := by
  unfold appR hrD
  rw [List.map_map]
  refine List.map_congr_left fun x _ => ?_
  show ((Sum.inr (if x.1 = nm then (x.1, x.2.1, x.2.2 ++ g) else x).1 : Key), V.ref (if x.1 = nm then (x.1, x.2.1, x.2.2 ++ g) else x).2.1) = _
  split <;> rfl
theorem HB.app {H0 H : Hp} {d : Addr} {rows : List HRow} (h : HB H0 H d rows) {r : HRow} (hr : r ∈ rows) {vs : List V} (hv : H r.2.1 = some (.lst vs)) (zs : List (Addr × Tag)) (hz : ∀ z ∈ zs, H z.1 = some (.tup [.str z.2.1, .int z.2.2])) :
    HB H0 (upd H r.2.1 (.lst (vs ++ zs.map fun z => V.ref z.1))) d (appR rows r.1 (zs.map (·.2))) ∧ (r.1, r.2.1, r.2.2 ++ zs.map (·.2)) ∈ appR rows r.1 (zs.map (·.2)) := by
  have tup : ∀ {b : Addr} {ys : List V}, H b = some (.tup ys) → upd H r.2.1 (.lst (vs ++ zs.map fun z => V.ref z.1)) b = some (.tup ys) := fun e => by rw [upd_ne (ne_of e hv (by intro z; cases z))]; exact e
  refine ⟨⟨h.n0, by rw [appR_hrD, upd_ne (ne_of h.o hv (by intro z; cases z))]; exact h.o, fun x hx => ?_, fun x hx => ?_, by rw [appR_ad]; exact h.nd, by rw [appR_fst]; exact h.nk⟩, ?_⟩
  · obtain ⟨y, hy, rfl⟩ := List.mem_map.mp hx
    by_cases c : y.1 = r.1
    · have e : y = r := by
        obtain ⟨i, hi, ei⟩ := List.mem_iff_getElem.mp hy
        obtain ⟨j, hj, ej⟩ := List.mem_iff_getElem.mp hr
        have a1 : (rows.map (·.1))[i]'(by rw [List.length_map]; exact hi) = y.1 := by rw [List.getElem_map, ei]
        have a2 : (rows.map (·.1))[j]'(by rw [List.length_map]; exact hj) = r.1 := by rw [List.getElem_map, ej]
        have := (List.getElem_inj h.nk).mp ((a1.trans c).trans a2.symm)
        subst this
        rw [← ei, ← ej]
      subst e
      rw [if_pos rfl]
      obtain ⟨ts, e, e1, g⟩ := h.t y hr
      rw [hv] at e1
      injection e1 with e1
      injection e1 with e1
      refine ⟨ts ++ zs, by show y.2.2 ++ _ = _; rw [e, List.map_append], by show upd H y.2.1 _ y.2.1 = _; rw [upd_same, e1, List.map_append], fun x hx => ?_⟩
      rcases List.mem_append.mp hx with hx | hx
      · exact tup (g x hx)
      · exact tup (hz x hx)
    · rw [if_neg c]
      obtain ⟨ts, e, e1, g⟩ := h.t y hy
      refine ⟨ts, e, ?_, fun x hx => tup (g x hx)⟩
      rw [upd_ne ?_]
      · exact e1
      · intro z
        obtain ⟨i, hi, ei⟩ := List.mem_iff_getElem.mp hy
        obtain ⟨j, hj, ej⟩ := List.mem_iff_getElem.mp hr
        have a1 : (rows.map (·.2.1))[i]'(by rw [List.length_map]; exact hi) = y.2.1 := by rw [List.getElem_map, ei]
        have a2 : (rows.map (·.2.1))[j]'(by rw [List.length_map]; exact hj) = r.2.1 := by rw [List.getElem_map, ej]
        have := (List.getElem_inj h.nd).mp ((a1.trans z).trans a2.symm)
        subst this
        rw [ei] at ej
        exact c (by rw [ej])
  · obtain ⟨y, hy, rfl⟩ := List.mem_map.mp hx
    have : (if y.1 = r.1 then (y.1, y.2.1, y.2.2 ++ zs.map (·.2)) else y).2.1 = y.2.1 := by split <;> rfl
    rw [this]
    exact h.nw y hy
  · exact List.mem_map.mpr ⟨r, hr, if_pos rfl⟩
end
end My
namespace My
open PySem L2
open Blk (sg sg_inj sg_app)
section
variable {P : Program} {w : World} {K : PySem.W.Frag} {mg : Str → Option Value} {base : Heap}
theorem seq_cut {a rest : TS} {D : Ends} {σ : St} {H : Hp} (P : St → Hp → Prop) (h1 : ∀ R : St → Hp → Prop, (∀ σ H, P σ H → R σ H) → a { D with nx := R } σ H) (h2 : ∀ σ H, P σ H → rest D σ H) : tSeq a rest D σ H := h1 _ h2
theorem zs_of {H : Hp} : ∀ (ts : List Tag) (ys : List V), ys.length = ts.length → (∀ (i : Nat) t y, ts[i]? = some t → ys[i]? = some y → ∃ b, y = .ref b ∧ H b = some (.tup [.str t.1, .int t.2])) → ∃ zs : List (Addr × Tag), ys = zs.map (fun z => V.ref z.1) ∧ zs.map (·.2) = ts ∧ ∀ z ∈ zs, H z.1 = some (.tup [.str z.2.1, .int z.2.2])
  | [], [], _, _ => ⟨[], rfl, rfl, fun z hz => absurd hz List.not_mem_nil⟩
  | t :: ts, y :: ys, h, g => by
    obtain ⟨zs, e1, e2, e3⟩ := zs_of ts ys (Nat.succ.inj h) fun i t y a b => g (i + 1) t y a b
    obtain ⟨b, rfl, hb⟩ := g 0 t y rfl rfl
    refine ⟨(b, t) :: zs, by rw [List.map_cons, e1], by rw [List.map_cons, e2], fun z hz => ?_⟩
    rcases List.mem_cons.mp hz with rfl | hz
    · exact hb
    · exact e3 z hz
theorem rows_of {H : Hp} : ∀ (es : List (Addr × Pc)) (ys : List V), ys.length = es.length → (∀ (i : Nat) e y, es[i]? = some e → ys[i]? = some y → ∃ b, y = .ref b ∧ H b = some (.tup [.str e.2.1, .ref e.1])) → ∃ rows : List (Addr × Addr × Pc), ys = rows.map (fun r => V.ref r.1) ∧ rows.map (·.2) = es ∧ ∀ r ∈ rows, H r.1 = some (.tup [.str r.2.2.1, .ref r.2.1])
  | [], [], _, _ => ⟨[], rfl, rfl, fun z hz => absurd hz List.not_mem_nil⟩
  | e :: es, y :: ys, h, g => by
    obtain ⟨zs, e1, e2, e3⟩ := rows_of es ys (Nat.succ.inj h) fun i t y a b => g (i + 1) t y a b
    obtain ⟨b, rfl, hb⟩ := g 0 e y rfl rfl
    refine ⟨(b, e) :: zs, by rw [List.map_cons, e1], by rw [List.map_cons, e2], fun z hz => ?_⟩
    rcases List.mem_cons.mp hz with rfl | hz
    · exact hb
    · exact e3 z hz
theorem sizeLine_big : sizeLine = 16777216 := by decide
def sumR (rows : List HRow) : Nat := (rows.map fun r => r.2.2.length).sum
theorem sum_mem : ∀ {rows : List HRow} {r : HRow}, r ∈ rows → r.2.2.length ≤ sumR rows
  | x :: rows, r, h => by
    unfold sumR
    rw [List.map_cons, List.sum_cons]
    rcases List.mem_cons.mp h with rfl | h
    · omega
    · have := sum_mem h
      unfold sumR at this
      omega
theorem appR_off {nm : Str} {g : List Tag} : ∀ {rows : List HRow}, nm ∉ rows.map (·.1) → appR rows nm g = rows
  | [], _ => rfl
  | x :: rows, h => by
    rw [List.map_cons, List.mem_cons] at h
    show (if x.1 = nm then _ else x) :: appR rows nm g = _
    rw [if_neg (fun z => h (.inl z.symm)), appR_off (fun z => h (.inr z))]
theorem appR_sum {nm : Str} {g : List Tag} : ∀ {rows : List HRow}, (rows.map (·.1)).Nodup → sumR (appR rows nm g) ≤ sumR rows + g.length
  | [], _ => Nat.zero_le _
  | x :: rows, nd => by
    rw [List.map_cons, List.nodup_cons] at nd
    show sumR ((if x.1 = nm then (x.1, x.2.1, x.2.2 ++ g) else x) :: appR rows nm g) ≤ _
    have ih := appR_sum (nm := nm) (g := g) nd.2
    by_cases c : x.1 = nm
    · rw [if_pos c, appR_off (by rw [← c]; exact nd.1)]
      unfold sumR
      rw [List.map_cons, List.sum_cons, List.map_cons, List.sum_cons]
      show (x.2.2 ++ g).length + _ ≤ _
      rw [List.length_append]
      omega
    · rw [if_neg c]
      unfold sumR at ih ⊢
      rw [List.map_cons, List.sum_cons, List.map_cons, List.sum_cons]
      omega
theorem mem_rows {base : List (Str × Addr)} {S : SP} {nm : Str} (h : nm ∈ base.map (·.1)) : ∃ b, (nm, b, tagsOf (segP S nm)) ∈ rowsOf base S := by
  obtain ⟨x, hx, rfl⟩ := List.mem_map.mp h
  exact ⟨x.2, List.mem_map.mpr ⟨x, hx, rfl⟩⟩
theorem rows_fst (base : List (Str × Addr)) (S : SP) : (rowsOf base S).map (·.1) = base.map (·.1) := by
  unfold rowsOf
  rw [List.map_map]
  rfl
structure HW (H G : Hp) (d due : Addr) (rows : List HRow) (ds : List (Addr × Addr × Pc)) : Prop where
  s : Same H G
  b : HB H G d rows
  n : H due = none
  e : ∀ r ∈ rows, r.2.1 ≠ due
  l : G due = some (.lst (ds.map fun q => V.ref q.1))
  g : ∀ q ∈ ds, G q.1 = some (.tup [.int (hdN q.2.2), .str q.2.2.1, .ref q.2.1])
theorem HW.same {H G G' : Hp} {d due : Addr} {rows : List HRow} {ds : List (Addr × Addr × Pc)} (h : HW H G d due rows ds) (s : Same G G') : HW H G' d due rows ds := ⟨h.s.trans s, h.b.same s, h.n, h.e, s _ _ h.l, fun q hq => s _ _ (h.g q hq)⟩
theorem HW.app {H G : Hp} {d due : Addr} {rows : List HRow} {ds : List (Addr × Addr × Pc)} (h : HW H G d due rows ds) {r : HRow} (hr : r ∈ rows) {vs : List V} (hv : G r.2.1 = some (.lst vs)) (zs : List (Addr × Tag)) (hz : ∀ z ∈ zs, G z.1 = some (.tup [.str z.2.1, .int z.2.2])) :
    HW H (upd G r.2.1 (.lst (vs ++ zs.map fun z => V.ref z.1))) d due (appR rows r.1 (zs.map (·.2))) ds ∧ (r.1, r.2.1, r.2.2 ++ zs.map (·.2)) ∈ appR rows r.1 (zs.map (·.2)) := by
  obtain ⟨h1, h2⟩ := h.b.app hr hv zs hz
  refine ⟨⟨same_on (h.b.nw r hr) h.s _, h1, h.n, fun x hx => ?_, by rw [upd_ne (Ne.symm (h.e r hr))]; exact h.l, fun q hq => by rw [upd_ne (ne_of (h.g q hq) hv (by intro z; cases z))]; exact h.g q hq⟩, h2⟩
  obtain ⟨y, hy, rfl⟩ := List.mem_map.mp hx
  have : (if y.1 = r.1 then (y.1, y.2.1, y.2.2 ++ zs.map (·.2)) else y).2.1 = y.2.1 := by split <;> rfl
  rw [this]
  exact h.e y hy
theorem HW.at {H G : Hp} {d due : Addr} {rows : List HRow} {ds : List (Addr × Addr × Pc)} (h : HW H G d due rows ds) {r : HRow} (hr : r ∈ rows) : ∃ vs, G r.2.1 = some (.lst vs) ∧ vs.length = r.2.2.length := by
  obtain ⟨ts, e, e1, _⟩ := h.b.t r hr
  exact ⟨_, e1, by rw [List.length_map, e, List.length_map]⟩
theorem HW.due {H G : Hp} {d due : Addr} {rows : List HRow} {ds : List (Addr × Addr × Pc)} (h : HW H G d due rows ds) {q : Addr × Addr × Pc} (hq : G q.1 = some (.tup [.int (hdN q.2.2), .str q.2.2.1, .ref q.2.1])) : HW H (upd G due (.lst ((ds.map fun q => V.ref q.1) ++ [V.ref q.1]))) d due rows (ds ++ [q]) := by
  have tup : ∀ {b : Addr} {ys : List V}, G b = some (.tup ys) → upd G due (.lst ((ds.map fun q => V.ref q.1) ++ [V.ref q.1])) b = some (.tup ys) := fun e => by rw [upd_ne (ne_of e h.l (by intro z; cases z))]; exact e
  refine ⟨same_on h.n h.s _, ⟨h.b.n0, by rw [upd_ne (ne_of h.b.o h.l (by intro z; cases z))]; exact h.b.o, fun r hr => ?_, h.b.nw, h.b.nd, h.b.nk⟩, h.n, h.e, by rw [upd_same, List.map_append]; rfl, fun x hx => ?_⟩
  · obtain ⟨ts, e, e1, g⟩ := h.b.t r hr
    exact ⟨ts, e, by rw [upd_ne (h.e r hr)]; exact e1, fun x hx => tup (g x hx)⟩
  · rcases List.mem_append.mp hx with hx | hx
    · exact tup (h.g x hx)
    · rw [List.mem_singleton.mp hx]; exact tup hq
def DueAt (H : Hp) (a : Addr) (L : List Pc) : Prop := ∃ rows : List (Addr × Addr × Pc), L = rows.map (·.2.2) ∧ H a = some (.lst (rows.map fun r => V.ref r.1)) ∧ ∀ r ∈ rows, H r.1 = some (.tup [.str r.2.2.1, .ref r.2.1]) ∧ H r.2.1 = some (.lst (r.2.2.2.map V.int))
def sp__law_heaps (K : PySem.W.Frag) : Sp := fun vs H Q _ => ∃ (a l jb pb : Addr) (ns : List Int) (R : List (List Int)) (j0 j1 j2 : Str) (prs : List Str), vs = [.ref a, .ref l, .ref jb, .ref pb] ∧ SqL K H a (ns.map V.int) ∧ RunsAt H l R ∧ H jb = some (.lst [.str j0, .str j1, .str j2]) ∧ H pb = some (.lst (prs.map V.str)) ∧ prs.Nodup ∧ 1 ≤ prs.length ∧ prs.length ≤ 5 ∧
  (∀ r ∈ R, r ≠ []) ∧ (∀ r ∈ R, ∀ n ∈ r, 0 ≤ n) ∧ R.length ≤ 40 ∧ R.flatten.length ≤ 40 ∧ (R.map fun r => r.headD 0).Nodup ∧ j1 ≠ j0 ∧ j2 ≠ j0 ∧
  ∀ (t d b : Addr) (H' : Hp) (base : List (Str × Addr)) (S : SP) (L : List Pc), Same H H' → H' t = some (.tup [.ref d, .ref b]) → HB H H' d (rowsOf base S) → base.map (·.1) = prs → SOk [j0, j1, j2] S → (∀ s ∈ S, s.1 ∈ prs) → sumR (rowsOf base S) ≤ 280 → List.Perm L (gS j0 S) → L.Pairwise (fun a b => hdN a < hdN b) → (gS j0 S).map (·.2) = R → DueAt H' b L → Q (.ref t) H'
theorem sc__law_heaps : FnScope ["_law_script", "_law_runs_here", "_law_jobs", "_law_printers", "_law_heaps_here", "_law_printer", "_law_due", "_law_k", "_law_cell", "_law_other"] ["_law_script", "_law_runs_here", "_law_jobs", "_law_printers"] (defScope s__law_heaps) := ⟨rfl, rfl, rfl, by decide +kernel, rfl, by decide +kernel, by decide +kernel⟩
theorem ok__law_heaps {fa cNoHeap cHallError tP_gathered : Addr} {fd : FuncData} (F : Fun K "_law_heaps" "_law_heaps" s__law_heaps fa fd) (T : Txt K mg cNoHeap cHallError tP_gathered) (D__law_cell_at : Dfn P w K mg base 1 "_law_cell_at" ["_law_script", "_law_k"] (sp__law_cell_at K)) (D__law_mix : Dfn P w K mg base 1 "_law_mix" ["_law_cell", "_law_k", "_law_many"] (sp__law_mix K)) :
    FnOk P w K mg base CX0 2 fa fd ["_law_script", "_law_runs_here", "_law_jobs", "_law_printers"] (sp__law_heaps K) := by
  refine F.ok sc__law_heaps (fun vs H Q E h => ?_) (fun cdv A outer s H vs Q E hr h => ?_)
  · obtain ⟨a, l, jb, pb, ns, R, j0, j1, j2, prs, rfl, _⟩ := h
    rfl
  obtain ⟨a, l, jb, pb, ns, R, j0, j1, j2, prs, rfl, hS, ⟨rs, eR, hl, gr⟩, hj, hpb, ndp, p1, p5, ne, nn, l4, f4, hdn, j10, j20, q⟩ := h
  have hu := hu_n hr 0 (by decide)
  have z2 : 2 ≤ sizeLine := small (by decide)
  have z3 : 3 ≤ sizeLine := small (by decide)
  refine ⟨_, (pss_cons (ps_set (i := 4) sc__law_heaps.nd rfl (by first | exact Or.inl rfl | exact Or.inr rfl) pe_dnewK)
  (pss_cons (ps_for PassesOwn.never rfl (pi_list (pv 3)) (pg_name (i := 5) sc__law_heaps.nd rfl (by first | exact Or.inl rfl | exact Or.inr rfl))
  (pss_one (ps_dput hu (pv 4) (pv 5) (pe_lst pa_nil) rfl)))
  (pss_cons (ps_set (i := 6) sc__law_heaps.nd rfl (by first | exact Or.inl rfl | exact Or.inr rfl) (pe_lst pa_nil))
  (pss_cons (ps_for PassesOwn.never rfl (pi_range1 rfl T.range (pa_cons (pe_callB call_len_seq rfl T.len PySem.boot_len (pa_cons (pv 1) pa_nil)) pa_nil)) (pg_name (i := 7) sc__law_heaps.nd rfl (by first | exact Or.inl rfl | exact Or.inr rfl))
  (pss_cons (ps_set (i := 8) sc__law_heaps.nd rfl (by first | exact Or.inl rfl | exact Or.inr rfl) (pe_callD D__law_cell_at (hr.mono (by decide)) rfl (pa_cons (pv 0) (pa_cons (pe_op op_add pe_int (pv 7)) pa_nil))))
  (pss_cons (ps_set (i := 5) sc__law_heaps.nd rfl (by first | exact Or.inl rfl | exact Or.inr rfl) (pe_ix ix_listA (pv 3) (pe_callD D__law_mix (hr.mono (by decide)) rfl (pa_cons (pv 8) (pa_cons (pv 7) (pa_cons (pe_callB call_len_seq rfl T.len PySem.boot_len (pa_cons (pv 3) pa_nil)) pa_nil)))) (fun _ _ => rfl)))
  (pss_cons (ps_if (pt_cmpR op_eq (pe_callD D__law_mix (hr.mono (by decide)) rfl (pa_cons (pv 8) (pa_cons (pe_op op_add (pv 7) pe_int) (pa_cons pe_int pa_nil)))) pe_int (nomark _)) (pss_cons (ps_set (i := 9) sc__law_heaps.nd rfl (by first | exact Or.inl rfl | exact Or.inr rfl) (pe_ix ix_listA (pv 2) (pe_op op_add pe_int (pe_callD D__law_mix (hr.mono (by decide)) rfl (pa_cons (pv 8) (pa_cons (pe_op op_add (pv 7) pe_int) (pa_cons pe_int pa_nil))))) (fun _ _ => rfl)))
  (pss_cons (ps_expr (pe_bm PySem.F.plainAttrs_list PySem.F.slot_list_append PySem.F.type_list_append mt_append (pe_dget hu (pv 4) (pv 5) (fun _ _ => rfl)) (pa_cons (pe_tup (pa_cons (pv 9) (pa_cons (pe_un un_neg pe_int) pa_nil))) pa_nil)))
  (pss_one (ps_expr (pe_bm PySem.F.plainAttrs_list PySem.F.slot_list_extend PySem.F.type_list_extend mt_extend (pe_dget hu (pv 4) (pv 5) (fun _ _ => rfl)) (pa_cons (pe_comp (frees := [("_law_other", 9), ("_law_k", 7)]) ⟨by decide +kernel, rfl, rfl, by decide +kernel, ⟨⟨rfl, rfl, rfl, by decide +kernel⟩, ⟨⟨rfl, rfl, rfl, by decide +kernel⟩, trivial⟩⟩, by decide +kernel, cellsFor_at rfl, rfl⟩ rfl (pi_range1 rfl T.range (pa_cons (pe_callD D__law_mix (hr.mono (by decide)) rfl (pa_cons (pv 8) (pa_cons (pe_op op_add (pv 7) pe_int) (pa_cons pe_int pa_nil)))) pa_nil)) (fun _ _ _ _ => pifs_nil) (fun _ _ _ _ => by exact (pe_tup (pa_cons (pv 1) (pa_cons (pe_op op_add (pe_op op_mul pe_int (pv 2)) (pv 0)) pa_nil))))) pa_nil)))))) pss_nil)
  (pss_cons (ps_if (pt_cmpR op_eq (pe_callD D__law_mix (hr.mono (by decide)) rfl (pa_cons (pv 8) (pa_cons (pe_op op_add (pv 7) pe_int) (pa_cons pe_int pa_nil)))) pe_int (nomark _)) (pss_one (ps_expr (pe_bm PySem.F.plainAttrs_list PySem.F.slot_list_append PySem.F.type_list_append mt_append (pe_dget hu (pv 4) (pv 5) (fun _ _ => rfl)) (pa_cons (pe_tup (pa_cons (pe_ix ix_list (pv 2) pe_int (fun _ _ => rfl)) (pa_cons (pe_un un_neg pe_int) pa_nil))) pa_nil)))) pss_nil)
  (pss_cons (ps_expr (pe_bm PySem.F.plainAttrs_list PySem.F.slot_list_append PySem.F.type_list_append mt_append (pe_dget hu (pv 4) (pv 5) (fun _ _ => rfl)) (pa_cons (pe_tup (pa_cons (pe_ix ix_list (pv 2) pe_int (fun _ _ => rfl)) (pa_cons (pe_un un_neg pe_int) pa_nil))) pa_nil)))
  (pss_cons (ps_expr (pe_bm PySem.F.plainAttrs_list PySem.F.slot_list_extend PySem.F.type_list_extend mt_extend (pe_dget hu (pv 4) (pv 5) (fun _ _ => rfl)) (pa_cons (pe_comp (frees := [("_law_jobs", 2)]) ⟨by decide +kernel, rfl, rfl, by decide +kernel, ⟨⟨rfl, rfl, rfl, by decide +kernel⟩, trivial⟩, by decide +kernel, cellsFor_at rfl, rfl⟩ rfl (pi_list (pe_ix ix_listA (pv 1) (pv 7) (fun _ _ => rfl))) (fun _ _ _ _ => pifs_nil) (fun _ _ _ _ => by exact (pe_tup (pa_cons (pe_ixK (K := K) (r := rIxL) rfl ix_list (pv 1) pe_int (fun _ _ => rfl)) (pa_cons (pv 0) pa_nil))))) pa_nil)))
  (pss_one (ps_expr (pe_bm PySem.F.plainAttrs_list PySem.F.slot_list_append PySem.F.type_list_append mt_append (pv 6) (pa_cons (pe_tup (pa_cons (pe_ix ix_list (pe_ix ix_listA (pv 1) (pv 7) (fun _ _ => rfl)) pe_int (fun _ _ => rfl)) (pa_cons (pv 5) (pa_cons (pe_ix ix_listA (pv 1) (pv 7) (fun _ _ => rfl)) pa_nil)))) pa_nil)))))))))))
  (pss_one (ps_ret (pe_tup (pa_cons (pv 4) (pa_cons (pe_comp (frees := []) ⟨by decide +kernel, rfl, rfl, by decide +kernel, trivial, by decide +kernel, cellsFor_at rfl, rfl⟩ rfl (pi_list (pe_callB call_sorted_t rfl T.sorted bt_sorted (pa_cons (pv 6) pa_nil))) (fun _ _ _ _ => pifs_nil) (fun _ _ _ _ => by exact (pe_tup (pa_cons (pe_ixK (K := K) (r := rIxT) rfl ix_tup (pv 0) pe_int (fun _ _ => rfl)) (pa_cons (pe_ixK (K := K) (r := rIxT) rfl ix_tup (pv 0) pe_int (fun _ _ => rfl)) pa_nil))))) pa_nil))))))))), ?_⟩
  refine fun d nd => ?_
  have s1 := same_new nd (.dK [])
  have hd1 : upd H d (.dK []) d = some (.dK []) := upd_same
  dsimp only [gName]
  generalize upd H d (.dK []) = H1 at s1 hd1 ⊢
  refine ⟨_, rfl, pb, rfl, ⟨_, SqL.of (s1 _ _ hpb)⟩, for_list (K := K) (a := pb) (xs := prs.map V.str) (fun i σ G => ∃ (v5 : Option V) (base : List (Str × Addr)), σ = [some (.ref a), some (.ref l), some (.ref jb), some (.ref pb), some (.ref d), v5, none, none, none, none] ∧ Same H G ∧ HB H G d (rowsOf base []) ∧ base.map (·.1) = prs.take i) ⟨_, [], rfl, s1, ⟨nd, hd1, fun r hr => absurd hr List.not_mem_nil, fun r hr => absurd hr List.not_mem_nil, List.nodup_nil, List.nodup_nil⟩, rfl⟩ (fun i σ G _ z => ?_) (fun i x σ G hx z => ?_) (fun σ G z => ?_)⟩
  · obtain ⟨_, _, _, sG, _⟩ := z
    exact SqL.of (sG _ _ hpb)
  · obtain ⟨v5, base, rfl, sG, hb, eb⟩ := z
    rw [List.getElem?_map] at hx
    obtain ⟨p, ep, rfl⟩ := Option.map_eq_some_iff.mp hx
    have hi : i < prs.length := (List.getElem?_eq_some_iff.mp ep).1
    have npb : p ∉ base.map (·.1) := by
      rw [eb]
      intro m
      obtain ⟨j, hj', ej⟩ := List.mem_iff_getElem.mp m
      rw [List.length_take] at hj'
      rw [List.getElem_take] at ej
      have := (List.getElem_inj ndp).mp (ej.trans (List.getElem?_eq_some_iff.mp ep).2.symm)
      omega
    refine ⟨Nat.zero_le _, fun lp nlp => ?_⟩
    have s2 := same_new nlp (.lst [])
    have hlp : upd G lp (.lst []) lp = some (.lst []) := upd_same
    generalize upd G lp (.lst []) = G2 at s2 hlp ⊢
    have hb2 := hb.same s2
    have lb : base.length ≤ 5 := by
      have := congrArg List.length eb
      rw [List.length_map, List.length_take] at this
      omega
    have vn : valV (hrD (rowsOf base [])) (Sum.inr p : Key) = none := by
      cases e : valV (hrD (rowsOf base [])) (Sum.inr p : Key) with
      | none => rfl
      | some v =>
        unfold valV at e
        obtain ⟨kv, e1, _⟩ := Option.map_eq_some_iff.mp e
        have m := List.mem_of_find?_eq_some e1
        have k := List.find?_some e1
        unfold hrD at m
        obtain ⟨r, hr', rfl⟩ := List.mem_map.mp m
        have : r.1 = p := Sum.inr.inj (of_decide_eq_true k)
        exact absurd (by rw [← rows_fst base [], ← this]; exact List.mem_map.mpr ⟨r, hr', rfl⟩) npb
    refine ⟨_, rfl, _, rfl, d, _, rfl, DPut.k (k := Sum.inr p) hb2.o (small1000 (by unfold hrD rowsOf; rw [List.length_map, List.length_map]; omega)), ?_⟩
    rw [putK_new _ vn]
    have dlp : d ≠ lp := ne_of_none hb.o nlp
    refine ⟨_, base ++ [(p, lp)], rfl, same_on nd (sG.trans s2) _, ?_, ?_⟩
    · have er : rowsOf (base ++ [(p, lp)]) [] = rowsOf base [] ++ [(p, lp, [])] := by
        unfold rowsOf
        rw [List.map_append]
        rfl
      rw [er]
      have nlb : ∀ r ∈ rowsOf base [], r.2.1 ≠ lp := fun r hr' z => by
        obtain ⟨ts, _, e1, _⟩ := hb.t r hr'
        rw [z, nlp] at e1
        cases e1
      refine ⟨nd, ?_, fun r hr' => ?_, fun r hr' => ?_, ?_, ?_⟩
      · rw [upd_same]
        unfold hrD
        rw [List.map_append]
        rfl
      · rcases List.mem_append.mp hr' with hr' | hr'
        · obtain ⟨ts, e, e1, g⟩ := hb2.t r hr'
          exact ⟨ts, e, by rw [upd_ne (ne_of e1 hb2.o (by intro z; cases z))]; exact e1, fun x hx => by rw [upd_ne (ne_of (g x hx) hb2.o (by intro z; cases z))]; exact g x hx⟩
        · rw [List.mem_singleton.mp hr']
          exact ⟨[], rfl, by show upd G2 d _ lp = _; rw [upd_ne (Ne.symm dlp)]; exact hlp, fun x hx => absurd hx List.not_mem_nil⟩
      · rcases List.mem_append.mp hr' with hr' | hr'
        · exact hb.nw r hr'
        · rw [List.mem_singleton.mp hr']
          exact sG.free nlp
      · rw [List.map_append, List.nodup_append]
        refine ⟨hb.nd, List.nodup_cons.mpr ⟨List.not_mem_nil, List.nodup_nil⟩, fun x hx y hy z => ?_⟩
        obtain ⟨r, hr', rfl⟩ := List.mem_map.mp hx
        exact nlb r hr' (z.trans (List.mem_singleton.mp hy))
      · rw [List.map_append, List.nodup_append]
        refine ⟨hb.nk, List.nodup_cons.mpr ⟨List.not_mem_nil, List.nodup_nil⟩, fun x hx y hy z => ?_⟩
        rw [rows_fst] at hx
        exact npb (by rw [← show y = p from List.mem_singleton.mp hy, ← z]; exact hx)
    · rw [List.map_append, eb, List.take_add_one, ep]
      rfl
  obtain ⟨v5, base, rfl, sG, hb, eb⟩ := z
  rw [List.length_map, List.take_length] at eb
  refine ⟨Nat.zero_le _, fun due ndue => ?_⟩
  have s2 := same_new ndue (.lst [])
  have hdue : upd G due (.lst []) due = some (.lst []) := upd_same
  dsimp only [gName]
  generalize upd G due (.lst []) = G2 at s2 hdue ⊢
  have w2 : HW H G2 d due (rowsOf base []) [] := ⟨sG.trans s2, hb.same s2, sG.free ndue, fun r hr' z => (by
    obtain ⟨ts, _, e1, _⟩ := hb.t r hr'
    rw [z, ndue] at e1
    cases e1), hdue, fun q hq => absurd hq List.not_mem_nil⟩
  have lrs : R.length = rs.length := by rw [eR, List.length_map]
  have lm : (rs.map fun r => V.ref r.1).length = rs.length := List.length_map _
  refine ⟨_, rfl, l, _, rfl, .inl (SqL.of (w2.s _ _ hl)), _, rfl, by rw [lm]; omega, by rw [lm]; omega, ?_⟩
  rw [lm, show ((rs.length : Int)).toNat = rs.length by omega]
  refine for_range (lo := 0) (n := rs.length) (fun k σ G => ∃ (v5 v7 v8 v9 : Option V) (S : SP) (ds : List (Addr × Addr × Pc)), σ = [some (.ref a), some (.ref l), some (.ref jb), some (.ref pb), some (.ref d), v5, some (.ref due), v7, v8, v9] ∧ HW H G d due (rowsOf base S) ds ∧ SOk [j0, j1, j2] S ∧ (∀ s ∈ S, s.1 ∈ prs) ∧ sumR (rowsOf base S) ≤ 6 * k + ((R.take k).flatten).length ∧ gS j0 S = ds.map (·.2.2) ∧ (∀ q ∈ ds, H q.2.1 = some (.lst (q.2.2.2.map V.int))) ∧ ds.map (·.2.2.2) = R.take k) ⟨_, _, _, _, [], [], rfl, w2, ⟨fun s hs => absurd hs List.not_mem_nil, fun s hs => absurd hs List.not_mem_nil⟩, fun s hs => absurd hs List.not_mem_nil, ?_, rfl, fun q hq => absurd hq List.not_mem_nil, rfl⟩ (fun k σ G hk z => ?_) (fun σ G z => ?_)
  · have all : ∀ b : List (Str × Addr), sumR (rowsOf b []) = 0 := fun b => by
      induction b with
      | nil => rfl
      | cons x b ih =>
        show sumR ((x.1, x.2, []) :: rowsOf b []) = 0
        unfold sumR at ih ⊢
        rw [List.map_cons, List.sum_cons, ih]
        rfl
    rw [all]
    exact Nat.zero_le _
  · obtain ⟨v5, v7, v8, v9, S, ds, rfl, W, ok, sp, sm, eg, gd, ed⟩ := z
    generalize hkz0 : (0 : Int) + (k : Int) = kz
    have hkz : kz = (k : Int) := by omega
    clear hkz0
    have hkR : k < R.length := by omega
    have lfl : ((R.take k).flatten).length + (R[k]).length ≤ 40 := by
      have e : R = R.take k ++ R[k] :: R.drop (k + 1) := by rw [← List.drop_eq_getElem_cons hkR, List.take_append_drop]
      have := congrArg (fun x => x.flatten.length) e
      simp only [List.flatten_append, List.flatten_cons, List.length_append] at this
      omega
    refine ⟨_, rfl, _, rfl, _, _, rfl, rfl, a, _, ns, rfl, W.s.seq hS, by omega, ?_⟩
    dsimp only [gName]
    generalize ns.getD (20 + kz).toNat 0 = ce
    have pl : (prs.map V.str).length = prs.length := List.length_map _
    have m1 := mix_lo (c := ce) (k := kz) (show (0 : Int) < (prs.length : Int) by omega)
    have m2 := mix_hi (c := ce) (k := kz) (show (0 : Int) < (prs.length : Int) by omega)
    refine ⟨_, rfl, _, rfl, _, rfl, _, rfl, pb, _, rfl, .inl (SqL.of (W.s _ _ hpb)), _, _, _, rfl, by omega, by omega, by rw [pl]; omega, fun G1 t1 => ?_⟩
    rw [pl]
    obtain ⟨pi, epi⟩ : ∃ pi : Nat, mixV ce kz (prs.length : Int) = (pi : Int) := ⟨_, (Int.toNat_of_nonneg m1).symm⟩
    rw [epi] at m1 m2 ⊢
    have hpi : pi < prs.length := by omega
    obtain ⟨pr, hpr⟩ : ∃ pr, prs[pi]? = some pr := ⟨_, List.getElem?_eq_getElem hpi⟩
    have prm : pr ∈ prs := List.mem_of_getElem? hpr
    replace W := W.same t1
    clear epi m1 m2
    refine ⟨pb, _, _, rfl, rfl, SqL.of (W.s _ _ hpb), by omega, by rw [pl]; omega, fun vp hvp => ?_⟩
    obtain rfl : V.str pr = vp := by
      rw [show ((pi : Int)).toNat = pi by omega, List.getElem?_map, hpr] at hvp
      exact Option.some.inj hvp
    clear hvp
    dsimp only [gName]
    refine seq_cut (fun σ G' => ∃ (v9 : Option V) (S' : SP), σ = [some (.ref a), some (.ref l), some (.ref jb), some (.ref pb), some (.ref d), some (.str pr), some (.ref due), some (.int kz), some (.int ce), v9] ∧ HW H G' d due (rowsOf base S') ds ∧ SOk [j0, j1, j2] S' ∧ (∀ s ∈ S', s.1 ∈ prs) ∧ sumR (rowsOf base S') ≤ sumR (rowsOf base S) + 4 ∧ gS j0 S' = gS j0 S) (fun RR hR => ?_) (fun σ G' z => ?_)
    · have stay : ∀ G', Same G1 G' → ∃ (v9' : Option V) (S' : SP), [some (V.ref a), some (V.ref l), some (V.ref jb), some (V.ref pb), some (V.ref d), some (V.str pr), some (V.ref due), some (V.int kz), some (V.int ce), v9] = [some (.ref a), some (.ref l), some (.ref jb), some (.ref pb), some (.ref d), some (.str pr), some (.ref due), some (.int kz), some (.int ce), v9'] ∧ HW H G' d due (rowsOf base S') ds ∧ SOk [j0, j1, j2] S' ∧ (∀ s ∈ S', s.1 ∈ prs) ∧ sumR (rowsOf base S') ≤ sumR (rowsOf base S) + 4 ∧ gS j0 S' = gS j0 S := fun G' t => ⟨_, S, rfl, W.same t, ok, sp, Nat.le_add_right _ _, rfl⟩
      refine ⟨_, rfl, _, rfl, _, _, rfl, rfl, _, _, _, rfl, by omega, by omega, by decide, fun G2 t2 => ⟨rfl, _, rfl, ite2 (fun c => ?_) (fun c => hR _ _ (stay G2 t2))⟩⟩
      have m1 := mix_lo (c := ce) (k := kz + 51) (show (0 : Int) < 2 by decide)
      have m2 := mix_hi (c := ce) (k := kz + 51) (show (0 : Int) < 2 by decide)
      refine ⟨_, rfl, _, rfl, _, rfl, _, _, rfl, rfl, _, _, _, rfl, by omega, by omega, by decide, fun G3 t3 => ⟨_, _, rfl, rfl, jb, _, _, rfl, rfl, SqL.of (t3 _ _ (t2 _ _ (W.s _ _ hj))), ?_, ?_, fun vo hvo => ?_⟩⟩
      · show 0 ≤ 1 + mixV ce (kz + 51) 2
        omega
      · show 1 + mixV ce (kz + 51) 2 < 3
        omega
      obtain ⟨oj, rfl, ojm, ojn⟩ : ∃ oj, vo = .str oj ∧ oj ∈ [j0, j1, j2] ∧ oj ≠ j0 := by
        have : mixV ce (kz + 51) 2 = 0 ∨ mixV ce (kz + 51) 2 = 1 := by omega
        rcases this with z | z
        · rw [z] at hvo
          exact ⟨j1, (Option.some.inj hvo).symm, by simp, j10⟩
        · rw [z] at hvo
          exact ⟨j2, (Option.some.inj hvo).symm, by simp, j20⟩
      clear hvo m1 m2
      have W3 := W.same (t2.trans t3)
      clear stay
      obtain ⟨b, hrow⟩ := mem_rows (S := S) (show pr ∈ base.map (·.1) by rw [eb]; exact prm)
      have lrow : (tagsOf (segP S pr)).length ≤ sumR (rowsOf base S) := sum_mem hrow
      obtain ⟨vs, hvs, lvs⟩ := W3.at hrow
      dsimp only [gName]
      refine ⟨_, rfl, _, rfl, d, _, rfl, W3.b.get hrow, .inl ⟨rfl, _, SqL.of hvs⟩, _, rfl, 1, rfl, z2, fun t4 nt4 => ?_⟩
      have s4 := same_new nt4 (.tup [.str oj, .int (-1)])
      have ht4 : upd G3 t4 (.tup [.str oj, .int (-1)]) t4 = some (.tup [.str oj, .int (-1)]) := upd_same
      dsimp only
      generalize upd G3 t4 (.tup [.str oj, .int (-1)]) = G4 at s4 ht4 ⊢
      have hvs4 := s4 _ _ hvs
      refine ⟨b, vs, _, rfl, rfl, hvs4, small1000 (by rw [lvs]; show (tagsOf (segP S pr)).length ≤ _; omega), ?_⟩
      obtain ⟨W5, hrow5⟩ := (W3.same s4).app hrow hvs4 [(t4, (oj, -1))] (fun z hz => by rw [List.mem_singleton.mp hz]; exact ht4)
      have W5' : HW H (upd G4 b (.lst (vs ++ [V.ref t4]))) d due (appR (rowsOf base S) pr [(oj, -1)]) ds := W5
      have hrow5' : (pr, b, tagsOf (segP S pr) ++ [(oj, (-1 : Int))]) ∈ appR (rowsOf base S) pr [(oj, -1)] := hrow5
      clear W5 hrow5
      generalize upd G4 b (.lst (vs ++ [V.ref t4])) = G5 at W5' ⊢
      obtain ⟨vs5, hvs5, lvs5⟩ := W5'.at hrow5'
      have m1 := mix_lo (c := ce) (k := kz + 52) (show (0 : Int) < 4 by decide)
      have m2 := mix_hi (c := ce) (k := kz + 52) (show (0 : Int) < 4 by decide)
      refine ⟨_, rfl, _, rfl, d, _, rfl, W5'.b.get hrow5', .inl ⟨rfl, _, SqL.of hvs5⟩, _, rfl, _, rfl, _, _, rfl, rfl, _, _, _, rfl, by omega, by omega, by decide, fun G6 t6 => ⟨_, rfl, by omega, by omega, ?_⟩⟩
      obtain ⟨cnt, ecnt⟩ : ∃ cnt : Nat, (mixV ce (kz + 52) 4).toNat = cnt := ⟨_, rfl⟩
      rw [ecnt]
      have c3 : cnt ≤ 3 := by omega
      refine compB_mk (seq_range 0 cnt G6) (fun x y H3 => ∃ (i : Nat) (u : Addr), x = .int (0 + (i : Int)) ∧ y = .ref u ∧ H3 u = some (.tup [.str oj, .int (100 * kz + (0 + (i : Int)))])) (by rw [List.length_map, List.length_range]; exact small1000 (by omega)) (fun x hx H' R' _ rr => rr) (fun x hx H' R' _ rr => ?_) (fun D G7 ys t7 nD hD ly gy => ?_)
      · obtain ⟨i, _, rfl⟩ := List.mem_map.mp hx
        refine ⟨_, rfl, _, rfl, _, _, rfl, rfl, .inl ⟨by decide, by decide⟩, _, rfl, _, _, rfl, rfl, z2, fun u nu => rr _ _ (same_new nu _) ⟨fun x => x = u, fun x hx => by rw [hx]; exact ⟨nu, _, upd_same⟩, fun H3 h3 => ⟨i, u, rfl, rfl, by rw [h3 u rfl]; exact upd_same⟩⟩⟩
      have lx : ((List.range cnt).map fun i => V.int (0 + ((i : Nat) : Int))).length = cnt := by rw [List.length_map, List.length_range]
      rw [lx] at ly
      obtain ⟨zs, e1, e2, e3⟩ := zs_of (H := G7) ((List.range cnt).map fun i => (oj, 100 * kz + (0 + ((i : Nat) : Int)))) ys (by rw [ly, List.length_map, List.length_range]) (fun i tt y h1 h2 => by
        rw [List.getElem?_map] at h1
        obtain ⟨i', hi', rfl⟩ := Option.map_eq_some_iff.mp h1
        obtain ⟨j, u, ej, ey, hu'⟩ := gy i (V.int (0 + ((i' : Nat) : Int))) y (by rw [List.getElem?_map, hi']; rfl) h2
        refine ⟨u, ey, ?_⟩
        injection ej with ej
        rw [hu', ej])
      have W7 := W5'.same (t6.trans t7)
      have hvs7 := t7 _ _ (t6 _ _ hvs5)
      have lrow5 := sum_mem hrow5'
      have sum5 := appR_sum (nm := pr) (g := [(oj, (-1 : Int))]) W3.b.nk
      have sm5 : sumR (appR (rowsOf base S) pr [(oj, (-1 : Int))]) ≤ sumR (rowsOf base S) + 1 := sum5
      refine ⟨b, D, vs5, ys, rfl, rfl, hvs7, hD, ?_, ?_⟩
      · rw [lvs5, ly, sizeLine_big]
        show (tagsOf (segP S pr) ++ [(oj, (-1 : Int))]).length + cnt ≤ _
        have : (tagsOf (segP S pr) ++ [(oj, (-1 : Int))]).length ≤ sumR (appR (rowsOf base S) pr [(oj, (-1 : Int))]) := lrow5
        omega
      obtain ⟨W8, _⟩ := W7.app hrow5' hvs7 zs e3
      rw [e1]
      have er : appR (appR (rowsOf base S) pr [(oj, (-1 : Int))]) pr (zs.map (·.2)) = rowsOf base (S ++ [(pr, (oj, (List.range cnt).map fun i => 100 * kz + (0 + ((i : Nat) : Int))))]) := by
        rw [appR_app, rows_add, e2]
        unfold tagsP
        rw [List.map_map]
        rfl
      have W8' : HW H (upd G7 b (.lst (vs5 ++ zs.map fun z => V.ref z.1))) d due (rowsOf base (S ++ [(pr, (oj, (List.range cnt).map fun i => 100 * kz + (0 + ((i : Nat) : Int))))])) ds := by rw [← er]; exact W8
      refine hR _ _ ⟨_, _, rfl, W8', ok.add ojm (fun n hn => ?_), fun s hs => ?_, ?_, ?_⟩
      · obtain ⟨i, _, rfl⟩ := List.mem_map.mp hn
        omega
      · rcases List.mem_append.mp hs with hs | hs
        · exact sp s hs
        · rw [List.mem_singleton.mp hs]; exact prm
      · rw [← er]
        have s8 := appR_sum (nm := pr) (g := zs.map (·.2)) W5'.b.nk
        rw [e2, List.length_map, List.length_range] at s8
        rw [e2]
        omega
      · rw [gS_add, if_neg (fun z => ojn z.1), List.append_nil]
    obtain ⟨v9', S1, rfl, W1, ok1, sp1, sm1, eg1⟩ := z
    refine seq_cut (fun σ G' => ∃ (v9 : Option V) (S' : SP), σ = [some (.ref a), some (.ref l), some (.ref jb), some (.ref pb), some (.ref d), some (.str pr), some (.ref due), some (.int kz), some (.int ce), v9] ∧ HW H G' d due (rowsOf base S') ds ∧ SOk [j0, j1, j2] S' ∧ (∀ s ∈ S', s.1 ∈ prs) ∧ sumR (rowsOf base S') ≤ sumR (rowsOf base S) + 5 ∧ gS j0 S' = gS j0 S) (fun RR hR => ?_) (fun σ G3 z => ?_)
    · refine ⟨_, rfl, _, rfl, _, _, rfl, rfl, _, _, _, rfl, by omega, by omega, by decide, fun G2 t2 => ⟨rfl, _, rfl, ite2 (fun c => ?_) (fun c => hR _ _ ⟨_, S1, rfl, W1.same t2, ok1, sp1, by omega, eg1⟩)⟩⟩
      have W3 := W1.same t2
      obtain ⟨b, hrow⟩ := mem_rows (S := S1) (show pr ∈ base.map (·.1) by rw [eb]; exact prm)
      have lrow : (tagsOf (segP S1 pr)).length ≤ sumR (rowsOf base S1) := sum_mem hrow
      obtain ⟨vs, hvs, lvs⟩ := W3.at hrow
      refine ⟨_, rfl, _, rfl, d, _, rfl, W3.b.get hrow, .inl ⟨rfl, _, SqL.of hvs⟩, _, rfl, jb, _, _, _, rfl, rfl, SqL.of (W3.s _ _ hj), atI_nat (j := 0) rfl, 1, rfl, z2, fun t4 nt4 => ?_⟩
      have s4 := same_new nt4 (.tup [.str j0, .int (-1)])
      have ht4 : upd G2 t4 (.tup [.str j0, .int (-1)]) t4 = some (.tup [.str j0, .int (-1)]) := upd_same
      dsimp only
      generalize upd G2 t4 (.tup [.str j0, .int (-1)]) = G4 at s4 ht4 ⊢
      have hvs4 := s4 _ _ hvs
      refine ⟨b, vs, _, rfl, rfl, hvs4, small1000 (by rw [lvs]; show (tagsOf (segP S1 pr)).length ≤ _; omega), ?_⟩
      obtain ⟨W5, _⟩ := (W3.same s4).app hrow hvs4 [(t4, (j0, -1))] (fun z hz => by rw [List.mem_singleton.mp hz]; exact ht4)
      have er : appR (rowsOf base S1) pr [(j0, (-1 : Int))] = rowsOf base (S1 ++ [(pr, (j0, []))]) := by rw [rows_add]; rfl
      have W5' : HW H (upd G4 b (.lst (vs ++ [V.ref t4]))) d due (rowsOf base (S1 ++ [(pr, (j0, []))])) ds := by rw [← er]; exact W5
      have sum5 := appR_sum (nm := pr) (g := [(j0, (-1 : Int))]) W3.b.nk
      rw [er] at sum5
      refine hR _ _ ⟨_, _, rfl, W5', ok1.add (by simp) (fun n hn => absurd hn List.not_mem_nil), fun s hs => ?_, ?_, ?_⟩
      · rcases List.mem_append.mp hs with hs | hs
        · exact sp1 s hs
        · rw [List.mem_singleton.mp hs]; exact prm
      · have : [(j0, (-1 : Int))].length = 1 := rfl
        omega
      · rw [gS_add, if_neg (fun z => z.2 rfl), List.append_nil, eg1]
    obtain ⟨v9'', S2, rfl, W2', ok2, sp2, sm2, eg2⟩ := z
    clear W1 ok1 sp1 sm1 eg1 W
    obtain ⟨b, hrow⟩ := mem_rows (S := S2) (show pr ∈ base.map (·.1) by rw [eb]; exact prm)
    have lrow : (tagsOf (segP S2 pr)).length ≤ sumR (rowsOf base S2) := sum_mem hrow
    obtain ⟨vs, hvs, lvs⟩ := W2'.at hrow
    obtain ⟨rk, hrk⟩ : ∃ rk, rs[k]? = some rk := ⟨_, List.getElem?_eq_getElem (by omega)⟩
    have eRk : R[k] = rk.2 := by
      have : R[k]? = some rk.2 := by rw [eR, List.getElem?_map, hrk]; rfl
      rw [List.getElem?_eq_getElem hkR] at this
      exact Option.some.inj this
    obtain ⟨grk, _⟩ := gr rk (List.mem_of_getElem? hrk)
    have nrk : rk.2 ≠ [] := by rw [← eRk]; exact ne _ (List.getElem_mem _)
    have nnk : ∀ n ∈ rk.2, 0 ≤ n := by rw [← eRk]; exact nn _ (List.getElem_mem _)
    rw [eRk] at lfl
    have hix : ∀ v, (rs.map fun r => V.ref r.1)[kz.toNat]? = some v → v = .ref rk.1 := fun v hv => by
      rw [show kz.toNat = k by omega, List.getElem?_map, hrk] at hv
      exact (Option.some.inj hv).symm
    refine ⟨_, rfl, _, rfl, d, _, rfl, W2'.b.get hrow, .inl ⟨rfl, _, SqL.of hvs⟩, _, rfl, jb, _, _, _, rfl, rfl, SqL.of (W2'.s _ _ hj), atI_nat (j := 0) rfl, 1, rfl, z2, fun t4 nt4 => ?_⟩
    have s4 := same_new nt4 (.tup [.str j0, .int (-1)])
    have ht4 : upd G3 t4 (.tup [.str j0, .int (-1)]) t4 = some (.tup [.str j0, .int (-1)]) := upd_same
    dsimp only
    generalize upd G3 t4 (.tup [.str j0, .int (-1)]) = G4 at s4 ht4 ⊢
    have hvs4 := s4 _ _ hvs
    refine ⟨b, vs, _, rfl, rfl, hvs4, small1000 (by rw [lvs]; show (tagsOf (segP S2 pr)).length ≤ _; omega), ?_⟩
    obtain ⟨W5, hrow5⟩ := (W2'.same s4).app hrow hvs4 [(t4, (j0, -1))] (fun z hz => by rw [List.mem_singleton.mp hz]; exact ht4)
    have W5' : HW H (upd G4 b (.lst (vs ++ [V.ref t4]))) d due (appR (rowsOf base S2) pr [(j0, -1)]) ds := W5
    have hrow5' : (pr, b, tagsOf (segP S2 pr) ++ [(j0, (-1 : Int))]) ∈ appR (rowsOf base S2) pr [(j0, -1)] := hrow5
    clear W5 hrow5
    generalize upd G4 b (.lst (vs ++ [V.ref t4])) = G5 at W5' ⊢
    obtain ⟨vs5, hvs5, lvs5⟩ := W5'.at hrow5'
    refine ⟨_, rfl, _, rfl, d, _, rfl, W5'.b.get hrow5', .inl ⟨rfl, _, SqL.of hvs5⟩, _, rfl, _, rfl, l, _, _, rfl, rfl, SqL.of (W5'.s _ _ hl), by omega, by rw [lm]; omega, fun vv hvv => ?_⟩
    obtain rfl := hix vv hvv
    refine ⟨rk.1, rfl, ⟨_, SqL.of (W5'.s _ _ grk)⟩, ?_⟩
    refine compB_mk (seq_list (SqL.of (W5'.s _ _ grk))) (fun x y H3 => ∃ (n : Int) (u : Addr), x = .int n ∧ y = .ref u ∧ H3 u = some (.tup [.str j0, .int n])) (by rw [List.length_map]; exact small1000 (by omega)) (fun x hx H' R' _ rr => rr) (fun x hx H' R' sm' rr => ?_) (fun D G7 ys t7 nD hD ly gy => ?_)
    · obtain ⟨n, _, rfl⟩ := List.mem_map.mp hx
      exact ⟨_, rfl, jb, _, _, _, rfl, rfl, SqL.of (sm' _ _ (W5'.s _ _ hj)), atI_nat (j := 0) rfl, _, rfl, z2, fun u nu => rr _ _ (same_new nu _) ⟨fun x => x = u, fun x hx => by rw [hx]; exact ⟨nu, _, upd_same⟩, fun H3 h3 => ⟨n, u, rfl, rfl, by rw [h3 u rfl]; exact upd_same⟩⟩⟩
    rw [List.length_map] at ly
    obtain ⟨zs, e1, e2, e3⟩ := zs_of (H := G7) (rk.2.map fun n => (j0, n)) ys (by rw [ly, List.length_map]) (fun i tt y h1 h2 => by
      rw [List.getElem?_map] at h1
      obtain ⟨n', hn', rfl⟩ := Option.map_eq_some_iff.mp h1
      obtain ⟨n, u, ej, ey, hu'⟩ := gy i (V.int n') y (by rw [List.getElem?_map, hn']; rfl) h2
      refine ⟨u, ey, ?_⟩
      injection ej with ej
      rw [hu', ej])
    have W7 := W5'.same t7
    have hvs7 := t7 _ _ hvs5
    have lrow5 : (tagsOf (segP S2 pr) ++ [(j0, (-1 : Int))]).length ≤ sumR (appR (rowsOf base S2) pr [(j0, (-1 : Int))]) := sum_mem hrow5'
    have sum5 : sumR (appR (rowsOf base S2) pr [(j0, (-1 : Int))]) ≤ sumR (rowsOf base S2) + 1 := appR_sum (nm := pr) (g := [(j0, (-1 : Int))]) W2'.b.nk
    refine ⟨b, D, vs5, ys, rfl, rfl, hvs7, hD, ?_, ?_⟩
    · rw [lvs5, ly, sizeLine_big]
      show (tagsOf (segP S2 pr) ++ [(j0, (-1 : Int))]).length + _ ≤ _
      omega
    obtain ⟨W8, _⟩ := W7.app hrow5' hvs7 zs e3
    rw [e1]
    have er : appR (appR (rowsOf base S2) pr [(j0, (-1 : Int))]) pr (zs.map (·.2)) = rowsOf base (S2 ++ [(pr, (j0, rk.2))]) := by
      rw [appR_app, rows_add, e2]
      rfl
    have W8' : HW H (upd G7 b (.lst (vs5 ++ zs.map fun z => V.ref z.1))) d due (rowsOf base (S2 ++ [(pr, (j0, rk.2))])) ds := by rw [← er]; exact W8
    have sum8 := appR_sum (nm := pr) (g := zs.map (·.2)) W5'.b.nk
    rw [er, e2, List.length_map] at sum8
    clear W8 W7 er hvs7 e1 e2 e3
    generalize upd G7 b (.lst (vs5 ++ zs.map fun z => V.ref z.1)) = G8 at W8' ⊢
    have lds : ds.length = k := by
      have := congrArg List.length ed
      rw [List.length_map, List.length_take] at this
      omega
    refine ⟨_, rfl, .inl ⟨rfl, _, SqL.of W8'.l⟩, _, rfl, _, rfl, l, _, _, rfl, rfl, SqL.of (W8'.s _ _ hl), by omega, by rw [lm]; omega, fun vv hvv => ?_⟩
    obtain rfl := hix vv hvv
    refine ⟨rk.1, _, _, _, rfl, rfl, SqL.of (W8'.s _ _ grk), atI_nat (j := 0) (v := .int (hdN (pr, rk.2))) ?_, _, rfl, _, rfl, _, rfl, l, _, _, rfl, rfl, SqL.of (W8'.s _ _ hl), by omega, by rw [lm]; omega, fun vv hvv => ?_⟩
    · unfold hdN
      cases e : rk.2 with
      | nil => exact absurd e nrk
      | cons x y => rfl
    obtain rfl := hix vv hvv
    refine ⟨z3, fun t9 nt9 => ?_⟩
    have s9 := same_new nt9 (.tup [.int (hdN (pr, rk.2)), .str pr, .ref rk.1])
    have ht9 : upd G8 t9 (.tup [.int (hdN (pr, rk.2)), .str pr, .ref rk.1]) t9 = some (.tup [.int (hdN (pr, rk.2)), .str pr, .ref rk.1]) := upd_same
    dsimp only
    generalize upd G8 t9 (.tup [.int (hdN (pr, rk.2)), .str pr, .ref rk.1]) = G9 at s9 ht9 ⊢
    have W9 := W8'.same s9
    refine ⟨due, _, _, rfl, rfl, W9.l, small1000 (by rw [List.length_map]; omega), ?_⟩
    refine ⟨_, _, _, _, _, ds ++ [(t9, rk.1, (pr, rk.2))], rfl, W9.due (q := (t9, rk.1, (pr, rk.2))) ht9, ok2.add (by simp) nnk, fun s hs => ?_, ?_, ?_, fun q hq => ?_, ?_⟩
    · rcases List.mem_append.mp hs with hs | hs
      · exact sp2 s hs
      · rw [List.mem_singleton.mp hs]; exact prm
    · have e : (R.take (k + 1)).flatten.length = (R.take k).flatten.length + rk.2.length := by
        rw [List.take_add_one, List.getElem?_eq_getElem hkR, eRk, List.flatten_append, List.length_append]
        simp
      rw [e]
      omega
    · rw [gS_add, if_pos ⟨rfl, nrk⟩, eg2, eg, List.map_append]
      rfl
    · rcases List.mem_append.mp hq with hq | hq
      · exact gd q hq
      · rw [List.mem_singleton.mp hq]; exact grk
    · rw [List.map_append, ed, List.take_add_one, List.getElem?_eq_getElem hkR, eRk]
      rfl
  · obtain ⟨v5', v7, v8, v9, S, ds, rfl, W, ok, sp, sm, eg, gd, ed⟩ := z
    rw [← lrs, List.take_length] at sm ed
    have lds : ds.length = R.length := by
      have := congrArg List.length ed
      rw [List.length_map] at this
      exact this
    refine ⟨_, rfl, _, rfl, due, ds.map fun q => (hdN q.2.2, q.1), rfl, SqL.of (by rw [List.map_map]; exact W.l), by rw [List.length_map]; omega, fun r hr' => ?_, ?_, fun D qs nD pm pw => ?_⟩
    · obtain ⟨q', hq', rfl⟩ := List.mem_map.mp hr'
      exact ⟨_, W.g q' hq'⟩
    · rw [List.map_map]
      have e : ds.map ((fun x : Int × Addr => x.1) ∘ fun q : Addr × Addr × Pc => (hdN q.2.2, q.1)) = R.map fun r => r.headD 0 := by
        rw [← ed, List.map_map]
        rfl
      rw [e]; exact hdn
    obtain ⟨es, pe, rfl⟩ := perm_back pm rfl
    have s3 := same_new nD (.lst ((es.map fun q => (hdN q.2.2, q.1)).map fun r => V.ref r.2))
    have hD : upd G D (.lst ((es.map fun q => (hdN q.2.2, q.1)).map fun r => V.ref r.2)) D = some (.lst (es.map fun q => V.ref q.1)) := by rw [upd_same, List.map_map]; rfl
    dsimp only
    generalize upd G D (.lst ((es.map fun q => (hdN q.2.2, q.1)).map fun r => V.ref r.2)) = G3 at s3 hD ⊢
    have W3 := W.same s3
    have les : es.length = R.length := by rw [pe.length_eq]; exact lds
    refine ⟨D, rfl, ⟨_, SqL.of hD⟩, compB_mk (seq_list (SqL.of hD)) (fun x y H3 => ∃ u, y = .ref u ∧ ∀ q ∈ es, x = .ref q.1 → H3 u = some (.tup [.str q.2.2.1, .ref q.2.1])) (by rw [List.length_map]; exact small1000 (by omega)) (fun x hx H' R' _ rr => rr) (fun x hx H' R' sm' rr => ?_) (fun D2 G4 ys t4 nD2 hD2 ly gy => ?_)⟩
    · obtain ⟨q', hq', rfl⟩ := List.mem_map.mp hx
      have hg := W3.g q' (pe.mem_iff.mp hq')
      have ht := sm' _ _ hg
      refine ⟨_, rfl, q'.1, _, _, _, rfl, rfl, SqT.of ht, atI_nat (j := 1) rfl, _, rfl, q'.1, _, _, _, rfl, rfl, SqT.of ht, atI_nat (j := 2) rfl, z2, fun u nu => rr _ _ (same_new nu _) ⟨fun x => x = u, fun x hx => by rw [hx]; exact ⟨nu, _, upd_same⟩, fun H3 h3 => ⟨u, rfl, fun q2 hq2 e2 => ?_⟩⟩⟩
      rw [h3 u rfl, upd_same]
      injection e2 with e2
      have hg2 := W3.g q2 (pe.mem_iff.mp hq2)
      rw [← e2, hg] at hg2
      injection hg2 with hg2
      injection hg2 with hg2
      injection hg2 with _ hg2
      injection hg2 with a1 hg2
      injection hg2 with a2 _
      rw [a1, a2]
    rw [List.length_map] at ly
    obtain ⟨rows, e1, e2, e3⟩ := rows_of (H := G4) (es.map (·.2)) ys (by rw [ly, List.length_map]) (fun i e y h1 h2 => by
      rw [List.getElem?_map] at h1
      obtain ⟨q', hq', rfl⟩ := Option.map_eq_some_iff.mp h1
      obtain ⟨u, ey, hu'⟩ := gy i (V.ref q'.1) y (by rw [List.getElem?_map, hq']; rfl) h2
      exact ⟨u, ey, hu' q' (List.mem_of_getElem? hq') rfl⟩)
    refine ⟨z2, fun t nt => ?_⟩
    have s5 := same_new nt (.tup [.ref d, .ref D2])
    have W5 := (W3.same t4).same s5
    have hmr : ∀ r ∈ rows, ∃ q' ∈ es, q'.2 = r.2 := fun r hr' => by
      have : r.2 ∈ es.map (·.2) := by rw [← e2]; exact List.mem_map.mpr ⟨r, hr', rfl⟩
      obtain ⟨q', h1, h2⟩ := List.mem_map.mp this
      exact ⟨q', h1, h2⟩
    refine q t d D2 _ base S (es.map (·.2.2)) W5.s upd_same W5.b eb ok sp (by omega) (by rw [eg]; exact pe.map _) ?_ (by rw [eg, List.map_map]; exact ed) ⟨rows, ?_, by rw [← e1]; exact s5 _ _ hD2, fun r hr' => ⟨s5 _ _ (e3 r hr'), ?_⟩⟩
    · rw [List.pairwise_map] at pw ⊢
      exact pw
    · have := congrArg (List.map (fun x : Addr × Pc => x.2)) e2
      rw [List.map_map, List.map_map] at this
      exact this.symm
    · obtain ⟨q', h1, h2⟩ := hmr r hr'
      have := W5.s _ _ (gd q' (pe.mem_iff.mp h1))
      rw [h2] at this
      exact this
end
end My
namespace My
open PySem L2
open Blk (sg sg_inj sg_app)
section
variable {P : Program} {w : World} {K : PySem.W.Frag} {mg : Str → Option Value} {base : Heap}
def sp__law_is (_K : PySem.W.Frag) : Sp := fun vs H Q _ => ∃ n : Int, vs = [.int n, .int n] ∧ Q (.bl true) H
theorem sc__law_is : FnScope ["_law_num", "_law_due"] ["_law_num", "_law_due"] (defScope s__law_is) := ⟨rfl, rfl, rfl, by decide +kernel, rfl, by decide +kernel, by decide +kernel⟩
theorem ok__law_is {fa cNoHeap cHallError tP_gathered : Addr} {fd : FuncData} (F : Fun K "_law_is" "_law_is" s__law_is fa fd) (T : Txt K mg cNoHeap cHallError tP_gathered)  :
    FnOk P w K mg base CX0 1 fa fd ["_law_num", "_law_due"] (sp__law_is K) := by
  refine F.ok sc__law_is (fun vs H Q E h => ?_) (fun cdv A outer s H vs Q E hr h => ?_)
  · obtain ⟨n, rfl, _⟩ := h
    rfl
  obtain ⟨n, rfl, q⟩ := h
  refine ⟨_, (pss_one (ps_ret (pe_and (pe_callB call_isi rfl T.isinstance bt_isi (pa_cons (pv 0) (pa_cons (pe_bltn rfl T.int bt_int (rel_ty _)) pa_nil))) (pe_and (pe_not (pe_callB call_isi rfl T.isinstance bt_isi (pa_cons (pv 0) (pa_cons (pe_bltn rfl T.bool bt_bool (rel_ty _)) pa_nil)))) (pe_one (pe_cmpR op_eq (pv 0) (pv 1) (nomark _))))))), ?_⟩
  refine ⟨_, rfl, _, _, _, true, rfl, TyOf.int _, kit_same _, true, rfl, iteT ?_⟩
  refine ⟨_, rfl, _, _, _, false, rfl, TyOf.int _, kit_int_bool _, false, rfl, true, rfl, iteT ?_⟩
  refine ⟨_, rfl, _, rfl, rfl, ?_⟩
  rw [decide_eq_true rfl]
  exact q
theorem DueAt.same {H H' : Hp} {a : Addr} {L : List Pc} (x : DueAt H a L) (s : Same H H') : DueAt H' a L := let ⟨rows, e, e1, g⟩ := x; ⟨rows, e, s _ _ e1, fun r hr => ⟨s _ _ (g r hr).1, s _ _ (g r hr).2⟩⟩
theorem DueAt.sameP {H H' : Hp} {a tP : Addr} {ps : Array Value} {L : List Pc} (x : DueAt H a L) (hP : H tP = some (.tbl ps)) (s : SameP tP H H') : DueAt H' a L := by
  obtain ⟨rows, e, e1, g⟩ := x
  exact ⟨rows, e, s _ _ (ne_of e1 hP (by intro z; cases z)) e1, fun r hr => ⟨s _ _ (ne_of (g r hr).1 hP (by intro z; cases z)) (g r hr).1, s _ _ (ne_of (g r hr).2 hP (by intro z; cases z)) (g r hr).2⟩⟩
theorem PcAt.due {H0 H : Hp} {a : Addr} {L : List Pc} (x : PcAt H0 H a L) : DueAt H a L := let ⟨_, rows, e, e1, _, g⟩ := x; ⟨rows, e, e1, fun r hr => ⟨(g r hr).1, (g r hr).2.1⟩⟩
def sp__law_alike (K : PySem.W.Frag) : Sp := fun vs H Q _ => ∃ (p p2 : Addr) (L : List Pc), vs = [.ref p, .ref p2] ∧ DueAt H p L ∧ DueAt H p2 L ∧ L.length ≤ 300 ∧ Q (.bl true) H
theorem sc__law_alike : FnScope ["_law_told", "_law_due", "_law_k", "_law_number"] ["_law_told", "_law_due"] (defScope s__law_alike) := ⟨rfl, rfl, rfl, by decide +kernel, rfl, by decide +kernel, by decide +kernel⟩
theorem ok__law_alike {fa cNoHeap cHallError tP_gathered : Addr} {fd : FuncData} (F : Fun K "_law_alike" "_law_alike" s__law_alike fa fd) (T : Txt K mg cNoHeap cHallError tP_gathered)  :
    FnOk P w K mg base CX0 1 fa fd ["_law_told", "_law_due"] (sp__law_alike K) := by
  refine F.ok sc__law_alike (fun vs H Q E h => ?_) (fun cdv A outer s H vs Q E hr h => ?_)
  · obtain ⟨p, p2, L, rfl, _⟩ := h
    rfl
  obtain ⟨p, p2, L, rfl, ⟨rows, eL, hp, g⟩, ⟨rows2, eL2, hp2, g2⟩, lL, q⟩ := h
  have hu2 := hu_n hr 2 (by decide)
  refine ⟨_, (pss_cons (ps_if (PW.pt (pw_or (pt_not (pt_truth (pe_callB call_isi rfl T.isinstance bt_isi (pa_cons (pv 0) (pa_cons (pe_bltn rfl T.list bt_list (rel_ty _)) pa_nil))) (fun _ => rfl))) (pw_or1 (pt_cmpR op_ne (pe_callB call_len_seq rfl T.len PySem.boot_len (pa_cons (pv 0) pa_nil)) (pe_callB call_len_seq rfl T.len PySem.boot_len (pa_cons (pv 1) pa_nil)) (nomark _))))) (pss_one (ps_ret pe_bl)) pss_nil)
  (pss_cons (ps_for PassesOwn.never rfl (pi_range1 rfl T.range (pa_cons (pe_callB call_len_seq rfl T.len PySem.boot_len (pa_cons (pv 1) pa_nil)) pa_nil)) (pg_name (i := 2) sc__law_alike.nd rfl (by first | exact Or.inl rfl | exact Or.inr rfl))
  (pss_cons (ps_if (PW.pt (pw_or (pt_not (pt_truth (pe_callB call_isi rfl T.isinstance bt_isi (pa_cons (pe_ix ix_listA (pv 0) (pv 2) (fun _ _ => rfl)) (pa_cons (pe_bltn rfl T.tuple bt_tuple (rel_ty _)) pa_nil))) (fun _ => rfl))) (pw_or (pt_cmpR (op_ne_dq (n := 2) hu2) (pe_ix ix_listA (pv 0) (pv 2) (fun _ _ => rfl)) (pe_ix ix_listA (pv 1) (pv 2) (fun _ _ => rfl)) (nomark _)) (pw_or1 (pt_not (pt_truth (pe_callB call_isi rfl T.isinstance bt_isi (pa_cons (pe_ix ix_tup (pe_ix ix_listA (pv 0) (pv 2) (fun _ _ => rfl)) pe_int (fun _ _ => rfl)) (pa_cons (pe_bltn rfl T.list bt_list (rel_ty _)) pa_nil))) (fun _ => rfl))))))) (pss_one (ps_ret pe_bl)) pss_nil)
  (pss_one (ps_for PassesOwn.never rfl (pi_list (pe_ix ix_tup (pe_ix ix_listA (pv 0) (pv 2) (fun _ _ => rfl)) pe_int (fun _ _ => rfl))) (pg_name (i := 3) sc__law_alike.nd rfl (by first | exact Or.inl rfl | exact Or.inr rfl))
  (pss_one (ps_if (PW.pt (pw_or (pt_not (pt_truth (pe_callB call_isi rfl T.isinstance bt_isi (pa_cons (pv 3) (pa_cons (pe_bltn rfl T.int bt_int (rel_ty _)) pa_nil))) (fun _ => rfl))) (pw_or1 (pt_truth (pe_callB call_isi rfl T.isinstance bt_isi (pa_cons (pv 3) (pa_cons (pe_bltn rfl T.bool bt_bool (rel_ty _)) pa_nil))) (fun _ => rfl))))) (pss_one (ps_ret pe_bl)) pss_nil))))))
  (pss_one (ps_ret pe_bl)))), ?_⟩
  have l1 : rows.length = L.length := by rw [eL, List.length_map]
  have l2 : rows2.length = L.length := by rw [eL2, List.length_map]
  refine ⟨_, rfl, _, _, _, true, rfl, TyOf.lst hp, kit_same _, true, rfl, iteF ?_⟩
  refine ⟨_, rfl, p, _, rfl, .inl (SqL.of hp), _, rfl, p2, _, rfl, .inl (SqL.of hp2), rfl, _, rfl, iteNS (by rw [List.length_map, List.length_map, l1, l2]) ?_⟩
  refine ⟨_, rfl, p2, _, rfl, .inl (SqL.of hp2), _, rfl, by omega, by rw [List.length_map]; omega, for_range (lo := 0) (n := (rows2.map fun (r : Addr × Addr × Pc) => V.ref r.1).length) (fun i σ H' => H' = H ∧ ∃ v w, σ = [some (.ref p), some (.ref p2), v, w]) ⟨rfl, _, _, rfl⟩ (fun i σ H' hi z => ?_) (fun σ H' z => ?_)⟩
  · obtain ⟨rfl, v, w, rfl⟩ := z
    rw [List.length_map] at hi
    obtain ⟨r, hr1⟩ : ∃ r, rows[i]? = some r := ⟨_, List.getElem?_eq_getElem (by omega)⟩
    obtain ⟨r2, hr2⟩ : ∃ r, rows2[i]? = some r := ⟨_, List.getElem?_eq_getElem hi⟩
    have e12 : r.2.2 = r2.2.2 := by
      have x1 : L[i]? = some r.2.2 := by rw [eL, List.getElem?_map, hr1]; rfl
      have x2 : L[i]? = some r2.2.2 := by rw [eL2, List.getElem?_map, hr2]; rfl
      exact Option.some.inj (x1.symm.trans x2)
    obtain ⟨a1, b1⟩ := g r (List.mem_of_getElem? hr1)
    obtain ⟨a2, b2⟩ := g2 r2 (List.mem_of_getElem? hr2)
    rw [← e12] at a2 b2
    have ix : ∀ {pp : Addr} {rs : List (Addr × Addr × Pc)} {u : Addr × Addr × Pc} {R : V → Hp → Prop}, rs.length = rows2.length → rs[i]? = some u → H' pp = some (.lst (rs.map fun r => V.ref r.1)) → R (.ref u.1) H' → rIxLA K (.ref pp) (.int (0 + (i : Int))) H' R := fun el e1 e2 k => ⟨_, _, _, rfl, rfl, SqL.of e2, by omega, by rw [List.length_map]; omega, fun v hv => by
      rw [show (0 + (i : Int)).toNat = i from by omega, List.getElem?_map, e1] at hv
      cases hv
      exact k⟩
    have le : rows.length = rows2.length := by omega
    refine ⟨_, rfl, _, rfl, ix le hr1 hp ⟨_, _, _, true, rfl, TyOf.tup a1, kit_same _, true, rfl, iteF ?_⟩⟩
    refine ⟨_, rfl, _, rfl, ix le hr1 hp ⟨_, rfl, _, rfl, ix rfl hr2 hp2 ⟨r.1, r2.1, _, _, rfl, rfl, .inr ⟨SqT.of a1, SqT.of a2⟩, rfl, fun j hj => ?_, _, rfl, iteF ?_⟩⟩⟩
    · match j, hj with
      | 0, _ => exact .inl ⟨rfl, rfl⟩
      | 1, _ => exact .inr ⟨r.2.1, r2.2.1, _, _, rfl, rfl, .inl ⟨SqL.of b1, SqL.of b2⟩, rfl, fun k hk => .inl ⟨rfl, flat_at (by rw [List.all_map]; exact List.all_eq_true.mpr fun _ _ => rfl) k⟩⟩
    refine ⟨_, rfl, _, rfl, ix le hr1 hp ⟨r.1, _, _, _, rfl, rfl, SqT.of a1, atI_nat (j := 1) rfl, _, _, _, true, rfl, TyOf.lst b1, kit_same _, true, rfl, iteF ?_⟩⟩
    refine ⟨_, rfl, _, rfl, ix le hr1 hp ⟨r.1, _, _, _, rfl, rfl, SqT.of a1, atI_nat (j := 1) rfl, r.2.1, rfl, ⟨_, SqL.of b1⟩, ?_⟩⟩
    refine for_list (K := K) (a := r.2.1) (xs := r.2.2.2.map V.int) (fun j σ H2 => H2 = H' ∧ ∃ v, σ = [some (.ref p), some (.ref p2), some (.int (0 + (i : Int))), v]) ⟨rfl, _, rfl⟩ (fun j σ H2 _ z => by rw [z.1]; exact SqL.of b1) (fun j x σ H2 hx z => ?_) (fun σ H2 z => ?_)
    · obtain ⟨rfl, v, rfl⟩ := z
      rw [List.getElem?_map] at hx
      obtain ⟨c, _, rfl⟩ := Option.map_eq_some_iff.mp hx
      refine ⟨_, rfl, _, _, _, true, rfl, TyOf.int _, kit_same _, true, rfl, iteF ?_⟩
      exact ⟨_, rfl, _, _, _, false, rfl, TyOf.int _, kit_int_bool _, false, rfl, iteF ⟨rfl, _, rfl⟩⟩
    · obtain ⟨rfl, v, rfl⟩ := z
      exact ⟨rfl, _, _, rfl⟩
  · obtain ⟨rfl, v, w, rfl⟩ := z
    exact q
def sp__law_refused (cN tP : Addr) : Sp := fun vs H Q _ => ∃ (d : Addr) (rows : List HRow) (name : Str) (i : Nat), vs = [.ref d, .str name] ∧ HpsAt H d rows ∧ GTab H tP ∧ gathA name [] rows = .error i ∧ ∀ H', Same H H' → Q (.int (i : Int)) H'
theorem sc__law_refused : FnScope ["_law_heaps_here", "_law_name", "_law_place", "e"] ["_law_heaps_here", "_law_name"] (defScope s__law_refused) := ⟨rfl, rfl, rfl, by decide +kernel, rfl, by decide +kernel, by decide +kernel⟩
theorem ok__law_refused {fa cNoHeap cHallError tP_gathered : Addr} {fd : FuncData} (F : Fun K "_law_refused" "_law_refused" s__law_refused fa fd) (T : Txt K mg cNoHeap cHallError tP_gathered) (D_gathered : DfE P w K mg base 4 "gathered" ["heaps", "name"] (sp_gathered cNoHeap tP_gathered)) :
    FnOk P w K mg base CX0 5 fa fd ["_law_heaps_here", "_law_name"] (sp__law_refused cNoHeap tP_gathered) := by
  refine F.ok sc__law_refused (fun vs H Q E h => ?_) (fun cdv A outer s H vs Q E hr h => ?_)
  · obtain ⟨d, rows, name, i, rfl, _⟩ := h
    rfl
  obtain ⟨d, rows, name, i, rfl, A, ht, er, q⟩ := h
  refine ⟨_, (pss_cons (ps_set (i := 2) sc__law_refused.nd rfl (by first | exact Or.inl rfl | exact Or.inr rfl) pe_non)
  (pss_cons (ps_try top_nox (fun _ _ _ hP hO => by exact (pss_one (ps_expr (pe_callE D_gathered hP (hr.mono (show 4 ≤ 4 by decide)) rfl (pa_cons (pv 0) (pa_cons (pv 1) pa_nil)))))) (ph_as (i := 3) rfl T.mg_NoHeap sc__law_refused.nd rfl rfl (fun _ => by exact (pss_one (ps_set (i := 2) sc__law_refused.nd rfl (by first | exact Or.inl rfl | exact Or.inr rfl) (pe_fldGK (K := K) rfl (pv 3) rfl)))) ph_nil))
  (pss_one (ps_ret (pv 2))))), ?_⟩
  refine ⟨_, rfl, _, rfl, d, rows, name, rfl, A, ht, fun L e => absurd (er.symm.trans e) (by intro z; cases z), fun j ej ea H1 sm g => ?_⟩
  obtain rfl : i = j := by
    have := er.symm.trans ej
    injection this
  refine ⟨cNoHeap, ea, rfl, rfl, T.x_NoHeap.m, T.x_NoHeap.m, true, T.mh_NoHeap_NoHeap, iteT ?_⟩
  refine ⟨_, rfl, ea, _, _, _, rfl, g, T.x_NoHeap.i.c, T.x_NoHeap.n _ (.head _), rfl, ?_⟩
  exact ⟨_, rfl, q _ sm⟩
end
end My
namespace My
open PySem L2
open Blk (sg sg_inj sg_app)
section
variable {P : Program} {w : World} {K : PySem.W.Frag} {mg : Str → Option Value} {base : Heap}
abbrev nbS : Str := Str.ofString "nobodyatall9"
def Bad (t0 t : List Tag) (pl : Nat) : Prop := (pl = 0 ∧ ∃ n : Int, n ≠ -1 ∧ t = (nbS, n) :: t0) ∨ (pl = 1 ∧ ∃ (g : Tag) (rest : List Tag) (n : Int), n ≠ -1 ∧ t0 = g :: rest ∧ g.2 = -1 ∧ t = g :: (nbS, n) :: rest)
theorem bad_run {t0 t : List Tag} {pl : Nat} (b : Bad t0 t pl) (hj : ∀ g ∈ t0, g.1 ≠ nbS) : runP [] t 0 = .error pl := by
  rcases b with ⟨rfl, n, hn, rfl⟩ | ⟨rfl, g, rest, n, hn, rfl, hg, rfl⟩
  · show (match stepP [] (nbS, n) with | some t => runP t t0 (0 + 1) | none => .error 0) = _
    have st : stepP [] (nbS, n) = none := by
      unfold stepP
      rw [if_neg hn]
      rfl
    rw [st]
  · show (match stepP [] g with | some t => runP t ((nbS, n) :: rest) (0 + 1) | none => .error 0) = _
    have st : stepP [] g = some ([] ++ [(g.1, [])]) := if_pos hg
    rw [st]
    show (match stepP ([] ++ [(g.1, [])]) (nbS, n) with | some t => runP t rest (0 + 1 + 1) | none => .error (0 + 1)) = _
    have st2 : stepP ([] ++ [(g.1, [])]) (nbS, n) = none := by
      unfold stepP
      rw [if_neg hn, last_app]
      exact if_neg (hj g (.head _))
    rw [st2]
theorem bad_ix {t0 t : List Tag} {pl : Nat} (b : Bad t0 t pl) (hj : ∀ g ∈ t0, g.1 ≠ nbS) : pl < t.length ∧ ((t.map (·.1)).getD pl (Str.ofString "")) = nbS ∧ ∀ m, m < pl → (t.map (·.1)).getD m (Str.ofString "") ≠ nbS := by
  rcases b with ⟨rfl, n, hn, rfl⟩ | ⟨rfl, g, rest, n, hn, rfl, hg, rfl⟩
  · exact ⟨Nat.succ_pos _, rfl, fun m hm => absurd hm (Nat.not_lt_zero _)⟩
  · refine ⟨Nat.succ_lt_succ (Nat.succ_pos _), rfl, fun m hm => ?_⟩
    obtain rfl : m = 0 := by omega
    exact hj g (.head _)
theorem bad_len {t0 t : List Tag} {pl : Nat} (b : Bad t0 t pl) : t.length = t0.length + 1 := by
  rcases b with ⟨_, n, hn, rfl⟩ | ⟨_, g, rest, n, hn, rfl, hg, rfl⟩ <;> rfl
def modR (rows : List HRow) (nm : Str) (g : List Tag) : List HRow := rows.map fun x => if x.1 = nm then (x.1, x.2.1, g) else x
theorem modR_hrD (rows : List HRow) (nm : Str) (g : List Tag) : hrD (modR rows nm g) = hrD rows ∧ (modR rows nm g).map (·.1) = rows.map (·.1) ∧ (modR rows nm g).map (·.2.1) = rows.map (·.2.1) := by
  unfold modR hrD
  refine ⟨?_, ?_, ?_⟩ <;> rw [List.map_map] <;> refine List.map_congr_left fun x _ => ?_
  · show ((Sum.inr (if x.1 = nm then (x.1, x.2.1, g) else x).1 : Key), V.ref (if x.1 = nm then (x.1, x.2.1, g) else x).2.1) = _
    split <;> rfl
  · show (if x.1 = nm then (x.1, x.2.1, g) else x).1 = _
    split <;> rfl
  · show (if x.1 = nm then (x.1, x.2.1, g) else x).2.1 = _
    split <;> rfl
theorem row_fst {rows : List HRow} {x y : HRow} (nd : (rows.map (·.1)).Nodup) (hx : x ∈ rows) (hy : y ∈ rows) (e : x.1 = y.1) : x = y := by
  obtain ⟨i, hi, ei⟩ := List.mem_iff_getElem.mp hx
  obtain ⟨j, hj, ej⟩ := List.mem_iff_getElem.mp hy
  have a1 : (rows.map (·.1))[i]'(by rw [List.length_map]; exact hi) = x.1 := by rw [List.getElem_map, ei]
  have a2 : (rows.map (·.1))[j]'(by rw [List.length_map]; exact hj) = y.1 := by rw [List.getElem_map, ej]
  have := (List.getElem_inj nd).mp ((a1.trans e).trans a2.symm)
  subst this
  rw [← ei, ← ej]
theorem row_ad {rows : List HRow} {x y : HRow} (nd : (rows.map (·.2.1)).Nodup) (hx : x ∈ rows) (hy : y ∈ rows) (e : x.2.1 = y.2.1) : x = y := by
  obtain ⟨i, hi, ei⟩ := List.mem_iff_getElem.mp hx
  obtain ⟨j, hj, ej⟩ := List.mem_iff_getElem.mp hy
  have a1 : (rows.map (·.2.1))[i]'(by rw [List.length_map]; exact hi) = x.2.1 := by rw [List.getElem_map, ei]
  have a2 : (rows.map (·.2.1))[j]'(by rw [List.length_map]; exact hj) = y.2.1 := by rw [List.getElem_map, ej]
  have := (List.getElem_inj nd).mp ((a1.trans e).trans a2.symm)
  subst this
  rw [← ei, ← ej]
theorem HB.put {H0 H : Hp} {d : Addr} {rows : List HRow} (h : HB H0 H d rows) {r : HRow} (hr : r ∈ rows) {vs : List V} (hv : H r.2.1 = some (.lst vs)) (zs : List (Addr × Tag)) (hz : ∀ z ∈ zs, H z.1 = some (.tup [.str z.2.1, .int z.2.2])) :
    HB H0 (upd H r.2.1 (.lst (zs.map fun z => V.ref z.1))) d (modR rows r.1 (zs.map (·.2))) := by
  have tup : ∀ {b : Addr} {ys : List V}, H b = some (.tup ys) → upd H r.2.1 (.lst (zs.map fun z => V.ref z.1)) b = some (.tup ys) := fun e => by rw [upd_ne (ne_of e hv (by intro z; cases z))]; exact e
  obtain ⟨m1, m2, m3⟩ := modR_hrD rows r.1 (zs.map (·.2))
  refine ⟨h.n0, by rw [m1, upd_ne (ne_of h.o hv (by intro z; cases z))]; exact h.o, fun x hx => ?_, fun x hx => ?_, by rw [m3]; exact h.nd, by rw [m2]; exact h.nk⟩
  · obtain ⟨y, hy, rfl⟩ := List.mem_map.mp hx
    by_cases c : y.1 = r.1
    · obtain rfl := row_fst h.nk hy hr c
      rw [if_pos rfl]
      exact ⟨zs, rfl, by show upd H y.2.1 _ y.2.1 = _; rw [upd_same], fun x hx => tup (hz x hx)⟩
    · rw [if_neg c]
      obtain ⟨ts, e, e1, g⟩ := h.t y hy
      refine ⟨ts, e, ?_, fun x hx => tup (g x hx)⟩
      rw [upd_ne (fun z => c (by rw [row_ad h.nd hy hr z]))]
      exact e1
  · obtain ⟨y, hy, rfl⟩ := List.mem_map.mp hx
    have : (if y.1 = r.1 then (y.1, y.2.1, zs.map (·.2)) else y).2.1 = y.2.1 := by split <;> rfl
    rw [this]
    exact h.nw y hy
def RB (rows rows' : List HRow) (bs : List Str) : Prop := rows'.length = rows.length ∧ ∀ (i : Nat) r r', rows[i]? = some r → rows'[i]? = some r' → r'.1 = r.1 ∧ r'.2.1 = r.2.1 ∧ ((r.1 ∈ bs ∧ ∃ pl, Bad r.2.2 r'.2.2 pl) ∨ (r.1 ∉ bs ∧ r'.2.2 = r.2.2))
theorem RB.refl (rows : List HRow) : RB rows rows [] := ⟨rfl, fun i r r' h1 h2 => by
  rw [h1] at h2
  obtain rfl := Option.some.inj h2
  exact ⟨rfl, rfl, .inr ⟨List.not_mem_nil, rfl⟩⟩⟩
theorem RB.step {rows rows' : List HRow} {bs : List Str} {p : Str} {t : List Tag} {pl : Nat} (h : RB rows rows' bs) (np : p ∉ bs) (nd : (rows.map (·.1)).Nodup) {r : HRow} (hr : r ∈ rows) (er : r.1 = p) (b : Bad r.2.2 t pl) : RB rows (modR rows' p t) (bs ++ [p]) := by
  refine ⟨by unfold modR; rw [List.length_map]; exact h.1, fun i x x' h1 h2 => ?_⟩
  unfold modR at h2
  rw [List.getElem?_map] at h2
  obtain ⟨y, hy, rfl⟩ := Option.map_eq_some_iff.mp h2
  obtain ⟨e1, e2, e3⟩ := h.2 i x y h1 hy
  by_cases c : y.1 = p
  · rw [if_pos c]
    have : x = r := row_fst nd (List.mem_of_getElem? h1) hr (by rw [er, ← c, e1])
    subst this
    exact ⟨e1, e2, .inl ⟨List.mem_append_right _ (by rw [er]; exact .head _), pl, b⟩⟩
  · rw [if_neg c]
    refine ⟨e1, e2, ?_⟩
    rcases e3 with ⟨a, b'⟩ | ⟨a, b'⟩
    · exact .inl ⟨List.mem_append_left _ a, b'⟩
    · exact .inr ⟨fun z => (List.mem_append.mp z).elim a (fun z => c (by rw [e1]; exact List.mem_singleton.mp z)), b'⟩
theorem gath_bad {name : Str} {bs : List Str} : ∀ {rows rows' : List HRow} (acc : List Pc), RB rows rows' bs → (∀ r ∈ rows, (∃ L, runP [] r.2.2 0 = .ok L) ∧ ∀ g ∈ r.2.2, g.1 ≠ nbS) → ∀ {p : Str} {fl : List Str}, (rows.map (·.1)).filter (fun x => bs.contains x) = p :: fl → ∃ r' ∈ rows', ∃ t0 pl, r'.1 = p ∧ Bad t0 r'.2.2 pl ∧ (∀ g ∈ t0, g.1 ≠ nbS) ∧ ∀ acc, gathA name acc rows' = .error pl
  | [], rows', acc, h, _, p, fl, e => by cases e
  | r :: rows, [], acc, h, _, p, fl, e => by cases h.1
  | r :: rows, r' :: rows', acc, h, ok, p, fl, e => by
    obtain ⟨e1, e2, e3⟩ := h.2 0 r r' rfl rfl
    rw [List.map_cons, List.filter_cons] at e
    rcases e3 with ⟨a, pl, b⟩ | ⟨a, b⟩
    · rw [if_pos (List.contains_iff_mem.mpr a)] at e
      injection e with e _
      refine ⟨r', .head _, r.2.2, pl, e1.trans e, b, (ok r (.head _)).2, fun acc => ?_⟩
      show (match runP [] r'.2.2 0 with | .ok L => gathA name (acc ++ pickP name r'.1 L) rows' | .error i => .error i) = _
      rw [bad_run b (ok r (.head _)).2]
    · rw [if_neg (fun z => a (List.contains_iff_mem.mp z))] at e
      obtain ⟨x, hx, t0, pl, h1, h2, h3, h4⟩ := gath_bad (name := name) acc (rows := rows) (rows' := rows') ⟨Nat.succ.inj h.1, fun i x y a b => h.2 (i + 1) x y a b⟩ (fun x hx => ok x (.tail _ hx)) e
      refine ⟨x, .tail _ hx, t0, pl, h1, h2, h3, fun acc => ?_⟩
      obtain ⟨L, hL⟩ := (ok r (.head _)).1
      show (match runP [] r'.2.2 0 with | .ok L => gathA name (acc ++ pickP name r'.1 L) rows' | .error i => .error i) = _
      rw [b, hL]
      exact h4 _
theorem RB.sum : ∀ {rows rows' : List HRow} {bs : List Str}, RB rows rows' bs → sumR rows' ≤ sumR rows + rows.length
  | [], [], _, _ => Nat.le_refl _
  | [], _ :: _, _, h => by cases h.1
  | _ :: _, [], _, h => by cases h.1
  | r :: rows, r' :: rows', bs, h => by
    have ih := RB.sum (rows := rows) (rows' := rows') (bs := bs) ⟨Nat.succ.inj h.1, fun i x y a b => h.2 (i + 1) x y a b⟩
    have l : r'.2.2.length ≤ r.2.2.length + 1 := by
      obtain ⟨_, _, e⟩ := h.2 0 r r' rfl rfl
      rcases e with ⟨_, pl, b⟩ | ⟨_, b⟩
      · rw [bad_len b]; exact Nat.le_refl _
      · rw [b]; omega
    unfold sumR at ih ⊢
    rw [List.map_cons, List.sum_cons, List.map_cons, List.sum_cons, List.length_cons]
    omega
theorem tags_own {js : List Str} {S : SP} (ok : SOk js S) {p : Str} {g : Tag} (h : g ∈ tagsOf (segP S p)) : g.1 ∈ js := by
  unfold tagsOf at h
  obtain ⟨x, hx, hg⟩ := List.mem_flatMap.mp h
  obtain ⟨s, hs, rfl, _⟩ := seg_mem hx
  have e : g.1 = s.2.1 := by
    unfold tagsP at hg
    rcases List.mem_cons.mp hg with rfl | hg
    · rfl
    · obtain ⟨n, _, rfl⟩ := List.mem_map.mp hg
      rfl
  rw [e]
  exact ok.ow s hs
theorem tab_upd {H : Hp} {tP b : Addr} {pos : Pos} {qual : Str} {vs : List V} {o : HO} (t : TabOk H tP pos qual) (hb : H b = some (.lst vs)) : TabOk (upd H b o) tP pos qual := by
  rcases t with t | ⟨c, t, u⟩
  · exact .inl (by rw [upd_ne (ne_of t hb (by intro z; cases z))]; exact t)
  · exact .inr ⟨c, by rw [upd_ne (ne_of t hb (by intro z; cases z))]; exact t, by rw [upd_ne (ne_of u hb (by intro z; cases z))]; exact u⟩
theorem cdiv {i j : Int} (h1 : 0 < j) (h2 : j < 1073741824) : CDiv i j := ⟨h1, h2⟩
theorem nb_in (p : Str) : ∀ bs : List Str, inV (V.str p) (bs.map V.str) = true ↔ p ∈ bs
  | [] => ⟨(fun z => nomatch z), (fun z => nomatch z)⟩
  | b :: bs => by
    have ih := nb_in p bs
    unfold inV at ih ⊢
    rw [List.map_cons, List.any_cons, Bool.or_eq_true, ih, List.mem_cons]
    constructor
    · rintro (z | z)
      · exact .inl (beq_iff_eq.mp z).symm
      · exact .inr z
    · rintro (z | z)
      · exact .inl (by rw [z]; exact beq_self_eq_true b)
      · exact .inr z
theorem strs_flat (bs : List Str) : (bs.map V.str).all flatV = true := by
  rw [List.all_map]
  exact List.all_eq_true.mpr fun _ _ => rfl
def sp__law_spoilt (K : PySem.W.Frag) (cN tP : Addr) : Sp := fun vs H Q _ => ∃ (a d jb pb : Addr) (ns : List Int) (H0 : Hp) (base : List (Str × Addr)) (S : SP) (j0 j1 j2 : Str) (prs : List Str), vs = [.ref a, .ref d, .ref jb, .ref pb] ∧ Same H0 H ∧ SqL K H0 a (ns.map V.int) ∧ H0 jb = some (.lst [.str j0, .str j1, .str j2]) ∧ H0 pb = some (.lst (prs.map V.str)) ∧ prs.Nodup ∧ 1 ≤ prs.length ∧ prs.length ≤ 5 ∧
  HB H0 H d (rowsOf base S) ∧ base.map (·.1) = prs ∧ SOk [j0, j1, j2] S ∧ sumR (rowsOf base S) ≤ 280 ∧ GTab H tP ∧ nbS ∉ [j0, j1, j2] ∧ ∀ H', Q (.bl true) H'
theorem sc__law_spoilt : FnScope ["_law_script", "_law_heaps_here", "_law_jobs", "_law_printers", "_law_cell", "_law_bad", "_law_k", "_law_printer", "_law_place", "_law_first", "_law_name"] ["_law_script", "_law_heaps_here", "_law_jobs", "_law_printers"] (defScope s__law_spoilt) := ⟨rfl, rfl, rfl, by decide +kernel, rfl, by decide +kernel, by decide +kernel⟩
theorem ok__law_spoilt {fa cNoHeap cHallError tP_gathered : Addr} {fd : FuncData} (F : Fun K "_law_spoilt" "_law_spoilt" s__law_spoilt fa fd) (T : Txt K mg cNoHeap cHallError tP_gathered) (D__law_cell_at : Dfn P w K mg base 1 "_law_cell_at" ["_law_script", "_law_k"] (sp__law_cell_at K)) (D__law_mix : Dfn P w K mg base 1 "_law_mix" ["_law_cell", "_law_k", "_law_many"] (sp__law_mix K)) (D__law_is : Dfn P w K mg base 1 "_law_is" ["_law_num", "_law_due"] (sp__law_is K)) (D__law_refused : Dfn P w K mg base 5 "_law_refused" ["_law_heaps_here", "_law_name"] (sp__law_refused cNoHeap tP_gathered)) :
    FnOk P w K mg base CX0 6 fa fd ["_law_script", "_law_heaps_here", "_law_jobs", "_law_printers"] (sp__law_spoilt K cNoHeap tP_gathered) := by
  refine F.ok sc__law_spoilt (fun vs H Q E h => ?_) (fun cdv A outer s H vs Q E hr h => ?_)
  · obtain ⟨a, d, jb, pb, ns, H0, base, S, j0, j1, j2, prs, rfl, _⟩ := h
    rfl
  obtain ⟨a, d, jb, pb, ns, H0, base, S, j0, j1, j2, prs, rfl, s0, hS, hj, hpb, ndp, p1, p5, B, eb, ok, sm, ht, nb, q⟩ := h
  have hu := hu_n hr 0 (by decide)
  have z2 : 2 ≤ sizeLine := small (by decide)
  have z3 : 3 ≤ sizeLine := small (by decide)
  refine ⟨_, (pss_cons (ps_set (i := 4) sc__law_spoilt.nd rfl (by first | exact Or.inl rfl | exact Or.inr rfl) (pe_callD D__law_cell_at (hr.mono (by decide)) rfl (pa_cons (pv 0) (pa_cons pe_int pa_nil))))
  (pss_cons (ps_set (i := 5) sc__law_spoilt.nd rfl (by first | exact Or.inl rfl | exact Or.inr rfl) (pe_lst pa_nil))
  (pss_cons (ps_for PassesOwn.never rfl (pi_range1 rfl T.range (pa_cons (pe_op op_add pe_int (pe_op op_mod (pe_op op_fdiv (pv 4) pe_int) pe_int)) pa_nil)) (pg_name (i := 6) sc__law_spoilt.nd rfl (by first | exact Or.inl rfl | exact Or.inr rfl))
  (pss_cons (ps_set (i := 7) sc__law_spoilt.nd rfl (by first | exact Or.inl rfl | exact Or.inr rfl) (pe_ix ix_listA (pv 3) (pe_callD D__law_mix (hr.mono (by decide)) rfl (pa_cons (pv 4) (pa_cons (pv 6) (pa_cons (pe_callB call_len_seq rfl T.len PySem.boot_len (pa_cons (pv 3) pa_nil)) pa_nil)))) (fun _ _ => rfl)))
  (pss_cons (ps_set (i := 8) sc__law_spoilt.nd rfl (by first | exact Or.inl rfl | exact Or.inr rfl) pe_int)
  (pss_cons (ps_if (PW.pt (pw_and (pt_cmpR op_gt (pe_callB call_len_seq rfl T.len PySem.boot_len (pa_cons (pe_dget hu (pv 1) (pv 7) (fun _ _ => rfl)) pa_nil)) pe_int (nomark _)) (pw_and (pt_cmpR op_eq (pe_ix ix_tup (pe_ix ix_list (pe_dget hu (pv 1) (pv 7) (fun _ _ => rfl)) pe_int (fun _ _ => rfl)) pe_int (fun _ _ => rfl)) (pe_un un_neg pe_int) (nomark _)) (pw_and1 (pt_cmpR op_eq (pe_op op_mod (pe_op op_fdiv (pv 4) pe_int) pe_int) pe_int (nomark _)))))) (pss_one (ps_set (i := 8) sc__law_spoilt.nd rfl (by first | exact Or.inl rfl | exact Or.inr rfl) pe_int)) pss_nil)
  (pss_one (ps_if (pt_cmpR op_notIn_seq (pv 7) (pv 5) rfl) (pss_cons (ps_expr (pe_bm PySem.F.plainAttrs_list PySem.F.slot_list_insert PySem.F.type_list_insert mt_insert (pe_dget hu (pv 1) (pv 7) (fun _ _ => rfl)) (pa_cons (pv 8) (pa_cons (pe_tup (pa_cons pe_str (pa_cons (pe_op op_add pe_int (pv 6)) pa_nil))) pa_nil))))
  (pss_one (ps_expr (pe_bm PySem.F.plainAttrs_list PySem.F.slot_list_append PySem.F.type_list_append mt_append (pv 5) (pa_cons (pv 7) pa_nil))))) pss_nil))))))
  (pss_cons (ps_set (i := 9) sc__law_spoilt.nd rfl (by first | exact Or.inl rfl | exact Or.inr rfl) (pe_ix ix_list (pe_comp (frees := [("_law_bad", 5)]) ⟨by decide +kernel, rfl, rfl, by decide +kernel, ⟨⟨rfl, rfl, rfl, by decide +kernel⟩, trivial⟩, by decide +kernel, cellsFor_at rfl, rfl⟩ rfl (pi_list (pv 3)) (fun _ _ _ _ => by exact (pifs_one (pt_cmpR (op_in_seqK (K := K) rfl) (pv 0) (pv 1) rfl))) (fun _ _ _ _ => by exact (pv 0))) pe_int (fun _ _ => rfl)))
  (pss_cons (ps_set (i := 8) sc__law_spoilt.nd rfl (by first | exact Or.inl rfl | exact Or.inr rfl) (pe_bm PySem.F.plainAttrs_list PySem.F.slot_list_index PySem.F.type_list_index mt_index (pe_comp (frees := []) ⟨by decide +kernel, rfl, rfl, by decide +kernel, trivial, by decide +kernel, cellsFor_at rfl, rfl⟩ rfl (pi_list (pe_dget hu (pv 1) (pv 9) (fun _ _ => rfl))) (fun _ _ _ _ => pifs_nil) (fun _ _ _ _ => by exact (pe_ixK (K := K) (r := rIxT) rfl ix_tup (pv 0) pe_int (fun _ _ => rfl)))) (pa_cons pe_str pa_nil)))
  (pss_cons (ps_for PassesOwn.never rfl (pi_list (pe_lst (pa_cons (pe_ix ix_list (pv 2) pe_int (fun _ _ => rfl)) (pa_cons (pe_ix ix_list (pv 2) pe_int (fun _ _ => rfl)) (pa_cons pe_str pa_nil))))) (pg_name (i := 10) sc__law_spoilt.nd rfl (by first | exact Or.inl rfl | exact Or.inr rfl))
  (pss_one (ps_if (pt_not (pt_truth (pe_callD D__law_is (hr.mono (by decide)) rfl (pa_cons (pe_callD D__law_refused (hr.mono (by decide)) rfl (pa_cons (pv 1) (pa_cons (pv 10) pa_nil))) (pa_cons (pv 8) pa_nil))) (fun _ => rfl))) (pss_one (ps_ret pe_bl)) pss_nil)))
  (pss_one (ps_ret pe_bl)))))))), ?_⟩
  refine ⟨_, rfl, a, _, ns, rfl, s0.seq hS, by decide, ?_⟩
  dsimp only [gName]
  generalize ns.getD (2 : Int).toNat 0 = ce
  refine ⟨Nat.zero_le _, fun bl nbl => ?_⟩
  have s1 := same_new nbl (.lst [])
  have hbl : upd H bl (.lst []) bl = some (.lst []) := upd_same
  dsimp only [gName]
  generalize upd H bl (.lst []) = H1 at s1 hbl ⊢
  have nb0 : H0 bl = none := s0.free nbl
  have B1 := B.same s1
  have rbl : ∀ r ∈ rowsOf base S, r.2.1 ≠ bl := fun r hr' z => by
    obtain ⟨ts, _, e1, _⟩ := B.t r hr'
    rw [z, nbl] at e1
    cases e1
  have c1 := Int.emod_nonneg (ce / 6) (show (2 : Int) ≠ 0 by decide)
  have c2 := Int.emod_lt_of_pos (ce / 6) (show (0 : Int) < 2 by decide)
  refine ⟨_, rfl, _, _, rfl, rfl, cdiv (by decide) (by decide), _, _, rfl, rfl, (by show (0 : Int) < 2; decide), _, _, rfl, rfl, _, rfl, by omega, by omega, ?_⟩
  obtain ⟨cnt, ecnt⟩ : ∃ cnt : Nat, (1 + ce / 6 % 2).toNat = cnt := ⟨_, rfl⟩
  rw [ecnt]
  have cn1 : 1 ≤ cnt := by omega
  have cn2 : cnt ≤ 2 := by omega
  have own : ∀ p, ∀ g ∈ tagsOf (segP S p), g.1 ≠ nbS := fun p g hg z => nb (by rw [← z]; exact tags_own ok hg)
  refine for_range (lo := 0) (n := cnt) (fun k σ G => ∃ (v6 v7 v8 : Option V) (bs : List Str) (rows' : List HRow), σ = [some (.ref a), some (.ref d), some (.ref jb), some (.ref pb), some (.int ce), some (.ref bl), v6, v7, v8, none, none] ∧ Same H0 G ∧ HB H0 G d rows' ∧ RB (rowsOf base S) rows' bs ∧ G bl = some (.lst (bs.map V.str)) ∧ (∀ r ∈ rows', r.2.1 ≠ bl) ∧ (1 ≤ k → bs ≠ []) ∧ (∀ p ∈ bs, p ∈ prs) ∧ bs.length ≤ k ∧ GTab G tP_gathered) ⟨_, _, _, [], rowsOf base S, rfl, s0.trans s1, B1, RB.refl _, hbl, rbl, (fun z => absurd z (by decide)), fun p hp => absurd hp List.not_mem_nil, Nat.le_refl _, ht.same s1⟩ (fun k σ G hk z => ?_) (fun σ G z => ?_)
  · obtain ⟨v6, v7, v8, bs, rows', rfl, sG, BG, rb, hblG, rne, kne, bsp, lbs, tG⟩ := z
    generalize hkz0 : (0 : Int) + (k : Int) = kz
    have hkz : kz = (k : Int) := by omega
    clear hkz0
    have pl : (prs.map V.str).length = prs.length := List.length_map _
    have m1 := mix_lo (c := ce) (k := kz) (show (0 : Int) < (prs.length : Int) by omega)
    have m2 := mix_hi (c := ce) (k := kz) (show (0 : Int) < (prs.length : Int) by omega)
    refine ⟨_, rfl, _, rfl, _, rfl, _, rfl, pb, _, rfl, .inl (SqL.of (sG _ _ hpb)), _, _, _, rfl, by omega, by omega, by rw [pl]; omega, fun G1 t1 => ?_⟩
    rw [pl]
    obtain ⟨pi, epi⟩ : ∃ pi : Nat, mixV ce kz (prs.length : Int) = (pi : Int) := ⟨_, (Int.toNat_of_nonneg m1).symm⟩
    rw [epi] at m1 m2 ⊢
    have hpi : pi < prs.length := by omega
    obtain ⟨pr, hpr⟩ : ∃ pr, prs[pi]? = some pr := ⟨_, List.getElem?_eq_getElem hpi⟩
    have prm : pr ∈ prs := List.mem_of_getElem? hpr
    have sG1 := sG.trans t1
    have BG1 := BG.same t1
    have hbl1 := t1 _ _ hblG
    have tG1 := tG.same t1
    clear epi m1 m2 BG sG tG hblG
    refine ⟨pb, _, _, rfl, rfl, SqL.of (sG1 _ _ hpb), by omega, by rw [pl]; omega, fun vp hvp => ?_⟩
    obtain rfl : V.str pr = vp := by
      rw [show ((pi : Int)).toNat = pi by omega, List.getElem?_map, hpr] at hvp
      exact Option.some.inj hvp
    clear hvp
    dsimp only [gName]
    obtain ⟨b, hrow0⟩ := mem_rows (S := S) (show pr ∈ base.map (·.1) by rw [eb]; exact prm)
    obtain ⟨i0, hi0, ei0⟩ := List.mem_iff_getElem.mp hrow0
    have hi0' : i0 < rows'.length := by rw [rb.1]; exact hi0
    obtain ⟨r', hr'⟩ : ∃ r', rows'[i0]? = some r' := ⟨_, List.getElem?_eq_getElem hi0'⟩
    obtain ⟨f1, f2, f3⟩ := rb.2 i0 _ r' (by rw [List.getElem?_eq_getElem hi0, ei0]) hr'
    have mr' := List.mem_of_getElem? hr'
    have get' : DGet G1 d (.str pr) (some (.ref r'.2.1)) := by
      have := BG1.get mr'
      rw [f1] at this
      exact this
    obtain ⟨ts, et, hts, gts⟩ := BG1.t r' mr'
    have lts : r'.2.2.length = ts.length := by rw [et, List.length_map]
    refine seq_cut (fun σ G' => G' = G1 ∧ σ = [some (.ref a), some (.ref d), some (.ref jb), some (.ref pb), some (.int ce), some (.ref bl), some (.int kz), some (.str pr), some (.int (0 : Int)), none, none]) (fun RR hR => hR _ _ ⟨rfl, rfl⟩) (fun σ G' z => ?_)
    obtain ⟨rfl, rfl⟩ := z
    refine seq_cut (fun σ G'' => G'' = G' ∧ ∃ pl : Nat, σ = [some (.ref a), some (.ref d), some (.ref jb), some (.ref pb), some (.int ce), some (.ref bl), some (.int kz), some (.str pr), some (.int (pl : Int)), none, none] ∧ (pl = 0 ∨ (pl = 1 ∧ ∃ g rest, r'.2.2 = g :: rest ∧ g.2 = -1))) (fun RR hR => ?_) (fun σ G' z => ?_)
    · have nul := hR [some (.ref a), some (.ref d), some (.ref jb), some (.ref pb), some (.int ce), some (.ref bl), some (.int kz), some (.str pr), some (.int (0 : Int)), none, none] G' ⟨rfl, 0, rfl, .inl rfl⟩
      refine ⟨_, rfl, _, rfl, d, _, rfl, get', r'.2.1, _, rfl, .inl (SqL.of hts), _, _, rfl, rfl, _, rfl, ite2 (fun cc => ?_) (fun _ => iteF nul)⟩
      cases ts with
      | nil => exact absurd (of_decide_eq_true cc) (by decide)
      | cons t0 ts =>
        have gt0 := gts t0 (.head _)
        refine ⟨_, rfl, _, rfl, d, _, rfl, get', r'.2.1, _, _, _, rfl, rfl, SqL.of hts, atI_nat (j := 0) rfl, t0.1, _, _, _, rfl, rfl, SqT.of gt0, atI_nat (j := 1) rfl, 1, rfl, rfl, _, rfl, ite2 (fun c3 => ?_) (fun _ => iteF nul)⟩
        have h3 : t0.2.2 = -1 := by
          have := of_decide_eq_true c3
          injection this
        refine ⟨_, rfl, _, _, rfl, rfl, cdiv (by decide) (by decide), _, _, rfl, rfl, (by show (0 : Int) < 2; decide), rfl, _, rfl, ite2 (fun c4 => ?_) (fun _ => nul)⟩
        exact hR _ _ ⟨rfl, 1, rfl, .inr ⟨rfl, t0.2, ts.map (fun (r : Addr × Tag) => r.2), et, h3⟩⟩
    · obtain ⟨rfl, pl, rfl, hpl⟩ := z
      refine ⟨_, rfl, _, rfl, bl, _, rfl, .inl (SqL.of hbl1), rfl, strs_flat bs, _, rfl, ite2 (fun cc => ?_) (fun cc => ?_)⟩
      · have npb : pr ∉ bs := fun z => by
          rw [(nb_in pr bs).mpr z] at cc
          cases cc
        have hrt : r'.2.2 = tagsOf (segP S pr) := by
          rcases f3 with ⟨z, _⟩ | ⟨_, z⟩
          · exact absurd z npb
          · exact z
        have lrow : (tagsOf (segP S pr)).length ≤ sumR (rowsOf base S) := sum_mem hrow0
        have plt : pl ≤ ts.length := by
          rcases hpl with rfl | ⟨rfl, g, rest, e, _⟩
          · exact Nat.zero_le _
          · rw [← lts, e]; exact Nat.succ_le_succ (Nat.zero_le _)
        refine ⟨_, rfl, _, rfl, d, _, rfl, get', .inl ⟨rfl, _, SqL.of hts⟩, _, rfl, _, rfl, _, _, rfl, rfl, z2, fun t4 nt4 => ?_⟩
        have s4 := same_new nt4 (.tup [.str nbS, .int (5 + kz)])
        have ht4 : upd G' t4 (.tup [.str nbS, .int (5 + kz)]) t4 = some (.tup [.str nbS, .int (5 + kz)]) := upd_same
        dsimp only
        generalize upd G' t4 (.tup [.str nbS, .int (5 + kz)]) = G4 at s4 ht4 ⊢
        have hts4 := s4 _ _ hts
        refine ⟨r'.2.1, _, (pl : Int), V.ref t4, rfl, rfl, hts4, by omega, by rw [List.length_map]; omega, by rw [List.length_map, ← lts, hrt, sizeLine_big]; omega, ?_⟩
        have zz : (ts.map fun r => V.ref r.1).take ((pl : Int)).toNat ++ V.ref t4 :: (ts.map fun r => V.ref r.1).drop ((pl : Int)).toNat = (ts.take pl ++ (t4, (nbS, 5 + kz)) :: ts.drop pl).map fun r => V.ref r.1 := by
          rw [show ((pl : Int)).toNat = pl by omega, List.map_append, List.map_cons, List.map_take, List.map_drop]
        rw [zz]
        have B5 := (BG1.same s4).put mr' hts4 (ts.take pl ++ (t4, (nbS, 5 + kz)) :: ts.drop pl) (fun z hz => by
          rcases List.mem_append.mp hz with hz | hz
          · exact s4 _ _ (gts z (List.mem_of_mem_take hz))
          · rcases List.mem_cons.mp hz with rfl | hz
            · exact ht4
            · exact s4 _ _ (gts z (List.mem_of_mem_drop hz)))
        have bad : Bad (tagsOf (segP S pr)) ((ts.take pl ++ (t4, (nbS, 5 + kz)) :: ts.drop pl).map (·.2)) pl := by
          rw [← hrt, et, List.map_append, List.map_cons, List.map_take, List.map_drop]
          rcases hpl with rfl | ⟨rfl, g, rest, e, hg⟩
          · exact .inl ⟨rfl, 5 + kz, by omega, rfl⟩
          · rw [et] at e
            exact .inr ⟨rfl, g, rest, 5 + kz, by omega, e, hg, by rw [e]; rfl⟩
        rw [f1] at B5
        have rb5 := rb.step npb B.nk hrow0 rfl bad
        have hbl5 : upd G4 r'.2.1 (.lst ((ts.take pl ++ (t4, (nbS, 5 + kz)) :: ts.drop pl).map fun r => V.ref r.1)) bl = some (.lst (bs.map V.str)) := by rw [upd_ne (Ne.symm (rne r' mr'))]; exact s4 _ _ hbl1
        have s5 : Same H0 (upd G4 r'.2.1 (.lst ((ts.take pl ++ (t4, (nbS, 5 + kz)) :: ts.drop pl).map fun r => V.ref r.1))) := same_on (BG1.nw r' mr') (sG1.trans s4) _
        have t5 : GTab (upd G4 r'.2.1 (.lst ((ts.take pl ++ (t4, (nbS, 5 + kz)) :: ts.drop pl).map fun r => V.ref r.1))) tP_gathered := tab_upd (tG1.same s4) hts4
        generalize upd G4 r'.2.1 (.lst ((ts.take pl ++ (t4, (nbS, 5 + kz)) :: ts.drop pl).map fun r => V.ref r.1)) = G5 at B5 hbl5 s5 t5 ⊢
        generalize (ts.take pl ++ (t4, (nbS, 5 + kz)) :: ts.drop pl).map (·.2) = tt at B5 rb5 bad
        have rne5 : ∀ r ∈ modR rows' pr tt, r.2.1 ≠ bl := fun r hr'' => by
          obtain ⟨y, hy, rfl⟩ := List.mem_map.mp hr''
          have : (if y.1 = pr then (y.1, y.2.1, tt) else y).2.1 = y.2.1 := by split <;> rfl
          rw [this]
          exact rne y hy
        refine ⟨_, rfl, .inl ⟨rfl, _, SqL.of hbl5⟩, _, rfl, bl, _, _, rfl, rfl, hbl5, small1000 (by rw [List.length_map]; omega), ?_⟩
        refine ⟨_, _, _, bs ++ [pr], modR rows' pr tt, rfl, same_on nb0 s5 _, ⟨B5.n0, by rw [upd_ne (ne_of B5.o hbl5 (by intro z; cases z))]; exact B5.o, fun r hr'' => ?_, B5.nw, B5.nd, B5.nk⟩, rb5, by rw [upd_same, List.map_append]; rfl, rne5, fun _ z => by simp at z, fun p hp => ?_, by rw [List.length_append]; show bs.length + 1 ≤ k + 1; omega, tab_upd t5 hbl5⟩
        · obtain ⟨us, e, e1, g⟩ := B5.t r hr''
          exact ⟨us, e, by rw [upd_ne (rne5 r hr'')]; exact e1, fun x hx => by rw [upd_ne (ne_of (g x hx) hbl5 (by intro z; cases z))]; exact g x hx⟩
        · rcases List.mem_append.mp hp with hp | hp
          · exact bsp p hp
          · rw [List.mem_singleton.mp hp]; exact prm
      · have pb' : pr ∈ bs := by
          rw [← nb_in pr bs]
          cases e : inV (V.str pr) (bs.map V.str) with
          | true => rfl
          | false => rw [e] at cc; exact absurd rfl cc
        exact ⟨_, _, _, bs, rows', rfl, sG1, BG1, rb, hbl1, rne, fun _ z => by rw [z] at pb'; exact absurd pb' List.not_mem_nil, bsp, by omega, tG1⟩
  · obtain ⟨v6, v7, v8, bs, rows', rfl, sG, BG, rb, hblG, rne, kne, bsp, lbs, tG⟩ := z
    have bne := kne cn1
    have fne : prs.filter (fun x => bs.contains x) ≠ [] := fun z => by
      cases bs with
      | nil => exact bne rfl
      | cons b bs =>
        have := List.filter_eq_nil_iff.mp z b (bsp b (.head _))
        exact this (List.contains_iff_mem.mpr (.head _))
    obtain ⟨p, fl, ef⟩ : ∃ p fl, prs.filter (fun x => bs.contains x) = p :: fl := by
      cases e : prs.filter (fun x => bs.contains x) with
      | nil => exact absurd e fne
      | cons p fl => exact ⟨p, fl, rfl⟩
    have oks : ∀ r ∈ rowsOf base S, (∃ L, runP [] r.2.2 0 = .ok L) ∧ ∀ g ∈ r.2.2, g.1 ≠ nbS := fun r hr' => by
      obtain ⟨x, _, rfl⟩ := List.mem_map.mp hr'
      exact ⟨⟨_, run_tags (segP S x.1) [] 0 (fun p hp n hn => by
        obtain ⟨s, hs, rfl, _⟩ := seg_mem hp
        have := ok.nn s hs n hn
        omega)⟩, own x.1⟩
    have ef' : ((rowsOf base S).map (·.1)).filter (fun x => bs.contains x) = p :: fl := by rw [rows_fst, eb]; exact ef
    obtain ⟨r', mr', t0, pl, er', bad, own0, _⟩ := gath_bad (name := j0) [] rb oks ef'
    have errs : ∀ nm, gathA nm [] rows' = .error pl := fun nm => by
      obtain ⟨r2, mr2, t2, pl2, er2, bad2, own2, err2⟩ := gath_bad (name := nm) [] rb oks ef'
      have : r2 = r' := row_fst BG.nk mr2 mr' (er2.trans er'.symm)
      subst this
      have e1 := bad_run bad own0
      have e2 := bad_run bad2 own2
      rw [e1] at e2
      injection e2 with e2
      rw [e2]; exact err2 []
    have l5 : (rowsOf base S).length ≤ 5 := by
      unfold rowsOf
      rw [List.length_map, ← List.length_map (f := fun b : Str × Addr => b.1), eb]; exact p5
    have sm' := rb.sum
    have hpsG : HpsAt G d rows' := ⟨BG.o, BG.t, by show sumR rows' ≤ 300; omega⟩
    have pm : p ∈ prs := by
      have : p ∈ prs.filter (fun x => bs.contains x) := by rw [ef]; exact .head _
      exact (List.mem_filter.mp this).1
    refine ⟨_, rfl, pb, rfl, ⟨_, SqL.of (sG _ _ hpb)⟩, compB_seq (seq_list (SqL.of (sG _ _ hpb))) (fun v => inV v (bs.map V.str)) (fun v => v) (by rw [List.length_map]; exact small1000 (by omega)) (fun x hx H' R' sm2 rr => ?_) (fun x hx H' R' _ _ rr => ⟨_, rfl, rr⟩) (fun D G2 t2 nD hD => ?_)⟩
    · obtain ⟨y, _, rfl⟩ := List.mem_map.mp hx
      exact ⟨_, rfl, _, rfl, bl, _, rfl, .inl (SqL.of (sm2 _ _ hblG)), rfl, strs_flat bs, _, rfl, rr⟩
    have eD : (((prs.map V.str).filter fun v => inV v (bs.map V.str)).map fun v => v) = (p :: fl).map V.str := by
      rw [← ef, List.map_id']
      have all : ∀ l : List Str, (l.map V.str).filter (fun v => inV v (bs.map V.str)) = (l.filter fun x => bs.contains x).map V.str := fun l => by
        induction l with
        | nil => rfl
        | cons x l ih =>
          rw [List.map_cons, List.filter_cons, List.filter_cons, ih]
          by_cases c : x ∈ bs
          · rw [if_pos ((nb_in x bs).mpr c), if_pos (List.contains_iff_mem.mpr c)]; rfl
          · rw [if_neg (fun z => c ((nb_in x bs).mp z)), if_neg (fun z => c (List.contains_iff_mem.mp z))]
      exact all prs
    rw [eD] at hD
    clear eD
    refine ⟨D, _, _, _, rfl, rfl, SqL.of hD, atI_nat (j := 0) rfl, ?_⟩
    dsimp only [gName]
    have B2 := BG.same t2
    have get' : DGet G2 d (.str p) (some (.ref r'.2.1)) := by
      have := B2.get mr'
      rw [er'] at this
      exact this
    obtain ⟨ts, et, hts, gts⟩ := B2.t r' mr'
    have lts : r'.2.2.length ≤ 300 := Nat.le_trans (sum_mem mr') (by omega)
    refine ⟨_, rfl, _, rfl, d, _, rfl, get', r'.2.1, rfl, ⟨_, SqL.of hts⟩, compB_seq (seq_list (SqL.of hts)) (fun _ => true) (fun v => match v with | .ref t => (match G2 t with | some (.tup (y :: _)) => y | _ => .non) | _ => .non) (by rw [List.length_map, ← List.length_map (f := fun r : Addr × Tag => r.2), ← et]; exact small1000 (by omega)) (fun x hx H' R' _ rr => rr) (fun x hx H' R' sm2 _ rr => ?_) (fun D2 G3 t3 nD2 hD2 => ?_)⟩
    · obtain ⟨y, hy, rfl⟩ := List.mem_map.mp hx
      have e := gts y hy
      dsimp only at rr
      rw [e] at rr
      exact ⟨_, rfl, y.1, _, _, _, rfl, rfl, SqT.of (sm2 _ _ e), atI_nat (j := 0) rfl, rr⟩
    have eD2 : (((ts.map fun r => V.ref r.1).filter fun _ => true).map fun v => match v with | .ref t => (match G2 t with | some (.tup (y :: _)) => y | _ => .non) | _ => V.non) = (r'.2.2.map (·.1)).map V.str := by
      rw [List.filter_eq_self.mpr (fun _ _ => rfl), List.map_map, et, List.map_map, List.map_map]
      refine List.map_congr_left fun y hy => ?_
      show (match G2 y.1 with | some (.tup (y :: _)) => y | _ => V.non) = _
      rw [gts y hy]
      rfl
    rw [eD2] at hD2
    clear eD2
    obtain ⟨x1, x2, x3⟩ := bad_ix bad own0
    have ev : ∀ m, m < r'.2.2.length → eqV (((r'.2.2.map (·.1)).map V.str).getD m .non) (.str nbS) = ((r'.2.2.map (·.1)).getD m (Str.ofString "") == nbS) := fun m hm => by
      have h1 : m < (r'.2.2.map (·.1)).length := by rw [List.length_map]; exact hm
      rw [List.getD_eq_getElem?_getD, List.getD_eq_getElem?_getD, List.getElem?_map, List.getElem?_eq_getElem h1]
      rfl
    refine ⟨.inl ⟨rfl, _, SqL.of hD2⟩, D2, _, .str nbS, pl, rfl, rfl, hD2, strs_flat _, rfl, by rw [List.length_map, List.length_map]; omega, by rw [List.length_map, List.length_map]; exact x1, by rw [ev pl x1, x2]; exact beq_self_eq_true _, fun m hm => by rw [ev m (by omega)]; exact beq_eq_false_iff_ne.mpr (x3 m hm), ?_⟩
    dsimp only [gName]
    have s23 := t2.trans t3
    have sG3 := sG.trans s23
    refine ⟨_, rfl, jb, _, _, _, rfl, rfl, SqL.of (sG3 _ _ hj), atI_nat (j := 0) rfl, _, rfl, jb, _, _, _, rfl, rfl, SqL.of (sG3 _ _ hj), atI_nat (j := 2) rfl, z3, fun nl nnl => ?_⟩
    have s4 := same_new nnl (.lst [.str j0, .str j2, .str nbS])
    have hnl : upd G3 nl (.lst [.str j0, .str j2, .str nbS]) nl = some (.lst ([j0, j2, nbS].map V.str)) := upd_same
    dsimp -proj only
    generalize upd G3 nl (.lst [.str j0, .str j2, .str nbS]) = G4 at s4 hnl ⊢
    have hps4 := hpsG.same (s23.trans s4)
    have t4 := tG.same (s23.trans s4)
    refine ⟨nl, rfl, ⟨_, SqL.of hnl⟩, for_list (K := K) (a := nl) (xs := [j0, j2, nbS].map V.str) (fun i σ G' => ∃ v10 : Option V, σ = [some (.ref a), some (.ref d), some (.ref jb), some (.ref pb), some (.int ce), some (.ref bl), v6, v7, some (.int (pl : Int)), some (.str p), v10] ∧ Same G4 G') ⟨_, rfl, Same.refl _⟩ (fun i σ G' _ z => ?_) (fun i x σ G' hx z => ?_) (fun σ G' z => ?_)⟩
    · obtain ⟨_, _, s5⟩ := z
      exact SqL.of (s5 _ _ hnl)
    · obtain ⟨v10, rfl, s5⟩ := z
      rw [List.getElem?_map] at hx
      obtain ⟨nm, _, rfl⟩ := Option.map_eq_some_iff.mp hx
      refine ⟨_, rfl, _, rfl, d, rows', nm, pl, rfl, hps4.same s5, t4.same s5, errs nm, fun G6 s6 => ⟨_, rfl, (pl : Int), rfl, true, rfl, iteF ⟨_, rfl, s5.trans s6⟩⟩⟩
    · obtain ⟨v10, rfl, s5⟩ := z
      exact q _
end
end My
namespace My
open PySem L2
open Blk (sg sg_inj sg_app)
section
variable {P : Program} {w : World} {K : PySem.W.Frag} {mg : Str → Option Value} {base : Heap}
theorem nd_of {α : Type} {l : List α} (h : ∀ (i j : Nat) z, l[i]? = some z → l[j]? = some z → i = j) : l.Nodup := by
  rw [List.nodup_iff_pairwise_ne, List.pairwise_iff_getElem]
  intro i j hi hj hij e
  have := h i j l[i] (List.getElem?_eq_getElem hi) (by rw [List.getElem?_eq_getElem hj, e])
  omega
def ltrs (z : Str) : Prop := ∀ ch ∈ sg z, 97 ≤ ch ∧ ch ≤ 122
structure NmOk (ns : List Str) : Prop where
  nd : ns.Nodup
  lt : ∀ z ∈ ns, ltrs z
theorem ltr_val : ∀ j : Nat, j < 26 → ltr5 j = 97 + j := by decide +kernel
theorem word_ltrs (c t : Int) (n : Nat) : ltrs (wordP c t n) := fun ch hc => by
  have hc' : ch ∈ wordL c t n := hc
  unfold wordL at hc'
  obtain ⟨k, _, rfl⟩ := List.mem_map.mp hc'
  have a := Int.emod_nonneg (stp c t k) (show (26 : Int) ≠ 0 by decide)
  have b := Int.emod_lt_of_pos (stp c t k) (show (0 : Int) < 26 by decide)
  have l : (stp c t k % 26).toNat < 26 := by omega
  have v := ltr_val _ l
  omega
def wordsP (c : Int) (m : Nat) : List Str := (List.range m).map fun t : Nat => wordP c (t : Int) (wSize c)
theorem words_ok (c : Int) (m : Nat) (h : m ≤ 26) : NmOk (wordsP c m) := by
  refine ⟨?_, fun z hz => ?_⟩
  · refine nd_of fun i j z hi hj => ?_
    unfold wordsP at hi hj
    rw [List.getElem?_map] at hi hj
    obtain ⟨i', ei, e1⟩ := Option.map_eq_some_iff.mp hi
    obtain ⟨j', ej, e2⟩ := Option.map_eq_some_iff.mp hj
    obtain ⟨li, rfl⟩ := List.getElem?_eq_some_iff.mp ei
    obtain ⟨lj, rfl⟩ := List.getElem?_eq_some_iff.mp ej
    rw [List.length_range] at li lj
    rw [List.getElem_range] at e1
    rw [List.getElem_range] at e2
    have := word_ne (c := c) (t := (i : Int)) (u := (j : Int)) (by omega) (by omega) (by omega) (by omega) (e1.trans e2.symm)
    omega
  · unfold wordsP at hz
    obtain ⟨t, _, rfl⟩ := List.mem_map.mp hz
    exact word_ltrs _ _ _
theorem words_len (c : Int) (m : Nat) : (wordsP c m).length = m := by unfold wordsP; rw [List.length_map, List.length_range]
theorem words_seq (c : Int) (m : Nat) (f : V → V) (hf : ∀ t : Nat, f (.int (0 + (t : Int))) = .str (wordP c (t : Int) (wSize c))) : (((List.range m).map fun t : Nat => V.int (0 + (t : Int))).filter fun _ => true).map f = (wordsP c m).map V.str := by
  rw [List.filter_eq_self.mpr (fun _ _ => rfl), List.map_map]
  unfold wordsP
  rw [List.map_map]
  exact List.map_congr_left fun t _ => hf t
theorem head_nd : ∀ (R : List (List Int)), (∀ r ∈ R, r ≠ []) → R.flatten.Nodup → (R.map fun r => r.headD 0).Nodup ∧ ∀ r ∈ R, r.headD 0 ∈ R.flatten
  | [], _, _ => ⟨List.nodup_nil, fun r hr => absurd hr List.not_mem_nil⟩
  | r :: R, ne, nd => by
    rw [List.flatten_cons, List.nodup_append] at nd
    obtain ⟨i1, i2⟩ := head_nd R (fun x hx => ne x (.tail _ hx)) nd.2.1
    have hm : r.headD 0 ∈ r := by
      cases r with
      | nil => exact absurd rfl (ne [] (.head _))
      | cons a b => exact .head _
    refine ⟨?_, fun x hx => ?_⟩
    · rw [List.map_cons, List.nodup_cons]
      refine ⟨fun z => ?_, i1⟩
      obtain ⟨x, hx, ex⟩ := List.mem_map.mp z
      have := i2 x hx
      rw [ex] at this
      exact nd.2.2 _ hm _ this rfl
    · rw [List.flatten_cons, List.mem_append]
      rcases List.mem_cons.mp hx with rfl | hx
      · exact .inl hm
      · exact .inr (i2 x hx)
theorem rngF_nd (lo : V) (n : Nat) : (rngF lo n).Nodup := by
  unfold rngF
  refine List.Pairwise.filter _ ?_
  exact List.Pairwise.map _ (fun a b h => by omega) List.nodup_range
theorem sort_one {f : Pc → Int} : ∀ {L L' : List Pc}, L.Pairwise (fun a b => f a < f b) → L'.Pairwise (fun a b => f a ≤ f b) → List.Perm L' L → L' = L
  | [], L', _, _, p => List.Perm.eq_nil p
  | x :: L, L', hs, hs', p => by
    cases L' with
    | nil => have := p.length_eq; cases this
    | cons y L' =>
      rw [List.pairwise_cons] at hs hs'
      have hy : y ∈ x :: L := p.mem_iff.mp (.head _)
      have hx : x ∈ y :: L' := p.mem_iff.mpr (.head _)
      have e : y = x := by
        rcases List.mem_cons.mp hy with z | z
        · exact z
        · rcases List.mem_cons.mp hx with w | w
          · exact w.symm
          · have a1 := hs.1 y z
            have a2 := hs'.1 x w
            omega
      subst e
      rw [sort_one hs.2 hs'.2 (List.Perm.cons_inv p)]
theorem nums_flat (L : List Pc) : numsOf L = (L.map (·.2)).flatten := by
  unfold numsOf
  rw [List.flatMap_def]
theorem not_ltr {z : Str} (h : ¬ ltrs z) {ns : List Str} (ok : NmOk ns) : z ∉ ns := fun m => h (ok.lt z m)
theorem nb_ltr : ¬ ltrs nbS := fun h => absurd (h 57 (by decide +kernel)) (by decide)
theorem b9_ltr : ¬ ltrs (Str.ofString "b9") := fun h => absurd (h 57 (by decide +kernel)) (by decide)
def KpAt (H : Hp) (kp : Addr) (rows : List HRow) : Prop := ∃ ks : List (Addr × Addr), ks.length = rows.length ∧ H kp = some (.lst (ks.map fun k => V.ref k.1)) ∧ ∀ (i : Nat) r k, rows[i]? = some r → ks[i]? = some k → H k.1 = some (.tup [.str r.1, .ref k.2]) ∧ ∃ vs, H k.2 = some (.lst vs) ∧ H r.2.1 = some (.lst vs)
theorem KpAt.sameP {H H' : Hp} {kp tP : Addr} {ps : Array Value} {rows : List HRow} (x : KpAt H kp rows) (hP : H tP = some (.tbl ps)) (s : SameP tP H H') : KpAt H' kp rows := by
  obtain ⟨ks, e, e1, g⟩ := x
  refine ⟨ks, e, s _ _ (ne_of e1 hP (by intro z; cases z)) e1, fun i r k h1 h2 => ?_⟩
  obtain ⟨a, vs, b, c⟩ := g i r k h1 h2
  exact ⟨s _ _ (ne_of a hP (by intro z; cases z)) a, vs, s _ _ (ne_of b hP (by intro z; cases z)) b, s _ _ (ne_of c hP (by intro z; cases z)) c⟩
theorem HB.sameP {H0 H H' : Hp} {d tP : Addr} {ps : Array Value} {rows : List HRow} (h : HB H0 H d rows) (hP : H tP = some (.tbl ps)) (s : SameP tP H H') : HB H0 H' d rows := by
  refine ⟨h.n0, s _ _ (ne_of h.o hP (by intro z; cases z)) h.o, fun r hr => ?_, h.nw, h.nd, h.nk⟩
  obtain ⟨ts, e, e1, g⟩ := h.t r hr
  exact ⟨ts, e, s _ _ (ne_of e1 hP (by intro z; cases z)) e1, fun x hx => s _ _ (ne_of (g x hx) hP (by intro z; cases z)) (g x hx)⟩
theorem ks_of {P : HRow → Addr → Addr → Prop} : ∀ (rows : List HRow) (ys : List V), ys.length = rows.length → (∀ (i : Nat) r y, rows[i]? = some r → ys[i]? = some y → ∃ t c, y = .ref t ∧ P r t c) → ∃ ks : List (Addr × Addr), ks.length = rows.length ∧ ys = ks.map (fun k => V.ref k.1) ∧ ∀ (i : Nat) r k, rows[i]? = some r → ks[i]? = some k → P r k.1 k.2
  | [], [], _, _ => ⟨[], rfl, rfl, fun i r k h _ => by cases h⟩
  | r :: rows, y :: ys, h, g => by
    obtain ⟨ks, e1, e2, e3⟩ := ks_of rows ys (Nat.succ.inj h) fun i t y a b => g (i + 1) t y a b
    obtain ⟨t, c, rfl, hp⟩ := g 0 r y rfl rfl
    refine ⟨(t, c) :: ks, by rw [List.length_cons, List.length_cons, e1], by rw [List.map_cons, e2], fun i x k h1 h2 => ?_⟩
    cases i with
    | zero =>
      obtain rfl := Option.some.inj h1
      obtain rfl := Option.some.inj h2
      exact hp
    | succ i => exact e3 i x k h1 h2
theorem mem_len : ∀ {R : List (List Int)} {r : List Int}, r ∈ R → r.length ≤ R.flatten.length
  | x :: R, r, h => by
    rw [List.flatten_cons, List.length_append]
    rcases List.mem_cons.mp h with rfl | h
    · omega
    · have := mem_len h
      omega
theorem tags_deq {K : PySem.W.Frag} {H : Hp} {ts : List (Addr × Tag)} (gt : ∀ r ∈ ts, H r.1 = some (.tup [.str r.2.1, .int r.2.2])) : ∀ j, j < (ts.map fun r => V.ref r.1).length → Deq K H 1 ((ts.map fun r => V.ref r.1).getD j .non) ((ts.map fun r => V.ref r.1).getD j .non) := by
  intro j hj
  rw [List.length_map] at hj
  have e : (ts.map fun r => V.ref r.1).getD j .non = V.ref (ts[j]).1 := by
    rw [List.getD_eq_getElem?_getD, List.getElem?_map, List.getElem?_eq_getElem hj]
    rfl
  rw [e]
  have ht := gt ts[j] (List.getElem_mem hj)
  refine .inr ⟨_, _, _, _, rfl, rfl, .inr ⟨SqT.of ht, SqT.of ht⟩, rfl, fun k hk => ?_⟩
  match k, hk with
  | 0, _ => exact ⟨rfl, rfl⟩
  | 1, _ => exact ⟨rfl, rfl⟩
def offT (H : Hp) (tP : Addr) : Hp := fun x => if x = tP then none else H x
theorem off_at {H : Hp} {tP b : Addr} {ps : Array Value} {o : HO} (hP : H tP = some (.tbl ps)) (h : H b = some o) (n : o ≠ .tbl ps) : offT H tP b = some o := (if_neg (ne_of h hP n)).trans h
theorem off_seq {K : PySem.W.Frag} {H : Hp} {tP a : Addr} {ps : Array Value} {xs : List V} (hP : H tP = some (.tbl ps)) (h : SqL K H a xs) : SqL K (offT H tP) a xs := by
  rcases h with (h | ⟨o, h⟩) | h
  · exact .inl (.inl (off_at hP h (by intro z; cases z)))
  · exact .inl (.inr ⟨o, off_at hP h (by intro z; cases z)⟩)
  · exact .inr h
theorem off_same {H H' : Hp} {tP : Addr} (s : SameP tP H H') : Same (offT H tP) H' := fun b o e => by
  by_cases c : b = tP
  · rw [show offT H tP b = none from if_pos c] at e; cases e
  · rw [show offT H tP b = H b from if_neg c] at e
    exact s b o c e
theorem off_none {H : Hp} {tP b : Addr} (h : H b = none) : offT H tP b = none := by
  unfold offT
  split
  · rfl
  · exact h
end
end My
namespace My
open PySem L2
open Blk (sg sg_inj sg_app)
section
variable {P : Program} {w : World} {K : PySem.W.Frag} {mg : Str → Option Value} {base : Heap}
def sp_law (K : PySem.W.Frag) (tP : Addr) : Sp := fun vs H Q _ => ∃ a, vs = [.ref a] ∧ Scr K H a ∧ GTab H tP ∧ ∀ H', Q (.bl true) H'
theorem sc_law : FnScope ["_law_script", "_law_n", "_law_left_out", "_law_jobs", "_law_printers", "_law_runs_here", "_law_heaps_here", "_law_due", "_law_kept", "_law_told", "_law_row", "_law_more", "_law_lack"] ["_law_script"] (defScope s_law) := ⟨rfl, rfl, rfl, by decide +kernel, rfl, by decide +kernel, by decide +kernel⟩
theorem ok_law {fa cNoHeap cHallError tP_gathered : Addr} {fd : FuncData} (F : Fun K "law" "law" s_law fa fd) (T : Txt K mg cNoHeap cHallError tP_gathered) (D__law_mixed : Dfn P w K mg base 2 "_law_mixed" ["_law_script", "_law_runs_here"] (sp__law_mixed K)) (D__law_heaps : Dfn P w K mg base 2 "_law_heaps" ["_law_script", "_law_runs_here", "_law_jobs", "_law_printers"] (sp__law_heaps K)) (D_gathered : DfE P w K mg base 4 "gathered" ["heaps", "name"] (sp_gathered cNoHeap tP_gathered)) (D__law_spoilt : Dfn P w K mg base 6 "_law_spoilt" ["_law_script", "_law_heaps_here", "_law_jobs", "_law_printers"] (sp__law_spoilt K cNoHeap tP_gathered)) (D__law_word : Dfn P w K mg base 1 "_law_word" ["_law_cell", "_law_turn"] (sp__law_word K)) (D__law_runs : Dfn P w K mg base 2 "_law_runs" ["_law_script", "_law_n", "_law_left_out"] (sp__law_runs K)) (D__law_alike : Dfn P w K mg base 1 "_law_alike" ["_law_told", "_law_due"] (sp__law_alike K)) (D__law_cell_at : Dfn P w K mg base 1 "_law_cell_at" ["_law_script", "_law_k"] (sp__law_cell_at K)) (D__law_is : Dfn P w K mg base 1 "_law_is" ["_law_num", "_law_due"] (sp__law_is K)) (D_first_lack : DfE P w K mg base 5 "first_lack" ["heaps", "name", "total"] (sp_first_lack cNoHeap tP_gathered)) :
    FnOk P w K mg base CX0 7 fa fd ["_law_script"] (sp_law K tP_gathered) := by
  refine F.ok sc_law (fun vs H Q E h => ?_) (fun cdv A outer s H vs Q E hr h => ?_)
  · obtain ⟨a, rfl, _⟩ := h
    rfl
  obtain ⟨a, rfl, sc, ht, q⟩ := h
  obtain ⟨ns, hS, lns⟩ := sc.ex
  have hu := hu_n hr 0 (by decide)
  have hu3 := hu_n hr 3 (by decide)
  have z2 : 2 ≤ sizeLine := small (by decide)
  have z3 : 3 ≤ sizeLine := small (by decide)
  refine ⟨_, (pss_cons (ps_set (i := 1) sc_law.nd rfl (by first | exact Or.inl rfl | exact Or.inr rfl) (pe_op op_add pe_int (pe_op op_mod (pe_callD D__law_cell_at (hr.mono (by decide)) rfl (pa_cons (pv 0) (pa_cons pe_int pa_nil))) pe_int)))
  (pss_cons (ps_set (i := 2) sc_law.nd rfl (by first | exact Or.inl rfl | exact Or.inr rfl) pe_non)
  (pss_cons (ps_if (pt_cmpR op_eq (pe_op op_mod (pe_op op_fdiv (pe_callD D__law_cell_at (hr.mono (by decide)) rfl (pa_cons (pv 0) (pa_cons pe_int pa_nil))) pe_int) pe_int) pe_int (nomark _)) (pss_one (ps_set (i := 2) sc_law.nd rfl (by first | exact Or.inl rfl | exact Or.inr rfl) (pe_op op_mod (pe_callD D__law_cell_at (hr.mono (by decide)) rfl (pa_cons (pv 0) (pa_cons pe_int pa_nil))) (pv 1)))) pss_nil)
  (pss_cons (ps_comp (i := 3) (frees := [("_law_script", 0)]) ⟨by decide +kernel, rfl, rfl, by decide +kernel, ⟨⟨rfl, rfl, rfl, by decide +kernel⟩, trivial⟩, by decide +kernel, cellsFor_at rfl, rfl⟩ sc_law.nd rfl rfl rfl (pi_range1 rfl T.range (pa_cons pe_int pa_nil)) (fun _ _ _ _ => pifs_nil) (fun _ _ _ _ => by exact (pe_callD D__law_word (hr.mono (by decide)) rfl (pa_cons (pe_callD D__law_cell_at (hr.mono (by decide)) rfl (pa_cons (pv 1) (pa_cons pe_int pa_nil))) (pa_cons (pv 0) pa_nil)))))
  (pss_cons (ps_comp (i := 4) (frees := [("_law_script", 0)]) ⟨by decide +kernel, rfl, rfl, by decide +kernel, ⟨⟨rfl, rfl, rfl, by decide +kernel⟩, trivial⟩, by decide +kernel, cellsFor_at rfl, rfl⟩ sc_law.nd rfl rfl rfl (pi_range1 rfl T.range (pa_cons (pe_op op_add pe_int (pe_op op_mod (pe_callD D__law_cell_at (hr.mono (by decide)) rfl (pa_cons (pv 0) (pa_cons pe_int pa_nil))) pe_int)) pa_nil)) (fun _ _ _ _ => pifs_nil) (fun _ _ _ _ => by exact (pe_callD D__law_word (hr.mono (by decide)) rfl (pa_cons (pe_callD D__law_cell_at (hr.mono (by decide)) rfl (pa_cons (pv 1) (pa_cons pe_int pa_nil))) (pa_cons (pv 0) pa_nil)))))
  (pss_cons (ps_set (i := 5) sc_law.nd rfl (by first | exact Or.inl rfl | exact Or.inr rfl) (pe_callD D__law_mixed (hr.mono (by decide)) rfl (pa_cons (pv 0) (pa_cons (pe_callD D__law_runs (hr.mono (by decide)) rfl (pa_cons (pv 0) (pa_cons (pv 1) (pa_cons (pv 2) pa_nil)))) pa_nil))))
  (pss_cons (ps_asg (pe_callD D__law_heaps (hr.mono (by decide)) rfl (pa_cons (pv 0) (pa_cons (pv 5) (pa_cons (pv 3) (pa_cons (pv 4) pa_nil))))) (pg_tup rfl (pgs_cons (pg_name (i := 6) sc_law.nd rfl (by first | exact Or.inl rfl | exact Or.inr rfl)) (pgs_cons (pg_name (i := 7) sc_law.nd rfl (by first | exact Or.inl rfl | exact Or.inr rfl)) pgs_nil))))
  (pss_cons (ps_comp (i := 8) (frees := [("_law_heaps_here", 6)]) ⟨by decide +kernel, rfl, rfl, by decide +kernel, ⟨⟨rfl, rfl, rfl, by decide +kernel⟩, trivial⟩, by decide +kernel, cellsFor_at rfl, rfl⟩ sc_law.nd rfl rfl rfl (pi_list (pv 4)) (fun _ _ _ _ => pifs_nil) (fun _ _ _ _ => by exact (pe_tup (pa_cons (pv 0) (pa_cons (pe_callTy (call_list_ofK (K := K) rfl) rfl T.list bt_list (pa_cons (pe_dget hu (pv 1) (pv 0) (fun _ _ => rfl)) pa_nil)) pa_nil)))))
  (pss_cons (ps_set (i := 9) sc_law.nd rfl (by first | exact Or.inl rfl | exact Or.inr rfl) (pe_callE D_gathered passE0 (hr.mono (by decide)) rfl (pa_cons (pv 6) (pa_cons (pe_ix ix_list (pv 3) pe_int (fun _ _ => rfl)) pa_nil))))
  (pss_cons (ps_if (PW.pt (pw_or (pt_not (pt_truth (pe_callD D__law_alike (hr.mono (by decide)) rfl (pa_cons (pv 9) (pa_cons (pv 7) pa_nil))) (fun _ => rfl))) (pw_or1 (pt_cmpR (op_ne_dq (n := 0) hu) (pe_callE D_gathered passE0 (hr.mono (by decide)) rfl (pa_cons (pv 6) (pa_cons pe_str pa_nil))) (pe_lst pa_nil) (nomark _))))) (pss_one (ps_ret pe_bl)) pss_nil)
  (pss_cons (ps_for PassesOwn.never rfl (pi_list (pv 9)) (pg_name (i := 10) sc_law.nd rfl (by first | exact Or.inl rfl | exact Or.inr rfl))
  (pss_one (ps_expr (pe_bm PySem.F.plainAttrs_list PySem.F.slot_list_append PySem.F.type_list_append mt_append (pe_ix ix_tup (pv 10) pe_int (fun _ _ => rfl)) (pa_cons pe_int pa_nil)))))
  (pss_cons (ps_if (pt_not (pt_truth (pe_callD D__law_alike (hr.mono (by decide)) rfl (pa_cons (pe_callE D_gathered passE0 (hr.mono (by decide)) rfl (pa_cons (pv 6) (pa_cons (pe_ix ix_list (pv 3) pe_int (fun _ _ => rfl)) pa_nil))) (pa_cons (pv 7) pa_nil))) (fun _ => rfl))) (pss_one (ps_ret pe_bl)) pss_nil)
  (pss_cons (ps_set (i := 11) sc_law.nd rfl (by first | exact Or.inl rfl | exact Or.inr rfl) (pe_op op_mod (pe_op op_fdiv (pe_callD D__law_cell_at (hr.mono (by decide)) rfl (pa_cons (pv 0) (pa_cons pe_int pa_nil))) pe_int) pe_int))
  (pss_cons (ps_set (i := 12) sc_law.nd rfl (by first | exact Or.inl rfl | exact Or.inr rfl) (pv 1))
  (pss_cons (ps_if (pt_cmpR op_notN (pv 2) pe_non (nomark _)) (pss_one (ps_set (i := 12) sc_law.nd rfl (by first | exact Or.inl rfl | exact Or.inr rfl) (pv 2))) pss_nil)
  (pss_cons (ps_if (PW.pt (pw_or (pt_not (pt_truth (pe_callD D__law_is (hr.mono (by decide)) rfl (pa_cons (pe_callE D_first_lack passE0 (hr.mono (by decide)) rfl (pa_cons (pv 6) (pa_cons (pe_ix ix_list (pv 3) pe_int (fun _ _ => rfl)) (pa_cons (pe_op op_add (pe_op op_add (pv 1) pe_int) (pv 11)) pa_nil)))) (pa_cons (pv 12) pa_nil))) (fun _ => rfl))) (pw_or1 (pt_not (pt_truth (pe_callD D__law_is (hr.mono (by decide)) rfl (pa_cons (pe_callE D_first_lack passE0 (hr.mono (by decide)) rfl (pa_cons (pv 6) (pa_cons pe_str (pa_cons pe_int pa_nil)))) (pa_cons pe_int pa_nil))) (fun _ => rfl)))))) (pss_one (ps_ret pe_bl)) pss_nil)
  (pss_cons (ps_if (PW.pt (pw_and (pt_cmpR op_gt (pv 12) pe_int (nomark _)) (pw_and1 (pt_cmpR op_notN (pe_callE D_first_lack passE0 (hr.mono (by decide)) rfl (pa_cons (pv 6) (pa_cons (pe_ix ix_list (pv 3) pe_int (fun _ _ => rfl)) (pa_cons (pv 12) pa_nil)))) pe_non (nomark _))))) (pss_one (ps_ret pe_bl)) pss_nil)
  (pss_cons (ps_if (PW.pt (pw_or (pt_cmpR (op_ne_dq (n := 3) hu3) (pe_comp (frees := [("_law_heaps_here", 6)]) ⟨by decide +kernel, rfl, rfl, by decide +kernel, ⟨⟨rfl, rfl, rfl, by decide +kernel⟩, trivial⟩, by decide +kernel, cellsFor_at rfl, rfl⟩ rfl (pi_list (pv 4)) (fun _ _ _ _ => pifs_nil) (fun _ _ _ _ => by exact (pe_tup (pa_cons (pv 0) (pa_cons (pe_dget hu (pv 1) (pv 0) (fun _ _ => rfl)) pa_nil))))) (pv 8) (nomark _)) (pw_or1 (pt_cmpR (op_ne_dq (n := 0) hu) (pe_callTy (call_list_dict rfl) rfl T.list bt_list (pa_cons (pv 6) pa_nil)) (pv 4) (nomark _))))) (pss_one (ps_ret pe_bl)) pss_nil)
  (pss_cons (ps_if (pt_cmpR op_gt (pe_op op_mod (pe_callD D__law_cell_at (hr.mono (by decide)) rfl (pa_cons (pv 0) (pa_cons pe_int pa_nil))) pe_int) pe_int (nomark _)) (pss_one (ps_ret pe_bl)) pss_nil)
  (pss_one (ps_ret (pe_callD D__law_spoilt (hr.mono (by decide)) rfl (pa_cons (pv 0) (pa_cons (pv 6) (pa_cons (pv 3) (pa_cons (pv 4) pa_nil)))))))))))))))))))))))))), ?_⟩
  have y0 := Int.emod_nonneg (ns.getD (0 : Int).toNat 0) (show (40 : Int) ≠ 0 by decide)
  have y1 := Int.emod_lt_of_pos (ns.getD (0 : Int).toNat 0) (show (0 : Int) < 40 by decide)
  refine ⟨_, rfl, a, _, ns, rfl, hS, by decide, _, _, rfl, rfl, (by show (0 : Int) < 40; decide), _, _, rfl, rfl, ?_⟩
  obtain ⟨n, en⟩ : ∃ n : Nat, 1 + ns.getD (0 : Int).toNat 0 % 40 = (n : Int) := ⟨(1 + ns.getD (0 : Int).toNat 0 % 40).toNat, by omega⟩
  dsimp only [gName]
  rw [en]
  have n1 : 1 ≤ n := by omega
  have n4 : n ≤ 40 := by omega
  clear en y0 y1
  refine seq_cut (fun σ G => σ = [some (.ref a), some (.int (n : Int)), some .non, none, none, none, none, none, none, none, none, none, none] ∧ G = H) (fun RR hR => hR _ _ ⟨rfl, rfl⟩) (fun σ G z => ?_)
  obtain ⟨rfl, rfl⟩ := z
  refine seq_cut (fun σ G' => G' = G ∧ ∃ lo : V, σ = [some (.ref a), some (.int (n : Int)), some lo, none, none, none, none, none, none, none, none, none, none] ∧ (lo = .non ∨ ∃ i : Nat, lo = .int (i : Int) ∧ i < n)) (fun RR hR => ?_) (fun σ G' z => ?_)
  · refine ⟨_, rfl, a, _, ns, rfl, hS, by decide, _, _, rfl, rfl, cdiv (by decide) (by decide), _, _, rfl, rfl, (by show (0 : Int) < 4; decide), rfl, _, rfl, ite2 (fun _ => ?_) (fun _ => hR _ _ ⟨rfl, .non, rfl, .inl rfl⟩)⟩
    have w0 := Int.emod_nonneg (ns.getD (1 : Int).toNat 0) (show (n : Int) ≠ 0 by omega)
    have w1 := Int.emod_lt_of_pos (ns.getD (1 : Int).toNat 0) (show (0 : Int) < (n : Int) by omega)
    refine ⟨_, rfl, a, _, ns, rfl, hS, by decide, _, rfl, _, _, rfl, rfl, (by show (0 : Int) < (n : Int); omega), hR _ _ ⟨rfl, .int (ns.getD (1 : Int).toNat 0 % (n : Int)), rfl, .inr ⟨(ns.getD (1 : Int).toNat 0 % (n : Int)).toNat, by rw [Int.toNat_of_nonneg w0], by omega⟩⟩⟩
  obtain ⟨rfl, lo, rfl, hlo⟩ := z
  generalize hc1 : ns.getD (1 : Int).toNat 0 = ce1
  refine ⟨_, rfl, by decide, by decide, ?_⟩
  refine compB_seq (seq_range 0 3 G') (fun _ => true) (fun v => match v with | .int t => .str (wordP ce1 t (wSize ce1)) | _ => .non) (by rw [List.length_map, List.length_range]; exact small1000 (by decide)) (fun x _ H' R _ rr => rr) (fun x hx H' R sG _ rr => ?_) (fun jb H1 s1 njb hjb0 => ?_)
  · obtain ⟨t, _, rfl⟩ := List.mem_map.mp hx
    rw [← hc1] at rr
    exact ⟨_, rfl, a, 1, ns, rfl, sG.seq hS, by decide, _, rfl, _, _, rfl, rr⟩
  have okj := words_ok ce1 3 (by decide)
  obtain ⟨j0, j1, j2, ej⟩ : ∃ j0 j1 j2, wordsP ce1 3 = [j0, j1, j2] := ⟨_, _, _, rfl⟩
  have hjb : H1 jb = some (.lst [.str j0, .str j1, .str j2]) := by
    rw [hjb0, words_seq ce1 3 _ (fun t => by rw [Int.zero_add]), ej]
    rfl
  rw [ej] at okj
  clear hjb0 ej hc1
  dsimp only [gName]
  generalize hc2 : ns.getD (2 : Int).toNat 0 = ce2
  have y0 := Int.emod_nonneg (ns.getD (3 : Int).toNat 0) (show (5 : Int) ≠ 0 by decide)
  have y1 := Int.emod_lt_of_pos (ns.getD (3 : Int).toNat 0) (show (0 : Int) < 5 by decide)
  refine ⟨_, rfl, a, _, ns, rfl, s1.seq hS, by decide, _, _, rfl, rfl, (by show (0 : Int) < 5; decide), _, _, rfl, rfl, _, rfl, by omega, by omega, ?_⟩
  obtain ⟨m, em⟩ : ∃ m : Nat, (1 + ns.getD (3 : Int).toNat 0 % 5).toNat = m := ⟨_, rfl⟩
  rw [em]
  have m1 : 1 ≤ m := by omega
  have m5 : m ≤ 5 := by omega
  refine compB_seq (seq_range 0 m H1) (fun _ => true) (fun v => match v with | .int t => .str (wordP ce2 t (wSize ce2)) | _ => .non) (by rw [List.length_map, List.length_range]; exact small1000 (by omega)) (fun x _ H' R _ rr => rr) (fun x hx H' R sG _ rr => ?_) (fun pb H2 s2 npb hpb0 => ?_)
  · obtain ⟨t, _, rfl⟩ := List.mem_map.mp hx
    rw [← hc2] at rr
    exact ⟨_, rfl, a, 2, ns, rfl, (s1.trans sG).seq hS, by decide, _, rfl, _, _, rfl, rr⟩
  have okp := words_ok ce2 m (by omega)
  have hpb : H2 pb = some (.lst ((wordsP ce2 m).map V.str)) := by rw [hpb0, words_seq ce2 m _ (fun t => by rw [Int.zero_add])]
  have lp := words_len ce2 m
  generalize wordsP ce2 m = prs at okp hpb lp
  clear hpb0 hc2 y0 y1 em
  dsimp only [gName]
  have s12 := s1.trans s2
  have hlo' : lo = .non ∨ ∃ i, lo = .int i := hlo.imp id fun ⟨i, e, _⟩ => ⟨_, e⟩
  refine ⟨_, rfl, _, rfl, _, rfl, _, rfl, a, n, lo, ns, rfl, s12.seq hS, n4, hlo', fun r0 R0 H3 s3 nr0 ra0 ro => ?_⟩
  have l0 : R0.length ≤ 40 := by
    have a1 := flat_len R0 ro.ne
    rw [ro.fl] at a1
    have := rngF_len lo n
    omega
  refine ⟨a, r0, ns, R0, rfl, (s12.trans s3).seq hS, ra0, by omega, fun rl R H4 s4 nrl pmR ra => ?_⟩
  dsimp only [gName]
  have s14 := (s12.trans s3).trans s4
  have hjb4 := s4 _ _ (s3 _ _ (s2 _ _ hjb))
  have hpb4 := s4 _ _ (s3 _ _ hpb)
  have flR : ∀ i, i ∈ R.flatten ↔ i ∈ rngF lo n := fun i => by rw [← ro.fl]; exact pmR.flatten.mem_iff
  have lfl : R.flatten.length ≤ 40 := by
    rw [pmR.flatten.length_eq, ro.fl]
    exact Nat.le_trans (rngF_len lo n) n4
  have lR : R.length ≤ 40 := by rw [pmR.length_eq]; exact l0
  have hdR : (R.map fun r => r.headD 0).Nodup := (List.Perm.nodup_iff (pmR.map _)).mpr (head_nd R0 ro.ne (by rw [ro.fl]; exact rngF_nd lo n)).1
  have neR : ∀ r ∈ R, r ≠ [] := fun r hr' => ro.ne r (pmR.mem_iff.mp hr')
  have nnR : ∀ r ∈ R, ∀ i ∈ r, 0 ≤ i := fun r hr' i hi => (rngF_mem.mp ((flR i).mp (List.mem_flatten.mpr ⟨r, hr', hi⟩))).1
  have ndj := okj.nd
  have j10 : j1 ≠ j0 := fun z => by rw [z] at ndj; exact (List.nodup_cons.mp ndj).1 (.head _)
  have j20 : j2 ≠ j0 := fun z => by rw [z] at ndj; exact (List.nodup_cons.mp ndj).1 (.tail _ (.head _))
  refine ⟨_, rfl, _, rfl, _, rfl, _, rfl, a, rl, jb, pb, ns, R, j0, j1, j2, prs, rfl, s14.seq hS, ra, hjb4, hpb4, okp.nd, by omega, by omega, neR, nnR, lR, lfl, hdR, j10, j20, fun t d b H5 base S L s5 htt B eb okS spS smS pmL pwL eR hdue => ?_⟩
  refine ⟨t, _, rfl, SqT.of htt, rfl, _, _, rfl, _, _, rfl, rfl, ?_⟩
  clear hr
  have hpb5 := s5 _ _ hpb4
  have hjb5 := s5 _ _ hjb4
  have fsts : (rowsOf base S).map (·.1) = prs := by rw [rows_fst]; exact eb
  have lrows : (rowsOf base S).length = prs.length := by rw [← fsts, List.length_map]
  generalize hrw : rowsOf base S = rows at B smS fsts lrows
  have rowat : ∀ p ∈ prs, ∃ r ∈ rows, r.1 = p := fun p hp => by
    rw [← fsts] at hp
    obtain ⟨r, h1, h2⟩ := List.mem_map.mp hp
    exact ⟨r, h1, h2⟩
  have tgl : ∀ r ∈ rows, ∃ vs, H5 r.2.1 = some (.lst vs) := fun r hr' => by
    obtain ⟨ts, _, e1, _⟩ := B.t r hr'
    exact ⟨_, e1⟩
  refine ⟨_, rfl, pb, rfl, ⟨_, SqL.of hpb5⟩, compB_mk (seq_list (SqL.of hpb5)) (fun x y H3 => ∃ (t c : Addr) (r : HRow) (vs : List V), r ∈ rows ∧ x = .str r.1 ∧ y = .ref t ∧ H3 t = some (.tup [.str r.1, .ref c]) ∧ H3 c = some (.lst vs) ∧ H5 r.2.1 = some (.lst vs)) (by rw [List.length_map]; exact small1000 (by omega)) (fun x hx H' R' _ rr => rr) (fun x hx H' R' sm' rr => ?_) (fun kp H6 ys s6 nkp hkp ly gy => ?_)⟩
  · obtain ⟨p, hp, rfl⟩ := List.mem_map.mp hx
    obtain ⟨r, hr', rfl⟩ := rowat p hp
    obtain ⟨vs, hvs⟩ := tgl r hr'
    refine ⟨_, rfl, _, rfl, _, rfl, d, _, rfl, (B.same sm').get hr', r.2.1, vs, rfl, .inl (SqL.of (sm' _ _ hvs)), fun c nc => ⟨z2, fun u nu => ?_⟩⟩
    have cu : c ≠ u := ne_of_none upd_same nu
    refine rr _ _ ((same_new nc _).trans (same_new nu _)) ⟨fun x => x = u ∨ x = c, fun x hx => ?_, fun H3 h3 => ⟨u, c, r, vs, hr', rfl, rfl, by rw [h3 u (.inl rfl)]; exact upd_same, by rw [h3 c (.inr rfl), upd_ne cu]; exact upd_same, hvs⟩⟩
    rcases hx with rfl | rfl
    · exact ⟨(same_new nc (.lst vs)).free nu, _, upd_same⟩
    · exact ⟨nc, _, by rw [upd_ne cu]; exact upd_same⟩
  have kp6 : KpAt H6 kp rows := by
    rw [List.length_map] at ly
    obtain ⟨ks, e1, e2, e3⟩ := ks_of (P := fun r t c => H6 t = some (.tup [.str r.1, .ref c]) ∧ ∃ vs, H6 c = some (.lst vs) ∧ H6 r.2.1 = some (.lst vs)) rows ys (by rw [ly, lrows]) (fun i r y h1 h2 => by
      have hx : (prs.map V.str)[i]? = some (V.str r.1) := by rw [← fsts, List.getElem?_map, List.getElem?_map, h1]; rfl
      obtain ⟨u, c, r2, vs, mr2, er2, ey, g1, g2, g3⟩ := gy i _ y hx h2
      injection er2 with er2
      have := row_fst B.nk mr2 (List.mem_of_getElem? h1) er2.symm
      subst this
      exact ⟨u, c, ey, g1, vs, g2, s6 _ _ g3⟩)
    exact ⟨ks, e1, by rw [← e2]; exact hkp, e3⟩
  clear gy ly hkp tgl rowat
  dsimp only [gName]
  obtain ⟨M, eM, pmM⟩ := gath_perm j0 okS (base := base) (by rw [eb]; exact okp.nd) (by rw [eb]; exact spS)
  rw [hrw] at eM
  have lgS : (gS j0 S).length = R.length := by rw [← eR, List.length_map]
  have lM : M.length < 64 := by rw [pmM.length_eq, lgS]; omega
  have enb : gathA nbS [] rows = .ok [] := by rw [← hrw]; exact gath_none okS (not_ltr nb_ltr okj) base
  have eb9 : gathA (Str.ofString "b9") [] rows = .ok [] := by rw [← hrw]; exact gath_none okS (not_ltr b9_ltr okj) base
  have B6 := B.same s6
  have hps6 : HpsAt H6 d rows := ⟨B6.o, B6.t, by show sumR rows ≤ 300; omega⟩
  have due6 := hdue.same s6
  have s16 := (s14.trans s5).trans s6
  have hjb6 := s6 _ _ hjb5
  have hpb6 := s6 _ _ hpb5
  have ht6 := ht.same s16
  obtain ⟨tps, htp⟩ := ht6.is
  have toM : ∀ {x}, gathA j0 [] rows = .ok x → x = M := fun e => by rw [eM] at e; injection e with e; exact e.symm
  have toL : ∀ {L'}, List.Perm L' M → L'.Pairwise (fun a b => hdN a ≤ hdN b) → L' = L := fun p w => sort_one pwL w (p.trans (pmM.trans pmL.symm))
  refine ⟨_, rfl, _, rfl, jb, _, _, _, rfl, rfl, SqL.of hjb6, atI_nat (j := 0) rfl, d, rows, j0, rfl, hps6, ht6, fun M' e' => ?_, fun i e => by rw [eM] at e; cases e⟩
  obtain rfl := toM e'
  refine ⟨lM, fun D H7 L7 s7 t7 pm7 pw7 pc7 => ?_⟩
  obtain rfl := toL pm7 pw7
  dsimp only [gName]
  have lL : L7.length ≤ 40 := by rw [pmL.length_eq, lgS]; exact lR
  have lp40 : ∀ x ∈ L7, x.2.length ≤ 40 := fun x hx => by
    have m : x.2 ∈ R := by rw [← eR]; exact List.mem_map.mpr ⟨x, pmL.mem_iff.mp hx, rfl⟩
    have := mem_len m
    omega
  refine ⟨_, rfl, _, rfl, D, b, L7, rfl, pc7.due, due6.sameP htp s7, by omega, true, rfl, iteF ?_⟩
  refine ⟨_, rfl, d, rows, nbS, rfl, hps6.sameP htp s7, t7, fun M2 e2 => ?_, fun i e => by rw [enb] at e; cases e⟩
  obtain rfl : M2 = [] := by rw [enb] at e2; injection e2 with e2; exact e2.symm
  refine ⟨by decide, fun D2 H8 L8 s8 t8 pm8 _ pc8 => ?_⟩
  obtain rfl := List.Perm.eq_nil pm8
  obtain ⟨_, fr8, e8, hD8, _⟩ := pc8
  obtain rfl : fr8 = [] := List.map_eq_nil_iff.mp e8.symm
  refine ⟨Nat.zero_le _, fun el nel => ?_⟩
  have s9 := same_new nel (.lst [])
  have hel : upd H8 el (.lst []) el = some (.lst []) := upd_same
  have t9 := t8.same s9
  have s69 : SameP tP_gathered H6 (upd H8 el (.lst [])) := (s7.trans s8).trans s9.p
  obtain ⟨tps7, htp7⟩ := t7.is
  have s79 : SameP tP_gathered H7 (upd H8 el (.lst [])) := s8.trans s9.p
  have hD9 := s9 _ _ hD8
  dsimp -proj only
  generalize upd H8 el (.lst []) = H9 at s9 hel t9 s69 s79 hD9 ⊢
  refine ⟨D2, el, [], [], rfl, rfl, .inl ⟨SqL.of hD9, SqL.of hel⟩, rfl, fun j hj => absurd hj (Nat.not_lt_zero _), _, rfl, iteF ?_⟩
  obtain ⟨nD, fr, eL, hD7, nd7, g7⟩ := pc7
  have lfr : fr.length ≤ 40 := by rw [← List.length_map (f := fun r : Addr × Addr × Pc => r.2.2), ← eL]; exact lL
  have nl6 : ∀ r ∈ fr, H6 r.2.1 = none := fun r hr' => (g7 r hr').2.2.1
  have hD9' := s79 _ _ (ne_of hD7 htp7 (by intro z; cases z)) hD7
  refine ⟨_, rfl, D, rfl, ⟨_, SqL.of hD9'⟩, for_list (K := K) (a := D) (xs := fr.map fun (r : Addr × Addr × Pc) => V.ref r.1) (fun i σ G => ∃ v10 : Option V, σ = [some (.ref a), some (.int (n : Int)), some lo, some (.ref jb), some (.ref pb), some (.ref rl), some (.ref d), some (.ref b), some (.ref kp), some (.ref D), v10, none, none] ∧ SameP tP_gathered H6 G ∧ GTab G tP_gathered ∧ G D = some (.lst (fr.map fun r => V.ref r.1)) ∧ ∀ r ∈ fr, G r.1 = some (.tup [.str r.2.2.1, .ref r.2.1]) ∧ ∃ vs, G r.2.1 = some (.lst vs) ∧ vs.length ≤ 40 + i) ⟨_, rfl, s69, t9, hD9', fun r hr' => ?_⟩ (fun i σ G _ z => ?_) (fun i x σ G hx z => ?_) (fun σ G z => ?_)⟩
  · obtain ⟨ga, gb, _⟩ := g7 r hr'
    exact ⟨s79 _ _ (ne_of ga htp7 (by intro z; cases z)) ga, _, s79 _ _ (ne_of gb htp7 (by intro z; cases z)) gb, by rw [List.length_map]; exact lp40 r.2.2 (by rw [eL]; exact List.mem_map.mpr ⟨r, hr', rfl⟩)⟩
  · obtain ⟨_, _, _, _, hz, _⟩ := z
    exact SqL.of hz
  · obtain ⟨v10, rfl, sG, tG, hDG, gG⟩ := z
    rw [List.getElem?_map] at hx
    obtain ⟨r, er, rfl⟩ := Option.map_eq_some_iff.mp hx
    have hr' := List.mem_of_getElem? er
    have hi : i < fr.length := (List.getElem?_eq_some_iff.mp er).1
    obtain ⟨ga, vs, gb, lv⟩ := gG r hr'
    refine ⟨_, rfl, r.1, _, _, _, rfl, rfl, SqT.of ga, atI_nat (j := 1) rfl, .inl ⟨rfl, _, SqL.of gb⟩, r.2.1, vs, _, rfl, rfl, gb, small1000 (by omega), ?_⟩
    refine ⟨_, rfl, fun x o nx e => ?_, tab_upd tG gb, by rw [upd_ne (Ne.symm (g7 r hr').2.2.2)]; exact hDG, fun r2 hr2 => ?_⟩
    · rw [upd_ne (ne_of_none e (nl6 r hr'))]
      exact sG x o nx e
    · obtain ⟨ga2, vs2, gb2, lv2⟩ := gG r2 hr2
      refine ⟨by rw [upd_ne (ne_of ga2 gb (by intro z; cases z))]; exact ga2, ?_⟩
      by_cases c : r2.2.1 = r.2.1
      · exact ⟨_, by rw [c]; exact upd_same, by rw [List.length_append]; show vs.length + 1 ≤ _; omega⟩
      · exact ⟨vs2, by rw [upd_ne c]; exact gb2, by omega⟩
  obtain ⟨v10, rfl, sG, tG, _, _⟩ := z
  clear g7 hD7 nd7 nl6 hD9' hD9 hel s9 t9 s69 s79 s8 t8 s7 t7
  refine ⟨_, rfl, _, rfl, jb, _, _, _, rfl, rfl, SqL.of (sG _ _ (ne_of hjb6 htp (by intro z; cases z)) hjb6), atI_nat (j := 0) rfl, d, rows, j0, rfl, hps6.sameP htp sG, tG, fun M' e' => ?_, fun i e => by rw [eM] at e; cases e⟩
  obtain rfl := toM e'
  refine ⟨lM, fun D3 H10 L10 s10 t10 pm10 pw10 pc10 => ?_⟩
  obtain rfl := toL pm10 pw10
  have sA := sG.trans s10
  refine ⟨_, rfl, D3, b, L10, rfl, pc10.due, due6.sameP htp sA, by omega, true, rfl, iteF ?_⟩
  have hSA : SqL K H10 a (ns.map V.int) := (s16.seq hS).sameP htp sA
  have y0 := Int.emod_nonneg (ns.getD (3 : Int).toNat 0 / 5) (show (200 : Int) ≠ 0 by decide)
  have y1 := Int.emod_lt_of_pos (ns.getD (3 : Int).toNat 0 / 5) (show (0 : Int) < 200 by decide)
  refine ⟨_, rfl, a, _, ns, rfl, hSA, by decide, _, _, rfl, rfl, cdiv (by decide) (by decide), _, _, rfl, rfl, (by show (0 : Int) < 200; decide), ?_⟩
  obtain ⟨mo, emo⟩ : ∃ mo : Nat, ns.getD (3 : Int).toNat 0 / 5 % 200 = (mo : Int) := ⟨(ns.getD (3 : Int).toNat 0 / 5 % 200).toNat, by omega⟩
  dsimp only [gName]
  rw [emo]
  have mo2 : mo < 200 := by omega
  clear emo y0 y1
  refine ⟨_, rfl, ?_⟩
  dsimp only [gName]
  refine seq_cut (fun σ G' => G' = H10 ∧ ∃ lk : Nat, σ = [some (.ref a), some (.int (n : Int)), some lo, some (.ref jb), some (.ref pb), some (.ref rl), some (.ref d), some (.ref b), some (.ref kp), some (.ref D), v10, some (.int (mo : Int)), some (.int (lk : Int))] ∧ (∀ j : Nat, j < lk → (j : Int) ∈ rngF lo n) ∧ ¬ (lk : Int) ∈ rngF lo n ∧ lk ≤ n) (fun RR hR => ?_) (fun σ G2 z => ?_)
  · rcases hlo with rfl | ⟨i, rfl, hi⟩
    · have fin := hR [some (.ref a), some (.int (n : Int)), some .non, some (.ref jb), some (.ref pb), some (.ref rl), some (.ref d), some (.ref b), some (.ref kp), some (.ref D), v10, some (.int (mo : Int)), some (.int (n : Int))] H10 ⟨rfl, n, rfl, fun j hj => rngF_mem.mpr ⟨by omega, by omega, by intro z; cases z⟩, fun z => by have := (rngF_mem.mp z).2.1; omega, Nat.le_refl _⟩
      exact ⟨_, rfl, rfl, false, rfl, iteF fin⟩
    · have fin := hR [some (.ref a), some (.int (n : Int)), some (.int (i : Int)), some (.ref jb), some (.ref pb), some (.ref rl), some (.ref d), some (.ref b), some (.ref kp), some (.ref D), v10, some (.int (mo : Int)), some (.int (i : Int))] H10 ⟨rfl, i, rfl, fun j hj => rngF_mem.mpr ⟨by omega, by omega, fun z => by injection z with z; omega⟩, fun z => (rngF_mem.mp z).2.2 rfl, by omega⟩
      exact ⟨_, rfl, rfl, true, rfl, iteT ⟨_, rfl, fin⟩⟩
  obtain ⟨rfl, lk, rfl, lk1, lk2, lk3⟩ := z
  have memM : ∀ i : Int, i ∈ numsOf M' ↔ i ∈ rngF lo n := fun i => by
    rw [← flR, nums_flat, ← eR]
    exact (pmM.map _).flatten.mem_iff
  have lnM : (numsOf M').length ≤ 300 := by
    rw [nums_flat, (pmM.map (fun x : Pc => x.2)).flatten.length_eq, eR]; omega
  have e1 : lackN (numsOf M') (n + 1 + mo) = some lk := lack_hit (by omega) (fun j hj => (memM _).mpr (lk1 j hj)) (fun z => lk2 ((memM _).mp z))
  have e2 : lackN (numsOf M') lk = none := lack_none (fun j hj => (memM _).mpr (lk1 j hj))
  have e3 : lackN (numsOf []) 3 = some 0 := by decide
  have ix : ∀ {Hc : Hp}, SameP tP_gathered H6 Hc → SqL K Hc jb [.str j0, .str j1, .str j2] := fun s => SqL.of (s _ _ (ne_of hjb6 htp (by intro z; cases z)) hjb6)
  refine ⟨_, rfl, _, rfl, jb, _, _, _, rfl, rfl, ix sA, atI_nat (j := 0) rfl, _, rfl, _, _, rfl, rfl, _, rfl, _, _, rfl, rfl, d, rows, j0, n + 1 + mo, M', ?_, hps6.sameP htp sA, t10, by omega, eM, lM, lnM, fun H11 s11 t11 => ?_⟩
  · show [V.ref d, V.str j0, V.int ((n : Int) + 1 + (mo : Int))] = _
    rw [show (n : Int) + 1 + (mo : Int) = ((n + 1 + mo : Nat) : Int) by omega]
  rw [e1]
  have sB := sA.trans s11
  refine ⟨_, rfl, (lk : Int), rfl, true, rfl, iteF ?_⟩
  refine ⟨_, rfl, d, rows, Str.ofString "b9", 3, [], rfl, hps6.sameP htp sB, t11, by decide, eb9, by decide, by decide, fun H12 s12' t12 => ?_⟩
  rw [e3]
  have sC := sB.trans s12'
  refine ⟨0, rfl, true, rfl, iteF ?_⟩
  dsimp only [tNext]
  refine seq_cut (fun σ Hc => σ = [some (.ref a), some (.int (n : Int)), some lo, some (.ref jb), some (.ref pb), some (.ref rl), some (.ref d), some (.ref b), some (.ref kp), some (.ref D), v10, some (.int (mo : Int)), some (.int (lk : Int))] ∧ SameP tP_gathered H6 Hc ∧ GTab Hc tP_gathered) (fun RR hR => ?_) (fun σ Hc z => ?_)
  · refine ⟨_, rfl, _, _, rfl, rfl, _, rfl, ite2 (fun _ => ?_) (fun _ => iteF (hR _ _ ⟨rfl, sC, t12⟩))⟩
    refine ⟨_, rfl, _, rfl, jb, _, _, _, rfl, rfl, ix sC, atI_nat (j := 0) rfl, _, rfl, d, rows, j0, lk, M', rfl, hps6.sameP htp sC, t12, by omega, eM, lM, lnM, fun H13 s13 t13 => ?_⟩
    rw [e2]
    exact ⟨rfl, false, rfl, iteF (hR _ _ ⟨rfl, sC.trans s13, t13⟩)⟩
  obtain ⟨rfl, sD, tD⟩ := z
  clear sC t12 sB t11 e1 e2 e3 s12' s11 lnM memM lk1 lk2
  have hpbD := sD _ _ (ne_of hpb6 htp (by intro z; cases z)) hpb6
  have hpsD := hps6.sameP htp sD
  have BD := B6.sameP htp sD
  obtain ⟨ks, lks, hks, gks⟩ := kp6.sameP htp sD
  refine ⟨_, rfl, pb, rfl, ⟨_, SqL.of hpbD⟩, compB_mk (seq_list (SqL.of hpbD)) (fun x y H3 => ∃ (t : Addr) (r : HRow), r ∈ rows ∧ x = .str r.1 ∧ y = .ref t ∧ H3 t = some (.tup [.str r.1, .ref r.2.1])) (by rw [List.length_map]; exact small1000 (by omega)) (fun x hx H' R' _ rr => rr) (fun x hx H' R' sm' rr => ?_) (fun cl H14 ys s14' ncl hcl ly gy => ?_)⟩
  · obtain ⟨p, hp, rfl⟩ := List.mem_map.mp hx
    rw [← fsts] at hp
    obtain ⟨r, hr', rfl⟩ := List.mem_map.mp hp
    exact ⟨_, rfl, _, rfl, _, rfl, d, _, rfl, (BD.same sm').get hr', z2, fun u nu => rr _ _ (same_new nu _) ⟨fun x => x = u, fun x hx => by rw [hx]; exact ⟨nu, _, upd_same⟩, fun H3 h3 => ⟨u, r, hr', rfl, rfl, by rw [h3 u rfl]; exact upd_same⟩⟩⟩
  rw [List.length_map] at ly
  refine ⟨_, rfl, cl, kp, ys, _, rfl, rfl, .inl ⟨SqL.of hcl, SqL.of (s14' _ _ hks)⟩, by rw [ly, List.length_map, lks, lrows], fun j hj => ?_, _, rfl, iteF ?_⟩
  · have lj : j < rows.length := by omega
    obtain ⟨r, er⟩ : ∃ r, rows[j]? = some r := ⟨_, List.getElem?_eq_getElem lj⟩
    obtain ⟨k, ek⟩ : ∃ k, ks[j]? = some k := ⟨_, List.getElem?_eq_getElem (by omega)⟩
    obtain ⟨y, ey⟩ : ∃ y, ys[j]? = some y := ⟨_, List.getElem?_eq_getElem (by omega)⟩
    obtain ⟨u, r2, mr2, er2, ey2, hu2⟩ := gy j (V.str r.1) y (by rw [← fsts, List.getElem?_map, List.getElem?_map, er]; rfl) ey
    injection er2 with er2
    have := row_fst B.nk mr2 (List.mem_of_getElem? er) er2.symm
    subst this
    obtain ⟨gk1, vs, gk2, gk3⟩ := gks j _ k er ek
    obtain ⟨ts, et, hts, gts⟩ := hpsD.t r2 mr2
    rw [gk3] at hts
    injection hts with hts
    injection hts with hts
    subst hts
    have a1 : ys.getD j .non = .ref u := by rw [List.getD_eq_getElem?_getD, ey, ey2]; rfl
    have a2 : (ks.map fun k => V.ref k.1).getD j .non = .ref k.1 := by rw [List.getD_eq_getElem?_getD, List.getElem?_map, ek]; rfl
    rw [a1, a2]
    refine .inr ⟨u, k.1, _, _, rfl, rfl, .inr ⟨SqT.of hu2, SqT.of (s14' _ _ gk1)⟩, rfl, fun i hi => ?_⟩
    match i, hi with
    | 0, _ => exact .inl ⟨rfl, rfl⟩
    | 1, _ => exact .inr ⟨r2.2.1, k.2, _, _, rfl, rfl, .inl ⟨SqL.of (s14' _ _ gk3), SqL.of (s14' _ _ gk2)⟩, rfl, tags_deq (fun x hx => s14' _ _ (gts x hx))⟩
  refine ⟨_, rfl, d, _, rfl, s14' _ _ hpsD.o, fun l2 nl2 => ?_⟩
  have s15 := same_new nl2 (.lst ((hrD rows).map fun q => kV q.1))
  have el2 : (hrD rows).map (fun q => kV q.1) = prs.map V.str := by
    unfold hrD
    rw [List.map_map, ← fsts, List.map_map]
    rfl
  have hl2 : upd H14 l2 (.lst ((hrD rows).map fun q => kV q.1)) l2 = some (.lst (prs.map V.str)) := by rw [upd_same, el2]
  dsimp -proj only
  generalize upd H14 l2 (.lst ((hrD rows).map fun q => kV q.1)) = H15 at s15 hl2 ⊢
  have sE := (sD.trans s14'.p).trans s15.p
  refine ⟨_, rfl, l2, pb, _, _, rfl, rfl, .inl ⟨SqL.of hl2, SqL.of (s15 _ _ (s14' _ _ hpbD))⟩, rfl, fun j hj => ⟨rfl, flat_at (strs_flat prs) j⟩, _, rfl, iteF ?_⟩
  have hSE : SqL K H15 a (ns.map V.int) := (s16.seq hS).sameP htp sE
  refine ⟨_, rfl, a, _, ns, rfl, hSE, by decide, _, _, rfl, rfl, (by show (0 : Int) < 6; decide), _, _, rfl, rfl, _, rfl, ite2 (fun _ => ?_) (fun _ => ?_)⟩
  · exact q _
  have ht4 := ht.same s14
  obtain ⟨ps4, htp4⟩ := ht4.is
  have s4E : SameP tP_gathered H4 H15 := ((s5.trans s6).p).trans sE
  have BE : HB (offT H4 tP_gathered) H15 d (rowsOf base S) := by
    rw [hrw]
    have B' := B6.sameP htp sE
    exact ⟨off_none B'.n0, B'.o, B'.t, fun r hr' => off_none (B'.nw r hr'), B'.nd, B'.nk⟩
  exact ⟨_, rfl, _, rfl, _, rfl, _, rfl, a, d, jb, pb, ns, offT H4 tP_gathered, base, S, j0, j1, j2, prs, rfl, off_same s4E, off_seq htp4 (s14.seq hS), off_at htp4 hjb4 (by intro z; cases z), off_at htp4 hpb4 (by intro z; cases z), okp.nd, by omega, by omega, BE, eb, okS, by rw [hrw]; exact smS, (tD.same s14').same s15, not_ltr nb_ltr okj, fun H' => q H'⟩
end
end My
namespace PySem.W.Fast
theorem tw1170516018128484016:True:=⟨⟩
theorem tw9480420664931047708:True:=⟨⟩
theorem tw4754731520364015771:True:=⟨⟩
theorem tw10002839533358787019:True:=⟨⟩
theorem tw14031485564604510310:True:=⟨⟩
theorem tw17131574552963999438:True:=⟨⟩
end PySem.W.Fast
namespace My
open PySem L2
theorem bn1 {p : List Value → Prop} (h : ∀ a0 : Value, p [a0]) (us : List Value) (l : us.length = 1) : p us := match us, l with | [a0], _ => h a0
theorem bn2 {p : List Value → Prop} (h : ∀ a0 a1 : Value, p [a0, a1]) (us : List Value) (l : us.length = 2) : p us := match us, l with | [a0, a1], _ => h a0 a1
theorem bn3 {p : List Value → Prop} (h : ∀ a0 a1 a2 : Value, p [a0, a1, a2]) (us : List Value) (l : us.length = 3) : p us := match us, l with | [a0, a1, a2], _ => h a0 a1 a2
theorem bn4 {p : List Value → Prop} (h : ∀ a0 a1 a2 a3 : Value, p [a0, a1, a2, a3]) (us : List Value) (l : us.length = 4) : p us := match us, l with | [a0, a1, a2, a3], _ => h a0 a1 a2 a3
theorem all_mk {l : PySem.W.OpenLaw} {w : World} {K : PySem.W.Frag} {h : Heap} {mg : Str → Option Value} {fa cNoHeap cHallError tP_gathered f0 f1 f2 f3 f4 f5 f6 f7 f8 f9 f10 f11 f12 f13 f14 : Addr} (X : K.In h) (G : h.Ns mainGlobals mg) (hfa : mg "law" = some (.ref fa))
    {od0 an0 od1 an1 od2 an2 od3 an3 od4 an4 od5 an5 od6 an6 od7 an7 od8 an8 od9 an9 od10 an10 od11 an11 od12 an12 od13 an13 od14 an14 : Option Addr} {sl0 sl1 sl2 sl3 sl4 sl5 sl6 sl7 sl8 sl9 sl10 sl11 sl12 sl13 sl14 : Array (Option Value)}
    {oc0 kV0 dc0 pm0 cd0 ct0 oc1 kV1 dc1 pm1 cd1 ct1 oc2 kV2 dc2 pm2 cd2 ct2 oc3 kV3 dc3 pm3 cd3 ct3 oc4 kV4 dc4 pm4 cd4 ct4 oc5 kV5 dc5 pm5 cd5 ct5 oc6 kV6 dc6 pm6 cd6 ct6 oc7 kV7 dc7 pm7 cd7 ct7 oc8 kV8 dc8 pm8 cd8 ct8 oc9 kV9 dc9 pm9 cd9 ct9 oc10 kV10 dc10 pm10 cd10 ct10 oc11 kV11 dc11 pm11 cd11 ct11 oc12 kV12 dc12 pm12 cd12 ct12 oc13 kV13 dc13 pm13 cd13 ct13 oc14 kV14 dc14 pm14 cd14 ct14 : Value}
    (aC_NoHeap : PySem.W.nsIn K mainGlobals "NoHeap" = some (some (.ref cNoHeap)))
    (aC_HallError : PySem.W.nsIn K mainGlobals "HallError" = some (some (.ref cHallError)))
    (a0 : PySem.W.findIn K (.ref cNoHeap) "__init__" = some (some (.ref f0)))
    (i0 : PySem.W.isFn K (.ref f0) = true)
    (l0 : K.lookup f0 = some ⟨oc0, od0, .func (PySem.W.fnOf "__init__" "NoHeap.__init__" (defArgs s_NoHeap_init) (defBody s_NoHeap_init) (defScope s_NoHeap_init) .none kV0 dc0 pm0 an0 cd0 ct0), sl0⟩)
    (c0 : PySem.W.codeIn K cd0 "NoHeap.__init__" = true)
    (k0 : PySem.W.keepIn K (.ref f0) = true)
    (a1 : PySem.W.nsIn K mainGlobals "pieces" = some (some (.ref f1)))
    (l1 : K.lookup f1 = some ⟨oc1, od1, .func (PySem.W.fnOf "pieces" "pieces" (defArgs s_pieces) (defBody s_pieces) (defScope s_pieces) .none kV1 dc1 pm1 an1 cd1 ct1), sl1⟩)
    (c1 : PySem.W.codeIn K cd1 "pieces" = true)
    (k1 : PySem.W.keepIn K (.ref f1) = true)
    (a2 : PySem.W.nsIn K mainGlobals "gathered" = some (some (.ref f2)))
    (l2 : K.lookup f2 = some ⟨oc2, od2, .func (PySem.W.fnOf "gathered" "gathered" (defArgs s_gathered) (defBody s_gathered) (defScope s_gathered) .none kV2 dc2 pm2 an2 cd2 ct2), sl2⟩)
    (c2 : PySem.W.codeIn K cd2 "gathered" = true)
    (k2 : PySem.W.keepIn K (.ref f2) = true)
    (a3 : PySem.W.nsIn K mainGlobals "first_lack" = some (some (.ref f3)))
    (l3 : K.lookup f3 = some ⟨oc3, od3, .func (PySem.W.fnOf "first_lack" "first_lack" (defArgs s_first_lack) (defBody s_first_lack) (defScope s_first_lack) .none kV3 dc3 pm3 an3 cd3 ct3), sl3⟩)
    (c3 : PySem.W.codeIn K cd3 "first_lack" = true)
    (k3 : PySem.W.keepIn K (.ref f3) = true)
    (a4 : PySem.W.nsIn K mainGlobals "_law_cell_at" = some (some (.ref f4)))
    (l4 : K.lookup f4 = some ⟨oc4, od4, .func (PySem.W.fnOf "_law_cell_at" "_law_cell_at" (defArgs s__law_cell_at) (defBody s__law_cell_at) (defScope s__law_cell_at) .none kV4 dc4 pm4 an4 cd4 ct4), sl4⟩)
    (c4 : PySem.W.codeIn K cd4 "_law_cell_at" = true)
    (k4 : PySem.W.keepIn K (.ref f4) = true)
    (a5 : PySem.W.nsIn K mainGlobals "_law_mix" = some (some (.ref f5)))
    (l5 : K.lookup f5 = some ⟨oc5, od5, .func (PySem.W.fnOf "_law_mix" "_law_mix" (defArgs s__law_mix) (defBody s__law_mix) (defScope s__law_mix) .none kV5 dc5 pm5 an5 cd5 ct5), sl5⟩)
    (c5 : PySem.W.codeIn K cd5 "_law_mix" = true)
    (k5 : PySem.W.keepIn K (.ref f5) = true)
    (a6 : PySem.W.nsIn K mainGlobals "_law_word" = some (some (.ref f6)))
    (l6 : K.lookup f6 = some ⟨oc6, od6, .func (PySem.W.fnOf "_law_word" "_law_word" (defArgs s__law_word) (defBody s__law_word) (defScope s__law_word) .none kV6 dc6 pm6 an6 cd6 ct6), sl6⟩)
    (c6 : PySem.W.codeIn K cd6 "_law_word" = true)
    (k6 : PySem.W.keepIn K (.ref f6) = true)
    (a7 : PySem.W.nsIn K mainGlobals "_law_runs" = some (some (.ref f7)))
    (l7 : K.lookup f7 = some ⟨oc7, od7, .func (PySem.W.fnOf "_law_runs" "_law_runs" (defArgs s__law_runs) (defBody s__law_runs) (defScope s__law_runs) .none kV7 dc7 pm7 an7 cd7 ct7), sl7⟩)
    (c7 : PySem.W.codeIn K cd7 "_law_runs" = true)
    (k7 : PySem.W.keepIn K (.ref f7) = true)
    (a8 : PySem.W.nsIn K mainGlobals "_law_mixed" = some (some (.ref f8)))
    (l8 : K.lookup f8 = some ⟨oc8, od8, .func (PySem.W.fnOf "_law_mixed" "_law_mixed" (defArgs s__law_mixed) (defBody s__law_mixed) (defScope s__law_mixed) .none kV8 dc8 pm8 an8 cd8 ct8), sl8⟩)
    (c8 : PySem.W.codeIn K cd8 "_law_mixed" = true)
    (k8 : PySem.W.keepIn K (.ref f8) = true)
    (a9 : PySem.W.nsIn K mainGlobals "_law_heaps" = some (some (.ref f9)))
    (l9 : K.lookup f9 = some ⟨oc9, od9, .func (PySem.W.fnOf "_law_heaps" "_law_heaps" (defArgs s__law_heaps) (defBody s__law_heaps) (defScope s__law_heaps) .none kV9 dc9 pm9 an9 cd9 ct9), sl9⟩)
    (c9 : PySem.W.codeIn K cd9 "_law_heaps" = true)
    (k9 : PySem.W.keepIn K (.ref f9) = true)
    (a10 : PySem.W.nsIn K mainGlobals "_law_alike" = some (some (.ref f10)))
    (l10 : K.lookup f10 = some ⟨oc10, od10, .func (PySem.W.fnOf "_law_alike" "_law_alike" (defArgs s__law_alike) (defBody s__law_alike) (defScope s__law_alike) .none kV10 dc10 pm10 an10 cd10 ct10), sl10⟩)
    (c10 : PySem.W.codeIn K cd10 "_law_alike" = true)
    (k10 : PySem.W.keepIn K (.ref f10) = true)
    (a11 : PySem.W.nsIn K mainGlobals "_law_is" = some (some (.ref f11)))
    (l11 : K.lookup f11 = some ⟨oc11, od11, .func (PySem.W.fnOf "_law_is" "_law_is" (defArgs s__law_is) (defBody s__law_is) (defScope s__law_is) .none kV11 dc11 pm11 an11 cd11 ct11), sl11⟩)
    (c11 : PySem.W.codeIn K cd11 "_law_is" = true)
    (k11 : PySem.W.keepIn K (.ref f11) = true)
    (a12 : PySem.W.nsIn K mainGlobals "_law_refused" = some (some (.ref f12)))
    (l12 : K.lookup f12 = some ⟨oc12, od12, .func (PySem.W.fnOf "_law_refused" "_law_refused" (defArgs s__law_refused) (defBody s__law_refused) (defScope s__law_refused) .none kV12 dc12 pm12 an12 cd12 ct12), sl12⟩)
    (c12 : PySem.W.codeIn K cd12 "_law_refused" = true)
    (k12 : PySem.W.keepIn K (.ref f12) = true)
    (a13 : PySem.W.nsIn K mainGlobals "_law_spoilt" = some (some (.ref f13)))
    (l13 : K.lookup f13 = some ⟨oc13, od13, .func (PySem.W.fnOf "_law_spoilt" "_law_spoilt" (defArgs s__law_spoilt) (defBody s__law_spoilt) (defScope s__law_spoilt) .none kV13 dc13 pm13 an13 cd13 ct13), sl13⟩)
    (c13 : PySem.W.codeIn K cd13 "_law_spoilt" = true)
    (k13 : PySem.W.keepIn K (.ref f13) = true)
    (a14 : PySem.W.nsIn K mainGlobals "law" = some (some (.ref f14)))
    (l14 : K.lookup f14 = some ⟨oc14, od14, .func (PySem.W.fnOf "law" "law" (defArgs s_law) (defBody s_law) (defScope s_law) .none kV14 dc14 pm14 an14 cd14 ct14), sl14⟩)
    (c14 : PySem.W.codeIn K cd14 "law" = true)
    (k14 : PySem.W.keepIn K (.ref f14) = true)
    (xc_NoHeap : xcls K cNoHeap ["place"] = true)
    (xm_NoHeap : PySem.W.excMk K cNoHeap = true)
    (kc_NoHeap : PySem.W.keepIn K (.ref cNoHeap) = true)
    (mh_NoHeap_NoHeap : PySem.W.mroHas K cNoHeap (.ref cNoHeap) = true)
    (xcn : PySem.W.specialIn K (.builtin "object.__class__") "__get__" = some (some (.builtin "getset_descriptor.__get__")))
    (xct : PySem.W.takesIn K (.builtin "object.__class__") = some true)
    (xb1 : PySem.W.specialIn K (.ref cHallError) "__getattribute__" = some (some (.builtin "type.__getattribute__")))
    (xb2 : PySem.W.readsIn K cHallError (.type "type") = true)
    (xb3 : PySem.W.findCls K (.ref cHallError) (.type "type") "__init__" = some (.val (.builtin "ValueError.__init__")))
    (xkt : kitTab K [cNoHeap] cHallError = true)
    {xSLIP : Int} {tSLIP : Tok}
    (gSLIP : PySem.W.nsIn K mainGlobals "SLIP" = some (some (.int xSLIP tSLIP)))
    (eSLIP : xSLIP = -1)
    (z_len : PySem.W.nsIn K mainGlobals "len" = some none)
    (z_range : PySem.W.nsIn K mainGlobals "range" = some none)
    (z_enumerate : PySem.W.nsIn K mainGlobals "enumerate" = some none)
    (z_int : PySem.W.nsIn K mainGlobals "int" = some none)
    (z_bool : PySem.W.nsIn K mainGlobals "bool" = some none)
    (z_tuple : PySem.W.nsIn K mainGlobals "tuple" = some none)
    (z_list : PySem.W.nsIn K mainGlobals "list" = some none)
    (z_isinstance : PySem.W.nsIn K mainGlobals "isinstance" = some none)
    (z_min : PySem.W.nsIn K mainGlobals "min" = some none)
    (z_sorted : PySem.W.nsIn K mainGlobals "sorted" = some none)
    (z_ValueError : PySem.W.nsIn K mainGlobals "ValueError" = some none)
    {cL_gathered : Addr}
    (hl_gathered : cd2 = .ref cL_gathered)
    (hc_gathered : PySem.W.codeHdIn K cL_gathered tP_gathered = true)
    : ∃ fd : FuncData, (∀ (s : Shared) (v : Value), BindsTo s fd ⟨[v], []⟩ [("_law_script", v)]) ∧ (∃ c, PySem.W.codeHdIn K c tP_gathered = true) ∧ ∀ base : Heap, K.In base → base.Ns mainGlobals mg → BMain base mg → FnOk l.prog w K mg base CX0 7 fa fd ["_law_script"] (sp_law K tP_gathered) := by
  have e := hfa.symm.trans (PySem.W.mg_of X G a14)
  cases e
  have F0 := fun_mk (st := s_NoHeap_init) l0 c0 k0
  have F1 := fun_mk (st := s_pieces) l1 c1 k1
  have F2 := fun_mk (st := s_gathered) l2 c2 k2
  have F3 := fun_mk (st := s_first_lack) l3 c3 k3
  have F4 := fun_mk (st := s__law_cell_at) l4 c4 k4
  have F5 := fun_mk (st := s__law_mix) l5 c5 k5
  have F6 := fun_mk (st := s__law_word) l6 c6 k6
  have F7 := fun_mk (st := s__law_runs) l7 c7 k7
  have F8 := fun_mk (st := s__law_mixed) l8 c8 k8
  have F9 := fun_mk (st := s__law_heaps) l9 c9 k9
  have F10 := fun_mk (st := s__law_alike) l10 c10 k10
  have F11 := fun_mk (st := s__law_is) l11 c11 k11
  have F12 := fun_mk (st := s__law_refused) l12 c12 k12
  have F13 := fun_mk (st := s__law_spoilt) l13 c13 k13
  have F14 := fun_mk (st := s_law) l14 c14 k14
  have b0 := F0.binds (ps := ["self", "place"]) fun _ _ _ _ _ _ => bn2 fun _ _ => rfl
  have b1 := F1.binds (ps := ["heap"]) fun _ _ _ _ _ _ => bn1 fun _ => rfl
  have b2 := F2.binds (ps := ["heaps", "name"]) fun _ _ _ _ _ _ => bn2 fun _ _ => rfl
  have b3 := F3.binds (ps := ["heaps", "name", "total"]) fun _ _ _ _ _ _ => bn3 fun _ _ _ => rfl
  have b4 := F4.binds (ps := ["_law_script", "_law_k"]) fun _ _ _ _ _ _ => bn2 fun _ _ => rfl
  have b5 := F5.binds (ps := ["_law_cell", "_law_k", "_law_many"]) fun _ _ _ _ _ _ => bn3 fun _ _ _ => rfl
  have b6 := F6.binds (ps := ["_law_cell", "_law_turn"]) fun _ _ _ _ _ _ => bn2 fun _ _ => rfl
  have b7 := F7.binds (ps := ["_law_script", "_law_n", "_law_left_out"]) fun _ _ _ _ _ _ => bn3 fun _ _ _ => rfl
  have b8 := F8.binds (ps := ["_law_script", "_law_runs_here"]) fun _ _ _ _ _ _ => bn2 fun _ _ => rfl
  have b9 := F9.binds (ps := ["_law_script", "_law_runs_here", "_law_jobs", "_law_printers"]) fun _ _ _ _ _ _ => bn4 fun _ _ _ _ => rfl
  have b10 := F10.binds (ps := ["_law_told", "_law_due"]) fun _ _ _ _ _ _ => bn2 fun _ _ => rfl
  have b11 := F11.binds (ps := ["_law_num", "_law_due"]) fun _ _ _ _ _ _ => bn2 fun _ _ => rfl
  have b12 := F12.binds (ps := ["_law_heaps_here", "_law_name"]) fun _ _ _ _ _ _ => bn2 fun _ _ => rfl
  have b13 := F13.binds (ps := ["_law_script", "_law_heaps_here", "_law_jobs", "_law_printers"]) fun _ _ _ _ _ _ => bn4 fun _ _ _ _ => rfl
  have b14 := F14.binds (ps := ["_law_script"]) fun _ _ _ _ _ _ => bn1 fun _ => rfl
  have T : Txt K mg cNoHeap cHallError tP_gathered := ⟨PySem.W.mg_none_of X G z_len, PySem.W.mg_none_of X G z_range, PySem.W.mg_none_of X G z_enumerate, PySem.W.mg_none_of X G z_int, PySem.W.mg_none_of X G z_bool, PySem.W.mg_none_of X G z_tuple, PySem.W.mg_none_of X G z_list, PySem.W.mg_none_of X G z_isinstance, PySem.W.mg_none_of X G z_min, PySem.W.mg_none_of X G z_sorted, PySem.W.mg_none_of X G z_ValueError, ⟨⟨tSLIP, by rw [← eSLIP]; exact PySem.W.mg_of X G gSLIP⟩⟩, mh_NoHeap_NoHeap, XCl.of xc_NoHeap xm_NoHeap xcn xct, PySem.W.mg_of X G aC_NoHeap, ⟨xb1, xb2, xb3⟩, PySem.W.mg_of X G aC_HallError, xkt⟩
  refine ⟨PySem.W.fnOf "law" "law" (defArgs s_law) (defBody s_law) (defScope s_law) .none kV14 dc14 pm14 an14 cd14 ct14, fun s v => .of_eq rfl, ⟨cL_gathered, hc_gathered⟩, fun base _ _ BM => ?_⟩
  have D__law_mix : Dfn l.prog w K mg base 1 "_law_mix" ["_law_cell", "_law_k", "_law_many"] (sp__law_mix K) := ⟨_, _, ok__law_mix F5 T, b5, k5, PySem.W.mg_of X G a5⟩
  have D__law_cell_at : Dfn l.prog w K mg base 1 "_law_cell_at" ["_law_script", "_law_k"] (sp__law_cell_at K) := ⟨_, _, ok__law_cell_at F4 T, b4, k4, PySem.W.mg_of X G a4⟩
  have D__law_mixed : Dfn l.prog w K mg base 2 "_law_mixed" ["_law_script", "_law_runs_here"] (sp__law_mixed K) := ⟨_, _, ok__law_mixed F8 T D__law_mix D__law_cell_at, b8, k8, PySem.W.mg_of X G a8⟩
  have D__law_heaps : Dfn l.prog w K mg base 2 "_law_heaps" ["_law_script", "_law_runs_here", "_law_jobs", "_law_printers"] (sp__law_heaps K) := ⟨_, _, ok__law_heaps F9 T D__law_cell_at D__law_mix, b9, k9, PySem.W.mg_of X G a9⟩
  have X_NoHeap : MkXD l.prog w K mg base 1 "NoHeap" cNoHeap ["self", "place"] (sp_one cNoHeap "place") := ⟨⟨_, _, ⟨xm_NoHeap, a0, i0, kc_NoHeap⟩, ok_NoHeap_init F0 T, b0, PySem.W.mg_of X G aC_NoHeap⟩, by decide⟩
  have D_pieces : DfE l.prog w K mg base 3 "pieces" ["heap"] (sp_pieces cNoHeap) := ⟨_, _, ok_pieces F1 T X_NoHeap, b1, k1, PySem.W.mg_of X G a1⟩
  have D_gathered : DfE l.prog w K mg base 4 "gathered" ["heaps", "name"] (sp_gathered cNoHeap tP_gathered) := ⟨_, _, ok_gathered F2 T hl_gathered hc_gathered BM D_pieces, b2, k2, PySem.W.mg_of X G a2⟩
  have D__law_is : Dfn l.prog w K mg base 1 "_law_is" ["_law_num", "_law_due"] (sp__law_is K) := ⟨_, _, ok__law_is F11 T, b11, k11, PySem.W.mg_of X G a11⟩
  have D__law_refused : Dfn l.prog w K mg base 5 "_law_refused" ["_law_heaps_here", "_law_name"] (sp__law_refused cNoHeap tP_gathered) := ⟨_, _, ok__law_refused F12 T D_gathered, b12, k12, PySem.W.mg_of X G a12⟩
  have D__law_spoilt : Dfn l.prog w K mg base 6 "_law_spoilt" ["_law_script", "_law_heaps_here", "_law_jobs", "_law_printers"] (sp__law_spoilt K cNoHeap tP_gathered) := ⟨_, _, ok__law_spoilt F13 T D__law_cell_at D__law_mix D__law_is D__law_refused, b13, k13, PySem.W.mg_of X G a13⟩
  have D__law_word : Dfn l.prog w K mg base 1 "_law_word" ["_law_cell", "_law_turn"] (sp__law_word K) := ⟨_, _, ok__law_word F6 T, b6, k6, PySem.W.mg_of X G a6⟩
  have D__law_runs : Dfn l.prog w K mg base 2 "_law_runs" ["_law_script", "_law_n", "_law_left_out"] (sp__law_runs K) := ⟨_, _, ok__law_runs F7 T D__law_mix D__law_cell_at, b7, k7, PySem.W.mg_of X G a7⟩
  have D__law_alike : Dfn l.prog w K mg base 1 "_law_alike" ["_law_told", "_law_due"] (sp__law_alike K) := ⟨_, _, ok__law_alike F10 T, b10, k10, PySem.W.mg_of X G a10⟩
  have D_first_lack : DfE l.prog w K mg base 5 "first_lack" ["heaps", "name", "total"] (sp_first_lack cNoHeap tP_gathered) := ⟨_, _, ok_first_lack F3 T D_gathered, b3, k3, PySem.W.mg_of X G a3⟩
  exact ok_law F14 T D__law_mixed D__law_heaps D_gathered D__law_spoilt D__law_word D__law_runs D__law_alike D__law_cell_at D__law_is D_first_lack
theorem walk {l : PySem.W.OpenLaw} {q : Program} {loose : List Str} {XP : (Str → Option Value) → Heap → Prop} {YP : World → Heap → Prop} {d : DefRec} {K : Params → PySem.W.Frag} {tP_gathered : Addr} (hn : l.most = some 63) (hdf : d.params.defaults = [])
    (hY : ∀ (w : World) (h : Heap), YP w h → (K w.params).In h) (hT : ∀ (w : World) (h : Heap), YP w h → h.get? tP_gathered = some (PySem.W.tabObj #[])) (hKt : ∀ (w : World), (K w.params).lookup tP_gathered = none)
    (F : ∀ (w : World) (mg : Str → Option Value) (fa : Addr) (h : Heap), (K w.params).In h → h.Ns mainGlobals mg → mg d.name = some (.ref fa) →
      ∃ fd : FuncData, (∀ (s : Shared) (u : Value), BindsTo s fd ⟨[u], []⟩ [("_law_script", u)]) ∧ (∃ c, PySem.W.codeHdIn (K w.params) c tP_gathered = true) ∧ ∀ base : Heap, (K w.params).In base → base.Ns mainGlobals mg → BMain base mg → FnOk l.prog w (K w.params) mg base CX0 7 fa fd ["_law_script"] (sp_law (K w.params) tP_gathered)) :
    PySem.W.WalkO q loose XP YP l.row.toRowW d [] (fun f vs => PySem.call f vs) :=
  L2.walk_of1 (n := 63) (k := 7) (x := "_law_script") (tP := tP_gathered) (CX := fun _ => CX0) (sp := fun w => sp_law (K w.params) tP_gathered) hn (by decide) hdf ⟨rfl, by decide, by decide⟩ hY hT hKt F (fun _ _ a ns hl hP hS => ⟨a, rfl, ⟨⟨ns, hS, hl⟩⟩, .inl hP, fun _ => rfl⟩) fun _ _ _ _ _ z => z
end My
open PySem PySem.W PyProof.Rows
set_option maxRecDepth 100000 in
set_option maxHeartbeats 0 in
theorem PySem.Challenge.cw_spoolhall_k37_gathered_holds : PySem.Challenge.rw_spoolhall_k37_gathered.Holds := by
  w_on; o_law; k_head; (case hw => w_witness2)
  k_fill
  refine My.walk (l := PySem.Challenge.rw_spoolhall_k37_gathered) rfl rfl (fun w h Y => PySem.W.km_in_of Y) (fun w h Y => PySem.W.km_tabs_of Y _ (List.mem_singleton.mpr rfl)) (fun w => by kernel_rfl) ?F
  case F =>
    intro w mg fa h KX G hmg
    refine' My.all_mk KX G hmg ?aC_NoHeap ?aC_HallError ?a0 ?i0 ?l0 ?c0 ?k0 ?a1 ?l1 ?c1 ?k1 ?a2 ?l2 ?c2 ?k2 ?a3 ?l3 ?c3 ?k3 ?a4 ?l4 ?c4 ?k4 ?a5 ?l5 ?c5 ?k5 ?a6 ?l6 ?c6 ?k6 ?a7 ?l7 ?c7 ?k7 ?a8 ?l8 ?c8 ?k8 ?a9 ?l9 ?c9 ?k9 ?a10 ?l10 ?c10 ?k10 ?a11 ?l11 ?c11 ?k11 ?a12 ?l12 ?c12 ?k12 ?a13 ?l13 ?c13 ?k13 ?a14 ?l14 ?c14 ?k14 ?xc_NoHeap ?xm_NoHeap ?kc_NoHeap ?mh_NoHeap_NoHeap ?xcn ?xct ?xb1 ?xb2 ?xb3 ?xkt ?gSLIP ?eSLIP ?z_len ?z_range ?z_enumerate ?z_int ?z_bool ?z_tuple ?z_list ?z_isinstance ?z_min ?z_sorted ?z_ValueError ?hl_gathered ?hc_gathered
    (case aC_NoHeap => k_is)
    (case aC_HallError => k_is)
    (case a0 => k_is)
    (case i0 => k_is)
    (case l0 => k_is)
    (case c0 => k_is)
    (case k0 => k_is)
    (case a1 => k_is)
    (case l1 => k_is)
    (case c1 => k_is)
    (case k1 => k_is)
    (case a2 => k_is)
    (case l2 => k_is)
    (case c2 => k_is)
    (case k2 => k_is)
    (case a3 => k_is)
    (case l3 => k_is)
    (case c3 => k_is)
    (case k3 => k_is)
    (case a4 => k_is)
    (case l4 => k_is)
    (case c4 => k_is)
    (case k4 => k_is)
    (case a5 => k_is)
    (case l5 => k_is)
    (case c5 => k_is)
    (case k5 => k_is)
    (case a6 => k_is)
    (case l6 => k_is)
    (case c6 => k_is)
    (case k6 => k_is)
    (case a7 => k_is)
    (case l7 => k_is)
    (case c7 => k_is)
    (case k7 => k_is)
    (case a8 => k_is)
    (case l8 => k_is)
    (case c8 => k_is)
    (case k8 => k_is)
    (case a9 => k_is)
    (case l9 => k_is)
    (case c9 => k_is)
    (case k9 => k_is)
    (case a10 => k_is)
    (case l10 => k_is)
    (case c10 => k_is)
    (case k10 => k_is)
    (case a11 => k_is)
    (case l11 => k_is)
    (case c11 => k_is)
    (case k11 => k_is)
    (case a12 => k_is)
    (case l12 => k_is)
    (case c12 => k_is)
    (case k12 => k_is)
    (case a13 => k_is)
    (case l13 => k_is)
    (case c13 => k_is)
    (case k13 => k_is)
    (case a14 => k_is)
    (case l14 => k_is)
    (case c14 => k_is)
    (case k14 => k_is)
    (case xc_NoHeap => kernel_rfl)
    (case xm_NoHeap => kernel_rfl)
    (case kc_NoHeap => k_is)
    (case mh_NoHeap_NoHeap => kernel_rfl)
    (case xcn => k_is)
    (case xct => k_is)
    (case xb1 => k_is)
    (case xb2 => k_is)
    (case xb3 => k_is)
    (case xkt => kernel_rfl)
    (case gSLIP => k_is)
    (case eSLIP => rfl)
    (case z_len => k_is)
    (case z_range => k_is)
    (case z_enumerate => k_is)
    (case z_int => k_is)
    (case z_bool => k_is)
    (case z_tuple => k_is)
    (case z_list => k_is)
    (case z_isinstance => k_is)
    (case z_min => k_is)
    (case z_sorted => k_is)
    (case z_ValueError => k_is)
    (case hl_gathered => rfl)
    (case hc_gathered => kernel_rfl)
#print axioms PySem.Challenge.cw_spoolhall_k37_gathered_holds
