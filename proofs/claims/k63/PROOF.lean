import PyProof.Rows.All
import Wide.All
import OpenK.AllK
import Wide.FinOn
import Lean
import PyProof.EqAt
import PyProof.EqKinds
import PyProof.TupleCall
import PyProof.EnumMake
import PyProof.Draws
import PyProof.InstStoreFacts
import PyProof.ExcArgs
import PyProof.ExcBaseAll.ValueError
import KE.KDictLaws
import OpenK.KOwn
import PyProof.ListRange
import PyProof.AttrMissHeap
import PyProof.MinMaxWalk
import PyProof.WalksMore
import PyProof.NeKinds
import KE.KDictList
import KE.KDictSum
import KE.KEqDict
import PyProof.DictItems
import KE.KPairComp
import PyProof.EqAt
import PyProof.NeKinds
import PyProof.MeetsSeq3
import KE.KLam
import KE.KMinKey
import KE.KNestM
import PyProof.MinMaxWalk
import PyProof.Rows.CallKw2
import PyProof.DictTruth
import KE.KRevIter
import PyProof.SumWalk
import PyProof.Rows.TupDisplay
import PySem.Challenge.RW_spoolhall_k63_whole_fewest_changes
set_option Elab.async false
set_option linter.all false
set_option maxRecDepth 100000
namespace L2
open PySem PySem.Spec PyProof.Rows
abbrev Key := Sum Int Str
def keyIs : Key → Value → Bool
  | .inl k, v => Value.isInt k v
  | .inr x, v => Value.isStrOf x v
def keyH (w : World) : Key → Int
  | .inl k => hashInt k
  | .inr x => hashStr w x
theorem keyIs_shape : ∀ {k : Key} {v : Value}, keyIs k v = true → (∃ i t, k = Sum.inl i ∧ v = Value.int i t) ∨ (∃ x t, k = Sum.inr x ∧ v = Value.str x t)
  | .inl i, v, h => by
    obtain ⟨t, e⟩ := Value.isInt_shape (k := i) (v := v) h
    exact .inl ⟨i, t, rfl, e⟩
  | .inr x, v, h => by
    obtain ⟨t, e⟩ := Value.isStrOf_shape (x := x) (v := v) h
    exact .inr ⟨x, t, rfl, e⟩
theorem keyIs_int (i : Int) (t : Tok) : keyIs (.inl i) (.int i t) = true := by simp [keyIs, Value.isInt]
theorem keyIs_str (x : Str) (t : Tok) : keyIs (.inr x) (.str x t) = true := by simp [keyIs, Value.isStrOf]
theorem key_ll (a b : Int) : decide ((Sum.inl a : Key) = Sum.inl b) = (a == b) := by
  by_cases e : a = b
  · subst e; simp
  · have h : ¬ (Sum.inl a : Key) = Sum.inl b := fun q => e (Sum.inl.inj q)
    rw [decide_eq_false h]
    exact (beq_eq_false_iff_ne.mpr e).symm
theorem key_rr (a b : Str) : decide ((Sum.inr a : Key) = Sum.inr b) = decide (a = b) := by
  by_cases e : a = b
  · subst e; simp
  · have h : ¬ (Sum.inr a : Key) = Sum.inr b := fun q => e (Sum.inr.inj q)
    rw [decide_eq_false h, decide_eq_false e]
theorem key_lr (a : Int) (b : Str) : decide ((Sum.inl a : Key) = Sum.inr b) = false := decide_eq_false (fun q => nomatch q)
theorem key_rl (a : Str) (b : Int) : decide ((Sum.inr a : Key) = Sum.inl b) = false := decide_eq_false (fun q => nomatch q)
def mixKind (prog : Program) (w : World) : PySem.KeyKind prog w Key where
  is := keyIs
  hash := keyH w
  inj := fun v a b ha hb => by
    rcases keyIs_shape ha with ⟨i, t, rfl, rfl⟩ | ⟨x, t, rfl, rfl⟩
    · rcases keyIs_shape hb with ⟨j, u, rfl, e⟩ | ⟨y, u, rfl, e⟩
      · injection e with e1 _; rw [e1]
      · exact nomatch e
    · rcases keyIs_shape hb with ⟨j, u, rfl, e⟩ | ⟨y, u, rfl, e⟩
      · exact nomatch e
      · injection e with e1 _; rw [e1]
  byValue := fun k v h => by
    rcases keyIs_shape h with ⟨i, t, rfl, rfl⟩ | ⟨x, t, rfl, rfl⟩ <;> rfl
  pyHash := fun hv h => by
    rcases keyIs_shape hv with ⟨i, t, rfl, rfl⟩ | ⟨x, t, rfl, rfl⟩
    · exact wpAny_pyHash_int h
    · exact wpAny_pyHash_str h
  eqBool := fun hu hv h => by
    rcases keyIs_shape hu with ⟨i, t, rfl, rfl⟩ | ⟨x, t, rfl, rfl⟩
    · rcases keyIs_shape hv with ⟨j, u, rfl, rfl⟩ | ⟨y, u, rfl, rfl⟩
      · rw [key_ll] at h; exact wpAny_eqBool_int h
      · rw [key_lr] at h; exact SeqAt.EqAt.int_str i t y u _ _ _ _ h
    · rcases keyIs_shape hv with ⟨j, u, rfl, rfl⟩ | ⟨y, u, rfl, rfl⟩
      · rw [key_rl] at h; exact SeqAt.EqAt.str_int x t j u _ _ _ _ h
      · rw [key_rr] at h; exact wpAny_eqBool_str h
  «strs» := fun k x t v h => by
    rcases keyIs_shape h with ⟨i, u, rfl, e⟩ | ⟨y, u, rfl, e⟩
    · exact nomatch e
    · injection e with e1 _
      subst e1
      cases v <;> rfl
theorem mixKind_int (prog : Program) (w : World) (i : Int) (t : Tok) : (mixKind prog w).is (.inl i) (.int i t) = true := keyIs_int i t
theorem mixKind_str (prog : Program) (w : World) (x : Str) (t : Tok) : (mixKind prog w).is (.inr x) (.str x t) = true := keyIs_str x t
end L2
namespace L2
open PySem PySem.Spec PyProof.Rows
inductive V where
  | non | bl (b : Bool) | int (i : Int) | str (x : Str) | byt (b : Array UInt8) | flt (b : UInt64) | ref (a : Addr) | ty (n : String)
  deriving DecidableEq
def RelV : V → Value → Prop
  | .non, u => u = Value.none
  | .bl b, u => u = Value.bool b
  | .int i, u => ∃ t, u = Value.int i t
  | .str x, u => ∃ t, u = Value.str x t
  | .byt b, u => ∃ t, u = Value.bytes b t
  | .flt b, u => ∃ t, u = Value.float b t
  | .ref a, u => u = Value.ref a
  | .ty n, u => u = Value.type n
abbrev Vals : List V → List Value → Prop := Paired RelV
theorem Vals.length {xs : List V} {us : List Value} (r : Vals xs us) : xs.length = us.length := Paired.length r
theorem Vals.get : ∀ {xs : List V} {us : List Value} {i : Nat} {x : V}, Vals xs us → xs[i]? = some x → ∃ u, us[i]? = some u ∧ RelV x u
  | _, _, _, _, .nil, e => by simp at e
  | _, _, 0, _, .cons r _, e => by simp at e; subst e; exact ⟨_, rfl, r⟩
  | _, _, i + 1, x, .cons _ t, e => by
    obtain ⟨u, h1, h2⟩ := Vals.get (i := i) (x := x) t (by simpa using e)
    exact ⟨u, by simpa using h1, h2⟩
theorem Vals.set {x : V} {u : Value} (r : RelV x u) : ∀ {xs : List V} {us : List Value} (i : Nat), Vals xs us → Vals (xs.set i x) (us.set i u)
  | _, _, _, .nil => .nil
  | _, _, 0, .cons _ t => .cons r t
  | _, _, i + 1, .cons q t => .cons q (Vals.set r i t)
theorem Vals.append : ∀ {xs ys : List V} {us ws : List Value}, Vals xs us → Vals ys ws → Vals (xs ++ ys) (us ++ ws)
  | _, _, _, _, .nil, s => s
  | _, _, _, _, .cons r t, s => .cons r (Vals.append t s)
theorem Vals.take : ∀ {xs : List V} {us : List Value} (n : Nat), Vals xs us → Vals (xs.take n) (us.take n)
  | _, _, 0, _ => .nil
  | _, _, _ + 1, .nil => .nil
  | _, _, n + 1, .cons r t => .cons r (Vals.take n t)
theorem Vals.drop : ∀ {xs : List V} {us : List Value} (n : Nat), Vals xs us → Vals (xs.drop n) (us.drop n)
  | _, _, 0, r => r
  | _, _, _ + 1, .nil => .nil
  | _, _, n + 1, .cons _ t => Vals.drop n t
def RelO : Option V → Option Value → Prop
  | some v, some u => RelV v u
  | none, none => True
  | _, _ => False
def KV {κ : Type} : List (κ × V) → List (κ × Value) → Prop := Paired fun (p : κ × V) (q : κ × Value) => p.1 = q.1 ∧ RelV p.2 q.2
def kV : Key → V
  | .inl i => .int i
  | .inr x => .str x
inductive HO where
  | lst (xs : List V)
  | tup (xs : List V)
  | dK (kvs : List (Key × V)) | dT (kvs : List (List Key × V))
  | set (S : Int → Bool) (n : Nat)
  | ins (C dx : Addr) (fs : List (Str × V))
  | own (x : Addr)
  | xd (fs : List (Str × V))
  | met (f x : Addr)
  | rng (lo hi : Int)
  | frz (o : Obj) (u : HO)
  | tbl (ps : Array Value)
  | ext (φ : Heap → Prop)
abbrev Hp := Addr → Option HO
def upd (H : Hp) (a : Addr) (o : HO) : Hp := fun b => if b = a then some o else H b
theorem upd_same {H : Hp} {a : Addr} {o : HO} : upd H a o a = some o := by unfold upd; rw [if_pos rfl]
theorem upd_ne {H : Hp} {a b : Addr} {o : HO} (h : b ≠ a) : upd H a o b = H b := by unfold upd; rw [if_neg h]
theorem ne_of {H : Hp} {a b : Addr} {o u : HO} (h : H a = some o) (h' : H b = some u) (d : o ≠ u) : a ≠ b := by
  intro e; subst e; rw [h] at h'; exact d (Option.some.inj h')
theorem ne_of_none {H : Hp} {a b : Addr} {o : HO} (h : H a = some o) (h' : H b = none) : a ≠ b := by
  intro e; subst e; rw [h] at h'; cases h'
section
variable (P : Program) (w : World)
def ObjOk (H : Hp) (h : Heap) (a : Addr) : HO → Prop
  | .lst xs => xs.length ≤ sizeLine ∧ ∃ (its : List Value) (n : Nat), Vals xs its ∧ h.get? a = some { cls := .type "list", data := .seq its.toArray n }
  | .tup xs => xs.length ≤ sizeLine ∧ ∃ its : List Value, Vals xs its ∧ IsTup h a its.toArray
  | .dK kvs => kvs.length ≤ sizeLine ∧ (a == sysModules) = false ∧ ∃ vs, KV kvs vs ∧ h.DictOf (mixKind P w) a vs
  | .dT kvs => kvs.length ≤ sizeLine ∧ (a == sysModules) = false ∧ ∃ xs : List (List Key × Addr × Value),
      Paired (fun (p : List Key × V) (q : List Key × Addr × Value) => p.1 = q.1 ∧ H q.2.1 = some (.tup (p.1.map kV)) ∧ RelV p.2 q.2.2) kvs xs ∧
      ∃ o es ep, h.get? a = some o ∧ o.ExactDict ∧ o.data = .dict es ep ∧ es.toList = xs.map (entryOfKey (tupleKind (mixKind P w))) ∧ (xs.map (·.1)).Nodup
  | .set S n => h.SetOf (intKind P w) a S n
  | .ins C dx fs => H dx = some (.own a) ∧ fs.length ≤ 1000 ∧ dx ≠ a ∧ h.get? a = some (PySem.W.instObj C dx) ∧
      ∃ mA, h.Ns1 dx mA ∧ (∀ f, RelO (fs.lookup f) (mA f)) ∧ PySem.Within mA (fs.map (·.1))
  | .own _ => ∃ o, h.get? a = some o
  | .xd fs => ∃ mA, h.Ns1 a mA ∧ ∀ f, RelO (fs.lookup f) (mA f)
  | .rng lo hi => ∃ t u v, h.get? a = some { cls := .type "range", data := .fields #[.int lo t, .int hi u, .int 1 v] }
  | .frz o u => h.get? a = some o ∧ ObjOk H h a u
  | .tbl ps => h.get? a = some { cls := .none, data := .fields ps }
  | .met f x => h.get? a = some (PySem.W.methodObj (.ref f) (.ref x))
  | .ext φ => φ h ∧ (∃ o, h.get? a = some o) ∧ ∀ h1 h2 : Heap, φ h1 → (∀ o, h1.get? a = some o → h2.get? a = some o) → φ h2
def HOk (H : Hp) (h : Heap) : Prop := ∀ a o, H a = some o → ObjOk P w H h a o
end
section
variable {P : Program} {w : World} {H H' : Hp} {h h' : Heap} {a : Addr} {o : HO}
theorem ObjOk.lt (x : ObjOk P w H h a o) : a < h.objs.size := by
  cases o with
  | lst xs => obtain ⟨_, _, _, _, e⟩ := x; exact Heap.lt_size e
  | tup xs => obtain ⟨_, _, _, p⟩ := x; exact p.lt
  | dK kvs => obtain ⟨_, _, _, _, o, _, _, e, _⟩ := x; exact Heap.lt_size e
  | dT kvs => obtain ⟨_, _, _, _, o, _, _, e, _⟩ := x; exact Heap.lt_size e
  | set S n => obtain ⟨o, _, _, _, e, _⟩ := x; exact Heap.lt_size e
  | ins C dx fs => obtain ⟨_, _, _, e, _⟩ := x; exact Heap.lt_size e
  | own y => obtain ⟨_, e⟩ := x; exact Heap.lt_size e
  | xd fs => obtain ⟨_, ⟨_, _, _, e, _⟩, _⟩ := x; exact Heap.lt_size e
  | rng lo hi => obtain ⟨_, _, _, e⟩ := x; exact Heap.lt_size e
  | frz ob u => obtain ⟨e, _⟩ := x; exact Heap.lt_size e
  | tbl ps => exact Heap.lt_size (show h.get? a = some _ from x)
  | met f y => exact Heap.lt_size (show h.get? a = some _ from x)
  | ext φ => obtain ⟨_, ⟨_, e⟩, _⟩ := x; exact Heap.lt_size e
theorem Paired.mapP {α β : Type} {F G : α → β → Prop} : ∀ {l₁ : List α} {l₂ : List β}, Paired F l₁ l₂ → (∀ a b, F a b → G a b) → Paired G l₁ l₂
  | _, _, .nil, _ => .nil
  | _, _, .cons r t, f => .cons (f _ _ r) (Paired.mapP t f)
theorem ObjOk.stay (x : ObjOk P w H h a o) (k : ∀ b u, (b = a ∨ H b = some (.own a)) → h.get? b = some u → h'.get? b = some u)
    (ho : ∀ b, H b = some (.own a) → H' b = some (.own a)) (ht : ∀ b xs, H b = some (.tup xs) → H' b = some (.tup xs)) : ObjOk P w H' h' a o := by
  induction o with
  | lst xs => obtain ⟨z, its, n, r, e⟩ := x; exact ⟨z, its, n, r, k _ _ (.inl rfl) e⟩
  | tup xs => obtain ⟨z, its, r, ob, e, c⟩ := x; exact ⟨z, its, r, ob, k _ _ (.inl rfl) e, c⟩
  | dK kvs => obtain ⟨z, y, vs, r, ob, es, ep, e, c⟩ := x; exact ⟨z, y, vs, r, ob, es, ep, k _ _ (.inl rfl) e, c⟩
  | dT kvs =>
    obtain ⟨z, y, xs, r, ob, es, ep, e, c⟩ := x
    exact ⟨z, y, xs, Paired.mapP r fun p q z => ⟨z.1, ht _ _ z.2.1, z.2.2⟩, ob, es, ep, k _ _ (.inl rfl) e, c⟩
  | set S n => obtain ⟨ob, es, ep, t, e, c⟩ := x; exact ⟨ob, es, ep, t, k _ _ (.inl rfl) e, c⟩
  | ins C dx fs =>
    obtain ⟨d, z, ne, e, mA, ⟨od, es, ep, e2, c⟩, r⟩ := x
    exact ⟨ho _ d, z, ne, k _ _ (.inl rfl) e, mA, ⟨od, es, ep, k _ _ (.inr d) e2, c⟩, r⟩
  | own y => obtain ⟨ob, e⟩ := x; exact ⟨ob, k _ _ (.inl rfl) e⟩
  | xd fs => obtain ⟨mA, ⟨od, es, ep, e, c⟩, r⟩ := x; exact ⟨mA, ⟨od, es, ep, k _ _ (.inl rfl) e, c⟩, r⟩
  | rng lo hi => obtain ⟨t, u, v, e⟩ := x; exact ⟨t, u, v, k _ _ (.inl rfl) e⟩
  | frz ob u ih => obtain ⟨e, q⟩ := x; exact ⟨k _ _ (.inl rfl) e, ih q⟩
  | tbl ps =>
    have e : h.get? a = some { cls := .none, data := .fields ps } := x
    show h'.get? a = some { cls := .none, data := .fields ps }
    exact k a _ (.inl rfl) e
  | met f y =>
    have e : h.get? a = some (PySem.W.methodObj (.ref f) (.ref y)) := x
    show h'.get? a = some (PySem.W.methodObj (.ref f) (.ref y))
    exact k a _ (.inl rfl) e
  | ext φ => obtain ⟨p, ⟨o, e⟩, st⟩ := x; exact ⟨st _ _ p fun o q => k _ _ (.inl rfl) q, ⟨o, k _ _ (.inl rfl) e⟩, st⟩
theorem HOk.lt (x : HOk P w H h) (e : H a = some o) : a < h.objs.size := (x a o e).lt
theorem HOk.fresh (x : HOk P w H h) (e : h.objs.size ≤ a) : H a = none := by
  cases q : H a with
  | none => rfl
  | some u => exact absurd (Nat.lt_of_lt_of_le (x.lt q) e) (Nat.lt_irrefl _)
theorem HOk.kept (x : HOk P w H h) (k : ∀ b u, h.get? b = some u → h'.get? b = some u) : HOk P w H h' := fun a o e =>
  (x a o e).stay (fun b u _ q => k b u q) (fun _ q => q) fun _ _ q => q
theorem HOk.laid (x : HOk P w H h) (k : ∀ b u, h.get? b = some u → h'.get? b = some u) (hp : h.objs.size ≤ a) (new : ObjOk P w (upd H a o) h' a o) : HOk P w (upd H a o) h' := fun b u e => by
  have hn := x.fresh hp
  by_cases hb : b = a
  · subst hb; rw [upd_same] at e; cases e; exact new
  · rw [upd_ne hb] at e
    exact (x b u e).stay (fun c v _ q => k c v q) (fun c q => by rw [upd_ne (ne_of_none q hn)]; exact q) fun c xs q => by rw [upd_ne (ne_of_none q hn)]; exact q
end
def Rd (H : Hp) (a : Addr) (u : HO) : Prop := H a = some u ∨ ∃ o, H a = some (.frz o u)
theorem Rd.of {H : Hp} {a : Addr} {u : HO} (h : H a = some u) : Rd H a u := .inl h
theorem Rd.ok {P : Program} {w : World} {H : Hp} {h : Heap} {a : Addr} {u : HO} (r : Rd H a u) (x : HOk P w H h) : ObjOk P w H h a u := by
  rcases r with r | ⟨o, r⟩
  · exact x a u r
  · obtain ⟨_, q⟩ := x a _ r
    exact q
def Mut : Option HO → Prop
  | some (.lst _) => True
  | some (.dK _) => True
  | some (.dT _) => True
  | some (.set _ _) => True
  | some (.ins _ _ _) => True
  | some (.ext _) => True
  | _ => False
section
variable {P : Program} {w : World} {H : Hp} {h h' : Heap} {x e : Addr} {o' : HO}
theorem HOk.write (ok : HOk P w H h) (mu : Mut (H x)) (he : e = x ∨ H e = some (.own x)) (k : ∀ b u, b ≠ e → h.get? b = some u → h'.get? b = some u) (heo : ∃ u, h'.get? e = some u)
    (new : ObjOk P w (upd H x o') h' x o') : HOk P w (upd H x o') h' := fun b u q => by
  have nown : ∀ c y, H c = some (.own y) → c ≠ x := fun c y r z => by subst z; rw [r] at mu; exact mu
  have ntup : ∀ c xs, H c = some (.tup xs) → c ≠ x := fun c xs r z => by subst z; rw [r] at mu; exact mu
  by_cases hb : b = x
  · subst hb; rw [upd_same] at q; cases q; exact new
  · rw [upd_ne hb] at q
    by_cases hbe : b = e
    · have q' : H b = some (.own x) := by
        rcases he with z | z
        · exact absurd (hbe.trans z) hb
        · rw [hbe]; exact z
      rw [q] at q'; cases q'
      obtain ⟨v, hv⟩ := heo
      exact ⟨v, by rw [hbe]; exact hv⟩
    · refine (ok b u q).stay (fun c v hc r => k c v ?_ r) (fun c r => by rw [upd_ne (nown c b r)]; exact r) fun c xs r => by rw [upd_ne (ntup c xs r)]; exact r
      rcases hc with rfl | hc
      · exact hbe
      · rintro rfl
        rcases he with z | z
        · exact nown c b hc z
        · rw [hc] at z; cases z; exact hb rfl
end
structure Un (fs ex : List Addr) (H H' : Hp) (h h' : Heap) : Prop where
  keep : ∀ b o, h.get? b = some o → H b = none → b ∉ fs → b ∉ ex → h'.get? b = some o
  slot : ∀ b o, h.get? b = some o → H b = none → b ∈ fs → b ∉ ex → ∃ sl, h'.get? b = some { o with slots := sl }
  free : ∀ b o, h.get? b = some o → H b = none → b ∉ ex → H' b = none
  there : ∀ b o, h.get? b = some o → b ∉ ex → ∃ o', h'.get? b = some o'
  tups : ∀ b xs, H b = some (.tup xs) → H' b = some (.tup xs)
  frzs : ∀ b o u, H b = some (.frz o u) → H' b = some (.frz o u)
  tbls : ∀ b ps, H b = some (.tbl ps) → ∃ more, H' b = some (.tbl (ps ++ more))
section
variable {fs fs' ex ex' : List Addr} {H H1 H2 : Hp} {h h1 h2 h' : Heap} {a x e : Addr} {o : HO}
theorem Un.any (u : Un fs ex H H1 h h1) {b : Addr} {ob : Obj} (q : h.get? b = some ob) (n : H b = none) (hx : b ∉ ex) : ∃ sl, h1.get? b = some { ob with slots := sl } := by
  by_cases hb : b ∈ fs
  · exact u.slot b ob q n hb hx
  · exact ⟨ob.slots, u.keep b ob q n hb hx⟩
theorem Un.trans (a : Un fs ex H H1 h h1) (b : Un fs ex H1 H2 h1 h2) : Un fs ex H H2 h h2 where
  keep := fun c ob q n hc hx => b.keep c ob (a.keep c ob q n hc hx) (a.free c ob q n hx) hc hx
  slot := fun c ob q n hc hx => by
    obtain ⟨sl, e1⟩ := a.slot c ob q n hc hx
    obtain ⟨sl', e2⟩ := b.slot c _ e1 (a.free c ob q n hx) hc hx
    exact ⟨sl', e2⟩
  free := fun c ob q n hx => by
    obtain ⟨o', e1⟩ := a.there c ob q hx
    exact b.free c o' e1 (a.free c ob q n hx) hx
  there := fun c ob q hx => by
    obtain ⟨o', e1⟩ := a.there c ob q hx
    exact b.there c o' e1 hx
  tups := fun c xs q => b.tups c xs (a.tups c xs q)
  frzs := fun c ob xs q => b.frzs c ob xs (a.frzs c ob xs q)
  tbls := fun c ps q => by
    obtain ⟨m1, e1⟩ := a.tbls c ps q
    obtain ⟨m2, e2⟩ := b.tbls c _ e1
    exact ⟨m1 ++ m2, by rw [e2, Array.append_assoc]⟩
theorem Un.kept (k : ∀ b u, h.get? b = some u → h'.get? b = some u) : Un fs ex H H h h' :=
  ⟨fun b ob q _ _ _ => k b ob q, fun b ob q _ _ _ => ⟨ob.slots, k b ob q⟩, fun _ _ _ n _ => n, fun b ob q _ => ⟨ob, k b ob q⟩, fun _ _ q => q, fun _ _ _ q => q, fun _ ps q => ⟨#[], by rw [q]; simp⟩⟩
theorem Un.refl : Un fs ex H H h h := Un.kept fun _ _ q => q
theorem Un.laid (k : ∀ b u, h.get? b = some u → h'.get? b = some u) (hp : h.objs.size ≤ a) (hn : H a = none) : Un fs ex H (upd H a o) h h' where
  keep := fun b u q _ _ _ => k b u q
  slot := fun b u q _ _ _ => ⟨u.slots, k b u q⟩
  free := fun b u q n _ => by rw [upd_ne (Nat.ne_of_lt (Nat.lt_of_lt_of_le (Heap.lt_size q) hp))]; exact n
  there := fun b u q _ => ⟨u, k b u q⟩
  tups := fun b xs q => by rw [upd_ne (ne_of_none q hn)]; exact q
  frzs := fun b u xs q => by rw [upd_ne (ne_of_none q hn)]; exact q
  tbls := fun b ps q => ⟨#[], by rw [upd_ne (ne_of_none q hn), q]; simp⟩
theorem Un.write (mu : Mut (H x)) (he : e = x ∨ H e = some (.own x)) (k : ∀ b u, b ≠ e → h.get? b = some u → h'.get? b = some u) (heo : ∃ u, h'.get? e = some u) : Un fs ex H (upd H x o) h h' := by
  have hx : ∀ b, H b = none → b ≠ x := fun b n z => by subst z; rw [n] at mu; exact mu
  have hb : ∀ b, H b = none → b ≠ e := fun b n z => by
    subst z
    rcases he with r | r
    · exact hx b n r
    · rw [n] at r; cases r
  have hm : ∀ b u, H b = some u → ¬ Mut (some u) → b ≠ x := fun b u q nm z => by subst z; rw [q] at mu; exact nm mu
  refine ⟨fun b u q n _ _ => k b u (hb b n) q, fun b u q n _ _ => ⟨u.slots, k b u (hb b n) q⟩, fun b u q n _ => by rw [upd_ne (hx b n)]; exact n, fun b u q _ => ?_,
    fun b xs q => by rw [upd_ne (hm b _ q fun z => z)]; exact q, fun b u xs q => by rw [upd_ne (hm b _ q fun z => z)]; exact q, fun b ps q => ⟨#[], by rw [upd_ne (hm b _ q fun z => z), q]; simp⟩⟩
  by_cases hbe : b = e
  · subst hbe; exact heo
  · exact ⟨u, k b u hbe q⟩
theorem Un.mono (u : Un fs ex H H1 h h1) (hs : ∀ b ∈ fs, b ∈ fs') (hx : ∀ b ∈ ex, b ∈ ex') : Un fs' ex' H H1 h h1 :=
  ⟨fun b ob q n hb he => u.keep b ob q n (fun z => hb (hs b z)) fun z => he (hx b z), fun _ _ q n _ he => u.any q n fun z => he (hx _ z), fun b ob q n he => u.free b ob q n fun z => he (hx b z), fun b ob q he => u.there b ob q fun z => he (hx b z), u.tups, u.frzs, u.tbls⟩
end
def trk (h : Heap) (H : Hp) : List Addr := (List.range h.objs.size).filter fun a => (H a).isSome
def hidT (h : Heap) (H : Hp) : Heap := PySem.W.hideAll h (trk h H)
theorem hidT_size (h : Heap) (H : Hp) : (hidT h H).objs.size = h.objs.size := PySem.W.hideAll_size _ _
theorem hidT_get {h : Heap} {H : Hp} {b : Addr} {o : Obj} (e : h.get? b = some o) (n : H b = none) : (hidT h H).get? b = some o :=
  PySem.W.hideAll_get _ e fun hm => by
    have q : (H b).isSome = true := (List.mem_filter.mp hm).2
    rw [n] at q; simp at q
theorem of_hidT {h : Heap} {H : Hp} {b : Addr} {o : Obj} (e : (hidT h H).get? b = some o) : h.get? b = some o ∧ H b = none := by
  have e' : h.get? b = some o := PySem.W.of_hideAll (trk h H) e
  refine ⟨e', ?_⟩
  cases q : H b with
  | none => rfl
  | some x =>
    have hm : b ∈ trk h H := List.mem_filter.mpr ⟨List.mem_range.mpr (Heap.lt_size e'), by simp [q]⟩
    have z : (hidT h H).get? b = none := PySem.W.hideAll_none (trk h H) hm
    rw [z] at e; cases e
def allNews (g h : Heap) (L : Addr) : List (Addr × Obj) := (List.range h.objs.size).filterMap fun a => if a = L ∨ (g.get? a).isSome = true then none else (h.get? a).map fun o => (a, o)
def rest (g h : Heap) (L d : Addr) : List (Addr × Obj) := (allNews g h L).filter fun p => decide (p.1 ≠ d)
end L2
namespace L2
open PySem PySem.Spec PyProof.Rows
structure Mod (K : PySem.W.Frag) (mg : Str → Option Value) (base : Heap) : Prop where
  kin : K.In base
  glob : base.Ns mainGlobals mg
  blt : ∃ mb, base.Ns builtinsNs mb ∧ ∀ x : Str, x ≠ "__name__" → mb x = bootBuiltins x
  nolimit : base.NoLimit
/-- the context: a def's body (or a comprehension's block) running. base: fixed through the whole law; s₀, H₀: the entry; outer: the frames whose slots others may change (a def's callers); stack: all frames that run;
   ex: iterators that were made ahead of the entry and are walked here (a comprehension's); fn: the names whose cells were made at the entry (a def: all; a comprehension's block: its own); calm: not within an except suite; pn: pins that every state bears; xe: what is wanted of an exception that leaves the code -/
structure Cx where
  prog : Program
  w : World
  K : PySem.W.Frag
  mg : Str → Option Value
  base : Heap
  A : Around
  N : List Str
  s₀ : Shared
  H₀ : Hp
  env : Env
  outer : List Env
  stack : List Env
  ex : List Addr
  fn : Str → Bool
  calm : Bool
  pn : List (Addr × Obj)
  xe : Value → Shared → Prop
def frs (l : List Env) : List Addr := l.filterMap (·.frame)
abbrev Cx.fs (X : Cx) : List Addr := frs X.outer
def Vis (sc : Scope) (x : Str) : Prop := sc.names.lookup x = some .local ∨ sc.names.lookup x = some .cell ∨ sc.names.lookup x = some .free
def Loc (sc : Scope) (x : Str) : Prop := sc.names.lookup x = some .local ∨ sc.names.lookup x = some .cell
def Look (env : Env) (h : Heap) (m : Str → Option Value) (x : Str) (u : Value) : Prop :=
  (env.kindOf x = some .local ∧ m x = some u) ∨ ((env.kindOf x = some .cell ∨ env.kindOf x = some .free) ∧ ∃ c, env.cells.lookup x = some c ∧ h.IsCell c (some u))
structure Cx.Ok (X : Cx) : Prop where
  mod : Mod X.K X.mg X.base
  kind : X.env.scope.kind = .function
  glob : X.env.globals = mainGlobals
  blt : X.env.builtins = builtinsNs
  above : X.s₀.heap.objs.size ≤ X.env.locals
  inj : ∀ x y c, X.env.cells.lookup x = some c → X.env.cells.lookup y = some c → x = y
  has : ∀ x, (X.env.kindOf x = some .cell ∨ X.env.kindOf x = some .free) → ∃ c, X.env.cells.lookup x = some c
  cab : ∀ x c, X.fn x = true → X.env.cells.lookup x = some c → X.s₀.heap.objs.size ≤ c
  hd : X.calm = true → X.A.handled = none
  frames : X.A.frames = some X.stack
  stk : X.stack = X.outer ∨ (X.stack = X.env :: X.outer ∧ X.env.frame = some X.env.locals)
  exf : ∀ b ∈ X.ex, b ≠ X.env.locals ∧ ∀ x c, X.env.cells.lookup x = some c → c ≠ b
  bs : ∀ b o, X.base.get? b = some o → X.s₀.heap.get? b = some o ∧ X.H₀ b = none
  bsz : X.base.objs.size ≤ X.s₀.heap.objs.size
  noex : ∀ b o, X.base.get? b = some o → b ∉ X.ex
  exfs : ∀ b ∈ X.ex, b ∉ X.fs
  funs : X.s₀.heap.FunFrames X.base X.outer
  frf : ∀ b ∈ X.fs, X.H₀ b = none
structure Inv (X : Cx) (pins : List (Addr × Obj)) (σ : List (Option V)) (H : Hp) (s : Shared) : Prop where
  ok : X.Ok
  os : s.os = X.s₀.os
  bare : AllBare s.gens
  base : Un X.fs X.ex X.H₀ H X.s₀.heap s.heap
  loc : ∃ m, s.heap.Ns X.env.locals m ∧ ∀ (i : Nat) (x : Str) (v : V), X.N[i]? = some x → σ[i]? = some (some v) → Vis X.env.scope x → ∃ u, RelV v u ∧ Look X.env s.heap m x u
  cell : ∀ x c, X.env.cells.lookup x = some c → ∃ v, s.heap.IsCell c v
  free : H X.env.locals = none
  freeC : ∀ x c, X.env.cells.lookup x = some c → H c = none
  pin : ∀ p ∈ X.pn ++ pins, s.heap.get? p.1 = some p.2 ∧ H p.1 = none ∧ p.1 ≠ X.env.locals ∧ p.1 ∉ X.fs ∧ ∀ v, p.2.data ≠ .cell v
  hok : HOk X.prog X.w H s.heap
  len : σ.length = X.N.length
section
variable {X : Cx} {pins : List (Addr × Obj)} {σ : List (Option V)} {H H' : Hp} {s : Shared} {h' : Heap}
theorem Cx.Ok.nofr (ok : X.Ok) {b : Addr} {o : Obj} (e : X.base.get? b = some o) : b ∉ X.fs := fun hb => by
  have := (ok.funs.mem hb).1
  rw [e] at this; cases this
theorem Inv.bs (I : Inv X pins σ H s) : ∀ b o, X.base.get? b = some o → s.heap.get? b = some o ∧ H b = none := fun b o e =>
  ⟨I.base.keep b o (I.ok.bs b o e).1 (I.ok.bs b o e).2 (I.ok.nofr e) (I.ok.noex b o e), I.base.free b o (I.ok.bs b o e).1 (I.ok.bs b o e).2 (I.ok.noex b o e)⟩
theorem Inv.bk (I : Inv X pins σ H s) : ∀ b o, X.base.get? b = some o → s.heap.get? b = some o := fun b o e => (I.bs b o e).1
theorem Inv.mod (I : Inv X pins σ H s) : Mod X.K X.mg X.base := I.ok.mod
theorem Inv.kIn (I : Inv X pins σ H s) : X.K.In s.heap := I.ok.mod.kin.keeps I.bk
theorem Inv.nolimit (I : Inv X pins σ H s) : s.heap.NoLimit := I.ok.mod.nolimit.keeps I.bk
theorem Inv.fr (I : Inv X pins σ H s) : ∃ m, Fr X.base X.env.locals s.heap m :=
  let ⟨m, hn, _⟩ := I.loc
  ⟨m, hn, I.bk, Nat.le_trans I.ok.bsz I.ok.above⟩
theorem Inv.lt (I : Inv X pins σ H s) : X.env.locals < s.heap.objs.size := let ⟨_, hn, _⟩ := I.loc; hn.lt
theorem Inv.sz (I : Inv X pins σ H s) : X.s₀.heap.objs.size ≤ s.heap.objs.size := Nat.le_trans I.ok.above (Nat.le_of_lt I.lt)
theorem Inv.nofs (I : Inv X pins σ H s) {a : Addr} (h : s.heap.objs.size ≤ a) : a ∉ X.fs := fun hb => by
  obtain ⟨_, o, ho, _⟩ := I.ok.funs.mem hb
  exact absurd (Nat.lt_of_lt_of_le (Heap.lt_size ho) (Nat.le_trans I.sz h)) (Nat.lt_irrefl _)
theorem Inv.cne (I : Inv X pins σ H s) : ∀ x c, X.env.cells.lookup x = some c → c ≠ X.env.locals := fun x c e z => by
  obtain ⟨v, o, ho, hd⟩ := I.cell x c e
  obtain ⟨m, ⟨o', es, ep, ho', hd', _⟩, _⟩ := I.loc
  rw [z, ho'] at ho; cases ho; rw [hd'] at hd; cases hd
theorem Inv.funs (I : Inv X pins σ H s) : s.heap.FunFrames X.base X.outer := by
  have all : ∀ (l : List Env), (∀ b ∈ frs l, b ∈ X.fs) → X.s₀.heap.FunFrames X.base l → s.heap.FunFrames X.base l := by
    intro l
    induction l with
    | nil => intro _ _; trivial
    | cons env r ih =>
      intro hs hl
      obtain ⟨hk, ⟨L, o, hf, hn, ho, hd⟩, hr⟩ := hl
      have hL : L ∈ X.fs := hs L (by unfold frs; rw [List.filterMap_cons, hf]; exact List.mem_cons_self)
      obtain ⟨sl, e⟩ := I.base.slot L o ho (I.ok.frf L hL) hL fun z => I.ok.exfs L z hL
      exact ⟨hk, ⟨L, _, hf, hn, e, hd⟩, ih (fun b hb => hs b (by unfold frs; rw [List.filterMap_cons, hf]; exact List.mem_cons_of_mem _ hb)) hr⟩
  exact all X.outer (fun _ hb => hb) I.ok.funs
theorem Inv.stack (I : Inv X pins σ H s) : s.heap.FunFrames X.base X.stack := by
  rcases I.ok.stk with e | ⟨e, hf⟩
  · rw [e]; exact I.funs
  · rw [e]
    obtain ⟨m, hn, _⟩ := I.loc
    refine .cons (by rw [I.ok.kind]; decide) hf hn ?_ I.funs
    exact Heap.get?_none_of_le (Nat.le_trans I.ok.bsz I.ok.above)
theorem Inv.stkSub (I : Inv X pins σ H s) : ∀ b ∈ frs X.stack, b ∈ X.env.locals :: X.fs := fun b hb => by
  rcases I.ok.stk with e | ⟨e, hf⟩
  · rw [e] at hb; exact List.mem_cons_of_mem _ hb
  · rw [e] at hb
    unfold frs at hb
    rw [List.filterMap_cons, hf] at hb
    exact hb
theorem Inv.stkFree (I : Inv X pins σ H s) : ∀ b ∈ frs X.stack, H b = none := fun b hb => by
  rcases List.mem_cons.mp (I.stkSub b hb) with e | hb
  · rw [e]; exact I.free
  · obtain ⟨_, o, ho, _⟩ := I.ok.funs.mem hb
    exact I.base.free b o ho (I.ok.frf b hb) fun z => I.ok.exfs b z hb
theorem Inv.step {g' : Array GenState} {t' : Nat} {d' : Drawn} {ch : List Addr} (I : Inv X pins σ H s)
    (hch : ∀ b ∈ ch, (b ∈ X.ex ∨ X.s₀.heap.objs.size ≤ b) ∧ b ≠ X.env.locals ∧ (∀ x c, X.env.cells.lookup x = some c → c ≠ b) ∧ ∀ p ∈ X.pn ++ pins, p.1 ≠ b)
    (keep : ∀ b o, b ≠ X.env.locals → b ∉ X.fs → b ∉ ch → s.heap.get? b = some o → H b = none → h'.get? b = some o)
    (slot : ∀ b o, b ≠ X.env.locals → b ∈ X.fs → b ∉ ch → s.heap.get? b = some o → H b = none → ∃ sl, h'.get? b = some { o with slots := sl }) (free : ∀ b o, b ∉ ch → s.heap.get? b = some o → H b = none → H' b = none)
    (there : ∀ b o, b ∉ ch → s.heap.get? b = some o → ∃ o', h'.get? b = some o')
    (tups : ∀ b xs, H b = some (.tup xs) → H' b = some (.tup xs)) (frzs : ∀ b o u, H b = some (.frz o u) → H' b = some (.frz o u)) (tbls : ∀ b ps, H b = some (.tbl ps) → ∃ more, H' b = some (.tbl (ps ++ more)))
    (ns : ∀ m, s.heap.Ns X.env.locals m → h'.Ns X.env.locals m) (hok : HOk X.prog X.w H' h') (hg : AllBare g') :
    Inv X pins σ H' { s with heap := h', gens := g', drawn := d', toks := t' } := by
  have neL : ∀ b o, X.s₀.heap.get? b = some o → b ≠ X.env.locals := fun b o e => Nat.ne_of_lt (Nat.lt_of_lt_of_le (Heap.lt_size e) I.ok.above)
  have neC : ∀ b o, X.s₀.heap.get? b = some o → b ∉ X.ex → b ∉ ch := fun b o e hx hb => by
    rcases (hch b hb).1 with z | z
    · exact hx z
    · exact absurd (Nat.lt_of_lt_of_le (Heap.lt_size e) z) (Nat.lt_irrefl _)
  have cellK : ∀ x c, X.env.cells.lookup x = some c → ∀ v, s.heap.IsCell c v → h'.IsCell c v := fun x c e v ⟨o, ho, hd⟩ => by
    have nch : c ∉ ch := fun z => (hch c z).2.2.1 x c e rfl
    by_cases hc : c ∈ X.fs
    · obtain ⟨sl, q⟩ := slot c o (I.cne x c e) hc nch ho (I.freeC x c e)
      exact ⟨_, q, hd⟩
    · exact ⟨o, keep c o (I.cne x c e) hc nch ho (I.freeC x c e), hd⟩
  refine ⟨I.ok, I.os, hg, ⟨fun b o e n hb hx => ?_, fun b o e n hb hx => ?_, fun b o e n hx => ?_, fun b o e hx => ?_, fun b xs e => tups b xs (I.base.tups b xs e), fun b o xs e => frzs b o xs (I.base.frzs b o xs e), fun b ps e => ?_⟩, ?_, fun x c e => ?_, ?_, fun x c e => ?_, fun p hp => ?_, hok, I.len⟩
  · exact keep b o (neL b o e) hb (neC b o e hx) (I.base.keep b o e n hb hx) (I.base.free b o e n hx)
  · obtain ⟨sl, e1⟩ := I.base.slot b o e n hb hx
    obtain ⟨sl', e2⟩ := slot b _ (neL b o e) hb (neC b o e hx) e1 (I.base.free b o e n hx)
    exact ⟨sl', e2⟩
  · obtain ⟨o', e1⟩ := I.base.there b o e hx
    exact free b o' (neC b o e hx) e1 (I.base.free b o e n hx)
  · obtain ⟨o', e1⟩ := I.base.there b o e hx
    exact there b o' (neC b o e hx) e1
  · obtain ⟨m1, e1⟩ := I.base.tbls b ps e
    obtain ⟨m2, e2⟩ := tbls b _ e1
    exact ⟨m1 ++ m2, by rw [e2, Array.append_assoc]⟩
  · obtain ⟨m, hn, hl⟩ := I.loc
    refine ⟨m, ns m hn, fun i x v e1 e2 e3 => ?_⟩
    obtain ⟨u, r, l⟩ := hl i x v e1 e2 e3
    refine ⟨u, r, ?_⟩
    rcases l with l | ⟨k, c, e, z⟩
    · exact .inl l
    · exact .inr ⟨k, c, e, cellK x c e _ z⟩
  · obtain ⟨v, z⟩ := I.cell x c e
    exact ⟨v, cellK x c e v z⟩
  · obtain ⟨m, ⟨o, _, _, ho, _⟩, _⟩ := I.loc
    exact free _ o (fun z => (hch _ z).2.1 rfl) ho I.free
  · obtain ⟨v, o, ho, hd⟩ := I.cell x c e
    exact free c o (fun z => (hch c z).2.2.1 x c e rfl) ho (I.freeC x c e)
  · obtain ⟨e, n, ne, nf, d⟩ := I.pin p hp
    have nch : p.1 ∉ ch := fun z => (hch p.1 z).2.2.2 p hp rfl
    exact ⟨keep p.1 p.2 ne nf nch e n, free p.1 p.2 nch e n, ne, nf, d⟩
theorem Inv.un {t' : Nat} (I : Inv X pins σ H s) (u : Un X.fs [] H H' s.heap h') (hok : HOk X.prog X.w H' h') : Inv X pins σ H' { s with heap := h', toks := t' } := by
  obtain ⟨m, ⟨o, es, ep, ho, r⟩, _⟩ := id I.loc
  obtain ⟨sl, hL⟩ := u.any ho I.free (by simp)
  exact I.step (g' := s.gens) (d' := s.drawn) (ch := []) (fun _ z => nomatch z) (fun b o _ hb _ e n => u.keep b o e n hb (by simp)) (fun b o _ hb _ e n => u.slot b o e n hb (by simp)) (fun b o _ e n => u.free b o e n (by simp)) (fun b o _ e => u.there b o e (by simp)) u.tups u.frzs u.tbls (fun m' hm => by
    obtain ⟨o', es', ep', ho', r'⟩ := hm
    rw [ho] at ho'; cases ho'
    exact ⟨_, es', ep', hL, r'⟩) hok I.bare
theorem Inv.call {g' : Array GenState} {t' : Nat} {d' : Drawn} {ch : List Addr} (I : Inv X pins σ H s) (u : Un (frs X.stack) ch H H' s.heap h') (hok : HOk X.prog X.w H' h') (hg : AllBare g')
    (hch : ∀ b ∈ ch, (b ∈ X.ex ∨ X.s₀.heap.objs.size ≤ b) ∧ b ≠ X.env.locals ∧ (∀ x c, X.env.cells.lookup x = some c → c ≠ b) ∧ ∀ p ∈ X.pn ++ pins, p.1 ≠ b) :
    Inv X pins σ H' { s with heap := h', gens := g', drawn := d', toks := t' } := by
  obtain ⟨m, ⟨o, es, ep, ho, r⟩, _⟩ := id I.loc
  obtain ⟨sl, hL⟩ := u.any ho I.free fun z => (hch _ z).2.1 rfl
  exact I.step (ch := ch) hch (fun b o hL hb hc e n => u.keep b o e n (fun z => (List.mem_cons.mp (I.stkSub b z)).elim hL hb) hc) (fun b o _ _ hc e n => u.any e n hc) (fun b o hc e n => u.free b o e n hc) (fun b o hc e => u.there b o e hc) u.tups u.frzs u.tbls (fun m' hm => by
    obtain ⟨o', es', ep', ho', r'⟩ := hm
    rw [ho] at ho'; cases ho'
    exact ⟨_, es', ep', hL, r'⟩) hok hg
theorem Inv.turned {t' : Nat} {it : Addr} (I : Inv X pins σ H s) (k : ∀ b o, b ≠ it → s.heap.get? b = some o → h'.get? b = some o) (hn : H it = none) (hL : it ≠ X.env.locals)
    (h1 : it ∈ X.ex ∨ X.s₀.heap.objs.size ≤ it) (h2 : ∀ x c, X.env.cells.lookup x = some c → c ≠ it) (h3 : ∀ p ∈ X.pn ++ pins, p.1 ≠ it) : Inv X pins σ H { s with heap := h', toks := t' } := by
  have nit : ∀ b u, H b = some u → b ≠ it := fun b u e z => by rw [z, hn] at e; cases e
  refine I.step (g' := s.gens) (d' := s.drawn) (ch := [it]) (fun b hb => ?_) (fun b o _ _ hc e _ => k b o (fun z => hc (by simp [z])) e) (fun b o _ _ hc e _ => ⟨o.slots, k b o (fun z => hc (by simp [z])) e⟩) (fun _ _ _ _ n => n)
    (fun b o hc e => ⟨o, k b o (fun z => hc (by simp [z])) e⟩) (fun _ _ e => e) (fun _ _ _ e => e) (fun b ps e => ⟨#[], by rw [e]; simp⟩) (fun m hm => ?_) (fun b u e => ?_) I.bare
  · have e : b = it := by simpa using hb
    subst e
    exact ⟨h1, hL, h2, h3⟩
  · obtain ⟨o, es, ep, ho, r⟩ := hm
    exact ⟨o, es, ep, k _ o (Ne.symm hL) ho, r⟩
  · refine (I.hok b u e).stay (fun c v hc q => k c v ?_ q) (fun _ q => q) fun _ _ q => q
    rcases hc with z | z
    · rw [z]; exact nit b u e
    · exact nit c _ z
theorem Inv.tok (I : Inv X pins σ H s) (t : Nat) : Inv X pins σ H { s with toks := t } := I.un (h' := s.heap) (t' := t) Un.refl I.hok
theorem Inv.kept {t' : Nat} (I : Inv X pins σ H s) (k : ∀ b u, s.heap.get? b = some u → h'.get? b = some u) : Inv X pins σ H { s with heap := h', toks := t' } := I.un (Un.kept k) (I.hok.kept k)
theorem Inv.laid {a : Addr} {o : HO} {t' : Nat} (I : Inv X pins σ H s) (k : ∀ b u, s.heap.get? b = some u → h'.get? b = some u) (hp : s.heap.objs.size ≤ a) (new : ObjOk X.prog X.w (upd H a o) h' a o) :
    Inv X pins σ (upd H a o) { s with heap := h', toks := t' } := I.un (Un.laid k hp (I.hok.fresh hp)) (I.hok.laid k hp new)
theorem Inv.write {x e : Addr} {o : HO} {t' : Nat} (I : Inv X pins σ H s) (mu : Mut (H x)) (he : e = x ∨ H e = some (.own x)) (k : ∀ b u, b ≠ e → s.heap.get? b = some u → h'.get? b = some u) (heo : ∃ u, h'.get? e = some u)
    (new : ObjOk X.prog X.w (upd H x o) h' x o) : Inv X pins σ (upd H x o) { s with heap := h', toks := t' } := I.un (Un.write mu he k heo) (I.hok.write mu he k heo new)
theorem Inv.weak {σ' : List (Option V)} (I : Inv X pins σ H s) (hl : σ'.length = σ.length) (w : ∀ (i : Nat) v, σ'[i]? = some (some v) → σ[i]? = some (some v)) : Inv X pins σ' H s :=
  ⟨I.ok, I.os, I.bare, I.base, let ⟨m, hn, hl'⟩ := I.loc; ⟨m, hn, fun i x v e1 e2 e3 => hl' i x v e1 (w i v e2) e3⟩, I.cell, I.free, I.freeC, I.pin, I.hok, hl.trans I.len⟩
theorem Inv.pins_of {pins' : List (Addr × Obj)} (I : Inv X pins σ H s) (h : ∀ p ∈ pins', s.heap.get? p.1 = some p.2 ∧ H p.1 = none ∧ p.1 ≠ X.env.locals ∧ p.1 ∉ X.fs ∧ ∀ v, p.2.data ≠ .cell v) : Inv X pins' σ H s :=
  ⟨I.ok, I.os, I.bare, I.base, I.loc, I.cell, I.free, I.freeC, fun p hp => (List.mem_append.mp hp).elim (fun z => I.pin p (List.mem_append_left _ z)) (h p), I.hok, I.len⟩
theorem nodup_ix {N : List Str} (hN : N.Nodup) {i j : Nat} {x : Str} (a : N[i]? = some x) (b : N[j]? = some x) : i = j := by
  obtain ⟨h1, e1⟩ := List.getElem?_eq_some_iff.mp a
  obtain ⟨h2, e2⟩ := List.getElem?_eq_some_iff.mp b
  exact (List.getElem_inj hN).mp (e1.trans e2.symm)
theorem store_ok2 {M : Model} {A : Around} {E : Value → Shared → Prop} {i : Nat} {x : Str} {v : V} {u : Value} {Q : Unit → Shared → Prop} (I : Inv X pins σ H s) (hN : X.N.Nodup) (hi : X.N[i]? = some x) (hx : Loc X.env.scope x) (r : RelV v u)
    (h : ∀ s', Inv X pins (σ.set i (some v)) H s' → (∃ a, Heap.SameBut a s.heap s'.heap ∧ (a = X.env.locals ∨ X.env.cells.lookup x = some a)) → Q () s') (hf : X.fn x = true ∨ X.env.scope.names.lookup x = some .local := by first | exact .inl rfl | exact .inr rfl | assumption) : wpAny M A (storeName X.env x u) Q E s := by
  obtain ⟨m, hn, hl⟩ := id I.loc
  have hcls : (X.env.scope.kind == .class || (X.env.scope.kind == .module && X.env.locals != X.env.globals)) = false := by rw [I.ok.kind]; rfl
  have hiσ : i < σ.length := by rw [I.len]; exact (List.getElem?_eq_some_iff.mp hi).1
  have cne := I.cne
  have tracked : ∀ {a : Addr} {h' : Heap}, (∃ o, s.heap.get? a = some o ∧ H a = none) → Heap.SameBut a s.heap h' → HOk X.prog X.w H h' := fun {a h'} ha hs b ob e => by
    obtain ⟨_, _, hfree⟩ := ha
    refine (I.hok b ob e).stay (fun c w' hc q => (hs.2 c ?_).trans q) (fun _ q => q) fun _ _ q => q
    rintro rfl
    rcases hc with rfl | hc
    · rw [hfree] at e; cases e
    · rw [hfree] at hc; cases hc
  rcases hx with hk | hk
  · refine wpAny_storeName_local hk hn (fun h' hn' hs => ?_) hcls
    obtain ⟨oL, _, _, hoL, _⟩ := id hn
    refine h _ ⟨I.ok, I.os, I.bare, ⟨fun b o e n hb hx => ?_, fun b o e n hb hx => ?_, I.base.free, fun b o e hx => ?_, I.base.tups, I.base.frzs, I.base.tbls⟩, ⟨_, hn', fun j y v' e1 e2 e3 => ?_⟩, fun y c e => ?_, I.free, I.freeC, fun p hp => ?_, tracked ⟨oL, hoL, I.free⟩ hs, by simpa using I.len⟩ ⟨_, hs, .inl rfl⟩
    · exact (hs.2 b (Nat.ne_of_lt (Nat.lt_of_lt_of_le (Heap.lt_size e) I.ok.above))).trans (I.base.keep b o e n hb hx)
    · obtain ⟨sl, e1⟩ := I.base.slot b o e n hb hx
      exact ⟨sl, (hs.2 b (Nat.ne_of_lt (Nat.lt_of_lt_of_le (Heap.lt_size e) I.ok.above))).trans e1⟩
    · obtain ⟨o', e1⟩ := I.base.there b o e hx
      exact ⟨o', (hs.2 b (Nat.ne_of_lt (Nat.lt_of_lt_of_le (Heap.lt_size e) I.ok.above))).trans e1⟩
    · by_cases hj : j = i
      · subst hj
        rw [hi] at e1; cases e1
        rw [List.getElem?_set_self hiσ] at e2
        cases e2
        exact ⟨u, r, .inl ⟨hk, by simp⟩⟩
      · rw [List.getElem?_set_ne (Ne.symm hj)] at e2
        obtain ⟨u', r', q⟩ := hl j y v' e1 e2 e3
        refine ⟨u', r', ?_⟩
        rcases q with ⟨k, e⟩ | ⟨k, c, e, z⟩
        · refine .inl ⟨k, ?_⟩
          have : y ≠ x := fun e => hj (nodup_ix hN e1 (e ▸ hi))
          simp [this, e]
        · exact .inr ⟨k, c, e, z.sameBut hs (cne y c e)⟩
    · obtain ⟨w', z⟩ := I.cell y c e
      exact ⟨w', z.sameBut hs (cne y c e)⟩
    · obtain ⟨e, n, ne, nf, d⟩ := I.pin p hp
      exact ⟨(hs.2 p.1 ne).trans e, n, ne, nf, d⟩
  · have hfn : X.fn x = true := by
      rcases hf with z | z
      · exact z
      · rw [z] at hk; cases hk
    obtain ⟨c, hc⟩ := I.ok.has x (.inl hk)
    obtain ⟨w', z⟩ := I.cell x c hc
    refine wpAny_storeName_cell I.ok.kind hk hc z (fun h' hc' hs => ?_)
    obtain ⟨oc, hoc, hocd⟩ := id z
    refine h { s with heap := h' } ⟨I.ok, I.os, I.bare, ⟨fun b o e n hb hx => ?_, fun b o e n hb hx => ?_, I.base.free, fun b o e hx => ?_, I.base.tups, I.base.frzs, I.base.tbls⟩, ⟨m, hn.sameBut hs (Ne.symm (cne x c hc)), fun j y v' e1 e2 e3 => ?_⟩, fun y c' e => ?_, I.free, I.freeC, fun p hp => ?_, tracked ⟨oc, hoc, I.freeC x c hc⟩ hs, by simpa using I.len⟩ ⟨c, hs, .inr hc⟩
    · exact (hs.2 b (Nat.ne_of_lt (Nat.lt_of_lt_of_le (Heap.lt_size e) (I.ok.cab x c hfn hc)))).trans (I.base.keep b o e n hb hx)
    · obtain ⟨sl, e1⟩ := I.base.slot b o e n hb hx
      exact ⟨sl, (hs.2 b (Nat.ne_of_lt (Nat.lt_of_lt_of_le (Heap.lt_size e) (I.ok.cab x c hfn hc)))).trans e1⟩
    · obtain ⟨o', e1⟩ := I.base.there b o e hx
      exact ⟨o', (hs.2 b (Nat.ne_of_lt (Nat.lt_of_lt_of_le (Heap.lt_size e) (I.ok.cab x c hfn hc)))).trans e1⟩
    · by_cases hj : j = i
      · subst hj
        rw [hi] at e1; cases e1
        rw [List.getElem?_set_self hiσ] at e2
        cases e2
        exact ⟨u, r, .inr ⟨.inl hk, c, hc, hc'⟩⟩
      · rw [List.getElem?_set_ne (Ne.symm hj)] at e2
        obtain ⟨u', r', q⟩ := hl j y v' e1 e2 e3
        refine ⟨u', r', ?_⟩
        rcases q with q | ⟨k, c', e, z'⟩
        · exact .inl q
        · refine .inr ⟨k, c', e, z'.sameBut hs ?_⟩
          rintro rfl
          exact hj (nodup_ix hN e1 (I.ok.inj _ _ _ e hc ▸ hi))
    · by_cases hcc : c' = c
      · subst hcc; exact ⟨_, hc'⟩
      · obtain ⟨w2, z2⟩ := I.cell y c' e
        exact ⟨w2, z2.sameBut hs hcc⟩
    · obtain ⟨e, n, ne, nf, d⟩ := I.pin p hp
      refine ⟨(hs.2 p.1 ?_).trans e, n, ne, nf, d⟩
      intro q
      rw [q, hoc] at e
      have q' : oc = p.2 := Option.some.inj e
      exact d w' (by rw [← q']; exact hocd)
theorem store_ok {M : Model} {A : Around} {E : Value → Shared → Prop} {i : Nat} {x : Str} {v : V} {u : Value} {Q : Unit → Shared → Prop} (I : Inv X pins σ H s) (hN : X.N.Nodup) (hi : X.N[i]? = some x) (hx : Loc X.env.scope x) (r : RelV v u)
    (h : ∀ s', Inv X pins (σ.set i (some v)) H s' → Q () s') (hf : X.fn x = true ∨ X.env.scope.names.lookup x = some .local := by first | exact .inl rfl | exact .inr rfl | assumption) : wpAny M A (storeName X.env x u) Q E s :=
  store_ok2 I hN hi hx r (fun s' I' _ => h s' I') hf
theorem Inv.call' {s' : Shared} {ch : List Addr} (I : Inv X pins σ H s) (ho : s'.os = s.os) (u : Un (frs X.stack) ch H H' s.heap s'.heap) (hok : HOk X.prog X.w H' s'.heap) (hg : AllBare s'.gens)
    (hch : ∀ b ∈ ch, (b ∈ X.ex ∨ X.s₀.heap.objs.size ≤ b) ∧ b ≠ X.env.locals ∧ (∀ x c, X.env.cells.lookup x = some c → c ≠ b) ∧ ∀ p ∈ X.pn ++ pins, p.1 ≠ b) : Inv X pins σ H' s' := by
  obtain ⟨h', g', d', t', o'⟩ := s'
  have e : o' = s.os := ho
  subst e
  exact I.call (g' := g') (t' := t') (d' := d') u hok hg hch
end
abbrev XK := Value → Option Addr → Hp → Prop
abbrev St := List (Option V)
abbrev VK := V → Hp → Prop
abbrev TE := St → Hp → VK → Prop
abbrev TT := St → Hp → (Bool → Hp → Prop) → Prop
abbrev TA := St → Hp → (List V → Hp → Prop) → Prop
structure Ends where
  nx : St → Hp → Prop
  rt : VK
  bk : St → Hp → Prop := fun _ _ => False
  ct : St → Hp → Prop := fun _ _ => False
abbrev TS := Ends → St → Hp → Prop
def EP (X : Cx) (pins : List (Addr × Obj)) (σ : St) (Q : VK) (u : Value) (s' : Shared) : Prop := ∃ v H', Inv X pins σ H' s' ∧ RelV v u ∧ Q v H'
def TP (X : Cx) (pins : List (Addr × Obj)) (σ : St) (Q : Bool → Hp → Prop) (b : Bool) (s' : Shared) : Prop := ∃ H', Inv X pins σ H' s' ∧ Q b H'
def AP (X : Cx) (pins : List (Addr × Obj)) (σ : St) (Q : List V → Hp → Prop) (us : List Value) (s' : Shared) : Prop := ∃ vs H', Inv X pins σ H' s' ∧ Vals vs us ∧ Q vs H'
def SP (X : Cx) (pins : List (Addr × Obj)) (D : Ends) (f : Flow) (s' : Shared) : Prop :=
  match f with
  | .next => ∃ σ' H', Inv X pins σ' H' s' ∧ D.nx σ' H'
  | .brk => ∃ σ' H', Inv X pins σ' H' s' ∧ D.bk σ' H'
  | .cont => ∃ σ' H', Inv X pins σ' H' s' ∧ D.ct σ' H'
  | .ret u => ∃ v σ' H', Inv X pins σ' H' s' ∧ RelV v u ∧ D.rt v H'
def PE (X : Cx) (e : Expr) (t : TE) : Prop :=
  ∀ (pins : List (Addr × Obj)) (s : Shared) (σ : St) (H : Hp) (Q : VK), Inv X pins σ H s → t σ H Q → wpAny (model X.prog X.w) X.A (eval e X.env) (EP X pins σ Q) X.xe s
def PT (X : Cx) (e : Expr) (t : TT) : Prop :=
  ∀ (pins : List (Addr × Obj)) (s : Shared) (σ : St) (H : Hp) (Q : Bool → Hp → Prop), Inv X pins σ H s → t σ H Q → wpAny (model X.prog X.w) X.A (isTrue e X.env (eval e X.env)) (TP X pins σ Q) X.xe s
def PW (X : Cx) (e : Expr) (t : TT) : Prop :=
  ∀ (whole : Sem Value) (pins : List (Addr × Obj)) (s : Shared) (σ : St) (H : Hp) (Q : Bool → Hp → Prop), Inv X pins σ H s → t σ H Q → wpAny (model X.prog X.w) X.A (isTrue e X.env whole) (TP X pins σ Q) X.xe s
theorem PW.pt {X : Cx} {e : Expr} {t : TT} (h : PW X e t) : PT X e t := h _
def PA (X : Cx) (es : List Expr) (t : TA) : Prop :=
  ∀ (pos : Pos) (pins : List (Addr × Obj)) (s : Shared) (σ : St) (H : Hp) (Q : List V → Hp → Prop), Inv X pins σ H s → t σ H Q → wpAny (model X.prog X.w) X.A (spliced (backTo pos (starEach es X.env))) (AP X pins σ Q) X.xe s
def PS (X : Cx) (st : Stmt) (t : TS) : Prop :=
  ∀ (pins : List (Addr × Obj)) (s : Shared) (σ : St) (H : Hp) (D : Ends), Inv X pins σ H s → t D σ H → wpAny (model X.prog X.w) X.A (exec st X.env) (SP X pins D) X.xe s
def PSs (X : Cx) (st : List Stmt) (t : TS) : Prop :=
  ∀ (pins : List (Addr × Obj)) (s : Shared) (σ : St) (H : Hp) (D : Ends), Inv X pins σ H s → t D σ H → wpAny (model X.prog X.w) X.A (execs st X.env) (SP X pins D) X.xe s
theorem thn {α : Type} {t : Sem α} {Q Q' : α → Shared → Prop} {M : Model} {A : Around} {E : Value → Shared → Prop} {s : Shared} (h : wpAny M A t Q E s) (hQ : ∀ a s, Q a s → Q' a s) : wpAny M A t Q' E s := wpAny_mono h hQ fun _ _ x => x
end L2
namespace L2
open PySem PySem.Spec PyProof.Rows
section
variable {X : Cx}
theorem bin {a b : Expr} {ta tb : TE} (ha : PE X a ta) (hb : PE X b tb) {pins : List (Addr × Obj)} {s : Shared} {σ : St} {H : Hp} {R : V → V → Hp → Prop} (I : Inv X pins σ H s) (h : ta σ H fun x H1 => tb σ H1 fun y H2 => R x y H2)
    {α : Type} {Q : α → Shared → Prop} {f : Value → Value → Sem α}
    (hf : ∀ v u s2 x y H2, Inv X pins σ H2 s2 → RelV x v → RelV y u → R x y H2 → wpAny (model X.prog X.w) X.A (f v u) Q X.xe s2) :
    wpAny (model X.prog X.w) X.A (eval a X.env) (fun v s₁ => wpAny (model X.prog X.w) X.A (eval b X.env) (fun u s₂ => wpAny (model X.prog X.w) X.A (f v u) Q X.xe s₂) X.xe s₁) X.xe s := by
  refine thn (ha pins s σ H _ I h) fun v s1 ⟨x, H1, I1, r1, q1⟩ => ?_
  refine thn (hb pins s1 σ H1 _ I1 q1) fun u s2 ⟨y, H2, I2, r2, q2⟩ => ?_
  exact hf v u s2 x y H2 I2 r1 r2 q2
def tVar (i : Nat) : TE := fun σ H Q => ∃ v, σ[i]? = some (some v) ∧ Q v H
def tC (v : V) : TE := fun _ H Q => Q v H
theorem pe_var {i : Nat} {x : Str} {pos : Pos} (hN : X.N[i]? = some x) (hv : Vis X.env.scope x) (hd : (x == ("__debug__" : Str)) = false := by decide) (hcd : (x == ("__classdict__" : Str)) = false := by decide) : PE X (.Name x pos) (tVar i) := by
  intro pins s σ H Q I h
  obtain ⟨v, e, h⟩ := h
  obtain ⟨m, hn, hl⟩ := I.loc
  obtain ⟨u, r, l⟩ := hl i x v hN e hv
  have fin : EP X pins σ Q u s := ⟨v, H, I, r, h⟩
  rcases l with ⟨hk, hm⟩ | ⟨hk, c, hc, hcell⟩
  · exact wpAny_Name (wpAny_loadName_local I.ok.kind hk hn hm fin) hd
  · rcases hk with hk | hk
    · exact wpAny_Name (wpAny_loadName_cell I.ok.kind hk hc hcell fin) hd
    · exact wpAny_Name (wpAny_loadName_free I.ok.kind hk hc hcell fin hcd) hd
theorem pe_int {i j pos} : PE X (.Constant (.int i) j pos) (tC (.int i)) := fun _ _ _ H _ I h => wpAny_Constant_int ⟨.int i, H, I.tok _, ⟨_, rfl⟩, h⟩
theorem pe_bl {b j pos} : PE X (.Constant (.bool b) j pos) (tC (.bl b)) := fun _ _ _ H _ I h => Constant_bool ⟨.bl b, H, I, rfl, h⟩
theorem pe_non {j pos} : PE X (.Constant .none j pos) (tC .non) := fun _ _ _ H _ I h => Constant_none ⟨.non, H, I, rfl, h⟩
theorem pe_str {x j pos} : PE X (.Constant (.str x) j pos) (tC (.str x)) := fun _ _ _ H _ I h => Calls.Constant_str ⟨.str x, H, I.tok _, ⟨_, rfl⟩, h⟩
def Gl (X : Cx) (x : Str) : Prop := X.env.kindOf x = some .globalImplicit
theorem ld_glob {E : Value → Shared → Prop} {pins : List (Addr × Obj)} {s : Shared} {σ : St} {H : Hp} {x : Str} {u : Value} {pos : Pos} {Q : Value → Shared → Prop} (I : Inv X pins σ H s) (hg : Gl X x) (hm : X.mg x = some u) (h : Q u s)
    (hd : (x == ("__debug__" : Str)) = false := by decide) : wpAny (model X.prog X.w) X.A (eval (.Name x pos) X.env) Q E s :=
  Calls.Name_function_global I.ok.kind hg (Calls.loadGlobal_global (by rw [I.ok.glob]; exact I.mod.glob.keeps I.bk) hm h) hd
theorem ld_blt {E : Value → Shared → Prop} {pins : List (Addr × Obj)} {s : Shared} {σ : St} {H : Hp} {x : Str} {u : Value} {pos : Pos} {Q : Value → Shared → Prop} (I : Inv X pins σ H s) (hg : Gl X x) (hm : X.mg x = none) (hv : bootBuiltins x = some u) (h : Q u s)
    (hn : x ≠ "__name__" := by decide) (hd : (x == ("__debug__" : Str)) = false := by decide) : wpAny (model X.prog X.w) X.A (eval (.Name x pos) X.env) Q E s := by
  obtain ⟨mb, h1, h2⟩ := I.mod.blt
  exact Calls.Name_function_global I.ok.kind hg (Calls.loadGlobal_builtin (by rw [I.ok.glob]; exact I.mod.glob.keeps I.bk) hm (by rw [I.ok.blt]; exact h1.keeps I.bk) ((h2 x hn).trans hv) h) hd
theorem pe_glob {x : Str} {v : V} {u : Value} {pos : Pos} (hg : Gl X x) (hm : X.mg x = some u) (r : RelV v u) (hd : (x == ("__debug__" : Str)) = false := by decide) : PE X (.Name x pos) (tC v) :=
  fun _ _ _ H _ I h => ld_glob I hg hm ⟨v, H, I, r, h⟩ hd
theorem pe_bltn {x : Str} {v : V} {u : Value} {pos : Pos} (hg : Gl X x) (hm : X.mg x = none) (hv : bootBuiltins x = some u) (r : RelV v u) (hn : x ≠ "__name__" := by decide) (hd : (x == ("__debug__" : Str)) = false := by decide) : PE X (.Name x pos) (tC v) :=
  fun _ _ _ H _ I h => ld_blt I hg hm hv ⟨v, H, I, r, h⟩ hn hd
def t2I (ta tb : TE) (k : Int → Int → Hp → Prop) : St → Hp → Prop := fun σ H => ta σ H fun x H1 => tb σ H1 fun y H2 => ∃ i j, x = .int i ∧ y = .int j ∧ k i j H2
def tAdd (ta tb : TE) : TE := fun σ H Q => t2I ta tb (fun i j H2 => Q (.int (i + j)) H2) σ H
def tSub (ta tb : TE) : TE := fun σ H Q => t2I ta tb (fun i j H2 => Q (.int (i - j)) H2) σ H
def tMul (ta tb : TE) : TE := fun σ H Q => t2I ta tb (fun i j H2 => (-(2 ^ 64) < i ∧ i < 2 ^ 64) ∧ Q (.int (i * j)) H2) σ H
variable {a b : Expr} {ta tb : TE} {pos : Pos}
def PC (X : Cx) (op : CmpOp) (a b : Expr) (t : TE) : Prop :=
  ∀ (pins : List (Addr × Obj)) (s : Shared) (σ : St) (H : Hp) (Q : VK), Inv X pins σ H s → t σ H Q →
    wpAny (model X.prog X.w) X.A (eval a X.env) (fun v s₁ => wpAny (model X.prog X.w) X.A (eval b X.env) (fun u s₂ => wpAny (model X.prog X.w) X.A (compareOp op v u) (EP X pins σ Q) X.xe s₂) X.xe s₁) X.xe s
def tCmp (p : Int → Int → Bool) (ta tb : TE) : TE := fun σ H Q => t2I ta tb (fun i j H2 => Q (.bl (p i j)) H2) σ H
abbrev tLt : TE → TE → TE := tCmp fun i j => decide (i < j)
abbrev tLe : TE → TE → TE := tCmp fun i j => decide (i ≤ j)
abbrev tGt : TE → TE → TE := tCmp fun i j => decide (j < i)
abbrev tGe : TE → TE → TE := tCmp fun i j => decide (j ≤ i)
abbrev tEqI : TE → TE → TE := tCmp fun i j => decide (i = j)
abbrev tNeI : TE → TE → TE := tCmp fun i j => !decide (i = j)
def tIsN (ta : TE) : TE := fun σ H Q => ta σ H fun x H1 => Q (.bl (decide (x = .non))) H1
def tNotN (ta : TE) : TE := fun σ H Q => ta σ H fun x H1 => Q (.bl (!decide (x = .non))) H1
def tB (t : TE) : TT := fun σ H Q => t σ H fun x H1 => ∃ c, x = .bl c ∧ Q c H1
variable {tA tB' : TT} {rest : List Expr}
def tAnd (t u : TT) : TT := fun σ H Q => t σ H fun c H1 => if c = true then u σ H1 Q else Q false H1
def tOr (t u : TT) : TT := fun σ H Q => t σ H fun c H1 => if c = true then Q true H1 else u σ H1 Q
def tNot (t : TT) : TT := fun σ H Q => t σ H fun c H1 => Q (!c) H1
theorem pw_and1 (ha : PT X a tA) : PW X (.BoolOp .And [a] pos) tA := by
  intro wh pins s σ H Q I h
  refine isTrue_and (thn (ha pins s σ H Q I h) fun c s1 e => ?_)
  cases c with
  | true => exact isTrue_and_nil e
  | false => exact e
theorem pw_or1 (ha : PT X a tA) : PW X (.BoolOp .Or [a] pos) tA := by
  intro wh pins s σ H Q I h
  refine isTrue_or (thn (ha pins s σ H Q I h) fun c s1 e => ?_)
  cases c with
  | false => exact isTrue_or_nil e
  | true => exact e
theorem pw_and (ha : PT X a tA) (hb : PW X (.BoolOp .And (b :: rest) pos) tB') : PW X (.BoolOp .And (a :: b :: rest) pos) (tAnd tA tB') := by
  intro wh pins s σ H Q I h
  refine isTrue_and (thn (ha pins s σ H _ I h) fun c s1 ⟨H1, I1, q1⟩ => ?_)
  cases c with
  | true => exact hb wh pins s1 σ H1 Q I1 q1
  | false => exact ⟨H1, I1, q1⟩
theorem pw_or (ha : PT X a tA) (hb : PW X (.BoolOp .Or (b :: rest) pos) tB') : PW X (.BoolOp .Or (a :: b :: rest) pos) (tOr tA tB') := by
  intro wh pins s σ H Q I h
  refine isTrue_or (thn (ha pins s σ H _ I h) fun c s1 ⟨H1, I1, q1⟩ => ?_)
  cases c with
  | true => exact ⟨H1, I1, q1⟩
  | false => exact hb wh pins s1 σ H1 Q I1 q1
theorem pt_not (ha : PT X a tA) : PT X (.UnaryOp .Not a pos) (tNot tA) := by
  intro pins s σ H Q I h
  exact isTrue_not (ha pins s σ H (fun c H1 => Q (!c) H1) I h)
def tAndV (ta tb : TE) : TE := fun σ H Q => ta σ H fun x H1 => ∃ c, x = .bl c ∧ if c = true then tb σ H1 Q else Q (.bl false) H1
def tOrV (ta tb : TE) : TE := fun σ H Q => ta σ H fun x H1 => ∃ c, x = .bl c ∧ if c = true then Q (.bl true) H1 else tb σ H1 Q
def tNotV (ta : TE) : TE := fun σ H Q => ta σ H fun x H1 => ∃ c, x = .bl c ∧ Q (.bl (!c)) H1
theorem pe_one {op} {t : TE} (h : PE X a t) : PE X (.BoolOp op [a] pos) t := fun pins s σ H Q I hw => BoolOp_one (h pins s σ H Q I hw)
theorem pe_and (ha : PE X a ta) (hb : PE X (.BoolOp .And (b :: rest) pos) tb) : PE X (.BoolOp .And (a :: b :: rest) pos) (tAndV ta tb) := by
  intro pins s σ H Q I h
  refine BoolOp_and (thn (ha pins s σ H _ I h) fun v s1 ⟨x, H1, I1, r1, q1⟩ => ?_)
  obtain ⟨c, rfl, q1⟩ := q1
  cases r1
  refine wpAny_truthy_bool ?_
  cases c with
  | true => exact hb pins s1 σ H1 Q I1 q1
  | false => exact ⟨.bl false, H1, I1, rfl, q1⟩
theorem pe_not (ha : PE X a ta) : PE X (.UnaryOp .Not a pos) (tNotV ta) := by
  intro pins s σ H Q I h
  refine UnaryOp_ (thn (ha pins s σ H _ I h) fun v s1 ⟨x, H1, I1, r1, q1⟩ => ?_)
  obtain ⟨c, rfl, q1⟩ := q1
  cases r1
  exact not_of (wpAny_truthy_bool ⟨.bl (!c), H1, I1, rfl, q1⟩)
def tIf (t : TT) (ta tb : TE) : TE := fun σ H Q => t σ H fun c H1 => if c = true then ta σ H1 Q else tb σ H1 Q
theorem pe_ifExp {c : Expr} (hc : PT X c tA) (ha : PE X a ta) (hb : PE X b tb) : PE X (.IfExp c a b pos) (tIf tA ta tb) := by
  intro pins s σ H Q I h
  refine wpAny_IfExp (thn (hc pins s σ H _ I h) fun d s1 ⟨H1, I1, q1⟩ => ?_)
  cases d with
  | true => exact ha pins s1 σ H1 Q I1 q1
  | false => exact hb pins s1 σ H1 Q I1 q1
end
end L2
namespace L2
open PySem PySem.Spec PyProof.Rows
def SqL (K : PySem.W.Frag) (H : Hp) (a : Addr) (xs : List V) : Prop :=
  Rd H a (.lst xs) ∨
    ∃ (o : Obj) (its : Array Value) (n : Nat), K.lookup a = some o ∧ o.cls = .type "list" ∧ o.dict = none ∧ o.data = .seq its n ∧ its.size ≤ sizeLine ∧ Vals xs its.toList
def SqT (K : PySem.W.Frag) (H : Hp) (a : Addr) (xs : List V) : Prop :=
  Rd H a (.tup xs) ∨
    ∃ (o : Obj) (its : Array Value) (n : Nat), K.lookup a = some o ∧ o.cls = .type "tuple" ∧ o.data = .seq its n ∧ its.size ≤ sizeLine ∧ Vals xs its.toList
def absV : Value → Option V
  | .none => some .non
  | .bool b => some (.bl b)
  | .int i _ => some (.int i)
  | .str x _ => some (.str x)
  | .bytes b _ => some (.byt b)
  | .float b _ => some (.flt b)
  | .ref a => some (.ref a)
  | .type n => some (.ty n)
  | _ => none
theorem RelV.abs {x : V} {u : Value} (r : RelV x u) : absV u = some x := by
  cases x with
  | non => cases r; rfl
  | bl _ => cases r; rfl
  | int _ => obtain ⟨t, rfl⟩ := r; rfl
  | str _ => obtain ⟨t, rfl⟩ := r; rfl
  | byt _ => obtain ⟨t, rfl⟩ := r; rfl
  | flt _ => obtain ⟨t, rfl⟩ := r; rfl
  | ref _ => cases r; rfl
  | ty _ => cases r; rfl
theorem RelV.inj {x y : V} {u : Value} (r : RelV x u) (q : RelV y u) : x = y := Option.some.inj (r.abs.symm.trans q.abs)
theorem Vals.inj : ∀ {xs ys : List V} {us : List Value}, Vals xs us → Vals ys us → xs = ys
  | _, _, _, .nil, .nil => rfl
  | _, _, _, .cons r t, .cons r' t' => by rw [r.inj r', Vals.inj t t']
section
variable {X : Cx} {pins : List (Addr × Obj)} {σ : St} {H : Hp} {s : Shared} {a : Addr} {xs ys : List V}
theorem SqL.of {K : PySem.W.Frag} (h : H a = some (.lst xs)) : SqL K H a xs := .inl (.inl h)
theorem SqT.of {K : PySem.W.Frag} (h : H a = some (.tup xs)) : SqT K H a xs := .inl (.inl h)
theorem Inv.list (I : Inv X pins σ H s) (h : SqL X.K H a xs) : ∃ its : List Value, Vals xs its ∧ PlainL s.heap a its.toArray ∧ xs.length ≤ sizeLine := by
  rcases h with h | ⟨o, its, n, hk, hc, hd, hs, hz, r⟩
  · obtain ⟨z, its, n, r, e⟩ := h.ok I.hok
    exact ⟨its, r, ⟨_, n, e, rfl, rfl, rfl⟩, z⟩
  · refine ⟨its.toList, r, ⟨o, n, I.kIn a o hk, hc, hd, by simpa using hs⟩, ?_⟩
    have e := r.length
    simp only [Array.length_toList] at e
    omega
theorem Inv.tuple (I : Inv X pins σ H s) (h : SqT X.K H a xs) : ∃ its : List Value, Vals xs its ∧ IsTup s.heap a its.toArray ∧ xs.length ≤ sizeLine := by
  rcases h with h | ⟨o, its, n, hk, hc, hs, hz, r⟩
  · obtain ⟨z, its, r, p⟩ := h.ok I.hok
    exact ⟨its, r, p, z⟩
  · refine ⟨its.toList, r, ⟨o, I.kIn a o hk, hc, n, by simpa using hs⟩, ?_⟩
    have e := r.length
    simp only [Array.length_toList] at e
    omega
theorem Inv.list_inj (I : Inv X pins σ H s) (h : SqL X.K H a xs) (h' : SqL X.K H a ys) : xs = ys := by
  obtain ⟨its, r, ⟨o, n, e, _, _, d⟩, _⟩ := I.list h
  obtain ⟨its', r', ⟨o', n', e', _, _, d'⟩, _⟩ := I.list h'
  rw [e] at e'; cases e'
  rw [d] at d'
  injection d' with d1 _
  have : its = its' := by simpa using congrArg Array.toList d1
  subst this
  exact r.inj r'
end
abbrev Cx.wish (X : Cx) (E : Value → Shared → Prop) : Cx := { X with xe := E }
abbrev Cx.nox (X : Cx) : Cx := X.wish fun _ _ => False
theorem Cx.Ok.wish {X : Cx} (ok : X.Ok) (E : Value → Shared → Prop) : (X.wish E).Ok :=
  ⟨ok.mod, ok.kind, ok.glob, ok.blt, ok.above, ok.inj, ok.has, ok.cab, ok.hd, ok.frames, ok.stk, ok.exf, ok.bs, ok.bsz, ok.noex, ok.exfs, ok.funs, ok.frf⟩
theorem Cx.Ok.unwish {X : Cx} {E : Value → Shared → Prop} (ok : (X.wish E).Ok) : X.Ok :=
  ⟨ok.mod, ok.kind, ok.glob, ok.blt, ok.above, ok.inj, ok.has, ok.cab, ok.hd, ok.frames, ok.stk, ok.exf, ok.bs, ok.bsz, ok.noex, ok.exfs, ok.funs, ok.frf⟩
section
variable {X : Cx} {pins : List (Addr × Obj)} {σ : St} {H : Hp} {s : Shared} {E : Value → Shared → Prop}
theorem Inv.wish (I : Inv X pins σ H s) (E : Value → Shared → Prop) : Inv (X.wish E) pins σ H s := ⟨I.ok.wish E, I.os, I.bare, I.base, I.loc, I.cell, I.free, I.freeC, I.pin, I.hok, I.len⟩
theorem Inv.unwish (I : Inv (X.wish E) pins σ H s) : Inv X pins σ H s := ⟨I.ok.unwish, I.os, I.bare, I.base, I.loc, I.cell, I.free, I.freeC, I.pin, I.hok, I.len⟩
theorem SP.unwish {D : Ends} {f : Flow} {s' : Shared} (h : SP (X.wish E) pins D f s') : SP X pins D f s' := by
  cases f with
  | next => obtain ⟨σ', H', I, q⟩ := h; exact ⟨σ', H', I.unwish, q⟩
  | brk => obtain ⟨σ', H', I, q⟩ := h; exact ⟨σ', H', I.unwish, q⟩
  | cont => obtain ⟨σ', H', I, q⟩ := h; exact ⟨σ', H', I.unwish, q⟩
  | ret u => obtain ⟨v, σ', H', I, r, q⟩ := h; exact ⟨v, σ', H', I.unwish, r, q⟩
theorem PE.nox {e : Expr} {t : TE} (h : PE X.nox e t) : PE X e t := fun pins s σ H Q I hw =>
  wpAny_mono (h pins s σ H Q (I.wish _) hw) (fun _ _ ⟨v, H', I', r, q⟩ => ⟨v, H', I'.unwish, r, q⟩) fun _ _ z => False.elim z
theorem PT.nox {e : Expr} {t : TT} (h : PT X.nox e t) : PT X e t := fun pins s σ H Q I hw =>
  wpAny_mono (h pins s σ H Q (I.wish _) hw) (fun _ _ ⟨H', I', q⟩ => ⟨H', I'.unwish, q⟩) fun _ _ z => False.elim z
theorem PSs.nox {st : List Stmt} {t : TS} (h : PSs X.nox st t) : PSs X st t := fun pins s σ H D I hw =>
  wpAny_mono (h pins s σ H D (I.wish _) hw) (fun _ _ q => q.unwish) fun _ _ z => False.elim z
end
section
variable {X : Cx} {st : Stmt} {rest : List Stmt} {t u : TS} {e : Expr} {te : TE} {pos : Pos}
def tNext : TS := fun D σ H => D.nx σ H
def tSeq (t u : TS) : TS := fun D σ H => t { D with nx := u D } σ H
theorem pss_nil : PSs X [] tNext := fun _ _ σ H _ I h => wpAny_execs_nil ⟨σ, H, I, h⟩
theorem pss_cons (h1 : PS X st t) (h2 : PSs X rest u) : PSs X (st :: rest) (tSeq t u) := by
  intro pins s σ H D I h
  refine wpAny_execs_cons (thn (h1 pins s σ H { D with nx := u D } I h) fun f s1 q => ?_)
  cases f with
  | next =>
    obtain ⟨σ', H', I', q⟩ := q
    exact h2 pins s1 σ' H' D I' q
  | ret v => exact q
  | brk => exact q
  | cont => exact q
theorem pss_one (h1 : PS X st t) : PSs X [st] t := by
  intro pins s σ H D I h
  refine wpAny_execs_cons (thn (h1 pins s σ H D I h) fun f s1 q => ?_)
  cases f with
  | next => exact wpAny_execs_nil q
  | ret v => exact q
  | brk => exact q
  | cont => exact q
def tBreak : TS := fun D σ H => D.bk σ H
def tCont : TS := fun D σ H => D.ct σ H
theorem Inv.quiet {pins : List (Addr × Obj)} {σ : St} {H : Hp} {s : Shared} (I : Inv X pins σ H s) : interactive X.env = false := by simp [interactive, I.ok.kind]
def tDrop (te : TE) : TS := fun D σ H => te σ H fun _ H1 => D.nx σ H1
theorem ps_expr (he : PE X e te) (hs : swapsWith e none pos.line X.env = pure false := by rfl) : PS X (.Expr e pos) (tDrop te) := by
  intro pins s σ H D I h
  exact wpAny_Expr_any (thn (he pins s σ H _ I h) fun v s1 ⟨x, H1, I1, r1, q1⟩ => ⟨σ, H1, I1, q1⟩) I.quiet hs
def tRet (te : TE) : TS := fun D σ H => te σ H D.rt
theorem ps_ret (he : PE X e te) : PS X (.Return (some e) pos) (tRet te) := by
  intro pins s σ H D I h
  exact wpAny_Return_some (thn (he pins s σ H _ I h) fun v s1 ⟨x, H1, I1, r1, q1⟩ => ⟨x, σ, H1, I1, r1, q1⟩)
def tRetN : TS := fun D _ H => D.rt .non H
def tIfS (c : TT) (t u : TS) : TS := fun D σ H => c σ H fun b H1 => if b = true then t D σ H1 else u D σ H1
theorem ps_if {c : Expr} {a b : List Stmt} {tc : TT} (hc : PT X c tc) (ha : PSs X a t) (hb : PSs X b u) : PS X (.If c a b pos) (tIfS tc t u) := by
  intro pins s σ H D I h
  refine wpAny_If (thn (hc pins s σ H _ I h) fun d s1 ⟨H1, I1, q1⟩ => ?_)
  cases d with
  | true => exact ha pins s1 σ H1 D I1 q1
  | false => exact hb pins s1 σ H1 D I1 q1
def tNever : TS := fun _ _ _ => False
end
abbrev TG := V → St → Hp → (St → Hp → Prop) → Prop
abbrev TGs := List V → St → Hp → (St → Hp → Prop) → Prop
def PG (X : Cx) (target : Expr) (t : TG) : Prop :=
  ∀ (pins : List (Addr × Obj)) (s : Shared) (σ : St) (H : Hp) (v : V) (u : Value) (Q : St → Hp → Prop), Inv X pins σ H s → RelV v u → t v σ H Q →
    wpAny (model X.prog X.w) X.A (assign target X.env u) (fun _ s' => ∃ σ' H', Inv X pins σ' H' s' ∧ Q σ' H') X.xe s
def PGs (X : Cx) (ts : List Expr) (t : TGs) : Prop :=
  ∀ (pins : List (Addr × Obj)) (s : Shared) (σ : St) (H : Hp) (vs : List V) (us : List Value) (Q : St → Hp → Prop), Inv X pins σ H s → Vals vs us → t vs σ H Q →
    wpAny (model X.prog X.w) X.A (assignInOrder ((assignEach ts X.env).map (·.2)) us) (fun _ s' => ∃ σ' H', Inv X pins σ' H' s' ∧ Q σ' H') X.xe s
abbrev TSet := V → V → V → Hp → (Hp → Prop) → Prop
def PSet (X : Cx) (t : TSet) : Prop :=
  ∀ (pins : List (Addr × Obj)) (s : Shared) (σ : St) (H : Hp) (o i v : V) (ov iv u : Value) (Q : Hp → Prop), Inv X pins σ H s → RelV o ov → RelV i iv → RelV v u → t o i v H Q →
    wpAny (model X.prog X.w) X.A (setItem ov iv u) (fun _ s' => ∃ H', Inv X pins σ H' s' ∧ Q H') X.xe s
abbrev TIp := V → V → Hp → VK → Prop
def PIp (X : Cx) (op : Operator) (t : TIp) : Prop :=
  ∀ (pins : List (Addr × Obj)) (s : Shared) (σ : St) (H : Hp) (x y : V) (v u : Value) (Q : VK), Inv X pins σ H s → RelV x v → RelV y u → t x y H Q →
    wpAny (model X.prog X.w) X.A (inplaceOp op v u) (EP X pins σ Q) X.xe s
section
variable {X : Cx} {pos : Pos}
def gName (i : Nat) : TG := fun v σ H Q => Q (σ.set i (some v)) H
theorem pg_name {i : Nat} {x : Str} (hN : X.N.Nodup) (hi : X.N[i]? = some x) (hx : Loc X.env.scope x) (hf : X.fn x = true ∨ X.env.scope.names.lookup x = some .local := by first | exact .inl rfl | exact .inr rfl | assumption) : PG X (.Name x pos) (gName i) := by
  intro pins s σ H v u Q I r h
  exact wpAny_assign_Name (store_ok I hN hi hx r (fun s' I' => ⟨_, H, I', h⟩) hf)
def gNil : TGs := fun vs σ H Q => vs = [] ∧ Q σ H
def gCons (t : TG) (u : TGs) : TGs := fun vs σ H Q => ∃ v r, vs = v :: r ∧ t v σ H fun σ' H' => u r σ' H' Q
theorem pgs_nil : PGs X [] gNil := by
  intro pins s σ H vs us Q I r h
  obtain ⟨e, h⟩ := h
  subst e
  cases r
  exact assignInOrder_nil ⟨σ, H, I, h⟩
theorem pgs_cons {e : Expr} {es : List Expr} {t : TG} {u : TGs} (h1 : PG X e t) (h2 : PGs X es u)
    (hs : (assignEach (e :: es) X.env).map (·.2) = assign e X.env :: (assignEach es X.env).map (·.2) := by rfl) : PGs X (e :: es) (gCons t u) := by
  intro pins s σ H vs us Q I r h
  obtain ⟨v, vr, e1, h⟩ := h
  subst e1
  cases r with
  | cons r rr =>
    rw [hs]
    refine assignInOrder_cons (thn (h1 pins s σ H _ _ _ I r h) fun _ s1 ⟨σ1, H1, I1, q1⟩ => ?_)
    exact h2 pins s1 σ1 H1 _ _ Q I1 rr q1
def gTup (K : PySem.W.Frag) (n : Nat) (t : TGs) : TG := fun v σ H Q => ∃ a xs, v = .ref a ∧ SqT K H a xs ∧ xs.length = n ∧ t xs σ H Q
theorem pg_tup {es : List Expr} {k : Nat} {t : TGs} {n : Nat} (hc : X.calm = true) (h : PGs X es t)
    (hn : (assignEach es X.env).length = n := by rfl) (hst : (assignEach es X.env).findIdx? (·.1) = none := by rfl) : PG X (.Tuple es k pos) (gTup X.K n t) := by
  intro pins s σ H v u Q I r hw
  obtain ⟨a, xs, e1, hq, hl, hw⟩ := hw
  subst e1
  cases r
  obtain ⟨its, rv, ht, hz⟩ := I.tuple hq
  refine assign_Tuple_tuple (I.ok.hd hc) ht (by simp [hn, ← hl, rv.length]) hst fun h' hx => ?_
  have I1 : Inv X pins σ H { s with heap := h' } := I.kept (t' := s.toks) fun b o e => hx b o (Nat.ne_of_lt (Heap.lt_size e)) e
  exact h pins _ σ H xs _ Q I1 (by simpa using rv) hw
def gSub (to ti : TE) (t : TSet) : TG := fun v σ H Q => to σ H fun o H1 => ti σ H1 fun i H2 => t o i v H2 fun H3 => Q σ H3
theorem pg_sub {o i : Expr} {to ti : TE} {t : TSet} (ho : PE X o to) (hi : PE X i ti) (hs : PSet X t)
    (ha : ∀ v, assign (.Subscript o i pos) X.env v = (do
      let ov ← holding [v] (eval o X.env)
      let iv ← holding [v, ov] (eval i X.env)
      standAt pos
      holding [v, ov, iv] (setItem ov iv v)
      release [v, ov, iv] []) := by intro _; rfl) : PG X (.Subscript o i pos) (gSub to ti t) := by
  intro pins s σ H v u Q I r h
  rw [ha]
  refine wpAny_bind (wpAny_holding (thn (ho pins s σ H _ I h) fun ov s1 ⟨x, H1, I1, r1, q1⟩ => ?_))
  refine wpAny_bind (wpAny_holding (thn (hi pins s1 σ H1 _ I1 q1) fun iv s2 ⟨y, H2, I2, r2, q2⟩ => ?_))
  refine wpAny_bind (wpAny_standAt (wpAny_bind (wpAny_holding (thn (hs pins s2 σ H2 x y v ov iv u _ I2 r1 r2 r q2) fun _ s3 ⟨H3, I3, q3⟩ => ?_))))
  exact wpAny_release ⟨σ, H3, I3, q3⟩
def tAsg (te : TE) (g : TG) : TS := fun D σ H => te σ H fun x H1 => g x σ H1 D.nx
theorem ps_asg {tg e : Expr} {te : TE} {g : TG} (he : PE X e te) (hg : PG X tg g) (hs : swapsWithSole [tg] e pos.line X.env = pure false := by rfl) (hw : swappedStores [tg] e X.env = pure none := by rfl)
    (h1 : (assignEach [tg] X.env).map (·.2) = [assign tg X.env] := by rfl) : PS X (.Assign [tg] e pos) (tAsg te g) := by
  intro pins s σ H D I h
  refine wpAny_Assign_stores (thn (he pins s σ H _ I h) fun v s1 ⟨x, H1, I1, r1, q1⟩ => ?_) hs hw
  rw [h1]
  exact thn (hg pins s1 σ H1 x v _ I1 r1 q1) fun _ s2 q => q
theorem ps_set {i : Nat} {x : Str} {e : Expr} {te : TE} {pos' : Pos} (hN : X.N.Nodup) (hi : X.N[i]? = some x) (hx : Loc X.env.scope x) (he : PE X e te) (hs : swapsWith e (some (.Name x pos')) pos.line X.env = pure false := by rfl) (hf : X.fn x = true ∨ X.env.scope.names.lookup x = some .local := by first | exact .inl rfl | exact .inr rfl | assumption) :
    PS X (.Assign [.Name x pos'] e pos) (tAsg te (gName i)) := by
  intro pins s σ H D I h
  refine wpAny_Assign_Name (thn (he pins s σ H _ I h) fun v s1 ⟨y, H1, I1, r1, q1⟩ => ?_) hs
  exact store_ok I1 hN hi hx r1 (fun s2 I2 => ⟨_, H1, I2, q1⟩) hf
def tPar (i j : Nat) (ta : TA) : TS := fun D σ H => ta σ H fun vs H1 => ∃ v w, vs = [v, w] ∧ D.nx ((σ.set i (some v)).set j (some w)) H1
def tAug (i : Nat) (te : TE) (ti : TIp) : TS := fun D σ H => ∃ x, σ[i]? = some (some x) ∧ te σ H fun y H1 => ti x y H1 fun z H2 => D.nx (σ.set i (some z)) H2
def tAugS (to ti te : TE) (tget : V → V → Hp → VK → Prop) (tip : TIp) (tset : TSet) : TS := fun D σ H => to σ H fun o H1 => ti σ H1 fun i H2 => tget o i H2 fun x H3 => te σ H3 fun y H4 => tip x y H4 fun z H5 => tset o i z H5 fun H6 => D.nx σ H6
def PGet (X : Cx) (t : V → V → Hp → VK → Prop) : Prop :=
  ∀ (pins : List (Addr × Obj)) (s : Shared) (σ : St) (H : Hp) (o i : V) (ov iv : Value) (Q : VK), Inv X pins σ H s → RelV o ov → RelV i iv → t o i H Q →
    wpAny (model X.prog X.w) X.A (getItem ov iv) (EP X pins σ Q) X.xe s
def ipI (f : Int → Int → Int) : TIp := fun x y H Q => ∃ i j, x = .int i ∧ y = .int j ∧ Q (.int (f i j)) H
end
section
variable {X : Cx} {pos : Pos}
def tWhile (c : TT) (tb : TS) : TS := fun D σ H => ∃ W : Nat → St → Hp → Prop, (∃ m, W m σ H) ∧ ∀ m σ H, W m σ H →
  c σ H fun b H1 => if b = true then ∃ N : St → Hp → Prop, (∀ σ' H', N σ' H' → ∃ m', m' < m ∧ W m' σ' H') ∧ tb { D with nx := N, ct := N, bk := D.nx } σ H1 else D.nx σ H1
theorem ps_while {c : Expr} {body : List Stmt} {tc : TT} {tb : TS} (hp : PassesOwn (model X.prog X.w) X.A X.env X.xe) (hc : PT X c tc) (hb : PSs X body tb) : PS X (.While c body [] pos) (tWhile tc tb) := by
  intro pins s σ H D I h
  obtain ⟨W, ⟨m0, w0⟩, turn⟩ := h
  refine wpAny_While (codeAny_whileLoop (fun n s' => ∃ σ' H', Inv X pins σ' H' s' ∧ W n σ' H') ?_ m0 ⟨σ, H, I, w0⟩)
  rintro n s1 ⟨σ1, H1, I1, w1⟩
  refine wpAny_passesOwn hp (thn (hc pins s1 σ1 H1 _ I1 (turn n σ1 H1 w1)) fun b s2 ⟨H2, I2, q2⟩ => ?_)
  cases b with
  | true =>
    obtain ⟨N, hN, q2⟩ := q2
    rw [if_pos rfl]
    refine wpAny_passesOwn hp (thn (hb pins s2 σ1 H2 _ I2 q2) fun f s3 q3 => ?_)
    cases f with
    | next =>
      obtain ⟨σ3, H3, I3, n3⟩ := q3
      obtain ⟨m', hm, w3⟩ := hN σ3 H3 n3
      exact ⟨m', hm, σ3, H3, I3, w3⟩
    | cont =>
      obtain ⟨σ3, H3, I3, n3⟩ := q3
      obtain ⟨m', hm, w3⟩ := hN σ3 H3 n3
      exact ⟨m', hm, σ3, H3, I3, w3⟩
    | brk => exact q3
    | ret v => exact q3
  | false =>
    rw [if_neg Bool.false_ne_true]
    exact wpAny_execs_nil ⟨σ1, H2, I2, q2⟩
end
structure It where
  go : Nat → Hp → Prop
  yld : Nat → Hp → V → Hp → Prop
  stop : Nat → Hp → Prop
def FpOk (X : Cx) (pins : List (Addr × Obj)) (H : Hp) (b : Addr) : Prop :=
  H b = none ∧ b ≠ X.env.locals ∧ b ∉ X.fs ∧ (b ∈ X.ex ∨ X.s₀.heap.objs.size ≤ b) ∧ (∀ x c, X.env.cells.lookup x = some c → c ≠ b) ∧ ∀ p ∈ X.pn ++ pins, p.1 ≠ b
theorem Inv.fpOk {X : Cx} {pins : List (Addr × Obj)} {σ : St} {H H' : Hp} {s : Shared} {b : Addr} (I : Inv X pins σ H s) (hb : s.heap.objs.size ≤ b) (hn : H' b = none) : FpOk X pins H' b := by
  refine ⟨hn, Nat.ne_of_gt (Nat.lt_of_lt_of_le I.lt hb), I.nofs hb, .inr (Nat.le_trans I.sz hb), fun x c e z => ?_, fun p hp z => ?_⟩
  · obtain ⟨v, q⟩ := I.cell x c e
    exact absurd (Nat.lt_of_lt_of_le q.lt (by rw [z]; exact hb)) (Nat.lt_irrefl _)
  · exact absurd (Nat.lt_of_lt_of_le (Heap.lt_size (I.pin p hp).1) (by rw [z]; exact hb)) (Nat.lt_irrefl _)
structure Turn (P : Program) (w : World) (K : PySem.W.Frag) (tg : Expr) (J : It) (fp : List Addr) (it : Addr) (tn : Nat → Heap → Prop) : Prop where
  mem : it ∈ fp
  obj : ∀ i h, tn i h → ∀ b ∈ fp, ∃ o, h.get? b = some o ∧ ∀ v, o.data ≠ .cell v
  keep : ∀ i h h', tn i h → (∀ b ∈ fp, ∀ o, h.get? b = some o → h'.get? b = some o) → tn i h'
  item : ∀ (X : Cx), X.prog = P → X.w = w → X.K = K → X.calm = true → ∀ (i : Nat) (pins : List (Addr × Obj)) (s : Shared) (σ : St) (H : Hp) (E : Value → Shared → Prop), Inv X pins σ H s → (∀ b ∈ fp, FpOk X pins H b) → tn i s.heap → J.go i H →
    wpAny (model P w) X.A (pyNext (.ref it)) (fun r s1 => ∃ u, r = some u ∧
      wpAny (model P w) X.A (letOwnedTupleGo tg (.ref it) u) (fun _ s2 => ∃ x H', Inv X pins σ H' s2 ∧ RelV x u ∧ J.yld i H x H' ∧ tn (i + 1) s2.heap ∧ ∀ b ∈ fp, H' b = none) E s1) E s
  done : ∀ (X : Cx), X.prog = P → X.w = w → X.K = K → X.calm = true → ∀ (i : Nat) (pins : List (Addr × Obj)) (s : Shared) (σ : St) (H : Hp) (E : Value → Shared → Prop), Inv X pins σ H s → (∀ b ∈ fp, FpOk X pins H b) → tn i s.heap → J.stop i H →
    wpAny (model P w) X.A (pyNext (.ref it)) (fun r s1 => r = none ∧ Inv X pins σ H s1) E s
  self : ∀ (A : Around) (i : Nat) (s : Shared) (Q : Value → Shared → Prop) (E : Value → Shared → Prop), tn i s.heap → Q (.ref it) s → wpAny (model P w) A (pyIter (.ref it)) Q E s
abbrev TI := St → Hp → (It → Hp → Prop) → Prop
def PIE (X : Cx) (pins : List (Addr × Obj)) (σ : St) (tg : Expr) (R : It → Hp → Prop) (itv : Value) (s2 : Shared) : Prop :=
  ∃ (it : Addr) (fp : List Addr) (tn : Nat → Heap → Prop) (J : It) (H' : Hp), itv = .ref it ∧ Inv X pins σ H' s2 ∧ Turn X.prog X.w X.K tg J fp it tn ∧ tn 0 s2.heap ∧ (∀ b ∈ fp, FpOk X pins H' b) ∧ R J H'
def PI (X : Cx) (tg iter : Expr) (wi : TI) : Prop :=
  ∀ (pins : List (Addr × Obj)) (s : Shared) (σ : St) (H : Hp) (R : It → Hp → Prop), Inv X pins σ H s → wi σ H R →
    wpAny (model X.prog X.w) X.A (eval iter X.env) (fun v s1 => wpAny (model X.prog X.w) X.A (pyIter v) (PIE X pins σ tg R) X.xe s1) X.xe s
theorem go_of {M : Model} {A : Around} {E : Value → Shared → Prop} {s : Shared} {tg : Expr} {it : Addr} {u : Value} {o : Obj} {n : String} {vs : Array Value} {Q : Unit → Shared → Prop} (ho : s.heap.get? it = some o) (hc : o.cls = .type n) (hd : o.data = .fields vs)
    (hn : ["enumerate", "zip", "dict_itemiterator", "dict_reverseitemiterator", "odict_iterator", "itertools.zip_longest", "itertools.pairwise"].contains n = false) (hQ : Q () s) : wpAny M A (letOwnedTupleGo tg (.ref it) u) Q E s := by
  unfold letOwnedTupleGo
  cases tg <;> first
    | exact wpAny_pure hQ
    | (cases u <;> first
        | exact wpAny_pure hQ
        | (refine wpAny_bind (wpAny_load ho ?_)
           rw [hc, hd]
           show wpAny M A (if (["enumerate", "zip", "dict_itemiterator", "dict_reverseitemiterator", "odict_iterator", "itertools.zip_longest", "itertools.pairwise"].contains n && vs[0]? == some (rawInt _)) = true then _ else _) Q E s
           rw [if_neg (by intro h; rw [hn, Bool.false_and] at h; cases h)]
           exact wpAny_pure hQ))
def Itl (K : PySem.W.Frag) (a : Addr) : It :=
  ⟨fun i H => ∃ xs x, SqL K H a xs ∧ xs[i]? = some x, fun i H x H' => H' = H ∧ ∀ xs, SqL K H a xs → xs[i]? = some x, fun i H => ∃ xs, SqL K H a xs ∧ xs.length ≤ i⟩
def Itt (K : PySem.W.Frag) (a : Addr) : It :=
  ⟨fun i H => ∃ xs x, SqT K H a xs ∧ xs[i]? = some x, fun i H x H' => H' = H ∧ ∀ xs, SqT K H a xs → xs[i]? = some x, fun i H => ∃ xs, SqT K H a xs ∧ xs.length ≤ i⟩
def Itr (lo : Int) (n : Nat) : It := ⟨fun i _ => i < n, fun i H x H' => H' = H ∧ x = .int (lo + i), fun i _ => n ≤ i⟩
theorem turn_list {P : Program} {w : World} {K : PySem.W.Frag} {tg : Expr} (a it : Addr) : Turn P w K tg (Itl K a) [it] it (fun i h => h.IsListIter it a i) where
  mem := by simp
  obj := fun i h st b hb => by
    have e : b = it := by simpa using hb
    subst e
    obtain ⟨o, e, c, d⟩ := st
    exact ⟨o, e, fun v z => by rw [d] at z; cases z⟩
  keep := fun i h h' st k => st.at fun o e => k it (by simp) o e
  item := by
    intro X hP hw hK hc i pins s σ H E I hf st hg
    subst hP hw hK
    obtain ⟨xs, x, hq, hx⟩ := hg
    obtain ⟨its, rv, p, hz⟩ := I.list hq
    obtain ⟨u, hu, ru⟩ := rv.get hx
    obtain ⟨f0, f1, f2, f3, f4, f5⟩ := hf it (by simp)
    refine wpAny_pyNext_list_item st p.isList (x := u) (by simpa using hu) fun h' st' sb => ?_
    have I1 : Inv X pins σ H { s with heap := h' } := I.turned (t' := s.toks) (fun b o hb e => (sb.2 b hb).trans e) f0 f1 f3 f4 f5
    obtain ⟨o, e, c, d⟩ := id st'
    exact ⟨u, rfl, go_of (s := { s with heap := h' }) e c d (by decide) ⟨x, H, I1, ru, ⟨rfl, fun ys hy => by rw [I.list_inj hy hq]; exact hx⟩, st', fun b hb => (hf b hb).1⟩⟩
  done := by
    intro X hP hw hK hc i pins s σ H E I hf st hg
    subst hP hw hK
    obtain ⟨xs, hq, hx⟩ := hg
    obtain ⟨its, rv, p, hz⟩ := I.list hq
    obtain ⟨f0, f1, f2, f3, f4, f5⟩ := hf it (by simp)
    have hl := rv.length
    exact wpAny_pyNext_list_end (I.ok.hd hc) st p.isList (by simp; omega) fun h' eb => ⟨rfl, I.turned (t' := s.toks) (fun b o hb e => eb b o hb e) f0 f1 f3 f4 f5⟩
  self := fun _ _ _ _ _ st h => wpAny_pyIter_listiter st h
theorem turn_range {P : Program} {w : World} {K : PySem.W.Frag} {tg : Expr} (it : Addr) (lo : Int) (n : Nat) : Turn P w K tg (Itr lo n) [it] it (fun i h => IsRangeIter h it (lo + (i : Nat) * 1) ((n : Int) - (i : Nat)) 1) where
  mem := by simp
  obj := fun i h st b hb => by
    have e : b = it := by simpa using hb
    subst e
    exact ⟨_, st, fun v z => by
      have z' : Data.fields _ = Data.cell v := z
      cases z'⟩
  keep := fun i h h' st k => k it (by simp) _ st
  item := by
    intro X hP hw hK hc i pins s σ H E I hf st hg
    subst hP hw hK
    obtain ⟨f0, f1, f2, f3, f4, f5⟩ := hf it (by simp)
    have W := Walks.range (prog := X.prog) (w := X.w) (I.ok.hd hc) it lo 1 n
    refine W.item i s _ _ hg st fun v h' tk hv st' kk => ?_
    obtain ⟨t, rfl⟩ := hv
    have I1 : Inv X pins σ H { s with heap := h', toks := tk } := I.turned (fun b o hb e => kk b o (by simpa using hb) e) f0 f1 f3 f4 f5
    refine ⟨_, rfl, go_of (s := { s with heap := h', toks := tk }) (n := "range_iterator") st' rfl rfl (by decide) ⟨.int (lo + i), H, I1, ⟨t, ?_⟩, ⟨rfl, rfl⟩, st', fun b hb => (hf b hb).1⟩⟩
    rw [Int.mul_one]
  done := by
    intro X hP hw hK hc i pins s σ H E I hf st hg
    subst hP hw hK
    obtain ⟨f0, f1, f2, f3, f4, f5⟩ := hf it (by simp)
    exact wpAny_pyNext_range_end (I.ok.hd hc) st (by have : n ≤ i := hg; omega) fun h' eb => ⟨rfl, I.turned (t' := s.toks) (fun b o hb e => eb b o hb e) f0 f1 f3 f4 f5⟩
  self := fun _ _ _ _ _ st h => wpAny_pyIter_rangeiter st h
end L2
namespace L2
open PySem PySem.Spec PyProof.Rows
section
variable {X : Cx} {tg : Expr}
def iList (K : PySem.W.Frag) (tl : TE) : TI := fun σ H R => tl σ H fun x H1 => ∃ a, x = .ref a ∧ (∃ xs, SqL K H1 a xs) ∧ R (Itl K a) H1
def iTup (K : PySem.W.Frag) (tl : TE) : TI := fun σ H R => tl σ H fun x H1 => ∃ a, x = .ref a ∧ (∃ xs, SqT K H1 a xs) ∧ R (Itt K a) H1
theorem pi_list {l : Expr} {tl : TE} (hl : PE X l tl) : PI X tg l (iList X.K tl) := by
  intro pins s σ H R I h
  refine thn (hl pins s σ H _ I h) fun v s1 ⟨x, H1, I1, r1, q1⟩ => ?_
  obtain ⟨a, e, ⟨xs, hq⟩, q⟩ := q1
  subst e
  cases r1
  obtain ⟨its, rv, p, hz⟩ := I1.list hq
  refine wpAny_pyIter_list p.isList ?_
  refine ⟨s1.heap.objs.size, [s1.heap.objs.size], _, _, H1, rfl, I1.kept (t' := s1.toks) fun b o e => Heap.get?_push_of_some _ e, turn_list a _, ⟨_, Heap.get?_push_size _ rfl, rfl, rfl⟩, fun b hb => ?_, q⟩
  have e : b = s1.heap.objs.size := by simpa using hb
  subst e
  exact I1.fpOk (Nat.le_refl _) (I1.hok.fresh (Nat.le_refl _))
theorem range_it {pins : List (Addr × Obj)} {σ : St} {H : Hp} {s : Shared} {R : It → Hp → Prop} {E : Value → Shared → Prop} {lo hi : Int} {t u v : Tok} {tk : Nat} (I : Inv X pins σ H s) (h1 : -(2 ^ 62) ≤ lo) (h2 : lo < 2 ^ 62) (h3 : -(2 ^ 62) ≤ hi) (h4 : hi < 2 ^ 62)
    (q : R (Itr lo (hi - lo).toNat) H) : wpAny (model X.prog X.w) X.A (pyIter (.ref s.heap.objs.size)) (PIE X pins σ tg R) E { s with heap := s.heap.push { cls := .type "range", data := .fields #[.int lo t, .int hi u, .int 1 v] }, toks := tk } := by
  refine wpAny_pyIter_range (IsRange.new ..) (small_one h1 h2 h3 h4) ?_
  have I1 : Inv X pins σ H { s with heap := s.heap.push { cls := .type "range", data := .fields #[.int lo t, .int hi u, .int 1 v] }, toks := tk } := I.kept fun b o e => Heap.get?_push_of_some _ e
  refine ⟨(s.heap.push { cls := .type "range", data := .fields #[.int lo t, .int hi u, .int 1 v] }).objs.size, [(s.heap.push { cls := .type "range", data := .fields #[.int lo t, .int hi u, .int 1 v] }).objs.size], _, _, H, rfl,
    I1.kept (t' := tk) fun b o e => Heap.get?_push_of_some _ e, turn_range _ lo (hi - lo).toNat, ?_, fun b hb => ?_, q⟩
  · have e1 : lo + ((0 : Nat) : Int) * 1 = lo := by simp
    have e2 : (((hi - lo).toNat : Nat) : Int) - ((0 : Nat) : Int) = Builtin.Range.rangeSize lo hi 1 := by rw [rangeSize_one]; split <;> omega
    show IsRangeIter _ _ (lo + ((0 : Nat) : Int) * 1) ((((hi - lo).toNat : Nat) : Int) - ((0 : Nat) : Int)) 1
    rw [e1, e2]
    exact Heap.get?_push_size _ rfl
  · have e : b = (s.heap.push { cls := .type "range", data := .fields #[.int lo t, .int hi u, .int 1 v] }).objs.size := by simpa using hb
    subst e
    exact I1.fpOk (Nat.le_refl _) (I1.hok.fresh (Nat.le_refl _))
def iRng1 (ta : TA) : TI := fun σ H R => ta σ H fun vs H1 => ∃ j : Int, vs = [.int j] ∧ -(2 ^ 62) ≤ j ∧ j < 2 ^ 62 ∧ R (Itr 0 j.toNat) H1
def iRng2 (ta : TA) : TI := fun σ H R => ta σ H fun vs H1 => ∃ i j : Int, vs = [.int i, .int j] ∧ (-(2 ^ 62) ≤ i ∧ i < 2 ^ 62 ∧ -(2 ^ 62) ≤ j ∧ j < 2 ^ 62) ∧ R (Itr i (j - i).toNat) H1
theorem pi_range1 {a : Expr} {ta : TA} {p pos : Pos} (hg : Gl X "range") (hm : X.mg "range" = none) (ha : PA X [a] ta) (hs : starEach [a] X.env = [(false, eval a X.env)] := by rfl) : PI X tg (.Call (.Name "range" p) [a] [] pos) (iRng1 ta) := by
  intro pins s σ H R I h
  refine Call_ (ld_blt I hg hm boot_range (PyProof.Rows.callWith_type1 (thn (ha pos pins s σ H _ I h) fun us s1 ⟨vs, H1, I1, r1, q1⟩ => ?_) hs rfl))
  obtain ⟨j, e, q1, q2, q⟩ := q1
  subst e
  cases r1 with
  | cons r rr =>
    cases rr
    obtain ⟨t, rfl⟩ := r
    exact call_range_1 (range_it I1 (by omega) (by omega) q1 q2 (by simpa using q))
def tFor (wi : TI) (g : TG) (tb : TS) : TS := fun D σ H => wi σ H fun J H1 => ∃ W : Nat → Nat → St → Hp → Prop, (∃ m, W 0 m σ H1) ∧ ∀ i m σ H, W i m σ H →
  (J.stop i H ∧ D.nx σ H) ∨ (J.go i H ∧ ∃ N : St → Hp → Prop, (∀ σ' H', N σ' H' → ∃ m', m' < m ∧ W (i + 1) m' σ' H') ∧ ∀ x H', J.yld i H x H' → g x σ H' fun σ2 H2 => tb { D with nx := N, ct := N, bk := D.nx } σ2 H2)
def pinsAt (fp : List Addr) (h : Heap) : List (Addr × Obj) := fp.filterMap fun b => (h.get? b).map fun o => (b, o)
theorem mem_pinsAt {fp : List Addr} {h : Heap} {b : Addr} {o : Obj} (hb : b ∈ fp) (e : h.get? b = some o) : (b, o) ∈ pinsAt fp h := List.mem_filterMap.mpr ⟨b, hb, by rw [e]; rfl⟩
theorem of_pinsAt {fp : List Addr} {h : Heap} {p : Addr × Obj} (hp : p ∈ pinsAt fp h) : p.1 ∈ fp ∧ h.get? p.1 = some p.2 := by
  obtain ⟨b, hb, e⟩ := List.mem_filterMap.mp hp
  cases q : h.get? b with
  | none => rw [q] at e; cases e
  | some o =>
    rw [q] at e
    have e' : (b, o) = p := Option.some.inj e
    subst e'
    exact ⟨hb, q⟩
theorem Inv.pinned {pins : List (Addr × Obj)} {σ : St} {H : Hp} {s : Shared} {fp : List Addr} (I : Inv X pins σ H s) (hf : ∀ b ∈ fp, FpOk X pins H b) (ho : ∀ b ∈ fp, ∃ o, s.heap.get? b = some o ∧ ∀ v, o.data ≠ .cell v) : Inv X (pins ++ pinsAt fp s.heap) σ H s :=
  I.pins_of fun p hp => (List.mem_append.mp hp).elim (fun z => I.pin p (List.mem_append_right _ z)) fun z => by
    obtain ⟨hb, e⟩ := of_pinsAt z
    obtain ⟨f0, f1, f2, _⟩ := hf p.1 hb
    obtain ⟨o, e', d⟩ := ho p.1 hb
    rw [e] at e'; cases e'
    exact ⟨e, f0, f1, f2, d⟩
theorem Inv.unpinned {pins pl : List (Addr × Obj)} {σ : St} {H : Hp} {s : Shared} (I : Inv X (pins ++ pl) σ H s) : Inv X pins σ H s := I.pins_of fun p hp => I.pin p (List.mem_append_right _ (List.mem_append_left _ hp))
theorem ps_for {iter : Expr} {body : List Stmt} {wi : TI} {g : TG} {tb : TS} {pos : Pos} (hp : PassesOwn (model X.prog X.w) X.A X.env X.xe) (hc : X.calm = true) (hi : PI X tg iter wi) (hg : PG X tg g) (hb : PSs X body tb)
    (hs : ∀ x, foldedSetIterable iter X.env x = pure x := by intro _; rfl) : PS X (.For tg iter body [] pos) (tFor wi g tb) := by
  intro pins s σ H D I h
  refine wpAny_For (thn (hi pins s σ H _ I h) fun v s1 h1 => thn h1 fun itv s2 h2 => ?_) hs
  obtain ⟨it, fp, tn, J, H2, e, I2, T, st2, f2, W, ⟨m0, w0⟩, turn⟩ := h2
  subst e
  -- what stays true of the iterator's objects through the loop
  have stat : ∀ {H' : Hp}, (∀ b ∈ fp, H' b = none) → ∀ b ∈ fp, FpOk X pins H' b := fun hn b hb => ⟨hn b hb, (f2 b hb).2⟩
  refine codeAny_forLoop_any (fun n s' => ∃ i σ' H', Inv X pins σ' H' s' ∧ tn i s'.heap ∧ (∀ b ∈ fp, H' b = none) ∧ W i n σ' H') ?_ m0 ⟨0, σ, H2, I2, st2, fun b hb => (f2 b hb).1, w0⟩
  rintro n s3 ⟨i, σ3, H3, I3, st3, fr3, w3⟩
  rcases turn i n σ3 H3 w3 with ⟨stop, qn⟩ | ⟨go, N, hN, step⟩
  · refine wpAny_passesOwn hp (thn (T.done X rfl rfl rfl hc i pins s3 σ3 H3 X.xe I3 (stat fr3) st3 stop) fun r s4 ⟨hr, I4⟩ => ?_)
    subst hr
    exact wpAny_execs_nil ⟨σ3, H3, I4, qn⟩
  · refine wpAny_passesOwn hp (thn (T.item X rfl rfl rfl hc i pins s3 σ3 H3 X.xe I3 (stat fr3) st3 go) fun r s4 ⟨u, hr, h4⟩ => ?_)
    subst hr
    refine wpAny_passesOwn hp (thn h4 fun _ s5 ⟨x, H5, I5, r5, y5, st5, fr5⟩ => ?_)
    have I5' := I5.pinned (stat fr5) (T.obj _ _ st5)
    refine wpAny_passesOwn hp (thn (hg _ s5 σ3 H5 x u _ I5' r5 (step x H5 y5)) fun _ s6 ⟨σ6, H6, I6, q6⟩ => ?_)
    refine wpAny_passesOwn hp (thn (hb _ s6 σ6 H6 _ I6 q6) fun f s7 q7 => ?_)
    have again : ∀ {σ7 : St} {H7 : Hp}, Inv X (pins ++ pinsAt fp s5.heap) σ7 H7 s7 → N σ7 H7 → ∃ m, m < n ∧ ∃ i σ' H', Inv X pins σ' H' s7 ∧ tn i s7.heap ∧ (∀ b ∈ fp, H' b = none) ∧ W i m σ' H' := fun {σ7 H7} I7 n7 => by
      obtain ⟨m', hm, w7⟩ := hN σ7 H7 n7
      refine ⟨m', hm, i + 1, σ7, H7, I7.unpinned, T.keep _ _ _ st5 fun b hb o e => (I7.pin (b, o) (List.mem_append_right _ (List.mem_append_right _ (mem_pinsAt hb e)))).1, fun b hb => ?_, w7⟩
      obtain ⟨o, e, d⟩ := T.obj _ _ st5 b hb
      exact (I7.pin (b, o) (List.mem_append_right _ (List.mem_append_right _ (mem_pinsAt hb e)))).2.1
    cases f with
    | next => obtain ⟨σ7, H7, I7, n7⟩ := q7; exact again I7 n7
    | cont => obtain ⟨σ7, H7, I7, n7⟩ := q7; exact again I7 n7
    | brk => obtain ⟨σ7, H7, I7, q7⟩ := q7; exact ⟨σ7, H7, I7.unpinned, q7⟩
    | ret v => obtain ⟨x7, σ7, H7, I7, r7, q7⟩ := q7; exact ⟨x7, σ7, H7, I7.unpinned, r7, q7⟩
end
theorem for_list {K : PySem.W.Frag} {a : Addr} {xs : List V} {g : TG} {tb : TS} {D : Ends} {σ : St} {H : Hp} (Pv : Nat → St → Hp → Prop) (h0 : Pv 0 σ H) (hl : ∀ i σ H, i ≤ xs.length → Pv i σ H → SqL K H a xs)
    (hs : ∀ i x σ H, xs[i]? = some x → Pv i σ H → g x σ H fun σ2 H2 => tb { D with nx := Pv (i + 1), ct := Pv (i + 1), bk := D.nx } σ2 H2) (hd : ∀ σ H, Pv xs.length σ H → D.nx σ H) :
    ∃ W : Nat → Nat → St → Hp → Prop, (∃ m, W 0 m σ H) ∧ ∀ i m σ H, W i m σ H →
      ((Itl K a).stop i H ∧ D.nx σ H) ∨ ((Itl K a).go i H ∧ ∃ N : St → Hp → Prop, (∀ σ' H', N σ' H' → ∃ m', m' < m ∧ W (i + 1) m' σ' H') ∧ ∀ x H', (Itl K a).yld i H x H' → g x σ H' fun σ2 H2 => tb { D with nx := N, ct := N, bk := D.nx } σ2 H2) := by
  refine ⟨fun i m σ H => m = xs.length - i ∧ i ≤ xs.length ∧ Pv i σ H, ⟨xs.length, by simp, Nat.zero_le _, h0⟩, ?_⟩
  rintro i m σ H ⟨rfl, hi, p⟩
  have q := hl i σ H hi p
  by_cases hlt : i < xs.length
  · refine .inr ⟨⟨xs, xs[i], q, by simp [hlt]⟩, Pv (i + 1), fun σ' H' p' => ⟨xs.length - (i + 1), by omega, rfl, hlt, p'⟩, fun x H' y => ?_⟩
    obtain ⟨e, y⟩ := y
    subst e
    exact hs i x σ _ (y xs q) p
  · have e : i = xs.length := by omega
    subst e
    exact .inl ⟨⟨xs, q, Nat.le_refl _⟩, hd σ H p⟩
theorem for_range {lo : Int} {n : Nat} {g : TG} {tb : TS} {D : Ends} {σ : St} {H : Hp} (Pv : Nat → St → Hp → Prop) (h0 : Pv 0 σ H)
    (hs : ∀ i σ H, i < n → Pv i σ H → g (.int (lo + i)) σ H fun σ2 H2 => tb { D with nx := Pv (i + 1), ct := Pv (i + 1), bk := D.nx } σ2 H2) (hd : ∀ σ H, Pv n σ H → D.nx σ H) :
    ∃ W : Nat → Nat → St → Hp → Prop, (∃ m, W 0 m σ H) ∧ ∀ i m σ H, W i m σ H →
      ((Itr lo n).stop i H ∧ D.nx σ H) ∨ ((Itr lo n).go i H ∧ ∃ N : St → Hp → Prop, (∀ σ' H', N σ' H' → ∃ m', m' < m ∧ W (i + 1) m' σ' H') ∧ ∀ x H', (Itr lo n).yld i H x H' → g x σ H' fun σ2 H2 => tb { D with nx := N, ct := N, bk := D.nx } σ2 H2) := by
  refine ⟨fun i m σ H => m = n - i ∧ i ≤ n ∧ Pv i σ H, ⟨n, by simp, Nat.zero_le _, h0⟩, ?_⟩
  rintro i m σ H ⟨rfl, hi, p⟩
  by_cases hlt : i < n
  · refine .inr ⟨hlt, Pv (i + 1), fun σ' H' p' => ⟨n - (i + 1), by omega, rfl, hlt, p'⟩, fun x H' y => ?_⟩
    obtain ⟨e, y⟩ := y
    subst e y
    exact hs i σ _ hlt p
  · have e : i = n := by omega
    subst e
    exact .inl ⟨Nat.le_refl _, hd σ H p⟩
end L2
namespace L2
open PySem PySem.Spec PyProof.Rows
abbrev R2 := V → V → Hp → VK → Prop
def OpR (X : Cx) (f : Value → Value → Sem Value) (r : R2) : Prop :=
  ∀ (pins : List (Addr × Obj)) (s : Shared) (σ : St) (H : Hp) (x y : V) (v u : Value) (Q : VK), Inv X pins σ H s → RelV x v → RelV y u → r x y H Q →
    wpAny (model X.prog X.w) X.A (f v u) (EP X pins σ Q) X.xe s
def UnR (X : Cx) (f : Value → Sem Value) (r : V → Hp → VK → Prop) : Prop :=
  ∀ (pins : List (Addr × Obj)) (s : Shared) (σ : St) (H : Hp) (x : V) (v : Value) (Q : VK), Inv X pins σ H s → RelV x v → r x H Q →
    wpAny (model X.prog X.w) X.A (f v) (EP X pins σ Q) X.xe s
def CallR (X : Cx) (f : Value) (r : List V → Hp → VK → Prop) : Prop :=
  ∀ (pins : List (Addr × Obj)) (s : Shared) (σ : St) (H : Hp) (xs : List V) (us : List Value) (Q : VK), Inv X pins σ H s → Vals xs us → r xs H Q →
    wpAny (model X.prog X.w) X.A (call f us) (EP X pins σ Q) X.xe s
def TruR (X : Cx) (r : V → Hp → (Bool → Hp → Prop) → Prop) : Prop :=
  ∀ (pins : List (Addr × Obj)) (s : Shared) (σ : St) (H : Hp) (x : V) (v : Value) (Q : Bool → Hp → Prop), Inv X pins σ H s → RelV x v → r x H Q →
    wpAny (model X.prog X.w) X.A (truthy v) (TP X pins σ Q) X.xe s
def tOp (r : R2) (ta tb : TE) : TE := fun σ H Q => ta σ H fun x H1 => tb σ H1 fun y H2 => r x y H2 Q
def tUn (r : V → Hp → VK → Prop) (ta : TE) : TE := fun σ H Q => ta σ H fun x H1 => r x H1 Q
def rI (C : Int → Int → Prop) (g : Int → Int → V) : R2 := fun x y H Q => ∃ i j, x = .int i ∧ y = .int j ∧ C i j ∧ Q (g i j) H
def rI0 (g : Int → Int → V) : R2 := fun x y H Q => ∃ i j, x = .int i ∧ y = .int j ∧ Q (g i j) H
def rU (g : Int → V) : V → Hp → VK → Prop := fun x H Q => ∃ i, x = .int i ∧ Q (g i) H
section
variable {X : Cx} {a b c : Expr} {ta tb tc : TE} {pos : Pos}
theorem binT (ha : PE X a ta) (hb : PE X b tb) {pins : List (Addr × Obj)} {s : Shared} {σ : St} {H : Hp} {R : V → V → Hp → Prop} (I : Inv X pins σ H s)
    (h : ta σ H fun x H1 => tb σ H1 fun y H2 => R x y H2) {Q : Value → Shared → Prop} {f : Value → Value → Sem Value}
    (hf : ∀ v u s2 x y H2, Inv X pins σ H2 s2 → RelV x v → RelV y u → R x y H2 → wpAny (model X.prog X.w) X.A (f v u) Q X.xe s2) :
    wpAny (model X.prog X.w) X.A (eval a X.env) (fun v s₁ => wpAny (model X.prog X.w) X.A (eval b X.env) (fun u s₂ => wpAny (model X.prog X.w) X.A (f v u) Q X.xe s₂) X.xe s₁) X.xe s := by
  refine thn (ha pins s σ H _ I h) fun v s1 ⟨x, H1, I1, r1, q1⟩ => ?_
  refine thn (hb pins s1 σ H1 _ I1 q1) fun u s2 ⟨y, H2, I2, r2, q2⟩ => ?_
  exact hf v u s2 x y H2 I2 r1 r2 q2
theorem pe_op {op : Operator} {r : R2} (ho : OpR X (binaryOp op) r) (ha : PE X a ta) (hb : PE X b tb) : PE X (.BinOp a op b pos) (tOp r ta tb) := by
  intro pins s σ H Q I h
  exact wpAny_BinOp (binT ha hb I h fun v u s2 x y H2 I2 rx ry q => ho pins s2 σ H2 x y v u Q I2 rx ry q)
theorem opI {f : Value → Value → Sem Value} {C : Int → Int → Prop} {g : Int → Int → Int}
    (rule : ∀ (i j : Int) (t u : Tok) (s : Shared) (Q : Value → Shared → Prop) (E : Value → Shared → Prop), C i j → Q (.int (g i j) s.toks) { s with toks := s.toks + 1 } → wpAny (model X.prog X.w) X.A (f (.int i t) (.int j u)) Q E s) :
    OpR X f (rI C fun i j => .int (g i j)) := by
  intro pins s σ H x y v u Q I rx ry h
  obtain ⟨i, j, rfl, rfl, hc, q⟩ := h
  obtain ⟨t, rfl⟩ := rx
  obtain ⟨t', rfl⟩ := ry
  exact rule i j t t' s _ _ hc ⟨.int (g i j), H, I.tok _, ⟨_, rfl⟩, q⟩
theorem opI0 {f : Value → Value → Sem Value} {g : Int → Int → Int}
    (rule : ∀ (i j : Int) (t u : Tok) (s : Shared) (Q : Value → Shared → Prop) (E : Value → Shared → Prop), Q (.int (g i j) s.toks) { s with toks := s.toks + 1 } → wpAny (model X.prog X.w) X.A (f (.int i t) (.int j u)) Q E s) :
    OpR X f (rI0 fun i j => .int (g i j)) := by
  intro pins s σ H x y v u Q I rx ry h
  obtain ⟨i, j, rfl, rfl, q⟩ := h
  obtain ⟨t, rfl⟩ := rx
  obtain ⟨t', rfl⟩ := ry
  exact rule i j t t' s _ _ ⟨.int (g i j), H, I.tok _, ⟨_, rfl⟩, q⟩
theorem opB0 {f : Value → Value → Sem Value} {g : Int → Int → Bool}
    (rule : ∀ (i j : Int) (t u : Tok) (s : Shared) (Q : Value → Shared → Prop) (E : Value → Shared → Prop), Q (.bool (g i j)) s → wpAny (model X.prog X.w) X.A (f (.int i t) (.int j u)) Q E s) :
    OpR X f (rI0 fun i j => .bl (g i j)) := by
  intro pins s σ H x y v u Q I rx ry h
  obtain ⟨i, j, rfl, rfl, q⟩ := h
  obtain ⟨t, rfl⟩ := rx
  obtain ⟨t', rfl⟩ := ry
  exact rule i j t t' s _ _ ⟨.bl (g i j), H, I, rfl, q⟩
def CDiv (i j : Int) : Prop := 0 < j ∧ j < 1073741824
def CDivN (i j : Int) : Prop := j ≠ 0 ∧ j.natAbs < 1073741824
def CPow (i j : Int) : Prop := 0 ≤ j ∧ j ≤ 1000000 ∧ i.natAbs < 2 ^ 64
def CMul (i j : Int) : Prop := (-(2 ^ 64) < i ∧ i < 2 ^ 64) ∨ (-(2 ^ 64) < j ∧ j < 2 ^ 64)
theorem CMul.ok {i j : Int} (h : CMul i j) : IntMulOk i j := by
  rcases h with ⟨h1, h2⟩ | ⟨h1, h2⟩
  · exact .of_left (intBits_le_64 h1 h2)
  · exact .of_right (intBits_le_64 h1 h2)
theorem op_add : OpR X (binaryOp .Add) (rI0 fun i j => .int (i + j)) := opI0 fun _ _ _ _ _ _ _ q => add_int q
theorem op_mul : OpR X (binaryOp .Mult) (rI CMul fun i j => .int (i * j)) := opI fun _ _ _ _ _ _ _ hc q => mul_int q hc.ok
theorem op_mod : OpR X (binaryOp .Mod) (rI (fun _ j => 0 < j) fun i j => .int (i % j)) := opI fun i j _ _ _ _ _ hc q => by
  have h1 : (0 : Int) < j := hc
  exact mod_int' (by omega) (by rw [Int.fmod_eq_emod_of_nonneg i (by omega)]; exact q)
end
def scal : V → V → Bool
  | .non, .non => true | .non, .int _ => true | .int _, .non => true | .non, .bl _ => true | .bl _, .non => true | .non, .str _ => true | .str _, .non => true
  | .int _, .int _ => true | .bl _, .bl _ => true | .str _, .str _ => true | .byt _, .byt _ => true
  | .int _, .str _ => true | .str _, .int _ => true | .bl _, .str _ => true | .str _, .bl _ => true
  | _, _ => false
def rEq : R2 := fun x y H Q => scal x y = true ∧ Q (.bl (decide (x = y))) H
def rNe : R2 := fun x y H Q => scal x y = true ∧ Q (.bl (!decide (x = y))) H
theorem dec_int {i j : Int} : decide (V.int i = V.int j) = (i == j) := by
  rw [Bool.eq_iff_iff]
  simp
theorem dec_bl {i j : Bool} : decide (V.bl i = V.bl j) = (i == j) := by
  rw [Bool.eq_iff_iff]
  simp
theorem dec_str {i j : Str} : decide (V.str i = V.str j) = (i == j) := by
  rw [Bool.eq_iff_iff]
  simp
theorem dec_byt {i j : Array UInt8} : decide (V.byt i = V.byt j) = (i.toList == j.toList) := by
  rw [Bool.eq_iff_iff]
  cases i
  cases j
  simp
section
variable {X : Cx} {a b c : Expr} {ta tb tc : TE} {pos : Pos}
theorem fin_bl {pins : List (Addr × Obj)} {σ : St} {H : Hp} {s : Shared} {Q : VK} {k k' : Bool} (I : Inv X pins σ H s) (q : Q (.bl k) H) (e : k = k') : EP X pins σ Q (.bool k') s := by
  subst e
  exact ⟨.bl k, H, I, rfl, q⟩
theorem op_eq : OpR X (compareOp .Eq) rEq := by
  intro pins s σ H x y v u Q I rx ry h
  obtain ⟨hs, q⟩ := h
  cases x with
  | non =>
    cases rx
    cases y with
    | non => cases ry; exact PySem.EqNone.eq_none_none (fin_bl I q (by simp))
    | bl j => cases ry; exact PySem.EqNone.eq_none_bool (fin_bl I q (by simp))
    | int j => obtain ⟨t', rfl⟩ := ry; exact PySem.EqNone.eq_none_int (fin_bl I q (by simp))
    | str j => obtain ⟨t', rfl⟩ := ry; exact PySem.EqNone.eq_none_str (fin_bl I q (by simp))
    | _ => exact absurd (show false = true from hs) Bool.false_ne_true
  | bl i =>
    cases rx
    cases y with
    | non => cases ry; exact PySem.EqNone.eq_bool_none (fin_bl I q (by simp))
    | bl j => cases ry; exact eq_bool (fin_bl I q dec_bl)
    | str j => obtain ⟨t', rfl⟩ := ry; exact PySem.EqMixed.eq_bool_str (fin_bl I q (by simp))
    | _ => exact absurd (show false = true from hs) Bool.false_ne_true
  | int i =>
    obtain ⟨t, rfl⟩ := rx
    cases y with
    | non => cases ry; exact PySem.EqNone.eq_int_none (fin_bl I q (by simp))
    | int j => obtain ⟨t', rfl⟩ := ry; exact eq_int (fin_bl I q dec_int)
    | str j => obtain ⟨t', rfl⟩ := ry; exact PySem.EqMixed.eq_int_str (fin_bl I q (by simp))
    | _ => exact absurd (show false = true from hs) Bool.false_ne_true
  | str i =>
    obtain ⟨t, rfl⟩ := rx
    cases y with
    | non => cases ry; exact PySem.EqNone.eq_str_none (fin_bl I q (by simp))
    | bl j => cases ry; exact PySem.EqMixed.eq_str_bool (fin_bl I q (by simp))
    | int j => obtain ⟨t', rfl⟩ := ry; exact PySem.EqMixed.eq_str_int (fin_bl I q (by simp))
    | str j => obtain ⟨t', rfl⟩ := ry; exact eq_str (fin_bl I q dec_str)
    | _ => exact absurd (show false = true from hs) Bool.false_ne_true
  | byt i =>
    obtain ⟨t, rfl⟩ := rx
    cases y with
    | byt j => obtain ⟨t', rfl⟩ := ry; exact PySem.W.eq_bytes (fin_bl I q dec_byt)
    | _ => exact absurd (show false = true from hs) Bool.false_ne_true
  | _ => cases y <;> exact absurd (show false = true from hs) Bool.false_ne_true
theorem op_ne : OpR X (compareOp .NotEq) rNe := by
  intro pins s σ H x y v u Q I rx ry h
  obtain ⟨hs, q⟩ := h
  cases x with
  | non =>
    cases rx
    cases y with
    | non => cases ry; exact PySem.EqNone.ne_none_none (fin_bl I q (by simp))
    | bl j => cases ry; exact PySem.EqNone.ne_none_bool (fin_bl I q (by simp))
    | int j => obtain ⟨t', rfl⟩ := ry; exact PySem.EqNone.ne_none_int (fin_bl I q (by simp))
    | str j => obtain ⟨t', rfl⟩ := ry; exact PySem.EqNone.ne_none_str (fin_bl I q (by simp))
    | _ => exact absurd (show false = true from hs) Bool.false_ne_true
  | bl i =>
    cases rx
    cases y with
    | non => cases ry; exact PySem.EqNone.ne_bool_none (fin_bl I q (by simp))
    | bl j => cases ry; exact ne_bool (fin_bl I q (congrArg not dec_bl))
    | str j => obtain ⟨t', rfl⟩ := ry; exact PySem.EqMixed.ne_bool_str (fin_bl I q (by simp))
    | _ => exact absurd (show false = true from hs) Bool.false_ne_true
  | int i =>
    obtain ⟨t, rfl⟩ := rx
    cases y with
    | non => cases ry; exact PySem.EqNone.ne_int_none (fin_bl I q (by simp))
    | int j => obtain ⟨t', rfl⟩ := ry; exact ne_int (fin_bl I q (congrArg not dec_int))
    | str j => obtain ⟨t', rfl⟩ := ry; exact PySem.EqMixed.ne_int_str (fin_bl I q (by simp))
    | _ => exact absurd (show false = true from hs) Bool.false_ne_true
  | str i =>
    obtain ⟨t, rfl⟩ := rx
    cases y with
    | non => cases ry; exact PySem.EqNone.ne_str_none (fin_bl I q (by simp))
    | bl j => cases ry; exact PySem.EqMixed.ne_str_bool (fin_bl I q (by simp))
    | int j => obtain ⟨t', rfl⟩ := ry; exact PySem.EqMixed.ne_str_int (fin_bl I q (by simp))
    | str j => obtain ⟨t', rfl⟩ := ry; exact ne_str (fin_bl I q (congrArg not dec_str))
    | _ => exact absurd (show false = true from hs) Bool.false_ne_true
  | byt i =>
    obtain ⟨t, rfl⟩ := rx
    cases y with
    | byt j => obtain ⟨t', rfl⟩ := ry; exact PySem.W.ne_bytes (fin_bl I q (congrArg not dec_byt))
    | _ => exact absurd (show false = true from hs) Bool.false_ne_true
  | _ => cases y <;> exact absurd (show false = true from hs) Bool.false_ne_true
theorem op_lt : OpR X (compareOp .Lt) (rI0 fun i j => .bl (decide (i < j))) := opB0 fun _ _ _ _ _ _ _ q => lt_int q
theorem op_gt : OpR X (compareOp .Gt) (rI0 fun i j => .bl (decide (j < i))) := opB0 fun _ _ _ _ _ _ _ q => gt_int q
theorem op_ge : OpR X (compareOp .GtE) (rI0 fun i j => .bl (decide (j ≤ i))) := opB0 fun _ _ _ _ _ _ _ q => ge_int q
theorem op_isN : OpR X (compareOp .Is) (fun x y H Q => y = .non ∧ Q (.bl (decide (x = .non))) H) := by
  intro pins s σ H x y v u Q I rx ry h
  obtain ⟨rfl, q⟩ := h
  cases ry
  refine is_none_gen (fin_bl I q ?_)
  cases x <;> first
    | (cases rx; rfl)
    | (obtain ⟨t, rfl⟩ := rx; rfl)
def isObj : HO → Bool
  | .lst _ => true
  | .ins _ _ _ => true
  | _ => false
theorem OpR.or {f : Value → Value → Sem Value} {r r' : R2} (h : OpR X f r) (h' : OpR X f r') : OpR X f (fun x y H Q => r x y H Q ∨ r' x y H Q) := by
  intro pins s σ H x y v u Q I rx ry q
  rcases q with q | q
  · exact h pins s σ H x y v u Q I rx ry q
  · exact h' pins s σ H x y v u Q I rx ry q
theorem nomark (b : Expr) {op : CmpOp} (h : op ≠ .In := by decide) (h2 : op ≠ .NotIn := by decide) : behindInMarks op b = false := by
  have e1 : (op == CmpOp.In) = false := by cases op <;> first | rfl | exact absurd rfl h
  have e2 : (op == CmpOp.NotIn) = false := by cases op <;> first | rfl | exact absurd rfl h2
  cases b <;> simp [behindInMarks, e1, e2]
theorem pe_cmpR {op : CmpOp} {r : R2} (ho : OpR X (compareOp op) r) (ha : PE X a ta) (hb : PE X b tb) (hm : behindInMarks op b = false) : PE X (.Compare a [op] [b] pos) (tOp r ta tb) := by
  intro pins s σ H Q I h
  exact wpAny_Compare1 (binT ha hb I h fun v u s2 x y H2 I2 rx ry q => ho pins s2 σ H2 x y v u Q I2 rx ry q) hm
def tTest (t : TE) : TT := fun σ H Q => t σ H fun x H' => ∃ k, x = .bl k ∧ Q k H'
theorem pt_cmpR {op : CmpOp} {r : R2} (ho : OpR X (compareOp op) r) (ha : PE X a ta) (hb : PE X b tb) (hm : behindInMarks op b = false) : PT X (.Compare a [op] [b] pos) (tTest (tOp r ta tb)) := by
  intro pins s σ H Q I h
  refine wpAny_isTrue_Compare1 (thn (ha pins s σ H _ I h) fun v s1 ⟨x, H1, I1, r1, q1⟩ => thn (hb pins s1 σ H1 _ I1 q1) fun u s2 ⟨y, H2, I2, r2, q2⟩ =>
    thn (ho pins s2 σ H2 x y v u _ I2 r1 r2 q2) fun c s3 ⟨z, H3, I3, r3, k, e, q3⟩ => ?_) hm
  subst e
  cases r3
  exact wpAny_truthy_bool ⟨H3, I3, q3⟩
def tChain (r r' : R2) (ta tb tc : TE) : TE := fun σ H Q => ta σ H fun x H1 => tb σ H1 fun y H2 => r x y H2 fun z H3 => ∃ k, z = .bl k ∧
  (if k = true then tc σ H3 fun w' H4 => r' y w' H4 Q else Q (.bl false) H3)
def TruV (K : PySem.W.Frag) (x : V) (H : Hp) (k : Bool) : Prop :=
  match x with
  | .non => k = false
  | .bl b => k = b
  | .int i => k = (i != 0)
  | .str y => y.length ≤ sizeLine ∧ k = ((y.length : Int) != 0)
  | .byt y => y.size ≤ sizeLine ∧ k = ((y.size : Int) != 0)
  | .ref p => (∃ xs, SqL K H p xs ∧ k = !xs.isEmpty) ∨ (∃ xs, SqT K H p xs ∧ k = !xs.isEmpty) ∨ ∃ kvs, H p = some (.dK kvs) ∧ k = !kvs.isEmpty
  | _ => False
theorem isEmpty_kv {κ : Type} {kvs : List (κ × V)} {vs : List (κ × Value)} (r : KV kvs vs) : (!vs.isEmpty) = !kvs.isEmpty := by
  cases r <;> rfl
theorem isEmpty_of {xs : List V} {its : List Value} (r : Vals xs its) : (!its.toArray.isEmpty) = !xs.isEmpty := by
  cases r <;> simp
theorem line63 : (sizeLine : Nat) < 2 ^ 63 := by rw [sizeLine_eq]; decide
theorem tru_ok : TruR X (fun x H Q => ∃ k, TruV X.K x H k ∧ Q k H) := by
  intro pins s σ H x v Q I rx h
  obtain ⟨k, e, q⟩ := h
  have hl := line63
  have hs : sizeLine = 16777216 := sizeLine_eq
  cases x with
  | non =>
    cases rx
    have e' : k = false := e
    subst e'
    exact truthy_none ⟨H, I, q⟩
  | bl b =>
    cases rx
    have e' : k = b := e
    subst e'
    exact wpAny_truthy_bool ⟨H, I, q⟩
  | int i =>
    obtain ⟨t, rfl⟩ := rx
    have e' : k = (i != 0) := e
    subst e'
    exact PySem.P.truthy_int ⟨H, I, q⟩
  | str y =>
    obtain ⟨t, rfl⟩ := rx
    obtain ⟨hy, e'⟩ : y.length ≤ sizeLine ∧ k = ((y.length : Int) != 0) := e
    subst e'
    exact PySem.P.truthy_str (by omega) ⟨H, I.tok _, q⟩
  | byt y =>
    obtain ⟨t, rfl⟩ := rx
    obtain ⟨hy, e'⟩ : y.size ≤ sizeLine ∧ k = ((y.size : Int) != 0) := e
    subst e'
    exact PySem.W.truthy_bytes (by omega) ⟨H, I.tok _, q⟩
  | ref p =>
    cases rx
    have e' : (∃ xs, SqL X.K H p xs ∧ k = !xs.isEmpty) ∨ (∃ xs, SqT X.K H p xs ∧ k = !xs.isEmpty) ∨ ∃ kvs, H p = some (.dK kvs) ∧ k = !kvs.isEmpty := e
    rcases e' with ⟨xs, hx, e'⟩ | ⟨xs, hx, e'⟩ | ⟨kvs, hx, e'⟩
    · subst e'
      obtain ⟨its, r, pl, hz⟩ := I.list hx
      have hlen := r.length
      exact wpAny_truthy_list pl.isList (by simp only [List.size_toArray]; omega) ⟨H, I.tok _, by rw [isEmpty_of r]; exact q⟩
    · subst e'
      obtain ⟨its, r, pl, hz⟩ := I.tuple hx
      have hlen := r.length
      exact truthy_tuple pl (by simp only [List.size_toArray]; omega) ⟨H, I.tok _, by rw [isEmpty_of r]; exact q⟩
    · subst e'
      obtain ⟨hz, hS, vs, r, m⟩ : kvs.length ≤ sizeLine ∧ (p == sysModules) = false ∧ ∃ vs, KV kvs vs ∧ s.heap.DictOf (mixKind X.prog X.w) p vs := I.hok p _ hx
      have hlen : kvs.length = vs.length := Paired.length r
      exact wpAny_truthy_dict hS m (by omega) ⟨H, I.tok _, by rw [isEmpty_kv r]; exact q⟩
  | _ => exact (show False from e).elim
theorem pt_truth (ha : PE X a ta) (he : ∀ whole, isTrue a X.env whole = (do let v ← whole; standAt a.pos; holding [v] (truthy v))) :
    PT X a (fun σ H Q => ta σ H fun x H' => ∃ k, TruV X.K x H' k ∧ Q k H') := by
  intro pins s σ H Q I h
  exact isTrue_plain (thn (ha pins s σ H _ I h) fun v s1 ⟨x, H1, I1, r1, q1⟩ => tru_ok pins s1 σ H1 x v Q I1 r1 q1) (he _)
theorem op_add_str : OpR X (binaryOp .Add) (fun x y H Q => ∃ i j, x = .str i ∧ y = .str j ∧ i.length + j.length ≤ sizeLine ∧ Q (.str (i ++ j)) H) := by
  intro pins s σ H x y v u Q I rx ry h
  obtain ⟨i, j, rfl, rfl, hz, q⟩ := h
  obtain ⟨t, rfl⟩ := rx
  obtain ⟨t', rfl⟩ := ry
  exact add_str (fun t' tk => ⟨.str (i ++ j), H, I.tok _, ⟨_, rfl⟩, q⟩) hz
def PlainIxT (b : Expr) : Prop := ∀ o i, subscripted b false o i = operate [o, i] (getItem o i)
theorem vals1 {x : V} {us : List Value} (r : Vals [x] us) : ∃ u, us = [u] ∧ RelV x u := by
  cases r with
  | cons r1 r2 => cases r2; exact ⟨_, rfl, r1⟩
theorem vals2 {x y : V} {us : List Value} (r : Vals [x, y] us) : ∃ u w', us = [u, w'] ∧ RelV x u ∧ RelV y w' := by
  cases r with
  | cons r1 r2 =>
    cases r2 with
    | cons r3 r4 => cases r4; exact ⟨_, _, rfl, r1, r3⟩
theorem call_int1 : CallR X (.type "int") (fun xs H Q => (∃ i, xs = [.int i] ∧ Q (.int i) H) ∨ ∃ k, xs = [.bl k] ∧ Q (.int (if k then 1 else 0)) H) := by
  intro pins s σ H xs us Q I r h
  rcases h with ⟨i, rfl, q⟩ | ⟨k, rfl, q⟩
  · obtain ⟨u, rfl, t, rfl⟩ := vals1 r
    exact call_int_int ⟨.int i, H, I, ⟨_, rfl⟩, q⟩
  · obtain ⟨u, rfl, r1⟩ := vals1 r
    cases r1
    exact call_int_bool ⟨.int (if k then 1 else 0), H, I.tok _, ⟨_, rfl⟩, q⟩
def LenV (K : PySem.W.Frag) (x : V) (H : Hp) (n : Nat) : Prop :=
  match x with
  | .str y => y.length ≤ sizeLine ∧ n = y.length
  | .byt y => y.size ≤ sizeLine ∧ n = y.size
  | .ref p => (∃ xs, SqL K H p xs ∧ n = xs.length) ∨ ∃ xs, SqT K H p xs ∧ n = xs.length
  | _ => False
end
end L2
namespace L2
open PySem PySem.Spec PyProof.Rows
structure ObjM (h : Heap) (x dx C : Addr) (mA : Str → Option Value) : Prop where
  obj : h.get? x = some (PySem.W.instObj C dx)
  ns : h.Ns1 dx mA
  ne : dx ≠ x
theorem lookIn_ns {h : Heap} {dx : Addr} {mA : Str → Option Value} (n : h.Ns1 dx mA) : ∃ od, h.get? dx = some od ∧ ∀ name, PySem.W.lookIn name od = some (mA name) := by
  obtain ⟨o, es, ep, ho, hd, hk, _, hm⟩ := n
  refine ⟨o, ho, fun name => ?_⟩
  have e := hm name
  unfold nsFind findBy at e
  rw [← Array.find?_toList] at e
  unfold PySem.W.lookIn
  rw [hd]
  dsimp only
  split
  · rename_i y q
    rw [q] at e
    exact congrArg some e
  · rename_i q
    rw [q] at e
    have a : es.toList.any (·.refKey) = false := by
      rw [List.any_eq_false]
      intro y hy
      obtain ⟨z, t, hkey⟩ := hk y (Array.mem_toList_iff.mp hy)
      simp [DictEntry.refKey, hkey]
    have a' : ¬ es.toList.any (·.refKey) = true := by rw [a]; exact Bool.false_ne_true
    rw [if_neg a']
    exact congrArg some e
theorem ObjM.look {h : Heap} {x dx C : Addr} {mA : Str → Option Value} (I : ObjM h x dx C mA) : ∃ od, PySem.W.InstAt h x (PySem.W.instObj C dx) C (some od) ∧ ∀ name, PySem.W.lookIn name od = some (mA name) :=
  let ⟨od, ho, hl⟩ := lookIn_ns I.ns
  ⟨od, ⟨I.obj, rfl, rfl, ho⟩, hl⟩
section
variable {prog : Program} {w : World} {A : Around} {E : Value → Shared → Prop} {s : Shared} {K : PySem.W.Frag} {x dx C f : Addr} {mA : Str → Option Value} {name : Str} {v : Value}
end
def putF (f : Str) (v : V) : List (Str × V) → List (Str × V)
  | [] => [(f, v)]
  | (g, x) :: r => if g = f then (g, v) :: r else (g, x) :: putF f v r
theorem lookup_putF (f g : Str) (v : V) : ∀ fs : List (Str × V), (putF f v fs).lookup g = if g = f then some v else fs.lookup g
  | [] => by
    show List.lookup g [(f, v)] = _
    by_cases h : g = f
    · have hb : (g == f) = true := beq_iff_eq.mpr h
      simp only [List.lookup, hb, if_pos h]
    · have hb : (g == f) = false := beq_eq_false_iff_ne.mpr h
      simp only [List.lookup, hb, if_neg h]
  | (k, x) :: r => by
    have ih := lookup_putF f g v r
    rw [show putF f v ((k, x) :: r) = (if k = f then (k, v) :: r else (k, x) :: putF f v r) from rfl]
    by_cases hk : k = f
    · rw [if_pos hk]
      by_cases h : g = k
      · have hb : (g == k) = true := beq_iff_eq.mpr h
        simp only [List.lookup, hb, if_pos (h.trans hk)]
      · have hb : (g == k) = false := beq_eq_false_iff_ne.mpr h
        simp only [List.lookup, hb, if_neg (fun e : g = f => h (e.trans hk.symm))]
    · rw [if_neg hk]
      by_cases h : g = k
      · have hb : (g == k) = true := beq_iff_eq.mpr h
        simp only [List.lookup, hb, if_neg (fun e : g = f => hk (h.symm.trans e))]
      · have hb : (g == k) = false := beq_eq_false_iff_ne.mpr h
        simp only [List.lookup, hb]
        exact ih
theorem keys_putF (f : Str) (v : V) : ∀ fs : List (Str × V), f ∈ (putF f v fs).map (·.1) ∧ ∀ g, g ∈ fs.map (·.1) → g ∈ (putF f v fs).map (·.1)
  | [] => ⟨by simp [putF], fun g h => by simp at h⟩
  | (k, x) :: r => by
    obtain ⟨i1, i2⟩ := keys_putF f v r
    rw [show putF f v ((k, x) :: r) = (if k = f then (k, v) :: r else (k, x) :: putF f v r) from rfl]
    by_cases hk : k = f
    · rw [if_pos hk]
      subst hk
      exact ⟨by simp, fun g h => by simpa using h⟩
    · rw [if_neg hk]
      refine ⟨?_, fun g h => ?_⟩
      · rw [List.map_cons]
        exact List.mem_cons_of_mem _ i1
      · rw [List.map_cons] at h ⊢
        rcases List.mem_cons.mp h with e | e
        · exact List.mem_cons.mpr (.inl e)
        · exact List.mem_cons_of_mem _ (i2 g e)
theorem length_putF (f : Str) (v : V) : ∀ fs : List (Str × V), (putF f v fs).length ≤ fs.length + 1
  | [] => by simp [putF]
  | (k, x) :: r => by
    have ih := length_putF f v r
    rw [show putF f v ((k, x) :: r) = (if k = f then (k, v) :: r else (k, x) :: putF f v r) from rfl]
    by_cases hk : k = f
    · rw [if_pos hk, List.length_cons, List.length_cons]; omega
    · rw [if_neg hk, List.length_cons, List.length_cons]; omega
theorem RelO.some_of {v : V} {o : Option Value} (r : RelO (some v) o) : ∃ u, o = some u ∧ RelV v u := by
  cases o with
  | none => exact (show False from r).elim
  | some u => exact ⟨u, rfl, r⟩
theorem handed_of {v : V} {u : Value} (r : RelV v u) : PySem.W.handedIn u = true := by
  cases v with
  | non => cases (show u = Value.none from r); rfl
  | bl b => cases (show u = Value.bool b from r); rfl
  | int i => obtain ⟨t, e⟩ := (show ∃ t, u = Value.int i t from r); cases e; rfl
  | str x => obtain ⟨t, e⟩ := (show ∃ t, u = Value.str x t from r); cases e; rfl
  | byt b => obtain ⟨t, e⟩ := (show ∃ t, u = Value.bytes b t from r); cases e; rfl
  | flt b => obtain ⟨t, e⟩ := (show ∃ t, u = Value.float b t from r); cases e; rfl
  | ref a => cases (show u = Value.ref a from r); rfl
  | ty n => cases (show u = Value.type n from r); rfl
section
variable {P : Program} {w : World} {H H' : Hp} {h h' : Heap} {a C dx : Addr} {fs fs' : List (Str × V)}
theorem ins_get (hok : HOk P w H h) (e : H a = some (.ins C dx fs)) : ∃ mA, ObjM h a dx C mA ∧ (∀ f, RelO (fs.lookup f) (mA f)) ∧ PySem.Within mA (fs.map (·.1)) ∧ fs.length ≤ 1000 ∧ H dx = some (.own a) := by
  obtain ⟨d, z, ne, ob, mA, n, r, q⟩ := (show ObjOk P w H h a (.ins C dx fs) from hok a _ e)
  exact ⟨mA, ⟨ob, n, ne⟩, r, q, z, d⟩
end
structure Cls (K : PySem.W.Frag) (C : Addr) : Prop where
  pg : PySem.W.plainGet K C Str.empty = true
  hd : PySem.W.hasDictIn K C = true
  po : PySem.W.plainOver K C = true
  sa : PySem.W.findIn K (.ref C) "__setattr__" = some (some (.builtin "object.__setattr__"))
theorem Cls.get {K : PySem.W.Frag} {C : Addr} (c : Cls K C) (f : Str) : PySem.W.plainGet K C f = true := c.pg
def NoAttr (K : PySem.W.Frag) (C : Addr) (f : Str) : Prop := PySem.W.findIn K (.ref C) f = some none
theorem NoAttr.taker {K : PySem.W.Frag} {C : Addr} {f : Str} (n : NoAttr K C f) : PySem.W.takerIn K C f = some none := by
  unfold PySem.W.takerIn
  rw [show PySem.W.findIn K (.ref C) f = some none from n]
  rfl
structure Con (K : PySem.W.Frag) (C : Addr) (f : Str) (v : V) (u : Value) : Prop where
  at_ : PySem.W.findIn K (.ref C) f = some (some u)
  rel : RelV v u
  get : PySem.W.specialIn K u "__get__" = some none
  cp : PySem.W.copiedNames.contains f = false
structure Meth (K : PySem.W.Frag) (C : Addr) (m : Str) (f : Addr) : Prop where
  at_ : PySem.W.findIn K (.ref C) m = some (some (.ref f))
  fn : PySem.W.isFn K (.ref f) = true
  kp : PySem.W.keepIn K (.ref f) = true
section
variable {X : Cx} {pins : List (Addr × Obj)} {σ : St} {H : Hp} {s : Shared} {a C dx : Addr} {fs : List (Str × V)} {f : Str} {v : V} {A : Around} {E : Value → Shared → Prop}
theorem Inv.made (I : Inv X pins σ H s) : Inv X pins σ (upd (upd H s.heap.objs.size (.own (s.heap.objs.size + 1))) (s.heap.objs.size + 1) (.ins C s.heap.objs.size []))
    { s with heap := (s.heap.push PySem.W.emptyDict).push (PySem.W.instObj C s.heap.objs.size) } := by
  have e1 : (s.heap.push PySem.W.emptyDict).get? s.heap.objs.size = some PySem.W.emptyDict := Heap.get?_push_size s.heap rfl
  have e2 : ((s.heap.push PySem.W.emptyDict).push (PySem.W.instObj C s.heap.objs.size)).get? (s.heap.objs.size + 1) = some (PySem.W.instObj C s.heap.objs.size) := by
    have := Heap.get?_push_size (s.heap.push PySem.W.emptyDict) (o := PySem.W.instObj C s.heap.objs.size) rfl
    rwa [Heap.size_push] at this
  have e3 : (s.heap.push PySem.W.emptyDict).Ns s.heap.objs.size (fun _ => none) := ⟨PySem.W.emptyDict, #[], _, e1, rfl, (fun e he => absurd he (by simp)), fun _ => rfl⟩
  have I1 := I.laid (a := s.heap.objs.size) (o := .own (s.heap.objs.size + 1)) (h' := s.heap.push PySem.W.emptyDict) (t' := s.toks) (fun b u q => Heap.get?_push_of_some _ q) (Nat.le_refl _) ⟨_, e1⟩
  refine I1.laid (a := s.heap.objs.size + 1) (o := .ins C s.heap.objs.size []) (t' := s.toks) (fun b u q => Heap.get?_push_of_some _ q) (Nat.le_of_eq (Heap.size_push _ _)) ?_
  have ne : s.heap.objs.size ≠ s.heap.objs.size + 1 := Nat.ne_of_lt (Nat.lt_succ_self _)
  refine ⟨by rw [upd_ne ne, upd_same], Nat.zero_le _, ne, e2, fun _ => none, (Heap.Ns1.of_empty e3).at fun o q => Heap.get?_push_of_some _ q, fun _ => True.intro, fun y hy => absurd rfl hy⟩
theorem attr_of {prog : Program} {w : World} {env : Env} {e : Expr} {f : Str} {pos : Pos} {s : Shared} {Q : Value → Shared → Prop} (hb : attributeBase e f env (eval e env) = eval e env)
    (h : wpAny (model prog w) A (eval e env) (fun o s₁ => wpAny (model prog w) A (getAttr o f true) Q E s₁) E s) : wpAny (model prog w) A (eval (.Attribute e f pos) env) Q E s :=
  Attribute_any_ h (by rw [arm_eval_Attribute, hb])
end
def tFld (K : PySem.W.Frag) (ta : TE) (f : Str) : TE := fun σ H Q => ta σ H fun x H1 => ∃ a C dx fs v, x = .ref a ∧ H1 a = some (.ins C dx fs) ∧ Cls K C ∧ NoAttr K C f ∧ fs.lookup f = some v ∧ Q v H1
def tCon (K : PySem.W.Frag) (ta : TE) (f : Str) : TE := fun σ H Q => ta σ H fun x H1 => ∃ a C dx fs v u, x = .ref a ∧ H1 a = some (.ins C dx fs) ∧ Cls K C ∧ Con K C f v u ∧ fs.lookup f = none ∧ Q v H1
def sFld (K : PySem.W.Frag) (ta tv : TE) (f : Str) : TS := fun D σ H => tv σ H fun y H1 => ta σ H1 fun x H2 => ∃ a C dx fs, x = .ref a ∧ H2 a = some (.ins C dx fs) ∧ Cls K C ∧ NoAttr K C f ∧ fs.length < 1000 ∧
  D.nx σ (upd H2 a (.ins C dx (putF f y fs)))
def InOp (X : Cx) (op : Operator) (rd : V → V → Hp → VK → Prop) : Prop :=
  ∀ (pins : List (Addr × Obj)) (s : Shared) (σ : St) (H : Hp) (x y : V) (u v : Value) (Q : VK), Inv X pins σ H s → RelV x u → RelV y v → rd x y H Q → wpAny (model X.prog X.w) X.A (inplaceOp op u v) (EP X pins σ Q) X.xe s
def sFldAug (K : PySem.W.Frag) (ta tv : TE) (rd : V → V → Hp → VK → Prop) (f : Str) : TS := fun D σ H => ta σ H fun x H1 => ∃ a C dx fs v, x = .ref a ∧ H1 a = some (.ins C dx fs) ∧ Cls K C ∧ NoAttr K C f ∧ fs.lookup f = some v ∧
  tv σ H1 fun y H2 => rd v y H2 fun z H3 => ∃ dx' fs', H3 a = some (.ins C dx' fs') ∧ fs'.length < 1000 ∧ D.nx σ (upd H3 a (.ins C dx' (putF f z fs')))
section
variable {X : Cx} {o e value : Expr} {f : Str} {pos pos' tpos : Pos} {ta tv : TE}
def rAdd : V → V → Hp → VK → Prop := fun x y H Q => ∃ i j, x = .int i ∧ y = .int j ∧ Q (.int (i + j)) H
def rSub : V → V → Hp → VK → Prop := fun x y H Q => ∃ i j, x = .int i ∧ y = .int j ∧ Q (.int (i - j)) H
end
section
variable {X : Cx} {pins : List (Addr × Obj)} {σ : St} {H : Hp} {s : Shared} {A : Around} {E : Value → Shared → Prop} {Q : Value → Shared → Prop} {c : Value} {b : Bool}
inductive TyOf (K : PySem.W.Frag) (H : Hp) : V → Value → Prop where
  | non : TyOf K H .non (.type "NoneType")
  | bl (x : Bool) : TyOf K H (.bl x) (.type "bool")
  | int (i : Int) : TyOf K H (.int i) (.type "int")
  | str (x : Str) : TyOf K H (.str x) (.type "str")
  | flt (x : UInt64) : TyOf K H (.flt x) (.type "float")
  | lst {a : Addr} {xs : List V} (e : H a = some (.lst xs)) : TyOf K H (.ref a) (.type "list")
  | frz {a : Addr} {o : Obj} {xs : List V} (e : H a = some (.frz o (.lst xs))) : TyOf K H (.ref a) (.type "list")
  | tup {a : Addr} {xs : List V} (e : H a = some (.tup xs)) : TyOf K H (.ref a) (.type "tuple")
  | dK {a : Addr} {kvs : List (Key × V)} (e : H a = some (.dK kvs)) : TyOf K H (.ref a) (.type "dict")
  | dT {a : Addr} {kvs : List (List Key × V)} (e : H a = some (.dT kvs)) : TyOf K H (.ref a) (.type "dict")
  | ins {a C dx : Addr} {fs : List (Str × V)} (e : H a = some (.ins C dx fs)) (cl : Cls K C) (ha : PySem.W.findIn K (.ref C) "__class__" = some (some (.builtin "object.__class__")))
      (hn : PySem.W.specialIn K (.builtin "object.__class__") "__get__" = some (some (.builtin "getset_descriptor.__get__"))) (htk : PySem.W.takesIn K (.builtin "object.__class__") = some true)
      (hm : PySem.W.mroIn K C (.type "object") = some true) : TyOf K H (.ref a) (.ref C)
theorem isinst_ok {x : V} {u t : Value} (I : Inv X pins σ H s) (rx : RelV x u) (ty : TyOf X.K H x t) (e : PySem.W.kitOne X.K t c = some b) (h : ∀ tk, Q (.bool b) { s with toks := tk }) :
    wpAny (model X.prog X.w) A (call (.builtin "isinstance") [u, c]) Q E s := by
  cases ty with
  | non => cases (show u = Value.none from rx); exact PySem.W.kia_one PySem.W.kitx_none I.kIn True.intro e (fun z => nomatch z) h
  | bl y => cases (show u = Value.bool y from rx); exact PySem.W.kia_one PySem.W.kitx_bool I.kIn True.intro e (fun z => nomatch z) h
  | int i => obtain ⟨t, q⟩ := (show ∃ t, u = Value.int i t from rx); cases q; exact PySem.W.kia_one PySem.W.kitx_int I.kIn True.intro e (fun z => nomatch z) h
  | str y => obtain ⟨t, q⟩ := (show ∃ t, u = Value.str y t from rx); cases q; exact PySem.W.kia_one PySem.W.kitx_str I.kIn True.intro e (fun z => nomatch z) h
  | flt y => obtain ⟨t, q⟩ := (show ∃ t, u = Value.float y t from rx); cases q; exact PySem.W.kia_one PySem.W.kitx_float I.kIn True.intro e (fun z => nomatch z) h
  | @lst a xs ea =>
    cases (show u = Value.ref a from rx)
    obtain ⟨_, _, n, _, h1⟩ := (show ObjOk X.prog X.w H s.heap a (.lst xs) from I.hok a _ ea)
    exact PySem.W.kia_one PySem.W.kitx_list I.kIn ⟨_, h1, rfl⟩ e (fun z => nomatch z) h
  | @frz a ob xs ea =>
    cases (show u = Value.ref a from rx)
    obtain ⟨_, _, _, n, _, h1⟩ := (show ObjOk X.prog X.w H s.heap a (.frz ob (.lst xs)) from I.hok a _ ea)
    exact PySem.W.kia_one PySem.W.kitx_list I.kIn ⟨_, h1, rfl⟩ e (fun z => nomatch z) h
  | @tup a xs ea =>
    cases (show u = Value.ref a from rx)
    obtain ⟨_, _, _, p⟩ := (show ObjOk X.prog X.w H s.heap a (.tup xs) from I.hok a _ ea)
    obtain ⟨o, h1, h2, _⟩ := p
    exact PySem.W.kia_one PySem.W.kitx_tuple I.kIn ⟨o, h1, h2⟩ e (fun z => nomatch z) h
  | @dK a kvs ea =>
    cases (show u = Value.ref a from rx)
    obtain ⟨_, _, vs, _, p⟩ := (show ObjOk X.prog X.w H s.heap a (.dK kvs) from I.hok a _ ea)
    obtain ⟨o, es, ep, h1, h2, _⟩ := p
    exact PySem.W.kia_one PySem.W.kitx_dict I.kIn ⟨o, h1, h2.1⟩ e (fun z => nomatch z) h
  | @dT a kvs ea =>
    cases (show u = Value.ref a from rx)
    obtain ⟨_, _, xs, _, o, es, ep, h1, h2, _⟩ := (show ObjOk X.prog X.w H s.heap a (.dT kvs) from I.hok a _ ea)
    exact PySem.W.kia_one PySem.W.kitx_dict I.kIn ⟨o, h1, h2.1⟩ e (fun z => nomatch z) h
  | @ins a C dx fs ea cl ha hn htk hm =>
    cases (show u = Value.ref a from rx)
    obtain ⟨mA, O, _⟩ := ins_get I.hok ea
    obtain ⟨od, J, _⟩ := O.look
    exact PySem.W.kia_one (PySem.W.kitx_own (cl.get _) cl.hd ha hn htk hm) I.kIn J e (fun z => nomatch z) h
end
end L2
namespace L2
open PySem PySem.Spec PyProof.Rows
structure Room (k : Nat) (A : Around) : Prop where
  hd : A.handled = none
  dp : A.depth + 3 * k + 5 < recursionLimit
  un : A.units + 16 * k + 200 < cLine
theorem Room.mono {j k : Nat} {A : Around} (r : Room k A) (h : j ≤ k) : Room j A := ⟨r.hd, by have := r.dp; omega, by have := r.un; omega⟩
theorem Room.deeper {k : Nat} {A : Around} (r : Room (k + 1) A) (env : Env) : Room k (A.deeper env) :=
  ⟨r.hd, by have := r.dp; show A.depth + 1 + 3 * k + 5 < _; omega, by have := r.un; show A.units + 3 + 16 * k + 200 < _; omega⟩
theorem Room.in1 {k : Nat} {A : Around} (r : Room (k + 1) A) : Room k A.in1 :=
  ⟨r.hd, by have := r.dp; show A.depth + 3 * k + 5 < _; omega, by have := r.un; show A.units + 1 + 16 * k + 200 < _; omega⟩
theorem make_depth {A : Around} {C : Addr} {us : List Value} {kw : List (Str × Value)} : (A.under (.builtin "type.__call__" ⟨.ref C :: us, kw⟩)).depth = A.depth + 1 := by
  first | rfl | simp [Around.under, Code.weight, Code.isCreation, Code.isGuard, Code.isCaller, Code.frames, Code.isFrame, guardIds]
theorem make_units {A : Around} {C : Addr} {us : List Value} {kw : List (Str × Value)} : (A.under (.builtin "type.__call__" ⟨.ref C :: us, kw⟩)).units = A.units + 1 := by
  first | rfl | simp [Around.under, Code.cUnits, Code.frames, Code.isFrame]
theorem Room.make {k : Nat} {A : Around} (r : Room (k + 1) A) (C : Addr) (us : List Value) (kw : List (Str × Value)) : Room k (A.under (.builtin "type.__call__" ⟨.ref C :: us, kw⟩)) :=
  ⟨r.hd, by have := r.dp; rw [make_depth]; omega, by have := r.un; rw [make_units]; omega⟩
theorem Room.depth {k : Nat} {A : Around} (r : Room k A) : A.depth < recursionLimit := by have := r.dp; omega
theorem Room.units {k : Nat} {A : Around} (r : Room k A) : A.units + 64 < cLine := by have := r.un; omega
def tNil : TA := fun _ H Q => Q [] H
def tCons (ta : TE) (tr : TA) : TA := fun σ H Q => ta σ H fun x H1 => tr σ H1 fun xs H2 => Q (x :: xs) H2
section
variable {X : Cx} {e : Expr} {es : List Expr} {te : TE} {t : TA} {pos : Pos}
theorem pa_nil : PA X [] tNil := fun _ _ _ _ H Q I h => Calls.spliced_nil ⟨[], H, I, .nil, h⟩
theorem pa_cons (ha : PE X e te) (hr : PA X es t) (hs : starEach (e :: es) X.env = (false, eval e X.env) :: starEach es X.env := by rfl) : PA X (e :: es) (tCons te t) := by
  intro pos pins s σ H Q I h
  rw [hs]
  show wpAny _ _ (spliced ((false, eval e X.env) :: backTo pos (starEach es X.env))) _ _ s
  refine Calls.spliced_cons (thn (ha pins s σ H _ I h) fun u s1 ⟨x, H1, I1, r1, q1⟩ => ?_)
  exact thn (hr pos pins s1 σ H1 _ I1 q1) fun us s2 ⟨xs, H2, I2, r2, q2⟩ => ⟨x :: xs, H2, I2, .cons r1 r2, q2⟩
def tTup (t : TA) : TE := fun σ H Q => t σ H fun xs H1 => xs.length ≤ sizeLine ∧ ∀ p, H1 p = none → Q (.ref p) (upd H1 p (.tup xs))
def tLst (t : TA) : TE := fun σ H Q => t σ H fun xs H1 => xs.length ≤ sizeLine ∧ ∀ p, H1 p = none → Q (.ref p) (upd H1 p (.lst xs))
theorem pe_tup {x1} (h : PA X es t) : PE X (.Tuple es x1 pos) (tTup t) := by
  intro pins s σ H Q I hq
  refine wpAny_Tuple_spliced (thn (h pos pins s σ H _ I hq) fun us s1 ⟨xs, H1, I1, r, z, q⟩ => ⟨by rw [← r.length]; exact z, ?_⟩)
  have hf : H1 s1.heap.objs.size = none := I1.hok.fresh (Nat.le_refl _)
  refine ⟨.ref s1.heap.objs.size, upd H1 s1.heap.objs.size (.tup xs), I1.laid (t' := s1.toks) (fun b u e => Heap.get?_push_of_some _ e) (Nat.le_refl _) ?_, rfl, q _ hf⟩
  exact ⟨z, us, r, ⟨_, Heap.get?_push_size _ rfl, rfl, _, rfl⟩⟩
theorem pe_lst (h : PA X es t) : PE X (.List es pos) (tLst t) := by
  intro pins s σ H Q I hq
  refine wpAny_List_spliced (thn (h pos pins s σ H _ I hq) fun us s1 ⟨xs, H1, I1, r, z, q⟩ => ⟨by rw [← r.length]; exact z, ?_⟩)
  have hf : H1 s1.heap.objs.size = none := I1.hok.fresh (Nat.le_refl _)
  refine ⟨.ref s1.heap.objs.size, upd H1 s1.heap.objs.size (.lst xs), I1.laid (t' := s1.toks) (fun b u e => Heap.get?_push_of_some _ e) (Nat.le_refl _) ?_, rfl, q _ hf⟩
  exact ⟨z, us, 0, r, Heap.get?_push_size _ rfl⟩
end
abbrev Sp := List V → Hp → VK → XK → Prop
abbrev CXT := List Env → Hp → Shared → XK → Value → Shared → Prop
structure Env0 (P : Program) (w : World) (K : PySem.W.Frag) (mg : Str → Option Value) (base : Heap) (A : Around) (outer : List Env) (s : Shared) (H : Hp) : Prop where
  frames : A.frames = some outer
  mod : Mod K mg base
  bs : ∀ b o, base.get? b = some o → s.heap.get? b = some o ∧ H b = none
  bsz : base.objs.size ≤ s.heap.objs.size
  funs : s.heap.FunFrames base outer
  frf : ∀ b ∈ frs outer, H b = none
  hok : HOk P w H s.heap
  bare : AllBare s.gens
def CE (outer : List Env) (P : Program) (w : World) (H : Hp) (s : Shared) (Q : VK) (u : Value) (s' : Shared) : Prop :=
  ∃ v H', s'.os = s.os ∧ AllBare s'.gens ∧ Un (frs outer) [] H H' s.heap s'.heap ∧ HOk P w H' s'.heap ∧ RelV v u ∧ Q v H'
def CR (CX : CXT) (outer : List Env) (P : Program) (w : World) (H : Hp) (s : Shared) (Q : VK) (E : XK) (r : Result) (s' : Shared) : Prop :=
  match r with
  | .ok (.ret u) => CE outer P w H s Q u s'
  | .ok _ => False
  | .error e => CX outer H s E e s'
structure FnOk (P : Program) (w : World) (K : PySem.W.Frag) (mg : Str → Option Value) (base : Heap) (CX : CXT) (k : Nat) (f : Addr) (fd : FuncData) (ps : List Str) (sp : Sp) : Prop where
  len : ∀ vs H Q E, sp vs H Q E → vs.length = ps.length
  run : ∀ (A : Around) (outer : List Env) (s : Shared) (H : Hp) (args : Args) (us : List Value) (vs : List V) (Q : VK) (E : XK), Room k A → Env0 P w K mg base A outer s H → BindsTo s fd args (ps.zip us) → Vals vs us → sp vs H Q E →
    codeAny (model P w) A (.call (.ref f) args) (CR CX outer P w H s Q E) s
theorem FnOk.mono {P : Program} {w : World} {K : PySem.W.Frag} {mg : Str → Option Value} {base : Heap} {CX : CXT} {j k : Nat} {f : Addr} {fd : FuncData} {ps : List Str} {sp : Sp} (F : FnOk P w K mg base CX j f fd ps sp) (h : j ≤ k) :
    FnOk P w K mg base CX k f fd ps sp := ⟨F.len, fun A outer s H args us vs Q E hr => F.run A outer s H args us vs Q E (hr.mono h)⟩
theorem FnOk.imp {P : Program} {w : World} {K : PySem.W.Frag} {mg : Str → Option Value} {base : Heap} {CX : CXT} {k : Nat} {f : Addr} {fd : FuncData} {ps : List Str} {sp sp' : Sp} (F : FnOk P w K mg base CX k f fd ps sp)
    (h : ∀ vs H Q E, sp' vs H Q E → sp vs H Q E) : FnOk P w K mg base CX k f fd ps sp' :=
  ⟨fun vs H Q E q => F.len vs H Q E (h _ _ _ _ q), fun A outer s H args us vs Q E hr he hb hv hs => F.run A outer s H args us vs Q E hr he hb hv (h _ _ _ _ hs)⟩
theorem Env0.make {P : Program} {w : World} {K : PySem.W.Frag} {mg : Str → Option Value} {base : Heap} {A : Around} {outer : List Env} {s : Shared} {H : Hp} (e : Env0 P w K mg base A outer s H) (C : Addr) (us : List Value) (kw : List (Str × Value)) :
    Env0 P w K mg base (A.under (.builtin "type.__call__" ⟨.ref C :: us, kw⟩)) outer s H := ⟨by first | exact e.frames | (simpa [Around.under, Code.envs, Code.isFrame, pushEnvs] using e.frames), e.mod, e.bs, e.bsz, e.funs, e.frf, e.hok, e.bare⟩
theorem Env0.in1 {P : Program} {w : World} {K : PySem.W.Frag} {mg : Str → Option Value} {base : Heap} {A : Around} {outer : List Env} {s : Shared} {H : Hp} (e : Env0 P w K mg base A outer s H) :
    Env0 P w K mg base A.in1 outer s H := ⟨e.frames, e.mod, e.bs, e.bsz, e.funs, e.frf, e.hok, e.bare⟩
section
variable {X : Cx} {pins : List (Addr × Obj)} {σ : St} {H : Hp} {s s' : Shared}
theorem Inv.env0 (I : Inv X pins σ H s) : Env0 X.prog X.w X.K X.mg X.base X.A X.stack s H :=
  ⟨I.ok.frames, I.ok.mod, I.bs, Nat.le_trans I.ok.bsz I.sz, I.stack, I.stkFree, I.hok, I.bare⟩
theorem Inv.after {Q : VK} {u : Value} (I : Inv X pins σ H s) (h : CE X.stack X.prog X.w H s Q u s') : EP X pins σ Q u s' := by
  obtain ⟨v, H', os, bare, un, hok, r, q⟩ := h
  obtain ⟨hh, g, d, t, os'⟩ := s'
  obtain rfl : os' = s.os := os
  exact ⟨v, H', I.call (h' := hh) (g' := g) (d' := d) (t' := t) (ch := []) un hok bare (fun b z => absurd z (by simp)), r, q⟩
end
def tCall (sp : Sp) (dvs : List V) (E : XK) (t : TA) : TE := fun σ H Q => t σ H fun vs H1 => sp (vs ++ dvs) H1 Q E
def tMeth (C : Addr) (m : Str) (sp : Sp) (dvs : List V) (E : XK) (ta : TE) (t : TA) : TE := fun σ H Q => ta σ H fun x H1 => ∃ a dx fs, x = .ref a ∧ H1 a = some (.ins C dx fs) ∧ fs.lookup m = none ∧
  t σ H1 fun vs H2 => sp (x :: (vs ++ dvs)) H2 Q E
def tMake (C : Addr) (sp : Sp) (dvs : List V) (E : XK) (t : TA) : TE := fun σ H Q => t σ H fun vs H1 => ∀ x dx, H1 x = none → H1 dx = none → dx ≠ x →
  sp (.ref x :: (vs ++ dvs)) (upd (upd H1 dx (.own x)) x (.ins C dx [])) (fun v H2 => v = .non ∧ Q (.ref x) H2) E
def Binds (K : PySem.W.Frag) (fd : FuncData) (ps : List Str) (ds : List Value) : Prop :=
  ∀ (s : Shared) (us : List Value), K.In s.heap → (us ++ ds).length = ps.length → BindsTo s fd ⟨us, []⟩ (ps.zip (us ++ ds))
theorem Binds.all {K : PySem.W.Frag} {fd : FuncData} {ps : List Str} (h : ∀ us : List Value, us.length = ps.length → bindArgs fd ⟨us, []⟩ = pure (ps.zip us)) : Binds K fd ps [] := fun s us _ hl => by
  rw [List.append_nil] at hl ⊢
  exact .of_eq (h us hl)
def Passes (CX : CXT) (X : Cx) (E : XK) : Prop := ∀ (pins : List (Addr × Obj)) (σ : St) (H : Hp) (s : Shared) (e : Value) (s' : Shared), Inv X pins σ H s → CX X.stack H s E e s' → X.xe e s'
section
variable {X : Cx} {CX : CXT} {k : Nat} {f C : Addr} {fd : FuncData} {ps : List Str} {sp : Sp} {dvs : List V} {ds : List Value} {E : XK} {x m : Str} {p pos apos : Pos} {e o : Expr} {es : List Expr} {ta : TE} {t : TA}
theorem run_fn {pins : List (Addr × Obj)} {σ : St} {H : Hp} {s : Shared} {Q : VK} {us : List Value} {vs : List V} (F : FnOk X.prog X.w X.K X.mg X.base CX k f fd ps sp) (hr : Room k X.A) (hb : Binds X.K fd ps ds) (hd : Vals dvs ds) (hx : Passes CX X E)
    (I : Inv X pins σ H s) (r : Vals vs us) (h : sp (vs ++ dvs) H Q E) : wpAny (model X.prog X.w) X.A (call (.ref f) us) (EP X pins σ Q) X.xe s := by
  have r2 : Vals (vs ++ dvs) (us ++ ds) := r.append hd
  have hl : (us ++ ds).length = ps.length := by rw [← r2.length]; exact F.len _ _ _ _ h
  refine wpAny_call (codeAny_mono (F.run X.A X.stack s H ⟨us, []⟩ (us ++ ds) (vs ++ dvs) Q E hr I.env0 (hb s us I.kIn hl) r2 h) fun r s' hq => ?_)
  cases r with
  | error e => exact hx pins σ H s e s' I hq
  | ok fl =>
    cases fl with
    | ret u => exact I.after hq
    | next => exact False.elim hq
    | brk => exact False.elim hq
    | cont => exact False.elim hq
theorem pe_call (F : FnOk X.prog X.w X.K X.mg X.base CX k f fd ps sp) (hr : Room k X.A) (hg : Gl X x) (hm : X.mg x = some (.ref f)) (hk : PySem.W.keepIn X.K (.ref f) = true) (hb : Binds X.K fd ps ds) (hd : Vals dvs ds) (hx : Passes CX X E)
    (ha : PA X (e :: es) t) (hdb : (x == ("__debug__" : Str)) = false := by decide) (he : starEach (e :: es) X.env = (false, eval e X.env) :: starEach es X.env := by rfl) (hpl : (backTo pos (starEach es X.env)).any (·.1) = false := by rfl) :
    PE X (.Call (.Name x p) (e :: es) [] pos) (tCall sp dvs E t) := by
  intro pins s σ H Q I h
  refine wpAny_Call_Name_kw (ld_glob I hg hm ?_ hdb)
  refine PySem.W.callWith_K (h₀ := X.base) I.ok.mod.kin hk (thn (ha pos pins s σ H _ I h) fun us s1 ⟨vs, H1, I1, r, q⟩ => ⟨I1.kIn, ?_⟩) he hpl
  exact run_fn F hr hb hd hx I1 r q
structure Mk (K : PySem.W.Frag) (C f : Addr) : Prop where
  makes : PySem.W.makesIn K C = true
  init : PySem.W.findIn K (.ref C) "__init__" = some (some (.ref f))
  fn : PySem.W.isFn K (.ref f) = true
  kp : PySem.W.keepIn K (.ref C) = true
end
def PK (X : Cx) (kws : List Keyword) (t : TA) : Prop :=
  ∀ (pos : Pos) (pins : List (Addr × Obj)) (s : Shared) (σ : St) (H : Hp) (Q : List V → Hp → Prop), Inv X pins σ H s → t σ H Q → wpAny (model X.prog X.w) X.A (evalAll ((backToKw pos (keywordEach kws X.env)).map (·.2))) (AP X pins σ Q) X.xe s
section
variable {X : Cx} {CX : CXT} {k : Nat} {f C : Addr} {fd : FuncData} {ps ks : List Str} {sp : Sp} {E : XK} {x m : Str} {p pos apos kpos : Pos} {e o : Expr} {es : List Expr} {kws : List Keyword} {te ta : TE} {t tk : TA} {nm : Option Str}
theorem pk_nil : PK X [] tNil := fun _ _ _ _ H Q I h => wpAny_evalAll_nil ⟨[], H, I, .nil, h⟩
theorem pk_cons (ha : PE X e te) (hr : PK X kws t) : PK X (⟨nm, e, kpos⟩ :: kws) (tCons te t) := by
  intro pos pins s σ H Q I h
  show wpAny _ _ (evalAll ((do let v ← eval e X.env; standAt pos; pure v) :: (backToKw pos (keywordEach kws X.env)).map (·.2))) _ _ s
  refine wpAny_evalAll_cons (wpAny_bind (thn (ha pins s σ H _ I h) fun u s1 ⟨x, H1, I1, r1, q1⟩ => wpAny_bind (wpAny_standAt (wpAny_pure ?_))))
  exact thn (hr pos pins s1 σ H1 _ I1 q1) fun us s2 ⟨xs, H2, I2, r2, q2⟩ => ⟨x :: xs, H2, I2, .cons r1 r2, q2⟩
structure KBinds (K : PySem.W.Frag) (fd : FuncData) (ps ks : List Str) (g : List Value → List Value → List Value) (gV : List V → List V → List V) : Prop where
  to : ∀ (s : Shared) (us ws : List Value), K.In s.heap → (g us ws).length = ps.length → BindsTo s fd ⟨us, ks.zip ws⟩ (ps.zip (g us ws))
  rel : ∀ {vs : List V} {us : List Value} {zs : List V} {ws : List Value}, Vals vs us → Vals zs ws → Vals (gV vs zs) (g us ws)
def tCallK (sp : Sp) (gV : List V → List V → List V) (E : XK) (t tk : TA) : TE := fun σ H Q => t σ H fun vs H1 => tk σ H1 fun zs H2 => sp (gV vs zs) H2 Q E
variable {g : List Value → List Value → List Value} {gV : List V → List V → List V}
end
structure FnScope (N P : List Str) (sc : Scope) : Prop where
  kind : sc.kind = .function
  co : sc.isCoroutine = false
  gen : sc.isGenerator = false
  nd : N.Nodup
  pre : N.take P.length = P
  par : ∀ x ∈ P, sc.names.lookup x = some .local ∨ sc.names.lookup x = some .cell
  nofree : ∀ y ∈ sc.names, y.2 ≠ .free
theorem bindL_out {kindOf : Str → Option NameKind} {x : Str} : ∀ {binds : List (Str × Value)} {m : Str → Option Value}, (∀ v, (x, v) ∉ binds) → bindL kindOf binds m x = m x
  | [], _, _ => rfl
  | (n, v) :: r, m, h => by
    unfold bindL
    rw [bindL_out fun w hw => h w (List.mem_cons_of_mem _ hw)]
    split
    · have : x ≠ n := by rintro rfl; exact h v List.mem_cons_self
      simp [this]
    · rfl
theorem bindC_out {kindOf : Str → Option NameKind} {x : Str} : ∀ {binds : List (Str × Value)} {m : Str → Option Value}, (∀ v, (x, v) ∉ binds) → bindC kindOf binds m x = m x
  | [], _, _ => rfl
  | (n, v) :: r, m, h => by
    unfold bindC
    rw [bindC_out fun w hw => h w (List.mem_cons_of_mem _ hw)]
    split
    · rfl
    · have : x ≠ n := by rintro rfl; exact h v List.mem_cons_self
      simp [this]
theorem bindL_get {kindOf : Str → Option NameKind} {x : Str} {v : Value} : ∀ {P : List Str} {vs : List Value} {i : Nat} {m : Str → Option Value}, P.Nodup → P[i]? = some x → vs[i]? = some v → kindOf x = some .local →
    bindL kindOf (P.zip vs) m x = some v
  | [], _, _, _, _, h, _, _ => by simp at h
  | _ :: _, [], _, _, _, _, h, _ => by simp at h
  | p :: P, w :: vs, 0, m, nd, h1, h2, hk => by
    simp at h1 h2; subst h1; subst h2
    show bindL kindOf ((p, w) :: P.zip vs) m p = _
    unfold bindL
    rw [bindL_out fun v hv => (List.nodup_cons.mp nd).1 (List.of_mem_zip hv).1, if_pos hk]
    simp
  | p :: P, w :: vs, i + 1, m, nd, h1, h2, hk => by
    show bindL kindOf ((p, w) :: P.zip vs) m x = _
    unfold bindL
    exact bindL_get (i := i) (List.nodup_cons.mp nd).2 (by simpa using h1) (by simpa using h2) hk
theorem bindC_get {kindOf : Str → Option NameKind} {x : Str} {v : Value} : ∀ {P : List Str} {vs : List Value} {i : Nat} {m : Str → Option Value}, P.Nodup → P[i]? = some x → vs[i]? = some v → kindOf x ≠ some .local →
    bindC kindOf (P.zip vs) m x = some v
  | [], _, _, _, _, h, _, _ => by simp at h
  | _ :: _, [], _, _, _, _, h, _ => by simp at h
  | p :: P, w :: vs, 0, m, nd, h1, h2, hk => by
    simp at h1 h2; subst h1; subst h2
    show bindC kindOf ((p, w) :: P.zip vs) m p = _
    unfold bindC
    rw [bindC_out fun v hv => (List.nodup_cons.mp nd).1 (List.of_mem_zip hv).1, if_neg hk]
    simp
  | p :: P, w :: vs, i + 1, m, nd, h1, h2, hk => by
    show bindC kindOf ((p, w) :: P.zip vs) m x = _
    unfold bindC
    exact bindC_get (i := i) (List.nodup_cons.mp nd).2 (by simpa using h1) (by simpa using h2) hk
def start (N : List Str) (vs : List V) : St := vs.map some ++ List.replicate (N.length - vs.length) none
def cxOf (CX : CXT) (P : Program) (w : World) (K : PySem.W.Frag) (mg : Str → Option Value) (base : Heap) (N : List Str) (qual : Str) (scope : Scope) (f : Addr) (cd : Value) (A : Around) (outer : List Env) (s : Shared) (H : Hp) (E : XK) : Cx where
  prog := P
  w := w
  K := K
  mg := mg
  base := base
  A := A.deeper (envOfC qual scope s.heap.objs.size f cd)
  N := N
  s₀ := s
  H₀ := H
  env := envOfC qual scope s.heap.objs.size f cd
  outer := outer
  stack := envOfC qual scope s.heap.objs.size f cd :: outer
  ex := []
  calm := true
  fn := fun _ => true
  pn := []
  xe := fun e s' => wpAny (model P w) (A.deeper (envOfC qual scope s.heap.objs.size f cd)) (leaving (envOfC qual scope s.heap.objs.size f cd) e) (fun _ s'' => CX outer H s E e s'') (fun e' s'' => CX outer H s E e' s'') s'
theorem cell_has {sc : Scope} {n : Nat} {x : Str} (h : sc.names.lookup x = some .cell) : ∃ c, (cellsFrom n sc.names []).lookup x = some c := by
  have q := PySem.W.cellsFrom_some sc.names n [] (.inl h)
  exact Option.isSome_iff_exists.mp q
theorem inv_start {CX : CXT} {P : Program} {w : World} {K : PySem.W.Frag} {mg : Str → Option Value} {base : Heap} {N ps : List Str} {qual : Str} {scope : Scope} {f : Addr} {cd : Value} {A : Around} {outer : List Env} {s s1 : Shared} {H : Hp} {E : XK} {us : List Value} {vs : List V}
    (S : FnScope N ps scope) (hd : A.handled = none) (e0 : Env0 P w K mg base A outer s H) (hl : vs.length = ps.length) (r : Vals vs us)
    (x : InCallC s s.heap.objs.size (bindL (envOfC qual scope s.heap.objs.size f cd).kindOf (ps.zip us) fun _ => none) (cellsFrom (s.heap.objs.size + 1) scope.names []) (bindC (envOfC qual scope s.heap.objs.size f cd).kindOf (ps.zip us) fun _ => none) s1) :
    Inv (cxOf CX P w K mg base N qual scope f cd A outer s H E) [] (start N vs) H s1 := by
  have hpl : ps.length ≤ N.length := by have := congrArg List.length S.pre; rw [List.length_take] at this; omega
  obtain ⟨h1, tk, rfl, hk⟩ := x.done
  have noA : ∀ b : Addr, b ∉ (cxOf CX P w K mg base N qual scope f cd A outer s H E).ex := fun b z => absurd (show b ∈ ([] : List Addr) from z) (by simp)
  refine ⟨⟨e0.mod, S.kind, rfl, rfl, Nat.le_refl _, fun y z c h1 h2 => ?_, fun y hy => ?_, fun y c _ h => ?_, fun _ => hd, Around.frames_deeper e0.frames, .inr ⟨rfl, rfl⟩, fun b z => absurd z (noA b), e0.bs, e0.bsz, fun b _ _ => noA b, fun b z => absurd z (noA b), e0.funs, e0.frf⟩,
    rfl, e0.bare, Un.kept hk, ⟨_, x.toInCall.ns, fun i y v h1 h2 h3 => ?_⟩, fun y c h => ⟨_, x.cell y c h⟩, e0.hok.fresh (Nat.le_refl _), fun y c h => ?_, fun p hp => absurd (show p ∈ ([] : List (Addr × Obj)) from hp) (by simp), e0.hok.kept hk, ?_⟩
  · exact name_of_addr x.apart (PySem.mem_of_lookup h1) (PySem.mem_of_lookup h2)
  · have hy : scope.names.lookup y = some .cell ∨ scope.names.lookup y = some .free := hy
    rcases hy with hy | hy
    · exact cell_has hy
    · exact absurd rfl (S.nofree _ (PySem.mem_of_lookup hy))
  · exact Nat.le_of_lt (x.above y c (PySem.mem_of_lookup h))
  · have hi : i < vs.length := by
      unfold start at h2
      by_cases hi : i < vs.length
      · exact hi
      · rw [List.getElem?_append_right (by simpa using hi)] at h2
        rw [List.getElem?_replicate] at h2
        split at h2 <;> cases h2
    have ha : vs[i]? = some v := by
      unfold start at h2
      rw [List.getElem?_append_left (by simpa using hi), List.getElem?_map] at h2
      cases e : vs[i]? with
      | none => rw [e] at h2; cases h2
      | some a => rw [e] at h2; cases h2; rfl
    obtain ⟨u, hu, rv⟩ := r.get ha
    have hp : ps[i]? = some y := by
      rw [← S.pre, List.getElem?_take_of_lt (by omega)]; exact h1
    have ndP : ps.Nodup := by rw [← S.pre]; exact S.nd.sublist (List.take_sublist _ _)
    refine ⟨u, rv, ?_⟩
    rcases S.par y (List.mem_of_getElem? hp) with k | k
    · exact .inl ⟨k, bindL_get ndP hp hu k⟩
    · obtain ⟨c, e⟩ := cell_has (n := s.heap.objs.size + 1) k
      refine .inr ⟨.inl k, c, e, ?_⟩
      have q := x.cell y c e
      rw [bindC_get ndP hp hu (by show scope.names.lookup y ≠ _; rw [k]; decide)] at q
      exact q
  · exact e0.hok.fresh (Nat.le_of_lt (x.above y c (PySem.mem_of_lookup h)))
  · unfold start
    show _ = N.length
    rw [List.length_append, List.length_map, List.length_replicate]
    omega
theorem fn_of {CX : CXT} {P : Program} {w : World} {K : PySem.W.Frag} {mg : Str → Option Value} {base : Heap} {k : Nat} {f : Addr} {name qual : Str} {params : Arguments} {body : List Stmt} {scope : Scope} {dV kV doc pm cdv ct oc : Value} {an od : Option Addr}
    {osl : Array (Option Value)} {N ps : List Str} {sp : Sp} (lk : K.lookup f = some ⟨oc, od, .func (PySem.W.fnOf name qual params body scope dV kV doc pm an cdv ct), osl⟩) (hcd : PySem.W.codeIn K cdv qual = true) (S : FnScope N ps scope)
    (len : ∀ vs H Q E, sp vs H Q E → vs.length = ps.length)
    (hbody : ∀ (A : Around) (outer : List Env) (s : Shared) (H : Hp) (vs : List V) (Q : VK) (E : XK), Room k (A.deeper (envOfC qual scope s.heap.objs.size f cdv)) → sp vs H Q E →
      ∃ t, PSs (cxOf CX P w K mg base N qual scope f cdv A outer s H E) body t ∧ t { nx := fun _ H' => Q .non H', rt := Q } (start N vs) H) :
    FnOk P w K mg base CX (k + 1) f (PySem.W.fnOf name qual params body scope dV kV doc pm an cdv ct) ps sp := by
  refine ⟨len, fun A outer s H args us vs Q E hr e0 hb r hsp => ?_⟩
  have hl := len _ _ _ _ hsp
  have KX : K.In s.heap := e0.mod.kin.keeps fun b o e => (e0.bs b o e).1
  have lim : s.heap.NoLimit := e0.mod.nolimit.keeps fun b o e => (e0.bs b o e).1
  have hkind : ∀ y ∈ ps.zip us, scope.names.lookup y.1 = some .local ∨ (scope.names.lookup y.1 = some .cell ∧ ((cellsFrom (s.heap.objs.size + 1) scope.names []).lookup y.1).isSome = true) := fun ⟨n, v⟩ hy => by
    rcases S.par n (List.of_mem_zip hy).1 with q | q
    · exact .inl q
    · exact .inr ⟨q, PySem.W.cellsFrom_some _ _ _ (.inl q)⟩
  refine codeAny_call_function hr.depth (KX _ _ lk) rfl S.co S.gen rfl (PySem.W.codeRec_of KX hcd) (hb _ _ _ _ ?_)
  refine wpAny_newFunctionEnv_cells S.kind hkind fun env he s1 x => ?_
  subst he
  refine ⟨lim.keeps x.toInCall.keep, codeAny_func ?_⟩
  obtain ⟨t, ht, hq⟩ := hbody A outer s H vs Q E (hr.deeper _) hsp
  have I : Inv (cxOf CX P w K mg base N qual scope f cdv A outer s H E) [] (start N vs) H s1 := inv_start S hr.hd e0 hl r x
  refine wpAny_mono (ht [] s1 (start N vs) H _ I hq) (fun fl s' hs => ?_) fun e s' hs => hs
  have fin : ∀ {σ' : St} {H' : Hp} {v : V} {u : Value}, Inv (cxOf CX P w K mg base N qual scope f cdv A outer s H E) [] σ' H' s' → RelV v u → Q v H' → CE outer P w H s Q u s' :=
    fun {σ' H' v u} J rv q => ⟨v, H', J.os, J.bare, J.base, J.hok, rv, q⟩
  cases fl with
  | ret u =>
    obtain ⟨v, σ', H', J, rv, q⟩ := hs
    exact fin J rv q
  | next =>
    obtain ⟨σ', H', J, q⟩ := hs
    exact fin (v := V.non) (u := Value.none) J rfl q
  | brk =>
    obtain ⟨_, _, _, q⟩ := hs
    exact False.elim q
  | cont =>
    obtain ⟨_, _, _, q⟩ := hs
    exact False.elim q
end L2
namespace L2
open PySem PySem.Spec PyProof.Rows
section
variable {X : Cx} {x : Str} {p pos : Pos} {e : Expr} {es : List Expr} {t : TA} {id T : String} {r : List V → Hp → VK → Prop}
def tCB (r : List V → Hp → VK → Prop) (t : TA) : TE := fun σ H Q => t σ H fun vs H1 => r vs H1 Q
theorem pe_callB (hc : CallR X (.builtin id) r) (hg : Gl X x) (hm : X.mg x = none) (hv : bootBuiltins x = some (.builtin id)) (ha : PA X (e :: es) t) (hn : x ≠ "__name__" := by decide) (hdb : (x == ("__debug__" : Str)) = false := by decide)
    (he : starEach (e :: es) X.env = (false, eval e X.env) :: starEach es X.env := by rfl) (hpl : (backTo pos (starEach es X.env)).any (·.1) = false := by rfl) : PE X (.Call (.Name x p) (e :: es) [] pos) (tCB r t) := by
  intro pins s σ H Q I h
  refine wpAny_Call_Name_kw (ld_blt I hg hm hv ?_ hn hdb)
  exact PyProof.Rows.callWith_builtin1 (thn (ha pos pins s σ H _ I h) fun us s1 ⟨vs, H1, I1, r1, q1⟩ => hc pins s1 σ H1 vs us Q I1 r1 q1) he hpl
theorem pe_callTy (hc : CallR X (.type T) r) (hg : Gl X x) (hm : X.mg x = none) (hv : bootBuiltins x = some (.type T)) (ha : PA X (e :: es) t) (hn : x ≠ "__name__" := by decide) (hdb : (x == ("__debug__" : Str)) = false := by decide)
    (he : starEach (e :: es) X.env = (false, eval e X.env) :: starEach es X.env := by rfl) (hpl : (backTo pos (starEach es X.env)).any (·.1) = false := by rfl) : PE X (.Call (.Name x p) (e :: es) [] pos) (tCB r t) := by
  intro pins s σ H Q I h
  refine wpAny_Call_Name_kw (ld_blt I hg hm hv ?_ hn hdb)
  exact PyProof.Rows.callWith_type1 (thn (ha pos pins s σ H _ I h) fun us s1 ⟨vs, H1, I1, r1, q1⟩ => hc pins s1 σ H1 vs us Q I1 r1 q1) he hpl
end
end L2
namespace HT
open PySem PyProof.Rows
def lexLt : List Int → List Int → Bool
  | [], [] => false
  | [], _ :: _ => true
  | _ :: _, [] => false
  | x :: xs, y :: ys => if x = y then lexLt xs ys else decide (x < y)
section
open PySem.SeqAt
open PySem.AutoSeq1 (wpAny_loadPart')
open PySem.MeetsSeq PySem.MeetsSeq2 PySem.MeetsSeq3
end
section
variable {prog : Program} {w : World} {A : Around} {E : Value → Shared → Prop} {s : Shared}
theorem cat_tup {t b : Addr} {vs ws : List Value} {Q : Value → Shared → Prop} (ht : IsTup s.heap t vs.toArray) (hb : IsTup s.heap b ws.toArray) (hv : vs ≠ [])
    (h1 : ws = [] → Q (.ref t) s) (h2 : ws ≠ [] → Q (.ref s.heap.objs.size) { s with heap := s.heap.push { cls := .type "tuple", data := .seq (vs ++ ws).toArray } })
    (hsz : vs.length + ws.length ≤ sizeLine) : wpAny (model prog w) A (binaryOp .Add (.ref t) (.ref b)) Q E s := by
  obtain ⟨⟨cls, dd, data, sl⟩, ho, hc, n, hd⟩ := id ht
  obtain ⟨⟨cls2, dd2, data2, sl2⟩, ho2, hc2, n2, hd2⟩ := id hb
  simp only at hc hd hc2 hd2
  subst hc hd hc2 hd2
  have e : vs.toArray ++ ws.toArray = (vs ++ ws).toArray := by simp
  by_cases hw : ws = []
  · exact concat_meets ⟨_, ho, rfl⟩ ⟨_, ho2, rfl⟩ noFill_tuple_add seq_tuple_add PySem.F.slot_tuple_add PySem.F.entry_tuple_add (PySem.F.args_tuple_add_2 _ _)
      (tuple_addW1 t b vs.toArray ws.toArray n n2 dd dd2 sl sl2 (by simpa using hv) (by simp [hw])) ⟨ho, ho2, h1 hw⟩
  · refine concat_meets ⟨_, ho, rfl⟩ ⟨_, ho2, rfl⟩ noFill_tuple_add seq_tuple_add PySem.F.slot_tuple_add PySem.F.entry_tuple_add (PySem.F.args_tuple_add_2 _ _)
      (tuple_addW2 t b vs.toArray ws.toArray n n2 dd dd2 sl sl2 (by simpa using hv) (by simpa using hw) (by rw [List.size_toArray, List.size_toArray]; exact hsz)) ⟨ho, ho2, ?_⟩
    rw [e]
    exact h2 hw
def sIx (n d : Nat) : Option Int → Nat
  | none => d
  | some v => if v < 0 then (v + (n : Int)).toNat else min v.toNat n
theorem sIx_none (n d : Nat) : sIx n d none = d := rfl
theorem sIx_nat (n d k : Nat) : sIx n d (some (k : Int)) = min k n := by
  show (if (k : Int) < 0 then ((k : Int) + (n : Int)).toNat else min (k : Int).toNat n) = min k n
  rw [if_neg (by omega), Int.toNat_natCast]
theorem sIx_le (n d : Nat) (hd : d ≤ n) (o : Option Int) : sIx n d o ≤ n := by
  cases o with
  | none => exact hd
  | some v =>
    show (if v < 0 then (v + (n : Int)).toNat else min v.toNat n) ≤ n
    by_cases hv : v < 0
    · rw [if_pos hv]; omega
    · rw [if_neg hv]; exact Nat.min_le_right _ _
theorem clip_eq (v : Int) (n d : Nat) : (if v < 0 then max (v + (n : Int)) 0 else min v (n : Int)) = ((sIx n d (some v) : Nat) : Int) := by
  show (if v < 0 then max (v + (n : Int)) 0 else min v (n : Int)) = (((if v < 0 then (v + (n : Int)).toNat else min v.toNat n) : Nat) : Int)
  by_cases hv : v < 0
  · simp only [if_pos hv]; omega
  · simp only [if_neg hv]; omega
theorem adjust_gen (lo hi : Option Int) (n : Nat) : Builtin.Slice.sliceAdjust lo hi 1 (n : Int) = (((sIx n 0 lo : Nat) : Int), ((sIx n n hi : Nat) : Int)) := by
  have h1 : ¬ ((1 : Int) < 0) := by omega
  unfold Builtin.Slice.sliceAdjust
  simp only [h1, if_false]
  refine Prod.ext ?_ ?_
  · cases lo with
    | none => rfl
    | some v => exact clip_eq v n 0
  · cases hi with
    | none => rfl
    | some v => exact clip_eq v n n
theorem places_gen (i j : Nat) : Builtin.Slice.slicePlaces (i : Int) (j : Int) 1 = j - i := by
  unfold Builtin.Slice.slicePlaces
  have h1 : (1 : Int) > 0 := by omega
  simp only [h1, if_true, Int.ediv_one]
  split <;> omega
theorem slicePart_ {v : Value} {o : Option Int} {Q : Option Int → Shared → Prop} (p : IsPart v o) (h : Q o s) : wpAny (model prog w) A (Builtin.Slice.slicePartIndex v) Q E s := by
  cases p with
  | none => exact slicePart_none h
  | int i t => exact slicePart_int h
theorem sliceApplied_gen {sl : Addr} {vl vu : Value} {lo hi : Option Int} {n : Nat} {Q : Int × Int × Nat → Shared → Prop} (hs : s.heap.IsSliceOf sl vl vu .none) (pl : IsPart vl lo) (pu : IsPart vu hi)
    (h : Q (((sIx n 0 lo : Nat) : Int), 1, sIx n n hi - sIx n 0 lo) s) : wpAny (model prog w) A (Builtin.Slice.sliceApplied (.ref sl) (pure (n : Int))) Q E s := by
  obtain ⟨os, hos, hcs, hds⟩ := id hs
  unfold Builtin.Slice.sliceApplied Builtin.Slice.sliceFields
  refine wpAny_bind (wpAny_bind (wpAny_field hos hds (x := vl) rfl (wpAny_bind (wpAny_field hos hds (x := vu) rfl (wpAny_bind (wpAny_field hos hds (x := .none) rfl (wpAny_pure ?_)))))))
  refine wpAny_bind (slicePart_none ?_)
  show wpAny _ _ (if ((1 : Int) == 0) = true then _ else _) _ _ s
  rw [if_neg (by decide)]
  refine wpAny_bind (slicePart_ pl (wpAny_bind (slicePart_ pu (wpAny_bind (wpAny_pure ?_)))))
  show wpAny _ _ (match Builtin.Slice.sliceAdjust lo hi 1 (n : Int) with | (lo, hi) => pure (lo, (1 : Int), Builtin.Slice.slicePlaces lo hi 1)) _ _ s
  rw [adjust_gen lo hi n]
  show wpAny _ _ (pure (((sIx n 0 lo : Nat) : Int), (1 : Int), Builtin.Slice.slicePlaces ((sIx n 0 lo : Nat) : Int) ((sIx n n hi : Nat) : Int) 1)) _ _ s
  rw [places_gen]
  exact wpAny_pure h
theorem pick_gen (xs : Array Value) (i k : Nat) : ((List.range k).filterMap fun (m : Nat) => xs[((i : Int) + (m : Int) * 1).toNat]?).toArray = ((xs.toList.drop i).take k).toArray := by
  have e : (fun (m : Nat) => xs[((i : Int) + (m : Int) * 1).toNat]?) = fun m => xs[i + m]? := by
    funext m
    have : ((i : Int) + (m : Int) * 1).toNat = i + m := by omega
    rw [this]
  rw [e]
  have := pick_run xs i k
  rw [List.filterMap_map] at this
  have e2 : ((fun x => xs[x]?) ∘ fun x => i + x) = fun m => xs[i + m]? := rfl
  rw [e2] at this
  rw [this]
theorem getItem_tuple_cut {t sl : Addr} {items : Array Value} {vl vu : Value} {lo hi : Option Int} {Q : Value → Shared → Prop} (ht : IsTup s.heap t items) (hs : s.heap.IsSliceOf sl vl vu .none) (pl : IsPart vl lo) (pu : IsPart vu hi)
    (hw : ¬ (sIx items.size 0 lo = 0 ∧ sIx items.size items.size hi = items.size))
    (h : Q (.ref s.heap.objs.size) { s with heap := s.heap.push { cls := .type "tuple", data := .seq ((items.toList.drop (sIx items.size 0 lo)).take (sIx items.size items.size hi - sIx items.size 0 lo)).toArray } })
    (hsz : items.size ≤ sizeLine) : wpAny (model prog w) A (getItem (.ref t) (.ref sl)) Q E s := by
  have htake : sizeOk (.seq ((items.toList.drop (sIx items.size 0 lo)).take (sIx items.size items.size hi - sIx items.size 0 lo)).toArray) := by
    show ((items.toList.drop (sIx items.size 0 lo)).take (sIx items.size items.size hi - sIx items.size 0 lo)).toArray.size ≤ sizeLine
    rw [List.size_toArray, List.length_take, List.length_drop, Array.length_toList]
    omega
  have hj : sIx items.size items.size hi ≤ items.size := sIx_le _ _ (Nat.le_refl _) hi
  obtain ⟨os, hos, hcs, hds⟩ := id hs
  have hTs : s.TypeIs (.ref sl) "slice" := ⟨os, hos, hcs⟩
  unfold getItem
  try with_reducible refine wpAny_holding ?_
  first | refine wpAny_bind (wpAny_pure ?_) | skip
  refine wpAny_bind (wpAny_sequenceKey ht.typeIs (by decide) ?_)
  refine wpAny_bind (wpAny_callSpecial?_slot (name := Str.ofString "__getitem__") ht.typeIs PyProof.Rows.slot_tuple_getitem
    (wpAny_call_entry PyProof.Rows.slot_tuple_getitem ht.typeIs entry_tuple_getitem ?_ (args_tuple_getitem _ _)))
  show wpAny _ _ (Builtin.Tuple.tupleItemsOf (.ref t) >>= _) _ _ s
  refine wpAny_bind (tupleItemsOf_ ht ?_)
  refine wpAny_bind (wpAny_typeOf hTs ?_)
  rw [if_pos (by decide)]
  refine wpAny_bind (sliceApplied_gen hs pl pu ?_)
  have hno : ¬ ((((sIx items.size 0 lo : Nat) : Int) == 0 && (1 : Int) == 1 && (sIx items.size items.size hi - sIx items.size 0 lo) == items.size) = true) := by
    intro q
    rw [Bool.and_eq_true, Bool.and_eq_true] at q
    have q1 : ((sIx items.size 0 lo : Nat) : Int) = 0 := eq_of_beq q.1.1
    have q2 : sIx items.size items.size hi - sIx items.size 0 lo = items.size := eq_of_beq q.2
    exact hw ⟨by omega, by omega⟩
  show wpAny _ _ (if (((sIx items.size 0 lo : Nat) : Int) == 0 && (1 : Int) == 1 && (sIx items.size items.size hi - sIx items.size 0 lo) == items.size) = true then _ else _) _ _ s
  rw [if_neg hno, pick_gen]
  first
    | exact wpAny_bind (m := Builtin.Tuple.tupleExact _) (wpAny_newObj_type (wpAny_pure ⟨_, rfl, wpAny_pure h⟩) htake)
    | exact wpAny_bind (m := Builtin.Tuple.tupleExact _) (wpAny_newObj_type (wpAny_bind (wpAny_pure (wpAny_pure ⟨_, rfl, wpAny_pure h⟩))) htake)
    | exact wpAny_bind (wpAny_bind (m := Builtin.Tuple.tupleExact _) (wpAny_newObj_type (wpAny_pure (wpAny_pure ⟨_, rfl, wpAny_pure h⟩)) htake))
    | exact wpAny_bind (wpAny_bind (m := Builtin.Tuple.tupleExact _) (wpAny_newObj_type (wpAny_pure ⟨_, rfl, wpAny_pure h⟩) htake))
end
end HT
namespace L2
open PySem PySem.Spec PyProof.Rows
abbrev TO := St → Hp → (Option Int → Hp → Prop) → Prop
def PO (X : Cx) (e : Option Expr) (t : TO) : Prop :=
  ∀ (pins : List (Addr × Obj)) (s : Shared) (σ : St) (H : Hp) (Q : Option Int → Hp → Prop), Inv X pins σ H s → t σ H Q →
    wpAny (model X.prog X.w) X.A (evalPart e X.env) (fun u s' => ∃ o H', Inv X pins σ H' s' ∧ IsPart u o ∧ Q o H') X.xe s
def tNoPart : TO := fun _ H Q => Q none H
def tPart (t : TE) : TO := fun σ H Q => t σ H fun x H1 => ∃ i, x = .int i ∧ Q (some i) H1
section
variable {X : Cx} {e : Expr} {te : TE} {lo hi : Option Expr} {tl th : TO} {pos p2 : Pos}
theorem po_none : PO X none tNoPart := by
  intro pins s σ H Q I h
  rw [evalPart_none]
  exact wpAny_pure ⟨none, H, I, .none, h⟩
theorem po_some (h : PE X e te) : PO X (some e) (tPart te) := by
  intro pins s σ H Q I hw
  rw [evalPart_some]
  refine thn (h pins s σ H _ I hw) fun u s1 ⟨x, H1, I1, r1, q1⟩ => ?_
  obtain ⟨i, rfl, q⟩ := q1
  obtain ⟨t, rfl⟩ := r1
  exact ⟨some i, H1, I1, .int i t, q⟩
def SlR (X : Cx) (r : V → Option Int → Option Int → Hp → VK → Prop) : Prop :=
  ∀ (pins : List (Addr × Obj)) (s : Shared) (σ : St) (H : Hp) (x : V) (v vl vu : Value) (lo hi : Option Int) (sl : Addr) (Q : VK), Inv X pins σ H s → RelV x v → s.heap.IsSliceOf sl vl vu .none → IsPart vl lo → IsPart vu hi → r x lo hi H Q →
    ∃ T id, typeLookup (.type T) "__getitem__" = pure (some (.builtin id)) ∧ s.TypeIs v T ∧ wpAny (model X.prog X.w) X.A (getItem v (.ref sl)) (EP X pins σ Q) X.xe s
theorem SlR.or {r r' : V → Option Int → Option Int → Hp → VK → Prop} (h : SlR X r) (h' : SlR X r') : SlR X (fun x lo hi H Q => r x lo hi H Q ∨ r' x lo hi H Q) := by
  intro pins s σ H x v vl vu lo hi sl Q I rx hs pl pu q
  rcases q with q | q
  · exact h pins s σ H x v vl vu lo hi sl Q I rx hs pl pu q
  · exact h' pins s σ H x v vl vu lo hi sl Q I rx hs pl pu q
def tSl (r : V → Option Int → Option Int → Hp → VK → Prop) (te : TE) (tl th : TO) : TE := fun σ H Q => te σ H fun x H1 => tl σ H1 fun l H2 => th σ H2 fun u H3 => r x l u H3 Q
theorem pe_slice {r : V → Option Int → Option Int → Hp → VK → Prop} (hr : SlR X r) (he : PE X e te) (hl : PO X lo tl) (hu : PO X hi th) : PE X (.Subscript e (.Slice lo hi none p2) pos) (tSl r te tl th) := by
  intro pins s σ H Q I h
  refine Subscript_ (thn (he pins s σ H _ I h) fun v s1 ⟨x, H1, I1, r1, q1⟩ => ?_)
  refine wpAny_Slice (thn (hl pins s1 σ H1 _ I1 q1) fun vl s2 ⟨l, H2, I2, pl, q2⟩ => thn (hu pins s2 σ H2 _ I2 q2) fun vu s3 ⟨u, H3, I3, pu, q3⟩ => ?_)
  rw [evalPart_none]
  refine wpAny_pure ?_
  have I4 : Inv X pins σ H3 { s3 with heap := s3.heap.push { cls := .type "slice", data := .fields #[vl, vu, .none] } } := I3.kept (t' := s3.toks) fun b ob q => Heap.get?_push_of_some _ q
  obtain ⟨T, id, hT, ht, hg⟩ := hr pins { s3 with heap := s3.heap.push { cls := .type "slice", data := .fields #[vl, vu, .none] } } σ H3 x v vl vu l u s3.heap.objs.size Q I4 r1 (Heap.IsSliceOf.new ..) pl pu q3
  show wpAny (model X.prog X.w) X.A (subscriptTail e (.Slice lo hi none p2) v (.ref s3.heap.objs.size)) (EP X pins σ Q) X.xe { s3 with heap := s3.heap.push { cls := .type "slice", data := .fields #[vl, vu, .none] } }
  exact tail_any (ops := [.ref s3.heap.objs.size, v]) ht hT hg (by with_unfolding_all rfl)
def cutV (xs : List V) (lo hi : Option Int) : List V := (xs.drop (HT.sIx xs.length 0 lo)).take (HT.sIx xs.length xs.length hi - HT.sIx xs.length 0 lo)
theorem cutV_length (xs : List V) (lo hi : Option Int) : (cutV xs lo hi).length ≤ xs.length := by
  unfold cutV
  rw [List.length_take, List.length_drop]
  omega
def rSlT (K : PySem.W.Frag) : V → Option Int → Option Int → Hp → VK → Prop := fun x lo hi H Q => ∃ a xs, x = .ref a ∧ SqT K H a xs ∧
  ¬ (HT.sIx xs.length 0 lo = 0 ∧ HT.sIx xs.length xs.length hi = xs.length) ∧ ∀ p, H p = none → Q (.ref p) (upd H p (.tup (cutV xs lo hi)))
theorem sl_tup : SlR X (rSlT X.K) := by
  intro pins s σ H x v vl vu lo hi sl Q I rx hs pl pu h
  obtain ⟨a, xs, rfl, hx, hw, q⟩ := h
  cases rx
  obtain ⟨its, r, ht, hz⟩ := I.tuple hx
  have hlen : its.toArray.size = xs.length := by rw [List.size_toArray]; exact r.length.symm
  refine ⟨"tuple", _, PyProof.Rows.slot_tuple_getitem.lookup, ht.typeIs, ?_⟩
  refine HT.getItem_tuple_cut ht hs pl pu (by rw [hlen]; exact hw) ?_ (by rw [hlen]; exact hz)
  rw [hlen]
  refine ⟨.ref s.heap.objs.size, _, I.laid (t' := s.toks) (o := .tup (cutV xs lo hi)) (fun b ob q => Heap.get?_push_of_some _ q) (Nat.le_refl _) ?_, rfl, q _ (I.hok.fresh (Nat.le_refl _))⟩
  exact ⟨Nat.le_trans (cutV_length xs lo hi) hz, _, (r.drop (HT.sIx xs.length 0 lo)).take (HT.sIx xs.length xs.length hi - HT.sIx xs.length 0 lo), IsTup.new _ _⟩
def rLtT (K : PySem.W.Frag) : R2 := fun x y H Q => ∃ a b ns ms, x = .ref a ∧ y = .ref b ∧ SqT K H a (ns.map V.int) ∧ SqT K H b (ms.map V.int) ∧ Q (.bl (HT.lexLt ns ms)) H
def rCatT (K : PySem.W.Frag) : R2 := fun x y H Q => ∃ a b xs ys, x = .ref a ∧ y = .ref b ∧ SqT K H a xs ∧ SqT K H b ys ∧ xs ≠ [] ∧ xs.length + ys.length ≤ sizeLine ∧
  (ys = [] → Q (.ref a) H) ∧ (ys ≠ [] → ∀ p, H p = none → Q (.ref p) (upd H p (.tup (xs ++ ys))))
theorem Vals.nil_iff {xs : List V} {us : List Value} (r : Vals xs us) : us = [] ↔ xs = [] := by
  cases r with
  | nil => simp
  | cons _ _ => simp
theorem op_catT : OpR X (binaryOp .Add) (rCatT X.K) := by
  intro pins s σ H x y v u Q I rx ry h
  obtain ⟨a, b, xs, ys, rfl, rfl, ha, hb, hx, hz, q1, q2⟩ := h
  cases rx
  cases ry
  obtain ⟨its, r1, p1, _⟩ := I.tuple ha
  obtain ⟨its2, r2, p2, _⟩ := I.tuple hb
  refine HT.cat_tup p1 p2 (fun z => hx (r1.nil_iff.mp z)) (fun z => ⟨.ref a, H, I, rfl, q1 (r2.nil_iff.mp z)⟩) (fun z => ?_) (by rw [← r1.length, ← r2.length]; exact hz)
  refine ⟨.ref s.heap.objs.size, _, I.laid (t' := s.toks) (o := .tup (xs ++ ys)) (fun b ob q => Heap.get?_push_of_some _ q) (Nat.le_refl _) ?_, rfl, q2 (fun w => z (r2.nil_iff.mpr w)) _ (I.hok.fresh (Nat.le_refl _))⟩
  exact ⟨by rw [List.length_append]; exact hz, _, r1.append r2, IsTup.new _ _⟩
end
end L2
namespace L2
open PySem PySem.Spec PyProof.Rows
def ixN (n : Nat) (i : Int) : Option Nat := if 0 ≤ i then (if i < n then some i.toNat else none) else if -(n : Int) ≤ i then some (i + n).toNat else none
def atI {α : Type} (xs : List α) (i : Int) : Option α := (ixN xs.length i).bind fun j => xs[j]?
theorem ixN_seq {n : Nat} {i : Int} {j : Nat} (h : ixN n i = some j) : seqIndex? i n = some j ∧ j < n ∧ -(n : Int) ≤ i ∧ i < n := by
  unfold ixN at h
  by_cases h0 : 0 ≤ i
  · rw [if_pos h0] at h
    by_cases h1 : i < n
    · rw [if_pos h1] at h
      have e : i.toNat = j := Option.some.inj h
      exact ⟨by rw [seqIndex_of h0 h1, e], by omega, by omega, h1⟩
    · rw [if_neg h1] at h; cases h
  · rw [if_neg h0] at h
    by_cases h1 : -(n : Int) ≤ i
    · rw [if_pos h1] at h
      have e : (i + n).toNat = j := Option.some.inj h
      exact ⟨by rw [seqIndex_neg (by omega) h1, e], by omega, h1, by omega⟩
    · rw [if_neg h1] at h; cases h
theorem atI_get {α : Type} {xs : List α} {i : Int} {v : α} (h : atI xs i = some v) : ∃ j, seqIndex? i xs.length = some j ∧ xs[j]? = some v ∧ j < xs.length ∧ -(xs.length : Int) ≤ i ∧ i < xs.length := by
  unfold atI at h
  cases e : ixN xs.length i with
  | none => rw [e] at h; cases h
  | some j =>
    rw [e] at h
    obtain ⟨h1, h2, h3, h4⟩ := ixN_seq e
    exact ⟨j, h1, h, h2, h3, h4⟩
theorem atI_nat {α : Type} {xs : List α} {j : Nat} {v : α} (h : xs[j]? = some v) : atI xs (j : Int) = some v := by
  have hj : j < xs.length := (List.getElem?_eq_some_iff.mp h).1
  have e : ixN xs.length (j : Int) = some j := by
    unfold ixN
    rw [if_pos (by omega), if_pos (by omega)]; simp
  unfold atI; rw [e]; exact h
def PlainIx (b : Expr) : Prop := ∀ o i, subscripted b false o i = operate [o, i] (getItem o i)
def IxR (X : Cx) (r : R2) : Prop :=
  ∀ (value slice : Expr) (pins : List (Addr × Obj)) (s : Shared) (σ : St) (H : Hp) (x y : V) (v u : Value) (Q : VK), Inv X pins σ H s → RelV x v → RelV y u → r x y H Q →
    subscripted slice false v u = operate [v, u] (getItem v u) → wpAny (model X.prog X.w) X.A (subscriptTail value slice v u) (EP X pins σ Q) X.xe s
def MtR (X : Cx) (id : String) (r : V → List V → Hp → VK → Prop) : Prop :=
  ∀ (pins : List (Addr × Obj)) (s : Shared) (σ : St) (H : Hp) (x : V) (xs : List V) (v : Value) (us : List Value) (Q : VK), Inv X pins σ H s → RelV x v → Vals xs us → r x xs H Q →
    wpAny (model X.prog X.w) X.A (call (.builtin id) (v :: us)) (EP X pins σ Q) X.xe s
section
variable {X : Cx} {a b : Expr} {ta tb : TE} {pos : Pos}
theorem IxR.or {r r' : R2} (h : IxR X r) (h' : IxR X r') : IxR X (fun x y H Q => r x y H Q ∨ r' x y H Q) := by
  intro value slice pins s σ H x y v u Q I rx ry q hs
  rcases q with q | q
  · exact h value slice pins s σ H x y v u Q I rx ry q hs
  · exact h' value slice pins s σ H x y v u Q I rx ry q hs
theorem MtR.or {id : String} {r r' : V → List V → Hp → VK → Prop} (h : MtR X id r) (h' : MtR X id r') : MtR X id (fun x xs H Q => r x xs H Q ∨ r' x xs H Q) := by
  intro pins s σ H x xs v us Q I rx rs q
  rcases q with q | q
  · exact h pins s σ H x xs v us Q I rx rs q
  · exact h' pins s σ H x xs v us Q I rx rs q
theorem pe_ix {r : R2} (hr : IxR X r) (ha : PE X a ta) (hb : PE X b tb) (hs : PlainIx b) : PE X (.Subscript a b pos) (tOp r ta tb) := by
  intro pins s σ H Q I h
  exact Subscript_ (binT ha hb I h fun v u s2 x y H2 I2 rx ry q => hr a b pins s2 σ H2 x y v u Q I2 rx ry q (hs _ _))
def rIxL (K : PySem.W.Frag) : R2 := fun x y H Q => ∃ p xs i v, x = .ref p ∧ y = .int i ∧ SqL K H p xs ∧ atI xs i = some v ∧ Q v H
def rIxT (K : PySem.W.Frag) : R2 := fun x y H Q => ∃ p xs i v, x = .ref p ∧ y = .int i ∧ SqT K H p xs ∧ atI xs i = some v ∧ Q v H
def rIxS : R2 := fun x y H Q => ∃ z i c, x = .str z ∧ y = .int i ∧ z.length ≤ sizeLine ∧ atI z.cps.toList i = some c ∧ Q (.str ⟨#[c]⟩) H
theorem ix_list : IxR X (rIxL X.K) := by
  intro value slice pins s σ H x y v u Q I rx ry h hs
  obtain ⟨p, xs, i, z, rfl, rfl, hq, he, q⟩ := h
  cases rx
  obtain ⟨t, rfl⟩ := ry
  obtain ⟨its, r, pl, hz⟩ := I.list hq
  obtain ⟨j, h1, h2, h3, h4, h5⟩ := atI_get he
  obtain ⟨w, ew, rw'⟩ := r.get h2
  have hl := r.length
  have hn := line63
  have fin : EP X pins σ Q w s := ⟨z, H, I, rw', q⟩
  by_cases h0 : 0 ≤ i
  · have hj : i.toNat = j := by
      rw [seqIndex_of h0 h5] at h1
      exact Option.some.inj h1
    exact item_listR pl.isList h0 (by omega) (by rw [hj]; simpa using ew) fin hs
  · have hj : (i + (its.toArray.size : Int)).toNat = j := by
      rw [seqIndex_neg (by omega) h4] at h1
      rw [List.size_toArray, ← hl]
      exact Option.some.inj h1
    exact subscriptTail_builtinR (x := w) pl.isList.typeIs slot_list_getitem.lookup
      (wpAny_getItem_list_neg (Q := fun r s' => r = w ∧ EP X pins σ Q r s') pl.isList (by omega) (by rw [List.size_toArray] <;> omega) (by omega) (by rw [hj]; simpa using ew) ⟨rfl, fin⟩) hs
theorem ix_tup : IxR X (rIxT X.K) := by
  intro value slice pins s σ H x y v u Q I rx ry h hs
  obtain ⟨p, xs, i, z, rfl, rfl, hq, he, q⟩ := h
  cases rx
  obtain ⟨t, rfl⟩ := ry
  obtain ⟨its, r, pl, hz⟩ := I.tuple hq
  obtain ⟨j, h1, h2, h3, h4, h5⟩ := atI_get he
  obtain ⟨w, ew, rw'⟩ := r.get h2
  have hl := r.length
  have hn := line63
  have fin : EP X pins σ Q w s := ⟨z, H, I, rw', q⟩
  exact subscriptTail_builtinR (x := w) pl.typeIs slot_tuple_getitem.lookup
    (getItem_tuple (j := j) (Q := fun r s' => r = w ∧ EP X pins σ Q r s') pl (by omega) (by omega) (by rw [List.size_toArray, ← hl]; exact h1) (by simpa using ew) ⟨rfl, fin⟩) hs
theorem ix_str : IxR X rIxS := by
  intro value slice pins s σ H x y v u Q I rx ry h hs
  obtain ⟨z, i, c, rfl, rfl, hz, he, q⟩ := h
  obtain ⟨t, rfl⟩ := rx
  obtain ⟨t', rfl⟩ := ry
  obtain ⟨j, h1, h2, h3, h4, h5⟩ := atI_get he
  have hl : z.cps.toList.length = z.length := by simp [Str.length]
  rw [hl] at h1 h4 h5
  have hn := line63
  exact tail_any (typeIs_str s z t) slot_str_getitem.lookup (getItem_str (c := c) (by
    have e1 : decide (i < -(2 ^ 63 : Int)) = false := decide_eq_false (by omega)
    have e2 : decide (i ≥ 2 ^ 63) = false := decide_eq_false (by omega)
    rw [e1, e2, Bool.or_false]) (by rw [h1]; simpa using h2) ⟨.str ⟨#[c]⟩, H, I.tok _, ⟨_, rfl⟩, q⟩) hs
def rIx (K : PySem.W.Frag) : R2 := fun x y H Q => rIxL K x y H Q ∨ rIxT K x y H Q ∨ rIxS x y H Q
theorem mapSeq_set (its : List Value) (n j : Nat) (u : Value) : Obj.mapSeq (·.setIfInBounds j u) { cls := .type "list", data := .seq its.toArray n } = { cls := .type "list", data := .seq (its.set j u).toArray n } := by
  simp [Obj.mapSeq]
theorem Inv.lst {pins : List (Addr × Obj)} {σ : St} {H : Hp} {s : Shared} {p : Addr} {xs : List V} (I : Inv X pins σ H s) (h : H p = some (.lst xs)) :
    ∃ (its : List Value) (n : Nat), Vals xs its ∧ s.heap.get? p = some { cls := .type "list", data := .seq its.toArray n } ∧ xs.length ≤ sizeLine := by
  obtain ⟨z, its, n, r, e⟩ := I.hok p _ h
  exact ⟨its, n, r, e, z⟩
theorem Inv.lstUpd {pins : List (Addr × Obj)} {σ : St} {H : Hp} {s : Shared} {p : Addr} {xs ys : List V} {its its' : List Value} {n n' : Nat} {f : Obj → Obj} (I : Inv X pins σ H s) (h : H p = some (.lst xs))
    (ho : s.heap.get? p = some { cls := .type "list", data := .seq its.toArray n }) (hf : f { cls := .type "list", data := .seq its.toArray n } = { cls := .type "list", data := .seq its'.toArray n' }) (r : Vals ys its') (hz : ys.length ≤ sizeLine) (t : Nat) :
    Inv X pins σ (upd H p (.lst ys)) { s with heap := s.heap.update p f, toks := t } := by
  have e : (s.heap.update p f).get? p = some { cls := .type "list", data := .seq its'.toArray n' } := by
    rw [Heap.get?_update_self f ho (by rw [hf] <;> rfl), hf]
  refine I.write (x := p) (e := p) (by rw [h]; trivial) (.inl rfl) (fun b u hb q => (Heap.get?_update_other _ _ (Ne.symm hb)).trans q) ⟨_, e⟩ ?_
  exact ⟨hz, its', n', r, e⟩
def rSetL : V → V → V → Hp → (Hp → Prop) → Prop := fun o i v H Q => ∃ p xs k j, o = .ref p ∧ i = .int k ∧ H p = some (.lst xs) ∧ ixN xs.length k = some j ∧ Q (upd H p (.lst (xs.set j v)))
theorem set_list : PSet X rSetL := by
  intro pins s σ H o i v ov iv u Q I ro ri rv h
  obtain ⟨p, xs, k, j, rfl, rfl, hp, hj, q⟩ := h
  cases ro
  obtain ⟨t, rfl⟩ := ri
  obtain ⟨its, n, r, ho, hz⟩ := I.lst hp
  obtain ⟨h1, h2, h3, h4⟩ := ixN_seq hj
  have hl := r.length
  have hn := line63
  have I' : Inv X pins σ (upd H p (.lst (xs.set j v))) { s with heap := s.heap.update p (Obj.mapSeq (·.setIfInBounds j u)) } :=
    I.lstUpd hp ho (mapSeq_set its n j u) (r.set rv j) (by rw [List.length_set]; exact hz) s.toks
  by_cases h0 : 0 ≤ k
  · have hk : k.toNat = j := by
      rw [seqIndex_of h0 h4] at h1
      exact Option.some.inj h1
    exact PySem.W.ki_setAt ho h0 (by omega) (by rw [List.size_toArray, ← hl]; exact h4) (by rw [hk]; exact ⟨_, I', q⟩)
  · have hk : (k + (its.toArray.size : Int)).toNat = j := by
      rw [seqIndex_neg (by omega) h3] at h1
      rw [List.size_toArray, ← hl]
      exact Option.some.inj h1
    exact PySem.W.ki_setBack ho (by omega) (by rw [List.size_toArray, ← hl]; exact h3) (by omega) (by rw [hk]; exact ⟨_, I', q⟩)
theorem slice_bounds (lo hi : Option Int) (n : Nat) : (sliceBounds lo hi none n).1 = ((HT.sIx n 0 lo : Nat) : Int) ∧ (sliceBounds lo hi none n).2.1 = ((HT.sIx n n hi : Nat) : Int) ∧ (sliceBounds lo hi none n).2.2 = 1 := by
  refine ⟨?_, ?_, rfl⟩
  · cases lo with
    | none => simp [sliceBounds, HT.sIx]
    | some i =>
      simp only [sliceBounds, HT.sIx, Option.getD_none, show (1 : Int) > 0 by decide, if_true]
      by_cases h : i < 0
      · simp only [h, if_true] <;> omega
      · simp only [h, if_false] <;> omega
  · cases hi with
    | none => simp [sliceBounds, HT.sIx]
    | some i =>
      simp only [sliceBounds, HT.sIx, Option.getD_none, show (1 : Int) > 0 by decide, if_true]
      by_cases h : i < 0
      · simp only [h, if_true] <;> omega
      · simp only [h, if_false] <;> omega
theorem slicePick_cut (its : List Value) (lo hi : Option Int) : slicePick its.toArray lo hi none = ((its.drop (HT.sIx its.length 0 lo)).take (HT.sIx its.length its.length hi - HT.sIx its.length 0 lo)).toArray := by
  obtain ⟨h1, h2, h3⟩ := slice_bounds lo hi its.toArray.size
  unfold slicePick
  rw [h1, h2, h3]
  simp only [sliceRange_one, pick_run, List.size_toArray] <;> rfl
def rSlL (K : PySem.W.Frag) : V → Option Int → Option Int → Hp → VK → Prop := fun x lo hi H Q => ∃ a xs, x = .ref a ∧ SqL K H a xs ∧ ∀ p, H p = none → Q (.ref p) (upd H p (.lst (cutV xs lo hi)))
theorem sl_list : SlR X (rSlL X.K) := by
  intro pins s σ H x v vl vu lo hi sl Q I rx hs pl pu h
  obtain ⟨a, xs, rfl, hx, q⟩ := h
  cases rx
  obtain ⟨its, r, ht, hz⟩ := I.list hx
  have hlen := r.length
  refine ⟨"list", _, slot_list_getitem.lookup, ht.isList.typeIs, ?_⟩
  refine wpAny_getItem_list_slice ht.isList hs pl pu .none (by simp) ?_ (by rw [List.size_toArray] <;> omega)
  rw [slicePick_cut, ← hlen]
  refine ⟨.ref s.heap.objs.size, _, I.laid (t' := s.toks) (o := .lst (cutV xs lo hi)) (fun b ob q => Heap.get?_push_of_some _ q) (Nat.le_refl _) ?_, rfl, q _ (I.hok.fresh (Nat.le_refl _))⟩
  exact ⟨Nat.le_trans (cutV_length xs lo hi) hz, _, 0, (r.drop (HT.sIx xs.length 0 lo)).take (HT.sIx xs.length xs.length hi - HT.sIx xs.length 0 lo), Heap.get?_push_size _ rfl⟩
def flatV : V → Bool
  | .non => true
  | .bl _ => true
  | .int _ => true
  | .str _ => true
  | _ => false
def eqV : V → V → Bool
  | .non, .non => true
  | .bl a, .bl b => a == b
  | .bl a, .int b => (if a then 1 else 0) == b
  | .int a, .bl b => a == (if b then 1 else 0)
  | .int a, .int b => a == b
  | .str a, .str b => a == b
  | _, _ => false
theorem eqAt_V {A : Around} {s : Shared} {y x : V} {u v : Value} (ry : RelV y u) (rx : RelV x v) (fy : flatV y = true) (fx : flatV x = true) : SeqAt.EqAt A s u v (eqV y x) := by
  cases y with
  | non =>
    cases ry
    cases x with
    | non => cases rx; exact SeqAt.EqAt.same _
    | bl b => cases rx; exact SeqAt.EqAt.none_bool b
    | int b => obtain ⟨t, rfl⟩ := rx; exact SeqAt.EqAt.none_int b t
    | str b => obtain ⟨t, rfl⟩ := rx; exact SeqAt.EqAt.none_str b t
    | _ => exact absurd (show false = true from fx) Bool.false_ne_true
  | bl a =>
    cases ry
    cases x with
    | non => cases rx; exact SeqAt.EqAt.bool_none a
    | bl b => cases rx; exact SeqAt.EqAt.bool_bool a b
    | int b => obtain ⟨t, rfl⟩ := rx; exact SeqAt.EqAt.bool_int a b t
    | str b => obtain ⟨t, rfl⟩ := rx; exact SeqAt.EqAt.bool_str a b t
    | _ => exact absurd (show false = true from fx) Bool.false_ne_true
  | int a =>
    obtain ⟨t', rfl⟩ := ry
    cases x with
    | non => cases rx; exact SeqAt.EqAt.int_none a t'
    | bl b => cases rx; exact SeqAt.EqAt.int_bool a t' b
    | int b => obtain ⟨t, rfl⟩ := rx; exact SeqAt.EqAt.int_int a t' b t
    | str b => obtain ⟨t, rfl⟩ := rx; exact SeqAt.EqAt.int_str a t' b t
    | _ => exact absurd (show false = true from fx) Bool.false_ne_true
  | str a =>
    obtain ⟨t', rfl⟩ := ry
    cases x with
    | non => cases rx; exact SeqAt.EqAt.str_none a t'
    | bl b => cases rx; exact SeqAt.EqAt.str_bool a t' b
    | int b => obtain ⟨t, rfl⟩ := rx; exact SeqAt.EqAt.str_int a t' b t
    | str b => obtain ⟨t, rfl⟩ := rx; exact SeqAt.EqAt.str_str a t' b t
    | _ => exact absurd (show false = true from fx) Bool.false_ne_true
  | _ => exact absurd (show false = true from fy) Bool.false_ne_true
def eqU (x : V) (u : Value) : Bool := match u with
  | .none => eqV .non x
  | .bool b => eqV (.bl b) x
  | .int i _ => eqV (.int i) x
  | .str z _ => eqV (.str z) x
  | _ => false
def inV (x : V) (xs : List V) : Bool := xs.any fun y => eqV y x
def rIn (K : PySem.W.Frag) (neg : Bool) : R2 := fun x y H Q => ∃ p xs, y = .ref p ∧ (SqL K H p xs ∨ SqT K H p xs) ∧ flatV x = true ∧ xs.all flatV = true ∧ Q (.bl (if neg then !inV x xs else inV x xs)) H
theorem call_len_seq : CallR X (.builtin "len") (fun xs H Q => ∃ p ys, xs = [.ref p] ∧ (SqL X.K H p ys ∨ SqT X.K H p ys) ∧ Q (.int ys.length) H) := by
  intro pins s σ H xs us Q I r h
  obtain ⟨p, ys, rfl, hq, q⟩ := h
  obtain ⟨u, rfl, rx⟩ := vals1 r
  cases rx
  have hn := line63
  rcases hq with hq | hq
  · obtain ⟨its, r', pl, hz⟩ := I.list hq
    have hlen := r'.length
    exact Calls.call_len_list pl.isList (by simp only [List.size_toArray] <;> omega) ⟨.int ys.length, H, I.tok _, ⟨s.toks + 1, by rw [List.size_toArray, hlen]⟩, q⟩
  · obtain ⟨its, r', pl, hz⟩ := I.tuple hq
    have hlen := r'.length
    exact len_tuple pl (by simp only [List.size_toArray] <;> omega) ⟨.int ys.length, H, I.tok _, ⟨s.toks + 1, by rw [List.size_toArray, hlen]⟩, q⟩
theorem CallR.or {f : Value} {r r' : List V → Hp → VK → Prop} (h : CallR X f r) (h' : CallR X f r') : CallR X f (fun xs H Q => r xs H Q ∨ r' xs H Q) := by
  intro pins s σ H xs us Q I rs q
  rcases q with q | q
  · exact h pins s σ H xs us Q I rs q
  · exact h' pins s σ H xs us Q I rs q
theorem call_list_of : CallR X (.type "list") (fun xs H Q => ∃ p ys, xs = [.ref p] ∧ (SqL X.K H p ys ∨ SqT X.K H p ys) ∧ ∀ l, H l = none → Q (.ref l) (upd H l (.lst ys))) := by
  intro pins s σ H xs us Q I r h
  obtain ⟨p, ys, rfl, hq, q⟩ := h
  obtain ⟨u, rfl, rx⟩ := vals1 r
  cases rx
  have fin : ∀ (its : List Value), Vals ys its → ys.length ≤ sizeLine → ∀ (h' : Heap) (c' : Nat), (∀ b o', s.heap.get? b = some o' → h'.get? b = some o') →
      h'.get? s.heap.objs.size = some { cls := .type "list", dict := none, data := .seq its.toArray c', slots := #[] } → EP X pins σ Q (.ref s.heap.objs.size) { s with heap := h' } := fun its r' hz h' c' kp e =>
    ⟨.ref s.heap.objs.size, _, I.laid (t' := s.toks) kp (Nat.le_refl _) (show ObjOk X.prog X.w _ h' _ (.lst ys) from ⟨hz, its, c', r', e⟩), rfl, q _ (I.hok.fresh (Nat.le_refl _))⟩
  rcases hq with hq | hq
  · obtain ⟨its, r', pl, hz⟩ := I.list hq
    have hlen := r'.length
    obtain ⟨o, ho, hc, n, hd⟩ := pl.isList
    exact call_list_seq p (.inl rfl) ho hc hd (fun h' c' kp e => fin its r' hz h' c' kp e) (by simp only [List.size_toArray] <;> omega)
  · obtain ⟨its, r', pl, hz⟩ := I.tuple hq
    have hlen := r'.length
    obtain ⟨o, ho, hc, n, hd⟩ := pl
    exact call_list_seq p (.inr rfl) ho hc hd (fun h' c' kp e => fin its r' hz h' c' kp e) (by simp only [List.size_toArray] <;> omega)
theorem call_tuple_of : CallR X (.type "tuple") (fun xs H Q => ∃ p ys, xs = [.ref p] ∧ ((SqL X.K H p ys ∧ ∀ l, H l = none → Q (.ref l) (upd H l (.tup ys))) ∨ (SqT X.K H p ys ∧ Q (.ref p) H))) := by
  intro pins s σ H xs us Q I r h
  obtain ⟨p, ys, rfl, h⟩ := h
  obtain ⟨u, rfl, rx⟩ := vals1 r
  cases rx
  rcases h with ⟨hq, q⟩ | ⟨hq, q⟩
  · obtain ⟨its, r', pl, hz⟩ := I.list hq
    have hlen := r'.length
    refine call_tuple_list pl.isList (fun h' kp => ?_) (by simp only [List.size_toArray] <;> omega)
    have I1 : Inv X pins σ H { s with heap := h' } := I.kept (t' := s.toks) kp
    have I2 : Inv X pins σ (upd H h'.objs.size (.tup ys)) { s with heap := h'.push { cls := .type "tuple", data := .seq its.toArray } } :=
      I1.laid (t' := s.toks) (fun b o e => Heap.get?_push_of_some _ e) (Nat.le_refl _) (show ObjOk X.prog X.w _ _ _ (.tup ys) from ⟨hz, its, r', IsTup.new _ _⟩)
    exact ⟨.ref h'.objs.size, _, I2, rfl, q _ (I1.hok.fresh (Nat.le_refl _))⟩
  · obtain ⟨its, r', pl, hz⟩ := I.tuple hq
    exact call_tuple_same pl ⟨.ref p, H, I, rfl, q⟩
def tyV (K : PySem.W.Frag) (T : String) (x : V) (H : Hp) : Prop := match x with
  | .str _ => T = "str"
  | .int _ => T = "int"
  | .ref p => (T = "list" ∧ ∃ xs, SqL K H p xs) ∨ (T = "tuple" ∧ ∃ o, K.lookup p = some o ∧ o.cls = .type "tuple" ∧ o.dict = none) ∨
      (T = "dict" ∧ ((∃ kvs, H p = some (.dK kvs)) ∨ ∃ kvs, H p = some (.dT kvs))) ∨ (T = "set" ∧ ∃ S n, H p = some (.set S n))
  | _ => False
theorem tyV_is {pins : List (Addr × Obj)} {σ : St} {H : Hp} {s : Shared} {T : String} {x : V} {v : Value} (I : Inv X pins σ H s) (r : RelV x v) (ty : tyV X.K T x H) :
    s.TypeIs v T ∧ ∀ a, v = .ref a → ∃ ob, s.heap.get? a = some ob ∧ ob.dict = none := by
  cases x with
  | str z =>
    obtain ⟨t, rfl⟩ := r
    cases (show T = "str" from ty)
    exact ⟨typeIs_str s z t, fun _ e => nomatch e⟩
  | int i =>
    obtain ⟨t, rfl⟩ := r
    cases (show T = "int" from ty)
    exact ⟨typeIs_int s i t, fun _ e => nomatch e⟩
  | ref p =>
    cases r
    rcases ty with ⟨rfl, xs, hq⟩ | ⟨rfl, o, hk, hc, hd⟩ | ⟨rfl, hk⟩ | ⟨rfl, S, n, hk⟩
    · obtain ⟨its, _, pl, _⟩ := I.list hq
      refine ⟨pl.isList.typeIs, fun a e => ?_⟩
      cases e
      obtain ⟨o, n, e, c, hd, _⟩ := pl
      exact ⟨o, e, hd⟩
    · refine ⟨⟨o, I.kIn p o hk, hc⟩, fun a e => ?_⟩
      cases e
      exact ⟨o, I.kIn _ o hk, hd⟩
    · have z : ∃ o, s.heap.get? p = some o ∧ o.ExactDict := by
        rcases hk with ⟨kvs, hk⟩ | ⟨kvs, hk⟩
        · obtain ⟨_, _, _, _, o, _, _, e, ex, _⟩ := I.hok p _ hk
          exact ⟨o, e, ex⟩
        · obtain ⟨_, _, _, _, o, _, _, e, ex, _⟩ := I.hok p _ hk
          exact ⟨o, e, ex⟩
      obtain ⟨o, e, ex⟩ := z
      refine ⟨⟨o, e, ex.1⟩, fun a e2 => ?_⟩
      cases e2
      exact ⟨o, e, ex.2.1⟩
    · obtain ⟨o, _, _, _, e, ex, _⟩ := I.hok p _ hk
      refine ⟨⟨o, e, ex.1⟩, fun a e2 => ?_⟩
      cases e2
      exact ⟨o, e, ex.2.1⟩
  | _ => exact False.elim ty
def tBM0 (K : PySem.W.Frag) (T : String) (r : V → List V → Hp → VK → Prop) (to : TE) : TE := fun σ H Q => to σ H fun x H1 => tyV K T x H1 ∧ r x [] H1 Q
def tBM (K : PySem.W.Frag) (T : String) (r : V → List V → Hp → VK → Prop) (to : TE) (t : TA) : TE := fun σ H Q => to σ H fun x H1 => tyV K T x H1 ∧ t σ H1 fun xs H2 => r x xs H2 Q
variable {o e : Expr} {es : List Expr} {to : TE} {t : TA} {name : Str} {apos cpos : Pos} {T id : String} {r : V → List V → Hp → VK → Prop}
theorem pe_bm (pa : PlainAttrs T) (slot : Slot T name id) (hty : typeOf (.builtin id) = pure (.type "method_descriptor")) (hm : MtR X id r) (ho : PE X o to) (ha : PA X (e :: es) t)
    (hbase : attributeBase o name X.env (eval o X.env) = eval o X.env := by rfl)
    (hfew : ((backTo cpos (starEach (e :: es) X.env)).all (fun x => !x.1) && (backToKw cpos (keywordEach [] X.env)).all (fun x => x.1.isSome)
      && decide ((e :: es).length + ([] : List Keyword).length + (if ([] : List Keyword).isEmpty then 0 else 1) < 30)) = true := by rfl)
    (hline : (apos.endLine == cpos.line) = true := by rfl) (hs : starEach (e :: es) X.env = (false, eval e X.env) :: starEach es X.env := by rfl) (hplain : (backTo cpos (starEach es X.env)).any (·.1) = false := by rfl) :
    PE X (.Call (.Attribute o name apos) (e :: es) [] cpos) (tBM X.K T r to t) := by
  intro pins s σ H Q I h
  refine wpAny_Call_method_late hbase hfew hline rfl (thn (ho pins s σ H _ I h) fun v s1 ⟨x, H1, I1, r1, ty, q1⟩ => ?_)
  obtain ⟨h1, h2⟩ := tyV_is I1 r1 ty
  refine ⟨T, id, pa, slot, hty, h1, h2, ?_⟩
  have hA := ha cpos pins s1 σ H1 _ I1 q1
  rw [hs] at hA ⊢
  refine Calls.callWith_builtin (by show (false || (backTo cpos (starEach es X.env)).any (·.1)) = false; rw [hplain] <;> rfl) (Calls.evalArgs_plain ?_)
  exact thn hA fun us s2 ⟨vs, H2, I2, r2, q2⟩ => hm pins s2 σ H2 x vs v us Q I2 r1 r2 q2
/- xs.append(e), list.index on a module's tuple .. are MtR facts of 06m -/
end
end L2
namespace L2
open PySem PySem.Spec PyProof.Rows
def MtM (X : Cx) (id : String) (r : V → List V → Hp → VK → Prop) : Prop :=
  ∀ (pins : List (Addr × Obj)) (s : Shared) (σ : St) (H : Hp) (x : V) (xs : List V) (v : Value) (us : List Value) (Q : VK), Inv X pins σ H s → RelV x v → Vals xs us → r x xs H Q →
    wpAny (model X.prog X.w) X.A (call (.builtin id) (v :: us)) (EP X pins σ Q) X.xe s
theorem Vals.one : ∀ {x : V} {us : List Value}, Vals [x] us → ∃ u, us = [u] ∧ RelV x u
  | _, _, .cons r .nil => ⟨_, rfl, r⟩
theorem Vals.two : ∀ {x y : V} {us : List Value}, Vals [x, y] us → ∃ u v, us = [u, v] ∧ RelV x u ∧ RelV y v
  | _, _, _, .cons r (.cons q .nil) => ⟨_, _, rfl, r, q⟩
theorem Vals.zero : ∀ {us : List Value}, Vals [] us → us = []
  | _, .nil => rfl
theorem Vals.dropLast {xs : List V} {us : List Value} (h : Vals xs us) : Vals xs.dropLast us.dropLast := by
  induction h with
  | nil => exact .nil
  | cons r t ih =>
    cases t with
    | nil => exact .nil
    | cons q t' => exact .cons r ih
theorem Vals.eraseIdx : ∀ {xs : List V} {us : List Value} (i : Nat), Vals xs us → Vals (xs.eraseIdx i) (us.eraseIdx i)
  | _, _, _, .nil => .nil
  | _, _, 0, .cons _ t => t
  | _, _, i + 1, .cons r t => .cons r (Vals.eraseIdx i t)
theorem Vals.reverse {xs : List V} {us : List Value} (h : Vals xs us) : Vals xs.reverse us.reverse := by
  induction h with
  | nil => exact .nil
  | cons r t ih => rw [List.reverse_cons, List.reverse_cons]; exact Vals.append ih (.cons r .nil)
theorem Vals.rep {xs : List V} {us : List Value} (h : Vals xs us) : ∀ k : Nat, Vals (List.replicate k xs).flatten (List.replicate k us).flatten
  | 0 => .nil
  | k + 1 => by
    rw [List.replicate_succ, List.replicate_succ, List.flatten_cons, List.flatten_cons]
    exact Vals.append h (Vals.rep h k)
theorem foldl_rep (its : List Value) : ∀ (k : Nat) (acc : List Value),
    List.foldl (fun x1 x2 => x1 ++ x2) acc.toArray (List.replicate k its.toArray) = (acc ++ (List.replicate k its).flatten).toArray
  | 0, acc => by simp
  | k + 1, acc => by
    have e : acc.toArray ++ its.toArray = (acc ++ its).toArray := by simp
    have e2 : (acc ++ its) ++ (List.replicate k its).flatten = acc ++ (List.replicate (k + 1) its).flatten := by
      rw [List.replicate_succ, List.flatten_cons, List.append_assoc]
    rw [← e2, ← foldl_rep its k (acc ++ its), ← e, List.replicate_succ, List.foldl_cons]
section
variable {X : Cx} {pins : List (Addr × Obj)} {σ : St} {H : Hp} {s : Shared} {l b : Addr} {xs ys zs : List V}
theorem Inv.lset {its its' : List Value} {n : Nat} {f : Array Value → Array Value} {t' : Nat} (I : Inv X pins σ H s) (hH : H l = some (.lst xs))
    (e : s.heap.get? l = some { cls := .type "list", data := .seq its.toArray n }) (hf : f its.toArray = its'.toArray) (hv : Vals ys its') (hz : ys.length ≤ sizeLine) :
    Inv X pins σ (upd H l (.lst ys)) { s with heap := s.heap.update l (Obj.mapSeq f), toks := t' } := by
  have q := PySem.IsL.update e f
  rw [hf] at q
  refine I.write (x := l) (e := l) (by rw [hH]; exact trivial) (.inl rfl) (fun b' u hb hu => (Heap.get?_update_other s.heap (Obj.mapSeq f) (Ne.symm hb)).trans hu) ⟨_, q⟩ ?_
  exact ⟨hz, its', _, hv, q⟩
theorem Inv.lnew {its : List Value} {t' : Nat} (I : Inv X pins σ H s) (hv : Vals ys its) (hz : ys.length ≤ sizeLine) :
    Inv X pins σ (upd H s.heap.objs.size (.lst ys)) { s with heap := s.heap.push { cls := .type "list", data := .seq its.toArray }, toks := t' } :=
  I.laid (fun _ _ q => Heap.get?_push_of_some _ q) (Nat.le_refl _) ⟨hz, its, 0, hv, Heap.get?_push_size _ rfl⟩
theorem Inv.fresh (I : Inv X pins σ H s) : H s.heap.objs.size = none := I.hok.fresh (Nat.le_refl _)
theorem Inv.lstM (I : Inv X pins σ H s) (hH : H l = some (.lst xs)) : xs.length ≤ sizeLine ∧ ∃ (its : List Value) (n : Nat), Vals xs its ∧ xs.length = its.length ∧ s.heap.get? l = some { cls := .type "list", data := .seq its.toArray n } := by
  obtain ⟨z, its, n, r, e⟩ := I.hok l _ hH
  exact ⟨z, its, n, r, r.length, e⟩
theorem notLongL {n : Nat} (h : n ≤ sizeLine) : Builtin.List.listTooLong n = false := by
  unfold Builtin.List.listTooLong
  exact decide_eq_false (by omega)
end
section
variable {X : Cx}
def rAppend : V → List V → Hp → VK → Prop := fun x vs H Q => ∃ l xs y, x = .ref l ∧ vs = [y] ∧ H l = some (.lst xs) ∧ xs.length < sizeLine ∧ Q .non (upd H l (.lst (xs ++ [y])))
theorem mt_append : MtM X "list.append" rAppend := by
  intro pins s σ H x vs v us Q I rx rv h
  obtain ⟨l, xs, y, rfl, rfl, hH, hz, q⟩ := h
  cases rx
  obtain ⟨u, rfl, ru⟩ := rv.one
  obtain ⟨z, its, n, r, hl, e⟩ := I.lstM hH
  refine call_meets F.slot_list_append ⟨_, e, rfl⟩ F.entry_list_append (F.args_list_append_2 _ _) (PySem.list_append l its.toArray n u (by rw [List.size_toArray]; omega)) ⟨e, ?_⟩
  refine ⟨.non, _, I.lset (its' := its ++ [u]) hH e (by simp) (r.append (.cons ru .nil)) ?_, rfl, q⟩
  rw [List.length_append, List.length_singleton]
  omega
def rExtend : V → List V → Hp → VK → Prop := fun x vs H Q => ∃ l b xs zs, x = .ref l ∧ vs = [.ref b] ∧ H l = some (.lst xs) ∧ H b = some (.lst zs) ∧ xs.length + zs.length ≤ sizeLine ∧ Q .non (upd H l (.lst (xs ++ zs)))
theorem mt_extend : MtM X "list.extend" rExtend := by
  intro pins s σ H x vs v us Q I rx rv h
  obtain ⟨l, b, xs, zs, rfl, rfl, hH, hB, hz, q⟩ := h
  cases rx
  obtain ⟨u, rfl, ru⟩ := rv.one
  cases ru
  obtain ⟨z, its, n, r, hl, e⟩ := I.lstM hH
  obtain ⟨z2, its2, n2, r2, hl2, e2⟩ := I.lstM hB
  have hsz : its.toArray.size + its2.toArray.size ≤ sizeLine := by rw [List.size_toArray, List.size_toArray]; omega
  have hlong : ¬ (!its.toArray.isEmpty && Builtin.List.listTooLong (its.toArray.size + its2.toArray.size)) = true := by
    rw [notLongL hsz, Bool.and_false]
    exact Bool.false_ne_true
  refine call_meets F.slot_list_extend ⟨_, e, rfl⟩ F.entry_list_extend (F.args_list_extend_2 _ _)
    (AutoSeq1.list_extend_list_list_0 l its.toArray n b its2.toArray n2 hlong (by rw [List.size_toArray]; omega) (by omega)) ⟨e, e2, ?_⟩
  refine ⟨.non, _, I.lset (its' := its ++ its2) hH e (by simp) (r.append r2) ?_, rfl, q⟩
  rw [List.length_append]
  omega
def rPop : V → List V → Hp → VK → Prop := fun x vs H Q => ∃ l xs y, x = .ref l ∧ vs = [] ∧ H l = some (.lst xs) ∧ xs[xs.length - 1]? = some y ∧ Q y (upd H l (.lst xs.dropLast))
def rPopAt : V → List V → Hp → VK → Prop := fun x vs H Q => ∃ l xs i k y, x = .ref l ∧ vs = [.int i] ∧ H l = some (.lst xs) ∧ -(2 ^ 63) ≤ i ∧ i < 2 ^ 63 ∧ seqIndex? i xs.length = some k ∧ xs[k]? = some y ∧ Q y (upd H l (.lst (xs.eraseIdx k)))
def rReverse : V → List V → Hp → VK → Prop := fun x vs H Q => ∃ l xs, x = .ref l ∧ vs = [] ∧ H l = some (.lst xs) ∧ Q .non (upd H l (.lst xs.reverse))
def rClear : V → List V → Hp → VK → Prop := fun x vs H Q => ∃ l xs, x = .ref l ∧ vs = [] ∧ H l = some (.lst xs) ∧ Q .non (upd H l (.lst []))
def rCat : R2 := fun x y H Q => ∃ l b xs zs, x = .ref l ∧ y = .ref b ∧ H l = some (.lst xs) ∧ H b = some (.lst zs) ∧ xs.length + zs.length ≤ sizeLine ∧ ∀ p, H p = none → Q (.ref p) (upd H p (.lst (xs ++ zs)))
theorem op_cat : OpR X (binaryOp .Add) rCat := by
  intro pins s σ H x y v u Q I rx ry h
  obtain ⟨l, b, xs, zs, rfl, rfl, hH, hB, hz, q⟩ := h
  cases rx
  cases ry
  obtain ⟨z, its, n, r, hl, e⟩ := I.lstM hH
  obtain ⟨z2, its2, n2, r2, hl2, e2⟩ := I.lstM hB
  refine PySem.P.add_list e e2 ?_ (by rw [List.size_toArray, List.size_toArray]; omega)
  have ea : its.toArray ++ its2.toArray = (its ++ its2).toArray := by simp
  rw [ea]
  exact ⟨.ref _, _, I.lnew (t' := s.toks) (r.append r2) (by rw [List.length_append]; omega), rfl, q _ I.fresh⟩
def rRep : R2 := fun x y H Q => ∃ l k xs, x = .ref l ∧ y = .int k ∧ H l = some (.lst xs) ∧ -(2 ^ 63) ≤ k ∧ k < 2 ^ 63 ∧ xs.length * k.toNat ≤ sizeLine ∧
  ∀ p, H p = none → Q (.ref p) (upd H p (.lst (List.replicate k.toNat xs).flatten))
theorem len_rep {α : Type} (xs : List α) (k : Nat) : (List.replicate k xs).flatten.length = k * xs.length := by
  induction k with
  | zero => simp
  | succ k ih => rw [List.replicate_succ, List.flatten_cons, List.length_append, ih, Nat.succ_mul, Nat.add_comm]
theorem op_rep : OpR X (binaryOp .Mult) rRep := by
  intro pins s σ H x y v u Q I rx ry h
  obtain ⟨l, k, xs, rfl, rfl, hH, h1, h2, hz, q⟩ := h
  cases rx
  obtain ⟨t, rfl⟩ := ry
  obtain ⟨z, its, n, r, hl, e⟩ := I.lstM hH
  have hlen : its.toArray.size * k.toNat ≤ sizeLine := by rw [List.size_toArray, ← hl]; exact hz
  have hcap : ¬ its.toArray.size * k.toNat > (2 ^ 63 - 1) / 8 := by
    have : (sizeLine : Nat) ≤ (2 ^ 63 - 1) / 8 := by decide
    omega
  have hfit : ¬ (!Builtin.List.listFitsIndex k) = true := by
    rw [fitsIndex_both h1 h2]
    exact Bool.false_ne_true
  have hlong : ¬ Builtin.List.listTooLong (its.toArray.size * k.toNat) = true := by
    rw [notLongL hlen]
    exact Bool.false_ne_true
  have hnew : List.foldl (fun x1 x2 => x1 ++ x2) #[] (List.replicate (if its.toArray.isEmpty = true then 0 else k.toNat) its.toArray) = (List.replicate k.toNat its).flatten.toArray := by
    have f0 : ∀ m : Nat, List.foldl (fun x1 x2 => x1 ++ x2) #[] (List.replicate m its.toArray) = (List.replicate m its).flatten.toArray := fun m => by
      have := foldl_rep its m []
      rw [List.nil_append] at this
      exact this
    rw [f0]
    cases its with
    | nil => simp
    | cons a r' => rw [if_neg (by simp)]
  refine wpAny_binaryOp_repeat_ref (T := "list") (U := "int") (by decide) ⟨_, e, rfl⟩ (fun s' => typeIs_int s' k t) noFill_list_mul F.fills_int_mul F.slot_int_rmul repeat_list F.slot_int_index.lookup
    (call_meets F.slot_int_rmul (typeIs_int s k t) F.entry_int_rmul (F.args_int_rmul_2 _ _) (int___rmul___int_list k t l its.toArray n)
      ⟨e, rfl, ⟨_, e, rfl⟩, call_meets F.slot_list_mul ⟨_, e, rfl⟩ F.entry_list_mul (F.args_list_mul_2 _ _) (AutoListH.list___mul___list_int_3 l its.toArray n k t hfit hcap hlong) ⟨e, ?_⟩⟩)
  rw [hnew]
  exact ⟨.ref _, _, I.lnew (t' := s.toks) (r.rep k.toNat) (by rw [len_rep, Nat.mul_comm]; exact hz), rfl, q _ I.fresh⟩
end
section
variable {prog : Program} {w : World} {A : Around} {E : Value → Shared → Prop} {s : Shared}
set_option maxRecDepth 100000 in
end
section
variable {X : Cx}
end
end L2
namespace Att
open PySem PySem.W PySem.Calls PyProof.Rows
theorem ints_of_wellAll {P : Params} {h : Heap} : ∀ (ns : List Int) (vs : List Value), WellAll P h vs (ns.map WData.int) → IntsAre vs ns := by
  intro ns
  induction ns with
  | nil =>
    intro vs w
    rw [List.map_nil] at w
    cases w
    exact .nil
  | cons n ns ih =>
    intro vs w
    rw [List.map_cons] at w
    cases w with
    | cons a b =>
      cases a
      exact .cons _ _ (ih _ b)
theorem script_of {l : OpenLaw} {n : Nat} (hn : l.most = some n) {P : Params} {h : Heap} {args : List WData} {vals : List Value}
    (hpre : l.row.toRowW.claim.pre args = true) (hwl : WellAll P h vals args) :
    ∃ a vs ns, vals = [Value.ref a] ∧ args = [WData.list (ns.map WData.int)] ∧ h.get? a = some { cls := .type "list", data := .seq vs.toArray } ∧ IntsAre vs ns ∧ ns.length ≤ n := by
  have hsh : WShape.hasAll [] args [.list .int] = true := (pre_splitW hpre).1
  have hc : l.pre.holds [] { args := args } = true := (pre_splitW hpre).2
  obtain ⟨d, r, rfl, h1, h2⟩ := hasAllW_cons hsh
  obtain rfl := hasAllW_nil h2
  obtain ⟨xs, rfl, h3⟩ := hasW_list h1
  obtain ⟨ns, rfl⟩ := items_int h3
  have hlen : ns.length ≤ n := by
    unfold OpenLaw.pre at hc
    have h4 : (WTm.not (.lt (.lit (.int (n : Int))) (.len (.arg 0)))).holds [] { args := [.list (ns.map .int)] } = true := by
      have h4 := (holds_andW hc).1
      rw [hn] at h4
      exact h4
    have h5 := condW_of h4 (w_not (w_lt w_lit (w_len_list (w_arg rfl))))
    rw [List.length_map] at h5
    refine Nat.le_of_not_lt fun q => ?_
    have q' : (n : Int) < ((ns.length : Nat) : Int) := by omega
    first
      | (rw [decide_eq_true q'] at h5; exact absurd h5 (by decide))
      | (simp at h5; omega)
  cases hwl with
  | cons w1 w2 =>
    cases w2
    cases w1 with
    | list ho hall => exact ⟨_, _, ns, rfl, rfl, ho, ints_of_wellAll ns _ hall, hlen⟩
theorem post_true (l : OpenLaw) (args : List WData) : l.row.toRowW.claim.post args (.bool true) args = true :=
  postW_of (r := l.row.toRowW) (X := (true == true))
    (show WShape.has [] (.bool true) .bool = true by first | rfl | decide | simp [WShape.has, WShape.arms, WShape.armsAll])
    (show (WTm.eq .res (.lit (.bool true))).value [] { args := args, res := some (.bool true), after := args } = some (.bool (true == true)) from w_eq_bool (w_res rfl) w_lit) rfl
theorem attach_call {l : OpenLaw} {n : Nat} {q : Program} {loose : List Str} {XP : (Str → Option Value) → Heap → Prop} {YP : World → Heap → Prop} {d : DefRec}
    (hn : l.most = some n) (hdf : d.params.defaults = [])
    (call : ∀ (w : World) (s₀ s₁ : Shared) (mg mb : Str → Option Value) (fa : Addr) (o : Obj) (pm cd doc : Value) (a : Addr) (vs : List Value) (ns : List Int),
      Ground q loose [] XP w s₀ mg mb s₁.heap → YP w s₁.heap →
      s₁.heap.get? fa = some o → o.data = .func (docDef d.name d.params d.body d.scope pm cd doc) → s₁.heap.CodeRec cd d.name → mg d.name = some (.ref fa) →
      s₁.heap.get? a = some { cls := .type "list", data := .seq vs.toArray } → IntsAre vs ns → ns.length ≤ n → s₁.gens = #[] →
      codeAny (model l.prog w) callerA (.call (.ref fa) ⟨[.ref a], []⟩) (fun r s' => r = .ok (.ret (.bool true)) ∧ OldK s₁.heap s'.heap ∧ s'.os = s₁.os ∧ AllBare s'.gens) s₁) :
    WalkO q loose XP YP l.row.toRowW d [] (fun f vs => PySem.call f vs) := by
  intro w s₀ s₁ mg mb G Y fa o pm cd doc dV kV ho hd hcd hD hmg hg args vals as hpre hlay hrd hwl hlo
  obtain rfl : dV = .none := Dflts.none hD hdf
  obtain rfl : kV = .none := Dflts.noKw hD
  obtain ⟨a, vs, ns, rfl, rfl, hobj, hints, hlen⟩ := script_of hn hpre hwl
  refine enter_call (codeAny_mono (call w s₀ s₁ mg mb fa o pm cd doc a vs ns G Y ho (fd_plain hd) hcd hmg hobj hints hlen hg) fun r s' hq => ?_)
  obtain ⟨rfl, h2, h3, h4⟩ := hq
  exact ⟨.inl ⟨.bool true, .bool true, [], rfl, fun _ => rfl, .bool true, post_true l _, fun _ => ⟨List.Pairwise.nil, fun _ hm => (nomatch hm)⟩⟩, h2, h3, h4⟩
section
variable {prog : Program} {w : World} {A : Around} {E : Value → Shared → Prop} {s : Shared} {K : Frag}
def noObjs (h : Heap) : Heap := { h with objs := #[] }
def ledger (h : Heap) (L d : Addr) : List (Addr × Obj) := (List.range h.objs.size).filterMap fun a => if a = L ∨ a = d then none else (h.get? a).map fun o => (a, o)
end
end Att
namespace L2
open PySem PySem.Spec PyProof.Rows
theorem vals_ints : ∀ {vs : List Value} {ns : List Int}, IntsAre vs ns → Vals (ns.map V.int) vs
  | _, _, .nil => .nil
  | _, _, .cons n t h => .cons ⟨t, rfl⟩ (vals_ints h)
def Only (H : Hp) : Prop := ∀ b, H b = none ∨ ∃ o xs, H b = some (.frz o (.lst xs))
theorem law_call {P : Program} {w : World} {K : PySem.W.Frag} {mg mb : Str → Option Value} {CX : CXT} {k : Nat} {fa a : Addr} {fd : FuncData} {x : Str} {sp : Sp} {s₁ : Shared} {vs : List Value} {ns : List Int}
    (KX : K.In s₁.heap) (hns : s₁.heap.Ns mainGlobals mg) (hb : s₁.heap.Ns builtinsNs mb) (hbb : ∀ x : Str, x ≠ "__name__" → mb x = bootBuiltins x) (hlim : s₁.heap.NoLimit) (hg : s₁.gens = #[])
    (ha : s₁.heap.get? a = some { cls := .type "list", data := .seq vs.toArray }) (hi : IntsAre vs ns) (hl : ns.length ≤ sizeLine) (hr : Room k callerA)
    (F : ∀ base : Heap, K.In base → base.Ns mainGlobals mg → FnOk P w K mg base CX k fa fd [x] sp) (hbind : ∀ (s : Shared) (u : Value), BindsTo s fd ⟨[u], []⟩ [(x, u)])
    (hsp : ∀ H : Hp, Only H → SqL K H a (ns.map V.int) → sp [.ref a] H (fun v _ => v = .bl true) fun _ _ _ => False)
    (hCX : ∀ H e s', CX [] H s₁ (fun _ _ _ => False) e s' → False) :
    codeAny (model P w) callerA (.call (.ref fa) ⟨[.ref a], []⟩) (fun r s' => r = .ok (.ret (.bool true)) ∧ OldK s₁.heap s'.heap ∧ s'.os = s₁.os ∧ AllBare s'.gens) s₁ := by
  have rv := vals_ints hi
  have lenV := hi.length
  -- from an abstract heap in which nothing but the script may be tracked
  have core : ∀ H : Hp, Only H → SqL K H a (ns.map V.int) → HOk P w H s₁.heap → (∀ b, H b ≠ none → b = a) → (H a ≠ none → K.lookup a = none) →
      codeAny (model P w) callerA (.call (.ref fa) ⟨[.ref a], []⟩) (fun r s' => r = .ok (.ret (.bool true)) ∧ OldK s₁.heap s'.heap ∧ s'.os = s₁.os ∧ AllBare s'.gens) s₁ := by
    intro H hO hS hok hA hK
    have base_of : ∀ {b : Addr} {o : Obj}, s₁.heap.get? b = some o → H b = none → (hidT s₁.heap H).get? b = some o := fun e n => hidT_get e n
    have noA : ∀ {b : Addr} {o : Obj} {es : Array DictEntry} {ep : Nat}, s₁.heap.get? b = some o → o.data = .dict es ep → H b = none := fun {b o es ep} e d => by
      cases q : H b with
      | none => rfl
      | some u =>
        have e' : b = a := hA b (by rw [q]; simp)
        subst e'
        rw [ha] at e; cases e
        have d' : Data.seq vs.toArray _ = Data.dict es ep := d
        cases d'
    have nsK : ∀ {b : Addr} {m : Str → Option Value}, s₁.heap.Ns b m → (hidT s₁.heap H).Ns b m := fun {b m} ⟨o, es, ep, e, d, r⟩ => ⟨o, es, ep, base_of e (noA e d), d, r⟩
    have hKb : K.In (hidT s₁.heap H) := fun b o e => base_of (KX b o e) (by
      cases q : H b with
      | none => rfl
      | some u =>
        have e' : b = a := hA b (by rw [q]; simp)
        subst e'
        rw [hK (by rw [q]; simp)] at e; cases e)
    have hM : Mod K mg (hidT s₁.heap H) := ⟨hKb, nsK hns, ⟨mb, nsK hb, hbb⟩, let ⟨mc, h1, h2⟩ := hlim; ⟨mc, nsK h1, h2⟩⟩
    have e0 : Env0 P w K mg (hidT s₁.heap H) callerA [] s₁ H := ⟨rfl, hM, fun b o e => of_hidT e, Nat.le_of_eq (hidT_size _ _), trivial, fun b hb => absurd (show b ∈ ([] : List Addr) from hb) (by simp), hok, .of_eq hg⟩
    refine codeAny_mono ((F _ hKb (nsK hns)).run callerA [] s₁ H ⟨[.ref a], []⟩ [.ref a] [.ref a] _ _ hr e0 (hbind s₁ (.ref a)) (.cons rfl .nil) (hsp H hO hS)) fun r s' h => ?_
    cases r with
    | error e => exact (hCX H e s' h).elim
    | ok fl =>
      cases fl with
      | next => exact False.elim h
      | brk => exact False.elim h
      | cont => exact False.elim h
      | ret u =>
        obtain ⟨v, H', os, bare, un, hok', r', q⟩ := h
        have q' : v = .bl true := q
        subst q'
        obtain rfl : u = Value.bool true := r'
        refine ⟨rfl, OldK.of_keep fun b o e => ?_, os, bare⟩
        cases q : H b with
        | none => exact un.keep b o e q (by intro z; exact absurd (show b ∈ ([] : List Addr) from z) (by simp)) (by simp)
        | some u =>
          rcases hO b with z | ⟨ob, xs, z⟩
          · rw [q] at z; cases z
          · have z2 := un.frzs b ob _ z
            obtain ⟨e1, _⟩ := hok b _ z
            obtain ⟨e2, _⟩ := hok' b _ z2
            rw [e] at e1; cases e1
            exact e2
  cases hk : K.lookup a with
  | some o =>
    -- the script is one of the module's own objects
    have e := KX a o hk
    rw [ha] at e
    cases e
    refine core (fun _ => none) (fun _ => .inl rfl) (.inr ⟨_, vs.toArray, _, hk, rfl, rfl, rfl, by rw [List.size_toArray, lenV]; exact hl, by simpa using rv⟩) (fun b u z => by have z' : (none : Option HO) = some u := z; cases z') (fun b z => absurd rfl z) fun z => absurd rfl z
  | none =>
    refine core (fun b => if b = a then some (.frz { cls := .type "list", data := .seq vs.toArray } (.lst (ns.map V.int))) else none) (fun b => ?_) (.inl (.inr ⟨{ cls := .type "list", data := .seq vs.toArray }, if_pos rfl⟩)) (fun b u z => ?_) (fun b z => ?_) fun _ => hk
    · by_cases hb : b = a
      · exact .inr ⟨_, _, if_pos hb⟩
      · exact .inl (if_neg hb)
    · by_cases hb : b = a
      · have z' := (if_pos hb).symm.trans z
        cases z'
        subst hb
        exact ⟨ha, by rw [List.length_map]; exact hl, vs, _, rv, ha⟩
      · have z' := (if_neg hb).symm.trans z
        cases z'
    · by_cases hb : b = a
      · exact hb
      · exact absurd (if_neg hb) z
end L2
namespace L2
open PySem PySem.Spec PyProof.Rows
abbrev KOf {K : PySem.W.Frag} {h : Heap} (_ : K.In h) : PySem.W.Frag := K
theorem walk_of {l : PySem.W.OpenLaw} {n k : Nat} {q : Program} {loose : List Str} {XP : (Str → Option Value) → Heap → Prop} {YP : World → Heap → Prop} {d : DefRec} {K : Params → PySem.W.Frag} {CX : World → CXT} {sp : World → Sp} {x : Str}
    (hn : l.most = some n) (hn2 : n ≤ sizeLine) (hdf : d.params.defaults = []) (hr : Room k callerA)
    (hY : ∀ (w : World) (h : Heap), YP w h → (K w.params).In h)
    (F : ∀ (w : World) (mg : Str → Option Value) (fa : Addr) (h : Heap), (K w.params).In h → h.Ns mainGlobals mg → mg d.name = some (.ref fa) →
      ∃ fd : FuncData, (∀ (s : Shared) (u : Value), BindsTo s fd ⟨[u], []⟩ [(x, u)]) ∧
        ∀ base : Heap, (K w.params).In base → base.Ns mainGlobals mg → FnOk l.prog w (K w.params) mg base (CX w) k fa fd [x] (sp w))
    (hsp : ∀ (w : World) (H : Hp) (a : Addr) (ns : List Int), ns.length ≤ n → Only H → SqL (K w.params) H a (ns.map V.int) → sp w [.ref a] H (fun v _ => v = .bl true) fun _ _ _ => False)
    (hCX : ∀ (w : World) (H : Hp) (s : Shared) (e : Value) (s' : Shared), CX w [] H s (fun _ _ _ => False) e s' → False) :
    PySem.W.WalkO q loose XP YP l.row.toRowW d [] (fun f vs => PySem.call f vs) := by
  refine Att.attach_call hn hdf fun w s₀ s₁ mg mb fa o pm cd doc a vs ns G Y ho hd hcd hmg hobj hints hlen hg => ?_
  have KX := hY w _ Y
  obtain ⟨fd, hb, hF⟩ := F w mg fa _ KX G.T.g hmg
  exact law_call KX G.T.g G.T.b G.T.builtins G.T.nolimit hg hobj hints (Nat.le_trans hlen hn2) hr hF hb (fun H hO hS => hsp w H a ns hlen hO hS) fun H e s' => hCX w H s₁ e s'
end L2
/- THE LAST THEOREM (shape; LID, My.* are yours):
   My.Adr: a structure of the addresses that your layer names (classes, functions); My.Txt K t: a structure (Prop) of the equations over K;
   My.txt_mk : {K} {implicit addresses ..} (e1 : nsIn K mainGlobals "law" = some (some (.ref f))) (e2 : K.lookup f = some ⟨oc, od, .func (fnOf "law" "law" params body scope dV kV doc pm an cdv ct), sl⟩) (e3 : codeIn K cdv "law" = true) .. : ∃ t, My.Txt K t
set_option maxRecDepth 100000 in
set_option maxHeartbeats 0 in
theorem PySem.Challenge.cw_LID_holds : PySem.Challenge.rw_LID.Holds := by
  w_on; o_law; k_head; (case hw => w_witness2)
  k_fill
  refine L2.walk_of (l := PySem.Challenge.rw_LID) (n := 63) (k := 40) (x := "script") (CX := fun w => ..) (sp := fun _ => My.sp_law) rfl (by decide) rfl ⟨rfl, by decide, by decide⟩ (fun w h Y => PySem.W.kIn_of Y) ?F ?S ?C
  case F =>
    intro w mg fa h KX G hmg
    have T : ∃ t, My.Txt (L2.KOf KX) t := by
      dsimp only [L2.KOf]                          -- K must stand as «<heap const> w.params» for k_is
      refine' My.txt_mk ?e1 ?e2 ?e3 ..
      (case e1 => PySem.W.k_is)                    -- in the order: a name -> its address -> its object -> its parts
      (case e2 => PySem.W.k_is)
      ..
    obtain ⟨t, T⟩ := T
    have e0 := hmg.symm.trans (PySem.W.mg_of KX G T.law)
    cases e0                                       -- fa is the law's own address
    exact ⟨_, fun s u => .of_eq rfl, fun base kb nb => My.law_fn T kb nb⟩     -- if «.of_eq rfl» comes too early: refine' ⟨_, ?b, fun base kb nb => My.law_fn T kb nb⟩; exact fun s u => .of_eq rfl
  case S => exact fun w H a ns hl hO hS => ..
  case C => exact ..
(the tactic k_is has no namespace: write k_is) -/
namespace L2
open PySem PySem.Spec PyProof.Rows
def inClass (s : Stmt) (j : Nat) : Stmt := match s with
  | .ClassDef _ _ _ body _ _ _ _ _ _ _ => body.getD j (.Pass ⟨0, 0, 0, 0⟩)
  | _ => .Pass ⟨0, 0, 0, 0⟩
def defArgs (s : Stmt) : Arguments := match s with
  | .FunctionDef _ a _ _ _ _ _ _ _ _ => a
  | _ => { posonlyargs := [], args := [], vararg := none, kwonlyargs := [], kw_defaults := [], kwarg := none, defaults := [] }
def defBody (s : Stmt) : List Stmt := match s with
  | .FunctionDef _ _ b _ _ _ _ _ _ _ => b
  | _ => []
def defScope (s : Stmt) : Scope := match s with
  | .FunctionDef _ _ _ _ _ _ sc _ _ _ => sc
  | _ => { kind := .function, names := [], isGenerator := false, isCoroutine := false }
abbrev CX0 : CXT := fun _ _ _ _ _ _ => False
abbrev E0 : XK := fun _ _ _ => False
theorem pass0 {X : Cx} : Passes CX0 X E0 := fun _ _ _ _ _ _ _ h => h.elim
structure Fun (K : PySem.W.Frag) (x qual : Str) (st : Stmt) (f : Addr) (fd : FuncData) : Prop where
  ex : ∃ (oc : Value) (od : Option Addr) (kV doc pm : Value) (an : Option Addr) (cdv ct : Value) (osl : Array (Option Value)),
    fd = PySem.W.fnOf x qual (defArgs st) (defBody st) (defScope st) .none kV doc pm an cdv ct ∧ K.lookup f = some ⟨oc, od, .func fd, osl⟩ ∧ PySem.W.codeIn K cdv qual = true
  kp : PySem.W.keepIn K (.ref f) = true
section
variable {P : Program} {w : World} {K : PySem.W.Frag} {mg : Str → Option Value} {base : Heap}
theorem Fun.ok {x qual : Str} {st : Stmt} {f : Addr} {fd : FuncData} {N ps : List Str} {k : Nat} {sp : Sp} (F : Fun K x qual st f fd) (S : FnScope N ps (defScope st)) (len : ∀ vs H Q E, sp vs H Q E → vs.length = ps.length)
    (hbody : ∀ (cdv : Value) (A : Around) (outer : List Env) (s : Shared) (H : Hp) (vs : List V) (Q : VK) (E : XK), Room k (A.deeper (envOfC qual (defScope st) s.heap.objs.size f cdv)) → sp vs H Q E →
      ∃ t, PSs (cxOf CX0 P w K mg base N qual (defScope st) f cdv A outer s H E).nox (defBody st) t ∧ t { nx := fun _ H' => Q .non H', rt := Q } (start N vs) H) : FnOk P w K mg base CX0 (k + 1) f fd ps sp := by
  obtain ⟨oc, od, kV, doc, pm, an, cdv, ct, osl, rfl, lk, hcd⟩ := F.ex
  refine fn_of lk hcd S len fun A outer s H vs Q E hr hsp => ?_
  obtain ⟨t, h, q⟩ := hbody cdv A outer s H vs Q E hr hsp
  exact ⟨t, h.nox, q⟩
theorem Fun.binds {x qual : Str} {st : Stmt} {f : Addr} {fd : FuncData} {ps : List Str} (F : Fun K x qual st f fd)
    (h : ∀ (kV doc pm : Value) (an : Option Addr) (cdv ct : Value) (us : List Value), us.length = ps.length → bindArgs (PySem.W.fnOf x qual (defArgs st) (defBody st) (defScope st) .none kV doc pm an cdv ct) ⟨us, []⟩ = pure (ps.zip us)) : Binds K fd ps [] := by
  obtain ⟨oc, od, kV, doc, pm, an, cdv, ct, osl, rfl, lk, hcd⟩ := F.ex
  exact .all (h kV doc pm an cdv ct)
theorem fun_mk {x qual : Str} {st : Stmt} {f : Addr} {oc : Value} {od an : Option Addr} {osl : Array (Option Value)} {kV doc pm cdv ct : Value} (l : K.lookup f = some ⟨oc, od, .func (PySem.W.fnOf x qual (defArgs st) (defBody st) (defScope st) .none kV doc pm an cdv ct), osl⟩)
    (c : PySem.W.codeIn K cdv qual = true) (k : PySem.W.keepIn K (.ref f) = true) : Fun K x qual st f (PySem.W.fnOf x qual (defArgs st) (defBody st) (defScope st) .none kV doc pm an cdv ct) := ⟨⟨oc, od, kV, doc, pm, an, cdv, ct, osl, rfl, l, c⟩, k⟩
end
theorem small1000 {n : Nat} (h : n ≤ 1000) : n < sizeLine := Nat.lt_of_le_of_lt h (by decide)
section
variable {X : Cx}
theorem pv (i : Nat) {x : Str} {pos : Pos} (hN : X.N[i]? = some x := by rfl) (hv : Vis X.env.scope x := by first | exact Or.inl rfl | exact Or.inr (Or.inl rfl) | exact Or.inr (Or.inr rfl)) (hd : (x == ("__debug__" : Str)) = false := by decide)
    (hcd : (x == ("__classdict__" : Str)) = false := by decide) : PE X (.Name x pos) (tVar i) := pe_var hN hv hd hcd
end
theorem iteF {A B : Prop} (h : B) : if false = true then A else B := by
  rw [if_neg Bool.false_ne_true]
  exact h
theorem iteT {A B : Prop} (h : A) : if true = true then A else B := by
  rw [if_pos rfl]
  exact h
theorem ite2 {c A B : Prop} [Decidable c] (h1 : c → A) (h2 : ¬ c → B) : if c then A else B := by
  by_cases h : c
  · rw [if_pos h]
    exact h1 h
  · rw [if_neg h]
    exact h2 h
def Same (H H' : Hp) : Prop := ∀ b o, H b = some o → H' b = some o
theorem Same.refl (H : Hp) : Same H H := fun _ _ h => h
theorem Same.trans {H H1 H2 : Hp} (a : Same H H1) (b : Same H1 H2) : Same H H2 := fun c o h => b c o (a c o h)
theorem Same.free {H H' : Hp} (e : Same H H') {l : Addr} (h : H' l = Option.none) : H l = Option.none := by
  cases q : H l with
  | none => rfl
  | some o =>
    rw [e l o q] at h
    cases h
theorem Same.seq {K : PySem.W.Frag} {H H' : Hp} {a : Addr} {xs : List V} (e : Same H H') (h : SqL K H a xs) : SqL K H' a xs := by
  rcases h with (h | ⟨o, h⟩) | h
  · exact .inl (.inl (e _ _ h))
  · exact .inl (.inr ⟨o, e _ _ h⟩)
  · exact .inr h
end L2
set_option maxHeartbeats 4000000
namespace L2
open PySem PySem.Spec PyProof.Rows
section
variable {κ : Type} [DecidableEq κ]
def valV (kvs : List (κ × V)) (k : κ) : Option V := (kvs.find? fun kv => decide (kv.1 = k)).map (·.2)
def putK (kvs : List (κ × V)) (k : κ) (v : V) : List (κ × V) :=
  if (kvs.any fun kv => decide (kv.1 = k)) = true then kvs.map (fun kv => if kv.1 = k then (kv.1, v) else kv) else kvs ++ [(k, v)]
def dropK (kvs : List (κ × V)) (k : κ) : List (κ × V) := kvs.filter fun kv => decide (kv.1 ≠ k)
theorem valV_pos {p : κ × V} {r : List (κ × V)} {k : κ} (e : p.1 = k) : valV (p :: r) k = some p.2 := by simp [valV, List.find?_cons, e]
theorem valV_neg {p : κ × V} {r : List (κ × V)} {k : κ} (e : ¬ p.1 = k) : valV (p :: r) k = valV r k := by simp [valV, List.find?_cons, e]
theorem valV_any (k : κ) : ∀ kvs : List (κ × V), (kvs.any fun kv => decide (kv.1 = k)) = (valV kvs k).isSome
  | [] => rfl
  | p :: r => by
    rw [List.any_cons]
    by_cases e : p.1 = k
    · simp only [valV_pos e, decide_eq_true e, Bool.true_or, Option.isSome_some]
    · rw [valV_neg e, decide_eq_false e, Bool.false_or]; exact valV_any k r
theorem putK_new {kvs : List (κ × V)} {k : κ} (v : V) (h : valV kvs k = none) : putK kvs k v = kvs ++ [(k, v)] := by
  unfold putK
  rw [valV_any, h]
  exact if_neg (by decide)
theorem RelO.isSome_eq {o : Option V} {u : Option Value} (r : RelO o u) : o.isSome = u.isSome := by
  cases o with
  | none => cases u with
    | none => rfl
    | some _ => exact (show False from r).elim
  | some _ => cases u with
    | none => exact (show False from r).elim
    | some _ => rfl
theorem RelO.getD {o : Option V} {u : Option Value} {d : V} {d' : Value} (r : RelO o u) (rd : RelV d d') : RelV (o.getD d) (u.getD d') := by
  cases o with
  | none => cases u with
    | none => exact rd
    | some _ => exact (show False from r).elim
  | some _ => cases u with
    | none => exact (show False from r).elim
    | some _ => exact r
theorem KV.val {kvs : List (κ × V)} {vs : List (κ × Value)} (r : KV kvs vs) (k : κ) : RelO (valV kvs k) (valueAt vs k) := by
  unfold KV at r
  induction r with
  | nil => exact True.intro
  | @cons p q ps qs h t ih =>
    obtain ⟨h1, h2⟩ := h
    by_cases e : p.1 = k
    · have e' : q.1 = k := h1.symm.trans e
      have b : valueAt (q :: qs) k = some q.2 := by simp [valueAt, List.find?_cons, e']
      rw [valV_pos e, b]; exact h2
    · have e' : ¬ q.1 = k := fun z => e (h1.trans z)
      have b : valueAt (q :: qs) k = valueAt qs k := by simp [valueAt, List.find?_cons, e']
      rw [valV_neg e, b]; exact ih
theorem KV.any {kvs : List (κ × V)} {vs : List (κ × Value)} (r : KV kvs vs) (k : κ) : (kvs.any fun kv => decide (kv.1 = k)) = vs.any fun kv => decide (kv.1 = k) := by
  unfold KV at r
  induction r with
  | nil => rfl
  | cons h t ih => rw [List.any_cons, List.any_cons, ih, h.1]
theorem KV.repl {kvs : List (κ × V)} {vs : List (κ × Value)} (r : KV kvs vs) (k : κ) {y : V} {u : Value} (ry : RelV y u) :
    KV (kvs.map fun kv => if kv.1 = k then (kv.1, y) else kv) (vs.map fun kv => if kv.1 = k then (kv.1, u) else kv) := by
  unfold KV at r ⊢
  induction r with
  | nil => exact .nil
  | @cons p q ps qs h t ih =>
    rw [List.map_cons, List.map_cons]
    refine .cons ?_ ih
    obtain ⟨h1, h2⟩ := h
    by_cases e : p.1 = k
    · rw [if_pos e, if_pos (h1.symm.trans e)]; exact ⟨h1, ry⟩
    · rw [if_neg e, if_neg (fun z => e (h1.trans z))]; exact ⟨h1, h2⟩
theorem KV.put {kvs : List (κ × V)} {vs : List (κ × Value)} (r : KV kvs vs) (k : κ) {y : V} {u : Value} (ry : RelV y u) : KV (putK kvs k y) (stored vs k u) := by
  unfold putK stored
  rw [r.any k]
  by_cases e : (vs.any fun kv => decide (kv.1 = k)) = true
  · rw [if_pos e, if_pos e]; exact r.repl k ry
  · rw [if_neg e, if_neg e]; exact Paired.snoc r ⟨rfl, ry⟩
theorem KV.drop {kvs : List (κ × V)} {vs : List (κ × Value)} (r : KV kvs vs) (k : κ) : KV (dropK kvs k) (without vs k) := by
  unfold KV at r ⊢
  unfold dropK without
  induction r with
  | nil => exact .nil
  | @cons p q ps qs h t ih =>
    obtain ⟨h1, h2⟩ := h
    rw [List.filter_cons, List.filter_cons]
    by_cases e : p.1 = k
    · have a : ¬ decide (p.1 ≠ k) = true := by simp [e]
      have b : ¬ decide (q.1 ≠ k) = true := by simp [h1.symm.trans e]
      rw [if_neg a, if_neg b]; exact ih
    · have e' : ¬ q.1 = k := fun z => e (h1.trans z)
      have a : decide (p.1 ≠ k) = true := by simp [e]
      have b : decide (q.1 ≠ k) = true := by simp [e']
      rw [if_pos a, if_pos b]; exact .cons ⟨h1, h2⟩ ih
theorem KV.keys {kvs : List (κ × V)} {vs : List (κ × Value)} (r : KV kvs vs) : kvs.map (·.1) = vs.map (·.1) := by
  unfold KV at r
  induction r with
  | nil => rfl
  | cons h t ih => rw [List.map_cons, List.map_cons, ih, h.1]
theorem KV.length {kvs : List (κ × V)} {vs : List (κ × Value)} (r : KV kvs vs) : kvs.length = vs.length := Paired.length r
end
theorem kV_is {P : Program} {w : World} {k : Key} {u : Value} (r : RelV (kV k) u) : (mixKind P w).is k u = true := by
  cases k with
  | inl i => obtain ⟨t, e⟩ := (show ∃ t, u = Value.int i t from r); subst e; exact mixKind_int P w i t
  | inr x => obtain ⟨t, e⟩ := (show ∃ t, u = Value.str x t from r); subst e; exact mixKind_str P w x t
theorem kV_inj {a b : Key} (e : kV a = kV b) : a = b := by
  cases a with
  | inl i => cases b with
    | inl j => have e' : V.int i = V.int j := e; injection e' with e'; rw [e']
    | inr y => exact nomatch (show V.int i = V.str y from e)
  | inr x => cases b with
    | inl j => exact nomatch (show V.str x = V.int j from e)
    | inr y => have e' : V.str x = V.str y := e; injection e' with e'; rw [e']
theorem kVs_inj : ∀ {a b : List Key}, a.map kV = b.map kV → a = b
  | [], [], _ => rfl
  | [], _ :: _, e => by simp at e
  | _ :: _, [], e => by simp at e
  | x :: xs, y :: ys, e => by
    rw [List.map_cons, List.map_cons] at e
    injection e with e1 e2
    rw [kV_inj e1, kVs_inj e2]
theorem items_are {P : Program} {w : World} : ∀ {ks : List Key} {us : List Value}, Vals (ks.map kV) us → ItemsAre (mixKind P w) ks us
  | [], _, r => by rw [List.map_nil] at r; cases r; exact .nil
  | k :: ks, _, r => by
    rw [List.map_cons] at r
    cases r with
    | cons h t => exact .cons (kV_is h) (items_are t)
abbrev KT (H : Hp) : List (List Key × V) → List (List Key × Addr × Value) → Prop := Paired fun p q => p.1 = q.1 ∧ H q.2.1 = some (.tup (p.1.map kV)) ∧ RelV p.2 q.2.2
theorem KT.val {H : Hp} {kvs : List (List Key × V)} {xs : List (List Key × Addr × Value)} (r : KT H kvs xs) (k : List Key) : RelO (valV kvs k) ((atKey xs k).map (·.2)) := by
  induction r with
  | nil => exact True.intro
  | @cons p q ps qs h t ih =>
    obtain ⟨h1, _, h2⟩ := h
    by_cases e : p.1 = k
    · have e' : q.1 = k := h1.symm.trans e
      have b : atKey (q :: qs) k = some q.2 := by simp [atKey, List.find?_cons, e']
      rw [valV_pos e, b]; exact h2
    · have e' : ¬ q.1 = k := fun z => e (h1.trans z)
      have b : atKey (q :: qs) k = atKey qs k := by simp [atKey, List.find?_cons, e']
      rw [valV_neg e, b]; exact ih
theorem KT.repl {H : Hp} {kvs : List (List Key × V)} {xs : List (List Key × Addr × Value)} (r : KT H kvs xs) (k : List Key) {y : V} {u : Value} (ry : RelV y u) :
    KT H (kvs.map fun kv => if kv.1 = k then (kv.1, y) else kv) (xs.map (putAt k u)) := by
  induction r with
  | nil => exact .nil
  | @cons p q ps qs h t ih =>
    rw [List.map_cons, List.map_cons]
    refine .cons ?_ ih
    obtain ⟨h1, h2, h3⟩ := h
    unfold putAt
    by_cases e : p.1 = k
    · rw [if_pos e, if_pos (h1.symm.trans e)]; exact ⟨h1, h2, ry⟩
    · rw [if_neg e, if_neg (fun z => e (h1.trans z))]; exact ⟨h1, h2, h3⟩
theorem KT.put {H : Hp} {kvs : List (List Key × V)} {xs : List (List Key × Addr × Value)} (r : KT H kvs xs) (k : List Key) {b : Addr} {y : V} {u : Value} (hb : H b = some (.tup (k.map kV))) (ry : RelV y u) :
    KT H (putK kvs k y) (storedH xs k b u) := by
  have e : (kvs.any fun kv => decide (kv.1 = k)) = (atKey xs k).isSome := by
    rw [valV_any, (r.val k).isSome_eq, Option.isSome_map]
  unfold putK storedH
  rw [e]
  by_cases q : (atKey xs k).isSome = true
  · rw [if_pos q, if_pos q]; exact r.repl k ry
  · rw [if_neg q, if_neg q]; exact Paired.snoc r ⟨rfl, hb, ry⟩
theorem KT.keeps {H H' : Hp} {kvs : List (List Key × V)} {xs : List (List Key × Addr × Value)} (r : KT H kvs xs) (ht : ∀ b ys, H b = some (.tup ys) → H' b = some (.tup ys)) : KT H' kvs xs :=
  Paired.mapP r fun _ _ z => ⟨z.1, ht _ _ z.2.1, z.2.2⟩
section
variable {P : Program} {w : World} {H : Hp} {h : Heap} {a : Addr}
theorem rd_of {u : HO} (ok : HOk P w H h) (e : Rd H a u) : ObjOk P w H h a u := e.ok ok
theorem key_of {ks : List Key} (ok : HOk P w H h) (e : H a = some (.tup (ks.map kV))) : (tupleKind (mixKind P w)).is h ks a := by
  obtain ⟨_, its, r, o, h1, h2, n, h3⟩ := (show ObjOk P w H h a (.tup (ks.map kV)) from ok a _ e)
  exact ⟨o, its.toArray, n, h1, h2, h3, by simpa using items_are r⟩
end
def DGet (H : Hp) (a : Addr) (y : V) (r : Option V) : Prop :=
  (∃ kvs k, Rd H a (.dK kvs) ∧ y = kV k ∧ r = valV kvs k) ∨ ∃ kvs k b, Rd H a (.dT kvs) ∧ y = .ref b ∧ H b = some (.tup (k.map kV)) ∧ r = valV kvs k
def DPut (H : Hp) (a : Addr) (y v : V) (H' : Hp) : Prop :=
  (∃ kvs k, H a = some (.dK kvs) ∧ y = kV k ∧ kvs.length < sizeLine ∧ H' = upd H a (.dK (putK kvs k v))) ∨
  ∃ kvs k b, H a = some (.dT kvs) ∧ y = .ref b ∧ H b = some (.tup (k.map kV)) ∧ kvs.length < sizeLine ∧ H' = upd H a (.dT (putK kvs k v))
theorem DGet.k {H : Hp} {a : Addr} {kvs : List (Key × V)} {k : Key} (e : H a = some (.dK kvs)) : DGet H a (kV k) (valV kvs k) := .inl ⟨kvs, k, .inl e, rfl, rfl⟩
theorem DGet.t {H : Hp} {a b : Addr} {kvs : List (List Key × V)} {k : List Key} (e : H a = some (.dT kvs)) (eb : H b = some (.tup (k.map kV))) : DGet H a (.ref b) (valV kvs k) := .inr ⟨kvs, k, b, .inl e, rfl, eb, rfl⟩
theorem DPut.k {H : Hp} {a : Addr} {kvs : List (Key × V)} {k : Key} {v : V} (e : H a = some (.dK kvs)) (hl : kvs.length < sizeLine) : DPut H a (kV k) v (upd H a (.dK (putK kvs k v))) := .inl ⟨kvs, k, e, rfl, hl, rfl⟩
theorem DPut.t {H : Hp} {a b : Addr} {kvs : List (List Key × V)} {k : List Key} {v : V} (e : H a = some (.dT kvs)) (eb : H b = some (.tup (k.map kV))) (hl : kvs.length < sizeLine) :
    DPut H a (.ref b) v (upd H a (.dT (putK kvs k v))) := .inr ⟨kvs, k, b, e, rfl, eb, hl, rfl⟩
section
variable {X : Cx} {pins : List (Addr × Obj)} {σ : St} {H : Hp} {s : Shared} {a : Addr} {y v : V} {u r : Value} {o : Option V} {A : Around} {E : Value → Shared → Prop}
theorem Inv.big (I : Inv X pins σ H s) : sysModules < s.heap.objs.size := by
  have h : mainGlobals < s.heap.objs.size := (I.mod.glob.keeps I.bk).lt
  exact Nat.lt_trans (by decide) h
theorem d_write {h' : Heap} {t' : Nat} {ob : HO} (I : Inv X pins σ H s) (mu : Mut (H a)) (hs : Heap.SameBut a s.heap h') (he : ∃ q, h'.get? a = some q) (new : ObjOk X.prog X.w (upd H a ob) h' a ob) :
    Inv X pins σ (upd H a ob) { s with heap := h', toks := t' } :=
  I.write (x := a) (e := a) mu (.inl rfl) (fun b q hb z => (hs.2 b hb).trans z) he new
end
section
variable {X : Cx} {pins : List (Addr × Obj)} {σ : St} {H : Hp} {s : Shared} {a : Addr} {kvs : List (Key × V)} {k : Key} {u : Value} {A : Around} {E : Value → Shared → Prop}
end
def NoSl (i : Expr) : Prop := ∀ ov iv, subscripted i false ov iv = operate [ov, iv] (getItem ov iv)
theorem subD_of {prog : Program} {w : World} {A : Around} {E : Value → Shared → Prop} {s : Shared} {env : Env} {value slice : Expr} {pos : Pos} {T id : String} {Q : Value → Shared → Prop}
    (hl : typeLookup (.type T) "__getitem__" = pure (some (.builtin id))) (hs : NoSl slice)
    (h : wpAny (model prog w) A (eval value env) (fun o s₁ => wpAny (model prog w) A (eval slice env) (fun i s₂ => s₂.TypeIs o T ∧ wpAny (model prog w) A (getItem o i) Q E s₂) E s₁) E s) :
    wpAny (model prog w) A (eval (.Subscript value slice pos) env) Q E s := by
  refine Subscript_ (wpAny_mono h (fun o s₁ h₁ => wpAny_mono h₁ (fun i s₂ h₂ => ?_) fun _ _ x => x) fun _ _ x => x)
  obtain ⟨hT, h₂⟩ := h₂
  unfold subscriptTail
  refine wpAny_bind ?_
  rw [getitemInPython_of_ne hT.not_modules]
  refine wpAny_bind (wpAny_specialOf hT hl ?_)
  have fin : wpAny (model prog w) A (subscripted slice false o i) (fun r s₃ => wpAny (model prog w) A (letTemporaryGo value o r >>= fun _ => pure r) Q E s₃) E s₂ := by
    rw [hs o i]
    exact wpAny_operating (wpAny_mono h₂ (fun r s₃ h₃ => wpAny_bind (wpAny_letTemporaryGo (wpAny_pure h₃))) fun _ _ x => x)
  first
    | exact wpAny_pure (wpAny_bind fin)
    | exact wpAny_bind (wpAny_pure (wpAny_bind fin))
    | exact wpAny_bind fin
def tDGet (td ty : TE) : TE := fun σ H Q => td σ H fun x H1 => ty σ H1 fun y H2 => ∃ a v, x = .ref a ∧ DGet H2 a y (some v) ∧ Q v H2
def tDIn (ty td : TE) : TE := fun σ H Q => ty σ H fun y H1 => td σ H1 fun x H2 => ∃ a o, x = .ref a ∧ DGet H2 a y o ∧ Q (.bl o.isSome) H2
def tDNotIn (ty td : TE) : TE := fun σ H Q => ty σ H fun y H1 => td σ H1 fun x H2 => ∃ a o, x = .ref a ∧ DGet H2 a y o ∧ Q (.bl (!o.isSome)) H2
def sDPut (td ty tv : TE) : TS := fun D σ H => tv σ H fun v H1 => td σ H1 fun x H2 => ty σ H2 fun y H3 => ∃ a H4, x = .ref a ∧ DPut H3 a y v H4 ∧ D.nx σ H4
def sDAug (td ty tv : TE) (rd : V → V → Hp → VK → Prop) : TS := fun D σ H => td σ H fun x H1 => ty σ H1 fun y H2 => ∃ a v, x = .ref a ∧ DGet H2 a y (some v) ∧
  tv σ H2 fun y2 H3 => rd v y2 H3 fun z H4 => ∃ H5, DPut H4 a y z H5 ∧ D.nx σ H5
def sDDel (td ty : TE) : TS := fun D σ H => td σ H fun x H1 => ty σ H1 fun y H2 => ∃ a kvs k, x = .ref a ∧ H2 a = some (.dK kvs) ∧ y = kV k ∧ (valV kvs k).isSome = true ∧ D.nx σ (upd H2 a (.dK (dropK kvs k)))
section
variable {X : Cx} {o i e value : Expr} {pos pos' tpos : Pos} {td ty tv : TE}
end
def tDNewK : TE := fun _ H Q => ∀ p, H p = none → Q (.ref p) (upd H p (.dK []))
def tDNewT : TE := fun _ H Q => ∀ p, H p = none → Q (.ref p) (upd H p (.dT []))
section
variable {X : Cx} {pos : Pos}
end
def tPairs : List (TE × TE) → St → Hp → (List (V × V) → Hp → Prop) → Prop
  | [], _, H, Q => Q [] H
  | (tk, tv) :: r, σ, H, Q => tk σ H fun x H1 => tv σ H1 fun y H2 => tPairs r σ H2 fun ps H3 => Q ((x, y) :: ps) H3
abbrev VV : List (V × V) → List (Value × Value) → Prop := Paired fun p q => RelV p.1 q.1 ∧ RelV p.2 q.2
def PPs (X : Cx) (pos : Pos) (keys : List (Option Expr)) (values : List Expr) (trs : List (TE × TE)) : Prop :=
  ∀ (pins : List (Addr × Obj)) (s : Shared) (σ : St) (H : Hp) (Q : List (V × V) → Hp → Prop), Inv X pins σ H s → tPairs trs σ H Q →
    wpAny (model X.prog X.w) X.A (evalPairs (pairTrees keys values X.env pos)) (fun vs s' => ∃ ps H', Inv X pins σ H' s' ∧ VV ps vs ∧ Q ps H') X.xe s
def mergeK (kvs more : List (Key × V)) : List (Key × V) := more.foldl (fun acc kv => putK acc kv.1 kv.2) kvs
def tDisp (trs : List (TE × TE)) : TE := fun σ H Q => ∀ p, H p = none → tPairs trs σ (upd H p (.dK [])) fun ps H2 => H2 p = some (.dK []) ∧ ∃ kvs : List (Key × V), ps = kvs.map (fun kv => (kV kv.1, kv.2)) ∧ kvs.length ≤ 15 ∧ Q (.ref p) (upd H2 p (.dK (mergeK [] kvs)))
structure M1 (X : Cx) (o : Expr) (m : Str) (apos : Pos) (e : Expr) (cpos : Pos) : Prop where
  base : attributeBase o m X.env (eval o X.env) = eval o X.env
  few : ((backTo cpos (starEach [e] X.env)).all (fun x => !x.1) && (backToKw cpos (keywordEach [] X.env)).all (fun x => x.1.isSome)
    && decide (([e] : List Expr).length + ([] : List Keyword).length + (if ([] : List Keyword).isEmpty then 0 else 1) < 30)) = true
  line : (apos.endLine == cpos.line) = true
  trees : backTo cpos (starEach [e] X.env) = [(false, eval e X.env)]
structure M2 (X : Cx) (o : Expr) (m : Str) (apos : Pos) (e f : Expr) (cpos : Pos) : Prop where
  base : attributeBase o m X.env (eval o X.env) = eval o X.env
  few : ((backTo cpos (starEach [e, f] X.env)).all (fun x => !x.1) && (backToKw cpos (keywordEach [] X.env)).all (fun x => x.1.isSome)
    && decide (([e, f] : List Expr).length + ([] : List Keyword).length + (if ([] : List Keyword).isEmpty then 0 else 1) < 30)) = true
  line : (apos.endLine == cpos.line) = true
  trees : backTo cpos (starEach [e, f] X.env) = [(false, eval e X.env), (false, eval f X.env)]
def IsD (H : Hp) (a : Addr) : Prop := (∃ kvs, Rd H a (.dK kvs)) ∨ ∃ kvs, Rd H a (.dT kvs)
section
variable {X : Cx} {pins : List (Addr × Obj)} {σ : St} {H : Hp} {s : Shared} {a : Addr} {y d : V} {u r : Value} {o : Option V} {A : Around} {E : Value → Shared → Prop}
end
def tDGet1 (td ty : TE) : TE := fun σ H Q => td σ H fun x H1 => ∃ a, x = .ref a ∧ IsD H1 a ∧ ty σ H1 fun y H2 => ∃ o, DGet H2 a y o ∧ Q (o.getD .non) H2
def tDGet2 (td ty tx : TE) : TE := fun σ H Q => td σ H fun x H1 => ∃ a, x = .ref a ∧ IsD H1 a ∧ ty σ H1 fun y H2 => tx σ H2 fun z H3 => ∃ o, DGet H3 a y o ∧ Q (o.getD z) H3
def tDPop1 (td ty : TE) : TE := fun σ H Q => td σ H fun x H1 => ∃ a, x = .ref a ∧ IsD H1 a ∧ ty σ H1 fun y H2 => ∃ kvs k v, H2 a = some (.dK kvs) ∧ y = kV k ∧ valV kvs k = some v ∧ Q v (upd H2 a (.dK (dropK kvs k)))
def tDPop2 (td ty tx : TE) : TE := fun σ H Q => td σ H fun x H1 => ∃ a, x = .ref a ∧ IsD H1 a ∧ ty σ H1 fun y H2 => tx σ H2 fun z H3 => ∃ kvs k, H3 a = some (.dK kvs) ∧ y = kV k ∧
  (∀ v, valV kvs k = some v → Q v (upd H3 a (.dK (dropK kvs k)))) ∧ (valV kvs k = none → Q z H3)
section
variable {X : Cx} {o e f : Expr} {apos cpos : Pos} {td ty tx : TE}
end
section
variable {X : Cx} {pins : List (Addr × Obj)} {σ : St} {H : Hp} {s : Shared} {a : Addr} {kvs : List (Key × V)} {A : Around} {E : Value → Shared → Prop}
end
section
variable {X : Cx} {pins : List (Addr × Obj)} {σ : St} {H : Hp} {s : Shared} {a : Addr} {y : V} {u : Value} {A : Around} {E : Value → Shared → Prop}
end
end L2
namespace L2
open PySem PySem.Spec PyProof.Rows
section
variable {X : Cx}
end
section
variable {κ : Type} [DecidableEq κ]
theorem nd_snoc : ∀ {l : List κ} {k : κ}, l.Nodup → ¬ k ∈ l → (l ++ [k]).Nodup
  | [], k, _, _ => by simp
  | a :: r, k, h, hk => by
    obtain ⟨h1, h2⟩ := List.nodup_cons.mp h
    show (a :: (r ++ [k])).Nodup
    refine List.nodup_cons.mpr ⟨fun m => ?_, nd_snoc h2 fun m => hk (List.mem_cons.mpr (Or.inr m))⟩
    rcases List.mem_append.mp m with q | q
    · exact h1 q
    · exact hk (List.mem_cons.mpr (Or.inl (List.mem_singleton.mp q).symm))
end
end L2
namespace Blk
open PySem
def J : List (List Nat) → List Nat
  | [] => []
  | [x] => x
  | x :: y :: r => x ++ 32 :: J (y :: r)
def C : List Nat → List (List Nat)
  | [] => [[]]
  | c :: r => if c = 32 then [] :: C r else match C r with
    | [] => [[c]]
    | p :: ps => (c :: p) :: ps
theorem C_free : ∀ (x : List Nat), 32 ∉ x → C x = [x]
  | [], _ => rfl
  | c :: r, h => by
    have h1 : ¬ c = 32 := fun e => h (by rw [e]; exact List.mem_cons_self)
    have ih := C_free r fun m => h (List.mem_cons_of_mem _ m)
    show (if c = 32 then _ else _) = _
    rw [if_neg h1, ih]
theorem C_app : ∀ (x r : List Nat), 32 ∉ x → C (x ++ 32 :: r) = x :: C r
  | [], r, _ => by
    show (if 32 = 32 then _ else _) = _
    rw [if_pos rfl]
  | c :: x, r, h => by
    have h1 : ¬ c = 32 := fun e => h (by rw [e]; exact List.mem_cons_self)
    have ih := C_app x r fun m => h (List.mem_cons_of_mem _ m)
    show (if c = 32 then _ else match C (x ++ 32 :: r) with | [] => [[c]] | p :: ps => (c :: p) :: ps) = _
    rw [if_neg h1, ih]
theorem C_J : ∀ (ps : List (List Nat)), ps ≠ [] → (∀ p ∈ ps, 32 ∉ p) → C (J ps) = ps
  | [], h, _ => absurd rfl h
  | [x], _, h => C_free x (h x List.mem_cons_self)
  | x :: y :: r, _, h => by
    show C (x ++ 32 :: J (y :: r)) = _
    rw [C_app x _ (h x List.mem_cons_self), C_J (y :: r) (by intro e; cases e) fun p hp => h p (List.mem_cons_of_mem _ hp)]
theorem J_snoc : ∀ (ws : List (List Nat)) (w : List Nat), J (ws ++ [w]) = (ws.map (· ++ [32])).flatten ++ w
  | [], w => rfl
  | [x], w => by
    show x ++ 32 :: w = _
    simp
  | x :: y :: r, w => by
    have ih := J_snoc (y :: r) w
    show x ++ 32 :: J (y :: r ++ [w]) = _
    rw [ih]
    simp
def sg (x : Str) : List Nat := x.cps.toList
theorem sg_inj {x y : Str} (h : sg x = sg y) : x = y := by
  obtain ⟨a⟩ := x
  obtain ⟨b⟩ := y
  have e : a.toList = b.toList := h
  rw [Array.toList_inj.mp e]
theorem sg_app (x y : Str) : sg (x ++ y) = sg x ++ sg y := Array.toList_append ..
theorem map_sg_inj : ∀ {a b : List Str}, a.map sg = b.map sg → a = b
  | [], [], _ => rfl
  | [], _ :: _, h => by cases h
  | _ :: _, [], h => by cases h
  | x :: a, y :: b, h => by
    have e := List.cons.inj h
    rw [sg_inj e.1, map_sg_inj e.2]
theorem J_join : ∀ ps : List Str, ps ≠ [] → sg (Str.join ⟨#[32]⟩ ps) = J (ps.map sg)
  | [], h => absurd rfl h
  | [x], _ => rfl
  | x :: y :: r, _ => by
    have ih := J_join (y :: r) (by intro e; cases e)
    show sg (x ++ ⟨#[32]⟩ ++ Str.join ⟨#[32]⟩ (y :: r)) = sg x ++ 32 :: J ((y :: r).map sg)
    rw [sg_app, sg_app, ih]
    show sg x ++ [32] ++ _ = _
    rw [List.append_assoc] <;> rfl
theorem part_unique {z : Str} {a b : List Str} (ha : a ≠ []) (hb : b ≠ []) (fa : ∀ p ∈ a, 32 ∉ sg p) (fb : ∀ p ∈ b, 32 ∉ sg p) (ja : J (a.map sg) = sg z) (jb : J (b.map sg) = sg z) : a = b := by
  have h1 := C_J (a.map sg) (by simpa using ha) (by intro p hp; obtain ⟨q, hq, rfl⟩ := List.mem_map.mp hp; exact fa q hq)
  have h2 := C_J (b.map sg) (by simpa using hb) (by intro p hp; obtain ⟨q, hq, rfl⟩ := List.mem_map.mp hp; exact fb q hq)
  rw [ja] at h1
  rw [jb] at h2
  exact map_sg_inj (h1.symm.trans h2)
structure Parts (pre : List Nat) (ws : List Str) (w : Str) : Prop where
  free : ∀ p ∈ ws ++ [w], 32 ∉ sg p
  join : ((ws.map sg).map (· ++ [32])).flatten ++ sg w = pre
  many : ws.length ≤ pre.length
  len : w.length ≤ pre.length
theorem Parts.start : Parts [] [] ⟨#[]⟩ := by
  refine ⟨?_, rfl, Nat.le_refl _, Nat.le_refl _⟩
  intro p hp
  rw [List.mem_singleton.mp hp]
  intro h
  cases h
theorem Parts.blank {pre : List Nat} {ws : List Str} {w : Str} (P : Parts pre ws w) : Parts (pre ++ [32]) (ws ++ [w]) ⟨#[]⟩ := by
  refine ⟨?_, ?_, ?_, Nat.zero_le _⟩
  · intro p hp
    rcases List.mem_append.mp hp with h | h
    · exact P.free p h
    · rw [List.mem_singleton.mp h]
      intro h
      cases h
  · rw [← P.join]
    simp [sg]
  · have := P.many
    simp only [List.length_append, List.length_singleton]
    omega
theorem Parts.sign {pre : List Nat} {ws : List Str} {w : Str} {c : Nat} (P : Parts pre ws w) (h : c ≠ 32) : Parts (pre ++ [c]) ws (w ++ ⟨#[c]⟩) := by
  have e : sg (w ++ ⟨#[c]⟩) = sg w ++ [c] := sg_app ..
  refine ⟨?_, ?_, ?_, ?_⟩
  · intro p hp
    rcases List.mem_append.mp hp with q | q
    · exact P.free p (List.mem_append_left _ q)
    · rw [List.mem_singleton.mp q, e]
      intro m
      rcases List.mem_append.mp m with m | m
      · exact P.free w (List.mem_append_right _ (List.mem_singleton.mpr rfl)) m
      · exact h (List.mem_singleton.mp m).symm
  · rw [← P.join, e, List.append_assoc]
  · have := P.many
    simp only [List.length_append, List.length_singleton]
    omega
  · have := P.len
    have e2 := congrArg List.length e
    simp only [List.length_append, List.length_singleton] at e2 ⊢
    have e3 : (sg (w ++ ⟨#[c]⟩)).length = (w ++ ⟨#[c]⟩ : Str).length := by simp [sg, Str.length]
    have e4 : (sg w).length = w.length := by simp [sg, Str.length]
    omega
theorem Parts.done {z : Str} {ws : List Str} {w : Str} (P : Parts (sg z) ws w) {b : List Str} (hb : b ≠ []) (fb : ∀ p ∈ b, 32 ∉ sg p) (jb : Str.join ⟨#[32]⟩ b = z) : ws ++ [w] = b := by
  refine part_unique (z := z) (by simp) hb P.free fb ?_ ?_
  · rw [List.map_append, List.map_singleton, J_snoc]
    exact P.join
  · rw [← J_join b hb, jb]
end Blk
namespace L2
open PySem PySem.Spec PyProof.Rows
theorem small {n : Nat} (h : n ≤ 1000) : n ≤ sizeLine := Nat.le_of_lt (small1000 h)
theorem len_toList (z : Str) : z.cps.toList.length = z.length := by simp [Str.length]
theorem at_in {α : Type} {xs : List α} {i : Int} (h0 : 0 ≤ i) (h1 : i < (xs.length : Int)) : ∃ v, xs[i.toNat]? = some v ∧ atI xs i = some v := by
  have hk : i.toNat < xs.length := by omega
  have q : atI xs ((i.toNat : Nat) : Int) = some xs[i.toNat] := atI_nat (List.getElem?_eq_getElem hk)
  have e : ((i.toNat : Nat) : Int) = i := by omega
  rw [e] at q
  exact ⟨_, List.getElem?_eq_getElem hk, q⟩
theorem bt_list : bootBuiltins "list" = some (.type "list") := by decide +kernel
theorem bt_str : bootBuiltins "str" = some (.type "str") := by decide +kernel
theorem bt_bool : bootBuiltins "bool" = some (.type "bool") := by decide +kernel
theorem bt_int : bootBuiltins "int" = some (.type "int") := by decide +kernel
theorem bt_isi : bootBuiltins "isinstance" = some (.builtin "isinstance") := by decide +kernel
theorem bt_min : bootBuiltins "min" = some (.builtin "min") := by decide +kernel
theorem bt_tuple : bootBuiltins "tuple" = some (.type "tuple") := by decide +kernel
theorem rel_ty (n : String) : RelV (.ty n) (.type n) := rfl
theorem rel_str (x : Str) (t : Tok) : RelV (.str x) (.str x t) := ⟨t, rfl⟩
theorem rel_int (x : Int) (t : Tok) : RelV (.int x) (.int x t) := ⟨t, rfl⟩
def Itx (z : Str) : It := ⟨fun i _ => i < z.cps.size, fun i H x H' => H' = H ∧ ∃ c, z.cps[i]? = some c ∧ x = .str ⟨#[c]⟩, fun i _ => i = z.cps.size⟩
section
variable {X : Cx} {tg : Expr}
def iStr (tl : TE) : TI := fun σ H R => tl σ H fun x H1 => ∃ z, x = .str z ∧ R (Itx z) H1
end
section
variable {X : Cx}
def rIxSA : R2 := fun x y H Q => ∃ z i, x = .str z ∧ y = .int i ∧ z.length ≤ sizeLine ∧ 0 ≤ i ∧ i < ((z.length : Nat) : Int) ∧ ∀ c, z.cps.toList[i.toNat]? = some c → Q (.str ⟨#[c]⟩) H
theorem ix_strA : IxR X rIxSA := by
  intro value slice pins s σ H x y v u Q I rx ry h hs
  obtain ⟨z, i, rfl, rfl, hz, h0, h1, q⟩ := h
  obtain ⟨c, e1, e2⟩ := at_in (xs := z.cps.toList) h0 (by rw [len_toList]; exact h1)
  exact ix_str value slice pins s σ H _ _ v u Q I rx ry ⟨z, i, c, rfl, rfl, hz, e2, q c e1⟩ hs
def rIsi (K : PySem.W.Frag) : List V → Hp → VK → Prop := fun xs H Q => ∃ x n t b, xs = [x, .ty n] ∧ TyOf K H x t ∧ PySem.W.kitOne K t (.type n) = some b ∧ Q (.bl b) H
theorem call_isi : CallR X (.builtin "isinstance") (rIsi X.K) := by
  intro pins s σ H xs us Q I r h
  obtain ⟨x, n, t, b, rfl, ty, e, q⟩ := h
  obtain ⟨u, w', rfl, r1, r2⟩ := vals2 r
  cases (show w' = Value.type n from r2)
  exact isinst_ok I r1 ty e fun tk => ⟨.bl b, H, I.tok tk, rfl, q⟩
theorem kit_same {K : PySem.W.Frag} (n : String) : PySem.W.kitOne K (.type n) (.type n) = some true := by
  unfold PySem.W.kitOne
  rw [if_pos (beq_self_eq_true _)]
def eqVs (xs ys : List V) : Bool := xs.length == ys.length && (List.range xs.length).all fun j => eqV (xs.getD j .non) (ys.getD j .non)
theorem vals_at {xs : List V} {us : List Value} (r : Vals xs us) (j : Nat) (h : j < us.toArray.size) : RelV (xs.getD j .non) (us.toArray[j]) := by
  have hl := r.length
  have h' : j < us.length := by simpa using h
  have h2 : j < xs.length := by omega
  obtain ⟨u, e1, e2⟩ := r.get (List.getElem?_eq_getElem h2)
  rw [List.getD_eq_getElem?_getD, List.getElem?_eq_getElem h2]
  have e3 : us.toArray[j] = u := by
    rw [List.getElem?_eq_getElem h'] at e1
    simpa using Option.some.inj e1
  rw [e3]
  exact e2
def rEqL (K : PySem.W.Frag) (neg : Bool) : R2 := fun x y H Q => ∃ p q xs ys, x = .ref p ∧ y = .ref q ∧ SqL K H p xs ∧ SqL K H q ys ∧ xs.all flatV = true ∧ ys.all flatV = true ∧ Q (.bl (if neg then !eqVs xs ys else eqVs xs ys)) H
theorem eqV_refl {x : V} (f : flatV x = true) : eqV x x = true := by
  cases x with
  | non => rfl
  | bl b => exact beq_self_eq_true b
  | int i => exact beq_self_eq_true i
  | str z => exact beq_self_eq_true z
  | _ => exact absurd (show false = true from f) Bool.false_ne_true
def rSplit : V → List V → Hp → VK → Prop := fun x vs H Q => ∃ z y, x = .str z ∧ vs = [.str y] ∧ (y.length == 0) = false ∧ z.length + 2 ≤ sizeLine ∧ ∀ p, H p = none → Q (.ref p) (upd H p (.lst ((Txt.split z y).map V.str)))
end
theorem same_new {H : Hp} {p : Addr} (h : H p = none) (o : HO) : Same H (upd H p o) := fun b u q => by rw [upd_ne (ne_of_none q h)]; exact q
theorem same_on {H H' : Hp} {p : Addr} (h : H p = none) (e : Same H H') (o : HO) : Same H (upd H' p o) := fun b u q => by rw [upd_ne (ne_of_none q h)]; exact e b u q
end L2
namespace L2
open PySem PySem.Spec PyProof.Rows
def closOf (cells : List (Str × Addr)) : List (Str × NameKind) → List (Str × Addr) → List (Str × Addr)
  | [], acc => acc
  | (n, k) :: r, acc => closOf cells r (if (k == .free) = true then (n, (cells.lookup n).getD 0) :: acc else acc)
theorem closureFor_of {scope : Scope} {env : Env} (h : ∀ p ∈ scope.names, p.2 = .free → (env.cells.lookup p.1).isSome = true) : closureFor scope env = pure (closOf env.cells scope.names []) := by
  obtain ⟨kd, names, g1, g2, more⟩ := scope
  simp only [closureFor]
  dsimp only at h ⊢
  generalize ([] : List (Str × Addr)) = acc
  induction names generalizing acc with
  | nil => rfl
  | cons p r ih =>
    obtain ⟨n, k⟩ := p
    have hr : ∀ p ∈ r, p.2 = .free → (env.cells.lookup p.1).isSome = true := fun p hp => h p (List.mem_cons_of_mem _ hp)
    have ih' := ih hr
    simp only [closOf]
    by_cases hk : k = .free
    · subst hk
      obtain ⟨c, hc⟩ := Option.isSome_iff_exists.mp (h (n, .free) List.mem_cons_self rfl)
      have hc' : List.lookup n env.cells = some c := hc
      rw [show (NameKind.free == NameKind.free) = true from rfl, if_pos rfl, hc']
      have e : cellOf env n = pure c := by unfold cellOf; rw [hc']
      have q := ih' ((n, c) :: acc)
      simp only [List.forIn_cons, beq_self_eq_true, if_true, e, pure_bind, Option.getD_some]
      exact q
    · have hb : (k == NameKind.free) = false := by simpa using hk
      have q := ih' acc
      simp only [List.forIn_cons, hb, Bool.false_eq_true, if_false, pure_bind]
      exact q
theorem closOf_in {cells : List (Str × Addr)} {y : Str} {c : Addr} : ∀ (names : List (Str × NameKind)) (acc : List (Str × Addr)), (∀ p ∈ names, p.2 = .free → (cells.lookup p.1).isSome = true) →
    (∀ y c, acc.lookup y = some c → cells.lookup y = some c) → (closOf cells names acc).lookup y = some c → cells.lookup y = some c
  | [], _, _, ha, h => ha _ _ h
  | (n, k) :: r, acc, hn, ha, h => by
    refine closOf_in r _ (fun p hp => hn p (List.mem_cons_of_mem _ hp)) (fun y c hy => ?_) h
    by_cases hk : (k == NameKind.free) = true
    · rw [if_pos hk] at hy
      rw [List.lookup_cons] at hy
      by_cases e : (y == n) = true
      · rw [e] at hy
        obtain ⟨d, hd⟩ := Option.isSome_iff_exists.mp (hn (n, k) List.mem_cons_self (by simpa using hk))
        have hd' : cells.lookup n = some d := hd
        have hy' : (cells.lookup n).getD 0 = c := Option.some.inj hy
        rw [hd'] at hy'
        rw [eq_of_beq e, hd']
        exact congrArg some hy'
      · rw [Bool.eq_false_iff.mpr e] at hy
        exact ha y c hy
    · rw [if_neg hk] at hy
      exact ha y c hy
theorem closOf_has {cells : List (Str × Addr)} {y : Str} : ∀ (names : List (Str × NameKind)) (acc : List (Str × Addr)), ((acc.lookup y).isSome = true ∨ (y, NameKind.free) ∈ names) → ((closOf cells names acc).lookup y).isSome = true
  | [], acc, h => h.elim id (fun z => by cases z)
  | (n, k) :: r, acc, h => by
    refine closOf_has r _ ?_
    rcases h with h | h
    · refine .inl ?_
      by_cases hk : (k == NameKind.free) = true
      · rw [if_pos hk, List.lookup_cons]
        by_cases e : (y == n) = true
        · rw [e]; rfl
        · rw [Bool.eq_false_iff.mpr e]; exact h
      · rw [if_neg hk]; exact h
    · rcases List.mem_cons.mp h with e | h
      · cases e
        refine .inl ?_
        rw [if_pos (show (NameKind.free == NameKind.free) = true from rfl), List.lookup_cons, beq_self_eq_true]
        rfl
      · exact .inr h
def compCx (X : Cx) (scope : Scope) (N' : List Str) (C : Addr) (ex : List Addr) (s₂ : Shared) (H₂ : Hp) : Cx where
  prog := X.prog
  w := X.w
  K := X.K
  mg := X.mg
  base := X.base
  A := X.A
  N := N'
  s₀ := s₂
  H₀ := H₂
  env := compEnvC scope (closOf X.env.cells scope.names []) C X.env
  outer := X.stack
  stack := X.stack
  ex := ex
  fn := fun _ => false
  calm := X.calm
  pn := []
  xe := fun _ _ => False
def FreesOk (X : Cx) (scope : Scope) : List (Str × Nat) → Prop
  | [] => True
  | p :: r => (X.N[p.2]? = some p.1 ∧ X.env.kindOf p.1 = some .cell ∧ (relabel scope X.env).names.lookup p.1 = some .cell ∧ (p.1, NameKind.free) ∈ scope.names) ∧ FreesOk X scope r
theorem FreesOk.at {X : Cx} {scope : Scope} : ∀ {fr : List (Str × Nat)}, FreesOk X scope fr → ∀ p ∈ fr, X.N[p.2]? = some p.1 ∧ X.env.kindOf p.1 = some .cell ∧ (relabel scope X.env).names.lookup p.1 = some .cell ∧ (p.1, NameKind.free) ∈ scope.names
  | [], _, p, hp => by cases hp
  | _ :: _, h, p, hp => by
    rcases List.mem_cons.mp hp with e | hp
    · rw [e]; exact h.1
    · exact FreesOk.at h.2 p hp
def inSt (frees : List (Str × Nat)) (σ : St) (x : Option V) : St := x :: frees.map fun p => (σ[p.2]?).join
def PIfs (X : Cx) (ifs : List Expr) (t : TT) : Prop :=
  ∀ (pins : List (Addr × Obj)) (s : Shared) (σ : St) (H : Hp) (Q : Bool → Hp → Prop), Inv X pins σ H s → t σ H Q →
    wpAny (model X.prog X.w) X.A (forIn ifs true fun c r => if r = true then do let ok ← isTrue c X.env (eval c X.env); pure (ForInStep.yield ok) else pure (ForInStep.yield r)) (TP X pins σ Q) X.xe s
theorem pifs_nil {X : Cx} : PIfs X [] (fun _ H Q => Q true H) := fun _ _ _ H _ I h => wpAny_tests_nil ⟨H, I, h⟩
def CompB (J : It) (tc : TT) (te : TE) (σf : Option V → St) (H1 : Hp) (Q : VK) : Prop := ∀ D, H1 D = none →
  ∃ W : Nat → Nat → List V → Hp → Prop, (∃ m, W 0 m [] (upd H1 D (.lst []))) ∧ ∀ i m ys H2, W i m ys H2 → H2 D = some (.lst ys) ∧
    ((J.stop i H2 ∧ Q (.ref D) H2) ∨ (J.go i H2 ∧ ys.length < sizeLine ∧ ∀ x H3, J.yld i H2 x H3 → tc (σf (some x)) H3 fun b H4 =>
      if b = true then te (σf (some x)) H4 fun y H5 => H5 D = some (.lst ys) ∧ ∃ m', m' < m ∧ W (i + 1) m' (ys ++ [y]) (upd H5 D (.lst (ys ++ [y]))) else ∃ m', m' < m ∧ W (i + 1) m' ys H4))
section
variable {prog : Program} {w : World} {A : Around} {R : Result → Shared → Prop} {s : Shared}
theorem comp_loop {elt target iter : Expr} {ifs : List Expr} {scope : Scope} {pos : Pos} {it acc : Value} {env : Env} (I : Nat → Shared → Prop)
    (turn : ∀ n s, I n s → wpAny (model prog w) A (pyNext it) (fun r s₁ => match r with
      | none => R (.ok .next) s₁
      | some v => wpAny (model prog w) A (letOwnedTupleGo target it v) (fun _ s₁' => wpAny (model prog w) A (assign target env v) (fun _ s₂ =>
          wpAny (model prog w) A (forIn ifs true fun c r => if r = true then do let ok ← isTrue c env (eval c env); pure (ForInStep.yield ok) else pure (ForInStep.yield r)) (fun ok s₃ =>
            if ok = true then wpAny (model prog w) A (eval elt env) (fun x s₄ =>
              wpAny (model prog w) A (call (.builtin "list.append") [acc, x]) (fun _ s₅ => ∃ m, m < n ∧ I m s₅) (fun _ _ => False) s₄) (fun _ _ => False) s₃
            else ∃ m, m < n ∧ I m s₃) (fun _ _ => False) s₂) (fun _ _ => False) s₁') (fun _ _ => False) s₁) (fun _ _ => False) s)
    (n : Nat) (h : I n s) :
    codeAny (model prog w) A (.compLoop (.ListComp elt [⟨target, iter, ifs, 0⟩] scope pos) 0 it acc env) R s := by
  have no : ∀ {α : Type} {t : Sem α} {Q : α → Shared → Prop} {E : Value → Shared → Prop} {s : Shared}, wpAny (model prog w) A t Q (fun _ _ => False) s → wpAny (model prog w) A t Q E s := fun h => wpAny_mono h (fun _ _ q => q) fun _ _ f => f.elim
  refine codeAny_loop rfl I (fun n s hI => ?_) n h
  show wpAny _ A ((compTurn (.ListComp elt [⟨target, iter, ifs, 0⟩] scope pos) 0 it acc env).onRaise (fun x => do noteFrame x env; theTreesLotGoes x)) _ _ s
  refine wpAny_noted ?_
  rw [compTurn_list]
  refine wpAny_bind (wpAny_standAt (wpAny_bind (wpAny_mono (turn n s hI) (fun r s₁ h₁ => ?_) fun _ _ h' => h'.elim)))
  cases r with
  | none => exact wpAny_pure h₁
  | some v =>
    refine wpAny_bind (wpAny_mono h₁ (fun _ s₁' h₁' => ?_) fun _ _ h' => h'.elim)
    refine wpAny_bind (wpAny_mono h₁' (fun _ s₂ h₂ => wpAny_bind (wpAny_mono h₂ (fun ok s₃ h₃ => ?_) fun _ _ h' => h'.elim)) fun _ _ h' => h'.elim)
    cases ok with
    | false => exact wpAny_pure ⟨rfl, h₃⟩
    | true =>
      exact wpAny_bind (wpAny_bind (wpAny_mono h₃ (fun x s₄ h₄ => wpAny_bind (wpAny_mono h₄ (fun _ s₅ h₅ => wpAny_pure (wpAny_pure ⟨rfl, h₅⟩)) fun _ _ h' => h'.elim)) fun _ _ h' => h'.elim))
end
section
variable {X : Cx} {elt iter : Expr} {x : Str} {px pos : Pos} {ifs : List Expr} {scope : Scope} {frees : List (Str × Nat)} {tc : TT} {te : TE}
structure CompOk (X : Cx) (scope : Scope) (x : Str) (frees : List (Str × Nat)) : Prop where
  cell : ∀ y ∈ scope.names, y.2 ≠ .cell
  kind : scope.kind = .function
  own : scope.names.lookup x = some .local
  names : ∀ y ∈ scope.names, y.2 = .local → scope.names.lookup y.1 = some .local
  fr : FreesOk X scope frees
  nd : (x :: frees.map (·.1)).Nodup
  cl : ∀ p ∈ scope.names, p.2 = .free → (X.env.cells.lookup p.1).isSome = true
  calm : X.calm = true
theorem relabel_free {scope : Scope} {env : Env} {y : Str} (hc : ∀ y ∈ scope.names, y.2 ≠ .cell) (h : (relabel scope env).names.lookup y = some .cell ∨ (relabel scope env).names.lookup y = some .free) : (y, NameKind.free) ∈ scope.names := by
  have key : ∀ k, (relabel scope env).names.lookup y = some k → k ≠ .local → k = .cell ∨ k = .free → (y, NameKind.free) ∈ scope.names := fun k hk _ hkk => by
    have hm := PySem.mem_of_lookup hk
    obtain ⟨⟨n, k0⟩, hm0, e⟩ := List.mem_map.mp hm
    by_cases hcond : (k0 == NameKind.free && env.scope.kind == .function && env.kindOf n == some .cell) = true
    · have e' : (n, NameKind.cell) = (y, k) := by rw [← e]; exact (if_pos hcond).symm
      have hk0 : k0 = .free := by
        rw [Bool.and_eq_true, Bool.and_eq_true] at hcond
        exact eq_of_beq hcond.1.1
      have en : n = y := congrArg Prod.fst e'
      rw [← en, ← hk0]
      exact hm0
    · have e' : (n, k0) = (y, k) := by rw [← e]; exact (if_neg hcond).symm
      have en : n = y := congrArg Prod.fst e'
      have ek : k0 = k := congrArg Prod.snd e'
      rcases hkk with hkk | hkk
      · exact absurd (ek.trans hkk) (hc _ hm0)
      · rw [← en, ← hkk, ← ek]
        exact hm0
  rcases h with h | h
  · exact key _ h (by decide) (.inl rfl)
  · exact key _ h (by decide) (.inr rfl)
theorem comp_core {pins : List (Addr × Obj)} {σ : St} {H1 : Hp} {s₂ : Shared} {it : Addr} {fp : List Addr} {tn : Nat → Heap → Prop} {J : It} {Q : VK} {RR : Value → Addr → Result → Shared → Prop} {E : Value → Shared → Prop}
    (O : CompOk X scope x frees) (hc : ∀ C ex s₂ H₂, PIfs (compCx X scope (x :: frees.map (·.1)) C ex s₂ H₂) ifs tc) (he : ∀ C ex s₂ H₂, PE (compCx X scope (x :: frees.map (·.1)) C ex s₂ H₂) elt te)
    (I : Inv X pins σ H1 s₂) (T : Turn X.prog X.w X.K (.Name x px) J fp it tn) (st : tn 0 s₂.heap) (hf : ∀ b ∈ fp, FpOk X pins H1 b) (hB : CompB J tc te (inSt frees σ) H1 Q)
    (hRR : ∀ D C H' s', Inv X pins σ H' s' → (∃ m, s'.heap.Ns C m) → FpOk X pins H' C → Q (.ref D) H' → RR (.ref D) C (.ok .next) s') :
    wpAny (model X.prog X.w) X.A (newList []) (fun acc s₃ => wpAny (model X.prog X.w) X.A (newFunctionEnv scope X.env.globals (closOf X.env.cells scope.names []) [] X.env.qual none .none (some X.env)) (fun cenv s₄ =>
      codeAny (model X.prog X.w) X.A (.compStart (.ListComp elt [⟨.Name x px, iter, ifs, 0⟩] scope pos) 0 (.ref it) acc { cenv with scope := relabel scope X.env }) (RR acc cenv.locals) s₄) E s₃) E s₂ := by
  refine wpAny_newObj_type (wpAny_newFunctionEnv O.cell (by intro y hy; simp at hy) (fun h₁ hns₁ hsb₁ => ?_) O.kind)
  dsimp only at hns₁ hsb₁ ⊢
  generalize hH2 : s₂.heap.push { cls := .type "list", dict := none, data := .seq ([] : List Value).toArray } = H2 at hns₁ hsb₁ ⊢
  have hC : H2.objs.size = s₂.heap.objs.size + 1 := by rw [← hH2, Heap.size_push]
  have hDC : s₂.heap.objs.size ≠ H2.objs.size := by rw [hC]; exact Nat.ne_of_lt (Nat.lt_succ_self _)
  have hCle : s₂.heap.objs.size ≤ H2.objs.size := by rw [hC]; exact Nat.le_succ _
  have below : ∀ b, b < s₂.heap.objs.size → b ≠ H2.objs.size ∧ b ≠ s₂.heap.objs.size := fun b hb => ⟨by rw [hC]; exact Nat.ne_of_lt (Nat.lt_succ_of_lt hb), Nat.ne_of_lt hb⟩
  have old : ∀ b o, s₂.heap.get? b = some o → h₁.get? b = some o := fun b o e => hsb₁.extBut b o (below b (Heap.lt_size e)).1 (Heap.get?_push_of_some _ (hH2 ▸ Heap.get?_push_of_some _ e))
  have hacc : h₁.get? s₂.heap.objs.size = some { cls := .type "list", data := .seq ([] : List Value).toArray } := hsb₁.extBut _ _ hDC (Heap.get?_push_of_some _ (hH2 ▸ Heap.get?_push_size _ rfl))
  have nD : H1 s₂.heap.objs.size = none := I.hok.fresh (Nat.le_refl _)
  obtain ⟨W, ⟨m0, w0⟩, hW⟩ := hB s₂.heap.objs.size nD
  -- the block's context and its first state
  let X' : Cx := compCx X scope (x :: frees.map (·.1)) H2.objs.size fp s₂ H1
  have inC : ∀ y c, (closOf X.env.cells scope.names []).lookup y = some c → X.env.cells.lookup y = some c := fun y c h => closOf_in scope.names [] O.cl (fun y c h => by cases h) h
  have fpl : ∀ b ∈ fp, b < s₂.heap.objs.size := fun b hb => by
    obtain ⟨o, e, _⟩ := T.obj _ _ st b hb
    exact Heap.lt_size e
  have ok' : X'.Ok := by
    refine ⟨I.ok.mod, O.kind, I.ok.glob, I.ok.blt, hCle, fun y z c h1 h2 => I.ok.inj y z c (inC y c h1) (inC z c h2), fun y hy => ?_, fun y c h _ => (by cases h), I.ok.hd, I.ok.frames, .inl rfl, fun b hb => ?_, I.bs, Nat.le_trans I.ok.bsz I.sz, fun b o e hb => ?_, fun b hb z => ?_, I.stack, I.stkFree⟩
    · exact Option.isSome_iff_exists.mp (closOf_has scope.names [] (.inr (relabel_free O.cell hy)))
    · exact ⟨(below b (fpl b hb)).1, fun y c h => (hf b hb).2.2.2.2.1 y c (inC y c h)⟩
    · rcases (hf b hb).2.2.2.1 with z | z
      · exact I.ok.noex b o e z
      · exact absurd (Nat.lt_of_lt_of_le (Nat.lt_of_lt_of_le (Heap.lt_size e) I.ok.bsz) z) (Nat.lt_irrefl _)
    · exact (List.mem_cons.mp (I.stkSub b z)).elim (hf b hb).2.1 (hf b hb).2.2.1
  have hok1 : HOk X.prog X.w (upd H1 s₂.heap.objs.size (.lst [])) h₁ := I.hok.laid old (Nat.le_refl _) ⟨Nat.zero_le _, [], 0, .nil, hacc⟩
  have I0 : ∀ tk, Inv X' [] (inSt frees σ none) (upd H1 s₂.heap.objs.size (.lst [])) { s₂ with heap := h₁, toks := tk } := fun tk => by
    refine ⟨ok', rfl, I.bare, Un.laid old (Nat.le_refl _) nD, ⟨_, hns₁, fun i y v h1 h2 h3 => ?_⟩, fun y c h => ?_, ?_, fun y c h => ?_, fun p hp => absurd (show p ∈ ([] : List (Addr × Obj)) from hp) (by simp), hok1, ?_⟩
    · cases i with
      | zero =>
        have h2' : (none : Option V) = some v := Option.some.inj h2
        cases h2'
      | succ j =>
        have h1' : (frees.map (·.1))[j]? = some y := h1
        have h2' : (frees.map fun p => (σ[p.2]?).join)[j]? = some (some v) := h2
        rw [List.getElem?_map] at h1' h2'
        cases e : frees[j]? with
        | none => rw [e] at h1'; cases h1'
        | some p =>
          rw [e] at h1' h2'
          have e1 : p.1 = y := Option.some.inj h1'
          have e2 : (σ[p.2]?).join = some v := Option.some.inj h2'
          obtain ⟨g1, g2, g3, g4⟩ := O.fr.at p (List.mem_of_getElem? e)
          have e3 : σ[p.2]? = some (some v) := by
            cases q : σ[p.2]? with
            | none => rw [q] at e2; cases e2
            | some o => rw [q] at e2; exact congrArg some e2
          obtain ⟨m, hn, hl⟩ := I.loc
          obtain ⟨u, r, l⟩ := hl p.2 p.1 v g1 e3 (.inr (.inl g2))
          refine ⟨u, r, ?_⟩
          rcases l with ⟨k, _⟩ | ⟨_, c, hc1, hc2⟩
          · rw [g2] at k; cases k
          · obtain ⟨c2, hc3⟩ := Option.isSome_iff_exists.mp (closOf_has (cells := X.env.cells) scope.names [] (.inr g4))
            have hc4 := inC _ _ hc3
            rw [hc1] at hc4
            cases hc4
            rw [← e1]
            refine .inr ⟨.inl g3, c, hc3, ?_⟩
            obtain ⟨o, ho, hd⟩ := hc2
            exact ⟨o, old c o ho, hd⟩
    · obtain ⟨v, o, ho, hd⟩ := I.cell y c (inC y c h)
      exact ⟨v, o, old c o ho, hd⟩
    · show upd H1 s₂.heap.objs.size (.lst []) H2.objs.size = none
      rw [upd_ne (Ne.symm hDC)]
      exact I.hok.fresh hCle
    · obtain ⟨v, o, ho, hd⟩ := I.cell y c (inC y c h)
      rw [upd_ne (below c (Heap.lt_size ho)).2]
      exact I.freeC y c (inC y c h)
    · show (inSt frees σ none).length = (x :: frees.map (·.1)).length
      simp [inSt]
  have stat : ∀ {H' : Hp}, (∀ b ∈ fp, H' b = none) → ∀ b ∈ fp, FpOk X' [] H' b := fun hn b hb =>
    ⟨hn b hb, (below b (fpl b hb)).1, fun z => (List.mem_cons.mp (I.stkSub b z)).elim (hf b hb).2.1 (hf b hb).2.2.1, .inl hb, fun y c h => (hf b hb).2.2.2.2.1 y c (inC y c h), fun p hp => absurd (show p ∈ ([] : List (Addr × Obj)) from hp) (by simp)⟩
  have hst₁ : tn 0 h₁ := T.keep _ _ _ st fun b _ o e => old b o e
  have fr0 : ∀ b ∈ fp, (upd H1 s₂.heap.objs.size (.lst [])) b = none := fun b hb => by
    rw [upd_ne (below b (fpl b hb)).2]
    exact (hf b hb).1
  have loop : ∀ tk, codeAny (model X.prog X.w) X.A (.compLoop (.ListComp elt [⟨.Name x px, iter, ifs, 0⟩] scope pos) 0 (.ref it) (.ref s₂.heap.objs.size) X'.env) (RR (.ref s₂.heap.objs.size) H2.objs.size) { s₂ with heap := h₁, toks := tk } := fun tk => by
    refine comp_loop (fun n s' => ∃ i ys o H', Inv X' [] (inSt frees σ o) H' s' ∧ tn i s'.heap ∧ (∀ b ∈ fp, H' b = none) ∧ W i n ys H') ?_ m0 ⟨0, [], none, _, I0 tk, hst₁, fr0, w0⟩
    rintro n s3 ⟨i, ys, o3, H3, I3, st3, fr3, w3⟩
    obtain ⟨hD3, alt⟩ := hW i n ys H3 w3
    rcases alt with ⟨stop, q⟩ | ⟨go, hlt, step⟩
    · refine thn (T.done X' rfl rfl rfl O.calm i [] s3 _ H3 _ I3 (stat fr3) st3 stop) fun r s4 ⟨hr, I4⟩ => ?_
      subst hr
      have J4 : Inv X pins σ H3 s4 := I.call' (ch := fp) I4.os I4.base I4.hok I4.bare fun b hb => ⟨(hf b hb).2.2.2.1, (hf b hb).2.1, (hf b hb).2.2.2.2.1, (hf b hb).2.2.2.2.2⟩
      obtain ⟨m4, hn4, _⟩ := I4.loc
      exact hRR _ _ H3 s4 J4 ⟨m4, hn4⟩ (I.fpOk hCle I4.free) q
    · refine thn (T.item X' rfl rfl rfl O.calm i [] s3 _ H3 _ I3 (stat fr3) st3 go) fun r s4 ⟨u, hr, h4⟩ => ?_
      subst hr
      refine thn h4 fun _ s5 ⟨v, H5, I5, r5, y5, st5, fr5⟩ => ?_
      have I5' := I5.pinned (stat fr5) (T.obj _ _ st5)
      have tail : ∀ {σ7 : St} {H7 : Hp} {s7 : Shared}, Inv X' ([] ++ pinsAt fp s5.heap) σ7 H7 s7 → Inv X' [] σ7 H7 s7 ∧ tn (i + 1) s7.heap ∧ ∀ b ∈ fp, H7 b = none := fun {σ7 H7 s7} I7 => by
        refine ⟨I7.unpinned, T.keep _ _ _ st5 fun b hb o e => (I7.pin (b, o) (List.mem_append_right _ (List.mem_append_right _ (mem_pinsAt hb e)))).1, fun b hb => ?_⟩
        obtain ⟨o, e, d⟩ := T.obj _ _ st5 b hb
        exact (I7.pin (b, o) (List.mem_append_right _ (List.mem_append_right _ (mem_pinsAt hb e)))).2.1
      have hg : PG X' (.Name x px) (gName 0) := pg_name O.nd rfl (Or.inl (lookup_relabel_local O.own)) (.inr (lookup_relabel_local O.own))
      refine thn (hg _ s5 _ H5 v u (fun σ6 H6 => σ6 = inSt frees σ (some v) ∧ H6 = H5) I5' r5 ⟨rfl, rfl⟩) fun _ s6 ⟨σ6, H6, I6, e6, e6'⟩ => ?_
      subst e6 e6'
      refine thn (hc _ _ _ _ _ s6 _ _ _ I6 (step v _ y5)) fun b s7 ⟨H7, I7, q7⟩ => ?_
      cases b with
      | false =>
        obtain ⟨m', hm, w7⟩ := (show ∃ m', m' < n ∧ W (i + 1) m' ys H7 from q7)
        obtain ⟨t1, t2, t3⟩ := tail I7
        exact ⟨m', hm, i + 1, ys, some v, H7, t1, t2, t3, w7⟩
      | true =>
        refine thn (he _ _ _ _ _ s7 _ _ _ I7 q7) fun y s8 ⟨y', H8, I8, r8, hD8, m', hm, w8⟩ => ?_
        refine thn (mt_append (X := X') _ s8 _ H8 (.ref s₂.heap.objs.size) [y'] _ [y] (fun _ H9 => H9 = upd H8 s₂.heap.objs.size (.lst (ys ++ [y']))) I8 rfl (.cons r8 .nil) ⟨_, _, _, rfl, rfl, hD8, hlt, rfl⟩) fun _ s9 ⟨_, H9, I9, _, e9⟩ => ?_
        subst e9
        obtain ⟨t1, t2, t3⟩ := tail I9
        exact ⟨m', hm, i + 1, ys ++ [y'], some v, _, t1, t2, t3, w8⟩
  exact codeAny_compStart_list (loop _) (T.self _ 0 _ _ _ hst₁ (loop _))
def tComp (frees : List (Str × Nat)) (tc : TT) (te : TE) (wi : TI) : TE := fun σ H Q => wi σ H fun J H1 => CompB J tc te (inSt frees σ) H1 Q
theorem pe_comp {wi : TI} (O : CompOk X scope x frees) (hxe : X.xe = fun _ _ => False) (hi : PI X (.Name x px) iter wi)
    (hc : ∀ C ex s₂ H₂, PIfs (compCx X scope (x :: frees.map (·.1)) C ex s₂ H₂) ifs tc) (he : ∀ C ex s₂ H₂, PE (compCx X scope (x :: frees.map (·.1)) C ex s₂ H₂) elt te)
    (hs : ∀ x, foldedSetIterable iter X.env x = pure x := by intro _; rfl) : PE X (.ListComp elt [⟨.Name x px, iter, ifs, 0⟩] scope pos) (tComp frees tc te wi) := by
  intro pins s σ H Q I h
  rw [eval_ListComp]
  refine wpAny_comprehension_free (use := none) rfl hs (closureFor_of O.cl) O.kind O.names (thn (hi pins s σ H _ I h) fun xv s₁ h₁ => thn h₁ fun itv s₂ h₂ => ?_)
  obtain ⟨it, fp, tn, J, H2, e, I2, T, st2, f2, hB⟩ := h₂
  subst e
  refine comp_core (RR := fun acc C => compPost (model X.prog X.w) X.A X.xe none (EP X pins σ Q) acc C) O hc he I2 T st2 f2 hB ?_
  intro D C H' s' I' hn hC q
  obtain ⟨m, hn⟩ := hn
  refine ⟨m, hn, fun h' hs' => ?_⟩
  exact ⟨.ref D, H', I'.turned (t' := s'.toks) (fun b o hb e => hs'.extBut b o hb e) hC.1 hC.2.1 hC.2.2.2.1 hC.2.2.2.2.1 hC.2.2.2.2.2, rfl, q⟩
theorem ps_comp {wi : TI} {i : Nat} {y : Str} {py spos : Pos} (O : CompOk X scope x frees) (hN : X.N.Nodup) (hiy : X.N[i]? = some y) (hy : X.env.kindOf y = some .local) (hsw : swapsWith (.ListComp elt [⟨.Name x px, iter, ifs, 0⟩] scope pos) (some (.Name y py)) spos.line X.env = pure true)
    (hi : PI X (.Name x px) iter wi) (hc : ∀ C ex s₂ H₂, PIfs (compCx X scope (x :: frees.map (·.1)) C ex s₂ H₂) ifs tc) (he : ∀ C ex s₂ H₂, PE (compCx X scope (x :: frees.map (·.1)) C ex s₂ H₂) elt te)
    (hs : ∀ x, foldedSetIterable iter X.env x = pure x := by intro _; rfl) : PS X (.Assign [.Name y py] (.ListComp elt [⟨.Name x px, iter, ifs, 0⟩] scope pos) spos) (tAsg (tComp frees tc te wi) (gName i)) := by
  intro pins s σ H D I h
  rw [exec_Assign_Name_used _ _ _ _ hsw]
  refine wpAny_bind (wpAny_standAt (wpAny_bind ?_))
  show wpAny _ X.A (do let _ ← comprehension (.ListComp elt [⟨.Name x px, iter, ifs, 0⟩] scope pos) scope X.env _ (newList []) false (eval iter X.env) (some (assign (.Name y py) X.env))) _ _ s
  refine wpAny_bind (wpAny_mono (wpAny_comprehension_free (use := some (assign (.Name y py) X.env)) (Q := fun _ s' => SP X pins D .next s') rfl hs (closureFor_of O.cl) O.kind O.names
    (thn (hi pins s σ H _ I h) fun xv s₁ h₁ => thn h₁ fun itv s₂ h₂ => ?_)) (fun _ s' hq => wpAny_pure (wpAny_pure hq)) fun _ _ e => e)
  obtain ⟨it, fp, tn, J, H2, e, I2, T, st2, f2, hB⟩ := h₂
  subst e
  refine comp_core (RR := fun acc C => compPost (model X.prog X.w) X.A X.xe (some (assign (.Name y py) X.env)) (fun _ s' => SP X pins D .next s') acc C) O hc he I2 T st2 f2 hB ?_
  intro A C H' s' I' hn hC q
  obtain ⟨m, hn⟩ := hn
  obtain ⟨oC, es, ep, hoC, hdC, hr⟩ := id hn
  have I'' : Inv X (pins ++ [(C, oC)]) σ H' s' := I'.pins_of fun p hp => (List.mem_append.mp hp).elim (fun z => I'.pin p (List.mem_append_right _ z)) fun z => by
    rw [List.mem_singleton.mp z]
    exact ⟨hoC, hC.1, hC.2.1, hC.2.2.1, fun v e => by rw [hdC] at e; cases e⟩
  show wpAny _ X.A (assign (.Name y py) X.env (.ref A)) _ _ _
  refine wpAny_assign_Name (store_ok I'' hN hiy (.inl hy) (v := .ref A) rfl (fun s3 I3 => ?_) (.inr hy))
  have hC3 := (I3.pin (C, oC) (List.mem_append_right _ (List.mem_append_right _ (List.mem_singleton.mpr rfl)))).1
  have J3 : Inv X pins (σ.set i (some (.ref A))) H' s3 := I3.unpinned
  refine ⟨m, ⟨oC, es, ep, hC3, hdC, hr⟩, fun h' hs' => ?_⟩
  exact ⟨_, H', J3.turned (t' := s3.toks) (fun b o hb e => hs'.extBut b o hb e) hC.1 hC.2.1 hC.2.2.2.1 hC.2.2.2.2.1 hC.2.2.2.2.2, q⟩
end
end L2
namespace L2
open PySem PySem.Spec PyProof.Rows
section
variable {X : Cx}
theorem strs_of : ∀ {ws : List Str} {us : List Value}, Vals (ws.map V.str) us → ∃ l : List (Str × Tok), us = strValues l ∧ l.map (·.1) = ws
  | [], us, r => by
    cases r
    exact ⟨[], rfl, rfl⟩
  | w :: ws, us, r => by
    cases r with
    | cons r1 r2 =>
      obtain ⟨t, rfl⟩ := r1
      obtain ⟨l, rfl, e⟩ := strs_of r2
      exact ⟨(w, t) :: l, rfl, by rw [← e]; rfl⟩
theorem mt_join : MtR X "str.join" (fun x vs H Q => ∃ (z : Str) (p : Addr) (ws : List Str), x = .str z ∧ vs = [.ref p] ∧ SqL X.K H p (ws.map V.str) ∧ JoinOk z ws = true ∧ Q (.str (Txt.join z ws)) H) := by
  intro pins s σ H x vs v us Q I rx rv h
  obtain ⟨z, p, ws, rfl, rfl, hq, hj, q⟩ := h
  obtain ⟨t, rfl⟩ := rx
  obtain ⟨u', rfl, ru⟩ := rv.one
  cases ru
  obtain ⟨its, r, pl, hz⟩ := I.list hq
  obtain ⟨l, rfl, e⟩ := strs_of r
  exact SC.join pl.isList e hj fun t' k => ⟨.str _, H, I.tok _, ⟨t', rfl⟩, q⟩
def rSlS : V → Option Int → Option Int → Hp → VK → Prop := fun x lo hi H Q => ∃ z, x = .str z ∧ z.length ≤ sizeLine ∧ Q (.str (Txt.slice z lo hi)) H
theorem part_of {v : Value} {o : Option Int} (p : IsPart v o) : ∃ l : Option (Int × Tok), v = partValue l ∧ l.map (·.1) = o := by
  cases p with
  | none => exact ⟨none, rfl, rfl⟩
  | int i t => exact ⟨some (i, t), rfl, rfl⟩
theorem sl_str : SlR X rSlS := by
  intro pins s σ H x v vl vu lo hi sl Q I rx hs pl pu h
  obtain ⟨z, rfl, hz, q⟩ := h
  obtain ⟨t, rfl⟩ := rx
  obtain ⟨l, rfl, rfl⟩ := part_of pl
  obtain ⟨u, rfl, rfl⟩ := part_of pu
  exact ⟨"str", _, F.slot_str_getitem.lookup, typeIs_str _ _ _, wpAny_getItem_str_slice (l := l) (u := u) (st := none) hs rfl
    (post_val_or_str ⟨Nat.le_trans (Txt.slice_le z _ _) hz, fun t' k => ⟨.str _, H, I.tok _, ⟨t', rfl⟩, q⟩⟩)⟩
theorem PS.weak {st : Stmt} {t t' : TS} (h : PS X st t) (k : ∀ D σ H, t' D σ H → t D σ H) : PS X st t' := fun pins s σ H D I hw => h pins s σ H D I (k D σ H hw)
theorem PSs.weak {st : List Stmt} {t t' : TS} (h : PSs X st t) (k : ∀ D σ H, t' D σ H → t D σ H) : PSs X st t' := fun pins s σ H D I hw => h pins s σ H D I (k D σ H hw)
end
structure Seq (J : It) (H1 : Hp) (xs : List V) : Prop where
  go : ∀ i H, Same H1 H → i < xs.length → J.go i H
  yld : ∀ i H x H', Same H1 H → i < xs.length → J.yld i H x H' → H' = H ∧ xs[i]? = some x
  stop : ∀ H, Same H1 H → J.stop xs.length H
theorem seq_range (lo : Int) (n : Nat) (H1 : Hp) : Seq (Itr lo n) H1 ((List.range n).map fun i => V.int (lo + (i : Nat))) where
  go := fun i H _ h => by
    rw [List.length_map, List.length_range] at h
    exact h
  yld := fun i H x H' _ hi h => by
    obtain ⟨e, hx⟩ := h
    refine ⟨e, ?_⟩
    rw [List.length_map, List.length_range] at hi
    rw [List.getElem?_map, List.getElem?_range hi, hx]
    rfl
  stop := fun H _ => by
    show n ≤ _
    rw [List.length_map, List.length_range]
    exact Nat.le_refl _
theorem seq_list {K : PySem.W.Frag} {a : Addr} {xs : List V} {H1 : Hp} (h : SqL K H1 a xs) : Seq (Itl K a) H1 xs where
  go := fun i H e hi => ⟨xs, xs[i], e.seq h, List.getElem?_eq_getElem hi⟩
  yld := fun i H x H' e _ y => ⟨y.1, y.2 xs (e.seq h)⟩
  stop := fun H e => ⟨xs, e.seq h, Nat.le_refl _⟩
theorem take_more {α : Type} {xs : List α} {i : Nat} {x : α} (h : xs[i]? = some x) : xs.take (i + 1) = xs.take i ++ [x] := by
  rw [List.take_succ, h]
  rfl
theorem compB_seq {J : It} {tc : TT} {te : TE} {σf : Option V → St} {H1 : Hp} {Q : VK} {xs : List V} (S : Seq J H1 xs) (p : V → Bool) (g : V → V) (hz : xs.length < sizeLine)
    (hc : ∀ x ∈ xs, ∀ (H' : Hp) (R : Bool → Hp → Prop), Same H1 H' → R (p x) H' → tc (σf (some x)) H' R)
    (he : ∀ x ∈ xs, ∀ (H' : Hp) (R : VK), Same H1 H' → p x = true → R (g x) H' → te (σf (some x)) H' R)
    (q : ∀ D H', Same H1 H' → H1 D = none → H' D = some (.lst ((xs.filter p).map g)) → Q (.ref D) H') : CompB J tc te σf H1 Q := by
  intro D hD
  refine ⟨fun i m ys H2 => m = xs.length - i ∧ i ≤ xs.length ∧ Same H1 H2 ∧ H2 D = some (.lst ys) ∧ ys = ((xs.take i).filter p).map g, ⟨xs.length, rfl, Nat.zero_le _, same_new hD _, upd_same, rfl⟩, ?_⟩
  rintro i m ys H2 ⟨rfl, hi, sm, hD2, rfl⟩
  refine ⟨hD2, ?_⟩
  by_cases hlt : i < xs.length
  · refine .inr ⟨S.go i H2 sm hlt, ?_, fun x H3 y => ?_⟩
    · rw [List.length_map]
      refine Nat.lt_of_le_of_lt (List.length_filter_le _ _) ?_
      rw [List.length_take]
      omega
    · obtain ⟨e, hx⟩ := S.yld i H2 x H3 sm hlt y
      subst e
      have mem : x ∈ xs := List.mem_of_getElem? hx
      refine hc x mem _ _ sm ?_
      cases hp : p x with
      | false =>
        refine iteF ⟨xs.length - (i + 1), by omega, rfl, hlt, sm, hD2, ?_⟩
        rw [take_more hx, List.filter_append, List.filter_cons_of_neg (by rw [hp]; decide), List.filter_nil, List.append_nil]
      | true =>
        refine iteT (he x mem _ _ sm hp ⟨hD2, xs.length - (i + 1), by omega, rfl, hlt, same_on hD sm _, upd_same, ?_⟩)
        rw [take_more hx, List.filter_append, List.filter_cons_of_pos hp, List.filter_nil, List.map_append]
        rfl
  · have e : i = xs.length := by omega
    subst e
    refine .inl ⟨S.stop H2 sm, q D H2 sm hD ?_⟩
    rw [hD2, List.take_of_length_le (Nat.le_refl _)]
def cellsFor (cells : List (Str × Addr)) (names : List (Str × NameKind)) : Bool := names.all fun p => if (p.2 == NameKind.free) = true then (cells.lookup p.1).isSome else true
theorem cellsFor_at {cells : List (Str × Addr)} {names : List (Str × NameKind)} (h : cellsFor cells names = true) : ∀ p ∈ names, p.2 = .free → (cells.lookup p.1).isSome = true := fun p hp hk => by
  have q := (List.all_eq_true.mp h) p hp
  rw [hk, show (NameKind.free == NameKind.free) = true from rfl, if_pos rfl] at q
  exact q
end L2
namespace L2
open PySem PySem.Spec PyProof.Rows
section
variable {X : Cx}
theorem kit_int_bool (K : PySem.W.Frag) : PySem.W.kitOne K (.type "int") (.type "bool") = some false := by
  have e1 : PySem.W.kitMeta "bool" = true := by decide +kernel
  have e2 : PySem.W.subIn K (.type "int") (.type "bool") = some false := by
    show (fastBuiltinMro "int").map (·.contains (Value.type "bool")) = some false
    decide +kernel
  show (if (Value.type "int" == Value.type "bool") = true then some true else (if PySem.W.kitMeta "bool" = true then PySem.W.subIn K (.type "int") (.type "bool") else none)) = some false
  rw [if_neg (by decide), if_pos e1]
  exact e2
def rIxLA (K : PySem.W.Frag) : R2 := fun x y H Q => ∃ p xs i, x = .ref p ∧ y = .int i ∧ SqL K H p xs ∧ 0 ≤ i ∧ i < ((xs.length : Nat) : Int) ∧ ∀ v, xs[i.toNat]? = some v → Q v H
theorem ix_listA : IxR X (rIxLA X.K) := by
  intro value slice pins s σ H x y v u Q I rx ry h hs
  obtain ⟨p, xs, i, rfl, rfl, hq, h0, h1, q⟩ := h
  obtain ⟨c, e1, e2⟩ := at_in (xs := xs) h0 h1
  exact ix_list value slice pins s σ H _ _ v u Q I rx ry ⟨p, xs, i, c, rfl, rfl, hq, e2, q c e1⟩ hs
def intV : V → Bool
  | .int _ => true
  | _ => false
end
end L2
namespace L2
open PySem PySem.Spec PyProof.Rows
section
variable {X : Cx}
def PSk (X : Cx) (st : Stmt) (t : TS) : Prop :=
  ∀ (pins : List (Addr × Obj)) (s : Shared) (σ : St) (H : Hp) (D : Ends), Inv X pins σ H s → 1 ≤ s.toks → t D σ H → wpAny (model X.prog X.w) X.A (exec st X.env) (SP X pins D) X.xe s
def PSsK (X : Cx) (st : List Stmt) (t : TS) : Prop :=
  ∀ (pins : List (Addr × Obj)) (s : Shared) (σ : St) (H : Hp) (D : Ends), Inv X pins σ H s → 1 ≤ s.toks → t D σ H → wpAny (model X.prog X.w) X.A (execs st X.env) (SP X pins D) X.xe s
def PEk (X : Cx) (e : Expr) (t : TE) : Prop :=
  ∀ (pins : List (Addr × Obj)) (s : Shared) (σ : St) (H : Hp) (Q : VK), Inv X pins σ H s → 1 ≤ s.toks → t σ H Q → wpAny (model X.prog X.w) X.A (eval e X.env) (EP X pins σ Q) X.xe s
def PE1 (X : Cx) (e : Expr) (t : TE) : Prop :=
  ∀ (pins : List (Addr × Obj)) (s : Shared) (σ : St) (H : Hp) (Q : VK), Inv X pins σ H s → t σ H Q → wpAny (model X.prog X.w) X.A (eval e X.env) (fun u s' => 1 ≤ s'.toks ∧ EP X pins σ Q u s') X.xe s
def PS1 (X : Cx) (st : Stmt) (t : TS) : Prop :=
  ∀ (pins : List (Addr × Obj)) (s : Shared) (σ : St) (H : Hp) (D : Ends), Inv X pins σ H s → t D σ H → wpAny (model X.prog X.w) X.A (exec st X.env) (fun f s' => 1 ≤ s'.toks ∧ SP X pins D f s') X.xe s
theorem PS.k {st : Stmt} {t : TS} (h : PS X st t) : PSk X st t := fun pins s σ H D I _ hw => h pins s σ H D I hw
theorem PSs.k {st : List Stmt} {t : TS} (h : PSs X st t) : PSsK X st t := fun pins s σ H D I _ hw => h pins s σ H D I hw
def tRepl (y z : Str) (to : TE) : TE := fun σ H Q => to σ H fun v H1 => ∃ x, v = .str x ∧ x.length + (x.length + 1) * z.length ≤ 16777216 ∧ ∀ u : Str, u.length ≤ x.length + (x.length + 1) * z.length → Q (.str u) H1
end
end L2
namespace L2
open PySem PySem.Spec PyProof.Rows
section
variable {prog : Program} {w : World} {A : Around} {E : Value → Shared → Prop} {s : Shared}
set_option maxHeartbeats 2000000 in
end
end L2
namespace L2
open PySem PySem.Spec PyProof.Rows
section
variable {prog : Program} {w : World} {A : Around} {E : Value → Shared → Prop} {s : Shared}
end
end L2
namespace L2
open PySem PySem.Spec PyProof.Rows
section
variable {prog : Program} {w : World} {A : Around} {E : Value → Shared → Prop} {s : Shared}
theorem en_next {en ir : Addr} {fp : List Addr} {n i : Nat} {j : Int} {P : Nat → Value → Prop} {St : Nat → Heap → Prop} {old : Value} {Q : Value → Shared → Prop}
    (D : Draws prog w A ir fp n P St) (k0 : IsEnum s.heap en ir j old) (st : St i s.heap) (hlt : i < n) (hne : en ≠ ir) (hef : en ∉ fp)
    (hQ : ∀ x hz tk, P i x → IsEnumOut hz en ir (j + 1) x s.heap.objs.size → St (i + 1) hz →
      hz.get? s.heap.objs.size = some { cls := .type "tuple", data := .seq #[.int j tk, x] } → (∀ b o, b ≠ en → b ≠ ir → s.heap.get? b = some o → hz.get? b = some o) → Q (.ref s.heap.objs.size) { s with heap := hz, toks := tk + 1 }) :
    wpAny (model prog w) A (Builtin.«enumerate.__next__» ⟨[.ref en], []⟩) (fun fin z => ∃ v, fin = .done (.ret v) ∧ Q v z) E s := by
  obtain ⟨h0, gs, dr, t0, oo⟩ := s
  show wpAny _ _ (field (.ref en) 2 >>= _) _ _ _
  refine wpAny_bind (wpAny_field k0 rfl (x := .ref ir) rfl ?_)
  refine wpAny_bind (D.item i _ _ _ hlt st fun x h1 tk px st1 b1 => ?_)
  have s1 : Heap.SameBut ir h0 h1 := b1
  have k1 : IsEnum h1 en ir j old := (s1.2 en hne).trans k0
  show wpAny _ _ (field (.ref en) 3 >>= _) _ _ ⟨h1, gs, dr, tk, oo⟩
  refine wpAny_bind (wpAny_field k1 rfl (x := rawInt j) rfl ?_)
  show wpAny _ _ (field (.ref en) 4 >>= _) _ _ ⟨h1, gs, dr, tk, oo⟩
  refine wpAny_bind (wpAny_field k1 rfl (x := .none) rfl ?_)
  show wpAny _ _ (mkInt j >>= _) _ _ ⟨h1, gs, dr, tk, oo⟩
  refine wpAny_bind (wpAny_mkInt ?_)
  show wpAny _ _ (setField (.ref en) 3 (rawInt (j + 1)) >>= _) _ _ ⟨h1, gs, dr, tk + 1, oo⟩
  refine wpAny_bind (wpAny_setField_rec k1 (by simp) fun h2 k2 b2 => ?_)
  have s2 : Heap.SameBut en h1 h2 := b2
  have k2' : IsEnum h2 en ir (j + 1) old := k2
  show wpAny _ _ (setField (.ref en) 4 .none >>= _) _ _ ⟨h2, gs, dr, tk + 1, oo⟩
  refine wpAny_bind (wpAny_setField_rec k2' (by simp) fun h3 k3 b3 => ?_)
  have s3 : Heap.SameBut en h2 h3 := b3
  have k3' : IsEnum h3 en ir (j + 1) old := k3
  show wpAny _ _ (newTuple [.int j tk, x] >>= _) _ _ ⟨h3, gs, dr, tk + 1, oo⟩
  refine wpAny_bind (wpAny_newTuple ?_)
  have k4 : IsEnum (h3.push { cls := .type "tuple", data := .seq #[.int j tk, x] }) en ir (j + 1) old := Heap.get?_push_of_some _ k3'
  generalize e4 : h3.push { cls := .type "tuple", data := .seq #[.int j tk, x] } = h4 at k4
  have z3 : h3.objs.size = h0.objs.size := by rw [s3.1, s2.1, s1.1]
  have lt : en < h0.objs.size := Heap.lt_size k0
  have t4 : h4.get? h0.objs.size = some { cls := .type "tuple", data := .seq #[.int j tk, x] } := by
    rw [← e4, ← z3]
    exact Heap.get?_push_size _ rfl
  have kp4 : ∀ b o, b ≠ en → b ≠ ir → h0.get? b = some o → h4.get? b = some o := fun b o n1 n2 hb => by
    rw [← e4]
    exact Heap.get?_push_of_some _ (s3.extBut b o n1 (s2.extBut b o n1 (s1.extBut b o n2 hb)))
  have st4 : St (i + 1) h4 := D.frame _ _ _ st1 fun b hb o y => by
    have n1 : b ≠ en := fun q => hef (q ▸ hb)
    rw [← e4]
    exact Heap.get?_push_of_some _ (s3.extBut b o n1 (s2.extBut b o n1 y))
  show wpAny _ _ (Builtin.SmallTypes.ownedTupleIsFree (.ref en) >>= _) _ _ ⟨h4, gs, dr, tk + 1, oo⟩
  rw [z3]
  clear e4 k3 k3' b3 s3 k2 k2' b2 s2 k1 s1 b1 st1 z3 h3 h2 h1
  refine wpAny_bind ?_
  unfold Builtin.SmallTypes.ownedTupleIsFree
  refine wpAny_bind (wpAny_field k4 rfl (x := .none) rfl (wpAny_pure ?_))
  simp only [if_true]
  refine wpAny_bind (wpAny_rule ?_)
  refine wpAny_bind (wpAny_field k4 rfl (x := old) rfl ?_)
  refine wpAny_bind (wpAny_setField_rec k4 (by simp) fun h5 k5 b5 => ?_)
  have s5 : Heap.SameBut en h4 h5 := b5
  have k5' : IsEnum h5 en ir (j + 1) x := k5
  show wpAny _ _ (Builtin.SmallTypes.ownedTupleHandOut (.ref en) (.ref h0.objs.size) >>= _) _ _ ⟨h5, gs, dr, tk + 1, oo⟩
  refine wpAny_bind ?_
  unfold Builtin.SmallTypes.ownedTupleHandOut
  refine wpAny_bind (wpAny_setField_rec k5' (by simp) fun h6 k6 b6 => ?_)
  have s6 : Heap.SameBut en h5 h6 := b6
  have k6' : IsEnumOut h6 en ir (j + 1) x h0.objs.size := k6
  refine wpAny_setField_rec k6' (by simp) fun h7 k7 b7 => ?_
  have s7 : Heap.SameBut en h6 h7 := b7
  have k7' : IsEnumOut h7 en ir (j + 1) x h0.objs.size := k7
  refine wpAny_bind (wpAny_letGo (wpAny_pure ⟨_, rfl, hQ x h7 tk px k7' ?_ ?_ ?_⟩))
  · exact D.frame _ _ _ st4 fun b hb o y => by
      have n1 : b ≠ en := fun q => hef (q ▸ hb)
      exact s7.extBut b o n1 (s6.extBut b o n1 (s5.extBut b o n1 y))
  · exact s7.extBut _ _ (Nat.ne_of_gt lt) (s6.extBut _ _ (Nat.ne_of_gt lt) (s5.extBut _ _ (Nat.ne_of_gt lt) t4))
  · exact fun b o n1 n2 hb => s7.extBut b o n1 (s6.extBut b o n1 (s5.extBut b o n1 (kp4 b o n1 n2 hb)))
theorem en_item {en ir : Addr} {fp : List Addr} {n i : Nat} {j : Int} {P : Nat → Value → Prop} {St : Nat → Heap → Prop} {old : Value} {Q : Option Value → Shared → Prop}
    (D : Draws prog w A.in1 ir fp n P St) (k0 : IsEnum s.heap en ir j old) (st : St i s.heap) (hlt : i < n) (hne : en ≠ ir) (hef : en ∉ fp)
    (hQ : ∀ x hz tk, P i x → IsEnumOut hz en ir (j + 1) x s.heap.objs.size → St (i + 1) hz →
      hz.get? s.heap.objs.size = some { cls := .type "tuple", data := .seq #[.int j tk, x] } → (∀ b o, b ≠ en → b ≠ ir → s.heap.get? b = some o → hz.get? b = some o) → Q (some (.ref s.heap.objs.size)) { s with heap := hz, toks := tk + 1 }) :
    wpAny (model prog w) A (pyNext (.ref en)) Q E s := by
  have hT : s.TypeIs (.ref en) "enumerate" := ⟨_, k0, rfl⟩
  unfold pyNext
  refine wpAny_bind (wpAny_attempt (wpAny_callSpecial?_slot (name := Str.ofString "__next__") hT F.slot_enumerate_next (wpAny_call_entry F.slot_enumerate_next hT F.entry_enumerate_next ?_ (F.args_enumerate_next_1 _))))
  exact en_next D k0 st hlt hne hef fun x hz tk a b c d k => wpAny_pure (hQ x hz tk a b c d k)
end
def Ite (K : PySem.W.Frag) (a : Addr) (j : Int) : It :=
  ⟨fun i H => ∃ xs x, SqL K H a xs ∧ xs[i]? = some x, fun i H x H' => ∃ p y, x = .ref p ∧ H p = none ∧ H' = upd H p (.tup [.int (j + (i : Nat)), y]) ∧ ∀ xs, SqL K H a xs → xs[i]? = some y, fun i H => ∃ xs, SqL K H a xs ∧ xs.length = i⟩
theorem turn_enum {P : Program} {w : World} {K : PySem.W.Frag} {elts : List Expr} {x1} {pos : Pos} (a en ir : Addr) (j : Int) (hne : en ≠ ir) :
    Turn P w K (.Tuple elts x1 pos) (Ite K a j) [en, ir] en (fun i h => (∃ old, IsEnum h en ir (j + (i : Nat)) old) ∧ h.IsListIter ir a i) where
  mem := by simp
  obj := fun i h st b hb => by
    obtain ⟨⟨old, k⟩, o, e, c, d⟩ := st
    rcases List.mem_cons.mp hb with z | z
    · exact ⟨_, by rw [z]; exact k, fun v y => by cases y⟩
    · exact ⟨o, by rw [List.mem_singleton.mp z]; exact e, fun v y => by rw [d] at y; cases y⟩
  keep := fun i h h' st k => by
    obtain ⟨⟨old, q⟩, r⟩ := st
    exact ⟨⟨old, k en (by simp) _ q⟩, r.at fun o e => k ir (by simp) o e⟩
  item := by
    intro X hP hw hK hc i pins s σ H E I hf st hg
    subst hP hw hK
    obtain ⟨xs, x, hq, hx⟩ := hg
    obtain ⟨its, rv, p, hz⟩ := I.list hq
    obtain ⟨u, hu, ru⟩ := rv.get hx
    obtain ⟨f0, f1, f2, f3, f4, f5⟩ := hf en (by simp)
    obtain ⟨g0, g1, g2, g3, g4, g5⟩ := hf ir (by simp)
    obtain ⟨⟨old, k⟩, r⟩ := st
    have hii : i < its.toArray.size := by
      have := (List.getElem?_eq_some_iff.mp hu).1
      simpa using this
    have nal : a ≠ ir := fun e => by
      obtain ⟨o1, e1, c1, _⟩ := r
      obtain ⟨o2, e2, c2, _⟩ := p.isList
      rw [e] at e2
      rw [e1] at e2
      cases e2
      rw [c1] at c2
      exact absurd c2 (by intro z; injection z with z; exact absurd z (by decide))
    have nae : en ∉ [ir, a] := fun m => by
      rcases List.mem_cons.mp m with z | z
      · exact hne z
      · obtain ⟨o2, e2, c2, _⟩ := p.isList
        rw [← List.mem_singleton.mp z, k] at e2
        cases e2
        exact absurd c2 (by intro z; injection z with z; exact absurd z (by decide))
    have hh : X.A.in1.handled = none := I.ok.hd hc
    refine en_item (Draws.list hh ir a nal its.toArray) k ⟨r, p.isList⟩ hii hne nae fun y hz2 tk py ko st2 tup kp => ?_
    have ey : y = u := by
      have e : its[i]? = some y := by simpa using py
      rw [hu] at e
      exact (Option.some.inj e).symm
    subst ey
    refine ⟨_, rfl, ?_⟩
    refine wpAny_letOwnedTupleGo_enum ko fun h3 k3 b3 => ?_
    have s3 : Heap.SameBut en hz2 h3 := b3
    have lt1 : en < s.heap.objs.size := Heap.lt_size k
    have lt2 : ir < s.heap.objs.size := by
      obtain ⟨o, e, _⟩ := r
      exact Heap.lt_size e
    have st3 : h3.IsListIter ir a (i + 1) := by
      obtain ⟨o, e, q⟩ := st2.1
      exact ⟨o, (s3.2 ir (Ne.symm hne)).trans e, q⟩
    have k3' : IsEnum h3 en ir (j + ((i + 1 : Nat) : Int)) y := by
      have e : j + ((i + 1 : Nat) : Int) = j + (i : Nat) + 1 := by omega
      rw [e]
      exact k3
    have tup3 : h3.get? s.heap.objs.size = some { cls := .type "tuple", data := .seq #[.int (j + (i : Nat)) tk, y] } := (s3.2 _ (Nat.ne_of_gt lt1)).trans tup
    have fr : H s.heap.objs.size = none := I.hok.fresh (Nat.le_refl _)
    have I2 : Inv X pins σ (upd H s.heap.objs.size (.tup [.int (j + (i : Nat)), x])) { s with heap := h3, toks := tk + 1 } := by
      refine I.step (g' := s.gens) (d' := s.drawn) (ch := [en, ir]) (fun b hb => ?_) (fun b o _ _ hc e _ => ?_) (fun b o _ _ hc e _ => ?_) (fun b o _ e n => ?_) (fun b o hc e => ?_) (fun b xs e => ?_) (fun b o xs e => ?_) (fun b ps e => ⟨#[], ?_⟩) (fun m hm => ?_) (fun b v e => ?_) I.bare
      · rcases List.mem_cons.mp hb with z | z
        · rw [z]; exact ⟨f3, f1, f4, f5⟩
        · rw [List.mem_singleton.mp z]; exact ⟨g3, g1, g4, g5⟩
      · exact (s3.2 b (fun z => hc (by simp [z]))).trans (kp b o (fun z => hc (by simp [z])) (fun z => hc (by simp [z])) e)
      · exact ⟨o.slots, (s3.2 b (fun z => hc (by simp [z]))).trans (kp b o (fun z => hc (by simp [z])) (fun z => hc (by simp [z])) e)⟩
      · rw [upd_ne (Nat.ne_of_lt (Heap.lt_size e))]; exact n
      · by_cases hb : b = en ∨ b = ir
        · rcases hb with z | z
          · exact absurd (by simp [z]) hc
          · exact absurd (by simp [z]) hc
        · exact ⟨o, (s3.2 b (fun z => hb (.inl z))).trans (kp b o (fun z => hb (.inl z)) (fun z => hb (.inr z)) e)⟩
      · rw [upd_ne (ne_of_none e fr)]; exact e
      · rw [upd_ne (ne_of_none e fr)]; exact e
      · rw [upd_ne (ne_of_none e fr), e]; simp
      · obtain ⟨o, es, ep, ho, q⟩ := hm
        exact ⟨o, es, ep, (s3.2 _ (Ne.symm f1)).trans (kp _ o (Ne.symm f1) (Ne.symm g1) ho), q⟩
      · by_cases hb : b = s.heap.objs.size
        · subst hb
          rw [upd_same] at e
          cases e
          exact ⟨small (by show 2 ≤ 1000; decide), [.int (j + (i : Nat)) tk, y], .cons ⟨_, rfl⟩ (.cons ru .nil), _, tup3, rfl, _, rfl⟩
        · rw [upd_ne hb] at e
          have nn : ∀ c v, H c = some v → c ≠ en ∧ c ≠ ir := fun c v q => ⟨(fun z => by rw [z, f0] at q; cases q), (fun z => by rw [z, g0] at q; cases q)⟩
          refine (I.hok b v e).stay (fun c v' hc q => ?_) (fun c q => by rw [upd_ne (ne_of_none q fr)]; exact q) (fun c xs q => by rw [upd_ne (ne_of_none q fr)]; exact q)
          have m : c ≠ en ∧ c ≠ ir := by
            rcases hc with z | z
            · rw [z]; exact nn b v e
            · exact nn c _ z
          exact (s3.2 c m.1).trans (kp c v' m.1 m.2 q)
    refine ⟨.ref s.heap.objs.size, _, I2, rfl, ⟨_, x, rfl, fr, rfl, fun ys hy => by rw [I.list_inj hy hq]; exact hx⟩, ⟨⟨_, k3'⟩, st3⟩, fun b hb => ?_⟩
    rw [upd_ne (fun z => ?_)]
    · exact (hf b hb).1
    · rw [z] at hb
      rcases List.mem_cons.mp hb with q | q
      · exact Nat.ne_of_gt lt1 q
      · exact Nat.ne_of_gt lt2 (List.mem_singleton.mp q)
  done := by
    intro X hP hw hK hc i pins s σ H E I hf st hg
    subst hP hw hK
    obtain ⟨xs, hq, hx⟩ := hg
    obtain ⟨its, rv, p, hz⟩ := I.list hq
    obtain ⟨g0, g1, g2, g3, g4, g5⟩ := hf ir (by simp)
    obtain ⟨⟨old, k⟩, r⟩ := st
    have hl := rv.length
    have nal : a ≠ ir := fun e => by
      obtain ⟨o1, e1, c1, _⟩ := r
      obtain ⟨o2, e2, c2, _⟩ := p.isList
      rw [e] at e2
      rw [e1] at e2
      cases e2
      rw [c1] at c2
      exact absurd c2 (by intro z; injection z with z; exact absurd z (by decide))
    have hh : X.A.in1.handled = none := I.ok.hd hc
    have en_i : i = its.toArray.size := by simp; omega
    subst en_i
    refine wpAny_pyNext_enum_endD (Draws.list hh ir a nal its.toArray) k ⟨r, p.isList⟩ fun h' eb => ?_
    exact ⟨rfl, I.turned (t' := s.toks) (fun b o hb e => eb b o hb e) g0 g1 g3 g4 g5⟩
  self := fun A i s Q E st h => by
    obtain ⟨⟨old, k⟩, _⟩ := st
    exact wpAny_pyIter_enum k h
section
variable {X : Cx} {elts : List Expr} {x1 : Nat} {tpos : Pos}
def iEnumK (K : PySem.W.Frag) (tl : TA) (tj : TA) : TI := fun σ H R => tl σ H fun vs H1 => tj σ H1 fun zs H2 => ∃ a j, vs = [.ref a] ∧ zs = [.int j] ∧ (∃ xs, SqL K H2 a xs) ∧ Builtin.SmallTypes.fitsIndex j = true ∧ R (Ite K a j) H2
def iEnum (K : PySem.W.Frag) (tl : TA) : TI := fun σ H R => tl σ H fun vs H1 => ∃ a, vs = [.ref a] ∧ (∃ xs, SqL K H1 a xs) ∧ R (Ite K a 0) H1
theorem en_it {pins : List (Addr × Obj)} {σ : St} {H : Hp} {s : Shared} {R : It → Hp → Prop} {E : Value → Shared → Prop} {a : Addr} {j : Int} {h1 : Heap} (I : Inv X pins σ H s) (k : IsEnum h1 (s.heap.objs.size + 1) s.heap.objs.size j .none) (st : h1.IsListIter s.heap.objs.size a 0)
    (kp : ∀ b o, s.heap.get? b = some o → h1.get? b = some o) (q : R (Ite X.K a j) H) : wpAny (model X.prog X.w) X.A (pyIter (.ref (s.heap.objs.size + 1))) (PIE X pins σ (.Tuple elts x1 tpos) R) E { s with heap := h1 } := by
  refine wpAny_pyIter_enum k ?_
  have I1 : Inv X pins σ H { s with heap := h1 } := I.kept (t' := s.toks) kp
  refine ⟨s.heap.objs.size + 1, [s.heap.objs.size + 1, s.heap.objs.size], _, _, H, rfl, I1, turn_enum a _ _ j (Nat.succ_ne_self _), ⟨⟨.none, ?_⟩, st⟩, fun b hb => ?_, q⟩
  · have e : j + ((0 : Nat) : Int) = j := by omega
    rw [e]
    exact k
  · rcases List.mem_cons.mp hb with z | z
    · rw [z]; exact I.fpOk (Nat.le_succ _) (I.hok.fresh (Nat.le_succ _))
    · rw [List.mem_singleton.mp z]; exact I.fpOk (Nat.le_refl _) (I.hok.fresh (Nat.le_refl _))
theorem pi_enum {a : Expr} {tl : TA} {p pos : Pos} (hg : Gl X "enumerate") (hm : X.mg "enumerate" = none) (ha : PA X [a] tl) (hs : starEach [a] X.env = [(false, eval a X.env)] := by rfl) :
    PI X (.Tuple elts x1 tpos) (.Call (.Name "enumerate" p) [a] [] pos) (iEnum X.K tl) := by
  intro pins s σ H R I h
  refine Call_ (ld_blt I hg hm boot_enumerate (PyProof.Rows.callWith_type1 (thn (ha pos pins s σ H _ I h) fun us s1 ⟨vs, H1, I1, r1, q1⟩ => ?_) hs rfl))
  obtain ⟨l, rfl, ⟨xs, hq⟩, q⟩ := q1
  obtain ⟨u, rfl, ru⟩ := vals1 r1
  cases ru
  obtain ⟨its, rv, pl, hz⟩ := I1.list hq
  exact call_enumerate_list pl.isList fun h1 k st _ kp => en_it I1 k st kp q
end
theorem for_enum {K : PySem.W.Frag} {a : Addr} {j : Int} {xs : List V} {g : TG} {tb : TS} {D : Ends} {σ : St} {H : Hp} (Pv : Nat → St → Hp → Prop) (h0 : Pv 0 σ H) (hl : ∀ i σ H, i ≤ xs.length → Pv i σ H → SqL K H a xs)
    (hs : ∀ i x σ H p, xs[i]? = some x → Pv i σ H → H p = none → g (.ref p) σ (upd H p (.tup [.int (j + (i : Nat)), x])) fun σ2 H2 => tb { D with nx := Pv (i + 1), ct := Pv (i + 1), bk := D.nx } σ2 H2) (hd : ∀ σ H, Pv xs.length σ H → D.nx σ H) :
    ∃ W : Nat → Nat → St → Hp → Prop, (∃ m, W 0 m σ H) ∧ ∀ i m σ H, W i m σ H →
      ((Ite K a j).stop i H ∧ D.nx σ H) ∨ ((Ite K a j).go i H ∧ ∃ N : St → Hp → Prop, (∀ σ' H', N σ' H' → ∃ m', m' < m ∧ W (i + 1) m' σ' H') ∧ ∀ x H', (Ite K a j).yld i H x H' → g x σ H' fun σ2 H2 => tb { D with nx := N, ct := N, bk := D.nx } σ2 H2) := by
  refine ⟨fun i m σ H => m = xs.length - i ∧ i ≤ xs.length ∧ Pv i σ H, ⟨xs.length, by simp, Nat.zero_le _, h0⟩, ?_⟩
  rintro i m σ H ⟨rfl, hi, p⟩
  have q := hl i σ H hi p
  by_cases hlt : i < xs.length
  · refine .inr ⟨⟨xs, xs[i], q, by simp [hlt]⟩, Pv (i + 1), fun σ' H' p' => ⟨xs.length - (i + 1), by omega, rfl, hlt, p'⟩, fun x H' y => ?_⟩
    obtain ⟨c, z, rfl, hc, rfl, y⟩ := y
    exact hs i z σ H c (y xs q) p hc
  · have e : i = xs.length := by omega
    subst e
    exact .inl ⟨⟨xs, q, rfl⟩, hd σ H p⟩
end L2
namespace L2
open PySem PySem.Spec PyProof.Rows
section
variable {X : Cx} {pins : List (Addr × Obj)} {σ : St} {H : Hp} {s : Shared} {d : Addr} {kvs : List (Key × V)}
def tFrz (t : TE) : TE := fun σ H Q => ∃ (d : Addr) (kvs : List (Key × V)), H d = some (.dK kvs) ∧ ∀ o, t σ (upd H d (.frz o (.dK kvs))) fun v H' => H' d = some (.frz o (.dK kvs)) ∧ Q v (upd H' d (.dK kvs))
def sFrz (t : TS) : TS := fun D σ H => ∃ (d : Addr) (kvs : List (Key × V)), H d = some (.dK kvs) ∧ ∀ o, t { nx := fun σ' H' => H' d = some (.frz o (.dK kvs)) ∧ D.nx σ' (upd H' d (.dK kvs)), rt := fun v H' => H' d = some (.frz o (.dK kvs)) ∧ D.rt v (upd H' d (.dK kvs)), bk := fun σ' H' => H' d = some (.frz o (.dK kvs)) ∧ D.bk σ' (upd H' d (.dK kvs)), ct := fun σ' H' => H' d = some (.frz o (.dK kvs)) ∧ D.ct σ' (upd H' d (.dK kvs)) } σ (upd H d (.frz o (.dK kvs)))
end
def Itd (d : Addr) (o : Obj) (kvs : List (Key × V)) : It :=
  ⟨fun i H => H d = some (.frz o (.dK kvs)) ∧ i < kvs.length, fun i H x H' => H' = H ∧ ∃ k v, kvs[i]? = some (k, v) ∧ x = kV k, fun i H => H d = some (.frz o (.dK kvs)) ∧ kvs.length = i⟩
section
variable {X : Cx} {tg : Expr}
def iDict (tl : TE) : TI := fun σ H R => tl σ H fun x H1 => ∃ d o kvs, x = .ref d ∧ H1 d = some (.frz o (.dK kvs)) ∧ R (Itd d o kvs) H1
def rInsert : V → List V → Hp → VK → Prop := fun x vs H Q => ∃ l xs i y, x = .ref l ∧ vs = [.int i, y] ∧ H l = some (.lst xs) ∧ 0 ≤ i ∧ i ≤ ((xs.length : Nat) : Int) ∧ xs.length < sizeLine ∧ Q .non (upd H l (.lst (xs.take i.toNat ++ y :: xs.drop i.toNat)))
structure Dfn (P : Program) (w : World) (K : PySem.W.Frag) (mg : Str → Option Value) (base : Heap) (k : Nat) (x : Str) (ps : List Str) (sp : Sp) : Prop where
  ex : ∃ f fd, FnOk P w K mg base CX0 k f fd ps sp ∧ Binds K fd ps [] ∧ PySem.W.keepIn K (.ref f) = true ∧ mg x = some (.ref f)
theorem pe_callD {k : Nat} {x : Str} {ps : List Str} {sp : Sp} {e : Expr} {es : List Expr} {t : TA} {p pos : Pos} (D : Dfn X.prog X.w X.K X.mg X.base k x ps sp) (hr : Room k X.A) (hg : Gl X x) (ha : PA X (e :: es) t) (hdb : (x == ("__debug__" : Str)) = false := by decide)
    (he : starEach (e :: es) X.env = (false, eval e X.env) :: starEach es X.env := by rfl) (hpl : (backTo pos (starEach es X.env)).any (·.1) = false := by rfl) : PE X (.Call (.Name x p) (e :: es) [] pos) (tCall sp [] E0 t) := by
  obtain ⟨f, fd, F, b, kp, m⟩ := D.ex
  exact pe_call F hr hg m kp b .nil pass0 ha hdb he hpl
structure GS (mg : Str → Option Value) (x : Str) (z : Str) : Prop where
  ex : ∃ t, mg x = some (.str z t)
structure GI (mg : Str → Option Value) (x : Str) (z : Int) : Prop where
  ex : ∃ t, mg x = some (.int z t)
theorem pe_gs {x z : Str} {pos : Pos} (G : GS X.mg x z) (hg : Gl X x) (hd : (x == ("__debug__" : Str)) = false := by decide) : PE X (.Name x pos) (tC (.str z)) := by
  obtain ⟨t, e⟩ := G.ex
  exact pe_glob hg e (rel_str _ _) hd
theorem pe_gi {x : Str} {z : Int} {pos : Pos} (G : GI X.mg x z) (hg : Gl X x) (hd : (x == ("__debug__" : Str)) = false := by decide) : PE X (.Name x pos) (tC (.int z)) := by
  obtain ⟨t, e⟩ := G.ex
  exact pe_glob hg e (rel_int _ _) hd
end
end L2
namespace L2
open PySem PySem.Spec PyProof.Rows
section
variable {X : Cx}
structure MkD (P : Program) (w : World) (K : PySem.W.Frag) (mg : Str → Option Value) (base : Heap) (k : Nat) (x : Str) (C : Addr) (ps : List Str) (sp : Sp) : Prop where
  ex : ∃ f fd, Mk K C f ∧ FnOk P w K mg base CX0 k f fd ps sp ∧ Binds K fd ps [] ∧ mg x = some (.ref C)
structure MtD (P : Program) (w : World) (K : PySem.W.Frag) (mg : Str → Option Value) (base : Heap) (k : Nat) (m : Str) (C : Addr) (ps : List Str) (sp : Sp) : Prop where
  ex : ∃ f fd, Meth K C m f ∧ FnOk P w K mg base CX0 k f fd ps sp ∧ Binds K fd ps []
theorem pe_ixK {K : PySem.W.Frag} {a b : Expr} {ta tb : TE} {pos : Pos} {r : PySem.W.Frag → R2} (hK : X.K = K) (hr : IxR X (r X.K)) (ha : PE X a ta) (hb : PE X b tb) (hs : PlainIx b) : PE X (.Subscript a b pos) (tOp (r K) ta tb) := by
  subst hK
  exact pe_ix hr ha hb hs
def tAt (t : TS) : TS := fun D σ H => ∃ σ', σ = σ' ∧ t D σ' H
end
end L2
namespace PySem.W
open PySem PySem.Spec PySem.Calls PyProof.Rows Builtin Builtin.ObjectAttr Builtin.Getset_descriptor
abbrev veMro : List Value := [.type "ValueError", .type "Exception", .type "BaseException", .type "object"]
def excMk (K : Frag) (C : Addr) : Bool := match K.lookup C with
  | some ⟨.type "type", _, .cls cd, sls⟩ => (match cd.mro, sls.toList with
    | .ref C' :: tlm, [_, _, _, _, some (.builtin n), _] => C' == C && n == "ValueError.__new__" && !cd.hasDel && tailIn K veMro tlm
    | _, _ => false)
  | _ => false
def ExcAt (h : Heap) (C : Addr) (tlm : List Value) : Prop := ∃ N nm q bs hdct sn sub ab col dd q0 q1 q2 q3 q5, h.get? C = some (excClassObj nm q C N bs tlm hdct sn sub ab col dd q0 q1 q2 q3 q5 "ValueError.__new__")
theorem excMk_obj {K : Frag} {h : Heap} {C : Addr} (X : K.In h) (q : excMk K C = true) : ∃ tlm, ExcAt h C tlm ∧ OwnTail h veMro tlm := by
  unfold excMk at q
  split at q
  · rename_i dd cd sls ho
    split at q
    · rename_i C' tlm q0 q1 q2 q3 n q5 hmm hss
      simp only [beq_iff_eq, Bool.and_eq_true, Bool.not_eq_true'] at q
      obtain ⟨⟨⟨rfl, rfl⟩, hdel⟩, ht⟩ := q
      obtain ⟨nm, bs, mro, ns, qun, hd, sn, sub, ab, col, del⟩ := cd
      dsimp only at hmm hdel
      subst hmm hdel
      have hsl : sls = #[q0, q1, q2, q3, some (.builtin "ValueError.__new__"), q5] := by
        obtain ⟨l⟩ := sls
        simp only at hss
        rw [hss]
      subst hsl
      exact ⟨tlm, ⟨ns, nm, qun, bs, hd, sn, sub, ab, col, dd, q0, q1, q2, q3, q5, X _ _ ho⟩, tail_of_in X ht⟩
    · cases q
  · cases q
abbrev excTup (us : List Value) : Obj := { cls := .type "tuple", data := .seq us.toArray }
abbrev excNew (C t0 : Addr) : Obj := { cls := .ref C, data := .fields #[.ref t0, .none, .none, .none, .bool false, .none] }
section
variable {prog : Program} {w : World} {A : Around} {K : Frag} {C f : Addr} {R : Result → Shared → Prop} {h : Heap} {g : Array GenState} {d : Drawn} {t : Nat} {os : OsState}
theorem make_X {us : List Value} (X : K.In h) (e : excMk K C = true) (hi : findIn K (.ref C) "__init__" = some (some (.ref f))) (hf : typeIn K (.ref f) = some (.type "function")) (hrest : us.length ≤ sizeLine)
    (hq : codeAny (model prog w) (A.under (.builtin "type.__call__" ⟨.ref C :: us, []⟩)) (.call (.ref f) ⟨.ref (h.objs.size + 1) :: us, []⟩) (InitBack (h.objs.size + 1) R) ⟨(h.push (excTup us)).push (excNew C h.objs.size), g, d, t, os⟩) :
    codeAny (model prog w) A (.call (.ref C) ⟨us, []⟩) R ⟨h, g, d, t, os⟩ := by
  obtain ⟨tlm, ⟨N, nm, q, bs, hdct, sn, sub, ab, col, dd, q0, q1, q2, q3, q5, hCl⟩, T⟩ := excMk_obj X e
  have FB := PySem.F.excBase_ValueError
  have f1 := tc_lookup
  have f2 := tc_bind (.ref C)
  have hTy : (⟨h, g, d, t, os⟩ : Shared).TypeIs (.ref C) "type" := ⟨_, hCl, rfl⟩
  refine codeAny_of_tree ?_
  show wpAny (model prog w) A.in1 (callAny (.ref C) _) _ _ _
  repeat (any_goals (first | assumption | with_reducible refine wpAny_loadPart_at hCl ?_ | wp_step))
  refine ⟨rfl, ?_⟩
  refine codeAny_call_builtin_at (Code.quiet_builtin _ (by decide +kernel)) entry_typeCall (wpAny_check_type_call_sub hCl ?_)
  repeat (first | with_reducible refine wpAny_loadPart_at hCl ?_ | with_reducible refine wpAny_madeBy_exc hCl ?_ | wp_step)
  refine codeAny_call_builtin_code (Code.quiet_builtin _ FB.quiet) (wpAny_check_new_subT FB T hCl ?_)
  refine codeAny_exc_new_subT FB T hCl ?_ hrest
  show wpAny _ _ _ _ _ _
  have k : ∀ b o, h.get? b = some o → ((h.push (excTup us)).push (excNew C h.objs.size)).get? b = some o := fun b o e => Heap.get?_push_of_some _ (Heap.get?_push_of_some _ e)
  have hx : ((h.push (excTup us)).push (excNew C h.objs.size)).get? (h.objs.size + 1) = some (excNew C h.objs.size) := by heap_get
  have t1 : Looks (model prog w) ((h.push (excTup us)).push (excNew C h.objs.size)) (typeOf (.ref (h.objs.size + 1))) (.ref C) := (Looks.ld hx).andThen .now
  have hcc : (Value.ref C :: tlm).contains (.ref C) = true := by simp
  have s0 : Looks (model prog w) h (isSubtype (.ref C) (.ref C)) true := by
    intro A Q E s kk qq
    obtain ⟨h1, g1, d1, tk1, os1⟩ := s
    exact wpAny_isSubtype_exc (kk _ _ hCl) (by rw [hcc]; exact qq)
  have s1 := s0.keeps k
  have i1 := (looks_findIn (M := model prog w) X hi).keeps k
  have b1 := (bind_fn (M := model prog w) X (.ref (h.objs.size + 1)) hf).keeps k
  have hC₁ := k _ _ hCl
  unfold isInstance
  refine wpAny_bind (wpAny_bind (t1.here (s1.here ?_)))
  simp only [Bool.false_eq_true, Bool.not_true, if_false]
  refine wpAny_bind (wpAny_holding ?_); unfold callSpecial? specialOf
  refine wpAny_bind (wpAny_bind (t1.here ?_))
  refine i1.here ?_
  refine wpAny_holding (wpAny_bind (b1.here ?_))
  refine wpAny_bind (wpAny_call ?_)
  refine codeAny_mono hq fun r s' zz => ?_
  rcases r with e | (v | _ | _ | _) <;> first | exact zz | exact zz.elim | skip
  obtain ⟨rfl, zz⟩ := zz
  exact wpAny_pure (wpAny_pure zz)
end
end PySem.W
namespace PySem.W
open PySem PySem.Spec PySem.Calls PyProof.Rows Builtin Builtin.ObjectAttr Builtin.Getset_descriptor
def onlyVE : List Value → Bool
  | .ref _ :: r => onlyVE r
  | .type n :: r => (.type n :: r) == veMro
  | _ => false
theorem refuse_VE (self : Value) : ∀ {l : List Value}, onlyVE l = true → refuseLoop self "__setattr__" l = pure ()
  | .ref c :: r, e => by rw [refuseLoop_ref]; exact refuse_VE self (show onlyVE r = true from e)
  | .type n :: r, e => by rw [show Value.type n :: r = veMro from beq_iff_eq.mp e]; exact PySem.F.store_ValueError.passes self
theorem has_VE {b : String} (hbb : veMro.contains (.type b) = true) : ∀ {l : List Value}, onlyVE l = true → l.contains (.type b) = true
  | .ref c :: r, e => by rw [List.contains_cons, has_VE hbb (l := r) e, Bool.or_true]
  | .type n :: r, e => by rw [show Value.type n :: r = veMro from beq_iff_eq.mp e]; exact hbb
def excOver (K : Frag) (C : Addr) : Bool := (clsIn K C).any fun cdt => onlyVE cdt.mro
section
variable {prog : Program} {w : World} {A : Around} {K : Frag} {C x : Addr} {s : Shared} {R : Result → Shared → Prop}
theorem osa_X {ox : Obj} {od : Option Obj} {nm : Str} {tk : Tok} {v : Value} {r : Option Value} (X : K.In s.heap) (I : InstAt s.heap x ox C od) (hp : excOver K C = true) (ht : takerIn K C nm = some r)
    (go : ∀ b, wpAny (model prog w) A.in1 (match r with | some a => setByDescriptor a (.ref x) v | none => storeInOwnDict (.ref x) (.ref C) (.str nm tk) nm v b)
      (fun fi s' => match fi with | .done f => R (.ok f) s' | .again c' => c'.quiet = true ∧ codeAny (model prog w) A c' R s') (fun e s' => R (.error e) s') s) :
    codeAny (model prog w) A (.call (.builtin "object.__setattr__") ⟨[.ref x, .str nm tk, v], []⟩) R s := by
  have SFo := PySem.F.store_object
  obtain ⟨cdt, hcd, hov⟩ := any_some hp
  have nem : cdt.mro.isEmpty = false := by cases q : cdt.mro with | nil => rw [q] at hov; cases hov | cons _ _ => rfl
  have sub : Looks (model prog w) s.heap (isInstance (.ref x) (.type "object")) true := I.type.andThen (looks_mroIn X (by unfold mroIn; rw [hcd, Option.bind_some, if_neg (by rw [nem]; decide), has_VE (by decide +kernel) hov]))
  refine codeAny_call_builtin SFo.slot.plain SFo.entry (@check_slot (model prog w) _ _ s "object.__setattr__" "object" "__setattr__" (.ref x) [.str nm tk, v] [] _ SFo.kind SFo.split sub (SFo.args (.ref x) (.str nm tk) v) ?_)
  obtain ⟨atr, ha, hrr⟩ := Option.bind_eq_some_iff.mp ht
  have hmr : Looks (model prog w) s.heap (mroOf (.ref C)) cdt.mro := (looks_clsIn X hcd).andThen .now
  have l3 : Looks (model prog w) s.heap (storeTaker? atr) r := by
    cases atr with
    | none => cases hrr; exact .now
    | some a =>
      obtain ⟨b, hbb, rfl⟩ := Option.map_eq_some_iff.mp hrr
      refine (looks_takesIn X hbb).andThen ?_
      cases b <;> exact .now
  rw [osa_eq, refuse_eq]
  refine wpAny_bind (wpAny_bind (I.type.here (wpAny_bind (hmr.here ?_))))
  rw [refuse_VE _ hov]
  refine wpAny_pure (wpAny_bind (I.type.here (wpAny_bind ((looks_findIn X ha).here (wpAny_bind (l3.here ?_))))))
  exact go _
variable {E : Value → Shared → Prop} {vs : Array Value} {sl : Array (Option Value)} {nm : Str} {v : Value}
theorem setX_new {Q : Unit → Shared → Prop} (X : K.In s.heap) (hx : s.heap.get? x = some ⟨.ref C, none, .fields vs, sl⟩) (hs : findIn K (.ref C) "__setattr__" = some (some (.builtin "object.__setattr__")))
    (hp : excOver K C = true) (ht : takerIn K C nm = some none) (hh : hasDictIn K C = true)
    (h : ∀ h', h'.get? x = some ⟨.ref C, some s.heap.objs.size, .fields vs, sl⟩ → h'.Ns1 s.heap.objs.size (fun y => if y = nm then some v else none) → (∀ b o, b ≠ x → s.heap.get? b = some o → h'.get? b = some o) →
      Q () { s with heap := h', toks := s.toks + 2 }) : wpAny (model prog w) A (setAttr (.ref x) nm v) Q E s := by
  have J : InstAt s.heap x ⟨.ref C, none, .fields vs, sl⟩ C none := ⟨hx, rfl, rfl, True.intro⟩
  refine set_plain X J hs (osa_X (s := { s with toks := s.toks + 1 }) (r := none) X J hp ht fun b => ?_)
  obtain ⟨cdt, hcd, hdc⟩ := any_some hh
  refine wpAny_bind (wpAny_pure (wpAny_bind (wpAny_bind (wpAny_loadPart hx (wpAny_bind (Looks.here (s := { s with toks := s.toks + 1 }) (looks_clsIn X hcd) ?_))))))
  rw [hdc]
  have hxz : x ≠ s.heap.objs.size := Nat.ne_of_lt (Heap.lt_size hx)
  have hx1 : (s.heap.push { cls := .type "dict", data := .dict #[] }).get? x = some ⟨.ref C, none, .fields vs, sl⟩ := Heap.get?_push_of_some _ hx
  refine wpAny_bind (wpAny_alloc (wpAny_bind (wpAny_update hx1 ?_)))
  refine wpAny_pure (a := some s.heap.objs.size) ?_
  have hx2 : ((s.heap.push { cls := .type "dict", data := .dict #[] }).update x fun o => { cls := o.cls, dict := some s.heap.objs.size, data := o.data, slots := o.slots }).get? x = some ⟨.ref C, some s.heap.objs.size, .fields vs, sl⟩ := by
    rw [Heap.get?_update_self _ hx1 rfl]
  have hgx : ((s.heap.push { cls := .type "dict", data := .dict #[] }).update x fun o => { cls := o.cls, dict := some s.heap.objs.size, data := o.data, slots := o.slots }).get? s.heap.objs.size = some { cls := .type "dict", data := .dict #[] } :=
    (Heap.get?_update_ne _ _ _ _ hxz.symm).trans (Heap.get?_push_at rfl rfl)
  have hnd : ((s.heap.push { cls := .type "dict", data := .dict #[] }).update x fun o => { cls := o.cls, dict := some s.heap.objs.size, data := o.data, slots := o.slots }).Ns s.heap.objs.size (fun _ => none) :=
    ⟨_, #[], _, hgx, rfl, fun e he => absurd he (by simp), fun _ => rfl⟩
  refine wpAny_bind (wpAny_pure (wpAny_bind (wpAny_nsSet1 (Heap.Ns1.of_empty hnd) fun h' hn' hs' => ?_)))
  obtain ⟨oD, esD, epD, hoE, hdE, hcE⟩ := hn'.count (Within.cons nm v Within.nil)
  refine wpAny_bind (wpAny_lookBehind hoE (by rw [hdE]; exact pastItsLine_dict (Nat.le_trans hcE (by rw [List.length_cons, List.length_nil, sizeLine_eq]; omega))) ?_)
  refine wpAny_pure (h h' ((hs'.2 x hxz).trans hx2) hn' fun b o hbb q => ?_)
  exact (hs'.2 b (Nat.ne_of_lt (Heap.lt_size q))).trans ((Heap.get?_update_ne _ _ _ _ hbb).trans (Heap.get?_push_of_some _ q))
theorem setX_old {Q : Unit → Shared → Prop} {dxa : Addr} {mA : Str → Option Value} {ns : List Str} (X : K.In s.heap) (hx : s.heap.get? x = some ⟨.ref C, some dxa, .fields vs, sl⟩) (hn : s.heap.Ns1 dxa mA) (hne : dxa ≠ x)
    (hs : findIn K (.ref C) "__setattr__" = some (some (.builtin "object.__setattr__"))) (hp : excOver K C = true) (ht : takerIn K C nm = some none) (hh : hasDictIn K C = true) (hw : Within mA ns) (hsz : ns.length < sizeLine)
    (h : ∀ h', h'.Ns1 dxa (fun y => if y = nm then some v else mA y) → (∀ b o, b ≠ dxa → s.heap.get? b = some o → h'.get? b = some o) →
      Q () { s with heap := h', toks := s.toks + 2 }) : wpAny (model prog w) A (setAttr (.ref x) nm v) Q E s := by
  obtain ⟨od, hov, hl⟩ := L2.lookIn_ns hn
  have J : InstAt s.heap x ⟨.ref C, some dxa, .fields vs, sl⟩ C (some od) := ⟨hx, rfl, rfl, hov⟩
  refine set_plain X J hs (osa_X (s := { s with toks := s.toks + 1 }) (r := none) X J hp ht fun b => ?_)
  obtain ⟨cdt, hcd, hdc⟩ := any_some hh
  refine wpAny_bind (wpAny_pure (wpAny_bind (wpAny_bind (wpAny_loadPart hx (wpAny_bind (Looks.here (s := { s with toks := s.toks + 1 }) (looks_clsIn X hcd) ?_))))))
  rw [hdc]
  refine wpAny_pure (a := some dxa) (wpAny_bind (wpAny_pure (wpAny_bind ?_)))
  refine wpAny_nsSet1 (s := { s with toks := s.toks + 1 }) hn fun h' hn' hs' => ?_
  obtain ⟨oD, esD, epD, hoE, hdE, hcE⟩ := hn'.count (Within.cons nm v hw)
  refine wpAny_bind (wpAny_lookBehind hoE (by rw [hdE]; exact pastItsLine_dict (Nat.le_trans hcE (by rw [List.length_cons]; omega))) ?_)
  exact wpAny_pure (h h' hn' fun b o hbb q => (hs'.2 b hbb).trans q)
end
end PySem.W
namespace PySem.W
open PySem PySem.Spec PySem.Calls PyProof.Rows Builtin Builtin.ObjectAttr Builtin.Getset_descriptor
section
variable {prog : Program} {w : World} {A : Around} {K : Frag} {C x : Addr} {s : Shared} {E : Value → Shared → Prop} {ox : Obj} {od : Option Obj} {nm : Str} {v : Value} {Q : Value → Shared → Prop} {expr : Bool}
theorem gaX_call {h : Heap} {g : Array GenState} {d : Drawn} {t : Nat} {os : OsState} {tk : Tok} {R : Result → Shared → Prop} (X : K.In h) (I : InstAt h x ox C od) (hp : excOver K C = true) (hf : findObj K C od nm = some (.value v)) (hq : R (.ok (.ret v)) ⟨h, g, d, t, os⟩) :
    codeAny (model prog w) A (.call (.builtin "BaseException.__getattribute__") ⟨[.ref x, .str nm tk], []⟩) R ⟨h, g, d, t, os⟩ := by
  obtain ⟨cdt, hcd, hov⟩ := any_some hp
  have nem : cdt.mro.isEmpty = false := by cases q : cdt.mro with | nil => rw [q] at hov; cases hov | cons _ _ => rfl
  have sub : Looks (model prog w) h (isInstance (.ref x) (.type "BaseException")) true := I.type.andThen (looks_mroIn X (by unfold mroIn; rw [hcd, Option.bind_some, if_neg (by rw [nem]; decide), has_VE (by decide +kernel) hov]))
  have l0 := I.type (M := model prog w)
  have l1 := looks_find (M := model prog w) X I hf
  refine codeAny_call_builtin (by decide +kernel) PySem.F.entry_bexc_ga (@check_slot (model prog w) _ _ _ "BaseException.__getattribute__" "BaseException" "__getattribute__" (.ref x) [.str nm tk] [] _ (by decide +kernel) (by decide +kernel) sub (PySem.F.args_bexc_ga (.ref x) (.str nm tk)) ?_)
  refine wpAny_bind (wpAny_pure (wpAny_bind (wpAny_pure (wpAny_bind (l0.at (wpAny_bind (l1.at ?_)))))))
  exact wpAny_pure hq
theorem getX (X : K.In s.heap) (I : InstAt s.heap x ox C od) (hga : findIn K (.ref C) "__getattribute__" = some (some (.builtin "BaseException.__getattribute__"))) (hgn : findIn K (.ref C) "__getattr__" = some none) (hp : excOver K C = true)
    (hf : findObj K C od nm = some (.value v)) (hhd : handedIn v = true) (h : Q v { s with toks := s.toks + 1 }) : wpAny (model prog w) A (getAttr (.ref x) nm expr) Q E s := by
  obtain ⟨hp', g, d, t, os⟩ := s
  have l0 := I.type (M := model prog w)
  have l1 := looks_findIn (M := model prog w) X hga
  have l2 := looks_findIn (M := model prog w) X hgn
  have f3 : bindSpecial (.builtin "BaseException.__getattribute__") (.ref x) = pure (.builtin "BaseException.__getattribute__", [.ref x]) :=
    (Slot.of (T := "ValueError") (name := "__getattribute__") (owner := "BaseException") (n := "__getattribute__") (by rw [typeLookup_type, builtinLookup_eq_fast]; kernel_rfl) (by decide +kernel) (by decide +kernel) (by decide +kernel)
      (.inl (by decide +kernel)) (by rw [isSubtype_type]; kernel_rfl)).bind (.ref x)
  have hxo : (expr && onTheHeap (Value.builtin "BaseException.__getattribute__")) = false := by cases expr <;> rfl
  unfold getAttr getAttrBy
  refine wpAny_bind (wpAny_mkText (wpAny_holding (wpAny_bind (l0.at (wpAny_bind (l1.at ?_))))))
  have hx2 : (onTheHeap (Value.ref C) && Value.builtin "BaseException.__getattribute__" == Value.builtin "object.__getattribute__") = false := by
    rw [show (Value.builtin "BaseException.__getattribute__" == Value.builtin "object.__getattribute__") = false by decide +kernel, Bool.and_false]
  dsimp only at l0 l1 l2 X I h ⊢
  rw [hx2, if_neg Bool.false_ne_true]
  unfold getAttrByItsOwn
  refine wpAny_bind (l2.at ?_)
  repeat (any_goals first | assumption | wp_step)
  refine gaX_call X I hp hf ?_
  show wpAny (model prog w) A (handedOut v) _ _ _
  rw [handedOut_of hhd]; exact wpAny_pure h
end
end PySem.W
namespace L2
open PySem PyProof.Rows PySem.Spec PySem.Calls
def XO (e C : Addr) (d : Option Addr) : HO := .ext fun h => ∃ t0, h.get? e = some ⟨.ref C, d, .fields #[.ref t0, .none, .none, .none, .bool false, .none], #[]⟩
def XC (e C : Addr) (d : Option Addr) : HO := .ext fun h => ∃ vs sl, h.get? e = some ⟨.ref C, d, .fields vs, sl⟩ ∧ vs[2]? = some .none
def XD (a : Addr) (fs : List (Str × V)) : HO := .ext fun h => fs.length ≤ 1000 ∧ ∃ mA, h.Ns1 a mA ∧ (∀ f, RelO (fs.lookup f) (mA f)) ∧ PySem.Within mA (fs.map (·.1))
def IsX (H : Hp) (e C : Addr) (d : Option Addr) : Prop := H e = some (XO e C d) ∨ H e = some (XC e C d)
section
variable {P : Program} {w : World} {H : Hp} {h : Heap} {e C a : Addr} {d : Option Addr} {fs : List (Str × V)}
theorem xo_ok {t0 : Addr} (q : h.get? e = some ⟨.ref C, d, .fields #[.ref t0, .none, .none, .none, .bool false, .none], #[]⟩) : ObjOk P w H h e (XO e C d) :=
  ⟨⟨t0, q⟩, ⟨_, q⟩, fun _ _ ⟨t, z⟩ k => ⟨t, k _ z⟩⟩
theorem xc_ok {vs : Array Value} {sl : Array (Option Value)} (q : h.get? e = some ⟨.ref C, d, .fields vs, sl⟩) (c : vs[2]? = some .none) : ObjOk P w H h e (XC e C d) :=
  ⟨⟨vs, sl, q, c⟩, ⟨_, q⟩, fun _ _ ⟨v, s, z, c⟩ k => ⟨v, s, k _ z, c⟩⟩
theorem xd_ok {mA : Str → Option Value} (l : fs.length ≤ 1000) (n : h.Ns1 a mA) (r : ∀ f, RelO (fs.lookup f) (mA f)) (wi : PySem.Within mA (fs.map (·.1))) : ObjOk P w H h a (XD a fs) :=
  ⟨⟨l, mA, n, r, wi⟩, let ⟨o, _, _, q, _⟩ := n; ⟨o, q⟩, fun _ _ ⟨l, m, n, r, z⟩ k => ⟨l, m, n.at k, r, z⟩⟩
theorem xo_get (hok : HOk P w H h) (q : H e = some (XO e C d)) : ∃ t0, h.get? e = some ⟨.ref C, d, .fields #[.ref t0, .none, .none, .none, .bool false, .none], #[]⟩ :=
  (show ObjOk P w H h e (XO e C d) from hok e _ q).1
theorem x_getC (hok : HOk P w H h) (q : IsX H e C d) : ∃ vs sl, h.get? e = some ⟨.ref C, d, .fields vs, sl⟩ ∧ vs[2]? = some .none := by
  rcases q with q | q
  · obtain ⟨t, z⟩ := xo_get hok q; exact ⟨_, _, z, rfl⟩
  · exact (show ObjOk P w H h e (XC e C d) from hok e _ q).1
theorem x_get (hok : HOk P w H h) (q : IsX H e C d) : ∃ vs sl, h.get? e = some ⟨.ref C, d, .fields vs, sl⟩ := let ⟨vs, sl, z, _⟩ := x_getC hok q; ⟨vs, sl, z⟩
theorem xd_get (hok : HOk P w H h) (q : H a = some (XD a fs)) : fs.length ≤ 1000 ∧ ∃ mA, h.Ns1 a mA ∧ (∀ f, RelO (fs.lookup f) (mA f)) ∧ PySem.Within mA (fs.map (·.1)) :=
  (show ObjOk P w H h a (XD a fs) from hok a _ q).1
end
structure ClsX (K : PySem.W.Frag) (C : Addr) : Prop where
  hd : PySem.W.hasDictIn K C = true
  po : PySem.W.excOver K C = true
  sa : PySem.W.findIn K (.ref C) "__setattr__" = some (some (.builtin "object.__setattr__"))
  ga : PySem.W.findIn K (.ref C) "__getattribute__" = some (some (.builtin "BaseException.__getattribute__"))
  gn : PySem.W.findIn K (.ref C) "__getattr__" = some none
section
variable {X : Cx} {pins : List (Addr × Obj)} {σ : St} {H : Hp} {s : Shared} {a C dx : Addr} {d : Option Addr} {fs : List (Str × V)} {f : Str} {v y : V} {u : Value} {A : Around} {E : Value → Shared → Prop}
theorem getX_ok {b : Bool} {Q : Value → Shared → Prop} (I : Inv X pins σ H s) (e : IsX H a C (some dx)) (ed : H dx = some (XD dx fs)) (c : ClsX X.K C) (n : NoAttr X.K C f) (l : fs.lookup f = some v)
    (h : ∀ u s', Inv X pins σ H s' → RelV v u → Q u s') : wpAny (model X.prog X.w) A (getAttr (.ref a) f b) Q E s := by
  obtain ⟨vs, sl, hx⟩ := x_get I.hok e
  obtain ⟨_, mA, hn, r, _⟩ := xd_get I.hok ed
  obtain ⟨u, hu, ru⟩ := RelO.some_of (v := v) (o := mA f) (by rw [← l]; exact r f)
  obtain ⟨od, ho, hl⟩ := lookIn_ns hn
  exact PySem.W.getX I.kIn (ox := ⟨.ref C, some dx, .fields vs, sl⟩) (od := some od) ⟨hx, rfl, rfl, ho⟩ c.ga c.gn c.po (PySem.W.findObj_own c.hd n rfl (by rw [hl, hu])) (handed_of ru) (h u _ (I.tok _) ru)
theorem setX1_ok {Q : Unit → Shared → Prop} (I : Inv X pins σ H s) (e : H a = some (XO a C none)) (c : ClsX X.K C) (n : NoAttr X.K C f) (ry : RelV y u)
    (h : ∀ dx s', H dx = none → dx ≠ a → Inv X pins σ (upd (upd H dx (XD dx [(f, y)])) a (XO a C (some dx))) s' → Q () s') : wpAny (model X.prog X.w) A (setAttr (.ref a) f u) Q E s := by
  obtain ⟨t0, hx⟩ := xo_get I.hok e
  refine PySem.W.setX_new I.kIn hx c.sa c.po n.taker c.hd fun h' h1 h2 h3 => ?_
  have hf := I.hok.fresh (Nat.le_refl s.heap.objs.size)
  have hne : s.heap.objs.size ≠ a := fun z => by rw [z, e] at hf; cases hf
  obtain ⟨od, es, ep, q1, q2, q3⟩ := id h2
  have hfr : od.isFreed = false := (Heap.get?_some_iff.mp q1).2
  have g1 : (s.heap.push od).get? s.heap.objs.size = some od := Heap.get?_push_size s.heap hfr
  have I1 : Inv X pins σ (upd H s.heap.objs.size (XD s.heap.objs.size [(f, y)])) { s with heap := s.heap.push od, toks := s.toks } := by
    refine I.laid (fun b o q => Heap.get?_push_of_some _ q) (Nat.le_refl _) (xd_ok (by simp) (h2.at fun o q => ?_) (fun g => ?_) (fun g hg => ?_))
    · rw [q1] at q; cases q; exact g1
    · show RelO ([(f, y)].lookup g) (if g = f then some u else none)
      by_cases z : g = f
      · have hb : (g == f) = true := beq_iff_eq.mpr z
        simp only [List.lookup, hb, if_pos z]; exact ry
      · have hb : (g == f) = false := beq_eq_false_iff_ne.mpr z
        simp only [List.lookup, hb, if_neg z]; exact True.intro
    · by_cases z : g = f
      · rw [z]; exact .head _
      · exact absurd (if_neg z) hg
  refine h s.heap.objs.size _ hf hne (I1.write (x := a) (e := a) (t' := s.toks + 2) (h' := h') (by rw [upd_ne (Ne.symm hne), e]; exact True.intro) (.inl rfl) (fun b o hb q => ?_) ⟨_, h1⟩ (xo_ok h1))
  by_cases z : b = s.heap.objs.size
  · subst z; rw [g1] at q; cases q; exact q1
  · have hb' : s.heap.get? b = some o := by rw [← q]; exact (Heap.get?_push_ne _ _ _ z).symm
    exact h3 b o hb hb'
theorem setX2_ok {Q : Unit → Shared → Prop} (I : Inv X pins σ H s) (e : IsX H a C (some dx)) (ed : H dx = some (XD dx fs)) (hne : dx ≠ a) (c : ClsX X.K C) (n : NoAttr X.K C f) (hl : fs.length < 1000) (ry : RelV y u)
    (h : ∀ s', Inv X pins σ (upd H dx (XD dx (putF f y fs))) s' → Q () s') : wpAny (model X.prog X.w) A (setAttr (.ref a) f u) Q E s := by
  obtain ⟨vs, sl, hx⟩ := x_get I.hok e
  obtain ⟨_, mA, hn, r, wi⟩ := xd_get I.hok ed
  refine PySem.W.setX_old I.kIn hx hn hne c.sa c.po n.taker c.hd wi (by rw [List.length_map, sizeLine_eq]; omega) fun h' h1 h2 => h _ ?_
  refine I.write (x := dx) (e := dx) (by rw [ed]; exact True.intro) (.inl rfl) h2 (let ⟨o, _, _, q, _⟩ := h1; ⟨o, q⟩) (xd_ok ?_ h1 (fun g => ?_) (fun g hg => ?_))
  · have := length_putF f y fs; omega
  · show RelO ((putF f y fs).lookup g) (if g = f then some u else mA g)
    rw [lookup_putF]
    by_cases q : g = f
    · rw [if_pos q, if_pos q]; exact ry
    · rw [if_neg q, if_neg q]; exact r g
  · by_cases q : g = f
    · rw [q]; exact (keys_putF f y fs).1
    · refine (keys_putF f y fs).2 g (wi g fun z => hg ?_)
      show (if g = f then some u else mA g) = none
      rw [if_neg q]; exact z
end
end L2
namespace PySem.W
open PySem PySem.Spec PySem.Calls PyProof.Rows Builtin Builtin.ObjectAttr Builtin.Getset_descriptor
section
variable {prog : Program} {w : World} {A : Around} {K : Frag} {C x t0 : Addr} {s : Shared} {E : Value → Shared → Prop} {od : Option Addr} {Q : Value → Shared → Prop}
theorem initX {us : List Value} (X : K.In s.heap) (hx : s.heap.get? x = some ⟨.ref C, od, .fields #[.ref t0, .none, .none, .none, .bool false, .none], #[]⟩) (e : excMk K C = true) (hz : us.length ≤ sizeLine)
    (h : ∀ h', h'.get? x = some ⟨.ref C, od, .fields #[.ref s.heap.objs.size, .none, .none, .none, .bool false, .none], #[]⟩ → (∀ b o, b ≠ x → s.heap.get? b = some o → h'.get? b = some o) → Q .none { s with heap := h' }) :
    wpAny (model prog w) A (call (.builtin "ValueError.__init__") (.ref x :: us)) Q E s := by
  obtain ⟨bm, ⟨N, nm, q, bs, hdct, sn, sub, ab, col, dd, k0, k1, k2, k3, k5, hC⟩, T⟩ := excMk_obj X e
  have FB := PySem.F.excBase_ValueError
  obtain ⟨hp, g, d, t, os⟩ := s
  refine wpAny_call (codeAny_call_builtin FB.init.plain FB.initEntry (wpAny_check_init_subT FB T hC hx rfl ?_))
  delta Builtin.«BaseException.__init__»
  dsimp only
  rw [if_neg (by simp)]
  unfold Builtin.BaseException.bexcPut newTuple
  have hx1 := Heap.get?_push_of_some (h := hp) { cls := .type "tuple", data := .seq us.toArray } hx
  refine wpAny_bind (wpAny_newObj_type (wpAny_bind (wpAny_bind (wpAny_field hx1 rfl rfl (wpAny_bind (wpAny_setField hx1 rfl (by show 0 < 6; decide) ?_))))) (by show us.toArray.size ≤ sizeLine; rw [List.size_toArray]; exact hz))
  refine wpAny_letGo (wpAny_pure (h _ ?_ fun b o hb hq => ?_))
  · rw [Heap.get?_update_self _ hx1 rfl]
    rfl
  · exact (Heap.get?_update_ne _ _ _ _ hb).trans (Heap.get?_push_of_some _ hq)
end
end PySem.W
namespace PySem.W
open PySem PySem.Spec PySem.Calls PyProof.Rows Builtin Builtin.ObjectAttr Builtin.Getset_descriptor
section
variable {prog : Program} {w : World} {A : Around} {K : Frag} {C x : Addr} {s : Shared} {E : Value → Shared → Prop} {ox : Obj} {od : Obj}
structure ClsAt (K : Frag) (C : Addr) : Prop where
  hd : hasDictIn K C = true
  po : excOver K C = true
  ga : findIn K (.ref C) "__getattribute__" = some (some (.builtin "BaseException.__getattribute__"))
  gn : findIn K (.ref C) "__getattr__" = some none
  ca : findIn K (.ref C) "__class__" = some (some (.builtin "object.__class__"))
  cn : specialIn K (.builtin "object.__class__") "__get__" = some (some (.builtin "getset_descriptor.__get__"))
  ct : takesIn K (.builtin "object.__class__") = some true
theorem excOver_has {b : String} (hp : excOver K C = true) (hb : veMro.contains (.type b) = true) : mroIn K C (.type b) = some true := by
  obtain ⟨cdt, hcd, hov⟩ := any_some hp
  have nem : cdt.mro.isEmpty = false := by cases q : cdt.mro with | nil => rw [q] at hov; cases hov | cons _ _ => rfl
  unfold mroIn; rw [hcd, Option.bind_some, if_neg (by rw [nem]; decide), has_VE hb hov]
theorem clsX_call {h : Heap} {g : Array GenState} {d : Drawn} {t : Nat} {os : OsState} {tk : Tok} {R : Result → Shared → Prop} (X : K.In h) (I : InstAt h x ox C (some od)) (c : ClsAt K C) (hq : R (.ok (.ret (.ref C))) ⟨h, g, d, t, os⟩) :
    codeAny (model prog w) A (.call (.builtin "BaseException.__getattribute__") ⟨[.ref x, .str "__class__" tk], []⟩) R ⟨h, g, d, t, os⟩ := by
  have hf : findObj K C (some od) "__class__" = some (.bind (.builtin "getset_descriptor.__get__") (.builtin "object.__class__")) := by
    have := findObj_data (K := K) (C := C) (od := od) (name := "__class__") (by obtain ⟨cdt, hcd, _⟩ := any_some c.hd; rw [hcd]; rfl) c.ca c.cn c.ct
    exact this
  have sub : Looks (model prog w) h (isInstance (.ref x) (.type "BaseException")) true := I.type.andThen (looks_mroIn X (excOver_has c.po (by decide +kernel)))
  have l0 := I.type (M := model prog w)
  have l1 := looks_find (M := model prog w) X I hf
  refine codeAny_call_builtin (by decide +kernel) PySem.F.entry_bexc_ga (@check_slot (model prog w) _ _ _ "BaseException.__getattribute__" "BaseException" "__getattribute__" (.ref x) [.str "__class__" tk] [] _ (by decide +kernel) (by decide +kernel) sub (PySem.F.args_bexc_ga (.ref x) (.str "__class__" tk)) ?_)
  refine wpAny_bind (wpAny_pure (wpAny_bind (wpAny_pure (wpAny_bind (l0.at (wpAny_bind (l1.at ?_)))))))
  show wpAny _ _ (holding [Value.builtin "object.__class__"] (call (.builtin "getset_descriptor.__get__") [.builtin "object.__class__", .ref x, .ref C]) >>= ret) _ _ _
  refine wpAny_bind (wpAny_holding (wpAny_call ?_))
  refine class_get (s := ⟨h, g, d, t, os⟩) (ox := ox) (od := some od) X I (excOver_has c.po (by decide +kernel)) ?_
  exact wpAny_pure hq
theorem getX_class {Q : Option Value → Shared → Prop} (X : K.In s.heap) (I : InstAt s.heap x ox C (some od)) (c : ClsAt K C) (h : Q (some (.ref C)) { s with toks := s.toks + 1 }) : wpAny (model prog w) A (getAttr? (.ref x) "__class__") Q E s := by
  obtain ⟨hp', g, d, t, os⟩ := s
  have l0 := I.type (M := model prog w)
  have l1 := looks_findIn (M := model prog w) X c.ga
  have l2 := looks_findIn (M := model prog w) X c.gn
  have f3 : bindSpecial (.builtin "BaseException.__getattribute__") (.ref x) = pure (.builtin "BaseException.__getattribute__", [.ref x]) :=
    (Slot.of (T := "ValueError") (name := "__getattribute__") (owner := "BaseException") (n := "__getattribute__") (by rw [typeLookup_type, builtinLookup_eq_fast]; kernel_rfl) (by decide +kernel) (by decide +kernel) (by decide +kernel)
      (.inl (by decide +kernel)) (by rw [isSubtype_type]; kernel_rfl)).bind (.ref x)
  have hx0 : (false && onTheHeap (Value.builtin "BaseException.__getattribute__")) = false := rfl
  have hx2 : (onTheHeap (Value.ref C) && Value.builtin "BaseException.__getattribute__" == Value.builtin "object.__getattribute__") = false := by
    rw [show (Value.builtin "BaseException.__getattribute__" == Value.builtin "object.__getattribute__") = false by decide +kernel, Bool.and_false]
  unfold getAttr? getAttrBy?
  unfold getAttrBy
  refine wpAny_bind (wpAny_mkText (wpAny_bind (wpAny_attempt (wpAny_holding (wpAny_bind (l0.at (wpAny_bind (l1.at ?_))))))))
  dsimp only at l0 l1 l2 X I h ⊢
  rw [hx2, if_neg Bool.false_ne_true]
  unfold getAttrByItsOwn
  refine wpAny_bind (l2.at ?_)
  repeat (any_goals first | assumption | wp_step)
  refine clsX_call X I c ?_
  show wpAny _ _ (handedOut (Value.ref C)) _ _ _
  rw [handedOut_of rfl]
  exact (wpAny_pure (wpAny_pure h))
theorem kitx_X (c : ClsAt K C) : KitX K (.ref x) (.ref C) (fun h => InstAt h x ox C (some od)) where
  ty := fun _ _ _ I => I.type
  it := fun _ _ X _ => by
    obtain ⟨cdD, hcE, _⟩ := any_some c.hd
    unfold clsIn at hcE
    split at hcE
    · rename_i c' d' cd' sl' hov
      intro A' Q' E' s' k q
      unfold isType loadHead
      exact wpAny_bind (wpAny_loadPart (k _ _ (X _ _ hov)) (wpAny_pure q))
    · cases hcE
  ne := fun h tp dd its n sl X htq => by
    obtain ⟨cdD, hcE, _⟩ := any_some c.hd
    refine Bool.eq_false_iff.mpr fun qq => ?_
    have e : C = tp := Value.ref.inj (beq_iff_eq.mp qq)
    subst e
    unfold clsIn at hcE
    split at hcE
    · rename_i c' d' cd' sl' hov
      have z := (X _ _ hov).symm.trans htq
      cases z
    · cases hcE
  ca := fun X I k => getX_class X I c k
end
end PySem.W
namespace L2
open PySem PyProof.Rows PySem.Spec PySem.Calls
theorem ClsX.at {K : PySem.W.Frag} {C : Addr} (c : ClsX K C) (ca : PySem.W.findIn K (.ref C) "__class__" = some (some (.builtin "object.__class__")))
    (cn : PySem.W.specialIn K (.builtin "object.__class__") "__get__" = some (some (.builtin "getset_descriptor.__get__"))) (ct : PySem.W.takesIn K (.builtin "object.__class__") = some true) : PySem.W.ClsAt K C :=
  ⟨c.hd, c.po, c.ga, c.gn, ca, cn, ct⟩
theorem upd_self {H : Hp} {a : Addr} {o : HO} (e : H a = some o) : upd H a o = H := by
  funext b
  unfold upd
  by_cases q : b = a
  · rw [if_pos q, q, e]
  · rw [if_neg q]
structure MkX (K : PySem.W.Frag) (C f : Addr) : Prop where
  makes : PySem.W.excMk K C = true
  init : PySem.W.findIn K (.ref C) "__init__" = some (some (.ref f))
  fn : PySem.W.isFn K (.ref f) = true
  kp : PySem.W.keepIn K (.ref C) = true
def tMakeX (C : Addr) (sp : Sp) (E : XK) (t : TA) : TE := fun σ H Q => t σ H fun vs H1 => ∀ x, H1 x = none → sp (.ref x :: vs) (upd H1 x (XO x C none)) (fun v H2 => v = .non ∧ Q (.ref x) H2) E
section
variable {X : Cx} {CX : CXT} {k : Nat} {f C : Addr} {fd : FuncData} {ps : List Str} {sp : Sp} {E : XK} {x m : Str} {p pos apos : Pos} {e o : Expr} {es : List Expr} {ta : TE} {t : TA}
theorem Inv.madeX {pins : List (Addr × Obj)} {σ : St} {H : Hp} {s : Shared} {us : List Value} (I : Inv X pins σ H s) :
    Inv X pins σ (upd H (s.heap.objs.size + 1) (XO (s.heap.objs.size + 1) C none)) { s with heap := (s.heap.push (PySem.W.excTup us)).push (PySem.W.excNew C s.heap.objs.size) } := by
  have e2 : ((s.heap.push (PySem.W.excTup us)).push (PySem.W.excNew C s.heap.objs.size)).get? (s.heap.objs.size + 1) = some (PySem.W.excNew C s.heap.objs.size) := by
    have := Heap.get?_push_size (s.heap.push (PySem.W.excTup us)) (o := PySem.W.excNew C s.heap.objs.size) rfl
    rwa [Heap.size_push] at this
  have I1 := I.kept (h' := s.heap.push (PySem.W.excTup us)) (t' := s.toks) (fun b u q => Heap.get?_push_of_some _ q)
  exact I1.laid (a := s.heap.objs.size + 1) (t' := s.toks) (fun b u q => Heap.get?_push_of_some _ q) (Nat.le_of_eq (Heap.size_push _ _)) (xo_ok e2)
theorem run_makeX {pins : List (Addr × Obj)} {σ : St} {H : Hp} {s : Shared} {Q : VK} {us : List Value} {vs : List V} (M : MkX X.K C f) (F : FnOk X.prog X.w X.K X.mg X.base CX k f fd ps sp) (hr : Room (k + 1) X.A) (hb : Binds X.K fd ps [])
    (hx : Passes CX X E) (hz : ps.length ≤ 1000) (I : Inv X pins σ H s) (r : Vals vs us)
    (h : ∀ x, H x = none → sp (.ref x :: vs) (upd H x (XO x C none)) (fun v H2 => v = .non ∧ Q (.ref x) H2) E) :
    wpAny (model X.prog X.w) X.A (call (.ref C) us) (EP X pins σ Q) X.xe s := by
  have hq := h (s.heap.objs.size + 1) (I.hok.fresh (Nat.le_succ _))
  have I2 := Inv.madeX (C := C) (us := us) I
  have r2 : Vals (V.ref (s.heap.objs.size + 1) :: vs) (Value.ref (s.heap.objs.size + 1) :: us) := .cons rfl r
  have hl : (Value.ref (s.heap.objs.size + 1) :: us).length = ps.length := by
    have e := r2.length
    rw [F.len _ _ _ _ hq] at e
    exact e.symm
  have hb2 := hb { s with heap := (s.heap.push (PySem.W.excTup us)).push (PySem.W.excNew C s.heap.objs.size) } (Value.ref (s.heap.objs.size + 1) :: us) I2.kIn (by rw [List.append_nil]; exact hl)
  rw [List.append_nil] at hb2
  refine wpAny_call (PySem.W.make_X (f := f) I.kIn M.makes M.init (beq_iff_eq.mp M.fn) (by rw [List.length_cons] at hl; rw [sizeLine_eq]; omega) (codeAny_mono (F.run _ X.stack _ _ ⟨Value.ref (s.heap.objs.size + 1) :: us, []⟩ (Value.ref (s.heap.objs.size + 1) :: us) _ _ E (hr.make C us [])
    (I2.env0.make C us []) hb2 r2 hq) fun r s' hq' => ?_))
  cases r with
  | error e => exact hx pins σ _ _ e s' I2 hq'
  | ok fl =>
    cases fl with
    | ret u =>
      obtain ⟨v, H', I3, rv, ev, q3⟩ := I2.after hq'
      subst ev
      exact ⟨rv, ⟨V.ref (s.heap.objs.size + 1), H', I3, rfl, q3⟩⟩
    | next => exact False.elim hq'
    | brk => exact False.elim hq'
    | cont => exact False.elim hq'
theorem pe_makeX (M : MkX X.K C f) (F : FnOk X.prog X.w X.K X.mg X.base CX k f fd ps sp) (hr : Room (k + 1) X.A) (hg : Gl X x) (hm : X.mg x = some (.ref C)) (hb : Binds X.K fd ps []) (hx : Passes CX X E) (hz : ps.length ≤ 1000)
    (ha : PA X (e :: es) t) (hdb : (x == ("__debug__" : Str)) = false := by decide) (he : starEach (e :: es) X.env = (false, eval e X.env) :: starEach es X.env := by rfl) (hpl : (backTo pos (starEach es X.env)).any (·.1) = false := by rfl) :
    PE X (.Call (.Name x p) (e :: es) [] pos) (tMakeX C sp E t) := by
  intro pins s σ H Q I h
  refine wpAny_Call_Name_kw (ld_glob I hg hm ?_ hdb)
  refine PySem.W.callWith_K (h₀ := X.base) I.ok.mod.kin M.kp (thn (ha pos pins s σ H _ I h) fun us s1 ⟨vs, H1, I1, r, q⟩ => ⟨I1.kIn, ?_⟩) he hpl
  exact run_makeX M F hr hb hx hz I1 r q
structure InX (K : PySem.W.Frag) (B : Addr) : Prop where
  sp : PySem.W.specialIn K (.ref B) "__getattribute__" = some (some (.builtin "type.__getattribute__"))
  rd : PySem.W.readsIn K B (.type "type") = true
  fc : PySem.W.findCls K (.ref B) (.type "type") "__init__" = some (.val (.builtin "ValueError.__init__"))
def tInX (K : PySem.W.Frag) (t : TA) : TE := fun σ H Q => t σ H fun vs H1 => ∃ a C d xs, vs = .ref a :: xs ∧ xs.length ≤ 1000 ∧ H1 a = some (XO a C d) ∧ PySem.W.excMk K C = true ∧ Q .non H1
theorem pe_initX {B : Addr} {pl : Sem Bool} (J : InX X.K B) (hg : Gl X x) (hm : X.mg x = some (.ref B)) (ha : PA X (e :: es) t) (hdb : (x == ("__debug__" : Str)) = false := by decide)
    (hst : starEach (e :: es) X.env = (false, eval e X.env) :: starEach es X.env := by rfl) (hpl : (backTo pos (starEach es X.env)).any (·.1) = false := by rfl)
    (ht : eval (.Call (.Attribute (.Name x p) "__init__" apos) (e :: es) [] pos) X.env = (do
      let ov ← eval (.Name x p) X.env
      standAt apos.atName
      let (f, first) ← holding [ov] (getMethod ov "__init__" pl)
      callWith pos f first (backTo pos (starEach (e :: es) X.env)) (backToKw pos (keywordEach [] X.env))) := by rfl) :
    PE X (.Call (.Attribute (.Name x p) "__init__" apos) (e :: es) [] pos) (tInX X.K t) := by
  intro pins s σ H Q I h
  refine PySem.W.methodCall_KW (pl := pl) (ld_glob I hg hm ?_ hdb) ht
  refine PySem.W.method_cls I.kIn J.sp (PySem.W.cls_value I.kIn J.rd J.fc rfl ?_)
  have hA := ha pos pins _ σ H _ (I.tok (s.toks + 1)) h
  show wpAny _ _ (callWith pos (.builtin "ValueError.__init__") [] (backTo pos (starEach (e :: es) X.env)) []) _ _ _
  rw [hst] at hA ⊢
  refine Calls.callWith_builtin (by show (false || (backTo pos (starEach es X.env)).any (·.1)) = false; rw [hpl] <;> rfl) (Calls.evalArgs_plain ?_)
  refine thn hA fun us s2 ⟨vs, H2, I2, r2, a, C, d, xs, ev, hl, ea, mk, q⟩ => ?_
  subst ev
  cases r2 with
  | cons ru rr =>
    cases ru
    obtain ⟨t0, hx⟩ := xo_get I2.hok ea
    refine PySem.W.initX I2.kIn hx mk (by rw [← rr.length, sizeLine_eq]; omega) fun h' h1 h2 => ⟨.non, H2, ?_, rfl, q⟩
    have := I2.write (x := a) (e := a) (o := XO a C d) (t' := s2.toks) (h' := h') (by rw [ea]; exact True.intro) (.inl rfl) h2 ⟨_, h1⟩ (xo_ok h1)
    rwa [upd_self ea] at this
end
end L2
namespace L2
open PySem PyProof.Rows PySem.Spec PySem.Calls
def XF (H : Hp) (e C : Addr) (fs : List (Str × V)) : Prop := ∃ dx, H e = some (XO e C (some dx)) ∧ H dx = some (XD dx fs) ∧ dx ≠ e
theorem XF.keep {H H' : Hp} {e C : Addr} {fs : List (Str × V)} (x : XF H e C fs) (k : Same H H') : XF H' e C fs := let ⟨d, a, b, c⟩ := x; ⟨d, k _ _ a, k _ _ b, c⟩
theorem XF.upd {H : Hp} {e C p : Addr} {fs : List (Str × V)} {o : HO} (x : XF H e C fs) (k : ∀ φ, H p ≠ some (.ext φ)) : XF (L2.upd H p o) e C fs := by
  obtain ⟨d, a, b, c⟩ := x
  have h1 : e ≠ p := fun z => k _ (by rw [← z]; exact a)
  have h2 : d ≠ p := fun z => k _ (by rw [← z]; exact b)
  exact ⟨d, by rw [upd_ne h1]; exact a, by rw [upd_ne h2]; exact b, c⟩
def sFldX (K : PySem.W.Frag) (ta tv : TE) (f : Str) : TS := fun D σ H => tv σ H fun y H1 => ta σ H1 fun x H2 =>
  (∃ a C, x = .ref a ∧ H2 a = some (XO a C none) ∧ ClsX K C ∧ NoAttr K C f ∧ ∀ dx, H2 dx = none → dx ≠ a → D.nx σ (upd (upd H2 dx (XD dx [(f, y)])) a (XO a C (some dx)))) ∨
  (∃ a C dx fs, x = .ref a ∧ IsX H2 a C (some dx) ∧ H2 dx = some (XD dx fs) ∧ dx ≠ a ∧ ClsX K C ∧ NoAttr K C f ∧ fs.length < 1000 ∧ D.nx σ (upd H2 dx (XD dx (putF f y fs))))
def tFldX (K : PySem.W.Frag) (ta : TE) (f : Str) : TE := fun σ H Q => ta σ H fun x H1 => ∃ a C fs v, x = .ref a ∧ XF H1 a C fs ∧ ClsX K C ∧ NoAttr K C f ∧ fs.lookup f = some v ∧ Q v H1
structure ClsI (K : PySem.W.Frag) (C : Addr) : Prop where
  c : ClsX K C
  ca : PySem.W.findIn K (.ref C) "__class__" = some (some (.builtin "object.__class__"))
  cn : PySem.W.specialIn K (.builtin "object.__class__") "__get__" = some (some (.builtin "getset_descriptor.__get__"))
  ct : PySem.W.takesIn K (.builtin "object.__class__") = some true
def clV : V → Value
  | .ref a => .ref a
  | .ty n => .type n
  | _ => .none
def rIsX (K : PySem.W.Frag) : List V → Hp → VK → Prop := fun xs H Q => ∃ a C fs c b, xs = [.ref a, c] ∧ XF H a C fs ∧ ClsI K C ∧ (∀ u, RelV c u → u = clV c) ∧ PySem.W.kitOne K (.ref C) (clV c) = some b ∧ Q (.bl b) H
def rUpd : V → List V → Hp → VK → Prop := fun x vs H Q => ∃ d e kvs more, x = .ref d ∧ vs = [.ref e] ∧ H d = some (.dK kvs) ∧ H e = some (.dK more) ∧ d ≠ e ∧ kvs.length + more.length ≤ 1000 ∧ Q .non (upd H d (.dK (mergeK kvs more)))
section
variable {X : Cx} {o e value : Expr} {f : Str} {pos pos' tpos : Pos} {ta tv : TE}
theorem ps_fldX (ha : PE X o ta) (hv : PE X value tv) (hs : swapsWith value (some (.Attribute o f pos')) pos.line X.env = pure false) : PS X (.Assign [.Attribute o f pos'] value pos) (sFldX X.K ta tv f) := by
  intro pins s σ H D I h
  refine plainObj_wpAny_Assign_Attribute (thn (hv pins s σ H _ I h) fun u s1 ⟨y, H1, I1, ry, q⟩ => thn (ha pins s1 σ H1 _ I1 q) fun ov s2 ⟨x, H2, I2, rx, q2⟩ => ?_) hs
  rcases q2 with ⟨a, C, ex, ea, c, n, q3⟩ | ⟨a, C, dx, fs, ex, ea, ed, ne, c, n, l, q3⟩
  · subst ex
    obtain rfl : ov = Value.ref a := rx
    exact setX1_ok I2 ea c n ry fun dx s3 h1 h2 I3 => ⟨σ, _, I3, q3 dx h1 h2⟩
  · subst ex
    obtain rfl : ov = Value.ref a := rx
    exact setX2_ok I2 ea ed ne c n l ry fun s3 I3 => ⟨σ, _, I3, q3⟩
end
end L2
namespace L2
open PySem PyProof.Rows PySem.Spec PySem.Calls
def Deq (K : PySem.W.Frag) (H : Hp) : Nat → V → V → Prop
  | 0, x, y => x = y ∧ flatV x = true
  | n + 1, x, y => (x = y ∧ flatV x = true) ∨ ∃ a b xs ys, x = .ref a ∧ y = .ref b ∧ ((SqL K H a xs ∧ SqL K H b ys) ∨ (SqT K H a xs ∧ SqT K H b ys)) ∧ xs.length = ys.length ∧ ∀ j, j < xs.length → Deq K H n (xs.getD j .non) (ys.getD j .non)
theorem deq_eqAt {X : Cx} {pins : List (Addr × Obj)} {σ : St} {H : Hp} {s : Shared} (I : Inv X pins σ H s) : ∀ (n : Nat) (A : Around) (x y : V) (u v : Value), A.units + n < cLine → Deq X.K H n x y → RelV x u → RelV y v → SeqAt.EqAt A s u v true
  | 0, A, x, y, u, v, _, ⟨e, f⟩, rx, ry => by
    subst e
    have := eqAt_V (A := A) (s := s) rx ry f f
    rwa [eqV_refl f] at this
  | n + 1, A, x, y, u, v, hu, h, rx, ry => by
    rcases h with ⟨e, f⟩ | ⟨a, b, xs, ys, rfl, rfl, hs, hl, he⟩
    · subst e
      have := eqAt_V (A := A) (s := s) rx ry f f
      rwa [eqV_refl f] at this
    · cases rx
      cases ry
      by_cases hab : a = b
      · subst hab; exact SeqAt.EqAt.same _
      have hu1 : A.in1.units + n < cLine := by
        have : A.in1.units = A.units + 1 := by first | rfl | exact Around.units_in1 A
        omega
      refine SeqAt.EqAt.of_refs hab ?_
      rcases hs with ⟨h1, h2⟩ | ⟨h1, h2⟩
      · obtain ⟨its, r1, l1, _⟩ := I.list h1
        obtain ⟨jts, r2, l2, _⟩ := I.list h2
        have e1 := r1.length
        have e2 := r2.length
        have := SeqAt.RcAt.lists (A := A) (e := fun _ => true) l1.isList l2.isList (by simp; omega) (by omega) (fun j q1 q2 => deq_eqAt I n A.in1 _ _ _ _ hu1 (he j (by simp at q1; omega)) (vals_at r1 j q1) (vals_at r2 j q2))
        rwa [show (List.range its.toArray.size).all (fun _ => true) = true from List.all_eq_true.mpr fun _ _ => rfl] at this
      · obtain ⟨its, r1, l1, _⟩ := I.tuple h1
        obtain ⟨jts, r2, l2, _⟩ := I.tuple h2
        have e1 := r1.length
        have e2 := r2.length
        have := SeqAt.RcAt.tuples (A := A) (e := fun _ => true) l1 l2 (by omega) (fun j q1 q2 => deq_eqAt I n A.in1 _ _ _ _ hu1 (he j (by simp at q1; omega)) (vals_at r1 j q1) (vals_at r2 j q2))
        rw [show (List.range (min its.toArray.size jts.toArray.size)).all (fun _ => true) = true from List.all_eq_true.mpr fun _ _ => rfl, Bool.true_and, beq_iff_eq.mpr (by simp; omega)] at this
        exact this
def rEqD (K : PySem.W.Frag) (n : Nat) : R2 := fun x y H Q => ∃ a b xs ys, x = .ref a ∧ y = .ref b ∧ SqL K H a xs ∧ SqL K H b ys ∧ xs.length = ys.length ∧ (∀ j, j < xs.length → Deq K H n (xs.getD j .non) (ys.getD j .non)) ∧ Q (.bl true) H
structure MkXD (P : Program) (w : World) (K : PySem.W.Frag) (mg : Str → Option Value) (base : Heap) (k : Nat) (x : Str) (C : Addr) (ps : List Str) (sp : Sp) : Prop where
  ex : ∃ f fd, MkX K C f ∧ FnOk P w K mg base CX0 k f fd ps sp ∧ Binds K fd ps [] ∧ mg x = some (.ref C)
  few : ps.length ≤ 1000
theorem pe_makeXD {X : Cx} {k : Nat} {x : Str} {C : Addr} {ps : List Str} {sp : Sp} {e : Expr} {es : List Expr} {t : TA} {p pos : Pos} (D : MkXD X.prog X.w X.K X.mg X.base k x C ps sp) (hr : Room (k + 1) X.A) (hg : Gl X x) (ha : PA X (e :: es) t) (hdb : (x == ("__debug__" : Str)) = false := by decide)
    (he : starEach (e :: es) X.env = (false, eval e X.env) :: starEach es X.env := by rfl) (hpl : (backTo pos (starEach es X.env)).any (·.1) = false := by rfl) : PE X (.Call (.Name x p) (e :: es) [] pos) (tMakeX C sp E0 t) := by
  obtain ⟨f, fd, M, F, b, m⟩ := D.ex
  exact pe_makeX M F hr hg m b pass0 D.few ha hdb he hpl
def xcls (K : PySem.W.Frag) (C : Addr) (fs : List Str) : Bool :=
  PySem.W.hasDictIn K C && PySem.W.excOver K C && PySem.W.findIn K (.ref C) "__setattr__" == some (some (.builtin "object.__setattr__")) && PySem.W.findIn K (.ref C) "__getattribute__" == some (some (.builtin "BaseException.__getattribute__")) &&
  PySem.W.findIn K (.ref C) "__getattr__" == some none && PySem.W.findIn K (.ref C) "__class__" == some (some (.builtin "object.__class__")) && fs.all fun f => PySem.W.findIn K (.ref C) f == some none
structure XCl (K : PySem.W.Frag) (C : Addr) (fs : List Str) : Prop where
  i : ClsI K C
  n : ∀ f ∈ fs, NoAttr K C f
  m : PySem.W.excMk K C = true
theorem XCl.of {K : PySem.W.Frag} {C : Addr} {fs : List Str} (h : xcls K C fs = true) (m : PySem.W.excMk K C = true) (cn : PySem.W.specialIn K (.builtin "object.__class__") "__get__" = some (some (.builtin "getset_descriptor.__get__"))) (ct : PySem.W.takesIn K (.builtin "object.__class__") = some true) : XCl K C fs := by
  unfold xcls at h
  simp only [Bool.and_eq_true, beq_iff_eq, List.all_eq_true] at h
  obtain ⟨⟨⟨⟨⟨⟨h1, h2⟩, h3⟩, h4⟩, h5⟩, h6⟩, h7⟩ := h
  exact ⟨⟨⟨h1, h2, h3, h4, h5⟩, h6, cn, ct⟩, fun f hf => h7 f hf, m⟩
end L2
namespace L2
open PySem PyProof.Rows PySem.Spec PySem.Calls
theorem bt_ValueError : bootBuiltins "ValueError" = some (.type "ValueError") := by decide +kernel
def kitTab (K : PySem.W.Frag) (cs : List Addr) (b : Addr) : Bool :=
  (List.range cs.length).all fun i => PySem.W.kitOne K (.ref (cs.getD i 0)) (.ref b) == some true && PySem.W.kitOne K (.ref (cs.getD i 0)) (.type "ValueError") == some true && (List.range cs.length).all fun j => PySem.W.kitOne K (.ref (cs.getD i 0)) (.ref (cs.getD j 0)) == some (i == j)
theorem kitTab_base {K : PySem.W.Frag} {cs : List Addr} {b : Addr} {i : Nat} (h : kitTab K cs b = true) (hi : i < cs.length) : PySem.W.kitOne K (.ref (cs.getD i 0)) (.ref b) = some true := by
  have q := List.all_eq_true.mp h i (List.mem_range.mpr hi)
  simp only [beq_iff_eq, Bool.and_eq_true] at q
  exact q.1.1
theorem kitTab_val {K : PySem.W.Frag} {cs : List Addr} {b : Addr} {i : Nat} (h : kitTab K cs b = true) (hi : i < cs.length) : PySem.W.kitOne K (.ref (cs.getD i 0)) (.type "ValueError") = some true := by
  have q := List.all_eq_true.mp h i (List.mem_range.mpr hi)
  simp only [beq_iff_eq, Bool.and_eq_true] at q
  exact q.1.2
theorem kitTab_two {K : PySem.W.Frag} {cs : List Addr} {b : Addr} {i j : Nat} (h : kitTab K cs b = true) (hi : i < cs.length) (hj : j < cs.length) : PySem.W.kitOne K (.ref (cs.getD i 0)) (.ref (cs.getD j 0)) = some (i == j) := by
  have q := List.all_eq_true.mp h i (List.mem_range.mpr hi)
  simp only [beq_iff_eq, Bool.and_eq_true] at q
  exact beq_iff_eq.mp (List.all_eq_true.mp q.2 j (List.mem_range.mpr hj))
theorem valV_at {kvs : List (Key × V)} {ks : List Key} {j : Nat} {k : Key} {v : V} (e : kvs.map (·.1) = ks) (n : ks.Nodup) (h : kvs[j]? = some (k, v)) : valV kvs k = some v := by
  subst e
  unfold valV
  induction kvs generalizing j with
  | nil => cases h
  | cons p r ih =>
    rw [List.map_cons, List.nodup_cons] at n
    cases j with
    | zero =>
      cases Option.some.inj h
      rw [List.find?_cons_of_pos (by simp)]
      rfl
    | succ j =>
      have h' : r[j]? = some (k, v) := h
      have ne : p.1 ≠ k := fun z => n.1 (List.mem_map.mpr ⟨(k, v), List.mem_of_getElem? h', z.symm⟩)
      rw [List.find?_cons_of_neg (by simpa using ne)]
      exact ih h' n.2
theorem DGet.look {H : Hp} {a : Addr} {kvs : List (Key × V)} {ks : List Key} {j : Nat} {k : Key} {v : V} (eH : H a = some (.dK kvs)) (e : kvs.map (·.1) = ks) (n : ks.Nodup) (h : kvs[j]? = some (k, v)) : DGet H a (kV k) (some v) := by
  rw [← valV_at e n h]
  exact DGet.k eH
def spC (m : Nat) : Sp := fun vs H Q _ =>
  (1 ≤ m ∧ ∃ z : Str, vs = [.str z] ∧ Q (.str z) H) ∨
  (2 ≤ m ∧ ∃ (a : Addr) (zs : List Str), vs = [.ref a] ∧ H a = some (.lst (zs.map V.str)) ∧ zs.length ≤ 100 ∧ ∀ p H', Same H H' → H p = none → H' p = some (.lst (zs.map V.str)) → Q (.ref p) H') ∨
  (3 ≤ m ∧ ∃ (a l : Addr) (z : Str) (zs : List Str), vs = [.ref a] ∧ H a = some (.tup [.str z, .ref l]) ∧ H l = some (.lst (zs.map V.str)) ∧ zs.length ≤ 100 ∧
    ∀ p q H', Same H H' → H p = none → H q = none → H' p = some (.tup [.str z, .ref q]) → H' q = some (.lst (zs.map V.str)) → Q (.ref p) H') ∨
  (4 ≤ m ∧ ∃ (a b l : Addr) (z : Str) (zs : List Str), vs = [.ref a] ∧ H a = some (.lst [.ref b]) ∧ H b = some (.tup [.str z, .ref l]) ∧ H l = some (.lst (zs.map V.str)) ∧ zs.length ≤ 100 ∧
    ∀ r p q H', Same H H' → H r = none → H' r = some (.lst [.ref p]) → H' p = some (.tup [.str z, .ref q]) → H' q = some (.lst (zs.map V.str)) → Q (.ref r) H')
theorem Fun.never {P : Program} {w : World} {K : PySem.W.Frag} {mg : Str → Option Value} {base : Heap} {x qual : Str} {st : Stmt} {f : Addr} {fd : FuncData} (_F : Fun K x qual st f fd) : FnOk P w K mg base CX0 0 f fd ["value"] (spC 0) := by
  have no : ∀ vs H Q E, spC 0 vs H Q E → False := fun vs H Q E h => by
    rcases h with h | h | h | h <;> exact absurd h.1 (by decide)
  exact ⟨fun vs H Q E q => (no _ _ _ _ q).elim, fun A outer s H args us vs Q E _ _ _ _ hs => (no _ _ _ _ hs).elim⟩
end L2
namespace PySem.W
open PySem
structure Noted (e : Addr) (cl : Value) (d : Option Addr) (fr : List Addr) (off : Addr → Prop) (h h' : Heap) : Prop where
  exc : ∃ vs sl T oT ts, h'.get? e = some ⟨cl, d, .fields vs, sl⟩ ∧ vs[1]? = some (.ref T) ∧ T ≠ e ∧ h.objs.size ≤ T ∧ h'.get? T = some oT ∧ oT.data = .fields ts ∧ ts[3]? = some .none
  keep : ∀ b o, b ≠ e → ¬ off b → b ∉ fr → h.get? b = some o → h'.get? b = some o
  slot : ∀ b o, b ≠ e → ¬ off b → h.get? b = some o → ∃ sl, h'.get? b = some { o with slots := sl }
  ctx : ∀ o o' vs vs', h.get? e = some o → h'.get? e = some o' → o.data = .fields vs → o'.data = .fields vs' → vs'[2]? = vs[2]?
abbrev tbObj (ws : Array Value) : Obj := { cls := .type "traceback", dict := none, data := .fields ws }
section
variable {M : Model} {E : Value → Shared → Prop} {A : Around} {s : Shared}
theorem note_core {bh : Heap} {env : Env} {outer : List Env} {L e : Addr} {cl head : Value} {d : Option Addr} {vs : Array Value} {sl : Array (Option Value)} {hadNext : Bool} {Q : Unit → Shared → Prop}
    (hA : A.frames = some (env :: outer)) (hl : s.heap.FunFrames bh (env :: outer)) (hf : env.frame = some L) (he : s.heap.get? e = some ⟨cl, d, .fields vs, sl⟩) (hz : 1 < vs.size)
    (k : ∀ h', Noted e cl d ((env :: outer).filterMap (·.frame)) (fun _ => False) s.heap h' → Q () { s with heap := h' }) :
    wpAny M A (do let fo ← frameOf env; let pl ← entryPlaceOf L hadNext; let tb ← EntryCells.newEntry head fo .none (rawInt L) .none pl; setField (.ref e) 1 tb) (fun _ s1 => wpAny M A (setFlight (.ref e) none) Q E s1) E s := by
  have eno : e ∉ (env :: outer).filterMap (·.frame) := fun z => by
    obtain ⟨_, ob, q1, q2⟩ := hl.mem z
    rw [he] at q1
    cases q1
    exact q2 vs rfl
  refine wpAny_bind (wpAny_frameOf_fun hA hl hf fun g so => ?_)
  refine wpAny_bind (wpAny_entryPlaceOf fun pla hpl => ?_)
  unfold EntryCells.newEntry; unfold newFields
  refine (wpAny_bind (wpAny_newObj_type ?_ (hpl.sizeOk5 _ _ _ _ _)))
  generalize hws : ([head, .ref L, .none, rawInt L, .none] ++ (if pla.isEmpty then List.replicate 6 Value.none else pla)).toArray = ws
  have wz : 3 < ws.size := by
    rw [← hws]
    simp only [List.size_toArray, List.length_append, List.length_cons, List.length_nil]
    omega
  have e1 : g.get? e = some ⟨cl, d, .fields vs, sl⟩ := (so.2.1 e eno).trans he
  have nT : g.objs.size ≠ e := Nat.ne_of_gt (Heap.lt_size e1)
  have e2 : (g.push (tbObj ws)).get? e = _ := Heap.get?_push_of_some (h := g) (tbObj ws) e1
  refine wpAny_setField e2 rfl hz ?_
  generalize hu : (g.push (tbObj ws)).update e (Obj.mapFields (·.setIfInBounds 1 (Value.ref g.objs.size))) = g2
  have e3 : g2.get? e = some ⟨cl, d, .fields (vs.setIfInBounds 1 (.ref g.objs.size)), sl⟩ := by
    rw [← hu]
    exact Heap.get?_update_self _ e2 rfl
  have t3 : g2.get? g.objs.size = some (tbObj ws) := by
    rw [← hu, Heap.get?_update_other _ _ (Ne.symm nT)]
    exact Heap.get?_push_size g rfl
  have o3 : ∀ b ob, b ≠ e → g.get? b = some ob → g2.get? b = some ob := fun b ob hb q => by
    rw [← hu, Heap.get?_update_other _ _ (Ne.symm hb)]
    exact Heap.get?_push_of_some _ q
  unfold setFlight
  refine wpAny_bind (wpAny_field e3 rfl (x := .ref g.objs.size) (by simp [hz]) ?_)
  rw [if_pos (by simp)]
  refine wpAny_setField t3 rfl wz (k _ ⟨?_, fun b ob hb _ hx q => ?_, fun b ob hb _ q => ?_, fun o o' ws' vs' q1 q2 q3 q4 => ?_⟩)
  · refine ⟨vs.setIfInBounds 1 (.ref g.objs.size), sl, g.objs.size, _, _, ?_, by simp [hz], nT, ?_, Heap.get?_update_self _ t3 rfl, rfl, by simp [wz]⟩
    · rw [Heap.get?_update_other _ _ nT]
      exact e3
    · exact Nat.le_of_eq so.1.symm
  · have q1 : g.get? b = some ob := (so.2.1 b hx).trans q
    rw [Heap.get?_update_other _ _ (Nat.ne_of_gt (Heap.lt_size q1))]
    exact o3 b ob hb q1
  · obtain ⟨s1, q1⟩ := so.2.2 b ob q
    refine ⟨s1, ?_⟩
    rw [Heap.get?_update_other _ _ (Nat.ne_of_gt (Heap.lt_size q1))]
    exact o3 b _ hb q1
  · rw [Heap.get?_update_other _ _ nT, e3] at q2
    rw [he] at q1
    cases q1
    cases q2
    cases q3
    cases q4
    simp
def HeadAt (h : Heap) (e T : Addr) : Prop := T ≠ e ∧ ∃ oT ts, h.get? T = some oT ∧ oT.data = .fields ts ∧ ts[3]? = some .none
theorem note_fly {bh : Heap} {env : Env} {outer : List Env} {L e : Addr} {cl : Value} {d : Option Addr} {vs : Array Value} {sl : Array (Option Value)} {off : Addr → Prop} {Q : Unit → Shared → Prop}
    (hA : A.frames = some (env :: outer)) (hl : s.heap.FunFrames bh (env :: outer)) (hf : env.frame = some L) (he : s.heap.get? e = some ⟨cl, d, .fields vs, sl⟩)
    (hv : vs[1]? = some .none ∨ ∃ T, vs[1]? = some (.ref T) ∧ HeadAt s.heap e T ∧ off T)
    (k : ∀ h', Noted e cl d ((env :: outer).filterMap (·.frame)) off s.heap h' → Q () { s with heap := h' }) :
    wpAny M A (noteFrame (.ref e) env) (fun _ s1 => wpAny M A (setFlight (.ref e) none) Q E s1) E s := by
  unfold noteFrame
  simp only [hf]
  rcases hv with hv | ⟨T, hv, ⟨nT, oT, ts, hT, dT, h3⟩, ho⟩
  · refine wpAny_bind (wpAny_field he rfl hv ?_)
    rw [if_neg (by decide)]
    exact note_core hA hl hf he (Array.getElem?_eq_some_iff.mp hv).1 fun h' n => k h' ⟨n.exc, fun b o h1 _ => n.keep b o h1 (fun z => z), fun b o h1 _ => n.slot b o h1 (fun z => z), n.ctx⟩
  · refine wpAny_bind (wpAny_field he rfl hv ?_)
    rw [if_pos (by simp)]
    refine wpAny_bind (wpAny_field hT dT h3 ?_)
    rw [if_neg (by simp [rawInt])]
    refine wpAny_bind (wpAny_setField hT dT (Array.getElem?_eq_some_iff.mp h3).1 ?_)
    generalize hu : s.heap.update T (Obj.mapFields (·.setIfInBounds 3 Value.none)) = g
    have oth : ∀ b, b ≠ T → g.get? b = s.heap.get? b := fun b hb => by rw [← hu]; exact Heap.get?_update_other _ _ (Ne.symm hb)
    have hz : g.objs.size = s.heap.objs.size := by rw [← hu]; exact Heap.size_after_update ..
    refine note_core (s := { s with heap := g }) hA (hl.of_keeps fun b o q nf => ⟨o, (oth b fun z => ?_).trans q, rfl⟩) hf ((oth e (Ne.symm nT)).trans he) (Array.getElem?_eq_some_iff.mp hv).1 fun h' n => k h' ⟨?_, fun b o h1 h2 h3 q => ?_, fun b o h1 h2 q => ?_, fun o o' ws vs' q1 => n.ctx o o' ws vs' ((oth e (Ne.symm nT)).trans q1)⟩
    · rw [z, hT] at q
      cases q
      exact nf ts dT
    · obtain ⟨vs', sl', T', o', ts', x1, x2, x3, x4, x5⟩ := n.exc
      exact ⟨vs', sl', T', o', ts', x1, x2, x3, by rw [← hz]; exact x4, x5⟩
    · exact n.keep b o h1 (fun z => z) h3 ((oth b fun z => h2 (z ▸ ho)).trans q)
    · exact n.slot b o h1 (fun z => z) ((oth b fun z => h2 (z ▸ ho)).trans q)
end
end PySem.W
namespace L2
open PySem PyProof.Rows PySem.Spec PySem.Calls
def TrX (n : Nat) (H : Hp) (ea : Addr) (h : Heap) : Prop := ∃ cl d vs sl T, h.get? ea = some ⟨cl, d, .fields vs, sl⟩ ∧ vs[1]? = some (.ref T) ∧ PySem.W.HeadAt h ea T ∧ n ≤ T ∧ H T = none
def CXe (P : Program) (w : World) : CXT := fun outer H s E e s' => ∃ ea C d H', e = .ref ea ∧ s'.os = s.os ∧ AllBare s'.gens ∧ Un (frs outer) [] H H' s.heap s'.heap ∧ HOk P w H' s'.heap ∧ H' ea = some (XC ea C d) ∧
  TrX s.heap.objs.size H' ea s'.heap ∧ E (.ref C) (some ea) H'
def TrI (X : Cx) (pins : List (Addr × Obj)) (H : Hp) (ea : Addr) (h : Heap) : Prop := ∃ cl d vs sl T, h.get? ea = some ⟨cl, d, .fields vs, sl⟩ ∧ vs[1]? = some (.ref T) ∧ PySem.W.HeadAt h ea T ∧ X.s₀.heap.objs.size ≤ T ∧ H T = none ∧
  T ≠ X.env.locals ∧ (∀ x c, X.env.cells.lookup x = some c → c ≠ T) ∧ ∀ p ∈ X.pn ++ pins, p.1 ≠ T
structure Top (X : Cx) : Prop where
  ex : X.ex = []
  stk : X.stack = X.env :: X.outer
  fr : X.env.frame = some X.env.locals
def PassesS (X : Cx) (G : St → XK) : Prop := ∀ (pins : List (Addr × Obj)) (σ : St) (H : Hp) (s : Shared) (e : Value) (s' : Shared), Inv X pins σ H s → CXe X.prog X.w X.stack H s (G σ) e s' → X.xe e s'
def RaisesS (X : Cx) (G : St → XK) : Prop := ∀ (pins : List (Addr × Obj)) (σ : St) (H : Hp) (s : Shared) (ea C : Addr) (d : Option Addr), Inv X pins σ H s → H ea = some (XO ea C d) → G σ (.ref C) (some ea) (upd H ea (XC ea C d)) → X.xe (.ref ea) s
abbrev G0 : St → XK := fun _ _ _ _ => False
theorem passE0 {X : Cx} : PassesS X G0 := fun _ _ _ _ _ _ _ ⟨_, _, _, _, _, _, _, _, _, _, _, z⟩ => z.elim
section
variable {X : Cx} {pins : List (Addr × Obj)} {σ : St} {H H' : Hp} {s s' : Shared} {ea C : Addr} {d : Option Addr} {h' : Heap}
theorem Inv.flew {E : XK} {e : Value} (I : Inv X pins σ H s) (c : CXe X.prog X.w X.stack H s E e s') : ∃ ea C d H', e = .ref ea ∧ Inv X pins σ H' s' ∧ H' ea = some (XC ea C d) ∧ TrI X pins H' ea s'.heap ∧ E (.ref C) (some ea) H' := by
  obtain ⟨ea, C, d, H', rfl, ho, hb, un, ok, hx, ⟨cl, d', vs, sl, T, g1, g2, g3, g4, g5⟩, q⟩ := c
  refine ⟨ea, C, d, H', rfl, I.call' ho un ok hb (fun b z => absurd z (by simp)), hx, ⟨cl, d', vs, sl, T, g1, g2, g3, Nat.le_trans I.sz g4, g5, fun z => ?_, fun x c hc z => ?_, fun p hp z => ?_⟩, q⟩
  · have lt := I.lt
    rw [← z] at lt
    exact absurd (Nat.lt_of_lt_of_le lt g4) (Nat.lt_irrefl _)
  · obtain ⟨v, o, q1, _⟩ := I.cell x c hc
    have lt := Heap.lt_size q1
    rw [z] at lt
    exact absurd (Nat.lt_of_lt_of_le lt g4) (Nat.lt_irrefl _)
  · have lt := Heap.lt_size (I.pin p hp).1
    rw [z] at lt
    exact absurd (Nat.lt_of_lt_of_le lt g4) (Nat.lt_irrefl _)
theorem Inv.noted {off : Addr → Prop} (t : Top X) (I : Inv X pins σ H s) (hx : H ea = some (XC ea C d))
    (ht : ∀ T, off T → X.s₀.heap.objs.size ≤ T ∧ H T = none ∧ T ≠ X.env.locals ∧ (∀ x c, X.env.cells.lookup x = some c → c ≠ T) ∧ ∀ p ∈ X.pn ++ pins, p.1 ≠ T) (h1 : ∀ T U, off T → off U → T = U)
    (n : PySem.W.Noted ea (.ref C) d (X.env :: X.outer |>.filterMap (·.frame)) off s.heap h') : Inv X pins σ H { s with heap := h' } ∧ TrI X pins H ea h' := by
  have fr : ∀ b, b ∈ (X.env :: X.outer).filterMap (·.frame) ↔ b = X.env.locals ∨ b ∈ X.fs := fun b => by
    rw [List.filterMap_cons, t.fr]
    exact List.mem_cons
  have frn : ∀ b, b ∈ (X.env :: X.outer).filterMap (·.frame) → H b = none := fun b hb => I.stkFree b (by rw [t.stk]; exact hb)
  obtain ⟨vs, sl, T, oT, ts, x1, x2, x3, x4, x5, x6, x7⟩ := n.exc
  have nea : ∀ b, H b = none → b ≠ ea := fun b hb z => by rw [z, hx] at hb; cases hb
  obtain ⟨ch, hch⟩ : ∃ ch : List Addr, (∀ b ∈ ch, off b) ∧ ∀ b, off b → b ∈ ch := by
    by_cases z : ∃ T, off T
    · obtain ⟨T, hT⟩ := z
      exact ⟨[T], fun b hb => by rw [List.mem_singleton.mp hb]; exact hT, fun b hb => by rw [h1 b T hb hT]; exact List.mem_singleton.mpr rfl⟩
    · exact ⟨[], fun b hb => absurd hb (by simp), fun b hb => absurd ⟨b, hb⟩ z⟩
  have I' : Inv X pins σ H { s with heap := h', gens := s.gens, drawn := s.drawn, toks := s.toks } := by
    refine I.step (ch := ch) (fun b hb => ?_) (fun b o h1 h2 h3 q hn => ?_) (fun b o h1 h2 h3 q hn => ?_) (fun _ _ _ _ q => q) (fun b o h3 q => ?_) (fun _ _ q => q) (fun _ _ _ q => q) (fun b ps q => ⟨#[], by rw [q]; simp⟩) (fun m hm => ?_) (fun b u hb => ?_) I.bare
    · obtain ⟨a1, _, a3, a4, a5⟩ := ht b (hch.1 b hb)
      exact ⟨.inr a1, a3, a4, a5⟩
    · exact n.keep b o (nea b hn) (fun z => h3 (hch.2 b z)) (fun z => ((fr b).mp z).elim h1 h2) q
    · exact n.slot b o (nea b hn) (fun z => h3 (hch.2 b z)) q
    · by_cases z : b = ea
      · rw [z]; exact ⟨_, x1⟩
      · obtain ⟨l, q1⟩ := n.slot b o z (fun z => h3 (hch.2 b z)) q
        exact ⟨_, q1⟩
    · obtain ⟨o, es, ep, ho, r⟩ := hm
      obtain ⟨l, q1⟩ := n.slot _ o (nea _ I.free) (fun z => (ht _ z).2.2.1 rfl) ho
      exact ⟨_, es, ep, q1, r⟩
    · by_cases z : b = ea
      · subst z
        rw [hx] at hb
        cases hb
        obtain ⟨vs0, sl0, g0, c0⟩ := x_getC I.hok (.inr hx)
        exact xc_ok x1 ((n.ctx _ _ _ _ g0 x1 rfl rfl).trans c0)
      · refine (I.hok b u hb).stay (fun c v hc q => n.keep c v ?_ (fun z => ?_) (fun z => ?_) q) (fun _ q => q) fun _ _ q => q
        · rcases hc with rfl | hc
          · exact z
          · intro z
            rw [z, hx] at hc
            cases hc
        · have hn := (ht c z).2.1
          rcases hc with rfl | hc
          · rw [hb] at hn; cases hn
          · rw [hc] at hn; cases hn
        · have hn := frn c z
          rcases hc with rfl | hc
          · rw [hb] at hn; cases hn
          · rw [hc] at hn; cases hn
  have lt := I.lt
  refine ⟨I', .ref C, d, vs, sl, T, x1, x2, ⟨x3, oT, ts, x5, x6, x7⟩, Nat.le_trans I.sz x4, I.hok.fresh x4, fun z => ?_, fun x c hc z => ?_, fun p hp z => ?_⟩
  · rw [← z] at lt
    exact absurd (Nat.lt_of_lt_of_le lt x4) (Nat.lt_irrefl _)
  · obtain ⟨v, o, q1, _⟩ := I.cell x c hc
    have lt := Heap.lt_size q1
    rw [z] at lt
    exact absurd (Nat.lt_of_lt_of_le lt x4) (Nat.lt_irrefl _)
  · have lt := Heap.lt_size (I.pin p hp).1
    rw [z] at lt
    exact absurd (Nat.lt_of_lt_of_le lt x4) (Nat.lt_irrefl _)
theorem note_flew {Q : Unit → Shared → Prop} {E : Value → Shared → Prop} (t : Top X) (I : Inv X pins σ H s) (hx : H ea = some (XC ea C d)) (tr : TrI X pins H ea s.heap)
    (k : ∀ s', Inv X pins σ H s' → TrI X pins H ea s'.heap → Q () s') :
    wpAny (model X.prog X.w) X.A (noteFrame (.ref ea) X.env) (fun _ s1 => wpAny (model X.prog X.w) X.A (setFlight (.ref ea) none) Q E s1) E s := by
  obtain ⟨cl, d', vs, sl, T, g1, g2, g3, g4⟩ := tr
  obtain ⟨vs', sl', q⟩ := x_get I.hok (.inr hx)
  rw [g1] at q
  cases q
  refine PySem.W.note_fly (bh := X.base) (off := fun b => b = T) (outer := X.outer) (by rw [← t.stk]; exact I.ok.frames) (by rw [← t.stk]; exact I.stack) t.fr g1 (.inr ⟨T, g2, g3, rfl⟩) fun h' n => ?_
  obtain ⟨a, b⟩ := I.noted (off := fun b => b = T) t hx (fun U z => (show U = T from z) ▸ g4) (fun _ _ p q => p.trans q.symm) n
  exact k _ a b
theorem note_made {Q : Unit → Shared → Prop} {E : Value → Shared → Prop} (t : Top X) (I : Inv X pins σ H s) (hx : H ea = some (XO ea C d))
    (k : ∀ s', Inv X pins σ (upd H ea (XC ea C d)) s' → TrI X pins (upd H ea (XC ea C d)) ea s'.heap → Q () s') :
    wpAny (model X.prog X.w) X.A (noteFrame (.ref ea) X.env) (fun _ s1 => wpAny (model X.prog X.w) X.A (setFlight (.ref ea) none) Q E s1) E s := by
  obtain ⟨t0, g1⟩ := xo_get I.hok hx
  have I1 : Inv X pins σ (upd H ea (XC ea C d)) { s with heap := s.heap, toks := s.toks } := I.write (x := ea) (e := ea) (by rw [hx]; exact True.intro) (.inl rfl) (fun _ _ _ q => q) ⟨_, g1⟩ (xc_ok g1 rfl)
  refine PySem.W.note_fly (bh := X.base) (off := fun _ => False) (outer := X.outer) (by rw [← t.stk]; exact I.ok.frames) (by rw [← t.stk]; exact I.stack) t.fr g1 (.inl rfl) fun h' n => ?_
  obtain ⟨a, b⟩ := I1.noted t upd_same (fun _ z => z.elim) (fun _ _ z => z.elim) n
  exact k _ a b
theorem TrI.tr (t : TrI X pins H ea h') : TrX X.s₀.heap.objs.size H ea h' := let ⟨cl, d, vs, sl, T, a, b, c, e, f, _⟩ := t; ⟨cl, d, vs, sl, T, a, b, c, e, f⟩
end
section
variable {P : Program} {w : World} {K : PySem.W.Frag} {mg : Str → Option Value} {base : Heap} {N ps : List Str} {qual x : Str} {scope : Scope} {f : Addr} {cd : Value} {A : Around} {outer : List Env} {s : Shared} {H : Hp} {E : XK} {k : Nat}
abbrev cxE (P : Program) (w : World) (K : PySem.W.Frag) (mg : Str → Option Value) (base : Heap) (N : List Str) (qual : Str) (scope : Scope) (f : Addr) (cd : Value) (A : Around) (outer : List Env) (s : Shared) (H : Hp) (E : XK) : Cx :=
  cxOf (CXe P w) P w K mg base N qual scope f cd A outer s H E
theorem top_def : Top (cxE P w K mg base N qual scope f cd A outer s H E) := ⟨rfl, rfl, rfl⟩
theorem raise_def : RaisesS (cxE P w K mg base N qual scope f cd A outer s H E) (fun _ => E) := by
  intro pins σ H1 s1 ea C d I hx q
  show wpAny _ _ (leaving _ _) _ _ _
  unfold leaving
  refine wpAny_bind (note_made top_def I hx fun s3 I3 t3 => ?_)
  exact ⟨ea, C, d, _, rfl, I3.os, I3.bare, I3.base, I3.hok, upd_same, t3.tr, q⟩
theorem Fun.okE {st : Stmt} {fd : FuncData} {sp : Sp} (F : Fun K x qual st f fd) (S : FnScope N ps (defScope st)) (len : ∀ vs H Q E, sp vs H Q E → vs.length = ps.length)
    (hbody : ∀ (cdv : Value) (A : Around) (outer : List Env) (s : Shared) (H : Hp) (vs : List V) (Q : VK) (E : XK), Room k (A.deeper (envOfC qual (defScope st) s.heap.objs.size f cdv)) → sp vs H Q E →
      ∃ t, PSs (cxE P w K mg base N qual (defScope st) f cdv A outer s H E) (defBody st) t ∧ t { nx := fun _ H' => Q .non H', rt := Q } (start N vs) H) : FnOk P w K mg base (CXe P w) (k + 1) f fd ps sp := by
  obtain ⟨oc, od, kV, doc, pm, an, cdv, ct, osl, rfl, lk, hcd⟩ := F.ex
  exact fn_of lk hcd S len fun A outer s H vs Q E hr hsp => hbody cdv A outer s H vs Q E hr hsp
theorem FnOk.lift {CX : CXT} {fd : FuncData} {sp : Sp} (F : FnOk P w K mg base CX0 k f fd ps sp) : FnOk P w K mg base CX k f fd ps sp :=
  ⟨F.len, fun A outer s H args us vs Q E hr e0 hb r h => codeAny_mono (F.run A outer s H args us vs Q E hr e0 hb r h) fun r s' q => match r, q with
    | .ok (.ret _), q => q
    | .ok .next, q => q
    | .ok .brk, q => q
    | .ok .cont, q => q
    | .error _, q => False.elim q⟩
structure DfE (P : Program) (w : World) (K : PySem.W.Frag) (mg : Str → Option Value) (base : Heap) (k : Nat) (x : Str) (ps : List Str) (sp : Sp) : Prop where
  ex : ∃ f fd, FnOk P w K mg base (CXe P w) k f fd ps sp ∧ Binds K fd ps [] ∧ PySem.W.keepIn K (.ref f) = true ∧ mg x = some (.ref f)
structure MtE (P : Program) (w : World) (K : PySem.W.Frag) (mg : Str → Option Value) (base : Heap) (k : Nat) (m : Str) (C : Addr) (ps : List Str) (sp : Sp) : Prop where
  ex : ∃ f fd, Meth K C m f ∧ FnOk P w K mg base (CXe P w) k f fd ps sp ∧ Binds K fd ps []
theorem MtD.e {m : Str} {C : Addr} {sp : Sp} (D : MtD P w K mg base k m C ps sp) : MtE P w K mg base k m C ps sp := let ⟨f, fd, a, b, c⟩ := D.ex; ⟨f, fd, a, b.lift, c⟩
theorem Dfn.e {sp : Sp} (D : Dfn P w K mg base k x ps sp) : DfE P w K mg base k x ps sp := let ⟨f, fd, a, b, c⟩ := D.ex; ⟨f, fd, a.lift, b, c⟩
end
def tCallE (sp : Sp) (G : St → XK) (t : TA) : TE := fun σ H Q => t σ H fun vs H1 => sp vs H1 Q (G σ)
def tMethE (P : Program) (w : World) (K : PySem.W.Frag) (mg : Str → Option Value) (base : Heap) (k : Nat) (m : Str) (G : St → XK) (ta : TE) (t : TA) : TE := fun σ H Q => ta σ H fun x H1 => ∃ a C dx fs ps sp, x = .ref a ∧ H1 a = some (.ins C dx fs) ∧ fs.lookup m = none ∧ Cls K C ∧ MtE P w K mg base k m C ps sp ∧
  t σ H1 fun vs H2 => sp (x :: vs) H2 Q (G σ)
section
variable {X : Cx} {k : Nat} {ps : List Str} {sp : Sp} {G : St → XK} {x m : Str} {p pos apos : Pos} {e o : Expr} {es : List Expr} {ta : TE} {t : TA}
theorem run_fnE {pins : List (Addr × Obj)} {σ : St} {H : Hp} {s : Shared} {Q : VK} {us : List Value} {vs : List V} {f : Addr} {fd : FuncData} (F : FnOk X.prog X.w X.K X.mg X.base (CXe X.prog X.w) k f fd ps sp) (hr : Room k X.A) (hb : Binds X.K fd ps []) (hx : PassesS X G)
    (I : Inv X pins σ H s) (r : Vals vs us) (h : sp vs H Q (G σ)) : wpAny (model X.prog X.w) X.A (call (.ref f) us) (EP X pins σ Q) X.xe s := by
  have hl : us.length = ps.length := by rw [← r.length]; exact F.len _ _ _ _ h
  have hb2 := hb s us I.kIn (by rw [List.append_nil]; exact hl)
  rw [List.append_nil] at hb2
  refine wpAny_call (codeAny_mono (F.run X.A X.stack s H ⟨us, []⟩ us vs Q (G σ) hr I.env0 hb2 r h) fun r s' hq => ?_)
  cases r with
  | error e => exact hx pins σ H s e s' I hq
  | ok fl =>
    cases fl with
    | ret u => exact I.after hq
    | next => exact False.elim hq
    | brk => exact False.elim hq
    | cont => exact False.elim hq
theorem pe_callE (D : DfE X.prog X.w X.K X.mg X.base k x ps sp) (hx : PassesS X G) (hr : Room k X.A) (hg : Gl X x) (ha : PA X (e :: es) t) (hdb : (x == ("__debug__" : Str)) = false := by decide)
    (he : starEach (e :: es) X.env = (false, eval e X.env) :: starEach es X.env := by rfl) (hpl : (backTo pos (starEach es X.env)).any (·.1) = false := by rfl) : PE X (.Call (.Name x p) (e :: es) [] pos) (tCallE sp G t) := by
  intro pins s σ H Q I h
  obtain ⟨f, fd, F, b, kp, hm⟩ := D.ex
  refine wpAny_Call_Name_kw (ld_glob I hg hm ?_ hdb)
  refine PySem.W.callWith_K (h₀ := X.base) I.ok.mod.kin kp (thn (ha pos pins s σ H _ I h) fun us s1 ⟨vs, H1, I1, r, q⟩ => ⟨I1.kIn, ?_⟩) he hpl
  exact run_fnE F hr b hx I1 r q
end
end L2
namespace PySem.W
open PySem PyProof.Rows PySem.Spec PySem.Calls
def mroHas (K : Frag) (C : Addr) (c : Value) : Bool := match K.lookup C with
  | some ⟨_, _, .cls cd, _⟩ => cd.mro.contains c
  | _ => false
theorem exc_mro {K : Frag} {h : Heap} {C : Addr} (X : K.In h) (q : excMk K C = true) : ∃ tlm, ExcAt h C tlm ∧ OwnTail h veMro tlm ∧ ∀ c, mroHas K C c = (Value.ref C :: tlm).contains c := by
  obtain ⟨tlm, hE, T⟩ := excMk_obj X q
  refine ⟨tlm, hE, T, fun c => ?_⟩
  unfold mroHas
  cases hk : K.lookup C with
  | none =>
    unfold excMk at q
    rw [hk] at q
    cases q
  | some o =>
    obtain ⟨N, nm, q, bs, hdct, sn, sub, ab, col, dd, q0, q1, q2, q3, q5, hCl⟩ := hE
    have z := X _ _ hk
    rw [hCl] at z
    cases z
    rfl
section
variable {M : Model} {A : Around} {E : Value → Shared → Prop} {env : Env} {K : Frag}
theorem exc_match {h : Heap} {g : Array GenState} {d : Drawn} {t : Nat} {os : OsState} {e C D : Addr} {oe : Obj} {Q : Bool → Shared → Prop} (X : K.In h) (qC : excMk K C = true) (qD : excMk K D = true) (he : h.get? e = some oe) (hc : oe.cls = .ref C)
    (hq : Q (mroHas K C (.ref D)) ⟨h, g, d, t, os⟩) : wpAny M A (excMatches (.ref e) (.ref D)) Q E ⟨h, g, d, t, os⟩ := by
  obtain ⟨tl, ⟨N, nm, q, bs, hdct, sn, sub, ab, col, dd, q0, q1, q2, q3, q5, hC⟩, _, mh⟩ := exc_mro X qC
  obtain ⟨tl', ⟨N', nm', q', bs', hdct', sn', sub', ab', col', dd', q0', q1', q2', q3', q5', hD⟩, T, _⟩ := exc_mro X qD
  have hB : (Value.ref D :: tl').contains (.type "BaseException") = true := by
    rw [List.contains_cons, T.hasType (show veMro.contains (.type "BaseException") = true from by decide +kernel), Bool.or_true]
  rw [mh] at hq
  have f := tc_notTuple
  unfold excMatches
  repeat (first | (with_reducible refine wpAny_loadPart_at he ?_; rw [hc]) | with_reducible refine wpAny_loadPart_at hD ?_ | (with_reducible refine wpAny_isSubtype_exc hD ?_; rw [hB]) | with_reducible refine wpAny_isSubtype_exc hC ?_ | wp_step)
  all_goals (cases hb : (Value.ref C :: tl).contains (.ref D) <;> (rw [hb] at hq; wp_walk; exact hq))
theorem raise_X {s : Shared} {x : Sem Value} {Q : Flow → Shared → Prop} (hh : A.handled = none)
    (h : wpAny M A x (fun v s1 => ∃ e C d t0, v = .ref e ∧ K.In s1.heap ∧ excMk K C = true ∧ s1.heap.get? e = some ⟨.ref C, d, .fields #[.ref t0, .none, .none, .none, .bool false, .none], #[]⟩ ∧ E (.ref e) s1) E s) :
    wpAny M A (raiseStmt env (some x) none) Q E s := by  -- raised here
  unfold raiseStmt
  refine wpAny_bind (wpAny_mono h (fun v s1 h1 => ?_) fun _ _ x => x)
  obtain ⟨e, C, d, t0, rfl, X, qC, he, hE⟩ := h1
  obtain ⟨tl, ⟨N, nm, q, bs, hdct, sn, sub, ab, col, dd, q0, q1, q2, q3, q5, hC⟩, T, _⟩ := exc_mro X qC
  have hB : (Value.ref C :: tl).contains (.type "BaseException") = true := by
    rw [List.contains_cons, T.hasType (show veMro.contains (.type "BaseException") = true from by decide +kernel), Bool.or_true]
  obtain ⟨hp, g, d', tk, os⟩ := s1
  repeat (first | with_reducible refine wpAny_loadPart_at he ?_ | with_reducible refine wpAny_loadPart_at hC ?_ | (with_reducible refine wpAny_isSubtype_exc hC ?_; rw [hB]) | wp_step)
  exact (wpAny_raiseNew_none hh hE)
end
end PySem.W
namespace L2
open PySem PyProof.Rows PySem.Spec PySem.Calls
def tRaise (K : PySem.W.Frag) (G : St → XK) (te : TE) : TS := fun _ σ H => te σ H fun v H1 => ∃ ea C d, v = .ref ea ∧ H1 ea = some (XO ea C d) ∧ PySem.W.excMk K C = true ∧ G σ (.ref C) (some ea) (upd H1 ea (XC ea C d))
abbrev Cx.caught (X : Cx) (ea : Addr) : Cx := { X with A := X.A.mark (some (.ref ea)), calm := false, xe := fun _ _ => False }
abbrev Cx.inTry (X : Cx) (ps : List (Addr × Obj)) (xe : Value → Shared → Prop) : Cx := { X with pn := X.pn ++ ps, xe := xe }
section
variable {X : Cx} {pins : List (Addr × Obj)} {σ : St} {H : Hp} {s : Shared} {ea : Addr}
theorem ps_raise {G : St → XK} {e : Expr} {te : TE} {pos : Pos} (hR : RaisesS X G) (hc : X.calm = true) (he : PE X e te) : PS X (.Raise (some e) none pos) (tRaise X.K G te) := by
  intro pins s σ H D I h
  show wpAny _ _ (do standAt pos; raiseStmt X.env (some (do let v ← eval e X.env; standAt pos; pure v)) none) _ _ s
  refine wpAny_bind (wpAny_standAt (PySem.W.raise_X (K := X.K) (I.ok.hd hc) (wpAny_bind (thn (he pins s σ H _ I h) fun v s1 ⟨x, H1, I1, rx, ea, C, d, ex, hx, mk, q⟩ => wpAny_bind (wpAny_standAt (wpAny_pure ?_))))))
  subst ex
  obtain rfl : v = Value.ref ea := rx
  obtain ⟨t0, g1⟩ := xo_get I1.hok hx
  exact ⟨ea, C, d, t0, rfl, I1.kIn, mk, g1, hR pins σ H1 s1 ea C d I1 hx q⟩
theorem Cx.Ok.caught (ok : X.Ok) : (X.caught ea).Ok :=
  ⟨ok.mod, ok.kind, ok.glob, ok.blt, ok.above, ok.inj, ok.has, ok.cab, (fun z => nomatch z), ok.frames, ok.stk, ok.exf, ok.bs, ok.bsz, ok.noex, ok.exfs, ok.funs, ok.frf⟩
theorem Inv.caught (I : Inv X pins σ H s) : Inv (X.caught ea) pins σ H s := ⟨I.ok.caught, I.os, I.bare, I.base, I.loc, I.cell, I.free, I.freeC, I.pin, I.hok, I.len⟩
theorem Inv.uncaught (o : X.Ok) (I : Inv (X.caught ea) pins σ H s) : Inv X pins σ H s := ⟨o, I.os, I.bare, I.base, I.loc, I.cell, I.free, I.freeC, I.pin, I.hok, I.len⟩
theorem Cx.Ok.inTry {ps : List (Addr × Obj)} {xe : Value → Shared → Prop} (ok : X.Ok) : (X.inTry ps xe).Ok :=
  ⟨ok.mod, ok.kind, ok.glob, ok.blt, ok.above, ok.inj, ok.has, ok.cab, ok.hd, ok.frames, ok.stk, ok.exf, ok.bs, ok.bsz, ok.noex, ok.exfs, ok.funs, ok.frf⟩
theorem Inv.inTry {xe : Value → Shared → Prop} (I : Inv X pins σ H s) : Inv (X.inTry pins xe) [] σ H s := ⟨I.ok.inTry, I.os, I.bare, I.base, I.loc, I.cell, I.free, I.freeC, fun p hp => I.pin p (by rw [← List.append_nil (X.pn ++ pins)]; exact hp), I.hok, I.len⟩
theorem Inv.outTry {ps : List (Addr × Obj)} {xe : Value → Shared → Prop} (o : X.Ok) (I : Inv (X.inTry ps xe) pins σ H s) : Inv X ps σ H s := ⟨o, I.os, I.bare, I.base, I.loc, I.cell, I.free, I.freeC, fun p hp => I.pin p (List.mem_append_left _ hp), I.hok, I.len⟩
theorem SP.outTry {ps : List (Addr × Obj)} {xe : Value → Shared → Prop} {D : Ends} {f : Flow} {s' : Shared} (o : X.Ok) (h : SP (X.inTry ps xe) pins D f s') : SP X ps D f s' := by
  cases f with
  | next => obtain ⟨σ', H', I, q⟩ := h; exact ⟨σ', H', I.outTry o, q⟩
  | brk => obtain ⟨σ', H', I, q⟩ := h; exact ⟨σ', H', I.outTry o, q⟩
  | cont => obtain ⟨σ', H', I, q⟩ := h; exact ⟨σ', H', I.outTry o, q⟩
  | ret u => obtain ⟨v, σ', H', I, r, q⟩ := h; exact ⟨v, σ', H', I.outTry o, r, q⟩
theorem unbind_ok {M : Model} {A : Around} {E : Value → Shared → Prop} {i : Nat} {n : Str} {v : V} {Q : Unit → Shared → Prop} (I : Inv X pins σ H s) (hN : X.N.Nodup) (hi : X.N[i]? = some n) (hx : X.env.scope.names.lookup n = some .local) (hv : σ[i]? = some (some v))
    (h : ∀ s', Inv X pins (σ.set i none) H s' → Q () s') : wpAny M A (unbindName X.env n) Q E s := by
  obtain ⟨m, hn, hl⟩ := id I.loc
  obtain ⟨u, _, lk⟩ := hl i n v hi hv (.inl hx)
  have hm : m n = some u := by
    rcases lk with ⟨_, e⟩ | ⟨k, _⟩
    · exact e
    · have kx : X.env.kindOf n = some .local := hx
      rw [kx] at k
      rcases k with k | k <;> cases k
  have hcls : (X.env.scope.kind == .class || (X.env.scope.kind == .module && X.env.locals != X.env.globals)) = false := by rw [I.ok.kind]; rfl
  have iσ : i < σ.length := by rw [I.len]; exact (List.getElem?_eq_some_iff.mp hi).1
  refine wpAny_unbindName_local hx hn hm hcls fun h' u' hn' hs => h _ ?_
  obtain ⟨oLo, _, _, hoLo, _⟩ := id hn
  have ne0 : ∀ b o, X.s₀.heap.get? b = some o → b ≠ X.env.locals := fun b o e => Nat.ne_of_lt (Nat.lt_of_lt_of_le (Heap.lt_size e) I.ok.above)
  refine ⟨I.ok, I.os, I.bare, ⟨fun b o e nn hb he => (hs.2 b (ne0 b o e)).trans (I.base.keep b o e nn hb he), fun b o e nn hb he => ?_, I.base.free, fun b o e he => ?_, I.base.tups, I.base.frzs, I.base.tbls⟩, ⟨_, hn', fun j y w' e1 e2 e3 => ?_⟩, fun y c e => ?_, I.free, I.freeC, fun p hp => ?_, fun b ob e => ?_, by simpa using I.len⟩
  · obtain ⟨sl, q⟩ := I.base.slot b o e nn hb he
    exact ⟨sl, (hs.2 b (ne0 b o e)).trans q⟩
  · obtain ⟨o', q⟩ := I.base.there b o e he
    exact ⟨o', (hs.2 b (ne0 b o e)).trans q⟩
  · have hj : j ≠ i := fun z => by
      subst z
      rw [List.getElem?_set_self iσ] at e2
      cases e2
    rw [List.getElem?_set_ne (Ne.symm hj)] at e2
    obtain ⟨u2, r2, q⟩ := hl j y w' e1 e2 e3
    refine ⟨u2, r2, ?_⟩
    rcases q with ⟨k, e⟩ | ⟨k, c, e, z⟩
    · refine .inl ⟨k, ?_⟩
      have hy : y ≠ n := fun z => hj (nodup_ix hN e1 (z ▸ hi))
      show (if y = n then u' else m y) = some u2
      rw [if_neg hy]
      exact e
    · exact .inr ⟨k, c, e, z.sameBut hs (I.cne y c e)⟩
  · obtain ⟨w', z⟩ := I.cell y c e
    exact ⟨w', z.sameBut hs (I.cne y c e)⟩
  · obtain ⟨e, nn, ne, nf, dd⟩ := I.pin p hp
    exact ⟨(hs.2 p.1 ne).trans e, nn, ne, nf, dd⟩
  · refine (I.hok b ob e).stay (fun c w' hc q => (hs.2 c ?_).trans q) (fun _ q => q) fun _ _ q => q
    rintro rfl
    rcases hc with rfl | hc
    · rw [I.free] at e; cases e
    · rw [I.free] at hc; cases hc
end
abbrev TH := Ends → St → Hp → Addr → Addr → Prop
def PH (X : Cx) (hs : List ExceptHandler) (t : TH) : Prop := ∀ (pins : List (Addr × Obj)) (s : Shared) (σ : St) (H : Hp) (D : Ends) (ea C : Addr) (d : Option Addr), Inv X pins σ H s → H ea = some (XC ea C d) → TrI X pins H ea s.heap → t D σ H C ea →
  wpAny (model X.prog X.w) X.A (handleBy (.ref ea) X.env hs) (SP X pins D) X.xe s
def tNoH : TH := fun _ _ _ _ _ => False
def Ends.less (D : Ends) (i : Nat) : Ends := { nx := fun σ H => D.nx (σ.set i none) H, rt := D.rt, bk := fun σ H => D.bk (σ.set i none) H, ct := fun σ H => D.ct (σ.set i none) H }
def tAs (K : PySem.W.Frag) (B : Addr) (i : Nat) (ts : TS) (tr : TH) : TH := fun D σ H C ea => PySem.W.excMk K C = true ∧ PySem.W.excMk K B = true ∧ ∃ b, PySem.W.mroHas K C (.ref B) = b ∧ if b = true then ts (D.less i) (σ.set i (some (.ref ea))) H else tr D σ H C ea
def tTry (tb : (St → XK) → TS) (th : TH) : TS := fun D σ H => tb (fun σ' c oa H' => ∃ C ea, c = .ref C ∧ oa = some ea ∧ th D σ' H' C ea) D σ H
section
variable {X : Cx}
theorem ph_nil : PH X [] tNoH := fun _ _ _ _ _ _ _ _ _ _ _ h => h.elim
theorem ps_try {body : List Stmt} {h₀ : ExceptHandler} {hs : List ExceptHandler} {pos : Pos} {tb : (St → XK) → TS} {th : TH} (t : Top X)
    (hb : ∀ (ps : List (Addr × Obj)) (xe : Value → Shared → Prop) (G : St → XK), PassesS (X.inTry ps xe) G → PassesOwn (model X.prog X.w) X.A X.env xe → PSs (X.inTry ps xe) body (tb G))
    (hh : PH X (h₀ :: hs) th) : PS X (.Try body (h₀ :: hs) [] [] pos) (tTry tb th) := by
  intro pins s σ H D I h
  have o := I.ok
  refine wpAny_Try_except (thn (hb pins _ _ ?_ PassesOwn.looking [] s σ H D I.inTry h) fun f s1 q => ?_)
  · intro ps2 σ2 H2 s2 e s3 I2 c
    obtain ⟨ea, C, d, H3, rfl, I3, hx, tr, C', ea', e1, e2, q⟩ := I2.flew c
    cases e1
    cases e2
    have tr' : TrI X pins H3 ea s3.heap := let ⟨a1, a2, a3, a4, a5, b1, b2, b3, b4, b5, b6, b7, b8⟩ := tr; ⟨a1, a2, a3, a4, a5, b1, b2, b3, b4, b5, b6, b7, fun p hp => b8 p (List.mem_append_left _ hp)⟩
    exact note_flew t (I3.outTry o) hx tr' fun s4 I4 t4 => hh pins s4 σ2 H3 D ea C d I4 hx t4 q
  · have q' := q.outTry o
    cases f with
    | next => exact wpAny_execs_nil q'
    | brk => exact q'
    | cont => exact q'
    | ret u => exact q'
end
end L2
namespace L2
open PySem PyProof.Rows PySem.Spec PySem.Calls
def XG (H : Hp) (e C : Addr) (fs : List (Str × V)) : Prop := ∃ dx, IsX H e C (some dx) ∧ H dx = some (XD dx fs) ∧ dx ≠ e
theorem XF.g {H : Hp} {e C : Addr} {fs : List (Str × V)} (x : XF H e C fs) : XG H e C fs := let ⟨d, a, b, c⟩ := x; ⟨d, .inl a, b, c⟩
theorem XG.keep {H H' : Hp} {e C : Addr} {fs : List (Str × V)} (x : XG H e C fs) (k : Same H H') : XG H' e C fs := by
  obtain ⟨d, a, b, c⟩ := x
  rcases a with a | a
  · exact ⟨d, .inl (k _ _ a), k _ _ b, c⟩
  · exact ⟨d, .inr (k _ _ a), k _ _ b, c⟩
theorem XF.raised {H : Hp} {e C : Addr} {fs : List (Str × V)} (x : XF H e C fs) : ∃ dx, H e = some (XO e C (some dx)) ∧ XG (L2.upd H e (XC e C (some dx))) e C fs :=
  let ⟨d, a, b, c⟩ := x
  ⟨d, a, d, .inr upd_same, by rw [upd_ne c]; exact b, c⟩
def rIsO (K : PySem.W.Frag) : List V → Hp → VK → Prop := fun xs H Q => ∃ x c t b, xs = [x, c] ∧ TyOf K H x t ∧ (∀ u, RelV c u → u = clV c) ∧ PySem.W.kitOne K t (clV c) = some b ∧ Q (.bl b) H
def rIsG (K : PySem.W.Frag) : List V → Hp → VK → Prop := fun xs H Q => ∃ a C fs c b, xs = [.ref a, c] ∧ XG H a C fs ∧ ClsI K C ∧ (∀ u, RelV c u → u = clV c) ∧ PySem.W.kitOne K (.ref C) (clV c) = some b ∧ Q (.bl b) H
def rIsGT (K : PySem.W.Frag) : List V → Hp → VK → Prop := fun xs H Q => ∃ a C fs tp cs b, xs = [.ref a, .ref tp] ∧ XG H a C fs ∧ ClsI K C ∧ H tp = some (.tup cs) ∧ (∀ c ∈ cs, ∀ u, RelV c u → u = clV c) ∧ PySem.W.kitAny K (.ref C) (cs.map clV) = some b ∧ Q (.bl b) H
def tFldG (K : PySem.W.Frag) (ta : TE) (f : Str) : TE := fun σ H Q => ta σ H fun x H1 => ∃ a C fs v, x = .ref a ∧ XG H1 a C fs ∧ ClsX K C ∧ NoAttr K C f ∧ fs.lookup f = some v ∧ Q v H1
section
variable {X : Cx} {e o : Expr} {es : List Expr} {f x : Str} {p pos apos : Pos} {ta : TE} {t : TA} {k : Nat} {ps : List Str} {sp : Sp}
theorem call_isG : CallR X (.builtin "isinstance") (rIsG X.K) := by
  intro pins s σ H xs us Q I r h
  obtain ⟨a, C, fs, c, b, rfl, ⟨dx, ea, ed, _⟩, cl, hc, e, q⟩ := h
  obtain ⟨u, w', rfl, r1, r2⟩ := vals2 r
  cases (show u = Value.ref a from r1)
  cases hc _ r2
  obtain ⟨vs, sl, hx⟩ := x_get I.hok ea
  obtain ⟨_, mA, hn, _, _⟩ := xd_get I.hok ed
  obtain ⟨od, ho, _⟩ := lookIn_ns hn
  exact PySem.W.kia_one (PySem.W.kitx_X (ox := ⟨.ref C, some dx, .fields vs, sl⟩) (od := od) (cl.c.at cl.ca cl.cn cl.ct)) I.kIn ⟨hx, rfl, rfl, ho⟩ e (fun z => nomatch z) fun tk => ⟨.bl b, H, I.tok tk, rfl, q⟩
theorem pe_fldG (he : PE X e ta) (hb : attributeBase e f X.env (eval e X.env) = eval e X.env) : PE X (.Attribute e f pos) (tFldG X.K ta f) := by
  intro pins s σ H Q I h
  refine attr_of hb (thn (he pins s σ H _ I h) fun u s1 ⟨x, H1, I1, rx, a, C, fs, v, ex, ⟨dx, ea, ed, _⟩, c, n, l, q⟩ => ?_)
  subst ex
  obtain rfl : u = Value.ref a := rx
  exact getX_ok I1 ea ed c n l fun u' s2 I2 ru => ⟨v, H1, I2, ru, q⟩
structure InO (K : PySem.W.Frag) (B f : Addr) : Prop where
  sp : PySem.W.specialIn K (.ref B) "__getattribute__" = some (some (.builtin "type.__getattribute__"))
  rd : PySem.W.readsIn K B (.type "type") = true
  fc : PySem.W.findCls K (.ref B) (.type "type") "__init__" = some (.val (.ref f))
structure InD (P : Program) (w : World) (K : PySem.W.Frag) (mg : Str → Option Value) (base : Heap) (k : Nat) (x : Str) (B : Addr) (ps : List Str) (sp : Sp) : Prop where
  ex : ∃ f fd, InO K B f ∧ FnOk P w K mg base CX0 k f fd ps sp ∧ Binds K fd ps [] ∧ PySem.W.keepIn K (.ref f) = true ∧ mg x = some (.ref B)
end
section
variable {P : Program} {w : World} {K : PySem.W.Frag} {mg : Str → Option Value} {base : Heap} {j k : Nat} {x m : Str} {C : Addr} {ps : List Str} {sp : Sp}
theorem MtE.mono (D : MtE P w K mg base j m C ps sp) (h : j ≤ k) : MtE P w K mg base k m C ps sp := let ⟨f, fd, a, b, c⟩ := D.ex; ⟨f, fd, a, b.mono h, c⟩
theorem DfE.mono (D : DfE P w K mg base j x ps sp) (h : j ≤ k) : DfE P w K mg base k x ps sp := let ⟨f, fd, a, b⟩ := D.ex; ⟨f, fd, a.mono h, b⟩
end
end L2
namespace L2
open PySem PyProof.Rows PySem.Spec PySem.Calls
structure OwnTy (K : PySem.W.Frag) (C : Addr) : Prop where
  ha : PySem.W.findIn K (.ref C) "__class__" = some (some (.builtin "object.__class__"))
  hn : PySem.W.specialIn K (.builtin "object.__class__") "__get__" = some (some (.builtin "getset_descriptor.__get__"))
  tk : PySem.W.takesIn K (.builtin "object.__class__") = some true
  hm : PySem.W.mroIn K C (.type "object") = some true
theorem OwnTy.ty {K : PySem.W.Frag} {C a dx : Addr} {H : Hp} {fs : List (Str × V)} (o : OwnTy K C) (cl : Cls K C) (e : H a = some (.ins C dx fs)) : TyOf K H (.ref a) (.ref C) := .ins e cl o.ha o.hn o.tk o.hm
theorem top_nox {CX : CXT} {P : Program} {w : World} {K : PySem.W.Frag} {mg : Str → Option Value} {base : Heap} {N : List Str} {qual : Str} {scope : Scope} {f : Addr} {cd : Value} {A : Around} {outer : List Env} {s : Shared} {H : Hp} {E : XK} :
    Top (cxOf CX P w K mg base N qual scope f cd A outer s H E).nox := ⟨rfl, rfl, rfl⟩
theorem ixN_nat {n j : Nat} (h : j < n) : ixN n (j : Int) = some j := by
  unfold ixN
  simp [h]
end L2
namespace L2
open PySem PyProof.Rows PySem.Spec PySem.Calls
section
variable {X : Cx} {P : Program} {w : World} {K : PySem.W.Frag} {mg : Str → Option Value} {base : Heap} {G : St → XK} {m : Str} {pos apos : Pos} {e o : Expr} {es : List Expr} {ta : TE} {t : TA}
end
end L2
namespace L2
open PySem PyProof.Rows PySem.Spec PySem.Calls
section
variable {X : Cx} {K : PySem.W.Frag} {e : Expr} {f : Str} {pos : Pos} {ta : TE}
theorem call_isGK (h : X.K = K) : CallR X (.builtin "isinstance") (rIsG K) := h ▸ call_isG
theorem pe_fldGK (h : X.K = K) (he : PE X e ta) (hb : attributeBase e f X.env (eval e X.env) = eval e X.env) : PE X (.Attribute e f pos) (tFldG K ta f) := by
  subst h
  exact pe_fldG he hb
end
end L2
namespace L2
open PySem PySem.Spec PyProof.Rows
def Its (lo d : Int) (n : Nat) : It := ⟨fun i _ => i < n, fun i H x H' => H' = H ∧ x = .int (lo + i * d), fun i _ => n ≤ i⟩
section
variable {X : Cx} {tg : Expr}
def iRng3 (ta : TA) : TI := fun σ H R => ta σ H fun vs H1 => ∃ i j d : Int, vs = [.int i, .int j, .int d] ∧ (-(2 ^ 60) ≤ i ∧ i < 2 ^ 60 ∧ -(2 ^ 60) ≤ j ∧ j < 2 ^ 60 ∧ 0 < d ∧ d < 2 ^ 29) ∧ R (Its i d (if i < j then (j - i - 1) / d + 1 else 0).toNat) H1
end
end L2
namespace L2
open PySem PySem.Spec PyProof.Rows
def New (H H' : Hp) (G : Hp → Prop) : Prop := ∃ S : Addr → Prop, (∀ b, S b → H b = none ∧ ∃ o, H' b = some o) ∧ ∀ H3, (∀ b, S b → H3 b = H' b) → G H3
theorem compB_mk {J : It} {tc : TT} {te : TE} {σf : Option V → St} {H1 : Hp} {Q : VK} {xs : List V} (S : Seq J H1 xs) (G : V → V → Hp → Prop) (hz : xs.length < sizeLine)
    (hc : ∀ x ∈ xs, ∀ (H' : Hp) (R : Bool → Hp → Prop), Same H1 H' → R true H' → tc (σf (some x)) H' R)
    (he : ∀ x ∈ xs, ∀ (H' : Hp) (R : VK), Same H1 H' → (∀ y H'', Same H' H'' → New H' H'' (G x y) → R y H'') → te (σf (some x)) H' R)
    (q : ∀ D H' ys, Same H1 H' → H1 D = none → H' D = some (.lst ys) → ys.length = xs.length → (∀ (i : Nat) x y, xs[i]? = some x → ys[i]? = some y → G x y H') → Q (.ref D) H') : CompB J tc te σf H1 Q := by
  intro D hD
  refine ⟨fun i m ys H2 => m = xs.length - i ∧ i ≤ xs.length ∧ Same H1 H2 ∧ H2 D = some (.lst ys) ∧ ys.length = i ∧ ∀ (k : Nat) x y, xs[k]? = some x → ys[k]? = some y → ∃ Z : Addr → Prop, (∀ b, Z b → b ≠ D ∧ ∃ o, H2 b = some o) ∧ ∀ H3, (∀ b, Z b → H3 b = H2 b) → G x y H3,
    ⟨xs.length, rfl, Nat.zero_le _, same_new hD _, upd_same, rfl, fun k x y _ e => by simp at e⟩, ?_⟩
  rintro i m ys H2 ⟨rfl, hi, sm, hD2, hl, hg⟩
  refine ⟨hD2, ?_⟩
  by_cases hlt : i < xs.length
  · refine .inr ⟨S.go i H2 sm hlt, by omega, fun x H3 y => ?_⟩
    obtain ⟨e, hx⟩ := S.yld i H2 x H3 sm hlt y
    subst e
    have mem : x ∈ xs := List.mem_of_getElem? hx
    refine hc x mem _ _ sm (iteT (he x mem _ _ sm fun yv H5 s5 ny => ⟨s5 _ _ hD2, xs.length - (i + 1), by omega, rfl, hlt, same_on hD (sm.trans s5) _, upd_same, by rw [List.length_append, hl]; rfl, fun k x' y' ex ey => ?_⟩))
    by_cases hk : k < i
    · rw [List.getElem?_append_left (by omega)] at ey
      obtain ⟨Z, z1, z2⟩ := hg k x' y' ex ey
      refine ⟨Z, fun b hb => ?_, fun H6 h6 => z2 H6 fun b hb => ?_⟩
      · obtain ⟨nb, o, ho⟩ := z1 b hb
        exact ⟨nb, o, by rw [upd_ne nb]; exact s5 _ _ ho⟩
      · obtain ⟨nb, o, ho⟩ := z1 b hb
        rw [h6 b hb, upd_ne nb, s5 _ _ ho, ho]
    · have ek : k = i := by
        have := (List.getElem?_eq_some_iff.mp ey).1
        rw [List.length_append, hl] at this
        have : k < i + 1 := this
        omega
      subst ek
      rw [List.getElem?_append_right (by omega), hl, Nat.sub_self] at ey
      obtain rfl : yv = y' := Option.some.inj ey
      obtain rfl : x = x' := Option.some.inj (hx.symm.trans ex)
      obtain ⟨Z, z1, z2⟩ := ny
      have nD : ∀ b, Z b → b ≠ D := fun b hb e => by
        have := (z1 b hb).1
        rw [e, hD2] at this
        cases this
      refine ⟨Z, fun b hb => ?_, fun H6 h6 => z2 H6 fun b hb => ?_⟩
      · obtain ⟨_, o, ho⟩ := z1 b hb
        exact ⟨nD b hb, o, by rw [upd_ne (nD b hb)]; exact ho⟩
      · rw [h6 b hb, upd_ne (nD b hb)]
  · have e : i = xs.length := by omega
    refine .inl ⟨by rw [e]; exact S.stop H2 sm, q D H2 ys sm hD hD2 (by omega) fun k x y ex ey => ?_⟩
    obtain ⟨Z, _, z2⟩ := hg k x y ex ey
    exact z2 H2 fun _ _ => rfl
end L2
namespace L2
open PySem PySem.Spec PyProof.Rows
def ofVal : Value → V
  | .bool b => .bl b
  | .int i _ => .int i
  | .str x _ => .str x
  | .bytes b _ => .byt b
  | .float b _ => .flt b
  | .ref a => .ref a
  | .type n => .ty n
  | _ => .non
def rIndex : V → List V → Hp → VK → Prop := fun x vs H Q => ∃ l xs y j, x = .ref l ∧ vs = [y] ∧ H l = some (.lst xs) ∧ xs.all flatV = true ∧ flatV y = true ∧ xs.length ≤ 1000 ∧ j < xs.length ∧ eqV (xs.getD j .non) y = true ∧ (∀ m, m < j → eqV (xs.getD m .non) y = false) ∧ Q (.int (j : Nat)) H
end L2
namespace L2
open PySem PyProof.Rows PySem.Spec PySem.Calls
def rDq (K : PySem.W.Frag) (n : Nat) (b : Bool) : R2 := fun x y H Q => ∃ a c xs ys, x = .ref a ∧ y = .ref c ∧ ((SqL K H a xs ∧ SqL K H c ys) ∨ (SqT K H a xs ∧ SqT K H c ys)) ∧ xs.length = ys.length ∧ (∀ j, j < xs.length → Deq K H n (xs.getD j .non) (ys.getD j .non)) ∧ Q (.bl b) H
theorem in1_units {A : Around} {n : Nat} (h : A.units + (n + 1) < cLine) : A.in1.units + n < cLine := by
  have : A.in1.units = A.units + 1 := by first | rfl | exact Around.units_in1 _
  omega
theorem op_eq_dq {X : Cx} {n : Nat} (hu : X.A.units + (n + 1) < cLine) : OpR X (compareOp .Eq) (rDq X.K n true) := by
  intro pins s σ H x y v u Q I rx ry h
  obtain ⟨a, c, xs, ys, rfl, rfl, hs, hl, he, q⟩ := h
  cases rx
  cases ry
  rcases hs with ⟨h1, h2⟩ | ⟨h1, h2⟩
  · obtain ⟨its, r1, l1, _⟩ := I.list h1
    obtain ⟨jts, r2, l2, _⟩ := I.list h2
    have e1 := r1.length
    have e2 := r2.length
    have := SeqAt.RcAt.lists (A := X.A) (e := fun _ => true) l1.isList l2.isList (by simp; omega) (by omega) (fun j q1 q2 => deq_eqAt I n X.A.in1 _ _ _ _ (in1_units hu) (he j (by simp at q1; omega)) (vals_at r1 j q1) (vals_at r2 j q2))
    rw [show (List.range its.toArray.size).all (fun _ => true) = true from List.all_eq_true.mpr fun _ _ => rfl] at this
    exact this X.prog X.w _ _ ⟨.bl true, H, I, rfl, q⟩
  · obtain ⟨its, r1, l1, _⟩ := I.tuple h1
    obtain ⟨jts, r2, l2, _⟩ := I.tuple h2
    have e1 := r1.length
    have e2 := r2.length
    have := SeqAt.RcAt.tuples (A := X.A) (e := fun _ => true) l1 l2 (by omega) (fun j q1 q2 => deq_eqAt I n X.A.in1 _ _ _ _ (in1_units hu) (he j (by simp at q1; omega)) (vals_at r1 j q1) (vals_at r2 j q2))
    rw [show (List.range (min its.toArray.size jts.toArray.size)).all (fun _ => true) = true from List.all_eq_true.mpr fun _ _ => rfl, Bool.true_and, beq_iff_eq.mpr (by simp; omega)] at this
    exact this X.prog X.w _ _ ⟨.bl true, H, I, rfl, q⟩
theorem op_ne_dq {X : Cx} {n : Nat} (hu : X.A.units + (n + 1) < cLine) : OpR X (compareOp .NotEq) (rDq X.K n false) := by
  intro pins s σ H x y v u Q I rx ry h
  obtain ⟨a, c, xs, ys, rfl, rfl, hs, hl, he, q⟩ := h
  cases rx
  cases ry
  rcases hs with ⟨h1, h2⟩ | ⟨h1, h2⟩
  · obtain ⟨its, r1, l1, _⟩ := I.list h1
    obtain ⟨jts, r2, l2, _⟩ := I.list h2
    have e1 := r1.length
    have e2 := r2.length
    have := SeqAt.RcNeAt.lists (A := X.A) (e := fun _ => true) l1.isList l2.isList (by simp; omega) (by omega) (fun j q1 q2 => deq_eqAt I n X.A.in1 _ _ _ _ (in1_units hu) (he j (by simp at q1; omega)) (vals_at r1 j q1) (vals_at r2 j q2))
    rw [show (List.range its.toArray.size).all (fun _ => true) = true from List.all_eq_true.mpr fun _ _ => rfl] at this
    exact this X.prog X.w _ _ ⟨.bl false, H, I, rfl, q⟩
  · obtain ⟨its, r1, l1, _⟩ := I.tuple h1
    obtain ⟨jts, r2, l2, _⟩ := I.tuple h2
    have e1 := r1.length
    have e2 := r2.length
    have := SeqAt.RcNeAt.tuples (A := X.A) (e := fun _ => true) l1 l2 (by omega) (fun j q1 q2 => deq_eqAt I n X.A.in1 _ _ _ _ (in1_units hu) (he j (by simp at q1; omega)) (vals_at r1 j q1) (vals_at r2 j q2))
    rw [show (List.range (min its.toArray.size jts.toArray.size)).all (fun _ => true) = true from List.all_eq_true.mpr fun _ _ => rfl, Bool.true_and, beq_iff_eq.mpr (by simp; omega)] at this
    exact this X.prog X.w _ _ ⟨.bl false, H, I, rfl, q⟩
end L2
namespace L2
open PySem PyProof.Rows PySem.Spec PySem.Calls
theorem hu_n {A : Around} {k : Nat} (hr : Room k A) (n : Nat) (h : n ≤ 60) : A.units + (n + 1) < cLine := Nat.lt_of_le_of_lt (Nat.add_le_add_left (by omega : n + 1 ≤ 64) _) hr.units
end L2
namespace L2
open PySem PyProof.Rows PySem.Spec PySem.Calls
def inSt2 (frees : List (Str × Nat)) (σ : St) (x y : Option V) : St := x :: y :: frees.map fun p => (σ[p.2]?).join
def CompB2 (K : PySem.W.Frag) (J : It) (tc : TT) (te : TE) (σf : Option V → Option V → St) (H1 : Hp) (Q : VK) : Prop := ∀ D, H1 D = none →
  ∃ W : Nat → Nat → List V → Hp → Prop, (∃ m, W 0 m [] (upd H1 D (.lst []))) ∧ ∀ i m ys H2, W i m ys H2 → H2 D = some (.lst ys) ∧
    ((J.stop i H2 ∧ Q (.ref D) H2) ∨ (J.go i H2 ∧ ys.length < sizeLine ∧ ∀ z H3, J.yld i H2 z H3 → ∃ a x x2, z = .ref a ∧ SqT K H3 a [x, x2] ∧ tc (σf (some x) (some x2)) H3 fun b H4 =>
      if b = true then te (σf (some x) (some x2)) H4 fun y H5 => H5 D = some (.lst ys) ∧ ∃ m', m' < m ∧ W (i + 1) m' (ys ++ [y]) (upd H5 D (.lst (ys ++ [y]))) else ∃ m', m' < m ∧ W (i + 1) m' ys H4))
section
variable {X : Cx} {elt iter : Expr} {x x2 : Str} {px px2 tp pos : Pos} {kk : Nat} {ifs : List Expr} {scope : Scope} {frees : List (Str × Nat)} {tc : TT} {te : TE}
structure CompOk2 (X : Cx) (scope : Scope) (x x2 : Str) (frees : List (Str × Nat)) : Prop where
  cell : ∀ y ∈ scope.names, y.2 ≠ .cell
  kind : scope.kind = .function
  own : scope.names.lookup x = some .local
  own2 : scope.names.lookup x2 = some .local
  names : ∀ y ∈ scope.names, y.2 = .local → scope.names.lookup y.1 = some .local
  fr : FreesOk X scope frees
  nd : (x :: x2 :: frees.map (·.1)).Nodup
  cl : ∀ p ∈ scope.names, p.2 = .free → (X.env.cells.lookup p.1).isSome = true
  calm : X.calm = true
theorem comp_core2 {pins : List (Addr × Obj)} {σ : St} {H1 : Hp} {s₂ : Shared} {it : Addr} {fp : List Addr} {tn : Nat → Heap → Prop} {J : It} {Q : VK} {RR : Value → Addr → Result → Shared → Prop} {E : Value → Shared → Prop}
    (O : CompOk2 X scope x x2 frees) (hc : ∀ C ex s₂ H₂, PIfs (compCx X scope (x :: x2 :: frees.map (·.1)) C ex s₂ H₂) ifs tc) (he : ∀ C ex s₂ H₂, PE (compCx X scope (x :: x2 :: frees.map (·.1)) C ex s₂ H₂) elt te)
    (I : Inv X pins σ H1 s₂) (T : Turn X.prog X.w X.K (.Tuple [.Name x px, .Name x2 px2] kk tp) J fp it tn) (st : tn 0 s₂.heap) (hf : ∀ b ∈ fp, FpOk X pins H1 b) (hB : CompB2 X.K J tc te (inSt2 frees σ) H1 Q)
    (hRR : ∀ D C H' s', Inv X pins σ H' s' → (∃ m, s'.heap.Ns C m) → FpOk X pins H' C → Q (.ref D) H' → RR (.ref D) C (.ok .next) s') :
    wpAny (model X.prog X.w) X.A (newList []) (fun acc s₃ => wpAny (model X.prog X.w) X.A (newFunctionEnv scope X.env.globals (closOf X.env.cells scope.names []) [] X.env.qual none .none (some X.env)) (fun cenv s₄ =>
      codeAny (model X.prog X.w) X.A (.compStart (.ListComp elt [⟨.Tuple [.Name x px, .Name x2 px2] kk tp, iter, ifs, 0⟩] scope pos) 0 (.ref it) acc { cenv with scope := relabel scope X.env }) (RR acc cenv.locals) s₄) E s₃) E s₂ := by
  refine wpAny_newObj_type (wpAny_newFunctionEnv O.cell (by intro y hy; simp at hy) (fun h₁ hns₁ hsb₁ => ?_) O.kind)
  dsimp only at hns₁ hsb₁ ⊢
  generalize hH2 : s₂.heap.push { cls := .type "list", dict := none, data := .seq ([] : List Value).toArray } = H2 at hns₁ hsb₁ ⊢
  have hC : H2.objs.size = s₂.heap.objs.size + 1 := by rw [← hH2, Heap.size_push]
  have hDC : s₂.heap.objs.size ≠ H2.objs.size := by rw [hC]; exact Nat.ne_of_lt (Nat.lt_succ_self _)
  have hCle : s₂.heap.objs.size ≤ H2.objs.size := by rw [hC]; exact Nat.le_succ _
  have below : ∀ b, b < s₂.heap.objs.size → b ≠ H2.objs.size ∧ b ≠ s₂.heap.objs.size := fun b hb => ⟨by rw [hC]; exact Nat.ne_of_lt (Nat.lt_succ_of_lt hb), Nat.ne_of_lt hb⟩
  have old : ∀ b o, s₂.heap.get? b = some o → h₁.get? b = some o := fun b o e => hsb₁.extBut b o (below b (Heap.lt_size e)).1 (Heap.get?_push_of_some _ (hH2 ▸ Heap.get?_push_of_some _ e))
  have hacc : h₁.get? s₂.heap.objs.size = some { cls := .type "list", data := .seq ([] : List Value).toArray } := hsb₁.extBut _ _ hDC (Heap.get?_push_of_some _ (hH2 ▸ Heap.get?_push_size _ rfl))
  have nD : H1 s₂.heap.objs.size = none := I.hok.fresh (Nat.le_refl _)
  obtain ⟨W, ⟨m0, w0⟩, hW⟩ := hB s₂.heap.objs.size nD
  -- the block's context and its first state
  let X' : Cx := compCx X scope (x :: x2 :: frees.map (·.1)) H2.objs.size fp s₂ H1
  have inC : ∀ y c, (closOf X.env.cells scope.names []).lookup y = some c → X.env.cells.lookup y = some c := fun y c h => closOf_in scope.names [] O.cl (fun y c h => by cases h) h
  have fpl : ∀ b ∈ fp, b < s₂.heap.objs.size := fun b hb => by
    obtain ⟨o, e, _⟩ := T.obj _ _ st b hb
    exact Heap.lt_size e
  have ok' : X'.Ok := by
    refine ⟨I.ok.mod, O.kind, I.ok.glob, I.ok.blt, hCle, fun y z c h1 h2 => I.ok.inj y z c (inC y c h1) (inC z c h2), fun y hy => ?_, fun y c h _ => (by cases h), I.ok.hd, I.ok.frames, .inl rfl, fun b hb => ?_, I.bs, Nat.le_trans I.ok.bsz I.sz, fun b o e hb => ?_, fun b hb z => ?_, I.stack, I.stkFree⟩
    · exact Option.isSome_iff_exists.mp (closOf_has scope.names [] (.inr (relabel_free O.cell hy)))
    · exact ⟨(below b (fpl b hb)).1, fun y c h => (hf b hb).2.2.2.2.1 y c (inC y c h)⟩
    · rcases (hf b hb).2.2.2.1 with z | z
      · exact I.ok.noex b o e z
      · exact absurd (Nat.lt_of_lt_of_le (Nat.lt_of_lt_of_le (Heap.lt_size e) I.ok.bsz) z) (Nat.lt_irrefl _)
    · exact (List.mem_cons.mp (I.stkSub b z)).elim (hf b hb).2.1 (hf b hb).2.2.1
  have hok1 : HOk X.prog X.w (upd H1 s₂.heap.objs.size (.lst [])) h₁ := I.hok.laid old (Nat.le_refl _) ⟨Nat.zero_le _, [], 0, .nil, hacc⟩
  have I0 : ∀ tk, Inv X' [] (inSt2 frees σ none none) (upd H1 s₂.heap.objs.size (.lst [])) { s₂ with heap := h₁, toks := tk } := fun tk => by
    refine ⟨ok', rfl, I.bare, Un.laid old (Nat.le_refl _) nD, ⟨_, hns₁, fun i y v h1 h2 h3 => ?_⟩, fun y c h => ?_, ?_, fun y c h => ?_, fun p hp => absurd (show p ∈ ([] : List (Addr × Obj)) from hp) (by simp), hok1, ?_⟩
    · cases i with
      | zero =>
        have h2' : (none : Option V) = some v := Option.some.inj h2
        cases h2'
      | succ i =>
      cases i with
      | zero =>
        have h2' : (none : Option V) = some v := Option.some.inj h2
        cases h2'
      | succ j =>
        have h1' : (frees.map (·.1))[j]? = some y := h1
        have h2' : (frees.map fun p => (σ[p.2]?).join)[j]? = some (some v) := h2
        rw [List.getElem?_map] at h1' h2'
        cases e : frees[j]? with
        | none => rw [e] at h1'; cases h1'
        | some p =>
          rw [e] at h1' h2'
          have e1 : p.1 = y := Option.some.inj h1'
          have e2 : (σ[p.2]?).join = some v := Option.some.inj h2'
          obtain ⟨g1, g2, g3, g4⟩ := O.fr.at p (List.mem_of_getElem? e)
          have e3 : σ[p.2]? = some (some v) := by
            cases q : σ[p.2]? with
            | none => rw [q] at e2; cases e2
            | some o => rw [q] at e2; exact congrArg some e2
          obtain ⟨m, hn, hl⟩ := I.loc
          obtain ⟨u, r, l⟩ := hl p.2 p.1 v g1 e3 (.inr (.inl g2))
          refine ⟨u, r, ?_⟩
          rcases l with ⟨k, _⟩ | ⟨_, c, hc1, hc2⟩
          · rw [g2] at k; cases k
          · obtain ⟨c2, hc3⟩ := Option.isSome_iff_exists.mp (closOf_has (cells := X.env.cells) scope.names [] (.inr g4))
            have hc4 := inC _ _ hc3
            rw [hc1] at hc4
            cases hc4
            rw [← e1]
            refine .inr ⟨.inl g3, c, hc3, ?_⟩
            obtain ⟨o, ho, hd⟩ := hc2
            exact ⟨o, old c o ho, hd⟩
    · obtain ⟨v, o, ho, hd⟩ := I.cell y c (inC y c h)
      exact ⟨v, o, old c o ho, hd⟩
    · show upd H1 s₂.heap.objs.size (.lst []) H2.objs.size = none
      rw [upd_ne (Ne.symm hDC)]
      exact I.hok.fresh hCle
    · obtain ⟨v, o, ho, hd⟩ := I.cell y c (inC y c h)
      rw [upd_ne (below c (Heap.lt_size ho)).2]
      exact I.freeC y c (inC y c h)
    · show (inSt2 frees σ none none).length = (x :: x2 :: frees.map (·.1)).length
      simp [inSt2]
  have stat : ∀ {H' : Hp}, (∀ b ∈ fp, H' b = none) → ∀ b ∈ fp, FpOk X' [] H' b := fun hn b hb =>
    ⟨hn b hb, (below b (fpl b hb)).1, fun z => (List.mem_cons.mp (I.stkSub b z)).elim (hf b hb).2.1 (hf b hb).2.2.1, .inl hb, fun y c h => (hf b hb).2.2.2.2.1 y c (inC y c h), fun p hp => absurd (show p ∈ ([] : List (Addr × Obj)) from hp) (by simp)⟩
  have hst₁ : tn 0 h₁ := T.keep _ _ _ st fun b _ o e => old b o e
  have fr0 : ∀ b ∈ fp, (upd H1 s₂.heap.objs.size (.lst [])) b = none := fun b hb => by
    rw [upd_ne (below b (fpl b hb)).2]
    exact (hf b hb).1
  have loop : ∀ tk, codeAny (model X.prog X.w) X.A (.compLoop (.ListComp elt [⟨.Tuple [.Name x px, .Name x2 px2] kk tp, iter, ifs, 0⟩] scope pos) 0 (.ref it) (.ref s₂.heap.objs.size) X'.env) (RR (.ref s₂.heap.objs.size) H2.objs.size) { s₂ with heap := h₁, toks := tk } := fun tk => by
    refine comp_loop (fun n s' => ∃ i ys o o' H', Inv X' [] (inSt2 frees σ o o') H' s' ∧ tn i s'.heap ∧ (∀ b ∈ fp, H' b = none) ∧ W i n ys H') ?_ m0 ⟨0, [], none, none, _, I0 tk, hst₁, fr0, w0⟩
    rintro n s3 ⟨i, ys, o3, o4, H3, I3, st3, fr3, w3⟩
    obtain ⟨hD3, alt⟩ := hW i n ys H3 w3
    rcases alt with ⟨stop, q⟩ | ⟨go, hlt, step⟩
    · refine thn (T.done X' rfl rfl rfl O.calm i [] s3 _ H3 _ I3 (stat fr3) st3 stop) fun r s4 ⟨hr, I4⟩ => ?_
      subst hr
      have J4 : Inv X pins σ H3 s4 := I.call' (ch := fp) I4.os I4.base I4.hok I4.bare fun b hb => ⟨(hf b hb).2.2.2.1, (hf b hb).2.1, (hf b hb).2.2.2.2.1, (hf b hb).2.2.2.2.2⟩
      obtain ⟨m4, hn4, _⟩ := I4.loc
      exact hRR _ _ H3 s4 J4 ⟨m4, hn4⟩ (I.fpOk hCle I4.free) q
    · refine thn (T.item X' rfl rfl rfl O.calm i [] s3 _ H3 _ I3 (stat fr3) st3 go) fun r s4 ⟨u, hr, h4⟩ => ?_
      subst hr
      refine thn h4 fun _ s5 ⟨v, H5, I5, r5, y5, st5, fr5⟩ => ?_
      have I5' := I5.pinned (stat fr5) (T.obj _ _ st5)
      have tail : ∀ {σ7 : St} {H7 : Hp} {s7 : Shared}, Inv X' ([] ++ pinsAt fp s5.heap) σ7 H7 s7 → Inv X' [] σ7 H7 s7 ∧ tn (i + 1) s7.heap ∧ ∀ b ∈ fp, H7 b = none := fun {σ7 H7 s7} I7 => by
        refine ⟨I7.unpinned, T.keep _ _ _ st5 fun b hb o e => (I7.pin (b, o) (List.mem_append_right _ (List.mem_append_right _ (mem_pinsAt hb e)))).1, fun b hb => ?_⟩
        obtain ⟨o, e, d⟩ := T.obj _ _ st5 b hb
        exact (I7.pin (b, o) (List.mem_append_right _ (List.mem_append_right _ (mem_pinsAt hb e)))).2.1
      have g0 : PG X' (.Name x px) (gName 0) := pg_name O.nd rfl (Or.inl (lookup_relabel_local O.own)) (.inr (lookup_relabel_local O.own))
      have g1 : PG X' (.Name x2 px2) (gName 1) := pg_name O.nd rfl (Or.inl (lookup_relabel_local O.own2)) (.inr (lookup_relabel_local O.own2))
      have hg : PG X' (.Tuple [.Name x px, .Name x2 px2] kk tp) (gTup X'.K 2 (gCons (gName 0) (gCons (gName 1) gNil))) := pg_tup O.calm (pgs_cons g0 (pgs_cons g1 pgs_nil))
      obtain ⟨va, v1, v2, ev, sq, step'⟩ := step v _ y5
      refine thn (hg _ s5 _ H5 v u (fun σ6 H6 => σ6 = inSt2 frees σ (some v1) (some v2) ∧ H6 = H5) I5' r5 ⟨va, [v1, v2], ev, sq, rfl, v1, [v2], rfl, v2, [], rfl, rfl, rfl, rfl⟩) fun _ s6 ⟨σ6, H6, I6, e6, e6'⟩ => ?_
      subst e6 e6'
      refine thn (hc _ _ _ _ _ s6 _ _ _ I6 step') fun b s7 ⟨H7, I7, q7⟩ => ?_
      cases b with
      | false =>
        obtain ⟨m', hm, w7⟩ := (show ∃ m', m' < n ∧ W (i + 1) m' ys H7 from q7)
        obtain ⟨t1, t2, t3⟩ := tail I7
        exact ⟨m', hm, i + 1, ys, some v1, some v2, H7, t1, t2, t3, w7⟩
      | true =>
        refine thn (he _ _ _ _ _ s7 _ _ _ I7 q7) fun y s8 ⟨y', H8, I8, r8, hD8, m', hm, w8⟩ => ?_
        refine thn (mt_append (X := X') _ s8 _ H8 (.ref s₂.heap.objs.size) [y'] _ [y] (fun _ H9 => H9 = upd H8 s₂.heap.objs.size (.lst (ys ++ [y']))) I8 rfl (.cons r8 .nil) ⟨_, _, _, rfl, rfl, hD8, hlt, rfl⟩) fun _ s9 ⟨_, H9, I9, _, e9⟩ => ?_
        subst e9
        obtain ⟨t1, t2, t3⟩ := tail I9
        exact ⟨m', hm, i + 1, ys ++ [y'], some v1, some v2, _, t1, t2, t3, w8⟩
  exact codeAny_compStart_list (loop _) (T.self _ 0 _ _ _ hst₁ (loop _))
def tComp2 (K : PySem.W.Frag) (frees : List (Str × Nat)) (tc : TT) (te : TE) (wi : TI) : TE := fun σ H Q => wi σ H fun J H1 => CompB2 K J tc te (inSt2 frees σ) H1 Q
theorem ps_comp2 {wi : TI} {i : Nat} {y : Str} {py spos : Pos} (O : CompOk2 X scope x x2 frees) (hN : X.N.Nodup) (hiy : X.N[i]? = some y) (hy : X.env.kindOf y = some .local) (hsw : swapsWith (.ListComp elt [⟨.Tuple [.Name x px, .Name x2 px2] kk tp, iter, ifs, 0⟩] scope pos) (some (.Name y py)) spos.line X.env = pure true)
    (hi : PI X (.Tuple [.Name x px, .Name x2 px2] kk tp) iter wi) (hc : ∀ C ex s₂ H₂, PIfs (compCx X scope (x :: x2 :: frees.map (·.1)) C ex s₂ H₂) ifs tc) (he : ∀ C ex s₂ H₂, PE (compCx X scope (x :: x2 :: frees.map (·.1)) C ex s₂ H₂) elt te)
    (hs : ∀ x, foldedSetIterable iter X.env x = pure x := by intro _; rfl) : PS X (.Assign [.Name y py] (.ListComp elt [⟨.Tuple [.Name x px, .Name x2 px2] kk tp, iter, ifs, 0⟩] scope pos) spos) (tAsg (tComp2 X.K frees tc te wi) (gName i)) := by
  intro pins s σ H D I h
  rw [exec_Assign_Name_used _ _ _ _ hsw]
  refine wpAny_bind (wpAny_standAt (wpAny_bind ?_))
  show wpAny _ X.A (do let _ ← comprehension (.ListComp elt [⟨.Tuple [.Name x px, .Name x2 px2] kk tp, iter, ifs, 0⟩] scope pos) scope X.env _ (newList []) false (eval iter X.env) (some (assign (.Name y py) X.env))) _ _ s
  refine wpAny_bind (wpAny_mono (wpAny_comprehension_free (use := some (assign (.Name y py) X.env)) (Q := fun _ s' => SP X pins D .next s') rfl hs (closureFor_of O.cl) O.kind O.names
    (thn (hi pins s σ H _ I h) fun xv s₁ h₁ => thn h₁ fun itv s₂ h₂ => ?_)) (fun _ s' hq => wpAny_pure (wpAny_pure hq)) fun _ _ e => e)
  obtain ⟨it, fp, tn, J, H2, e, I2, T, st2, f2, hB⟩ := h₂
  subst e
  refine comp_core2 (RR := fun acc C => compPost (model X.prog X.w) X.A X.xe (some (assign (.Name y py) X.env)) (fun _ s' => SP X pins D .next s') acc C) O hc he I2 T st2 f2 hB ?_
  intro A C H' s' I' hn hC q
  obtain ⟨m, hn⟩ := hn
  obtain ⟨oC, es, ep, hoC, hdC, hr⟩ := id hn
  have I'' : Inv X (pins ++ [(C, oC)]) σ H' s' := I'.pins_of fun p hp => (List.mem_append.mp hp).elim (fun z => I'.pin p (List.mem_append_right _ z)) fun z => by
    rw [List.mem_singleton.mp z]
    exact ⟨hoC, hC.1, hC.2.1, hC.2.2.1, fun v e => by rw [hdC] at e; cases e⟩
  show wpAny _ X.A (assign (.Name y py) X.env (.ref A)) _ _ _
  refine wpAny_assign_Name (store_ok I'' hN hiy (.inl hy) (v := .ref A) rfl (fun s3 I3 => ?_) (.inr hy))
  have hC3 := (I3.pin (C, oC) (List.mem_append_right _ (List.mem_append_right _ (List.mem_singleton.mpr rfl)))).1
  have J3 : Inv X pins (σ.set i (some (.ref A))) H' s3 := I3.unpinned
  refine ⟨m, ⟨oC, es, ep, hC3, hdC, hr⟩, fun h' hs' => ?_⟩
  exact ⟨_, H', J3.turned (t' := s3.toks) (fun b o hb e => hs'.extBut b o hb e) hC.1 hC.2.1 hC.2.2.2.1 hC.2.2.2.2.1 hC.2.2.2.2.2, q⟩
end
end L2
namespace L2
open PySem PySem.Spec PyProof.Rows
def rngV (i : Int) (n : Nat) : List V := (List.range n).map fun k => V.int (i + (k : Nat))
theorem vals_of : ∀ {xs : List V} {us : List Value}, xs.length = us.length → (∀ (k : Nat) x u, xs[k]? = some x → us[k]? = some u → RelV x u) → Vals xs us
  | [], [], _, _ => .nil
  | x :: xs, u :: us, e, h => .cons (h 0 x u rfl rfl) (vals_of (Nat.succ.inj e) fun k y w h1 h2 => h (k + 1) y w h1 h2)
  | [], _ :: _, e, _ => nomatch e
  | _ :: _, [], e, _ => nomatch e
section
variable {X : Cx}
def tListRange (ta : TA) : TE := fun σ H Q => ta σ H fun vs H1 => ∃ i j : Int, vs = [.int i, .int j] ∧ (-(2 ^ 62) ≤ i ∧ i < 2 ^ 62 ∧ -(2 ^ 62) ≤ j ∧ j < 2 ^ 62) ∧ (j - i).toNat ≤ sizeLine ∧ (j - i).toNat ≤ 2 ^ 24 ∧ ∀ l, H1 l = none → Q (.ref l) (upd H1 l (.lst (rngV i (j - i).toNat)))
end
end L2
namespace L2
open PySem PySem.Spec PyProof.Rows
def rListOf (K : PySem.W.Frag) : List V → Hp → VK → Prop := fun xs H Q => ∃ p ys, xs = [.ref p] ∧ (SqL K H p ys ∨ SqT K H p ys) ∧ ∀ l, H l = none → Q (.ref l) (upd H l (.lst ys))
theorem call_list_ofK {X : Cx} {K : PySem.W.Frag} (h : X.K = K) : CallR X (.type "list") (rListOf K) := h ▸ call_list_of
end L2
namespace PySem
open Sem (wp)
end PySem
namespace PySem
open Sem (wp)
section
variable {prog : Program} {w : World} {K : Type} [DecidableEq K] {knd : KeyKind prog w K} {A : Around} {R : Result → Shared → Prop}
def putAll (ps : List (K × Value)) : List (K × Value) := ps.foldl (fun acc p => stored acc p.1 p.2) []
end
end PySem
namespace L2
open PySem PySem.Spec PyProof.Rows
def rDictPairs (K : PySem.W.Frag) : List V → Hp → VK → Prop := fun xs H Q => ∃ p ts kvs, xs = [.ref p] ∧ H p = some (.lst ts) ∧ ts.length = kvs.length ∧ (∀ (i : Nat) y (q : Key × V), ts[i]? = some y → kvs[i]? = some q → ∃ t, y = .ref t ∧ SqT K H t [kV q.1, q.2]) ∧ (kvs.map (·.1)).Nodup ∧
  ∀ d, H d = none → Q (.ref d) (upd H d (.dK kvs))
def rDictOf : List V → Hp → VK → Prop := fun xs H Q => ∃ a kvs, xs = [.ref a] ∧ Rd H a (.dK kvs) ∧ ∀ d, H d = none → Q (.ref d) (upd H d (.dK kvs))
end L2
namespace L2
open PySem PyProof.Rows PySem.Spec PySem.Calls
section
variable {X : Cx}
def rGetL : V → V → Hp → VK → Prop := fun o i H Q => ∃ p xs k, o = .ref p ∧ i = .int k ∧ H p = some (.lst xs) ∧ 0 ≤ k ∧ k < ((xs.length : Nat) : Int) ∧ ∀ v, xs[k.toNat]? = some v → Q v H
def rEqT (K : PySem.W.Frag) (neg : Bool) : R2 := fun x y H Q => ∃ p q xs ys, x = .ref p ∧ y = .ref q ∧ SqT K H p xs ∧ SqT K H q ys ∧ xs.length = ys.length ∧ xs.all flatV = true ∧ ys.all flatV = true ∧ Q (.bl (if neg then !eqVs xs ys else eqVs xs ys)) H
end
end L2
namespace L2
open PySem PySem.Spec PyProof.Rows
section
variable {X : Cx}
def tPl (K : PySem.W.Frag) (B : Addr) (ts : TS) (tr : TH) : TH := fun D σ H C ea => PySem.W.excMk K C = true ∧ PySem.W.excMk K B = true ∧ ∃ b, PySem.W.mroHas K C (.ref B) = b ∧ if b = true then ts D σ H else tr D σ H C ea
end
end L2
namespace L2
open PySem PyProof.Rows PySem.Spec PySem.Calls
section
variable {X : Cx}
def rNeS (K : PySem.W.Frag) : R2 := fun x y H Q => (∃ a i xs, x = .ref a ∧ y = .str i ∧ (SqL K H a xs ∨ SqT K H a xs) ∧ Q (.bl true) H) ∨ rNe x y H Q
end
end L2
namespace L2
open PySem PySem.Spec PyProof.Rows
end L2
namespace L2
open PySem PySem.Spec PyProof.Rows
section
variable {X : Cx}
def rListDict : List V → Hp → VK → Prop := fun xs H Q => ∃ p kvs, xs = [.ref p] ∧ H p = some (.dK kvs) ∧ ∀ l, H l = none → Q (.ref l) (upd H l (.lst (kvs.map fun q => kV q.1)))
end
end L2
namespace L2
open PySem PySem.Spec PyProof.Rows
section
variable {X : Cx}
def rSortedL (K : PySem.W.Frag) : List V → Hp → VK → Prop := fun xs H Q => ∃ p ss, xs = [.ref p] ∧ SqL K H p (ss.map V.str) ∧ ss.length < 64 ∧ ∀ l ss', H l = none → List.Perm ss' ss → sortedS ss' = true → Q (.ref l) (upd H l (.lst (ss'.map V.str)))
end
end L2
namespace L2
open PySem PySem.Calls PyProof.Rows PyProof.V PySem.Spec PySem.W
end L2
namespace L2
open PySem PySem.Spec PyProof.Rows
section
variable {X : Cx}
def rCount : V → List V → Hp → VK → Prop := fun x vs H Q => ∃ l xs y, x = .ref l ∧ vs = [y] ∧ H l = some (.lst xs) ∧ xs.all flatV = true ∧ flatV y = true ∧ Q (.int ((xs.countP fun z => eqV z y : Nat) : Int)) H
def rSortedD : List V → Hp → VK → Prop := fun xs H Q => ∃ p kvs ss, xs = [.ref p] ∧ H p = some (.dK kvs) ∧ kvs.map (fun q => kV q.1) = ss.map V.str ∧ ss.length < 64 ∧ ∀ l ss', H l = none → List.Perm ss' ss → sortedS ss' = true → Q (.ref l) (upd H l (.lst (ss'.map V.str)))
end
end L2
namespace L2
open PySem PySem.Spec PyProof.Rows
section
variable {X : Cx}
def rSIndex : V → List V → Hp → VK → Prop := fun x vs H Q => ∃ z y i rest, x = .str z ∧ vs = [.str y] ∧ Builtin.Str.occurrences z y 0 z.length 1 = i :: rest ∧ Q (.int ((i : Nat) : Int)) H
end
end L2
namespace L2
open PySem PyProof.Rows PySem.Spec PySem.Calls
section
variable {X : Cx}
def rSetD : V → List V → Hp → VK → Prop := fun x vs H Q => ∃ d kvs k y, x = .ref d ∧ vs = [kV k, y] ∧ H d = some (.dK kvs) ∧ kvs.length < 1000 ∧ (∀ u, valV kvs k = some u → Q u H) ∧ (valV kvs k = none → Q y (upd H d (.dK (kvs ++ [(k, y)]))))
def hasD (kb : List (Key × V)) (p : Key × V) : Bool := match valV kb p.1 with
  | some y => eqV p.2 y
  | none => false
def eqD (ka kb : List (Key × V)) : Bool := ka.length == kb.length && ka.all (hasD kb)
def rEqDk (neg : Bool) : R2 := fun x y H Q => ∃ a b ka kb, x = .ref a ∧ y = .ref b ∧ H a = some (.dK ka) ∧ H b = some (.dK kb) ∧ (∀ p ∈ ka, flatV p.2 = true) ∧ (∀ p ∈ kb, flatV p.2 = true) ∧ Q (.bl (if neg then !eqD ka kb else eqD ka kb)) H
def pickV (xs : List V) (lo hi st : Option Int) : List V := (sliceRange (sliceBounds lo hi st xs.length).1 (sliceBounds lo hi st xs.length).2.1 (sliceBounds lo hi st xs.length).2.2).filterMap (xs[·]?)
def tSl3 (K : PySem.W.Frag) (te : TE) (tl th ts : TO) : TE := fun σ H Q => te σ H fun x H1 => tl σ H1 fun l H2 => th σ H2 fun u H3 => ts σ H3 fun c H4 => ∃ a xs, x = .ref a ∧ SqL K H4 a xs ∧ c ≠ some 0 ∧ ∀ p, H4 p = none → Q (.ref p) (upd H4 p (.lst (pickV xs l u c)))
def thirds (n : Nat) : List Nat := (List.range n).filter fun k => k % 3 == 1
end
end L2
namespace L2
open PySem PyProof.Rows PySem.Spec PySem.Calls
def KW (v d : Addr) : HO := .ext fun h => PySem.W.KdlKeysView h v d
def VW (v d : Addr) : HO := .ext fun h => h.IsValuesView v d
section
variable {X : Cx}
def rKeys : V → List V → Hp → VK → Prop := fun x vs H Q => ∃ d kvs, x = .ref d ∧ vs = [] ∧ H d = some (.dK kvs) ∧ ∀ v, H v = none → Q (.ref v) (upd H v (KW v d))
def rListKeys : List V → Hp → VK → Prop := fun xs H Q => ∃ v d kvs, xs = [.ref v] ∧ H v = some (KW v d) ∧ H d = some (.dK kvs) ∧ ∀ l, H l = none → Q (.ref l) (upd H l (.lst (kvs.map fun q => kV q.1)))
def rValues : V → List V → Hp → VK → Prop := fun x vs H Q => ∃ d kvs, x = .ref d ∧ vs = [] ∧ H d = some (.dK kvs) ∧ ∀ v, H v = none → Q (.ref v) (upd H v (VW v d))
def rListVals : List V → Hp → VK → Prop := fun xs H Q => ∃ v d kvs, xs = [.ref v] ∧ H v = some (VW v d) ∧ H d = some (.dK kvs) ∧ ∀ l, H l = none → Q (.ref l) (upd H l (.lst (kvs.map fun q => q.2)))
end
end L2
namespace L2
open PySem PyProof.Rows PySem.Spec PySem.Calls
def IW (v d : Addr) : HO := .ext fun h => h.IsItemsView v d
def Itm (d : Addr) (o : Obj) (kvs : List (Key × V)) : It :=
  ⟨fun i H => H d = some (.frz o (.dK kvs)) ∧ i < kvs.length, fun i H x H' => ∃ p k v, x = .ref p ∧ H p = none ∧ H' = upd H p (.tup [kV k, v]) ∧ kvs[i]? = some (k, v), fun i H => H d = some (.frz o (.dK kvs)) ∧ kvs.length = i⟩
section
variable {X : Cx} {elts : List Expr} {x1 : Nat} {tpos : Pos}
def rItems : V → List V → Hp → VK → Prop := fun x vs H Q => ∃ d o kvs, x = .ref d ∧ vs = [] ∧ H d = some (.frz o (.dK kvs)) ∧ ∀ v, H v = none → Q (.ref v) (upd H v (IW v d))
def iItems (tl : TE) : TI := fun σ H R => tl σ H fun x H1 => ∃ v d o kvs, x = .ref v ∧ H1 v = some (IW v d) ∧ H1 d = some (.frz o (.dK kvs)) ∧ R (Itm d o kvs) H1
end
end L2
namespace L2
open PySem PyProof.Rows PySem.Spec PySem.Calls
def DeqD (H : Hp) (x y : V) : Prop := (x = y ∧ flatV x = true) ∨ ∃ a b ka kb, x = .ref a ∧ y = .ref b ∧ H a = some (.dK ka) ∧ H b = some (.dK kb) ∧ (∀ p ∈ ka, flatV p.2 = true) ∧ (∀ p ∈ kb, flatV p.2 = true) ∧ eqD ka kb = true
def rTd (K : PySem.W.Frag) : R2 := fun x y H Q => ∃ a c xs ys, x = .ref a ∧ y = .ref c ∧ SqT K H a xs ∧ SqT K H c ys ∧ xs.length = ys.length ∧ (∀ j, j < xs.length → DeqD H (xs.getD j .non) (ys.getD j .non)) ∧ Q (.bl true) H
end L2
namespace L2
open PySem PyProof.Rows PySem.Spec PySem.Calls
section
variable {X : Cx}
def tItems0 (to : TE) : TE := fun σ H Q => to σ H fun x H1 => rItems x [] H1 Q
end
end L2
namespace L2
open PySem PyProof.Rows PySem.Spec PySem.Calls
def DeqB (K : PySem.W.Frag) (H : Hp) : Nat → V → V → Bool → Prop
  | 0, x, y, b => flatV x = true ∧ flatV y = true ∧ b = eqV x y
  | n + 1, x, y, b => (flatV x = true ∧ flatV y = true ∧ b = eqV x y) ∨ ∃ a c xs ys, x = .ref a ∧ y = .ref c ∧ (a = c → b = true) ∧ ((SqL K H a xs ∧ SqL K H c ys) ∨ (SqT K H a xs ∧ SqT K H c ys)) ∧ xs.length = ys.length ∧ ∃ e : Nat → Bool, (∀ j, j < xs.length → DeqB K H n (xs.getD j .non) (ys.getD j .non) (e j)) ∧ b = (List.range xs.length).all e
def rDb (K : PySem.W.Frag) (n : Nat) (neg : Bool) : R2 := fun x y H Q => ∃ a c xs ys, x = .ref a ∧ y = .ref c ∧ ((SqL K H a xs ∧ SqL K H c ys ∧ xs.length ≠ ys.length ∧ Q (.bl neg) H) ∨
  (((SqL K H a xs ∧ SqL K H c ys) ∨ (SqT K H a xs ∧ SqT K H c ys)) ∧ xs.length = ys.length ∧ ∃ e : Nat → Bool, (∀ j, j < xs.length → DeqB K H n (xs.getD j .non) (ys.getD j .non) (e j)) ∧ Q (.bl (if neg then !(List.range xs.length).all e else (List.range xs.length).all e)) H))
def rNeLd (K : PySem.W.Frag) : R2 := fun x y H Q => ∃ a c xs ys, x = .ref a ∧ y = .ref c ∧ SqL K H a xs ∧ SqL K H c ys ∧ xs.length = ys.length ∧ (∀ j, j < xs.length → Deq K H 2 (xs.getD j .non) (ys.getD j .non) ∨ DeqD H (xs.getD j .non) (ys.getD j .non)) ∧ Q (.bl false) H
theorem compB_inv {J : It} {tc : TT} {te : TE} {σf : Option V → St} {H1 : Hp} {Q : VK} {xs : List V} (S : Seq J H1 xs) (Pv : Addr → Nat → List V → Hp → Prop) (hz : xs.length < sizeLine)
    (h0 : ∀ D, H1 D = none → Pv D 0 [] (upd H1 D (.lst [])))
    (hD : ∀ D i ys H, Pv D i ys H → Same H1 H ∧ H D = some (.lst ys) ∧ ys.length ≤ i)
    (hs : ∀ D i x ys H (N : List V → Hp → Prop), xs[i]? = some x → H1 D = none → Pv D i ys H → (∀ ys' H', Pv D (i + 1) ys' H' → N ys' H') → tc (σf (some x)) H fun b H4 => if b = true then te (σf (some x)) H4 fun y H5 => H5 D = some (.lst ys) ∧ N (ys ++ [y]) (upd H5 D (.lst (ys ++ [y]))) else N ys H4)
    (q : ∀ D ys H, H1 D = none → Pv D xs.length ys H → Q (.ref D) H) : CompB J tc te σf H1 Q := by
  intro D hD1
  refine ⟨fun i m ys H2 => m = xs.length - i ∧ i ≤ xs.length ∧ Pv D i ys H2, ⟨xs.length, rfl, Nat.zero_le _, h0 D hD1⟩, ?_⟩
  rintro i m ys H2 ⟨rfl, hi, p⟩
  obtain ⟨d0, d1, d2⟩ := hD D i ys H2 p
  refine ⟨d1, ?_⟩
  by_cases hlt : i < xs.length
  · refine .inr ⟨S.go i H2 d0 hlt, by omega, fun x H3 y => ?_⟩
    obtain ⟨rfl, hx⟩ := S.yld i H2 x H3 d0 hlt y
    exact hs D i x ys _ (fun ys' H' => ∃ m', m' < xs.length - i ∧ (m' = xs.length - (i + 1) ∧ i + 1 ≤ xs.length ∧ Pv D (i + 1) ys' H')) hx hD1 p fun ys' H' z => ⟨xs.length - (i + 1), by omega, rfl, hlt, z⟩
  · have e : i = xs.length := by omega
    subst e
    exact .inl ⟨S.stop H2 d0, q D ys H2 hD1 p⟩
end L2
namespace L2
open PySem PyProof.Rows PySem.Spec PySem.Calls
def cxLam (P : Program) (w : World) (K : PySem.W.Frag) (mg : Str → Option Value) (base : Heap) (x y : Str) (qual : Str) (scope : Scope) (f : Addr) (cd : Value) (cl : List (Str × Addr)) (A : Around) (outer : List Env) (s : Shared) (H : Hp) : Cx where
  prog := P
  w := w
  K := K
  mg := mg
  base := base
  A := A.deeper (PySem.W.envX qual scope s.heap.objs.size f cd cl)
  N := [x, y]
  s₀ := s
  H₀ := H
  env := PySem.W.envX qual scope s.heap.objs.size f cd cl
  outer := outer
  stack := PySem.W.envX qual scope s.heap.objs.size f cd cl :: outer
  ex := []
  fn := fun z => z == x
  calm := true
  pn := []
  xe := fun _ _ => False
structure LamScope (x y : Str) (scope : Scope) : Prop where
  kind : scope.kind = .function
  co : scope.isCoroutine = false
  gen : scope.isGenerator = false
  lx : scope.names.lookup x = some .local
  ly : scope.names.lookup y = some .free
  nocell : ∀ z ∈ scope.names, z.2 ≠ .cell
  one : ∀ z, scope.names.lookup z = some .free → z = y
  ne : x ≠ y
end L2
namespace L2
open PySem PyProof.Rows PySem.Spec PySem.Calls
def lexB (e lt : Nat → Bool) : List Nat → Bool
  | [] => false
  | j :: r => if e j then lexB e lt r else lt j
def ltV (x y : V) : Bool := match x, y with
  | .int i, .int j => decide (i < j)
  | .str i, .str j => decide (i.cps.toList < j.cps.toList)
  | _, _ => false
def OrdV (x y : V) : Prop := (∃ i j, x = .int i ∧ y = .int j) ∨ ∃ i j, x = .str i ∧ y = .str j
def lexV (xs ys : List V) : Bool := lexB (fun j => eqV (xs.getD j .non) (ys.getD j .non)) (fun j => ltV (xs.getD j .non) (ys.getD j .non)) (List.range xs.length)
end L2
namespace L2
open PySem PyProof.Rows PySem.Spec PySem.Calls
section
variable {X : Cx} {pins : List (Addr × Obj)} {σ : St}
structure OwnA (X : Cx) (pins : List (Addr × Obj)) (S : Addr) : Prop where
  h1 : X.s₀.heap.objs.size ≤ S
  h2 : ∀ x c, X.env.cells.lookup x = some c → c ≠ S
  h3 : ∀ p ∈ X.pn ++ pins, p.1 ≠ S
end
end L2
namespace L2
open PySem PyProof.Rows PySem.Spec PySem.Calls
def CD (c : Addr) (qual : Str) : HO := .ext fun h => h.CodeRec (.ref c) qual
def FN (f : Addr) (o : Obj) : HO := .ext fun h => h.get? f = some o
def tab1 (pos : Pos) (c : Addr) : Array Value := #[rawInt pos.line, rawInt pos.col, .ref c]
def TabAt (H : Hp) (P : Addr) (pos : Pos) (qual : Str) (c : Addr) : Prop := H P = some (.tbl (tab1 pos c)) ∧ H c = some (CD c qual)
def TabOk (H : Hp) (P : Addr) (pos : Pos) (qual : Str) : Prop := H P = some (.tbl #[]) ∨ ∃ c, TabAt H P pos qual c
def SameP (P : Addr) (H H' : Hp) : Prop := ∀ b o, b ≠ P → H b = some o → H' b = some o
theorem SameP.refl (P : Addr) (H : Hp) : SameP P H H := fun _ _ _ e => e
theorem SameP.trans {P : Addr} {H H1 H2 : Hp} (a : SameP P H H1) (b : SameP P H1 H2) : SameP P H H2 := fun x o n e => b x o n (a x o n e)
theorem Same.p {P : Addr} {H H' : Hp} (a : Same H H') : SameP P H H' := fun b o _ e => a b o e
theorem TabAt.same {H H' : Hp} {P : Addr} {pos : Pos} {qual : Str} {c : Addr} (t : TabAt H P pos qual c) (s : Same H H') : TabAt H' P pos qual c := ⟨s _ _ t.1, s _ _ t.2⟩
theorem TabOk.same {H H' : Hp} {P : Addr} {pos : Pos} {qual : Str} (t : TabOk H P pos qual) (s : Same H H') : TabOk H' P pos qual := t.imp (s _ _) fun ⟨c, z⟩ => ⟨c, z.same s⟩
def BMain (base : Heap) (mg : Str → Option Value) : Prop := ∃ bm ob, mg "__builtins__" = some (.ref bm) ∧ bm ≠ builtinsNs ∧ base.get? bm = some ob ∧ ob.cls = .type "module" ∧ ob.dict = some builtinsNs ∧ ob.data = .plain
section
variable {X : Cx} {pins : List (Addr × Obj)} {σ : St} {H : Hp} {s : Shared}
def LamO (qual : Str) (params : Arguments) (body : Expr) (scope : Scope) (clos : List (Str × Addr)) (c : Addr) (o : Obj) : Prop := ∃ pm ctv, o = PySem.W.kla_obj "<lambda>" qual params body scope clos pm c ctv
end
end L2
namespace L2
open PySem PyProof.Rows PySem.Spec PySem.Calls
theorem cw_bltkw {M : Model} {A : Around} {E : Value → Shared → Prop} {s : Shared} {pos : Pos} {T : String} {args : List (Bool × Sem Value)} {kws : List (Option Str × Sem Value)} {Q : Value → Shared → Prop} (hp : (args.any (·.1) || kws.any (·.1.isNone)) = false)
    (h : wpAny M A (evalArgs (.builtin T) true args kws) (fun a s1 => wpAny M A (call (.builtin T) a.pos a.kw) Q E s1) E s) : wpAny M A (callWith pos (.builtin T) [] args kws) Q E s := by
  unfold callWith
  refine wpAny_bind (wpAny_holding (wpAny_mono h (fun a s1 h1 => wpAny_bind (wpAny_standAt ?_)) fun _ _ x => x))
  simp only [hp]
  refine wpAny_bind (wpAny_pure ?_)
  exact wpAny_bind (wpAny_mono h1 (fun r s2 hr => wpAny_bind (wpAny_holding (wpAny_point (wpAny_pure hr)))) fun _ _ x => x)
theorem TabOk.is {H : Hp} {P : Addr} {pos : Pos} {qual : Str} (t : TabOk H P pos qual) : ∃ ps, H P = some (.tbl ps) := by
  rcases t with t | ⟨c, t, _⟩
  · exact ⟨_, t⟩
  · exact ⟨_, t⟩
section
variable {X : Cx}
def tLam (P : Addr) (pos : Pos) (qual : Str) (params : Arguments) (body : Expr) (scope : Scope) (clos : List (Str × Addr)) : TE := fun _ H Q => TabOk H P pos qual ∧ ∀ f o c H', SameP P H H' → H f = none → TabAt H' P pos qual c → H' f = some (FN f o) → LamO qual params body scope clos c o → Q (.ref f) H'
def tMinLam (K : PySem.W.Frag) (ta : TA) (P : Addr) (pos : Pos) (qual : Str) (tb : TE) (iy : Nat) : TE := fun σ H Q => ta σ H fun vs H1 => ∃ (l : Addr) (xs : List V) (vy : V) (key : Nat → List V), vs = [.ref l] ∧ SqL K H1 l xs ∧ 0 < xs.length ∧ σ[iy]? = some (some vy) ∧ TabOk H1 P pos qual ∧
  (∀ i j, i < xs.length → j < xs.length → (key i).length = (key j).length ∧ (key i).all flatV = true ∧ ∀ n, n < (key i).length → OrdV ((key i).getD n .non) ((key j).getD n .non)) ∧
  (∀ H2, SameP P H1 H2 → ∀ (i : Nat) x, xs[i]? = some x → tb [some x, some vy] H2 fun v H4 => ∃ p, v = .ref p ∧ Same H2 H4 ∧ H4 p = some (.tup (key i))) ∧
  ∀ H' v, SameP P H1 H' → TabOk H' P pos qual → xs[argBest (fun i j => lexV (key i) (key j)) (xs.length - 1)]? = some v → Q v H'
end
end L2
namespace L2
open PySem PySem.Spec PyProof.Rows
section
variable {P : Program} {w : World} {K : PySem.W.Frag} {mg : Str → Option Value} {base : Heap}
end
section
variable {X : Cx}
def tListRange1 (ta : TA) : TE := fun σ H Q => ta σ H fun vs H1 => ∃ j : Int, vs = [.int j] ∧ (-(2 ^ 62) ≤ j ∧ j < 2 ^ 62) ∧ j.toNat ≤ sizeLine ∧ j.toNat ≤ 2 ^ 24 ∧ ∀ l, H1 l = none → Q (.ref l) (upd H1 l (.lst (rngV 0 j.toNat)))
end
end L2
namespace L2
open PySem PySem.Spec PyProof.Rows
section
variable {X : Cx}
end
end L2
namespace L2
open PySem PyProof.Rows PySem.Spec PySem.Calls
def partL (c : Nat) : List Nat → List Nat × Bool × List Nat
  | [] => ([], false, [])
  | x :: r => if x = c then ([], true, r) else (x :: (partL c r).1, (partL c r).2.1, (partL c r).2.2)
def partS (c : Nat) (z : Str) : Str × Str × Str := let q := partL c z.cps.toList; (⟨q.1.toArray⟩, (if q.2.1 = true then ⟨#[c]⟩ else ⟨#[]⟩), ⟨q.2.2.toArray⟩)
section
variable {X : Cx}
def rPartition : V → List V → Hp → VK → Prop := fun x vs H Q => ∃ (z : Str) (c : Nat), x = .str z ∧ vs = [.str ⟨#[c]⟩] ∧ z.length ≤ sizeLine ∧ ∀ p, H p = none → Q (.ref p) (upd H p (.tup [.str (partS c z).1, .str (partS c z).2.1, .str (partS c z).2.2]))
def tChain3 (r1 r2 r3 : R2) (ta tb tc td : TE) : TE := fun σ H Q => ta σ H fun x H1 => tb σ H1 fun y H2 => r1 x y H2 fun z H3 => ∃ k, z = .bl k ∧
  (if k = true then tc σ H3 fun y2 H4 => r2 y y2 H4 fun z2 H5 => ∃ k2, z2 = .bl k2 ∧ (if k2 = true then td σ H5 fun y3 H6 => r3 y2 y3 H6 Q else Q (.bl false) H5) else Q (.bl false) H3)
end
end L2
namespace PySem
open Sem (wp)
section
variable {prog : Program} {w : World} {K : Type} [DecidableEq K] (knd : KeyKind prog w K)
def IsNest (h : Heap) (k : List K × K) (a : Addr) : Prop := ∃ o b v n, h.get? a = some o ∧ o.cls = .type "tuple" ∧ o.data = .seq #[.ref b, v] n ∧ IsTupleKey knd h k.1 b ∧ knd.is k.2 v = true
def nestHash (k : List K × K) : Int := reduceHash (Builtin.Tuple.tupleHashOf [tupleKeyHash knd k.1, knd.hash k.2])
variable {knd} {A : Around} {E : Value → Shared → Prop} {s : Shared}
theorem IsNest.ty {k : List K × K} {a : Addr} (x : IsNest knd s.heap k a) : s.TypeIs (.ref a) "tuple" := by
  obtain ⟨o, _, _, _, e, c, _⟩ := x
  exact ⟨o, e, c⟩
theorem IsNest.one {h : Heap} {a : Addr} {x y : List K × K} (p : IsNest knd h x a) (q : IsNest knd h y a) : x = y := by
  obtain ⟨o, b, v, n, e, _, d, t, k⟩ := p
  obtain ⟨o', b', v', n', e', _, d', t', k'⟩ := q
  rw [e] at e'
  obtain rfl := Option.some.inj e'
  rw [d] at d'
  injection d' with d1 _
  have l := congrArg Array.toList d1
  obtain ⟨l1, l2⟩ := List.cons.inj l
  obtain ⟨l3, _⟩ := List.cons.inj l2
  injection l1 with l1
  subst l1 l3
  exact Prod.ext (t.inj t') (knd.inj _ _ _ k k')
theorem IsNest.stays {h h' : Heap} {k : List K × K} {a d : Addr} {o : Obj} {es ep} (x : IsNest knd h k a) (e : h.get? d = some o) (z : o.data = .dict es ep) (sb : Heap.SameBut d h h') : IsNest knd h' k a := by
  obtain ⟨o1, b, v, n, e1, c, d1, t, i⟩ := x
  refine ⟨o1, b, v, n, (sb.2 a fun q => ?_).trans e1, c, d1, t.keeps e z sb, i⟩
  rw [q, e] at e1
  obtain rfl := Option.some.inj e1
  rw [z] at d1
  cases d1
theorem nest_hash {k : List K × K} {a : Addr} {Q : Int → Shared → Prop} (hu : A.units + 8 < cLine) (hk : IsNest knd s.heap k a) (h : Q (nestHash knd k) { s with toks := s.toks + (k.1.length + 3) }) : wpAny (model prog w) A (pyHash (.ref a)) Q E s := by
  have ty := hk.ty
  obtain ⟨o, b, v, n, e, _, d, t, i⟩ := hk
  have u0 : A.units < cLine := by omega
  unfold pyHash
  first | unfold pyHashByItsType | skip
  first | refine wpAny_bind (wpAny_cRoomFor_or (.inr u0) ?_) | skip
  refine wpAny_bind (wpAny_specialOf ty F.slot_tuple_hash.lookup ?_)
  show wpAny _ _ (if (some (Value.builtin "tuple.__hash__") == some Value.none) = true then _ else _) _ _ _
  rw [if_neg (by rw [beq_builtin_none]; decide)]
  refine wpAny_bind (wpAny_specialOf ty F.slot_tuple_hash.lookup ?_)
  show wpAny _ _ (callSpecialIfBoundUnlessNone? (.ref a) "__hash__" _ >>= _) _ _ _
  refine wpAny_bind (wpAny_callSpecialIfBoundUnlessNone?_slot ty F.slot_tuple_hash (wpAny_call_entry F.slot_tuple_hash ty F.entry_tuple_hash ?_ (F.args_tuple_hash_1 _)))
  show wpAny _ _ (Builtin.Tuple.tupleItemsOf (.ref a) >>= _) _ _ _
  refine wpAny_bind (wpAny_tupleItemsOf e d ?_)
  refine wpAny_bind ?_
  rw [← Array.forIn_toList]
  show wpAny _ _ (forIn [Value.ref b, v] _ _) _ _ _
  rw [List.forIn_cons]
  refine wpAny_bind (wpAny_bind (wpAny_pyHash_tuple (by show A.units + 1 < cLine; omega) t (wpAny_pure ?_)))
  show wpAny _ _ (forIn [v] _ _) _ _ _
  rw [List.forIn_cons]
  refine wpAny_bind (wpAny_bind (knd.pyHash i (wpAny_pure ?_)))
  show wpAny _ _ (forIn [] _ _) _ _ _
  rw [List.forIn_nil]
  refine wpAny_pure ?_
  show wpAny _ _ (retInt (Builtin.Tuple.tupleHashOf [tupleKeyHash knd k.1, knd.hash k.2])) _ _ _
  refine wpAny_ret_mkInt ?_
  have z : s.toks + (k.1.length + 3) = s.toks + (k.1.length + 1) + 1 + 1 := by omega
  rw [z] at h
  unfold nestHash reduceHash at h
  show wpAny _ _ (if (decide (-(2 : Int) ^ 63 ≤ Builtin.Tuple.tupleHashOf [tupleKeyHash knd k.1, knd.hash k.2]) && decide (Builtin.Tuple.tupleHashOf [tupleKeyHash knd k.1, knd.hash k.2] < 2 ^ 63)) = true then _ else _) Q E _
  split at h
  · next c => rw [if_pos c]; exact wpAny_pure h
  · next c => rw [if_neg c]; exact wpAny_bind (wpAny_rule (wpAny_pure h))
theorem nest_tree {x y : List K × K} {a b : Addr} {P : Fin → Shared → Prop} (hu : A.units + 4 < cLine) (hx : IsNest knd s.heap x a) (hy : IsNest knd s.heap y b) (h : P (.done (.ret (.bool (decide (x = y))))) s) : wpAny (model prog w) A (Builtin.«tuple.__eq__» ⟨[.ref a, .ref b], []⟩) P E s := by
  have ty := hy.ty
  obtain ⟨o, c, v, n, e, _, d, t, i⟩ := hx
  obtain ⟨o', c', v', n', e', _, d', t', i'⟩ := hy
  show wpAny _ _ (isInstance (.ref b) (.type "tuple") >>= _) _ _ _
  refine wpAny_bind (wpAny_isInstance ty isSubtype_tuple_tuple ?_)
  rw [if_neg (by decide)]
  refine wpAny_bind (wpAny_tupleItemsOf e d (wpAny_bind (wpAny_tupleItemsOf e' d' ?_)))
  refine wpAny_bind ?_
  show wpAny _ _ (forIn [(Value.ref c, Value.ref c'), (v, v')] _ _) _ _ _
  rw [List.forIn_cons]
  refine wpAny_bind (wpAny_bind (wpAny_eqBool_tuple (by omega) t t' ?_))
  by_cases q : x.1 = y.1
  · rw [decide_eq_true q]
    refine wpAny_pure ?_
    show wpAny _ _ (forIn [(v, v')] _ _) _ _ _
    rw [List.forIn_cons]
    refine wpAny_bind (wpAny_bind (knd.eqBool i i' ?_))
    by_cases r : x.2 = y.2
    · rw [decide_eq_true r]
      refine wpAny_pure ?_
      show wpAny _ _ (forIn [] _ _) _ _ _
      rw [List.forIn_nil]
      refine wpAny_pure (wpAny_pure ?_)
      rw [decide_eq_true (Prod.ext q r)] at h
      exact h
    · rw [decide_eq_false r]
      rw [decide_eq_false (fun z => r (by rw [z]))] at h
      exact wpAny_bind (wpAny_pure (wpAny_pure (wpAny_pure (wpAny_pure h))))
  · rw [decide_eq_false q]
    rw [decide_eq_false (fun z => q (by rw [z]))] at h
    exact wpAny_bind (wpAny_pure (wpAny_pure (wpAny_pure (wpAny_pure h))))
theorem nest_eq {x y : List K × K} {a b : Addr} {Q : Bool → Shared → Prop} (hu : A.units + 8 < cLine) (hx : IsNest knd s.heap x a) (hy : IsNest knd s.heap y b) (h : Q (decide (x = y)) s) : wpAny (model prog w) A (eqBool (.ref a) (.ref b)) Q E s := by
  unfold eqBool
  try with_reducible refine wpAny_holding ?_
  by_cases z : (Value.ref a == Value.ref b) = true
  · have ab : a = b := by
      have := eq_of_beq z
      injection this
    rw [if_pos z]
    rw [decide_eq_true (by rw [← ab] at hy; exact hx.one hy)] at h
    exact wpAny_bind (wpAny_rule (wpAny_pure h))
  · rw [if_neg z]
    exact wpAny_bind (wpAny_richCompare_same_room (op := .Eq) hx.ty hy.ty F.slot_tuple_eq (wpAny_call_entry F.slot_tuple_eq hx.ty F.entry_tuple_eq (nest_tree (by show A.units + 1 + 4 < cLine; omega) hx hy ⟨_, rfl, (fun e => nomatch e), wpAny_truthy_bool h⟩) (F.args_tuple_eq_2 _ _)) (by omega))
theorem quiet_flat {ks : List K} {a : Addr} {n : Nat} {Q : Bool → Shared → Prop} (hk : IsTupleKey knd s.heap ks a) (h : Q true s) : wpAny (model prog w) A (eqIsQuiet (n + 1) (.ref a)) Q E s := by
  have ty := hk.typeIs
  obtain ⟨o, its, m, e, _, d, i⟩ := hk
  unfold eqIsQuiet
  refine wpAny_bind (wpAny_specialOf ty F.slot_tuple_eq.lookup ?_)
  show wpAny _ _ (isInstance (.ref a) (.type "tuple") >>= _) _ _ _
  refine wpAny_bind (wpAny_isInstance ty isSubtype_tuple_tuple ?_)
  rw [if_neg (by decide)]
  refine wpAny_bind (wpAny_seqItems e d (wpAny_bind ?_))
  show wpAny _ _ (forIn its _ _) _ _ _
  rw [← Array.forIn_toList]
  refine wpAny_forIn_list _ (fun rest r s' => (∀ v ∈ rest, carriedByValue v = true) ∧ r.1 = none ∧ s' = s) _ ?_ ?_ _ _ ⟨i.byValue, rfl, rfl⟩
  · rintro v rest r s' ⟨al, hr, rfl⟩
    rw [eqIsQuiet_byValue _ (al v List.mem_cons_self)]
    refine wpAny_bind (wpAny_pure ?_)
    rw [if_neg (by decide)]
    exact wpAny_pure ⟨fun u z => al u (List.mem_cons_of_mem _ z), rfl, rfl⟩
  · rintro ⟨r1, r2⟩ s' ⟨_, hr, rfl⟩
    dsimp only at hr
    subst hr
    exact wpAny_pure h
theorem nest_quiet {k : List K × K} {a : Addr} {Q : Bool → Shared → Prop} (hk : IsNest knd s.heap k a) (h : Q true s) : wpAny (model prog w) A (eqIsQuiet 8 (.ref a)) Q E s := by
  have ty := hk.ty
  obtain ⟨o, b, v, n, e, _, d, t, i⟩ := hk
  unfold eqIsQuiet
  refine wpAny_bind (wpAny_specialOf ty F.slot_tuple_eq.lookup ?_)
  show wpAny _ _ (isInstance (.ref a) (.type "tuple") >>= _) _ _ _
  refine wpAny_bind (wpAny_isInstance ty isSubtype_tuple_tuple ?_)
  rw [if_neg (by decide)]
  refine wpAny_bind (wpAny_seqItems e d (wpAny_bind ?_))
  show wpAny _ _ (forIn #[Value.ref b, v] _ _) _ _ _
  rw [← Array.forIn_toList]
  show wpAny _ _ (forIn [Value.ref b, v] _ _) _ _ _
  rw [List.forIn_cons]
  refine wpAny_bind (wpAny_bind (quiet_flat (n := 6) t ?_))
  rw [if_neg (by decide)]
  refine wpAny_pure ?_
  show wpAny _ _ (forIn [v] _ _) _ _ _
  rw [List.forIn_cons, eqIsQuiet_byValue _ (knd.byValue _ _ i)]
  refine wpAny_bind (wpAny_bind (wpAny_pure ?_))
  rw [if_neg (by decide)]
  refine wpAny_pure ?_
  show wpAny _ _ (forIn [] _ _) _ _ _
  rw [List.forIn_nil]
  exact wpAny_pure (wpAny_pure h)
end
def nestKind {prog : Program} {w : World} {K : Type} [DecidableEq K] (knd : KeyKind prog w K) : HeapKind prog w (List K × K) where
  is := IsNest knd
  hash := nestHash knd
  draws := fun k => k.1.length + 3
  room := fun A => A.units + 8 < cLine
  inj := fun p q => p.one q
  keeps := fun x e z sb => x.stays e z sb
  pyHash := fun hu hk h => nest_hash hu hk h
  eqBool := fun hu hx hy h => nest_eq hu hx hy h
  quiet := fun hk h => nest_quiet hk h
end PySem
namespace L2
open PySem PySem.Spec PyProof.Rows
abbrev NK := List Key × Key
abbrev NX := List (NK × Addr × V)
def NKey (H : Hp) (k : NK) (b : Addr) : Prop := ∃ d, H b = some (.tup [.ref d, kV k.2]) ∧ H d = some (.tup (k.1.map kV))
theorem NKey.same {H H' : Hp} {k : NK} {b : Addr} (x : NKey H k b) (ht : ∀ c ys, H c = some (.tup ys) → H' c = some (.tup ys)) : NKey H' k b := by
  obtain ⟨d, h1, h2⟩ := x
  exact ⟨d, ht _ _ h1, ht _ _ h2⟩
theorem NKey.inj {H : Hp} {k j : NK} {b : Addr} (x : NKey H k b) (y : NKey H j b) : k = j := by
  obtain ⟨d, h1, h2⟩ := x
  obtain ⟨e, g1, g2⟩ := y
  rw [h1] at g1
  injection g1 with g1
  injection g1 with g1
  obtain ⟨q1, q2⟩ := List.cons.inj g1
  obtain ⟨q3, _⟩ := List.cons.inj q2
  injection q1 with q1
  subst q1
  rw [h2] at g2
  injection g2 with g2
  injection g2 with g2
  exact Prod.ext (kVs_inj g2) (kV_inj q3)
def NPr (p : NK × Addr × V) (q : NK × Addr × Value) : Prop := p.1 = q.1 ∧ p.2.1 = q.2.1 ∧ RelV p.2.2 q.2.2
def NDp (P : Program) (w : World) (a : Addr) (xs : NX) : Heap → Prop := fun h => xs.length ≤ sizeLine ∧ (a == sysModules) = false ∧ ∃ ys : List (NK × Addr × Value), Paired NPr xs ys ∧ (ys.map (·.1)).Nodup ∧
  ∃ o es ep, h.get? a = some o ∧ o.ExactDict ∧ o.data = .dict es ep ∧ es.toList = ys.map (entryOfKey (nestKind (mixKind P w)))
def ND (P : Program) (w : World) (a : Addr) (xs : NX) : HO := .ext (NDp P w a xs)
def lkN (xs : NX) (k : NK) : Option V := (xs.find? fun x => decide (x.1 = k)).map (·.2.2)
def putN (k : NK) (v : V) (x : NK × Addr × V) : NK × Addr × V := if x.1 = k then (x.1, x.2.1, v) else x
def upN (xs : NX) (k : NK) (b : Addr) (v : V) : NX := if (lkN xs k).isSome = true then xs.map (putN k v) else xs ++ [(k, b, v)]
theorem upN_le (xs : NX) (k : NK) (b : Addr) (v : V) : (upN xs k b v).length ≤ xs.length + 1 := by
  unfold upN
  split
  · rw [List.length_map]; omega
  · rw [List.length_append]; exact Nat.le_refl _
structure NAt (P : Program) (w : World) (H : Hp) (a : Addr) (xs : NX) : Prop where
  rd : Rd H a (ND P w a xs)
  keys : ∀ x ∈ xs, NKey H x.1 x.2.1
theorem npr_lk {xs : NX} {ys : List (NK × Addr × Value)} (r : Paired NPr xs ys) (k : NK) : RelO (lkN xs k) ((atKey ys k).map (·.2)) := by
  induction r with
  | nil => exact trivial
  | @cons p q ps qs h t ih =>
    obtain ⟨h1, h2, h3⟩ := h
    by_cases c : p.1 = k
    · have e1 : lkN (p :: ps) k = some p.2.2 := by simp [lkN, List.find?_cons, c]
      have e2 : atKey (q :: qs) k = some q.2 := by simp [atKey, List.find?_cons, h1.symm.trans c]
      rw [e1, e2]
      exact h3
    · have c' : ¬ q.1 = k := fun z => c (h1.trans z)
      have e1 : lkN (p :: ps) k = lkN ps k := by simp [lkN, List.find?_cons, c]
      have e2 : atKey (q :: qs) k = atKey qs k := by simp [atKey, List.find?_cons, c']
      rw [e1, e2]
      exact ih
theorem npr_is {xs : NX} {ys : List (NK × Addr × Value)} (r : Paired NPr xs ys) (k : NK) : (lkN xs k).isSome = (atKey ys k).isSome := by
  have := (npr_lk r k).isSome_eq
  rw [this, Option.isSome_map]
theorem npr_map {k : NK} {v : V} {u : Value} (rv : RelV v u) {xs : NX} {ys : List (NK × Addr × Value)} (r : Paired NPr xs ys) : Paired NPr (xs.map (putN k v)) (ys.map (putAt k u)) := by
  induction r with
  | nil => exact .nil
  | @cons p q ps qs h t ih =>
    obtain ⟨h1, h2, h3⟩ := h
    refine .cons ?_ ih
    unfold putN putAt
    by_cases c : p.1 = k
    · rw [if_pos c, if_pos (h1.symm.trans c)]
      exact ⟨h1, h2, rv⟩
    · rw [if_neg c, if_neg (fun z => c (h1.trans z))]
      exact ⟨h1, h2, h3⟩
theorem npr_app {xs zs : NX} {ys us : List (NK × Addr × Value)} (r : Paired NPr xs ys) (t : Paired NPr zs us) : Paired NPr (xs ++ zs) (ys ++ us) := by
  induction r with
  | nil => exact t
  | cons h _ ih => exact .cons h ih
theorem npr_up {xs : NX} {ys : List (NK × Addr × Value)} (r : Paired NPr xs ys) (k : NK) (b : Addr) {v : V} {u : Value} (rv : RelV v u) : Paired NPr (upN xs k b v) (storedH ys k b u) := by
  have e := npr_is r k
  unfold upN storedH
  rw [e]
  cases (atKey ys k).isSome with
  | true => rw [if_pos rfl, if_pos rfl]; exact npr_map rv r
  | false => rw [if_neg (by decide), if_neg (by decide)]; exact npr_app r (.cons ⟨rfl, rfl, rv⟩ .nil)
theorem npr_mem {xs : NX} {ys : List (NK × Addr × Value)} (r : Paired NPr xs ys) : ∀ y ∈ ys, ∃ x ∈ xs, x.1 = y.1 ∧ x.2.1 = y.2.1 := by
  induction r with
  | nil => intro y hy; cases hy
  | @cons p q ps qs h t ih =>
    intro y hy
    rcases List.mem_cons.mp hy with rfl | hy
    · exact ⟨p, .head _, h.1, h.2.1⟩
    · obtain ⟨x, hx, e⟩ := ih y hy
      exact ⟨x, .tail _ hx, e⟩
section
variable {P : Program} {w : World} {H : Hp} {h : Heap} {a b : Addr}
theorem nkey_of {k : NK} (ok : HOk P w H h) (x : NKey H k b) : (nestKind (mixKind P w)).is h k b := by
  obtain ⟨d, h1, h2⟩ := x
  obtain ⟨_, its, r, o, e1, e2, n, e3⟩ := (show ObjOk P w H h b (.tup [.ref d, kV k.2]) from ok b _ h1)
  cases r with
  | cons r1 r2 =>
    cases r2 with
    | cons r3 r4 =>
      cases r4
      cases r1
      exact ⟨o, d, _, n, e1, e2, e3, key_of ok h2, kV_is r3⟩
theorem nd_of {xs : NX} (ok : HOk P w H h) (x : NAt P w H a xs) : xs.length ≤ sizeLine ∧ (a == sysModules) = false ∧ ∃ ys, Paired NPr xs ys ∧ h.DictOfH (nestKind (mixKind P w)) a ys := by
  obtain ⟨⟨z, y, ys, r, nd, o, es, ep, e1, e2, e3, e4⟩, _⟩ := (show ObjOk P w H h a (ND P w a xs) from rd_of ok x.rd)
  refine ⟨z, y, ys, r, o, es, ep, e1, e2, e3, e4, fun q hq => ?_, nd⟩
  obtain ⟨p, hp, p1, p2⟩ := npr_mem r q hq
  rw [← p1, ← p2]
  exact nkey_of ok (x.keys p hp)
theorem nd_ok {xs : NX} {ys : List (NK × Addr × Value)} {H' : Hp} (z : xs.length ≤ sizeLine) (y : (a == sysModules) = false) (r : Paired NPr xs ys) (d : h.DictOfH (nestKind (mixKind P w)) a ys) : ObjOk P w H' h a (ND P w a xs) := by
  obtain ⟨o, es, ep, e1, e2, e3, e4, _, nd⟩ := d
  exact ⟨⟨z, y, ys, r, nd, o, es, ep, e1, e2, e3, e4⟩, ⟨o, e1⟩, fun h1 h2 ⟨z, y, ys, r, nd, o, es, ep, e1, q⟩ k => ⟨z, y, ys, r, nd, o, es, ep, k o e1, q⟩⟩
end
section
variable {X : Cx} {P : Program} {w : World} {o i value : Expr} {pos pos' : Pos} {td ty tv : TE}
def tNNew (P : Program) (w : World) : TE := fun _ H Q => ∀ p, H p = none → Q (.ref p) (upd H p (ND P w p []))
def tNGet (P : Program) (w : World) (td ty : TE) : TE := fun σ H Q => td σ H fun x H1 => ty σ H1 fun y H2 => ∃ a b xs k v, x = .ref a ∧ y = .ref b ∧ NAt P w H2 a xs ∧ NKey H2 k b ∧ lkN xs k = some v ∧ Q v H2
def rNIn (P : Program) (w : World) (neg : Bool) : R2 := fun y x H Q => ∃ a b xs k, x = .ref a ∧ y = .ref b ∧ NAt P w H a xs ∧ NKey H k b ∧ Q (.bl (if neg then !(lkN xs k).isSome else (lkN xs k).isSome)) H
def sNPut (P : Program) (w : World) (td ty tv : TE) : TS := fun D σ H => tv σ H fun v H1 => td σ H1 fun x H2 => ty σ H2 fun y H3 => ∃ a b xs k, x = .ref a ∧ y = .ref b ∧ H3 a = some (ND P w a xs) ∧ NAt P w H3 a xs ∧ NKey H3 k b ∧ xs.length < sizeLine ∧ D.nx σ (upd H3 a (ND P w a (upN xs k b v)))
theorem pe_nnew (hP : X.prog = P) (hw : X.w = w) : PE X (.Dict [] [] pos) (tNNew P w) := fun pins s σ H Q I h => by
  subst hP hw
  have big := I.big
  refine wpAny_Dict_empty ⟨.ref s.heap.objs.size, _, I.laid (a := s.heap.objs.size) (o := ND X.prog X.w s.heap.objs.size []) (t' := s.toks) (fun _ _ q => Heap.get?_push_of_some _ q) (Nat.le_refl _) (nd_ok (Nat.zero_le _) (beq_eq_false_iff_ne.mpr (Nat.ne_of_gt big)) .nil (Heap.DictOfH.new s.heap)), rfl, h _ (I.hok.fresh (Nat.le_refl _))⟩
theorem pe_nget (hP : X.prog = P) (hw : X.w = w) (hu : X.A.units + 64 < cLine) (ho : PE X o td) (hi : PE X i ty) (hs : NoSl i) : PE X (.Subscript o i pos) (tNGet P w td ty) := by
  subst hP hw
  intro pins s σ H Q I h
  refine subD_of PySem.F.slot_dict_getitem.lookup hs (thn (ho pins s σ H _ I h) fun u s1 ⟨x, H1, I1, rx, q1⟩ => thn (hi pins s1 σ H1 _ I1 q1) fun iv s2 ⟨y, H2, I2, ry, a, b, xs, k, v, ex, ey, na, nk, lk, q2⟩ => ?_)
  subst ex ey
  obtain rfl : u = Value.ref a := rx
  obtain rfl : iv = Value.ref b := ry
  obtain ⟨_, _, ys, r, dd⟩ := nd_of I2.hok na
  have ro := npr_lk r k
  rw [lk] at ro
  obtain ⟨w', hw, rw'⟩ := RelO.some_of ro
  obtain ⟨p, hp, hp2⟩ := Option.map_eq_some_iff.mp hw
  refine ⟨dd.typeIs, wpAny_getItem_heap (show X.A.units + 1 + 8 < cLine by omega) (nkey_of I2.hok nk) dd hp ?_⟩
  rw [hp2]
  exact ⟨v, H2, I2.tok _, rw', q2⟩
theorem op_nin (hP : X.prog = P) (hw : X.w = w) (hu : X.A.units + 64 < cLine) : OpR X (compareOp .In) (rNIn P w false) := by
  subst hP hw
  intro pins s σ H x y v u Q I rx ry h
  obtain ⟨a, b, xs, k, rfl, rfl, na, nk, q⟩ := h
  cases rx
  cases ry
  obtain ⟨_, sm, ys, r, dd⟩ := nd_of I.hok na
  refine wpAny_in_heap (show X.A.units + 1 + 8 < cLine by omega) (nkey_of I.hok nk) sm dd ⟨.bl _, H, I.tok _, rfl, ?_⟩
  rw [← npr_is r k]
  exact q
theorem op_nnotin (hP : X.prog = P) (hw : X.w = w) (hu : X.A.units + 64 < cLine) : OpR X (compareOp .NotIn) (rNIn P w true) := by
  subst hP hw
  intro pins s σ H x y v u Q I rx ry h
  obtain ⟨a, b, xs, k, rfl, rfl, na, nk, q⟩ := h
  cases rx
  cases ry
  obtain ⟨_, sm, ys, r, dd⟩ := nd_of I.hok na
  refine wpAny_notIn_heap (show X.A.units + 1 + 8 < cLine by omega) (nkey_of I.hok nk) sm dd ⟨.bl _, H, I.tok _, rfl, ?_⟩
  rw [← npr_is r k]
  exact q
theorem ps_nput (hP : X.prog = P) (hw : X.w = w) (hu : X.A.units + 64 < cLine) (ho : PE X o td) (hi : PE X i ty) (hv : PE X value tv) (hs : swapsWith value (some (.Subscript o i pos')) pos.line X.env = pure false) : PS X (.Assign [.Subscript o i pos'] value pos) (sNPut P w td ty tv) := by
  subst hP hw
  intro pins s σ H D I h
  refine wpAny_Assign_Subscript (thn (hv pins s σ H _ I h) fun r s1 ⟨v, H1, I1, rv, q1⟩ => thn (ho pins s1 σ H1 _ I1 q1) fun u s2 ⟨x, H2, I2, rx, q2⟩ => thn (hi pins s2 σ H2 _ I2 q2) fun iv s3 ⟨y, H3, I3, ry, a, b, xs, k, ex, ey, ea, na, nk, lt, q3⟩ => ?_) hs
  subst ex ey
  obtain rfl : u = Value.ref a := rx
  obtain rfl : iv = Value.ref b := ry
  obtain ⟨z, sm, ys, rr, dd⟩ := nd_of I3.hok na
  refine wpAny_setItem_heap (hsz := by rw [← Paired.length rr]; exact z) (show X.A.units + 1 + 8 < cLine by omega) (nkey_of I3.hok nk) dd fun h' dd' hs => ⟨σ, _, ?_, q3⟩
  have ex : ∃ q, h'.get? a = some q := let ⟨q, _, _, hq, _⟩ := dd'; ⟨q, hq⟩
  exact d_write I3 (by rw [ea]; exact True.intro) hs ex (nd_ok (by have := upN_le xs k b v; omega) sm (npr_up rr k b rv) dd')
def rLenN (P : Program) (w : World) : List V → Hp → VK → Prop := fun vs H Q => ∃ a xs, vs = [V.ref a] ∧ NAt P w H a xs ∧ Q (.int (xs.length : Nat)) H
end
end L2
namespace PySem
open Sem (wp)
def DE (h : Heap) (d : Addr) (es : Array DictEntry) (ep : Nat) : Prop := ∃ o, h.get? d = some o ∧ o.ExactDict ∧ o.data = .dict es ep
theorem DE.kept {h h' : Heap} {d : Addr} {es : Array DictEntry} {ep : Nat} (x : DE h d es ep) (k : ∀ o, h.get? d = some o → h'.get? d = some o) : DE h' d es ep := by
  obtain ⟨o, e, r⟩ := x
  exact ⟨o, k o e, r⟩
theorem DE.lt {h : Heap} {d : Addr} {es : Array DictEntry} {ep : Nat} (x : DE h d es ep) : d < h.objs.size := by
  obtain ⟨_, e, _⟩ := x
  exact Heap.lt_size e
section
variable {prog : Program} {w : World} {A : Around} {E : Value → Shared → Prop} {s : Shared} {d it : Addr} {es : Array DictEntry} {ep i : Nat}
theorem DE.ty (x : DE s.heap d es ep) : s.TypeIs (.ref d) "dict" := by
  obtain ⟨o, e, c, _⟩ := x
  exact ⟨o, e, c.1⟩
theorem de_iter {Q : Value → Shared → Prop} (hd : (d == sysModules) = false) (x : DE s.heap d es ep) (q : Q (.ref s.heap.objs.size) { s with heap := s.heap.push { cls := .type "dict_keyiterator", data := .fields #[.ref d, .int 0 0, .int es.size 0, .int ep 0] } }) : wpAny (model prog w) A (pyIter (.ref d)) Q E s := by
  have ty := x.ty
  obtain ⟨o, e, c, dt⟩ := x
  refine wpAny_pyIter_slot ty F.slot_dict_iter (wpAny_call_entry F.slot_dict_iter ty F.entry_dict_iter ?_ (F.args_dict_iter_1 _))
  unfold Builtin.«dict.__iter__» Builtin.Dict.dictSlotNone
  refine wpAny_bind (wpAny_bind (wpAny_notOrdered_dict ty (wpAny_pure ?_)))
  show wpAny _ _ (Builtin.Dict.showsAll d >>= _) _ _ _
  unfold Builtin.Dict.showsAll
  rw [if_neg (by rw [hd]; decide)]
  refine wpAny_bind (wpAny_pure (wpAny_bind (wpAny_dictEntries e dt (wpAny_bind (wpAny_dictEpoch e dt ?_)))))
  exact wpAny_bind (wpAny_newObj_type (wpAny_pure ⟨_, rfl, "dict_keyiterator", _, ⟨_, Heap.get?_push_size _ rfl, rfl⟩, F.slot_dict_keyiterator_next.lookup, q⟩))
theorem de_next {e1 : DictEntry} {Q : Option Value → Shared → Prop} (hit : s.heap.IsKeyIter it d i es.size ep) (x : DE s.heap d es ep) (he : es[i]? = some e1)
    (q : ∀ h', h'.IsKeyIter it d (i + 1) es.size ep → Heap.SameBut it s.heap h' → Q (some e1.key) { s with heap := h' }) : wpAny (model prog w) A (pyNext (.ref it)) Q E s := by
  have ty := hit.typeIs
  obtain ⟨oi, ei, ci, di⟩ := id hit
  obtain ⟨o, e, _, dt⟩ := x
  unfold pyNext
  refine wpAny_bind (wpAny_attempt (wpAny_callSpecial?_slot (name := Str.ofString "__next__") ty F.slot_dict_keyiterator_next (wpAny_call_entry F.slot_dict_keyiterator_next ty F.entry_dict_keyiterator_next ?_ (F.args_dict_keyiterator_next_1 _))))
  refine wpAny_bind (wpAny_pure (wpAny_bind (wpAny_bind ?_)))
  first | refine wpAny_bind (wpAny_typeNameOfWhole_keyiter ty (wpAny_pure ?_)) | refine wpAny_bind (wpAny_typeNameOf_keyiter ty (wpAny_pure ?_))
  refine wpAny_bind (wpAny_fieldsOf ei di ?_)
  rw [if_neg (show ¬ Builtin.Dict_items.ownsTuple "dict_keyiterator" = true by decide)]
  show wpAny _ _ (if (Value.ref d == Value.none) = true then _ else _) _ _ _
  rw [if_neg (show ¬ (Value.ref d == Value.none) = true by intro z; cases z)]
  refine wpAny_bind (wpAny_pure (wpAny_bind (wpAny_dictEntries e dt ?_)))
  rw [if_neg (by simp)]
  refine wpAny_bind (wpAny_pure (wpAny_bind (wpAny_dictEpoch e dt ?_)))
  rw [if_neg (by simp)]
  refine wpAny_pure ?_
  have neg : ¬ ((i : Int) < 0) := by omega
  simp only [neg, if_false, Int.toNat_natCast, he]
  refine wpAny_bind ?_
  first | refine wpAny_bind (wpAny_typeNameOfWhole_keyiter ty (wpAny_pure ?_)) | refine wpAny_bind (wpAny_typeNameOf_keyiter ty (wpAny_pure ?_))
  refine wpAny_bind (wpAny_isOneOf_keyiter ty ?_)
  show wpAny _ _ (setField (.ref it) 1 (rawInt ((i : Int) + 1)) >>= _) _ _ _
  refine wpAny_bind (wpAny_setField ei di (by simp) ?_)
  have new : (s.heap.update it (Obj.mapFields (·.setIfInBounds 1 (rawInt ((i : Int) + 1))))).IsKeyIter it d (i + 1) es.size ep := by
    refine ⟨_, Heap.get?_update_self _ ei (Obj.isFreed_of_fields (Obj.data_mapFields di _)), (Obj.cls_mapFields ..).trans ci, ?_⟩
    rw [Obj.data_mapFields di]
    simp [rawInt]
  refine wpAny_bind (wpAny_holding (wpAny_bind (wpAny_isOneOf_keyiter (s := { s with heap := s.heap.update it _ }) new.typeIs ?_)))
  show wpAny _ _ (pure e1.key) _ _ _
  exact wpAny_pure (wpAny_pure ⟨_, rfl, wpAny_pure (q _ new (Heap.SameBut.update ..))⟩)
theorem de_stop {h0 : Heap} {Q : Option Value → Shared → Prop} (hh : A.handled = none) (q : ∀ h', Heap.ExtBut it s.heap h' → Q none { s with heap := h' }) (k : Heap.ExtBut it s.heap h0) {R : Fin → Shared → Prop} :
    wpAny (model prog w) A.in1 (newExc (.type "StopIteration") [] >>= fun x => (raiseNew x : Sem Fin)) R (fun e s' => wpAny (model prog w) A (do if (← isInstance e (.type "StopIteration")) = true then pure none else throw e) Q E s') { s with heap := h0 } := by
  refine wpAny_bind ?_
  simp only [newExc, newTuple]
  refine wpAny_bind (wpAny_newObj_type ?_ (by size_fits))
  refine wpAny_bind (m := firstArgMember _ _) (wpAny_of_eq (a := Value.none) (by first | rfl | (simp only [firstArgMember]; rfl)) ?_)
  refine wpAny_newObj_type ?_ (by size_fits)
  simp only [raiseNew]
  refine wpAny_bind (wpAny_handled ?_)
  rw [show A.in1.handled = none from hh]
  refine wpAny_bind (wpAny_pure (wpAny_throw ?_))
  refine wpAny_bind (wpAny_isInstance (T := "StopIteration") (b := true) ⟨_, Heap.get?_push_size _ rfl, rfl⟩ isSubtype_stop ?_)
  exact wpAny_pure (q _ ((k.push _).push _))
theorem de_end {Q : Option Value → Shared → Prop} (hh : A.handled = none) (hit : s.heap.IsKeyIter it d i es.size ep) (x : DE s.heap d es ep) (he : es[i]? = none) (q : ∀ h', Heap.ExtBut it s.heap h' → Q none { s with heap := h' }) : wpAny (model prog w) A (pyNext (.ref it)) Q E s := by
  have ty := hit.typeIs
  obtain ⟨oi, ei, ci, di⟩ := id hit
  obtain ⟨o, e, _, dt⟩ := x
  unfold pyNext
  refine wpAny_bind (wpAny_attempt (wpAny_callSpecial?_slot (name := Str.ofString "__next__") ty F.slot_dict_keyiterator_next (wpAny_call_entry F.slot_dict_keyiterator_next ty F.entry_dict_keyiterator_next ?_ (F.args_dict_keyiterator_next_1 _))))
  refine wpAny_bind (wpAny_pure (wpAny_bind (wpAny_bind ?_)))
  first | refine wpAny_bind (wpAny_typeNameOfWhole_keyiter ty (wpAny_pure ?_)) | refine wpAny_bind (wpAny_typeNameOf_keyiter ty (wpAny_pure ?_))
  refine wpAny_bind (wpAny_fieldsOf ei di ?_)
  rw [if_neg (show ¬ Builtin.Dict_items.ownsTuple "dict_keyiterator" = true by decide)]
  show wpAny _ _ (if (Value.ref d == Value.none) = true then _ else _) _ _ _
  rw [if_neg (show ¬ (Value.ref d == Value.none) = true by intro z; cases z)]
  refine wpAny_bind (wpAny_pure (wpAny_bind (wpAny_dictEntries e dt ?_)))
  rw [if_neg (by simp)]
  refine wpAny_bind (wpAny_pure (wpAny_bind (wpAny_dictEpoch e dt ?_)))
  rw [if_neg (by simp)]
  refine wpAny_pure ?_
  have neg : ¬ ((i : Int) < 0) := by omega
  simp only [neg, if_false, Int.toNat_natCast, he]
  refine wpAny_bind ?_
  first | refine wpAny_bind (wpAny_typeNameOfWhole_keyiter ty (wpAny_pure ?_)) | refine wpAny_bind (wpAny_typeNameOf_keyiter ty (wpAny_pure ?_))
  show wpAny _ _ (setField (.ref it) 0 .none >>= _) _ _ _
  refine wpAny_bind (wpAny_setField ei di (by simp) ?_)
  exact de_stop hh q (Heap.SameBut.update ..).extBut
theorem de_keys (hh : A.handled = none) (I d : Addr) (ne : d ≠ I) (es : Array DictEntry) (ep : Nat) : Walks prog w A I [I, d] [I] es.size (fun i v => ∃ e, es[i]? = some e ∧ v = e.key) (fun i h => h.IsKeyIter I d i es.size ep ∧ DE h d es ep) where
  sub := fun b hb => by simp at hb; simp [hb]
  frame := fun _ _ _ st hk => ⟨let ⟨o, e, r⟩ := st.1; ⟨o, hk I (by simp) o e, r⟩, st.2.kept fun o e => hk d (by simp) o e⟩
  item := fun i s Q E hi st hQ => by
    obtain ⟨e1, h1⟩ : ∃ e1, es[i]? = some e1 := ⟨es[i], Array.getElem?_eq_getElem hi⟩
    refine de_next st.1 st.2 h1 fun h' hit sb => ?_
    exact hQ e1.key h' s.toks ⟨e1, h1, rfl⟩ ⟨hit, st.2.kept fun o e => sb.extBut d o ne e⟩ fun b o hb e => sb.extBut b o (fun z => hb (by simp [z])) e
  done := fun s Q E st hQ => de_end hh st.1 st.2 (by simp) fun h' he => hQ h' s.toks fun b o hb e => he b o (fun z => hb (by simp [z])) e
  self := fun _ _ _ _ st hQ => wpAny_pyIter_keyiter st.1 hQ
theorem de_src (hd : (d == sysModules) = false) : W.KdlSrc prog w "dict" d d es.size (fun i v => ∃ e, es[i]? = some e ∧ v = e.key) (fun h => DE h d es ep) where
  type := fun _ x => x.ty
  there := fun _ x => ⟨x.lt, x.lt⟩
  keep := fun _ _ x hk => x.kept fun o e => hk d (.inl rfl) o e
  notList := by decide
  notTuple := by decide
  hint := fun _ _ _ _ x hq => W.kdl_hint_dict x.ty hq
  iter := fun _ s hh x => ⟨_, _, (fun _ _ hq => de_iter hd x hq), de_keys hh _ d (Nat.ne_of_lt x.lt) es ep, ⟨⟨_, Heap.get?_push_size _ rfl, rfl, rfl⟩, x.kept fun o e => Heap.get?_push_of_some _ e⟩⟩
end
end PySem
namespace PySem
open Sem (wp)
section
variable {prog : Program} {w : World} {A : Around} {E : Value → Shared → Prop} {s : Shared} {d it : Addr} {es : Array DictEntry} {ep i : Nat} {ok ov : Value}
theorem de_items (hd : (d == sysModules) = false) : MeetsIn prog w (Builtin.«dict.items» ⟨[.ref d], []⟩) (fun _ R s => (∃ es ep, DE s.heap d es ep) ∧ R (.ok (.ret (.ref s.heap.objs.size))) { s with heap := s.heap.push { cls := .type "dict_items", data := .fields #[.ref d] } }) :=
  .of_wp fun A R s ⟨⟨es, ep, x⟩, h⟩ => by
    unfold Builtin.«dict.items» Builtin.Dict.noArgs
    refine wpAny_bind (wpAny_bind (wpAny_notOrdered_dict x.ty (wpAny_pure ?_)))
    show wpAny _ _ (Builtin.Dict.showsAll d >>= _) _ _ _
    unfold Builtin.Dict.showsAll
    rw [if_neg (by rw [hd]; decide)]
    exact wpAny_bind (wpAny_pure (wpAny_bind (wpAny_newObj_type (wpAny_pure ⟨_, rfl, h⟩))))
theorem de_iterI {v : Addr} {Q : Value → Shared → Prop} (hv : s.heap.IsItemsView v d) (x : DE s.heap d es ep)
    (q : Q (.ref s.heap.objs.size) { s with heap := s.heap.push { cls := .type "dict_itemiterator", data := .fields #[.none, .bool false, .ref d, .int 0 0, .int es.size 0, .int ep 0, .none, .none] } }) : wpAny (model prog w) A (pyIter (.ref v)) Q E s := by
  have ty := hv.typeIs
  obtain ⟨o, e, c, dt⟩ := hv
  obtain ⟨o2, e2, _, dt2⟩ := x
  refine wpAny_pyIter_slot ty F.slot_dict_items_iter (wpAny_call_entry F.slot_dict_items_iter ty F.entry_dict_items_iter ?_ (F.args_dict_items_iter_1 _))
  unfold Builtin.«dict_items.__iter__» Builtin.Dict_items.dictOf
  refine wpAny_bind (wpAny_pure (wpAny_bind (wpAny_bind (wpAny_field e dt (x := .ref d) rfl (wpAny_pure (wpAny_bind ?_))))))
  unfold Builtin.Dict_items.newIterator
  refine wpAny_bind (wpAny_dictEntries e2 dt2 (wpAny_bind (wpAny_dictEpoch e2 dt2 ?_)))
  have own : Builtin.Dict_items.ownsTuple "dict_itemiterator" = true := by decide
  simp only [own, if_true]
  refine wpAny_newObj_type (wpAny_pure ⟨_, rfl, "dict_itemiterator", _, ⟨_, Heap.get?_push_size _ rfl, rfl⟩, F.slot_dict_itemiterator_next.lookup, q⟩) ?_
  simp only [sizeOk, Builtin.Dict_items.ownedTupleFields, List.size_toArray, List.length_append, List.length_cons, List.length_nil, sizeLine_eq]
  omega
theorem de_nextI {e1 : DictEntry} {Q : Option Value → Shared → Prop} (hit : IsItemIter s.heap it d i es.size ep ok ov) (x : DE s.heap d es ep) (he : es[i]? = some e1)
    (q : ∀ h', IsItemIterOut h' it d (i + 1) es.size ep e1.key e1.val s.heap.objs.size → h'.get? s.heap.objs.size = some { cls := .type "tuple", data := .seq #[e1.key, e1.val] } → h'.objs.size = s.heap.objs.size + 1 →
      (∀ b o, b ≠ it → s.heap.get? b = some o → h'.get? b = some o) → Q (some (.ref s.heap.objs.size)) { s with heap := h' }) : wpAny (model prog w) A (pyNext (.ref it)) Q E s := by
  have ty : s.TypeIs (.ref it) "dict_itemiterator" := ⟨_, hit, rfl⟩
  obtain ⟨o, e, _, dt⟩ := x
  unfold pyNext
  refine wpAny_bind (wpAny_attempt (wpAny_callSpecial?_slot (name := Str.ofString "__next__") ty F.slot_dict_itemiterator_next (wpAny_call_entry F.slot_dict_itemiterator_next ty F.entry_dict_itemiterator_next ?_ (F.args_dict_itemiterator_next_1 _))))
  refine wpAny_bind (wpAny_pure (wpAny_bind (wpAny_bind ?_)))
  first | refine wpAny_bind (wpAny_typeNameOfWhole_itemiter ty (wpAny_pure ?_)) | refine wpAny_bind (wpAny_typeNameOf_itemiter ty (wpAny_pure ?_))
  refine wpAny_bind (wpAny_fieldsOf hit rfl ?_)
  rw [if_pos (show Builtin.Dict_items.ownsTuple "dict_itemiterator" = true by decide)]
  show wpAny _ _ (if (Value.ref d == Value.none) = true then _ else _) _ _ _
  rw [if_neg (show ¬ (Value.ref d == Value.none) = true by intro z; cases z)]
  refine wpAny_bind (wpAny_pure (wpAny_bind (wpAny_dictEntries e dt ?_)))
  rw [if_neg (by simp)]
  refine wpAny_bind (wpAny_pure (wpAny_bind (wpAny_dictEpoch e dt ?_)))
  rw [if_neg (by simp)]
  refine wpAny_pure ?_
  have neg : ¬ ((i : Int) < 0) := by omega
  simp only [neg, if_false, Int.toNat_natCast, he]
  refine wpAny_bind ?_
  first | refine wpAny_bind (wpAny_typeNameOfWhole_itemiter ty (wpAny_pure ?_)) | refine wpAny_bind (wpAny_typeNameOf_itemiter ty (wpAny_pure ?_))
  refine wpAny_bind (wpAny_isOneOf_itemiter ty ?_)
  show wpAny _ _ (setField (.ref it) 3 (rawInt ((i : Int) + 1)) >>= _) _ _ _
  refine wpAny_bind (wpAny_setField_rec hit (by simp) fun h1 f1 b1 => ?_)
  have z1 : h1.objs.size = s.heap.objs.size := b1.1
  have lt : it < s.heap.objs.size := Heap.lt_size hit
  have g1 : IsItemIter h1 it d (i + 1) es.size ep ok ov := by
    have en : ((i + 1 : Nat) : Int) = (i : Int) + 1 := by omega
    unfold IsItemIter
    rw [en]
    simpa [rawInt] using f1
  have ty1 : Shared.TypeIs { s with heap := h1 } (.ref it) "dict_itemiterator" := ⟨_, g1, rfl⟩
  refine wpAny_bind (wpAny_holding (wpAny_bind (wpAny_isOneOf_itemiter ty1 (wpAny_bind (wpAny_isOneOf_itemiter ty1 ?_)))))
  show wpAny _ _ (Builtin.Dict_items.pairFromOwner (.ref it) 6 e1.key e1.val) _ _ _
  unfold Builtin.Dict_items.pairFromOwner
  refine wpAny_bind (wpAny_newTuple ?_)
  have g2 : IsItemIter (h1.push { cls := .type "tuple", data := .seq #[e1.key, e1.val] }) it d (i + 1) es.size ep ok ov := Heap.get?_push_of_some _ g1
  have t2 : (h1.push { cls := .type "tuple", data := .seq #[e1.key, e1.val] }).get? s.heap.objs.size = some { cls := .type "tuple", data := .seq #[e1.key, e1.val] } := by rw [← z1]; exact Heap.get?_push_size _ rfl
  have z2 : (h1.push { cls := .type "tuple", data := .seq #[e1.key, e1.val] }).objs.size = s.heap.objs.size + 1 := by rw [Heap.size_push, z1]
  have k2 : ∀ b o, b ≠ it → s.heap.get? b = some o → (h1.push { cls := .type "tuple", data := .seq #[e1.key, e1.val] }).get? b = some o := fun b o hb e => Heap.get?_push_of_some _ (b1.extBut b o hb e)
  show wpAny _ _ (Builtin.Dict_items.ownedTupleIsFree (.ref it) >>= _) _ _ { s with heap := h1.push { cls := .type "tuple", data := .seq #[e1.key, e1.val] } }
  rw [z1]
  generalize h1.push { cls := .type "tuple", data := .seq #[e1.key, e1.val] } = h2 at g2 t2 z2 k2 ⊢
  unfold Builtin.Dict_items.ownedTupleIsFree
  refine wpAny_bind (wpAny_bind (wpAny_field g2 rfl (x := .none) rfl (wpAny_pure ?_)))
  rw [if_pos (by rfl)]
  refine wpAny_bind (wpAny_field g2 rfl (x := ok) rfl (wpAny_bind (wpAny_field g2 rfl (x := ov) rfl ?_)))
  refine wpAny_bind (wpAny_setField_rec g2 (by simp) fun h3 f3 b3 => ?_)
  have g3 : IsItemIter h3 it d (i + 1) es.size ep e1.key ov := f3
  refine wpAny_bind (wpAny_setField_rec g3 (by simp) fun h4 f4 b4 => ?_)
  have g4 : IsItemIter h4 it d (i + 1) es.size ep e1.key e1.val := f4
  refine wpAny_bind (wpAny_setField_rec g4 (by simp) fun h5 f5 b5 => ?_)
  have g5 : IsItemIterOut h5 it d (i + 1) es.size ep e1.key e1.val s.heap.objs.size := f5
  refine wpAny_bind (wpAny_setField_rec g5 (by simp) fun h6 f6 b6 => ?_)
  have g6 : IsItemIterOut h6 it d (i + 1) es.size ep e1.key e1.val s.heap.objs.size := f6
  have kk : ∀ b o, b ≠ it → h2.get? b = some o → h6.get? b = some o := fun b o hb e => b6.extBut b o hb (b5.extBut b o hb (b4.extBut b o hb (b3.extBut b o hb e)))
  refine wpAny_bind (wpAny_letGo (wpAny_pure (wpAny_pure ⟨_, rfl, wpAny_pure (q h6 g6 (kk _ _ (Nat.ne_of_gt lt) t2) ?_ fun b o hb e => kk b o hb (k2 b o hb e))⟩)))
  have y3 : h3.objs.size = h2.objs.size := b3.1
  have y4 : h4.objs.size = h3.objs.size := b4.1
  have y5 : h5.objs.size = h4.objs.size := b5.1
  have y6 : h6.objs.size = h5.objs.size := b6.1
  show h6.objs.size = _
  rw [y6, y5, y4, y3, z2]
theorem de_endI {Q : Option Value → Shared → Prop} (hh : A.handled = none) (hit : IsItemIter s.heap it d i es.size ep ok ov) (x : DE s.heap d es ep) (he : es[i]? = none) (q : ∀ h', Heap.ExtBut it s.heap h' → Q none { s with heap := h' }) : wpAny (model prog w) A (pyNext (.ref it)) Q E s := by
  have ty : s.TypeIs (.ref it) "dict_itemiterator" := ⟨_, hit, rfl⟩
  obtain ⟨o, e, _, dt⟩ := x
  unfold pyNext
  refine wpAny_bind (wpAny_attempt (wpAny_callSpecial?_slot (name := Str.ofString "__next__") ty F.slot_dict_itemiterator_next (wpAny_call_entry F.slot_dict_itemiterator_next ty F.entry_dict_itemiterator_next ?_ (F.args_dict_itemiterator_next_1 _))))
  refine wpAny_bind (wpAny_pure (wpAny_bind (wpAny_bind ?_)))
  first | refine wpAny_bind (wpAny_typeNameOfWhole_itemiter ty (wpAny_pure ?_)) | refine wpAny_bind (wpAny_typeNameOf_itemiter ty (wpAny_pure ?_))
  refine wpAny_bind (wpAny_fieldsOf hit rfl ?_)
  rw [if_pos (show Builtin.Dict_items.ownsTuple "dict_itemiterator" = true by decide)]
  show wpAny _ _ (if (Value.ref d == Value.none) = true then _ else _) _ _ _
  rw [if_neg (show ¬ (Value.ref d == Value.none) = true by intro z; cases z)]
  refine wpAny_bind (wpAny_pure (wpAny_bind (wpAny_dictEntries e dt ?_)))
  rw [if_neg (by simp)]
  refine wpAny_bind (wpAny_pure (wpAny_bind (wpAny_dictEpoch e dt ?_)))
  rw [if_neg (by simp)]
  refine wpAny_pure ?_
  have neg : ¬ ((i : Int) < 0) := by omega
  simp only [neg, if_false, Int.toNat_natCast, he]
  refine wpAny_bind ?_
  first | refine wpAny_bind (wpAny_typeNameOfWhole_itemiter ty (wpAny_pure ?_)) | refine wpAny_bind (wpAny_typeNameOf_itemiter ty (wpAny_pure ?_))
  show wpAny _ _ (setField (.ref it) 2 .none >>= _) _ _ _
  refine wpAny_bind (wpAny_setField hit rfl (by simp) ?_)
  exact de_stop hh q (Heap.SameBut.update ..).extBut
end
end PySem
namespace PySem
open Sem (wp)
section
variable {prog : Program} {w : World} {A : Around} {E : Value → Shared → Prop} {s : Shared} {d : Addr} {es : Array DictEntry} {ep : Nat}
variable {K : Type} [DecidableEq K] {knd : HeapKind prog w K}
end
end PySem
namespace L2
open PySem PyProof.Rows PySem.Spec PySem.Calls
section
variable {P : Program} {w : World} {H : Hp} {h : Heap} {a : Addr} {xs : NX}
theorem nd_de (ok : HOk P w H h) (x : NAt P w H a xs) : (a == sysModules) = false ∧ xs.length ≤ sizeLine ∧ ∃ ys es ep, Paired NPr xs ys ∧ DE h a es ep ∧ es.toList = ys.map (entryOfKey (nestKind (mixKind P w))) := by
  obtain ⟨z, y, ys, r, o, es, ep, e1, e2, e3, e4, _⟩ := nd_of ok x
  exact ⟨y, z, ys, es, ep, r, ⟨o, e1, e2, e3⟩, e4⟩
theorem nd_entry {ys : List (NK × Addr × Value)} {es : Array DictEntry} (r : Paired NPr xs ys) (e : es.toList = ys.map (entryOfKey (nestKind (mixKind P w)))) {i : Nat} {x : NK × Addr × V} (hx : xs[i]? = some x) : ∃ en, es[i]? = some en ∧ en.key = .ref x.2.1 ∧ RelV x.2.2 en.val := by
  have li := (List.getElem?_eq_some_iff.mp hx).1
  have ll := Paired.length r
  obtain ⟨y, hy⟩ : ∃ y, ys[i]? = some y := ⟨ys[i], List.getElem?_eq_getElem (by omega)⟩
  have at' : ∀ {l : NX} {m : List (NK × Addr × Value)} {j : Nat}, Paired NPr l m → l[j]? = some x → m[j]? = some y → NPr x y := by
    intro l m j q
    induction q generalizing j with
    | nil => intro z; cases z
    | cons h _ ih =>
      intro h1 h2
      cases j with
      | zero =>
        obtain rfl := Option.some.inj h1
        obtain rfl := Option.some.inj h2
        exact h
      | succ j => exact ih h1 h2
  obtain ⟨n1, n2, n3⟩ := at' r hx hy
  refine ⟨entryOfKey (nestKind (mixKind P w)) y, ?_, ?_, n3⟩
  · rw [← Array.getElem?_toList, e, List.getElem?_map, hy]
    rfl
  · show Value.ref y.2.1 = _
    rw [n2]
theorem nd_size {ys : List (NK × Addr × Value)} {es : Array DictEntry} (r : Paired NPr xs ys) (e : es.toList = ys.map (entryOfKey (nestKind (mixKind P w)))) : es.size = xs.length := by
  rw [← Array.length_toList, e, List.length_map]
  exact (Paired.length r).symm
end
section
variable {X : Cx} {P : Program} {w : World}
def rListN (P : Program) (w : World) : List V → Hp → VK → Prop := fun vs H Q => ∃ a xs, vs = [V.ref a] ∧ NAt P w H a xs ∧ ∀ l, H l = none → Q (.ref l) (upd H l (.lst (xs.map fun x => V.ref x.2.1)))
theorem call_listN (hP : X.prog = P) (hw : X.w = w) (hc : X.calm = true) : CallR X (.type "list") (rListN P w) := by
  subst hP hw
  intro pins s σ H xs us Q I r h
  obtain ⟨a, xs, rfl, na, q⟩ := h
  obtain ⟨u, rfl, rx⟩ := vals1 r
  cases rx
  obtain ⟨hd, hz, ys, es, ep, rr, de, ee⟩ := nd_de I.hok na
  have sz := nd_size rr ee
  refine PySem.W.kdl_call (de_src (es := es) (ep := ep) hd) (I.ok.hd hc) de (by omega) (fun h' tk acc' c' kp e it => ?_)
  refine ⟨.ref s.heap.objs.size, _, I.laid (t' := tk) kp (Nat.le_refl _) (show ObjOk X.prog X.w _ h' _ (.lst (xs.map fun x => V.ref x.2.1)) from ⟨by rw [List.length_map]; exact hz, acc'.toList, c', vals_of ?_ fun k x u hx hu => ?_, e⟩), rfl, q _ (I.hok.fresh (Nat.le_refl _))⟩
  · have h1 : acc'.toList.length = es.size := it.1
    rw [List.length_map, h1, sz]
  · have hu' : acc'[k]? = some u := by simpa using hu
    obtain ⟨en, e1, e2⟩ := it.2 k u hu'
    rw [List.getElem?_map] at hx
    obtain ⟨y, ey, rfl⟩ := Option.map_eq_some_iff.mp hx
    obtain ⟨en', f1, f2, _⟩ := nd_entry rr ee ey
    rw [e1] at f1
    obtain rfl := Option.some.inj f1
    show u = _
    rw [e2, f2]
def rEqN (P : Program) (w : World) : R2 := fun x y H Q => ∃ a b xs ys, x = .ref a ∧ y = .ref b ∧ NAt P w H a xs ∧ NAt P w H b ys ∧ xs.length = ys.length ∧ (∀ p ∈ xs, ∃ n, p.2.2 = V.int n ∧ lkN ys p.1 = some (V.int n)) ∧ Q (.bl true) H
end
end L2
namespace L2
open PySem PyProof.Rows PySem.Spec PySem.Calls
section
variable {X : Cx} {pins : List (Addr × Obj)} {σ : St} {H : Hp} {s : Shared} {d : Addr} {P : Program} {w : World} {xs : NX}
theorem Inv.freezeN (hP : X.prog = P) (hw : X.w = w) (I : Inv X pins σ H s) (h : H d = some (ND P w d xs)) : ∃ o, s.heap.get? d = some o ∧ Inv X pins σ (upd H d (.frz o (ND P w d xs))) s := by
  subst hP hw
  have ok := I.hok d _ h
  obtain ⟨⟨z, y, ys, r, nd, o, es, ep, e, c⟩, x, st⟩ := (show ObjOk X.prog X.w H s.heap d (ND X.prog X.w d xs) from ok)
  have mu : Mut (H d) := by rw [h]; trivial
  exact ⟨o, e, I.un (h' := s.heap) (t' := s.toks) (Un.write mu (.inl rfl) (fun _ _ _ q => q) ⟨o, e⟩) (I.hok.write mu (.inl rfl) (fun _ _ _ q => q) ⟨o, e⟩ ⟨e, ⟨z, y, ys, r, nd, o, es, ep, e, c⟩, x, st⟩)⟩
theorem Inv.thawU {o : Obj} {v : HO} (I : Inv X pins σ H s) (h : H d = some (.frz o v)) (h0 : ∀ o u, X.H₀ d ≠ some (.frz o u)) : Inv X pins σ (upd H d v) s := by
  have nn : ∀ b, H b = none → b ≠ d := fun b q z => by rw [z, h] at q; cases q
  refine ⟨I.ok, I.os, I.bare, ⟨I.base.keep, I.base.slot, fun b o' e n hx => ?_, I.base.there, fun b xs e => ?_, fun b o' u e => ?_, fun b ps e => ?_⟩, I.loc, I.cell, ?_, fun x c e => ?_, fun p hp => ?_, fun b u e => ?_, I.len⟩
  · have q := I.base.free b o' e n hx
    rw [upd_ne (nn b q)]
    exact q
  · have q := I.base.tups b xs e
    rw [upd_ne (ne_of q h (by intro z; cases z))]
    exact q
  · have q := I.base.frzs b o' u e
    rw [upd_ne (fun z => h0 o' u (by rw [← z]; exact e))]
    exact q
  · obtain ⟨more, q⟩ := I.base.tbls b ps e
    refine ⟨more, ?_⟩
    rw [upd_ne (ne_of q h (by intro z; cases z))]
    exact q
  · rw [upd_ne (nn _ I.free)]
    exact I.free
  · rw [upd_ne (nn _ (I.freeC x c e))]
    exact I.freeC x c e
  · obtain ⟨a, b, c⟩ := I.pin p hp
    exact ⟨a, by rw [upd_ne (nn _ b)]; exact b, c⟩
  · by_cases hb : b = d
    · subst hb
      rw [upd_same] at e
      cases e
      obtain ⟨q, ok⟩ := I.hok b _ h
      exact ok.stay (fun _ _ _ q => q) (fun c q => by rw [upd_ne (ne_of q h (by intro z; cases z))]; exact q) (fun c xs q => by rw [upd_ne (ne_of q h (by intro z; cases z))]; exact q)
    · rw [upd_ne hb] at e
      exact (I.hok b u e).stay (fun _ _ _ q => q) (fun c q => by rw [upd_ne (ne_of q h (by intro z; cases z))]; exact q) (fun c xs q => by rw [upd_ne (ne_of q h (by intro z; cases z))]; exact q)
theorem Inv.unfrozenU {φ : Heap → Prop} (I : Inv X pins σ H s) (h : H d = some (.ext φ)) : ∀ o u, X.H₀ d ≠ some (.frz o u) := fun o u e => by
  have q := I.base.frzs d o u e
  rw [h] at q
  cases q
def tFrzN (P : Program) (w : World) (t : TE) : TE := fun σ H Q => ∃ (d : Addr) (xs : NX), H d = some (ND P w d xs) ∧ ∀ o, t σ (upd H d (.frz o (ND P w d xs))) fun v H' => H' d = some (.frz o (ND P w d xs)) ∧ Q v (upd H' d (ND P w d xs))
def sFrzN (P : Program) (w : World) (t : TS) : TS := fun D σ H => ∃ (d : Addr) (xs : NX), H d = some (ND P w d xs) ∧ ∀ o, t { nx := fun σ' H' => H' d = some (.frz o (ND P w d xs)) ∧ D.nx σ' (upd H' d (ND P w d xs)), rt := fun v H' => H' d = some (.frz o (ND P w d xs)) ∧ D.rt v (upd H' d (ND P w d xs)), bk := fun σ' H' => H' d = some (.frz o (ND P w d xs)) ∧ D.bk σ' (upd H' d (ND P w d xs)), ct := fun σ' H' => H' d = some (.frz o (ND P w d xs)) ∧ D.ct σ' (upd H' d (ND P w d xs)) } σ (upd H d (.frz o (ND P w d xs)))
theorem ps_frzN (hP : X.prog = P) (hw : X.w = w) {st : Stmt} {t : TS} (h : PS X st t) : PS X st (sFrzN P w t) := by
  intro pins s σ H D I q0
  obtain ⟨d, xs, hd, q⟩ := q0
  obtain ⟨o, eo, I1⟩ := I.freezeN hP hw hd
  refine thn (h pins s σ _ _ I1 (q o)) fun f s1 q1 => ?_
  have un := I.unfrozenU hd
  cases f with
  | next => obtain ⟨σ', H', I2, hz, q2⟩ := q1; exact ⟨σ', _, I2.thawU hz un, q2⟩
  | brk => obtain ⟨σ', H', I2, hz, q2⟩ := q1; exact ⟨σ', _, I2.thawU hz un, q2⟩
  | cont => obtain ⟨σ', H', I2, hz, q2⟩ := q1; exact ⟨σ', _, I2.thawU hz un, q2⟩
  | ret u => obtain ⟨v, σ', H', I2, r, hz, q2⟩ := q1; exact ⟨v, σ', _, I2.thawU hz un, r, q2⟩
end
def ItN (P : Program) (w : World) (d : Addr) (o : Obj) (xs : NX) : It :=
  ⟨fun i H => H d = some (.frz o (ND P w d xs)) ∧ i < xs.length, fun i H x H' => ∃ p k b v, x = .ref p ∧ H p = none ∧ H' = upd H p (.tup [.ref b, v]) ∧ xs[i]? = some (k, b, v), fun i H => H d = some (.frz o (ND P w d xs)) ∧ xs.length = i⟩
theorem turn_itemsN {P : Program} {w : World} {K : PySem.W.Frag} {elts : List Expr} {x1} {pos : Pos} (d it : Addr) (o : Obj) (xs : NX) {ys : List (NK × Addr × Value)} {es : Array DictEntry} {ep : Nat} (r : Paired NPr xs ys) (ee : es.toList = ys.map (entryOfKey (nestKind (mixKind P w)))) (hd : o.ExactDict) (he : o.data = .dict es ep) :
    Turn P w K (.Tuple elts x1 pos) (ItN P w d o xs) [it] it (fun i h => ∃ ok ov, IsItemIter h it d i es.size ep ok ov) where
  mem := by simp
  obj := fun i h st b hb => by
    have e : b = it := by simpa using hb
    subst e
    obtain ⟨ok, ov, k⟩ := st
    exact ⟨_, k, fun v z => by cases z⟩
  keep := fun i h h' st k => by
    obtain ⟨ok, ov, q⟩ := st
    exact ⟨ok, ov, k it (by simp) _ q⟩
  item := by
    intro X hP hw hK hc i pins s σ H E I hf st hg
    subst hP hw hK
    obtain ⟨hz, hi⟩ := hg
    obtain ⟨eo, _⟩ := I.hok d _ hz
    obtain ⟨f0, f1, f2, f3, f4, f5⟩ := hf it (by simp)
    obtain ⟨ok, ov, k⟩ := st
    obtain ⟨⟨kx, bx, vx⟩, hx⟩ : ∃ x, xs[i]? = some x := ⟨xs[i], List.getElem?_eq_getElem hi⟩
    obtain ⟨en, e1, e2, e3⟩ := nd_entry r ee hx
    refine de_nextI k ⟨o, eo, hd, he⟩ e1 fun h2 ko tup sz kp => ?_
    refine ⟨_, rfl, ?_⟩
    refine wpAny_letOwnedTupleGo_items ko fun h3 k3 s3 => ?_
    have lt1 : it < s.heap.objs.size := Heap.lt_size k
    have tup3 : h3.get? s.heap.objs.size = some { cls := .type "tuple", data := .seq #[en.key, en.val] } := (s3.2 _ (Nat.ne_of_gt lt1)).trans tup
    have fr : H s.heap.objs.size = none := I.hok.fresh (Nat.le_refl _)
    have I2 : Inv X pins σ (upd H s.heap.objs.size (.tup [.ref bx, vx])) { s with heap := h3 } := by
      refine I.step (t' := s.toks) (g' := s.gens) (d' := s.drawn) (ch := [it]) (fun b hb => ?_) (fun b o _ _ hc e _ => ?_) (fun b o _ _ hc e _ => ?_) (fun b o _ e n => ?_) (fun b o hc e => ?_) (fun b xs e => ?_) (fun b o xs e => ?_) (fun b ps e => ⟨#[], ?_⟩) (fun m hm => ?_) (fun b v e => ?_) I.bare
      · rw [List.mem_singleton.mp hb]; exact ⟨f3, f1, f4, f5⟩
      · exact (s3.2 b (fun z => hc (by simp [z]))).trans (kp b o (fun z => hc (by simp [z])) e)
      · exact ⟨o.slots, (s3.2 b (fun z => hc (by simp [z]))).trans (kp b o (fun z => hc (by simp [z])) e)⟩
      · rw [upd_ne (Nat.ne_of_lt (Heap.lt_size e))]; exact n
      · exact ⟨o, (s3.2 b (fun z => hc (by simp [z]))).trans (kp b o (fun z => hc (by simp [z])) e)⟩
      · rw [upd_ne (ne_of_none e fr)]; exact e
      · rw [upd_ne (ne_of_none e fr)]; exact e
      · rw [upd_ne (ne_of_none e fr), e]; simp
      · obtain ⟨o, es, ep, ho, q⟩ := hm
        exact ⟨o, es, ep, (s3.2 _ (Ne.symm f1)).trans (kp _ o (Ne.symm f1) ho), q⟩
      · by_cases hb : b = s.heap.objs.size
        · subst hb
          rw [upd_same] at e
          cases e
          exact ⟨small (by show 2 ≤ 1000; decide), [en.key, en.val], .cons e2 (.cons e3 .nil), _, tup3, rfl, _, rfl⟩
        · rw [upd_ne hb] at e
          have nn : ∀ c v, H c = some v → c ≠ it := fun c v q z => by rw [z, f0] at q; cases q
          refine (I.hok b v e).stay (fun c v' hc q => ?_) (fun c q => by rw [upd_ne (ne_of_none q fr)]; exact q) (fun c xs q => by rw [upd_ne (ne_of_none q fr)]; exact q)
          have m : c ≠ it := by
            rcases hc with z | z
            · rw [z]; exact nn b v e
            · exact nn c _ z
          exact (s3.2 c m).trans (kp c v' m q)
    refine ⟨.ref s.heap.objs.size, _, I2, rfl, ⟨_, _, _, _, rfl, fr, rfl, hx⟩, ⟨_, _, k3⟩, fun b hb => ?_⟩
    rw [upd_ne (fun z => ?_)]
    · exact (hf b hb).1
    · rw [z] at hb
      exact Nat.ne_of_gt lt1 (List.mem_singleton.mp hb)
  done := by
    intro X hP hw hK hc i pins s σ H E I hf st hg
    subst hP hw hK
    obtain ⟨hz, hi⟩ := hg
    obtain ⟨eo, _⟩ := I.hok d _ hz
    obtain ⟨f0, f1, f2, f3, f4, f5⟩ := hf it (by simp)
    obtain ⟨ok, ov, k⟩ := st
    have sz := nd_size r ee
    exact de_endI (I.ok.hd hc) k ⟨o, eo, hd, he⟩ (Array.getElem?_eq_none (by omega)) fun h' eb => ⟨rfl, I.turned (t' := s.toks) (fun b o hb e => eb b o hb e) f0 f1 f3 f4 f5⟩
  self := fun A i s Q E st h => by
    obtain ⟨ok, ov, k⟩ := st
    exact PySem.W.kcp_self k h
section
variable {X : Cx} {elts : List Expr} {x1 : Nat} {tpos : Pos} {P : Program} {w : World}
def rItemsN (P : Program) (w : World) : V → List V → Hp → VK → Prop := fun x vs H Q => ∃ d o xs, x = .ref d ∧ vs = [] ∧ H d = some (.frz o (ND P w d xs)) ∧ ∀ v, H v = none → Q (.ref v) (upd H v (IW v d))
theorem frzN_de {pins : List (Addr × Obj)} {σ : St} {H : Hp} {s : Shared} {d : Addr} {o : Obj} {xs : NX} (I : Inv X pins σ H s) (hz : H d = some (.frz o (ND X.prog X.w d xs))) : (d == sysModules) = false ∧ ∃ ys es ep, s.heap.get? d = some o ∧ o.ExactDict ∧ o.data = .dict es ep ∧ Paired NPr xs ys ∧ es.toList = ys.map (entryOfKey (nestKind (mixKind X.prog X.w))) := by
  obtain ⟨eo, ⟨z, y, ys, r, nd, o', es, ep, e, xd, dt, ee⟩, _⟩ := I.hok d _ hz
  rw [eo] at e
  obtain rfl := Option.some.inj e
  exact ⟨y, ys, es, ep, eo, xd, dt, r, ee⟩
theorem mt_itemsN (hP : X.prog = P) (hw : X.w = w) : MtR X "dict.items" (rItemsN P w) := by
  subst hP hw
  intro pins s σ H x vs v us Q I rx rv h
  obtain ⟨d, o, xs, rfl, rfl, hz, q⟩ := h
  cases rx
  cases rv
  obtain ⟨hd, ys, es, ep, eo, xd, dt, r, ee⟩ := frzN_de I hz
  have de : DE s.heap d es ep := ⟨o, eo, xd, dt⟩
  refine call_meetsIn PySem.F.slot_dict_items de.ty PySem.F.entry_dict_items (PySem.F.args_dict_items_1 _) (de_items hd) ⟨⟨es, ep, de⟩, ?_⟩
  refine ⟨.ref s.heap.objs.size, _, I.laid (t' := s.toks) (o := IW s.heap.objs.size d) (fun b ob q => Heap.get?_push_of_some _ q) (Nat.le_refl _) ?_, rfl, q _ (I.hok.fresh (Nat.le_refl _))⟩
  refine ⟨⟨_, Heap.get?_push_size _ rfl, rfl, rfl⟩, ⟨_, Heap.get?_push_size _ rfl⟩, fun h1 h2 ⟨o, ho, r⟩ k => ⟨o, k o ho, r⟩⟩
def iItemsN (P : Program) (w : World) (tl : TE) : TI := fun σ H R => tl σ H fun x H1 => ∃ v d o xs, x = .ref v ∧ H1 v = some (IW v d) ∧ H1 d = some (.frz o (ND P w d xs)) ∧ R (ItN P w d o xs) H1
theorem pi_itemsN (hP : X.prog = P) (hw : X.w = w) {l : Expr} {tl : TE} (hl : PE X l tl) : PI X (.Tuple elts x1 tpos) l (iItemsN P w tl) := by
  subst hP hw
  intro pins s σ H R I h
  refine thn (hl pins s σ H _ I h) fun v s1 ⟨x, H1, I1, r1, q1⟩ => ?_
  obtain ⟨v, d, o, xs, rfl, hv, hz, q⟩ := q1
  cases r1
  obtain ⟨hd, ys, es, ep, eo, xd, dt, r, ee⟩ := frzN_de I1 hz
  obtain ⟨kv, _, _⟩ := (show ObjOk X.prog X.w H1 s1.heap v (IW v d) from I1.hok v _ hv)
  refine de_iterI kv ⟨o, eo, xd, dt⟩ ?_
  refine ⟨s1.heap.objs.size, [s1.heap.objs.size], _, _, H1, rfl, I1.kept (t' := s1.toks) fun b o e => Heap.get?_push_of_some _ e, turn_itemsN d _ o xs r ee xd dt, ⟨_, _, Heap.get?_push_size _ rfl⟩, fun b hb => ?_, q⟩
  have e : b = s1.heap.objs.size := by simpa using hb
  subst e
  exact I1.fpOk (Nat.le_refl _) (I1.hok.fresh (Nat.le_refl _))
end
end L2
namespace PySem
open Sem (wp)
theorem mn_args (a v : Value) : argsOk "min" ⟨[a], [(Str.ofString "default", v)]⟩ := by unfold argsOk; kernel_rfl
section
variable {prog : Program} {w : World} {A : Around} {R : Result → Shared → Prop} {I S : Addr} {fp wr : List Addr} {n : Nat} {P : Nat → Value → Prop} {St : Nat → Heap → Prop} {G : Heap → Prop} {bt : Nat → Nat → Bool} {kws : List (Str × Value)}
theorem mn_name : (toString "min" ++ toString ".loop" : String) = "min.loop" := by decide
theorem mn_loop (W : Walks prog w A.in1 I fp wr n P St) (hS : S ∉ fp) (gk : ∀ h h', G h → (∀ b o, b ∉ wr → b ≠ S → h.get? b = some o → h'.get? b = some o) → G h')
    (cmp : ∀ i j u v (s : Shared) (Q E : Value → Shared → Prop), G s.heap → P i u → P j v → Q (.bool (bt i j)) s → wpAny (model prog w) A.in1 (richCompare .Lt u v) Q E s) :
    ∀ (m j : Nat) (s : Shared) (vb : Value) (c : Nat), j + 1 + m = n → G s.heap → St (j + 1) s.heap → P (argBest bt j) vb → s.heap.get? S = some { cls := .type "list", dict := none, data := .seq #[vb, vb] c, slots := #[] } →
      (∀ v h' tk, P (argBest bt (n - 1)) v → (∀ b o, b ∉ wr → b ≠ S → s.heap.get? b = some o → h'.get? b = some o) → R (.ok (.ret v)) { s with heap := h', toks := tk }) →
      codeAny (model prog w) A (.builtin "min.loop" ⟨[.ref I, .none, .ref S], kws⟩) R s := by
  have nw : S ∉ wr := fun z => hS (W.sub _ z)
  intro m
  induction m with
  | zero =>
    intro j s vb c hj hG st pb eS hR
    have en : j + 1 = n := by omega
    refine codeAny_builtin F.entry_min_loop ?_
    rw [Around.under_plainId F.plain_min_loop _]
    show wpAny _ _ (seqItems? (.ref S) >>= _) _ _ _
    refine wpAny_bind (wpAny_seqItems eS rfl ?_)
    show wpAny _ _ (tryCatch (pyNext (.ref I)) _ >>= _) _ _ _
    refine wpAny_bind (wpAny_tryCatch (W.done s _ _ (en ▸ st) fun h' tk k => ?_))
    have eS2 := k S _ nw eS
    show wpAny _ _ (updateSeq S (fun _ => #[]) >>= _) _ _ _
    refine wpAny_bind (wpAny_updateSeq eS2 rfl (wpAny_bind (wpAny_letGo (wpAny_pure ?_))))
    exact hR vb _ tk (by rw [← en]; exact pb) fun b o hb hs e => (Heap.get?_update_other _ _ (Ne.symm hs)).trans (k b o hb e)
  | succ m ih =>
    intro j s vb c hj hG st pb eS hR
    have lt : j + 1 < n := by omega
    refine codeAny_builtin F.entry_min_loop ?_
    rw [Around.under_plainId F.plain_min_loop _]
    show wpAny _ _ (seqItems? (.ref S) >>= _) _ _ _
    refine wpAny_bind (wpAny_seqItems eS rfl ?_)
    show wpAny _ _ (tryCatch (pyNext (.ref I)) _ >>= _) _ _ _
    refine wpAny_bind (wpAny_tryCatch (W.item (j + 1) s _ _ lt st fun v h' tk pv st2 k => ?_))
    have eS2 := k S _ nw eS
    have g2 : G h' := gk _ _ hG fun b o hb _ e => k b o hb e
    show wpAny _ _ (tryCatch (holding [v, v] (richCompare .Lt v vb >>= _)) _ >>= _) _ _ _
    refine wpAny_bind (wpAny_tryCatch (wpAny_holding (wpAny_bind (cmp (j + 1) (argBest bt j) v vb _ _ _ g2 pv pb ?_))))
    refine wpAny_bind (wpAny_holding (wpAny_truthy_bool (wpAny_bind (wpAny_letGo (wpAny_pure ?_)))))
    have ab : argBest bt (j + 1) = if bt (j + 1) (argBest bt j) then j + 1 else argBest bt j := rfl
    cases hb : bt (j + 1) (argBest bt j) with
    | true =>
      rw [hb, if_pos rfl] at ab
      rw [if_pos rfl]
      refine wpAny_bind (wpAny_updateSeq eS2 rfl (wpAny_bind (wpAny_letGo ?_)))
      rw [mn_name]
      have oth : ∀ b o, b ≠ S → h'.get? b = some o → (h'.update S (Obj.mapSeq (fun _ => #[v, v]))).get? b = some o := fun b o z e => (Heap.get?_update_other _ _ (Ne.symm z)).trans e
      refine wpAny_pure ⟨plainId_quiet F.plain_min_loop _, ih (j + 1) _ v _ (by omega) (gk _ _ g2 fun b o _ z e => oth b o z e) (W.frame _ _ _ st2 fun b hf o e => oth b o (fun z => hS (by rw [← z]; exact hf)) e) (by rw [ab]; exact pv) (Heap.get?_update_self _ eS2 rfl) fun v' h2 tk2 pv' k2 => ?_⟩
      exact hR v' h2 tk2 pv' fun b o hw hs e => k2 b o hw hs (oth b o hs (k b o hw e))
    | false =>
      rw [hb, if_neg (by decide)] at ab
      rw [if_neg (by decide)]
      refine wpAny_bind (wpAny_letGo ?_)
      rw [mn_name]
      refine wpAny_pure ⟨plainId_quiet F.plain_min_loop _, ih (j + 1) _ vb c (by omega) g2 st2 (by rw [ab]; exact pb) eS2 fun v' h2 tk2 pv' k2 => ?_⟩
      exact hR v' h2 tk2 pv' fun b o hw hs e => k2 b o hw hs (k b o hw e)
theorem mn_first (W : Walks prog w A.in1 I fp wr n P St) (hS : S ∉ fp) (gk : ∀ h h', G h → (∀ b o, b ∉ wr → b ≠ S → h.get? b = some o → h'.get? b = some o) → G h')
    (cmp : ∀ i j u v (s : Shared) (Q E : Value → Shared → Prop), G s.heap → P i u → P j v → Q (.bool (bt i j)) s → wpAny (model prog w) A.in1 (richCompare .Lt u v) Q E s) {s : Shared} {c : Nat} (hn : 0 < n) (hG : G s.heap) (st : St 0 s.heap)
    (eS : s.heap.get? S = some { cls := .type "list", dict := none, data := .seq #[] c, slots := #[] })
    (hR : ∀ v h' tk, P (argBest bt (n - 1)) v → (∀ b o, b ∉ wr → b ≠ S → s.heap.get? b = some o → h'.get? b = some o) → R (.ok (.ret v)) { s with heap := h', toks := tk }) :
    codeAny (model prog w) A (.builtin "min.loop" ⟨[.ref I, .none, .ref S], kws⟩) R s := by
  have nw : S ∉ wr := fun z => hS (W.sub _ z)
  refine codeAny_builtin F.entry_min_loop ?_
  rw [Around.under_plainId F.plain_min_loop _]
  show wpAny _ _ (seqItems? (.ref S) >>= _) _ _ _
  refine wpAny_bind (wpAny_seqItems eS rfl ?_)
  show wpAny _ _ (tryCatch (pyNext (.ref I)) _ >>= _) _ _ _
  refine wpAny_bind (wpAny_tryCatch (W.item 0 s _ _ hn st fun v h' tk pv st2 k => ?_))
  have eS2 := k S _ nw eS
  show wpAny _ _ (updateSeq S (fun _ => #[v, v]) >>= _) _ _ _
  have oth : ∀ b o, b ≠ S → h'.get? b = some o → (h'.update S (Obj.mapSeq (fun _ => #[v, v]))).get? b = some o := fun b o z e => (Heap.get?_update_other _ _ (Ne.symm z)).trans e
  refine wpAny_bind (wpAny_updateSeq eS2 rfl ?_)
  rw [mn_name]
  refine wpAny_pure ⟨plainId_quiet F.plain_min_loop _, mn_loop W hS gk cmp (n - 1) 0 _ v _ (by omega) (gk _ _ (gk _ _ hG fun b o hb _ e => k b o hb e) fun b o _ z e => oth b o z e) (W.frame _ _ _ st2 fun b hf o e => oth b o (fun z => hS (by rw [← z]; exact hf)) e) pv (Heap.get?_update_self _ eS2 rfl) fun v' h2 tk2 pv' k2 => ?_⟩
  exact hR v' h2 tk2 pv' fun b o hw hs e => k2 b o hw hs (oth b o hs (k b o hw e))
theorem mn_none (W : Walks prog w A.in1 I fp wr 0 P St) {s : Shared} {c : Nat} {d : Value} (st : St 0 s.heap) (eS : s.heap.get? S = some { cls := .type "list", dict := none, data := .seq #[] c, slots := #[] })
    (hR : ∀ h' tk, (∀ b o, b ∉ wr → s.heap.get? b = some o → h'.get? b = some o) → R (.ok (.ret d)) { s with heap := h', toks := tk }) :
    codeAny (model prog w) A (.builtin "min.loop" ⟨[.ref I, .none, .ref S], [(Str.ofString "default", d)]⟩) R s := by
  refine codeAny_builtin F.entry_min_loop ?_
  rw [Around.under_plainId F.plain_min_loop _]
  show wpAny _ _ (seqItems? (.ref S) >>= _) _ _ _
  refine wpAny_bind (wpAny_seqItems eS rfl ?_)
  show wpAny _ _ (tryCatch (pyNext (.ref I)) _ >>= _) _ _ _
  refine wpAny_bind (wpAny_tryCatch (W.done s _ _ st fun h' tk k => ?_))
  exact wpAny_bind (wpAny_rule (wpAny_pure (hR h' tk k)))
end
end PySem
namespace PySem
open Sem (wp)
def IsMv (h : Heap) (r : Addr) (d p : Int) : Prop := ∃ o m n t, h.get? r = some o ∧ o.cls = .type "tuple" ∧ o.data = .seq #[.int d t, .ref m] n ∧ ∃ o2 x n2 t2, h.get? m = some o2 ∧ o2.cls = .type "tuple" ∧ o2.data = .seq #[.int p t2, x] n2
section
variable {prog : Program} {w : World} {A : Around} {E : Value → Shared → Prop} {s : Shared}
theorem mv_eq {a b : Addr} {o o' : Obj} {p q : Int} {t t' : Tok} {x y : Value} {n n' : Nat} {Q : Bool → Shared → Prop} (hu : A.units + 4 < cLine) (h1 : s.heap.get? a = some o) (c1 : o.cls = .type "tuple") (d1 : o.data = .seq #[.int p t, x] n) (h2 : s.heap.get? b = some o') (c2 : o'.cls = .type "tuple") (d2 : o'.data = .seq #[.int q t', y] n') (ne : p ≠ q) (h : Q false s) : wpAny (model prog w) A (eqBool (.ref a) (.ref b)) Q E s := by
  have ab : a ≠ b := fun z => by
    rw [z, h2] at h1
    obtain rfl := Option.some.inj h1
    rw [d2] at d1
    injection d1 with d1
    have l := congrArg Array.toList d1
    obtain ⟨l1, _⟩ := List.cons.inj l
    injection l1 with l1
    exact ne l1.symm
  unfold eqBool
  try with_reducible refine wpAny_holding ?_
  rw [if_neg (fun z => ab (by have := eq_of_beq z; injection this))]
  refine wpAny_bind (wpAny_richCompare_same_room (op := .Eq) ⟨o, h1, c1⟩ ⟨o', h2, c2⟩ F.slot_tuple_eq (wpAny_call_entry F.slot_tuple_eq ⟨o, h1, c1⟩ F.entry_tuple_eq ?_ (F.args_tuple_eq_2 _ _)) (by omega))
  show wpAny _ _ (isInstance (.ref b) (.type "tuple") >>= _) _ _ _
  refine wpAny_bind (wpAny_isInstance (T := "tuple") ⟨o', h2, c2⟩ isSubtype_tuple_tuple ?_)
  rw [if_neg (by decide)]
  refine wpAny_bind (wpAny_tupleItemsOf h1 d1 (wpAny_bind (wpAny_tupleItemsOf h2 d2 (wpAny_bind ?_))))
  show wpAny _ _ (forIn [(Value.int p t, Value.int q t'), (x, y)] _ _) _ _ _
  rw [List.forIn_cons]
  refine wpAny_bind (wpAny_bind ((intKind prog w).eqBool (a := p) (b := q) (by simp [intKind, Value.isInt]) (by simp [intKind, Value.isInt]) ?_))
  rw [decide_eq_false ne]
  exact wpAny_bind (wpAny_pure (wpAny_pure (wpAny_pure (wpAny_pure ⟨_, rfl, (by intro z; cases z), wpAny_truthy_bool h⟩))))
theorem mv_in {a b : Addr} {o o' : Obj} {p q : Int} {t t' : Tok} {x y : Value} {n n' : Nat} {Q : Value → Shared → Prop} (hu : A.units + 4 < cLine) (h1 : s.heap.get? a = some o) (c1 : o.cls = .type "tuple") (d1 : o.data = .seq #[.int p t, x] n) (h2 : s.heap.get? b = some o') (c2 : o'.cls = .type "tuple") (d2 : o'.data = .seq #[.int q t', y] n') (ne : p ≠ q) (h : Q (.bool (decide (p < q))) s) : wpAny (model prog w) A (richCompare .Lt (.ref a) (.ref b)) Q E s := by
  refine wpAny_richCompare_same_room (op := .Lt) ⟨o, h1, c1⟩ ⟨o', h2, c2⟩ F.slot_tuple_lt (wpAny_call_entry F.slot_tuple_lt ⟨o, h1, c1⟩ F.entry_tuple_lt ?_ (F.args_tuple_lt_2 _ _)) (by omega)
  show wpAny _ _ (isInstance (.ref b) (.type "tuple") >>= _) _ _ _
  refine wpAny_bind (wpAny_isInstance (T := "tuple") ⟨o', h2, c2⟩ isSubtype_tuple_tuple ?_)
  rw [if_neg (by decide)]
  refine wpAny_bind (wpAny_tupleItemsOf h1 d1 (wpAny_bind (wpAny_tupleItemsOf h2 d2 (wpAny_bind ?_))))
  show wpAny _ _ (forIn [(Value.int p t, Value.int q t'), (x, y)] _ _) _ _ _
  rw [List.forIn_cons]
  refine wpAny_bind (wpAny_bind ((intKind prog w).eqBool (a := p) (b := q) (by simp [intKind, Value.isInt]) (by simp [intKind, Value.isInt]) ?_))
  rw [decide_eq_false ne]
  refine wpAny_bind (wpAny_rule (wpAny_bind (PySem.P.lt_int (wpAny_bind (wpAny_pure (wpAny_pure (wpAny_pure (wpAny_pure ?_))))))))
  exact ⟨_, rfl, (by intro z; cases z), h⟩
def mvB (d p e q : Int) : Bool := if d = e then decide (p < q) else decide (d < e)
theorem mv_lt {a b : Addr} {d p e q : Int} {Q : Value → Shared → Prop} (hu : A.units + 8 < cLine) (hx : IsMv s.heap a d p) (hy : IsMv s.heap b e q) (ap : a = b ∨ p ≠ q) (h : Q (.bool (mvB d p e q)) s) : wpAny (model prog w) A (richCompare .Lt (.ref a) (.ref b)) Q E s := by
  obtain ⟨o, m, n, t, h1, c1, d1, o2, x, n2, t2, g1, k1, f1⟩ := id hx
  obtain ⟨o', m', n', t', h2, c2, d2, o3, y, n3, t3, g2, k2, f2⟩ := id hy
  refine wpAny_richCompare_same_room (op := .Lt) ⟨o, h1, c1⟩ ⟨o', h2, c2⟩ F.slot_tuple_lt (wpAny_call_entry F.slot_tuple_lt ⟨o, h1, c1⟩ F.entry_tuple_lt ?_ (F.args_tuple_lt_2 _ _)) (by omega)
  show wpAny _ _ (isInstance (.ref b) (.type "tuple") >>= _) _ _ _
  refine wpAny_bind (wpAny_isInstance (T := "tuple") ⟨o', h2, c2⟩ isSubtype_tuple_tuple ?_)
  rw [if_neg (by decide)]
  refine wpAny_bind (wpAny_tupleItemsOf h1 d1 (wpAny_bind (wpAny_tupleItemsOf h2 d2 (wpAny_bind ?_))))
  show wpAny _ _ (forIn [(Value.int d t, Value.int e t'), (.ref m, .ref m')] _ _) _ _ _
  rw [List.forIn_cons]
  refine wpAny_bind (wpAny_bind ((intKind prog w).eqBool (a := d) (b := e) (by simp [intKind, Value.isInt]) (by simp [intKind, Value.isInt]) ?_))
  unfold mvB at h
  by_cases de : d = e
  · rw [if_pos de] at h
    rw [decide_eq_true de]
    refine wpAny_pure ?_
    show wpAny _ _ (forIn [(Value.ref m, Value.ref m')] _ _) _ _ _
    rw [List.forIn_cons]
    rcases ap with ab | ne
    · subst ab
      rw [h2] at h1
      obtain rfl := Option.some.inj h1
      rw [d2] at d1
      injection d1 with d1
      have l := congrArg Array.toList d1
      obtain ⟨_, l2⟩ := List.cons.inj l
      obtain ⟨l3, _⟩ := List.cons.inj l2
      injection l3 with l3
      subst l3
      rw [g2] at g1
      obtain rfl := Option.some.inj g1
      rw [f2] at f1
      injection f1 with f1
      obtain ⟨l4, _⟩ := List.cons.inj (congrArg Array.toList f1)
      injection l4 with l4
      rw [l4, decide_eq_false (by omega)] at h
      refine wpAny_bind (wpAny_bind (SeqAt.EqAt.same _ prog w _ _ (wpAny_pure ?_)))
      show wpAny _ _ (forIn [] _ _) _ _ _
      rw [List.forIn_nil]
      exact wpAny_pure (wpAny_pure ⟨_, rfl, (by intro z; cases z), h⟩)
    · refine wpAny_bind (wpAny_bind (mv_eq (by show A.units + 1 + 4 < cLine; omega) g1 k1 f1 g2 k2 f2 ne ?_))
      rw [if_pos (by rfl)]
      refine wpAny_bind (wpAny_rule (wpAny_bind (mv_in (by show A.units + 1 + 4 < cLine; omega) g1 k1 f1 g2 k2 f2 ne (wpAny_bind (wpAny_pure (wpAny_pure (wpAny_pure (wpAny_pure ?_))))))))
      exact ⟨_, rfl, (by intro z; cases z), h⟩
  · rw [if_neg de] at h
    rw [decide_eq_false de]
    refine wpAny_bind (wpAny_rule (wpAny_bind (PySem.P.lt_int (wpAny_bind (wpAny_pure (wpAny_pure (wpAny_pure (wpAny_pure ?_))))))))
    exact ⟨_, rfl, (by intro z; cases z), h⟩
end
end PySem
namespace L2
open PySem PyProof.Rows PySem.Spec PySem.Calls
theorem mvB_iff {d p e q : Int} : mvB d p e q = true ↔ d < e ∨ (d = e ∧ p < q) := by
  unfold mvB
  by_cases h : d = e
  · rw [if_pos h, decide_eq_true_iff]; omega
  · rw [if_neg h, decide_eq_true_iff]; omega
theorem arg_mv (f g : Nat → Int) : ∀ k, argBest (fun i j => mvB (f i) (g i) (f j) (g j)) k ≤ k ∧ ∀ j, j ≤ k → mvB (f j) (g j) (f (argBest (fun i j => mvB (f i) (g i) (f j) (g j)) k)) (g (argBest (fun i j => mvB (f i) (g i) (f j) (g j)) k)) = false
  | 0 => ⟨Nat.le_refl _, fun j hj => by
      rw [Nat.le_zero.mp hj, Bool.eq_false_iff]
      intro z
      have := mvB_iff.mp z
      show False
      change f 0 < f 0 ∨ (f 0 = f 0 ∧ g 0 < g 0) at this
      omega⟩
  | k + 1 => by
    obtain ⟨h1, h2⟩ := arg_mv f g k
    have e : argBest (fun i j => mvB (f i) (g i) (f j) (g j)) (k + 1) = if mvB (f (k + 1)) (g (k + 1)) (f (argBest (fun i j => mvB (f i) (g i) (f j) (g j)) k)) (g (argBest (fun i j => mvB (f i) (g i) (f j) (g j)) k)) = true then k + 1 else argBest (fun i j => mvB (f i) (g i) (f j) (g j)) k := rfl
    generalize argBest (fun i j => mvB (f i) (g i) (f j) (g j)) k = b at h1 h2 e
    rw [e]
    cases c : mvB (f (k + 1)) (g (k + 1)) (f b) (g b) with
    | true =>
      rw [if_pos rfl]
      have c' := mvB_iff.mp c
      refine ⟨Nat.le_refl _, fun j hj => ?_⟩
      rw [Bool.eq_false_iff]
      intro z
      have z' := mvB_iff.mp z
      by_cases ej : j = k + 1
      · rw [ej] at z'; omega
      · have := h2 j (by omega)
        rw [Bool.eq_false_iff] at this
        exact this (mvB_iff.mpr (by omega))
    | false =>
      rw [if_neg (by decide)]
      refine ⟨by omega, fun j hj => ?_⟩
      by_cases ej : j = k + 1
      · rw [ej]; exact c
      · exact h2 j (by omega)
theorem arg_min (is : List Int) : ∀ k, k < is.length → argBest (fun a b => decide (is.getD a 0 < is.getD b 0)) k ≤ k ∧ ∀ j, j ≤ k → is.getD (argBest (fun a b => decide (is.getD a 0 < is.getD b 0)) k) 0 ≤ is.getD j 0
  | 0, _ => ⟨Nat.le_refl _, fun j hj => by rw [Nat.le_zero.mp hj]; exact Int.le_refl _⟩
  | k + 1, hk => by
    obtain ⟨h1, h2⟩ := arg_min is k (by omega)
    have e : argBest (fun a b => decide (is.getD a 0 < is.getD b 0)) (k + 1) = if decide (is.getD (k + 1) 0 < is.getD (argBest (fun a b => decide (is.getD a 0 < is.getD b 0)) k) 0) = true then k + 1 else argBest (fun a b => decide (is.getD a 0 < is.getD b 0)) k := rfl
    generalize argBest (fun a b => decide (is.getD a 0 < is.getD b 0)) k = b at h1 h2 e
    rw [e]
    by_cases c : is.getD (k + 1) 0 < is.getD b 0
    · rw [if_pos (decide_eq_true c)]
      refine ⟨Nat.le_refl _, fun j hj => ?_⟩
      by_cases ej : j = k + 1
      · rw [ej]; exact Int.le_refl _
      · have := h2 j (by omega)
        omega
    · rw [if_neg (by rw [decide_eq_false c]; decide)]
      refine ⟨by omega, fun j hj => ?_⟩
      by_cases ej : j = k + 1
      · rw [ej]; omega
      · exact h2 j (by omega)
def Mv (H : Hp) (r : Addr × Int × Int) : Prop := ∃ m x, H r.1 = some (.tup [.int r.2.1, .ref m]) ∧ H m = some (.tup [.int r.2.2, x])
theorem mv_of {P : Program} {w : World} {H : Hp} {h : Heap} {r : Addr × Int × Int} (ok : HOk P w H h) (x : Mv H r) : IsMv h r.1 r.2.1 r.2.2 := by
  obtain ⟨m, x, h1, h2⟩ := x
  obtain ⟨_, its, r1, o, e1, e2, n, e3⟩ := (show ObjOk P w H h r.1 (.tup [.int r.2.1, .ref m]) from ok _ _ h1)
  obtain ⟨_, jts, r2, o2, g1, g2, n2, g3⟩ := (show ObjOk P w H h m (.tup [.int r.2.2, x]) from ok _ _ h2)
  cases r1 with
  | cons a b =>
    cases b with
    | cons c d =>
      cases d
      cases r2 with
      | cons a' b' =>
        cases b' with
        | cons c' d' =>
          cases d'
          obtain ⟨t, rfl⟩ := a
          obtain ⟨t', rfl⟩ := a'
          cases c
          exact ⟨o, m, n, t, e1, e2, e3, o2, _, n2, t', g1, g2, g3⟩
theorem mv_keep {h h' : Heap} {r : Addr} {d p : Int} (x : IsMv h r d p) (k : ∀ b o, h.get? b = some o → o.cls = .type "tuple" → h'.get? b = some o) : IsMv h' r d p := by
  obtain ⟨o, m, n, t, h1, c1, d1, o2, x, n2, t2, g1, k1, f1⟩ := x
  exact ⟨o, m, n, t, k _ _ h1 c1, c1, d1, o2, x, n2, t2, k _ _ g1 k1, k1, f1⟩
section
variable {X : Cx}
def rMinMv (K : PySem.W.Frag) : List V → Hp → VK → Prop := fun xs H Q => ∃ (p : Addr) (rs : List (Addr × Int × Int)), xs = [.ref p] ∧ SqL K H p (rs.map fun r => V.ref r.1) ∧ 0 < rs.length ∧ (∀ r ∈ rs, Mv H r) ∧ (rs.map (·.2.2)).Nodup ∧
  ∀ r ∈ rs, (∀ r' ∈ rs, mvB r'.2.1 r'.2.2 r.2.1 r.2.2 = false) → Q (.ref r.1) H
theorem call_minMv (hc : X.calm = true) (hu : X.A.units + 64 < cLine) : CallR X (.builtin "min") (rMinMv X.K) := by
  intro pins s σ H xs us Q I r h
  obtain ⟨p, rs, rfl, hq, l0, hm, nd, q⟩ := h
  obtain ⟨u, rfl, rx⟩ := vals1 r
  cases rx
  obtain ⟨its, rv, pl, hz⟩ := I.list hq
  have hl := pl.isList
  have hlen := rv.length
  rw [List.length_map] at hlen
  have hlt : p < s.heap.objs.size := by obtain ⟨_, e, _⟩ := hl; exact Heap.lt_size e
  have at' : ∀ (a : Nat) (v : Value), its.toArray[a]? = some v → a < rs.length ∧ v = .ref (rs.getD a (0, 0, 0)).1 ∧ rs.getD a (0, 0, 0) ∈ rs := fun a v e => by
    have e' : its[a]? = some v := by simpa using e
    have la : a < rs.length := by
      have := (List.getElem?_eq_some_iff.mp e').1
      omega
    obtain ⟨w', ew, rw'⟩ := rv.get (show (rs.map fun r => V.ref r.1)[a]? = some (V.ref rs[a].1) by rw [List.getElem?_map, List.getElem?_eq_getElem la]; rfl)
    rw [ew] at e'
    obtain rfl := Option.some.inj e'
    have eg : rs.getD a (0, 0, 0) = rs[a] := by rw [List.getD_eq_getElem?_getD, List.getElem?_eq_getElem la]; rfl
    rw [eg]
    exact ⟨la, rw', List.getElem_mem la⟩
  have inj : ∀ i j, i < rs.length → j < rs.length → (rs.getD i (0, 0, 0)).2.2 = (rs.getD j (0, 0, 0)).2.2 → i = j := fun i j hi hj e => by
    have a1 : (rs.map (·.2.2))[i]'(by rw [List.length_map]; exact hi) = (rs.getD i (0, 0, 0)).2.2 := by simp [hi]
    have a2 : (rs.map (·.2.2))[j]'(by rw [List.length_map]; exact hj) = (rs.getD j (0, 0, 0)).2.2 := by simp [hj]
    exact (List.getElem_inj nd).mp ((a1.trans e).trans a2.symm)
  refine call_function_tree PySem.F.kind_min PySem.F.plain_min PySem.F.entry_min (PySem.F.args_min1 _) ?_
  show wpAny _ X.A.in1 (Builtin.Builtins.bindParams "min" ["key", "default"] 0 ⟨[], []⟩ >>= _) _ _ s
  refine wpAny_bind (wpAny_of_eq (show Builtin.Builtins.bindParams "min" ["key", "default"] 0 ⟨[], []⟩ = pure [none, none] from rfl) (wpAny_bind (wpAny_pure (wpAny_bind (wpAny_pyIter_list hl ?_)))))
  refine wpAny_bind (wpAny_newList ?_ (Nat.zero_le _))
  rw [PySem.mn_name]
  have hlI : p ≠ s.heap.objs.size := Nat.ne_of_lt hlt
  have hS : (s.heap.push { cls := .type "list_iterator", data := .fields #[.ref p, .int 0 0] }).objs.size = s.heap.objs.size + 1 := size_push' ..
  have W := Walks.list (prog := X.prog) (w := X.w) (A := X.A.in1) (I.ok.hd hc) s.heap.objs.size p hlI its.toArray
  have kp : ∀ b o, s.heap.get? b = some o → ((s.heap.push { cls := .type "list_iterator", data := .fields #[.ref p, .int 0 0] }).push (seqObj "list" #[] 0)).get? b = some o := fun b o e => Heap.get?_push_of_some _ (Heap.get?_push_of_some _ e)
  refine wpAny_pure ⟨plainId_quiet PySem.F.plain_min_loop _, PySem.mn_first (G := fun h => ∀ b o, s.heap.get? b = some o → h.get? b = some o) (bt := fun i j => mvB (rs.getD i (0, 0, 0)).2.1 (rs.getD i (0, 0, 0)).2.2 (rs.getD j (0, 0, 0)).2.1 (rs.getD j (0, 0, 0)).2.2) W (fun hm => ?_) (fun h h' g k b o e => k b o (fun z => ?_) (fun z => ?_) (g b o e)) (fun i j u v s' Q' E' g pi pj hq' => ?_) (by rw [List.size_toArray, ← hlen]; exact l0) kp ?_ (Heap.get?_push_size _ rfl) fun v h' tk hP hk => ?_⟩
  · rcases List.mem_cons.mp hm with e | hm
    · rw [hS] at e
      exact Nat.succ_ne_self _ e
    · have e := List.mem_singleton.mp hm
      rw [hS] at e
      exact Nat.lt_irrefl _ (Nat.lt_of_succ_lt (by rw [← e] at hlt; exact hlt))
  · rw [List.mem_singleton.mp z] at e
    exact Nat.lt_irrefl _ (Heap.lt_size e)
  · rw [z, hS] at e
    exact Nat.lt_irrefl _ (Nat.lt_of_succ_lt (Heap.lt_size e))
  · obtain ⟨l1, e1, m1⟩ := at' i u pi
    obtain ⟨l2, e2, m2⟩ := at' j v pj
    rw [e1, e2]
    refine PySem.mv_lt (show X.A.units + 1 + 8 < cLine by omega) (mv_keep (mv_of I.hok (hm _ m1)) fun b o e _ => g b o e) (mv_keep (mv_of I.hok (hm _ m2)) fun b o e _ => g b o e) ?_ hq'
    by_cases ij : i = j
    · rw [ij]; exact .inl rfl
    · exact .inr fun z => ij (inj i j l1 l2 z)
  · exact ⟨⟨_, Heap.get?_push_of_some _ (Heap.get?_push_size _ rfl), rfl, rfl⟩, (hl.push _).push _⟩
  · rw [List.size_toArray, ← hlen] at hP
    obtain ⟨b1, b2⟩ := arg_mv (fun i => (rs.getD i (0, 0, 0)).2.1) (fun i => (rs.getD i (0, 0, 0)).2.2) (rs.length - 1)
    obtain ⟨lb, ev, mb⟩ := at' _ v hP
    rw [ev]
    refine ⟨.ref _, H, I.kept (t' := tk) (fun b x e => hk b x (fun z => ?_) (fun z => ?_) (kp b x e)), rfl, q _ mb fun r' hr' => ?_⟩
    · rw [List.mem_singleton.mp z] at e
      exact Nat.lt_irrefl _ (Heap.lt_size e)
    · rw [z, hS] at e
      exact Nat.lt_irrefl _ (Nat.lt_of_succ_lt (Heap.lt_size e))
    · obtain ⟨j, hj⟩ := List.mem_iff_getElem?.mp hr'
      have lj := (List.getElem?_eq_some_iff.mp hj).1
      have := b2 j (by omega)
      have ej : rs.getD j (0, 0, 0) = r' := by rw [List.getD_eq_getElem?_getD, hj]; rfl
      rw [ej] at this
      exact this
end
end L2
namespace L2
open PySem PyProof.Rows PySem.Spec PySem.Calls
def ItRv (K : PySem.W.Frag) (a : Addr) (n : Nat) : It :=
  ⟨fun i H => ∃ xs x, SqL K H a xs ∧ xs.length = n ∧ i < n ∧ xs[n - 1 - i]? = some x, fun i H x H' => H' = H ∧ ∀ xs, SqL K H a xs → xs[n - 1 - i]? = some x, fun i _ => i = n⟩
theorem turn_rev {P : Program} {w : World} {K : PySem.W.Frag} {tg : Expr} (a it : Addr) (n : Nat) : Turn P w K tg (ItRv K a n) [it] it (fun i h => h.IsRevIter it a ((n : Int) - 1 - (i : Int))) where
  mem := by simp
  obj := fun i h st b hb => by
    have e : b = it := by simpa using hb
    subst e
    obtain ⟨o, e, c, d⟩ := st
    exact ⟨o, e, fun v z => by rw [d] at z; cases z⟩
  keep := fun i h h' st k => st.at fun o e => k it (by simp) o e
  item := by
    intro X hP hw hK hc i pins s σ H E I hf st hg
    subst hP hw hK
    obtain ⟨xs, x, hq, hn, hi, hx⟩ := hg
    obtain ⟨its, rv, p, hz⟩ := I.list hq
    obtain ⟨u, hu, ru⟩ := rv.get hx
    obtain ⟨f0, f1, f2, f3, f4, f5⟩ := hf it (by simp)
    have ei : (n : Int) - 1 - (i : Int) = ((n - 1 - i : Nat) : Int) := by omega
    rw [ei] at st
    refine wpAny_pyNext_rev_item st p.isList (x := u) (by simpa using hu) fun h' st' sb => ?_
    have I1 : Inv X pins σ H { s with heap := h' } := I.turned (t' := s.toks) (fun b o hb e => (sb.2 b hb).trans e) f0 f1 f3 f4 f5
    have st2 : h'.IsRevIter it a ((n : Int) - 1 - ((i + 1 : Nat) : Int)) := by
      rw [show (n : Int) - 1 - ((i + 1 : Nat) : Int) = ((n - 1 - i : Nat) : Int) - 1 by omega]
      exact st'
    obtain ⟨o, e, c, d⟩ := id st'
    exact ⟨u, rfl, go_of (s := { s with heap := h' }) e c d (by decide) ⟨x, H, I1, ru, ⟨rfl, fun ys hy => by rw [I.list_inj hy hq]; exact hx⟩, st2, fun b hb => (hf b hb).1⟩⟩
  done := by
    intro X hP hw hK hc i pins s σ H E I hf st hg
    subst hP hw hK
    have hi : i = n := hg
    subst hi
    obtain ⟨f0, f1, f2, f3, f4, f5⟩ := hf it (by simp)
    rw [show (i : Int) - 1 - (i : Int) = -1 by omega] at st
    exact wpAny_pyNext_rev_end (I.ok.hd hc) st fun h' eb => ⟨rfl, I.turned (t' := s.toks) (fun b o hb e => eb b o hb e) f0 f1 f3 f4 f5⟩
  self := fun _ _ _ _ _ st h => wpAny_pyIter_revIter st h
theorem for_rev {K : PySem.W.Frag} {a : Addr} {xs : List V} {g : TG} {tb : TS} {D : Ends} {σ : St} {H : Hp} (Pv : Nat → St → Hp → Prop) (h0 : Pv 0 σ H) (hl : ∀ i σ H, i ≤ xs.length → Pv i σ H → SqL K H a xs)
    (hs : ∀ i x σ H, i < xs.length → xs[xs.length - 1 - i]? = some x → Pv i σ H → g x σ H fun σ2 H2 => tb { D with nx := Pv (i + 1), ct := Pv (i + 1), bk := D.nx } σ2 H2) (hd : ∀ σ H, Pv xs.length σ H → D.nx σ H) :
    ∃ W : Nat → Nat → St → Hp → Prop, (∃ m, W 0 m σ H) ∧ ∀ i m σ H, W i m σ H →
      ((ItRv K a xs.length).stop i H ∧ D.nx σ H) ∨ ((ItRv K a xs.length).go i H ∧ ∃ N : St → Hp → Prop, (∀ σ' H', N σ' H' → ∃ m', m' < m ∧ W (i + 1) m' σ' H') ∧ ∀ x H', (ItRv K a xs.length).yld i H x H' → g x σ H' fun σ2 H2 => tb { D with nx := N, ct := N, bk := D.nx } σ2 H2) := by
  refine ⟨fun i m σ H => m = xs.length - i ∧ i ≤ xs.length ∧ Pv i σ H, ⟨xs.length, by simp, Nat.zero_le _, h0⟩, ?_⟩
  rintro i m σ H ⟨rfl, hi, p⟩
  have q := hl i σ H hi p
  by_cases c : i < xs.length
  · refine .inr ⟨⟨xs, xs[xs.length - 1 - i]'(by omega), q, rfl, c, List.getElem?_eq_getElem _⟩, Pv (i + 1), fun σ' H' p' => ⟨xs.length - (i + 1), by omega, rfl, c, p'⟩, fun x H' y => ?_⟩
    obtain ⟨e, y⟩ := y
    subst e
    exact hs i x σ _ c (y xs q) p
  · have e : i = xs.length := by omega
    subst e
    exact .inl ⟨rfl, hd σ H p⟩
section
variable {X : Cx} {tg : Expr}
theorem boot_rev2 : bootBuiltins "reversed" = some (.type "reversed") := by decide +kernel
def iRev (K : PySem.W.Frag) (ta : TA) : TI := fun σ H R => ta σ H fun vs H1 => ∃ a xs, vs = [.ref a] ∧ SqL K H1 a xs ∧ R (ItRv K a xs.length) H1
theorem pi_rev {a : Expr} {ta : TA} {p pos : Pos} (hg : Gl X "reversed") (hm : X.mg "reversed" = none) (ha : PA X [a] ta) (hs : starEach [a] X.env = [(false, eval a X.env)] := by rfl) : PI X tg (.Call (.Name "reversed" p) [a] [] pos) (iRev X.K ta) := by
  intro pins s σ H R I h
  refine Call_ (ld_blt I hg hm boot_rev2 (PyProof.Rows.callWith_type1 (thn (ha pos pins s σ H _ I h) fun us s1 ⟨vs, H1, I1, r1, q1⟩ => ?_) (by rw [hs]; rfl) rfl))
  obtain ⟨a, xs, e, hq, q⟩ := q1
  subst e
  obtain ⟨u, rfl, ru⟩ := vals1 r1
  cases ru
  obtain ⟨its, rv, pl, hz⟩ := I1.list hq
  have sz : its.toArray.size = xs.length := by rw [List.size_toArray]; exact rv.length.symm
  refine call_reversed_list pl.isList ?_
  rw [sz]
  refine wpAny_pyIter_revIter (i := (xs.length : Int) - 1) ⟨_, Heap.get?_push_size _ rfl, rfl, rfl⟩ ?_
  refine ⟨s1.heap.objs.size, [s1.heap.objs.size], _, _, H1, rfl, I1.kept (t' := s1.toks) fun b o e => Heap.get?_push_of_some _ e, turn_rev a _ xs.length, ?_, fun b hb => ?_, q⟩
  · refine ⟨_, Heap.get?_push_size _ rfl, rfl, ?_⟩
    show _ = Data.fields #[.ref a, rawInt ((xs.length : Int) - 1 - ((0 : Nat) : Int))]
    rw [show (xs.length : Int) - 1 - ((0 : Nat) : Int) = (xs.length : Int) - 1 by omega]
    rfl
  · have e : b = s1.heap.objs.size := by simpa using hb
    subst e
    exact I1.fpOk (Nat.le_refl _) (I1.hok.fresh (Nat.le_refl _))
end
end L2
namespace L2
open PySem PyProof.Rows PySem.Spec PySem.Calls
section
variable {X : Cx} {P : Program} {w : World}
def tMinDef (K : PySem.W.Frag) (ta : TA) (td : TE) : TE := fun σ H Q => ta σ H fun vs H1 => tCons td tNil σ H1 fun zs H2 => ∃ d p is, zs = [d] ∧ vs = [.ref p] ∧ SqL K H2 p (is.map V.int) ∧ (is = [] → Q d H2) ∧ ∀ m ∈ is, (∀ k ∈ is, m ≤ k) → Q (.int m) H2
theorem pe_mindef {a d : Expr} {ta : TA} {td : TE} {p pos kpos : Pos} (hc : X.calm = true) (hg : Gl X "min") (hm : X.mg "min" = none) (ha : PA X [a] ta) (hd : PE X d td)
    (hs : starEach [a] X.env = [(false, eval a X.env)] := by rfl) (hall : (backToKw pos (keywordEach [⟨some "default", d, kpos⟩] X.env)).all (·.1.isSome) = true := by rfl) (hks : (backToKw pos (keywordEach [⟨some "default", d, kpos⟩] X.env)).filterMap (·.1) = [("default" : Str)] := by rfl)
    (hpl : ((backTo pos (starEach [a] X.env)).any (·.1) || (backToKw pos (keywordEach [⟨some "default", d, kpos⟩] X.env)).any (·.1.isNone)) = false := by rfl) :
    PE X (.Call (.Name "min" p) [a] [⟨some "default", d, kpos⟩] pos) (tMinDef X.K ta td) := by
  intro pins s σ H Q I h
  refine wpAny_Call_Name_kw (ld_blt I hg hm bt_min ?_)
  refine cw_bltkw hpl (evalArgs_kw2 hall (thn (ha pos pins s σ H _ I h) fun us s1 ⟨vs, H1, I1, r1, q1⟩ => ?_) hs)
  have K1 : PK X [⟨some "default", d, kpos⟩] _ := pk_cons hd pk_nil
  refine thn (K1 pos pins s1 σ H1 _ I1 q1) fun ws s2 ⟨zs, H2, I2, r2, q2⟩ => ?_
  obtain ⟨dv, p, is, rfl, rfl, hq, q0, qm⟩ := q2
  obtain ⟨u, rfl, ru⟩ := vals1 r1
  cases ru
  obtain ⟨u2, rfl, ru2⟩ := vals1 r2
  rw [hks]
  obtain ⟨its, rv, pl, hz⟩ := I2.list hq
  have hl := pl.isList
  have hlen := rv.length
  rw [List.length_map] at hlen
  have hlt : p < s2.heap.objs.size := by obtain ⟨_, e, _⟩ := hl; exact Heap.lt_size e
  have at' : ∀ (a : Nat) (v : Value), its.toArray[a]? = some v → a < is.length ∧ ∃ tt, v = .int (is.getD a 0) tt := fun a v e => by
    have e' : its[a]? = some v := by simpa using e
    have la : a < is.length := by
      have := (List.getElem?_eq_some_iff.mp e').1
      omega
    obtain ⟨w', ew, rw'⟩ := rv.get (show (is.map V.int)[a]? = some (V.int is[a]) by rw [List.getElem?_map, List.getElem?_eq_getElem la]; rfl)
    rw [ew] at e'
    obtain rfl := Option.some.inj e'
    obtain ⟨tt, et⟩ := rw'
    exact ⟨la, tt, by rw [et, List.getD_eq_getElem?_getD, List.getElem?_eq_getElem la]; rfl⟩
  show wpAny _ X.A (call (.builtin "min") [.ref p] [(Str.ofString "default", u2)]) _ _ s2
  refine PyProof.Rows.kmk_tree PySem.F.kind_min PySem.F.plain_min PySem.F.entry_min (PySem.mn_args _ _) ?_
  show wpAny _ X.A.in1 (Builtin.Builtins.bindParams "min" ["key", "default"] 0 ⟨[], [(Str.ofString "default", u2)]⟩ >>= _) _ _ _
  refine wpAny_bind (wpAny_of_eq (show Builtin.Builtins.bindParams "min" ["key", "default"] 0 ⟨[], [(Str.ofString "default", u2)]⟩ = pure [none, some u2] from rfl) (wpAny_bind (wpAny_pure (wpAny_bind (wpAny_pyIter_list hl ?_)))))
  refine wpAny_bind (wpAny_newList ?_ (Nat.zero_le _))
  rw [PySem.mn_name]
  have hlI : p ≠ s2.heap.objs.size := Nat.ne_of_lt hlt
  have hS : (s2.heap.push { cls := .type "list_iterator", data := .fields #[.ref p, .int 0 0] }).objs.size = s2.heap.objs.size + 1 := size_push' ..
  have W := Walks.list (prog := X.prog) (w := X.w) (A := X.A.in1) (I2.ok.hd hc) s2.heap.objs.size p hlI its.toArray
  have kp : ∀ b o, s2.heap.get? b = some o → ((s2.heap.push { cls := .type "list_iterator", data := .fields #[.ref p, .int 0 0] }).push (seqObj "list" #[] 0)).get? b = some o := fun b o e => Heap.get?_push_of_some _ (Heap.get?_push_of_some _ e)
  have st0 : Heap.IsListIter ((s2.heap.push { cls := .type "list_iterator", data := .fields #[.ref p, .int 0 0] }).push (seqObj "list" #[] 0)) s2.heap.objs.size p 0 ∧ Heap.IsList ((s2.heap.push { cls := .type "list_iterator", data := .fields #[.ref p, .int 0 0] }).push (seqObj "list" #[] 0)) p its.toArray := ⟨⟨_, Heap.get?_push_of_some _ (Heap.get?_push_size _ rfl), rfl, rfl⟩, (hl.push _).push _⟩
  have nI : ∀ b o, s2.heap.get? b = some o → b ∉ [s2.heap.objs.size] := fun b o e z => by
    rw [List.mem_singleton.mp z] at e
    exact Nat.lt_irrefl _ (Heap.lt_size e)
  have nS : ∀ b o, s2.heap.get? b = some o → b ≠ (s2.heap.push { cls := .type "list_iterator", data := .fields #[.ref p, .int 0 0] }).objs.size := fun b o e z => by
    rw [z, hS] at e
    exact Nat.lt_irrefl _ (Nat.lt_of_succ_lt (Heap.lt_size e))
  by_cases e0 : is = []
  · have z0 : its.toArray.size = 0 := by rw [List.size_toArray, ← hlen, e0]; rfl
    rw [z0] at W
    refine wpAny_pure ⟨plainId_quiet PySem.F.plain_min_loop _, PySem.mn_none W st0 (Heap.get?_push_size _ rfl) fun h' tk hk => ?_⟩
    exact ⟨dv, H2, I2.kept (t' := tk) (fun b x e => hk b x (nI b x e) (kp b x e)), ru2, q0 e0⟩
  · have l0 : 0 < is.length := List.length_pos_iff.mpr e0
    refine wpAny_pure ⟨plainId_quiet PySem.F.plain_min_loop _, PySem.mn_first (G := fun _ => True) (bt := fun a b => decide (is.getD a 0 < is.getD b 0)) W (fun hm => ?_) (fun _ _ _ _ => trivial) (fun i j u v s' Q' E' _ pi pj hq' => ?_) (by rw [List.size_toArray, ← hlen]; exact l0) trivial st0 (Heap.get?_push_size _ rfl) fun v h' tk hP hk => ?_⟩
    · rcases List.mem_cons.mp hm with e | hm
      · rw [hS] at e
        exact Nat.succ_ne_self _ e
      · have e := List.mem_singleton.mp hm
        rw [hS] at e
        exact Nat.lt_irrefl _ (Nat.lt_of_succ_lt (by rw [← e] at hlt; exact hlt))
    · obtain ⟨_, t1, rfl⟩ := at' i u pi
      obtain ⟨_, t2, rfl⟩ := at' j v pj
      exact PySem.P.lt_int hq'
    · rw [List.size_toArray, ← hlen] at hP
      obtain ⟨b1, b2⟩ := arg_min is (is.length - 1) (by omega)
      obtain ⟨lb, tt, ev⟩ := at' _ v hP
      rw [ev]
      generalize argBest (fun a b => decide (is.getD a 0 < is.getD b 0)) (is.length - 1) = bi at b1 b2 lb
      refine ⟨.int (is.getD bi 0), H2, I2.kept (t' := tk) (fun b x e => hk b x (nI b x e) (nS b x e) (kp b x e)), ⟨tt, rfl⟩, qm _ ?_ fun k hk' => ?_⟩
      · rw [List.getD_eq_getElem?_getD, List.getElem?_eq_getElem lb]
        exact List.getElem_mem lb
      · obtain ⟨j, hj⟩ := List.mem_iff_getElem?.mp hk'
        have lj := (List.getElem?_eq_some_iff.mp hj).1
        have := b2 j (by omega)
        rw [List.getD_eq_getElem?_getD (l := is) (i := j), hj] at this
        exact this
end
end L2
namespace L2
open PySem PyProof.Rows PySem.Spec PySem.Calls
section
variable {X : Cx} {P : Program} {w : World}
theorem pre_sumS {ns : List Int} (h : ∀ v ∈ ns, 0 ≤ v ∧ v ≤ 1000) : ∀ k, k ≤ ns.length → preSum (fun i => ns.getD i 0) k = (ns.take k).sum ∧ 0 ≤ preSum (fun i => ns.getD i 0) k ∧ preSum (fun i => ns.getD i 0) k ≤ 1000 * k
  | 0, _ => ⟨rfl, Int.le_refl _, Int.le_refl _⟩
  | k + 1, hk => by
    obtain ⟨e, h1, h2⟩ := pre_sumS h k (by omega)
    have ek : ns[k]? = some ns[k] := List.getElem?_eq_getElem (by omega)
    have hv := h ns[k] (List.getElem_mem _)
    have ed : ns.getD k 0 = ns[k] := by rw [List.getD_eq_getElem?_getD, ek]; rfl
    have es : preSum (fun i => ns.getD i 0) (k + 1) = preSum (fun i => ns.getD i 0) k + ns.getD k 0 := rfl
    rw [es, ed]
    refine ⟨?_, by omega, by omega⟩
    rw [e, List.take_add_one, ek, List.sum_append]
    show _ = _ + (ns[k] + 0)
    omega
theorem call_sumS (hc : X.calm = true) : CallR X (.builtin "sum") (fun xs H Q => ∃ (p : Addr) (ns : List Int), xs = [.ref p] ∧ SqL X.K H p (ns.map V.int) ∧ (∀ v ∈ ns, 0 ≤ v ∧ v ≤ 1000) ∧ Q (.int ns.sum) H) := by
  intro pins s σ H xs us Q I r h
  obtain ⟨p, ns, rfl, hq, hv, q⟩ := h
  obtain ⟨u, rfl, rx⟩ := vals1 r
  cases rx
  obtain ⟨its, rv, pl, hz⟩ := I.list hq
  have hl := pl.isList
  have hlen := rv.length
  have hlt : p < s.heap.objs.size := by obtain ⟨_, e, _⟩ := hl; exact Heap.lt_size e
  rw [List.length_map] at hlen hz
  rw [sizeLine_eq] at hz
  refine call_sum_walk (wpAny_pyIter_list hl ?_)
  refine ⟨s.heap.objs.size, [s.heap.objs.size, p], [s.heap.objs.size], its.toArray.size, _, _, fun i => ns.getD i 0, rfl, Walks.list (A := X.A.in1) (I.ok.hd hc) _ p (Nat.ne_of_lt hlt) its.toArray,
    ⟨⟨_, Heap.get?_push_size _ rfl, rfl, rfl⟩, hl.push _⟩, fun b hb => ?_, fun i v hP => ?_, fun j hj => ?_, fun h' tk t' hk => ?_⟩
  · rcases List.mem_cons.mp hb with rfl | hb
    · show _ < (s.heap.push _).objs.size
      rw [Heap.size_push]
      exact Nat.lt_succ_self _
    · rw [List.mem_singleton.mp hb]
      show _ < (s.heap.push _).objs.size
      rw [Heap.size_push]
      exact Nat.lt_succ_of_lt hlt
  · have hv' : its[i]? = some v := by simpa using hP
    have hi : i < its.length := (List.getElem?_eq_some_iff.mp hv').1
    have hb : i < ns.length := by omega
    obtain ⟨u2, e1, e2⟩ := rv.get (i := i) (x := V.int ns[i]) (by rw [List.getElem?_map, List.getElem?_eq_getElem hb]; rfl)
    rw [hv'] at e1
    cases e1
    obtain ⟨t, rfl⟩ := e2
    refine ⟨t, ?_⟩
    show _ = Value.int (ns.getD i 0) t
    rw [List.getD_eq_getElem?_getD, List.getElem?_eq_getElem hb]
    rfl
  · have hj' : j < ns.length := by rw [List.size_toArray] at hj; omega
    have h1 := hv (ns.getD j 0) (by rw [List.getD_eq_getElem?_getD, List.getElem?_eq_getElem hj']; exact List.getElem_mem _)
    obtain ⟨_, h2, h3⟩ := pre_sumS hv (j + 1) (by omega)
    refine ⟨⟨?_, ?_⟩, by omega, by omega⟩
    · show -(2 ^ 63) ≤ ns.getD j 0
      omega
    · show ns.getD j 0 < 2 ^ 63
      omega
  · have e : preSum (fun i => ns.getD i 0) its.toArray.size = ns.sum := by
      rw [List.size_toArray, ← hlen, (pre_sumS hv ns.length (Nat.le_refl _)).1, List.take_length]
    rw [e]
    refine ⟨.int _, H, I.kept (t' := tk) (fun b x e => ?_), ⟨_, rfl⟩, q⟩
    exact hk b x (fun hm => by rw [List.mem_singleton.mp hm] at e; exact Nat.lt_irrefl _ (Heap.lt_size e)) (Heap.get?_push_of_some _ e)
theorem bt_sum : bootBuiltins "sum" = some (.builtin "sum") := by decide +kernel
theorem call_len_seqK {K : PySem.W.Frag} (hK : X.K = K) : CallR X (.builtin "len") (fun xs H Q => ∃ p ys, xs = [.ref p] ∧ (SqL K H p ys ∨ SqT K H p ys) ∧ Q (.int ys.length) H) := by
  subst hK
  exact call_len_seq
def rCatU (K : PySem.W.Frag) : R2 := fun x y H Q => ∃ a b xs ys, x = .ref a ∧ y = .ref b ∧ SqT K H a xs ∧ SqT K H b ys ∧ xs.length + ys.length ≤ sizeLine ∧
  (xs = [] → Q (.ref b) H) ∧ (xs ≠ [] → ys = [] → Q (.ref a) H) ∧ (xs ≠ [] → ys ≠ [] → ∀ p, H p = none → Q (.ref p) (upd H p (.tup (xs ++ ys))))
theorem op_catU : OpR X (binaryOp .Add) (rCatU X.K) := by
  intro pins s σ H x y v u Q I rx ry h
  obtain ⟨a, b, xs, ys, rfl, rfl, ha, hb, hz, q0, q1, q2⟩ := h
  by_cases hx : xs = []
  · cases rx
    cases ry
    obtain ⟨its, r1, p1, _⟩ := I.tuple ha
    obtain ⟨its2, r2, p2, _⟩ := I.tuple hb
    obtain ⟨⟨cls, dd, data, sl⟩, ho, hc, n, hd⟩ := id p1
    obtain ⟨⟨cls2, dd2, data2, sl2⟩, ho2, hc2, n2, hd2⟩ := id p2
    simp only at hc hd hc2 hd2
    subst hc hd hc2 hd2
    have e0 : its = [] := r1.nil_iff.mpr hx
    exact concat_meets ⟨_, ho, rfl⟩ ⟨_, ho2, rfl⟩ noFill_tuple_add seq_tuple_add PySem.F.slot_tuple_add PySem.F.entry_tuple_add (PySem.F.args_tuple_add_2 _ _)
      (tuple_addW0 a b its.toArray its2.toArray n n2 dd dd2 sl sl2 (by simp [e0])) ⟨ho, ho2, .ref b, H, I, rfl, q0 hx⟩
  · exact op_catT pins s σ H _ _ v u Q I rx ry ⟨a, b, xs, ys, rfl, rfl, ha, hb, hx, hz, q1 hx, q2 hx⟩
def tNOne (P : Program) (w : World) (tk tv : TE) : TE := fun σ H Q => ∀ p, H p = none → tPairs [(tk, tv)] σ (upd H p (ND P w p [])) fun ps H2 => ∃ b k v, ps = [(.ref b, v)] ∧ H2 p = some (ND P w p []) ∧ NKey H2 k b ∧ Q (.ref p) (upd H2 p (ND P w p [(k, b, v)]))
end
end L2
namespace L2
open PySem PyProof.Rows PySem.Spec PySem.Calls
section
variable {X : Cx} {P : Program} {w : World}
def tItemsN0 (P : Program) (w : World) (to : TE) : TE := fun σ H Q => to σ H fun x H1 => rItemsN P w x [] H1 Q
theorem pe_itemsN0 (hP : X.prog = P) (hw : X.w = w) {o : Expr} {to : TE} {apos cpos : Pos} (ho : PE X o to) (hbase : attributeBase o "items" X.env (eval o X.env) = eval o X.env := by rfl) (hline : (apos.endLine == cpos.line) = true := by rfl) : PE X (.Call (.Attribute o "items" apos) [] [] cpos) (tItemsN0 P w to) := by
  subst hP hw
  intro pins s σ H Q I h
  refine wpAny_Call_method0_late hbase hline (thn (ho pins s σ H _ I h) fun v s1 ⟨x, H1, I1, r1, q1⟩ => ?_)
  have q2 := q1
  obtain ⟨d, o, xs, rfl, _, hz, _⟩ := q2
  have r2 := r1
  cases r1
  obtain ⟨_, ys, es, ep, e', xd, _⟩ := frzN_de I1 hz
  exact ⟨"dict", "dict.items", PySem.F.plainAttrs_dict, PySem.F.slot_dict_items, PySem.F.type_dict_items, ⟨o, e', xd.1⟩, fun a e => by cases e; exact ⟨o, e', xd.2.1⟩, Calls.callWith_builtin rfl (PySem.evalArgs_none (mt_itemsN rfl rfl pins s1 σ H1 (.ref d) [] _ [] Q I1 r2 .nil q1))⟩
end
theorem for_itemsN {P : Program} {w : World} {d : Addr} {o : Obj} {xs : NX} {g : TG} {tb : TS} {D : Ends} {σ : St} {H : Hp} (Pv : Nat → St → Hp → Prop) (h0 : Pv 0 σ H) (hl : ∀ i σ H, i ≤ xs.length → Pv i σ H → H d = some (.frz o (ND P w d xs)))
    (hs : ∀ i k b v p σ H, xs[i]? = some (k, b, v) → H p = none → Pv i σ H → g (.ref p) σ (upd H p (.tup [.ref b, v])) fun σ2 H2 => tb { D with nx := Pv (i + 1), ct := Pv (i + 1), bk := D.nx } σ2 H2) (hd : ∀ σ H, Pv xs.length σ H → D.nx σ H) :
    ∃ W : Nat → Nat → St → Hp → Prop, (∃ m, W 0 m σ H) ∧ ∀ i m σ H, W i m σ H →
      ((ItN P w d o xs).stop i H ∧ D.nx σ H) ∨ ((ItN P w d o xs).go i H ∧ ∃ N : St → Hp → Prop, (∀ σ' H', N σ' H' → ∃ m', m' < m ∧ W (i + 1) m' σ' H') ∧ ∀ x H', (ItN P w d o xs).yld i H x H' → g x σ H' fun σ2 H2 => tb { D with nx := N, ct := N, bk := D.nx } σ2 H2) := by
  refine ⟨fun i m σ H => m = xs.length - i ∧ i ≤ xs.length ∧ Pv i σ H, ⟨xs.length, by simp, Nat.zero_le _, h0⟩, ?_⟩
  rintro i m σ H ⟨rfl, hi, p⟩
  have q := hl i σ H hi p
  by_cases hlt : i < xs.length
  · refine .inr ⟨⟨q, hlt⟩, Pv (i + 1), fun σ' H' p' => ⟨xs.length - (i + 1), by omega, rfl, hlt, p'⟩, fun x H' y => ?_⟩
    obtain ⟨a, k, b, v, rfl, na, rfl, e⟩ := y
    exact hs i k b v a σ _ e na p
  · have e : i = xs.length := by omega
    subst e
    exact .inl ⟨⟨q, rfl⟩, hd σ H p⟩
theorem compB2_itemsN {P : Program} {w : World} {d : Addr} {o : Obj} {xs : NX} {tc : TT} {te : TE} {K : PySem.W.Frag} {σf : Option V → Option V → St} {H1 : Hp} {Q : VK} (hd : H1 d = some (.frz o (ND P w d xs))) (G : NK × Addr × V → V → Hp → Prop) (hz : xs.length < sizeLine)
    (he : ∀ x ∈ xs, (∀ (H' : Hp) (R : Bool → Hp → Prop), Same H1 H' → R true H' → tc (σf (some (.ref x.2.1)) (some x.2.2)) H' R) ∧ ∀ (H' : Hp) (R : VK), Same H1 H' → (∀ y H'', Same H' H'' → New H' H'' (G x y) → R y H'') → te (σf (some (.ref x.2.1)) (some x.2.2)) H' R)
    (q : ∀ D H' ys, Same H1 H' → H1 D = none → H' D = some (.lst ys) → ys.length = xs.length → (∀ (i : Nat) x y, xs[i]? = some x → ys[i]? = some y → G x y H') → Q (.ref D) H') : CompB2 K (ItN P w d o xs) tc te σf H1 Q := by
  intro D hD
  refine ⟨fun i m ys H2 => m = xs.length - i ∧ i ≤ xs.length ∧ Same H1 H2 ∧ H2 D = some (.lst ys) ∧ ys.length = i ∧ ∀ (k : Nat) x y, xs[k]? = some x → ys[k]? = some y → ∃ Z : Addr → Prop, (∀ b, Z b → b ≠ D ∧ ∃ o, H2 b = some o) ∧ ∀ H3, (∀ b, Z b → H3 b = H2 b) → G x y H3,
    ⟨xs.length, rfl, Nat.zero_le _, same_new hD _, upd_same, rfl, fun k x y _ e => by simp at e⟩, ?_⟩
  rintro i m ys H2 ⟨rfl, hi, sm, hD2, hl, hg⟩
  refine ⟨hD2, ?_⟩
  by_cases hlt : i < xs.length
  · refine .inr ⟨⟨sm _ _ hd, hlt⟩, by omega, fun x H3 y => ?_⟩
    obtain ⟨pa, kx, bx, vx, rfl, np, rfl, hx⟩ := y
    have s3 := same_new np (.tup [.ref bx, vx])
    have sm3 := sm.trans s3
    obtain ⟨hc, he⟩ := he _ (List.mem_of_getElem? hx)
    have hD3 := s3 _ _ hD2
    refine ⟨pa, .ref bx, vx, rfl, SqT.of upd_same, ?_⟩
    refine hc _ _ sm3 (iteT (he _ _ sm3 fun yv H5 s5 ny => ⟨s5 _ _ hD3, xs.length - (i + 1), by omega, rfl, hlt, same_on hD (sm3.trans s5) _, upd_same, by rw [List.length_append, hl]; rfl, fun k x' y' ex ey => ?_⟩))
    by_cases hk : k < i
    · rw [List.getElem?_append_left (by omega)] at ey
      obtain ⟨Z, z1, z2⟩ := hg k x' y' ex ey
      refine ⟨Z, fun b hb => ?_, fun H6 h6 => z2 H6 fun b hb => ?_⟩
      · obtain ⟨nb, o, ho⟩ := z1 b hb
        exact ⟨nb, o, by rw [upd_ne nb]; exact s5 _ _ (s3 _ _ ho)⟩
      · obtain ⟨nb, o, ho⟩ := z1 b hb
        rw [h6 b hb, upd_ne nb, s5 _ _ (s3 _ _ ho), ho]
    · have ek : k = i := by
        have := (List.getElem?_eq_some_iff.mp ey).1
        rw [List.length_append, hl] at this
        have : k < i + 1 := this
        omega
      subst ek
      rw [List.getElem?_append_right (by omega), hl, Nat.sub_self] at ey
      obtain rfl : yv = y' := Option.some.inj ey
      obtain rfl := Option.some.inj (hx.symm.trans ex)
      obtain ⟨Z, z1, z2⟩ := ny
      have nD : ∀ b, Z b → b ≠ D := fun b hb e => by
        have := (z1 b hb).1
        rw [e, hD3] at this
        cases this
      refine ⟨Z, fun b hb => ?_, fun H6 h6 => z2 H6 fun b hb => ?_⟩
      · obtain ⟨_, o, ho⟩ := z1 b hb
        exact ⟨nD b hb, o, by rw [upd_ne (nD b hb)]; exact ho⟩
      · rw [h6 b hb, upd_ne (nD b hb)]
  · have e : i = xs.length := by omega
    refine .inl ⟨⟨sm _ _ hd, e.symm⟩, q D H2 ys sm hD hD2 (by omega) fun k x y ex ey => ?_⟩
    obtain ⟨Z, _, z2⟩ := hg k x y ex ey
    exact z2 H2 fun b _ => rfl
end L2
namespace L2
open PySem PySem.Spec PyProof.Rows
theorem no_cells : ∀ (names : List (Str × NameKind)) (n : Nat) (acc : List (Str × Addr)) (h : Heap), names.filter (fun p => p.2 == .cell) = [] → cellsFrom n names acc = acc ∧ pushCells h names = h
  | [], _, _, _, _ => ⟨rfl, rfl⟩
  | (y, k) :: r, n, acc, h, e => by
    rw [List.filter_cons] at e
    split at e
    · cases e
    · next hk =>
      obtain ⟨e1, e2⟩ := no_cells r n acc h e
      unfold cellsFrom pushCells
      rw [if_neg hk, if_neg hk]
      exact ⟨e1, e2⟩
theorem one_cell {x : Str} : ∀ (names : List (Str × NameKind)) (n : Nat) (acc : List (Str × Addr)) (h : Heap), names.filter (fun p => p.2 == .cell) = [(x, .cell)] → cellsFrom n names acc = (x, n) :: acc ∧ pushCells h names = h.push { cls := .type "cell", data := .cell none }
  | [], _, _, _, e => by cases e
  | (y, k) :: r, n, acc, h, e => by
    rw [List.filter_cons] at e
    split at e
    · next hk =>
      obtain ⟨e0, e1⟩ := List.cons.inj e
      obtain ⟨e2, e3⟩ := no_cells r (n + 1) ((y, n) :: acc) (h.push { cls := .type "cell", data := .cell none }) e1
      have ey : y = x := congrArg Prod.fst e0
      unfold cellsFrom pushCells
      rw [if_pos hk, if_pos hk, e2, e3, ey]
      exact ⟨rfl, rfl⟩
    · next hk =>
      obtain ⟨e1, e2⟩ := one_cell r n acc h e
      unfold cellsFrom pushCells
      rw [if_neg hk, if_neg hk]
      exact ⟨e1, e2⟩
theorem wpAny_newEnv_one {M : Model} {A : Around} {E : Value → Shared → Prop} {s : Shared} {scope : Scope} {globals : Addr} {closure : List (Str × Addr)} {qual : Str} {func : Option Addr} {code : Value} {out : Env} {builtins : Addr} {x : Str} {Q : Env → Shared → Prop}
    (hc : scope.names.filter (fun p => p.2 == .cell) = [(x, .cell)])
    (hQ : Q { scope := scope, locals := s.heap.objs.size, globals := globals, cells := (x, s.heap.objs.size + 1) :: closure, qual := qual, func := func, code := out.code, frame := out.frame, builtins := out.builtins } { s with heap := (s.heap.push { cls := .type "dict", data := .dict #[] }).push { cls := .type "cell", data := .cell none } }) :
    wpAny M A (newFunctionEnv scope globals closure [] qual func code (some out) builtins) Q E s := by
  simp only [newFunctionEnv, Option.isSome_some, if_true]
  refine wpAny_bind (wpAny_alloc ?_)
  refine wpAny_bind (wpAny_layCells _ (fun name kind cells => by cases hkc : kind == NameKind.cell <;> simp [hkc]) _ _ _ _ ?_)
  obtain ⟨e1, e2⟩ := one_cell scope.names ({ s with heap := s.heap.push { cls := .type "dict", data := .dict #[] } } : Shared).heap.objs.size closure (s.heap.push { cls := .type "dict", data := .dict #[] }) hc
  rw [e1]
  show wpAny M A _ Q E { s with heap := pushCells (s.heap.push { cls := .type "dict", data := .dict #[] }) scope.names }
  rw [e2, show ({ s with heap := s.heap.push { cls := .type "dict", data := .dict #[] } } : Shared).heap.objs.size = s.heap.objs.size + 1 from Heap.size_push ..]
  rw [List.forIn_nil]
  exact wpAny_bind (wpAny_pure (wpAny_pure hQ))
def compCxC (X : Cx) (scope : Scope) (x : Str) (N' : List Str) (C : Addr) (ex : List Addr) (s₂ : Shared) (H₂ : Hp) : Cx where
  prog := X.prog
  w := X.w
  K := X.K
  mg := X.mg
  base := X.base
  A := X.A
  N := N'
  s₀ := s₂
  H₀ := H₂
  env := compEnvC scope ((x, C + 1) :: closOf X.env.cells scope.names []) C X.env
  outer := X.stack
  stack := X.stack
  ex := ex
  fn := fun y => y == x
  calm := X.calm
  pn := []
  xe := fun _ _ => False
section
variable {X : Cx} {elt iter : Expr} {x : Str} {px pos : Pos} {ifs : List Expr} {scope : Scope} {frees : List (Str × Nat)} {tc : TT} {te : TE}
structure CompOkC (X : Cx) (scope : Scope) (x : Str) (frees : List (Str × Nat)) : Prop where
  cell : scope.names.filter (fun p => p.2 == .cell) = [(x, .cell)]
  kind : scope.kind = .function
  own : (relabel scope X.env).names.lookup x = some .cell
  names : ∀ y ∈ scope.names, y.2 = .local → scope.names.lookup y.1 = some .local
  fr : FreesOk X scope frees
  nd : (x :: frees.map (·.1)).Nodup
  cl : ∀ p ∈ scope.names, p.2 = .free → (X.env.cells.lookup p.1).isSome = true
  calm : X.calm = true
theorem CompOkC.only (O : CompOkC X scope x frees) : ∀ y ∈ scope.names, y.2 = .cell → y.1 = x := fun y hy e => by
  have : y ∈ scope.names.filter (fun p => p.2 == .cell) := List.mem_filter.mpr ⟨hy, by rw [e]; rfl⟩
  rw [O.cell] at this
  rw [List.mem_singleton.mp this]
theorem relabel_freeC {env : Env} {y : Str} (hc : ∀ y ∈ scope.names, y.2 = .cell → y.1 = x) (ny : y ≠ x) (h : (relabel scope env).names.lookup y = some .cell ∨ (relabel scope env).names.lookup y = some .free) : (y, NameKind.free) ∈ scope.names := by
  have key : ∀ k, (relabel scope env).names.lookup y = some k → k = .cell ∨ k = .free → (y, NameKind.free) ∈ scope.names := fun k hk hkk => by
    have hm := PySem.mem_of_lookup hk
    obtain ⟨⟨n, k0⟩, hm0, e⟩ := List.mem_map.mp hm
    by_cases hcond : (k0 == NameKind.free && env.scope.kind == .function && env.kindOf n == some .cell) = true
    · have e' : (n, NameKind.cell) = (y, k) := by rw [← e]; exact (if_pos hcond).symm
      have hk0 : k0 = .free := by
        rw [Bool.and_eq_true, Bool.and_eq_true] at hcond
        exact eq_of_beq hcond.1.1
      have en : n = y := congrArg Prod.fst e'
      rw [← en, ← hk0]
      exact hm0
    · have e' : (n, k0) = (y, k) := by rw [← e]; exact (if_neg hcond).symm
      have en : n = y := congrArg Prod.fst e'
      have ek : k0 = k := congrArg Prod.snd e'
      rcases hkk with hkk | hkk
      · exact absurd (en.symm.trans (hc _ hm0 (ek.trans hkk))) ny
      · rw [← en, ← hkk, ← ek]
        exact hm0
  rcases h with h | h
  · exact key _ h (.inl rfl)
  · exact key _ h (.inr rfl)
theorem comp_coreC {pins : List (Addr × Obj)} {σ : St} {H1 : Hp} {s₂ : Shared} {it : Addr} {fp : List Addr} {tn : Nat → Heap → Prop} {J : It} {Q : VK} {RR : Value → Addr → Result → Shared → Prop} {E : Value → Shared → Prop}
    (O : CompOkC X scope x frees) (hc : ∀ C ex s₂ H₂, PIfs (compCxC X scope x (x :: frees.map (·.1)) C ex s₂ H₂) ifs tc) (he : ∀ C ex s₂ H₂, PE (compCxC X scope x (x :: frees.map (·.1)) C ex s₂ H₂) elt te)
    (I : Inv X pins σ H1 s₂) (T : Turn X.prog X.w X.K (.Name x px) J fp it tn) (st : tn 0 s₂.heap) (hf : ∀ b ∈ fp, FpOk X pins H1 b) (hB : CompB J tc te (inSt frees σ) H1 Q)
    (hRR : ∀ D C H' s', Inv X pins σ H' s' → (∃ m, s'.heap.Ns C m) → FpOk X pins H' C → Q (.ref D) H' → RR (.ref D) C (.ok .next) s') :
    wpAny (model X.prog X.w) X.A (newList []) (fun acc s₃ => wpAny (model X.prog X.w) X.A (newFunctionEnv scope X.env.globals (closOf X.env.cells scope.names []) [] X.env.qual none .none (some X.env)) (fun cenv s₄ =>
      codeAny (model X.prog X.w) X.A (.compStart (.ListComp elt [⟨.Name x px, iter, ifs, 0⟩] scope pos) 0 (.ref it) acc { cenv with scope := relabel scope X.env }) (RR acc cenv.locals) s₄) E s₃) E s₂ := by
  refine wpAny_newObj_type (wpAny_newEnv_one O.cell ?_)
  dsimp only
  generalize hH2 : s₂.heap.push { cls := .type "list", dict := none, data := .seq ([] : List Value).toArray } = H2
  have hns₁ : ((H2.push { cls := .type "dict", data := .dict #[] }).push { cls := .type "cell", data := .cell none }).Ns H2.objs.size (fun _ => none) := (Heap.Ns.new H2 (.type "dict")).keeps fun b o e => Heap.get?_push_of_some _ e
  have hext : ∀ b o, H2.get? b = some o → ((H2.push { cls := .type "dict", data := .dict #[] }).push { cls := .type "cell", data := .cell none }).get? b = some o := fun b o e => Heap.get?_push_of_some _ (Heap.get?_push_of_some _ e)
  have hcl : ((H2.push { cls := .type "dict", data := .dict #[] }).push { cls := .type "cell", data := .cell none }).IsCell (H2.objs.size + 1) none := ⟨_, by rw [← Heap.size_push H2 { cls := .type "dict", data := .dict #[] }]; exact Heap.get?_push_size _ rfl, rfl⟩
  generalize (H2.push { cls := .type "dict", data := .dict #[] }).push { cls := .type "cell", data := .cell none } = h₁ at hns₁ hext hcl ⊢
  have hC : H2.objs.size = s₂.heap.objs.size + 1 := by rw [← hH2, Heap.size_push]
  have hDC : s₂.heap.objs.size ≠ H2.objs.size := by rw [hC]; exact Nat.ne_of_lt (Nat.lt_succ_self _)
  have hCle : s₂.heap.objs.size ≤ H2.objs.size := by rw [hC]; exact Nat.le_succ _
  have below : ∀ b, b < s₂.heap.objs.size → b ≠ H2.objs.size ∧ b ≠ s₂.heap.objs.size := fun b hb => ⟨by rw [hC]; exact Nat.ne_of_lt (Nat.lt_succ_of_lt hb), Nat.ne_of_lt hb⟩
  have belowC : ∀ b, b < s₂.heap.objs.size → b ≠ H2.objs.size + 1 := fun b hb => by omega
  have old : ∀ b o, s₂.heap.get? b = some o → h₁.get? b = some o := fun b o e => hext b o (hH2 ▸ Heap.get?_push_of_some _ e)
  have hacc : h₁.get? s₂.heap.objs.size = some { cls := .type "list", data := .seq ([] : List Value).toArray } := hext _ _ (hH2 ▸ Heap.get?_push_size _ rfl)
  have nD : H1 s₂.heap.objs.size = none := I.hok.fresh (Nat.le_refl _)
  obtain ⟨W, ⟨m0, w0⟩, hW⟩ := hB s₂.heap.objs.size nD
  -- the block's context and its first state
  let X' : Cx := compCxC X scope x (x :: frees.map (·.1)) H2.objs.size fp s₂ H1
  have inC : ∀ y c, (closOf X.env.cells scope.names []).lookup y = some c → X.env.cells.lookup y = some c := fun y c h => closOf_in scope.names [] O.cl (fun y c h => by cases h) h
  have outC : ∀ y c, X.env.cells.lookup y = some c → c < s₂.heap.objs.size := fun y c h => by
    obtain ⟨v, o, ho, _⟩ := I.cell y c h
    exact Heap.lt_size ho
  have two : ∀ y c, ((x, H2.objs.size + 1) :: closOf X.env.cells scope.names []).lookup y = some c → (y = x ∧ c = H2.objs.size + 1) ∨ X.env.cells.lookup y = some c := fun y c h => by
    rw [List.lookup_cons] at h
    by_cases e : (y == x) = true
    · rw [e] at h
      exact .inl ⟨eq_of_beq e, (Option.some.inj h).symm⟩
    · rw [Bool.eq_false_iff.mpr e] at h
      exact .inr (inC y c h)
  have fpl : ∀ b ∈ fp, b < s₂.heap.objs.size := fun b hb => by
    obtain ⟨o, e, _⟩ := T.obj _ _ st b hb
    exact Heap.lt_size e
  have ok' : X'.Ok := by
    refine ⟨I.ok.mod, O.kind, I.ok.glob, I.ok.blt, hCle, fun y z c h1 h2 => ?_, fun y hy => ?_, fun y c h h2 => ?_, I.ok.hd, I.ok.frames, .inl rfl, fun b hb => ?_, I.bs, Nat.le_trans I.ok.bsz I.sz, fun b o e hb => ?_, fun b hb z => ?_, I.stack, I.stkFree⟩
    · rcases two y c h1 with ⟨e1, e2⟩ | q1 <;> rcases two z c h2 with ⟨e3, e4⟩ | q2
      · rw [e1, e3]
      · exact absurd e2 (belowC c (outC z c q2))
      · exact absurd e4 (belowC c (outC y c q1))
      · exact I.ok.inj y z c q1 q2
    · show ∃ c, ((x, H2.objs.size + 1) :: closOf X.env.cells scope.names []).lookup y = some c
      rw [List.lookup_cons]
      by_cases e : (y == x) = true
      · rw [e]
        exact ⟨_, rfl⟩
      · rw [Bool.eq_false_iff.mpr e]
        exact Option.isSome_iff_exists.mp (closOf_has scope.names [] (.inr (relabel_freeC O.only (fun z => e (by rw [z]; exact beq_self_eq_true _)) hy)))
    · show s₂.heap.objs.size ≤ c
      rcases two y c h2 with ⟨_, e2⟩ | q1
      · omega
      · exfalso
        have ey : y = x := eq_of_beq h
        have := h2
        rw [show X'.env.cells = (x, H2.objs.size + 1) :: closOf X.env.cells scope.names [] from rfl, List.lookup_cons, ey, beq_self_eq_true] at this
        have e2 := Option.some.inj this
        exact belowC c (outC y c q1) e2.symm
    · refine ⟨(below b (fpl b hb)).1, fun y c h => ?_⟩
      rcases two y c h with ⟨_, e2⟩ | q1
      · rw [e2]
        exact Ne.symm (belowC b (fpl b hb))
      · exact (hf b hb).2.2.2.2.1 y c q1
    · rcases (hf b hb).2.2.2.1 with z | z
      · exact I.ok.noex b o e z
      · exact absurd (Nat.lt_of_lt_of_le (Nat.lt_of_lt_of_le (Heap.lt_size e) I.ok.bsz) z) (Nat.lt_irrefl _)
    · exact (List.mem_cons.mp (I.stkSub b z)).elim (hf b hb).2.1 (hf b hb).2.2.1
  have hok1 : HOk X.prog X.w (upd H1 s₂.heap.objs.size (.lst [])) h₁ := I.hok.laid old (Nat.le_refl _) ⟨Nat.zero_le _, [], 0, .nil, hacc⟩
  have I0 : ∀ tk, Inv X' [] (inSt frees σ none) (upd H1 s₂.heap.objs.size (.lst [])) { s₂ with heap := h₁, toks := tk } := fun tk => by
    refine ⟨ok', rfl, I.bare, Un.laid old (Nat.le_refl _) nD, ⟨_, hns₁, fun i y v h1 h2 h3 => ?_⟩, fun y c h => ?_, ?_, fun y c h => ?_, fun p hp => absurd (show p ∈ ([] : List (Addr × Obj)) from hp) (by simp), hok1, ?_⟩
    · cases i with
      | zero =>
        have h2' : (none : Option V) = some v := Option.some.inj h2
        cases h2'
      | succ j =>
        have h1' : (frees.map (·.1))[j]? = some y := h1
        have h2' : (frees.map fun p => (σ[p.2]?).join)[j]? = some (some v) := h2
        rw [List.getElem?_map] at h1' h2'
        cases e : frees[j]? with
        | none => rw [e] at h1'; cases h1'
        | some p =>
          rw [e] at h1' h2'
          have e1 : p.1 = y := Option.some.inj h1'
          have e2 : (σ[p.2]?).join = some v := Option.some.inj h2'
          obtain ⟨g1, g2, g3, g4⟩ := O.fr.at p (List.mem_of_getElem? e)
          have e3 : σ[p.2]? = some (some v) := by
            cases q : σ[p.2]? with
            | none => rw [q] at e2; cases e2
            | some o => rw [q] at e2; exact congrArg some e2
          obtain ⟨m, hn, hl⟩ := I.loc
          obtain ⟨u, r, l⟩ := hl p.2 p.1 v g1 e3 (.inr (.inl g2))
          refine ⟨u, r, ?_⟩
          rcases l with ⟨k, _⟩ | ⟨_, c, hc1, hc2⟩
          · rw [g2] at k; cases k
          · obtain ⟨c2, hc3⟩ := Option.isSome_iff_exists.mp (closOf_has (cells := X.env.cells) scope.names [] (.inr g4))
            have hc4 := inC _ _ hc3
            rw [hc1] at hc4
            cases hc4
            rw [← e1]
            have nx : p.1 ≠ x := fun z => by
              have := O.nd
              rw [List.nodup_cons] at this
              exact this.1 (List.mem_map.mpr ⟨p, List.mem_of_getElem? e, z⟩)
            refine .inr ⟨.inl g3, c, ?_, ?_⟩
            · show ((x, H2.objs.size + 1) :: closOf X.env.cells scope.names []).lookup p.1 = some c
              rw [List.lookup_cons, beq_eq_false_iff_ne.mpr nx]
              exact hc3
            obtain ⟨o, ho, hd⟩ := hc2
            exact ⟨o, old c o ho, hd⟩
    · rcases two y c h with ⟨_, e2⟩ | q1
      · rw [e2]
        exact ⟨none, hcl⟩
      · obtain ⟨v, o, ho, hd⟩ := I.cell y c q1
        exact ⟨v, o, old c o ho, hd⟩
    · show upd H1 s₂.heap.objs.size (.lst []) H2.objs.size = none
      rw [upd_ne (Ne.symm hDC)]
      exact I.hok.fresh hCle
    · rcases two y c h with ⟨_, e2⟩ | q1
      · have n2 : H2.objs.size + 1 ≠ s₂.heap.objs.size := by omega
        rw [e2, upd_ne n2]
        exact I.hok.fresh (by omega)
      · obtain ⟨v, o, ho, hd⟩ := I.cell y c q1
        rw [upd_ne (below c (Heap.lt_size ho)).2]
        exact I.freeC y c q1
    · show (inSt frees σ none).length = (x :: frees.map (·.1)).length
      simp [inSt]
  have stat : ∀ {H' : Hp}, (∀ b ∈ fp, H' b = none) → ∀ b ∈ fp, FpOk X' [] H' b := fun hn b hb =>
    ⟨hn b hb, (below b (fpl b hb)).1, fun z => (List.mem_cons.mp (I.stkSub b z)).elim (hf b hb).2.1 (hf b hb).2.2.1, .inl hb, fun y c h => (two y c h).elim (fun e => by rw [e.2]; exact Ne.symm (belowC b (fpl b hb))) ((hf b hb).2.2.2.2.1 y c), fun p hp => absurd (show p ∈ ([] : List (Addr × Obj)) from hp) (by simp)⟩
  have hst₁ : tn 0 h₁ := T.keep _ _ _ st fun b _ o e => old b o e
  have fr0 : ∀ b ∈ fp, (upd H1 s₂.heap.objs.size (.lst [])) b = none := fun b hb => by
    rw [upd_ne (below b (fpl b hb)).2]
    exact (hf b hb).1
  have loop : ∀ tk, codeAny (model X.prog X.w) X.A (.compLoop (.ListComp elt [⟨.Name x px, iter, ifs, 0⟩] scope pos) 0 (.ref it) (.ref s₂.heap.objs.size) X'.env) (RR (.ref s₂.heap.objs.size) H2.objs.size) { s₂ with heap := h₁, toks := tk } := fun tk => by
    refine comp_loop (fun n s' => ∃ i ys o H', Inv X' [] (inSt frees σ o) H' s' ∧ tn i s'.heap ∧ (∀ b ∈ fp, H' b = none) ∧ W i n ys H') ?_ m0 ⟨0, [], none, _, I0 tk, hst₁, fr0, w0⟩
    rintro n s3 ⟨i, ys, o3, H3, I3, st3, fr3, w3⟩
    obtain ⟨hD3, alt⟩ := hW i n ys H3 w3
    rcases alt with ⟨stop, q⟩ | ⟨go, hlt, step⟩
    · refine thn (T.done X' rfl rfl rfl O.calm i [] s3 _ H3 _ I3 (stat fr3) st3 stop) fun r s4 ⟨hr, I4⟩ => ?_
      subst hr
      have J4 : Inv X pins σ H3 s4 := I.call' (ch := fp) I4.os I4.base I4.hok I4.bare fun b hb => ⟨(hf b hb).2.2.2.1, (hf b hb).2.1, (hf b hb).2.2.2.2.1, (hf b hb).2.2.2.2.2⟩
      obtain ⟨m4, hn4, _⟩ := I4.loc
      exact hRR _ _ H3 s4 J4 ⟨m4, hn4⟩ (I.fpOk hCle I4.free) q
    · refine thn (T.item X' rfl rfl rfl O.calm i [] s3 _ H3 _ I3 (stat fr3) st3 go) fun r s4 ⟨u, hr, h4⟩ => ?_
      subst hr
      refine thn h4 fun _ s5 ⟨v, H5, I5, r5, y5, st5, fr5⟩ => ?_
      have I5' := I5.pinned (stat fr5) (T.obj _ _ st5)
      have tail : ∀ {σ7 : St} {H7 : Hp} {s7 : Shared}, Inv X' ([] ++ pinsAt fp s5.heap) σ7 H7 s7 → Inv X' [] σ7 H7 s7 ∧ tn (i + 1) s7.heap ∧ ∀ b ∈ fp, H7 b = none := fun {σ7 H7 s7} I7 => by
        refine ⟨I7.unpinned, T.keep _ _ _ st5 fun b hb o e => (I7.pin (b, o) (List.mem_append_right _ (List.mem_append_right _ (mem_pinsAt hb e)))).1, fun b hb => ?_⟩
        obtain ⟨o, e, d⟩ := T.obj _ _ st5 b hb
        exact (I7.pin (b, o) (List.mem_append_right _ (List.mem_append_right _ (mem_pinsAt hb e)))).2.1
      have hg : PG X' (.Name x px) (gName 0) := pg_name O.nd rfl (Or.inr O.own) (.inl (beq_self_eq_true x))
      refine thn (hg _ s5 _ H5 v u (fun σ6 H6 => σ6 = inSt frees σ (some v) ∧ H6 = H5) I5' r5 ⟨rfl, rfl⟩) fun _ s6 ⟨σ6, H6, I6, e6, e6'⟩ => ?_
      subst e6 e6'
      refine thn (hc _ _ _ _ _ s6 _ _ _ I6 (step v _ y5)) fun b s7 ⟨H7, I7, q7⟩ => ?_
      cases b with
      | false =>
        obtain ⟨m', hm, w7⟩ := (show ∃ m', m' < n ∧ W (i + 1) m' ys H7 from q7)
        obtain ⟨t1, t2, t3⟩ := tail I7
        exact ⟨m', hm, i + 1, ys, some v, H7, t1, t2, t3, w7⟩
      | true =>
        refine thn (he _ _ _ _ _ s7 _ _ _ I7 q7) fun y s8 ⟨y', H8, I8, r8, hD8, m', hm, w8⟩ => ?_
        refine thn (mt_append (X := X') _ s8 _ H8 (.ref s₂.heap.objs.size) [y'] _ [y] (fun _ H9 => H9 = upd H8 s₂.heap.objs.size (.lst (ys ++ [y']))) I8 rfl (.cons r8 .nil) ⟨_, _, _, rfl, rfl, hD8, hlt, rfl⟩) fun _ s9 ⟨_, H9, I9, _, e9⟩ => ?_
        subst e9
        obtain ⟨t1, t2, t3⟩ := tail I9
        exact ⟨m', hm, i + 1, ys ++ [y'], some v, _, t1, t2, t3, w8⟩
  exact codeAny_compStart_list (loop _) (T.self _ 0 _ _ _ hst₁ (loop _))
theorem ps_compC {wi : TI} {i : Nat} {y : Str} {py spos : Pos} (O : CompOkC X scope x frees) (hN : X.N.Nodup) (hiy : X.N[i]? = some y) (hy : X.env.kindOf y = some .local) (hsw : swapsWith (.ListComp elt [⟨.Name x px, iter, ifs, 0⟩] scope pos) (some (.Name y py)) spos.line X.env = pure true)
    (hi : PI X (.Name x px) iter wi) (hc : ∀ C ex s₂ H₂, PIfs (compCxC X scope x (x :: frees.map (·.1)) C ex s₂ H₂) ifs tc) (he : ∀ C ex s₂ H₂, PE (compCxC X scope x (x :: frees.map (·.1)) C ex s₂ H₂) elt te)
    (hs : ∀ x, foldedSetIterable iter X.env x = pure x := by intro _; rfl) : PS X (.Assign [.Name y py] (.ListComp elt [⟨.Name x px, iter, ifs, 0⟩] scope pos) spos) (tAsg (tComp frees tc te wi) (gName i)) := by
  intro pins s σ H D I h
  rw [exec_Assign_Name_used _ _ _ _ hsw]
  refine wpAny_bind (wpAny_standAt (wpAny_bind ?_))
  show wpAny _ X.A (do let _ ← comprehension (.ListComp elt [⟨.Name x px, iter, ifs, 0⟩] scope pos) scope X.env _ (newList []) false (eval iter X.env) (some (assign (.Name y py) X.env))) _ _ s
  refine wpAny_bind (wpAny_mono (wpAny_comprehension_free (use := some (assign (.Name y py) X.env)) (Q := fun _ s' => SP X pins D .next s') rfl hs (closureFor_of O.cl) O.kind O.names
    (thn (hi pins s σ H _ I h) fun xv s₁ h₁ => thn h₁ fun itv s₂ h₂ => ?_)) (fun _ s' hq => wpAny_pure (wpAny_pure hq)) fun _ _ e => e)
  obtain ⟨it, fp, tn, J, H2, e, I2, T, st2, f2, hB⟩ := h₂
  subst e
  refine comp_coreC (RR := fun acc C => compPost (model X.prog X.w) X.A X.xe (some (assign (.Name y py) X.env)) (fun _ s' => SP X pins D .next s') acc C) O hc he I2 T st2 f2 hB ?_
  intro A C H' s' I' hn hC q
  obtain ⟨m, hn⟩ := hn
  obtain ⟨oC, es, ep, hoC, hdC, hr⟩ := id hn
  have I'' : Inv X (pins ++ [(C, oC)]) σ H' s' := I'.pins_of fun p hp => (List.mem_append.mp hp).elim (fun z => I'.pin p (List.mem_append_right _ z)) fun z => by
    rw [List.mem_singleton.mp z]
    exact ⟨hoC, hC.1, hC.2.1, hC.2.2.1, fun v e => by rw [hdC] at e; cases e⟩
  show wpAny _ X.A (assign (.Name y py) X.env (.ref A)) _ _ _
  refine wpAny_assign_Name (store_ok I'' hN hiy (.inl hy) (v := .ref A) rfl (fun s3 I3 => ?_) (.inr hy))
  have hC3 := (I3.pin (C, oC) (List.mem_append_right _ (List.mem_append_right _ (List.mem_singleton.mpr rfl)))).1
  have J3 : Inv X pins (σ.set i (some (.ref A))) H' s3 := I3.unpinned
  refine ⟨m, ⟨oC, es, ep, hC3, hdC, hr⟩, fun h' hs' => ?_⟩
  exact ⟨_, H', J3.turned (t' := s3.toks) (fun b o hb e => hs'.extBut b o hb e) hC.1 hC.2.1 hC.2.2.2.1 hC.2.2.2.2.1 hC.2.2.2.2.2, q⟩
end
end L2
namespace L2
open PySem PyProof.Rows PySem.Spec PySem.Calls
section
variable {X : Cx}
theorem pre_sum {ns : List Int} (h : ∀ v ∈ ns, 0 ≤ v ∧ v ≤ 1) : ∀ k, k ≤ ns.length → preSum (fun i => ns.getD i 0) k = (ns.take k).sum ∧ 0 ≤ preSum (fun i => ns.getD i 0) k ∧ preSum (fun i => ns.getD i 0) k ≤ k
  | 0, _ => ⟨rfl, Int.le_refl _, Int.le_refl _⟩
  | k + 1, hk => by
    obtain ⟨e, h1, h2⟩ := pre_sum h k (by omega)
    have ek : ns[k]? = some ns[k] := List.getElem?_eq_getElem (by omega)
    have hv := h ns[k] (List.getElem_mem _)
    have ed : ns.getD k 0 = ns[k] := by rw [List.getD_eq_getElem?_getD, ek]; rfl
    show preSum (fun i => ns.getD i 0) k + ns.getD k 0 = _ ∧ 0 ≤ preSum (fun i => ns.getD i 0) k + ns.getD k 0 ∧ preSum (fun i => ns.getD i 0) k + ns.getD k 0 ≤ _
    rw [ed]
    refine ⟨?_, by omega, by omega⟩
    rw [e, List.take_add_one, ek, List.sum_append]
    show _ = _ + (ns[k] + 0)
    omega
end
end L2
namespace PySem
open Builtin
section
variable {prog : Program} {w : World} {A : Around} {E : Value → Shared → Prop} {s : Shared}
theorem entry_unchain : entryFor table "proto.unchain" = some Builtin.«proto.unchain» := by first | exact entryFor_of_fast (by kernel_rfl) | exact entryFor_of_tree (by kernel_rfl)
theorem unchain_at {v : Value} {x : Addr} {ox : Obj} {vs : Array Value} {Q : Value → Shared → Prop} (hx : s.heap.get? x = some ox) (hd : ox.data = .fields vs) (hc : vs[2]? = some .none) (q : Q .none s) :
    wpAny (model prog w) A (runValue (.builtin "proto.unchain" ⟨[v, .ref x, .ref x, .bool false], []⟩)) Q E s := by
  refine wpAny_runValue (codeAny_builtin entry_unchain ?_)
  unfold Builtin.«proto.unchain»
  dsimp only
  refine wpAny_bind (wpAny_field hx hd hc ?_)
  rw [if_pos (by rfl)]
  unfold ret
  exact wpAny_pure q
theorem raise_h {α : Type} {e x : Addr} {oe ox : Obj} {ws vs : Array Value} {Q : α → Shared → Prop} (hh : A.handled = some (.ref x)) (ne : x ≠ e) (he : s.heap.get? e = some oe) (de : oe.data = .fields ws) (ze : 2 < ws.size) (hx : s.heap.get? x = some ox) (hd : ox.data = .fields vs) (hc : vs[2]? = some .none)
    (h : E (.ref e) { s with heap := s.heap.update e (Obj.mapFields (·.setIfInBounds 2 (.ref x))) }) : wpAny (model prog w) A (raiseNew (.ref e) : Sem α) Q E s := by
  unfold raiseNew
  refine wpAny_bind (wpAny_handled ?_)
  rw [hh]
  dsimp only
  rw [if_pos (by simpa using ne)]
  refine wpAny_bind (wpAny_holding (unchain_at hx hd hc (wpAny_bind ?_)))
  refine wpAny_mono (Q := fun _ s' => s' = { s with heap := s.heap.update e (Obj.mapFields (·.setIfInBounds 2 (.ref x))) }) (wpAny_setField he de ze rfl) (fun _ s' z => ?_) fun _ _ z => z
  rw [z]
  exact wpAny_throw h
theorem next_list_h {it l x : Addr} {i : Nat} {items} {ox : Obj} {vs : Array Value} {Q : Option Value → Shared → Prop} (hh : A.handled = some (.ref x)) (ht : s.heap.IsListIter it l i) (hl : s.heap.IsList l items) (hi : items[i]? = none)
    (hx : s.heap.get? x = some ox) (hdx : ox.data = .fields vs) (hcx : vs[2]? = some .none) (nx : x ≠ it) (hQ : ∀ h', Heap.ExtBut it s.heap h' → Q none { s with heap := h' }) : wpAny (model prog w) A (pyNext (.ref it)) Q E s := by
  obtain ⟨oi, gi, ci, di⟩ := id ht
  obtain ⟨ol, gl, _, nl, dl⟩ := hl
  unfold pyNext
  refine wpAny_bind (wpAny_attempt (wpAny_callSpecial?_slot (name := Str.ofString "__next__") ht.typeIs slot_listiter_next (wpAny_call_entry slot_listiter_next ht.typeIs entry_listiter_next ?_ (args_listiter_next _))))
  show wpAny _ A.in1 (field (.ref it) 0 >>= _) _ _ s
  refine wpAny_bind (wpAny_field gi di (x := .ref l) rfl ?_)
  show wpAny _ A.in1 (if (Value.ref l == Value.none) = true then _ else _) _ _ s
  rw [if_neg (by exact Bool.false_ne_true)]
  show wpAny _ A.in1 (field (.ref it) 1 >>= _) _ _ s
  refine wpAny_bind (wpAny_field gi di (x := .int i 0) rfl ?_)
  show wpAny _ A.in1 (seqItems? (.ref l) >>= _) _ _ s
  refine wpAny_bind (wpAny_seqItems gl dl ?_)
  simp only [Int.toNat_natCast, hi]
  refine wpAny_bind (wpAny_rule (wpAny_bind (wpAny_setField gi di (by simp) ?_)))
  show wpAny _ A.in1 (newExc (.type "StopIteration") [] >>= _) _ _ _
  refine wpAny_bind ?_
  simp only [newExc, newTuple]
  refine wpAny_bind (wpAny_newObj_type ?_ (by size_fits))
  refine wpAny_bind (m := firstArgMember _ _) (wpAny_of_eq (a := Value.none) (by first | rfl | (simp only [firstArgMember]; rfl)) (wpAny_newObj_type ?_ (by size_fits)))
  dsimp only
  have hx1 : (s.heap.update it (Obj.mapFields fun x => x.setIfInBounds 0 Value.none)).get? x = some ox := by rw [Heap.get?_update_other _ _ (Ne.symm nx)]; exact hx
  have old : ∀ b o, b ≠ it → s.heap.get? b = some o → (s.heap.update it (Obj.mapFields fun x => x.setIfInBounds 0 Value.none)).get? b = some o := fun b o nb e => by rw [Heap.get?_update_other _ _ (Ne.symm nb)]; exact e
  generalize s.heap.update it (Obj.mapFields fun x => x.setIfInBounds 0 Value.none) = g0 at hx1 old ⊢
  have hx2 := Heap.get?_push_of_some (h := g0) { cls := Value.type "tuple", data := Data.seq #[] } hx1
  have old2 : ∀ b o, b ≠ it → s.heap.get? b = some o → (g0.push { cls := Value.type "tuple", data := Data.seq #[] }).get? b = some o := fun b o nb e => Heap.get?_push_of_some _ (old b o nb e)
  generalize g0.push { cls := Value.type "tuple", data := Data.seq #[] } = g1 at hx2 old2 ⊢
  refine raise_h (A := A.in1) (x := x) hh (Nat.ne_of_lt (Heap.lt_size hx2)) (Heap.get?_push_size g1 rfl) rfl (by simp [ownMembersOf]) (Heap.get?_push_of_some _ hx2) hdx hcx ?_
  refine wpAny_bind (wpAny_isInstance (T := "StopIteration") (b := true) ⟨_, Heap.get?_update_self _ (Heap.get?_push_size g1 rfl) rfl, rfl⟩ isSubtype_stop ?_)
  refine wpAny_pure (hQ _ fun b o nb e => ?_)
  rw [Heap.get?_update_other _ _ (Nat.ne_of_gt (Heap.lt_size (old2 b o nb e)))]
  exact Heap.get?_push_of_some _ (old2 b o nb e)
end
end PySem
namespace L2
open PySem PySem.Spec PyProof.Rows PySem.Calls
structure RoomH (ea : Addr) (k : Nat) (A : Around) : Prop where
  hd : A.handled = some (.ref ea)
  dp : A.depth + 3 * k + 5 < recursionLimit
  un : A.units + 16 * k + 200 < cLine
theorem RoomH.mono {ea : Addr} {j k : Nat} {A : Around} (r : RoomH ea k A) (h : j ≤ k) : RoomH ea j A := ⟨r.hd, by have := r.dp; omega, by have := r.un; omega⟩
theorem RoomH.deeper {ea : Addr} {k : Nat} {A : Around} (r : RoomH ea (k + 1) A) (env : Env) : RoomH ea k (A.deeper env) :=
  ⟨r.hd, by have := r.dp; show A.depth + 1 + 3 * k + 5 < _; omega, by have := r.un; show A.units + 3 + 16 * k + 200 < _; omega⟩
theorem RoomH.depth {ea : Addr} {k : Nat} {A : Around} (r : RoomH ea k A) : A.depth < recursionLimit := by have := r.dp; omega
theorem Room.caught {k : Nat} {A : Around} (r : Room k A) (ea : Addr) : RoomH ea k (A.mark (some (.ref ea))) := ⟨rfl, r.dp, r.un⟩
structure FnOkH (ea : Addr) (P : Program) (w : World) (K : PySem.W.Frag) (mg : Str → Option Value) (base : Heap) (k : Nat) (f : Addr) (fd : FuncData) (ps : List Str) (sp : Sp) : Prop where
  len : ∀ vs H Q E, sp vs H Q E → vs.length = ps.length
  run : ∀ (A : Around) (outer : List Env) (s : Shared) (H : Hp) (args : Args) (us : List Value) (vs : List V) (Q : VK) (E : XK), RoomH ea k A → Env0 P w K mg base A outer s H → BindsTo s fd args (ps.zip us) → Vals vs us → sp vs H Q E →
    codeAny (model P w) A (.call (.ref f) args) (CR CX0 outer P w H s Q E) s
def cxH (P : Program) (w : World) (K : PySem.W.Frag) (mg : Str → Option Value) (base : Heap) (N : List Str) (qual : Str) (scope : Scope) (f : Addr) (cd : Value) (A : Around) (outer : List Env) (s : Shared) (H : Hp) (E : XK) : Cx :=
  { cxOf CX0 P w K mg base N qual scope f cd A outer s H E with calm := false }
theorem inv_startH {P : Program} {w : World} {K : PySem.W.Frag} {mg : Str → Option Value} {base : Heap} {N ps : List Str} {qual : Str} {scope : Scope} {f : Addr} {cd : Value} {A : Around} {outer : List Env} {s s1 : Shared} {H : Hp} {E : XK} {us : List Value} {vs : List V}
    (S : FnScope N ps scope) (e0 : Env0 P w K mg base A outer s H) (hl : vs.length = ps.length) (r : Vals vs us)
    (x : InCallC s s.heap.objs.size (bindL (envOfC qual scope s.heap.objs.size f cd).kindOf (ps.zip us) fun _ => none) (cellsFrom (s.heap.objs.size + 1) scope.names []) (bindC (envOfC qual scope s.heap.objs.size f cd).kindOf (ps.zip us) fun _ => none) s1) :
    Inv (cxH P w K mg base N qual scope f cd A outer s H E) [] (start N vs) H s1 := by
  have hpl : ps.length ≤ N.length := by have := congrArg List.length S.pre; rw [List.length_take] at this; omega
  obtain ⟨h1, tk, rfl, hk⟩ := x.done
  have noA : ∀ b : Addr, b ∉ (cxH P w K mg base N qual scope f cd A outer s H E).ex := fun b z => absurd (show b ∈ ([] : List Addr) from z) (by simp)
  refine ⟨⟨e0.mod, S.kind, rfl, rfl, Nat.le_refl _, fun y z c h1 h2 => ?_, fun y hy => ?_, fun y c _ h => ?_, (fun z => nomatch z), Around.frames_deeper e0.frames, .inr ⟨rfl, rfl⟩, fun b z => absurd z (noA b), e0.bs, e0.bsz, fun b _ _ => noA b, fun b z => absurd z (noA b), e0.funs, e0.frf⟩,
    rfl, e0.bare, Un.kept hk, ⟨_, x.toInCall.ns, fun i y v h1 h2 h3 => ?_⟩, fun y c h => ⟨_, x.cell y c h⟩, e0.hok.fresh (Nat.le_refl _), fun y c h => ?_, fun p hp => absurd (show p ∈ ([] : List (Addr × Obj)) from hp) (by simp), e0.hok.kept hk, ?_⟩
  · exact name_of_addr x.apart (PySem.mem_of_lookup h1) (PySem.mem_of_lookup h2)
  · have hy : scope.names.lookup y = some .cell ∨ scope.names.lookup y = some .free := hy
    rcases hy with hy | hy
    · exact cell_has hy
    · exact absurd rfl (S.nofree _ (PySem.mem_of_lookup hy))
  · exact Nat.le_of_lt (x.above y c (PySem.mem_of_lookup h))
  · have hi : i < vs.length := by
      unfold start at h2
      by_cases hi : i < vs.length
      · exact hi
      · rw [List.getElem?_append_right (by simpa using hi)] at h2
        rw [List.getElem?_replicate] at h2
        split at h2 <;> cases h2
    have ha : vs[i]? = some v := by
      unfold start at h2
      rw [List.getElem?_append_left (by simpa using hi), List.getElem?_map] at h2
      cases e : vs[i]? with
      | none => rw [e] at h2; cases h2
      | some a => rw [e] at h2; cases h2; rfl
    obtain ⟨u, hu, rv⟩ := r.get ha
    have hp : ps[i]? = some y := by
      rw [← S.pre, List.getElem?_take_of_lt (by omega)]; exact h1
    have ndP : ps.Nodup := by rw [← S.pre]; exact S.nd.sublist (List.take_sublist _ _)
    refine ⟨u, rv, ?_⟩
    rcases S.par y (List.mem_of_getElem? hp) with k | k
    · exact .inl ⟨k, bindL_get ndP hp hu k⟩
    · obtain ⟨c, e⟩ := cell_has (n := s.heap.objs.size + 1) k
      refine .inr ⟨.inl k, c, e, ?_⟩
      have q := x.cell y c e
      rw [bindC_get ndP hp hu (by show scope.names.lookup y ≠ _; rw [k]; decide)] at q
      exact q
  · exact e0.hok.fresh (Nat.le_of_lt (x.above y c (PySem.mem_of_lookup h)))
  · unfold start
    show _ = N.length
    rw [List.length_append, List.length_map, List.length_replicate]
    omega
theorem fn_ofH {ea : Addr} {P : Program} {w : World} {K : PySem.W.Frag} {mg : Str → Option Value} {base : Heap} {k : Nat} {f : Addr} {name qual : Str} {params : Arguments} {body : List Stmt} {scope : Scope} {dV kV doc pm cdv ct oc : Value} {an od : Option Addr}
    {osl : Array (Option Value)} {N ps : List Str} {sp : Sp} (lk : K.lookup f = some ⟨oc, od, .func (PySem.W.fnOf name qual params body scope dV kV doc pm an cdv ct), osl⟩) (hcd : PySem.W.codeIn K cdv qual = true) (S : FnScope N ps scope)
    (len : ∀ vs H Q E, sp vs H Q E → vs.length = ps.length)
    (hbody : ∀ (A : Around) (outer : List Env) (s : Shared) (H : Hp) (vs : List V) (Q : VK) (E : XK), RoomH ea k (A.deeper (envOfC qual scope s.heap.objs.size f cdv)) → sp vs H Q E →
      ∃ t, PSs (cxH P w K mg base N qual scope f cdv A outer s H E) body t ∧ t { nx := fun _ H' => Q .non H', rt := Q } (start N vs) H) :
    FnOkH ea P w K mg base (k + 1) f (PySem.W.fnOf name qual params body scope dV kV doc pm an cdv ct) ps sp := by
  refine ⟨len, fun A outer s H args us vs Q E hr e0 hb r hsp => ?_⟩
  have hl := len _ _ _ _ hsp
  have KX : K.In s.heap := e0.mod.kin.keeps fun b o e => (e0.bs b o e).1
  have lim : s.heap.NoLimit := e0.mod.nolimit.keeps fun b o e => (e0.bs b o e).1
  have hkind : ∀ y ∈ ps.zip us, scope.names.lookup y.1 = some .local ∨ (scope.names.lookup y.1 = some .cell ∧ ((cellsFrom (s.heap.objs.size + 1) scope.names []).lookup y.1).isSome = true) := fun ⟨n, v⟩ hy => by
    rcases S.par n (List.of_mem_zip hy).1 with q | q
    · exact .inl q
    · exact .inr ⟨q, PySem.W.cellsFrom_some _ _ _ (.inl q)⟩
  refine codeAny_call_function hr.depth (KX _ _ lk) rfl S.co S.gen rfl (PySem.W.codeRec_of KX hcd) (hb _ _ _ _ ?_)
  refine wpAny_newFunctionEnv_cells S.kind hkind fun env he s1 x => ?_
  subst he
  refine ⟨lim.keeps x.toInCall.keep, codeAny_func ?_⟩
  obtain ⟨t, ht, hq⟩ := hbody A outer s H vs Q E (hr.deeper _) hsp
  have I : Inv (cxH P w K mg base N qual scope f cdv A outer s H E) [] (start N vs) H s1 := inv_startH S e0 hl r x
  refine wpAny_mono (ht [] s1 (start N vs) H _ I hq) (fun fl s' hs => ?_) fun e s' hs => hs
  have fin : ∀ {σ' : St} {H' : Hp} {v : V} {u : Value}, Inv (cxH P w K mg base N qual scope f cdv A outer s H E) [] σ' H' s' → RelV v u → Q v H' → CE outer P w H s Q u s' :=
    fun {σ' H' v u} J rv q => ⟨v, H', J.os, J.bare, J.base, J.hok, rv, q⟩
  cases fl with
  | ret u =>
    obtain ⟨v, σ', H', J, rv, q⟩ := hs
    exact fin J rv q
  | next =>
    obtain ⟨σ', H', J, q⟩ := hs
    exact fin (v := V.non) (u := Value.none) J rfl q
  | brk =>
    obtain ⟨_, _, _, q⟩ := hs
    exact False.elim q
  | cont =>
    obtain ⟨_, _, _, q⟩ := hs
    exact False.elim q
section
variable {P : Program} {w : World} {K : PySem.W.Frag} {mg : Str → Option Value} {base : Heap}
theorem Fun.okH {ea : Addr} {x qual : Str} {st : Stmt} {f : Addr} {fd : FuncData} {N ps : List Str} {k : Nat} {sp : Sp} (F : Fun K x qual st f fd) (S : FnScope N ps (defScope st)) (len : ∀ vs H Q E, sp vs H Q E → vs.length = ps.length)
    (hbody : ∀ (cdv : Value) (A : Around) (outer : List Env) (s : Shared) (H : Hp) (vs : List V) (Q : VK) (E : XK), RoomH ea k (A.deeper (envOfC qual (defScope st) s.heap.objs.size f cdv)) → sp vs H Q E →
      ∃ t, PSs (cxH P w K mg base N qual (defScope st) f cdv A outer s H E).nox (defBody st) t ∧ t { nx := fun _ H' => Q .non H', rt := Q } (start N vs) H) : FnOkH ea P w K mg base (k + 1) f fd ps sp := by
  obtain ⟨oc, od, kV, doc, pm, an, cdv, ct, osl, rfl, lk, hcd⟩ := F.ex
  refine fn_ofH lk hcd S len fun A outer s H vs Q E hr hsp => ?_
  obtain ⟨t, h, q⟩ := hbody cdv A outer s H vs Q E hr hsp
  exact ⟨t, h.nox, q⟩
structure DfnH (ea : Addr) (P : Program) (w : World) (K : PySem.W.Frag) (mg : Str → Option Value) (base : Heap) (k : Nat) (x : Str) (ps : List Str) (sp : Sp) : Prop where
  ex : ∃ f fd, FnOkH ea P w K mg base k f fd ps sp ∧ Binds K fd ps [] ∧ PySem.W.keepIn K (.ref f) = true ∧ mg x = some (.ref f)
end
section
variable {X : Cx} {k : Nat} {f : Addr} {fd : FuncData} {ps : List Str} {ds : List Value} {dvs : List V} {sp : Sp} {E : XK}
theorem run_fnH {ea : Addr} {pins : List (Addr × Obj)} {σ : St} {H : Hp} {s : Shared} {Q : VK} {us : List Value} {vs : List V} (F : FnOkH ea X.prog X.w X.K X.mg X.base k f fd ps sp) (hr : RoomH ea k X.A) (hb : Binds X.K fd ps ds) (hd : Vals dvs ds) (hx : Passes CX0 X E)
    (I : Inv X pins σ H s) (r : Vals vs us) (h : sp (vs ++ dvs) H Q E) : wpAny (model X.prog X.w) X.A (call (.ref f) us) (EP X pins σ Q) X.xe s := by
  have r2 : Vals (vs ++ dvs) (us ++ ds) := r.append hd
  have hl : (us ++ ds).length = ps.length := by rw [← r2.length]; exact F.len _ _ _ _ h
  refine wpAny_call (codeAny_mono (F.run X.A X.stack s H ⟨us, []⟩ (us ++ ds) (vs ++ dvs) Q E hr I.env0 (hb s us I.kIn hl) r2 h) fun r s' hq => ?_)
  cases r with
  | error e => exact hx pins σ H s e s' I hq
  | ok fl =>
    cases fl with
    | ret u => exact I.after hq
    | next => exact False.elim hq
    | brk => exact False.elim hq
    | cont => exact False.elim hq
theorem pe_callH {ea : Addr} {x : Str} {e : Expr} {es : List Expr} {t : TA} {p pos : Pos} (D : DfnH ea X.prog X.w X.K X.mg X.base k x ps sp) (hr : RoomH ea k X.A) (hg : Gl X x) (ha : PA X (e :: es) t) (hdb : (x == ("__debug__" : Str)) = false := by decide)
    (he : starEach (e :: es) X.env = (false, eval e X.env) :: starEach es X.env := by rfl) (hpl : (backTo pos (starEach es X.env)).any (·.1) = false := by rfl) : PE X (.Call (.Name x p) (e :: es) [] pos) (tCall sp [] E0 t) := by
  obtain ⟨f, fd, F, hb, kp, hm⟩ := D.ex
  intro pins s σ H Q I h
  refine wpAny_Call_Name_kw (ld_glob I hg hm ?_ hdb)
  refine PySem.W.callWith_K (h₀ := X.base) I.ok.mod.kin kp (thn (ha pos pins s σ H _ I h) fun us s1 ⟨vs, H1, I1, r, q⟩ => ⟨I1.kIn, ?_⟩) he hpl
  exact run_fnH F hr hb .nil pass0 I1 r q
end
def tAsH (K : PySem.W.Frag) (B : Addr) (i : Nat) (ts : Addr → TS) (tr : TH) : TH := fun D σ H C ea => PySem.W.excMk K C = true ∧ PySem.W.excMk K B = true ∧ ∃ b, PySem.W.mroHas K C (.ref B) = b ∧ if b = true then ts ea (D.less i) (σ.set i (some (.ref ea))) H else tr D σ H C ea
section
variable {X : Cx}
theorem ph_asH {x n : Str} {B : Addr} {i : Nat} {b₀ : Stmt} {suite : List Stmt} {ts : Addr → TS} {tr : TH} {np hpos : Pos} {rest : List ExceptHandler} (hg : Gl X x) (hm : X.mg x = some (.ref B)) (hN : X.N.Nodup) (hi : X.N[i]? = some n) (hl : X.env.scope.names.lookup n = some .local)
    (hs : ∀ ea, PSs (X.caught ea) (b₀ :: suite) (ts ea)) (hr : PH X rest tr) (hd : (x == ("__debug__" : Str)) = false := by decide) : PH X (.ExceptHandler (some (.Name x np)) (some n) (b₀ :: suite) hpos :: rest) (tAsH X.K B i ts tr) := by
  intro pins s σ H D ea C d I hx tr h
  obtain ⟨mC, mB, b, hb, h⟩ := h
  have I1 : Inv (X.caught ea) pins σ H s := I.caught
  refine wpAny_handleBy_cons (codeAny_handlers_test (ld_glob I1 hg hm ?_ hd)) (by intro q; cases q)
  obtain ⟨vs, sl, g1⟩ := x_get I.hok (.inr hx)
  refine PySem.W.exc_match (K := X.K) I.kIn mC mB g1 rfl ?_
  rw [hb]
  cases b with
  | false => exact hr pins s σ H D ea C d I hx tr h
  | true =>
    show codeAny _ _ _ _ _
    refine (codeAny_handlers_suite_as ?_)
    obtain ⟨cl, d', vs', sl', T, g1', g2, ⟨nT, oT, ts', gT, dT, h3⟩, g4, g5, g6, g7, g8⟩ := tr
    rw [g1] at g1'
    cases g1'
    unfold setFlight
    refine wpAny_bind (wpAny_field g1 rfl g2 ?_)
    rw [if_pos (by simp)]
    refine wpAny_setField gT dT (Array.getElem?_eq_some_iff.mp h3).1 ?_
    have I2 : Inv (X.caught ea) pins σ H { s with heap := s.heap.update T (Obj.mapFields (·.setIfInBounds 3 ((none : Option Addr).elim Value.none fun f => rawInt f))), toks := s.toks } :=
      I1.turned (it := T) (fun b o hb q => by rw [Heap.get?_update_other _ _ (Ne.symm hb)]; exact q) g5 g6 (.inr g4) g7 g8
    refine store_ok (X := X.caught ea) I2 hN hi (.inl hl) (v := .ref ea) rfl (fun s3 I3 => ?_) (.inr hl)
    refine wpAny_mono (hs ea pins s3 _ H (D.less i) I3 h) (fun f s4 q => ?_) fun _ _ z => False.elim z
    have fin : ∀ {σ' : St} {H' : Hp} {Q : Shared → Prop}, Inv (X.caught ea) pins σ' H' s4 → (∀ s5, Inv X pins (σ'.set i none) H' s5 → Q s5) → wpAny (model X.prog X.w) X.A (do bindName X.env n .none; unbindBehindTheSuite X.env n hpos) (fun _ s5 => Q s5) X.xe s4 := fun {σ' H' Q} J k => by
      have J' := J.uncaught I.ok
      refine wpAny_bind (wpAny_bindName (store_ok J' hN hi (.inl hl) (v := .non) rfl (fun s5 I5 => ?_) (.inr hl)))
      unfold unbindBehindTheSuite
      refine wpAny_onRaise (unbind_ok I5 hN hi hl (List.getElem?_set_self (by rw [J'.len]; exact (List.getElem?_eq_some_iff.mp hi).1)) fun s6 I6 => k s6 ?_)
      rwa [List.set_set] at I6
    cases f with
    | next => obtain ⟨σ', H', J, q⟩ := q; exact fin (Q := fun s5 => SP X pins D .next s5) J fun s5 I5 => ⟨_, H', I5, q⟩
    | brk => obtain ⟨σ', H', J, q⟩ := q; exact fin (Q := fun s5 => SP X pins D .brk s5) J fun s5 I5 => ⟨_, H', I5, q⟩
    | cont => obtain ⟨σ', H', J, q⟩ := q; exact fin (Q := fun s5 => SP X pins D .cont s5) J fun s5 I5 => ⟨_, H', I5, q⟩
    | ret u => obtain ⟨v, σ', H', J, r, q⟩ := q; exact fin (Q := fun s5 => SP X pins D (.ret u) s5) J fun s5 I5 => ⟨v, _, H', I5, r, q⟩
end
end L2
namespace PySem
theorem walks_h {prog : Program} {w : World} {A : Around} {x : Addr} {cl : Value} {dd : Option Addr} {vs : Array Value} {sl : Array (Option Value)} (hh : A.handled = some (.ref x)) (J ax : Addr) (hne : ax ≠ J) (hnx : x ≠ J) (hc : vs[2]? = some .none) (items : Array Value) :
    Walks prog w A J [J, ax, x] [J] items.size (fun i v => items[i]? = some v) (fun i h => (h.IsListIter J ax i ∧ h.IsList ax items) ∧ h.get? x = some ⟨cl, dd, .fields vs, sl⟩) where
  sub := fun b hb => by simp at hb; simp [hb]
  frame := fun i h h' st hk => ⟨⟨st.1.1.at fun o e => hk J (by simp) o e, st.1.2.at fun o e => hk ax (by simp) o e⟩, hk x (by simp) _ st.2⟩
  item := fun i s Q E hi st hQ => by
    refine wpAny_pyNext_list_item st.1.1 st.1.2 (x := items[i]) (by simp [hi]) fun h' g1 g2 => ?_
    exact hQ _ h' s.toks (by simp [hi]) ⟨⟨g1, st.1.2.extBut g2.extBut hne⟩, g2.extBut _ _ hnx st.2⟩ fun b o hb e => g2.extBut b o (fun h => hb (by simp [h])) e
  done := fun s Q E st hQ => next_list_h hh st.1.1 st.1.2 (by simp) st.2 rfl hc hnx fun h' g => hQ h' s.toks fun b o hb e => g b o (fun h => hb (by simp [h])) e
  self := fun _ _ _ _ st hQ => wpAny_pyIter_listiter st.1.1 hQ
end PySem
namespace L2
open PySem PySem.Spec PyProof.Rows PySem.Calls
theorem IsX.ne {H : Hp} {e C b : Addr} {d : Option Addr} (h : IsX H e C d) (n : H b = none) : e ≠ b := fun z => by
  rcases h with h | h <;> (rw [z, n] at h; cases h)
structure TurnH (ea : Addr) (P : Program) (w : World) (K : PySem.W.Frag) (tg : Expr) (J : It) (fp : List Addr) (it : Addr) (tn : Nat → Heap → Prop) : Prop where
  mem : it ∈ fp
  obj : ∀ i h, tn i h → ∀ b ∈ fp, ∃ o, h.get? b = some o ∧ ∀ v, o.data ≠ .cell v
  keep : ∀ i h h', tn i h → (∀ b ∈ fp, ∀ o, h.get? b = some o → h'.get? b = some o) → tn i h'
  item : ∀ (X : Cx), X.prog = P → X.w = w → X.K = K → X.A.handled = some (.ref ea) → ∀ (i : Nat) (pins : List (Addr × Obj)) (s : Shared) (σ : St) (H : Hp) (E : Value → Shared → Prop), Inv X pins σ H s → (∀ b ∈ fp, FpOk X pins H b) → tn i s.heap → J.go i H →
    wpAny (model P w) X.A (pyNext (.ref it)) (fun r s1 => ∃ u, r = some u ∧
      wpAny (model P w) X.A (letOwnedTupleGo tg (.ref it) u) (fun _ s2 => ∃ x H', Inv X pins σ H' s2 ∧ RelV x u ∧ J.yld i H x H' ∧ tn (i + 1) s2.heap ∧ ∀ b ∈ fp, H' b = none) E s1) E s
  done : ∀ (X : Cx), X.prog = P → X.w = w → X.K = K → X.A.handled = some (.ref ea) → ∀ (i : Nat) (pins : List (Addr × Obj)) (s : Shared) (σ : St) (H : Hp) (E : Value → Shared → Prop), Inv X pins σ H s → (∀ b ∈ fp, FpOk X pins H b) → tn i s.heap → J.stop i H →
    wpAny (model P w) X.A (pyNext (.ref it)) (fun r s1 => r = none ∧ Inv X pins σ H s1) E s
  self : ∀ (A : Around) (i : Nat) (s : Shared) (Q : Value → Shared → Prop) (E : Value → Shared → Prop), tn i s.heap → Q (.ref it) s → wpAny (model P w) A (pyIter (.ref it)) Q E s
def PIEH (ea : Addr) (X : Cx) (pins : List (Addr × Obj)) (σ : St) (tg : Expr) (R : It → Hp → Prop) (itv : Value) (s2 : Shared) : Prop :=
  ∃ (it : Addr) (fp : List Addr) (tn : Nat → Heap → Prop) (J : It) (H' : Hp), itv = .ref it ∧ Inv X pins σ H' s2 ∧ TurnH ea X.prog X.w X.K tg J fp it tn ∧ tn 0 s2.heap ∧ (∀ b ∈ fp, FpOk X pins H' b) ∧ R J H'
def PIH (ea : Addr) (X : Cx) (tg iter : Expr) (wi : TI) : Prop :=
  ∀ (pins : List (Addr × Obj)) (s : Shared) (σ : St) (H : Hp) (R : It → Hp → Prop), Inv X pins σ H s → wi σ H R →
    wpAny (model X.prog X.w) X.A (eval iter X.env) (fun v s1 => wpAny (model X.prog X.w) X.A (pyIter v) (PIEH ea X pins σ tg R) X.xe s1) X.xe s
def ItlH (ea : Addr) (K : PySem.W.Frag) (a : Addr) : It := ⟨(Itl K a).go, (Itl K a).yld, fun i H => (Itl K a).stop i H ∧ ∃ C d, IsX H ea C d⟩
theorem turn_listH {ea : Addr} {P : Program} {w : World} {K : PySem.W.Frag} {tg : Expr} (a it : Addr) : TurnH ea P w K tg (ItlH ea K a) [it] it (fun i h => h.IsListIter it a i) where
  mem := by simp
  obj := fun i h st b hb => by
    have e : b = it := by simpa using hb
    subst e
    obtain ⟨o, e, c, d⟩ := st
    exact ⟨o, e, fun v z => by rw [d] at z; cases z⟩
  keep := fun i h h' st k => st.at fun o e => k it (by simp) o e
  item := by
    intro X hP hw hK hc i pins s σ H E I hf st hg
    subst hP hw hK
    obtain ⟨xs, x, hq, hx⟩ := hg
    obtain ⟨its, rv, p, hz⟩ := I.list hq
    obtain ⟨u, hu, ru⟩ := rv.get hx
    obtain ⟨f0, f1, f2, f3, f4, f5⟩ := hf it (by simp)
    refine wpAny_pyNext_list_item st p.isList (x := u) (by simpa using hu) fun h' st' sb => ?_
    have I1 : Inv X pins σ H { s with heap := h' } := I.turned (t' := s.toks) (fun b o hb e => (sb.2 b hb).trans e) f0 f1 f3 f4 f5
    obtain ⟨o, e, c, d⟩ := id st'
    exact ⟨u, rfl, go_of (s := { s with heap := h' }) e c d (by decide) ⟨x, H, I1, ru, ⟨rfl, fun ys hy => by rw [I.list_inj hy hq]; exact hx⟩, st', fun b hb => (hf b hb).1⟩⟩
  done := by
    intro X hP hw hK hc i pins s σ H E I hf st hg
    subst hP hw hK
    obtain ⟨⟨xs, hq, hx⟩, C, d, hX⟩ := hg
    obtain ⟨its, rv, p, hz⟩ := I.list hq
    obtain ⟨f0, f1, f2, f3, f4, f5⟩ := hf it (by simp)
    have hl := rv.length
    obtain ⟨vs, sl, g1, g2⟩ := x_getC I.hok hX
    exact next_list_h hc st p.isList (by simp; omega) g1 rfl g2 (hX.ne f0) fun h' eb => ⟨rfl, I.turned (t' := s.toks) (fun b o hb e => eb b o hb e) f0 f1 f3 f4 f5⟩
  self := fun _ _ _ _ _ st h => wpAny_pyIter_listiter st h
section
variable {X : Cx} {tg : Expr}
def iListH (ea : Addr) (K : PySem.W.Frag) (tl : TE) : TI := fun σ H R => tl σ H fun x H1 => ∃ a, x = .ref a ∧ (∃ xs, SqL K H1 a xs) ∧ R (ItlH ea K a) H1
theorem pi_listH {ea : Addr} {l : Expr} {tl : TE} (hl : PE X l tl) : PIH ea X tg l (iListH ea X.K tl) := by
  intro pins s σ H R I h
  refine thn (hl pins s σ H _ I h) fun v s1 ⟨x, H1, I1, r1, q1⟩ => ?_
  obtain ⟨a, e, ⟨xs, hq⟩, q⟩ := q1
  subst e
  cases r1
  obtain ⟨its, rv, p, hz⟩ := I1.list hq
  refine wpAny_pyIter_list p.isList ?_
  refine ⟨s1.heap.objs.size, [s1.heap.objs.size], _, _, H1, rfl, I1.kept (t' := s1.toks) fun b o e => Heap.get?_push_of_some _ e, turn_listH a _, ⟨_, Heap.get?_push_size _ rfl, rfl, rfl⟩, fun b hb => ?_, q⟩
  have e : b = s1.heap.objs.size := by simpa using hb
  subst e
  exact I1.fpOk (Nat.le_refl _) (I1.hok.fresh (Nat.le_refl _))
end
section
variable {X : Cx} {elt iter : Expr} {x : Str} {px pos : Pos} {ifs : List Expr} {scope : Scope} {frees : List (Str × Nat)} {tc : TT} {te : TE}
structure CompOkH (ea : Addr) (X : Cx) (scope : Scope) (x : Str) (frees : List (Str × Nat)) : Prop where
  cell : ∀ y ∈ scope.names, y.2 ≠ .cell
  kind : scope.kind = .function
  own : scope.names.lookup x = some .local
  names : ∀ y ∈ scope.names, y.2 = .local → scope.names.lookup y.1 = some .local
  fr : FreesOk X scope frees
  nd : (x :: frees.map (·.1)).Nodup
  cl : ∀ p ∈ scope.names, p.2 = .free → (X.env.cells.lookup p.1).isSome = true
  calm : X.A.handled = some (.ref ea)
theorem comp_coreH {ea : Addr} {pins : List (Addr × Obj)} {σ : St} {H1 : Hp} {s₂ : Shared} {it : Addr} {fp : List Addr} {tn : Nat → Heap → Prop} {J : It} {Q : VK} {RR : Value → Addr → Result → Shared → Prop} {E : Value → Shared → Prop}
    (O : CompOkH ea X scope x frees) (hc : ∀ C ex s₂ H₂, PIfs (compCx X scope (x :: frees.map (·.1)) C ex s₂ H₂) ifs tc) (he : ∀ C ex s₂ H₂, PE (compCx X scope (x :: frees.map (·.1)) C ex s₂ H₂) elt te)
    (I : Inv X pins σ H1 s₂) (T : TurnH ea X.prog X.w X.K (.Name x px) J fp it tn) (st : tn 0 s₂.heap) (hf : ∀ b ∈ fp, FpOk X pins H1 b) (hB : CompB J tc te (inSt frees σ) H1 Q)
    (hRR : ∀ D C H' s', Inv X pins σ H' s' → (∃ m, s'.heap.Ns C m) → FpOk X pins H' C → Q (.ref D) H' → RR (.ref D) C (.ok .next) s') :
    wpAny (model X.prog X.w) X.A (newList []) (fun acc s₃ => wpAny (model X.prog X.w) X.A (newFunctionEnv scope X.env.globals (closOf X.env.cells scope.names []) [] X.env.qual none .none (some X.env)) (fun cenv s₄ =>
      codeAny (model X.prog X.w) X.A (.compStart (.ListComp elt [⟨.Name x px, iter, ifs, 0⟩] scope pos) 0 (.ref it) acc { cenv with scope := relabel scope X.env }) (RR acc cenv.locals) s₄) E s₃) E s₂ := by
  refine wpAny_newObj_type (wpAny_newFunctionEnv O.cell (by intro y hy; simp at hy) (fun h₁ hns₁ hsb₁ => ?_) O.kind)
  dsimp only at hns₁ hsb₁ ⊢
  generalize hH2 : s₂.heap.push { cls := .type "list", dict := none, data := .seq ([] : List Value).toArray } = H2 at hns₁ hsb₁ ⊢
  have hC : H2.objs.size = s₂.heap.objs.size + 1 := by rw [← hH2, Heap.size_push]
  have hDC : s₂.heap.objs.size ≠ H2.objs.size := by rw [hC]; exact Nat.ne_of_lt (Nat.lt_succ_self _)
  have hCle : s₂.heap.objs.size ≤ H2.objs.size := by rw [hC]; exact Nat.le_succ _
  have below : ∀ b, b < s₂.heap.objs.size → b ≠ H2.objs.size ∧ b ≠ s₂.heap.objs.size := fun b hb => ⟨by rw [hC]; exact Nat.ne_of_lt (Nat.lt_succ_of_lt hb), Nat.ne_of_lt hb⟩
  have old : ∀ b o, s₂.heap.get? b = some o → h₁.get? b = some o := fun b o e => hsb₁.extBut b o (below b (Heap.lt_size e)).1 (Heap.get?_push_of_some _ (hH2 ▸ Heap.get?_push_of_some _ e))
  have hacc : h₁.get? s₂.heap.objs.size = some { cls := .type "list", data := .seq ([] : List Value).toArray } := hsb₁.extBut _ _ hDC (Heap.get?_push_of_some _ (hH2 ▸ Heap.get?_push_size _ rfl))
  have nD : H1 s₂.heap.objs.size = none := I.hok.fresh (Nat.le_refl _)
  obtain ⟨W, ⟨m0, w0⟩, hW⟩ := hB s₂.heap.objs.size nD
  -- the block's context and its first state
  let X' : Cx := compCx X scope (x :: frees.map (·.1)) H2.objs.size fp s₂ H1
  have inC : ∀ y c, (closOf X.env.cells scope.names []).lookup y = some c → X.env.cells.lookup y = some c := fun y c h => closOf_in scope.names [] O.cl (fun y c h => by cases h) h
  have fpl : ∀ b ∈ fp, b < s₂.heap.objs.size := fun b hb => by
    obtain ⟨o, e, _⟩ := T.obj _ _ st b hb
    exact Heap.lt_size e
  have ok' : X'.Ok := by
    refine ⟨I.ok.mod, O.kind, I.ok.glob, I.ok.blt, hCle, fun y z c h1 h2 => I.ok.inj y z c (inC y c h1) (inC z c h2), fun y hy => ?_, fun y c h _ => (by cases h), I.ok.hd, I.ok.frames, .inl rfl, fun b hb => ?_, I.bs, Nat.le_trans I.ok.bsz I.sz, fun b o e hb => ?_, fun b hb z => ?_, I.stack, I.stkFree⟩
    · exact Option.isSome_iff_exists.mp (closOf_has scope.names [] (.inr (relabel_free O.cell hy)))
    · exact ⟨(below b (fpl b hb)).1, fun y c h => (hf b hb).2.2.2.2.1 y c (inC y c h)⟩
    · rcases (hf b hb).2.2.2.1 with z | z
      · exact I.ok.noex b o e z
      · exact absurd (Nat.lt_of_lt_of_le (Nat.lt_of_lt_of_le (Heap.lt_size e) I.ok.bsz) z) (Nat.lt_irrefl _)
    · exact (List.mem_cons.mp (I.stkSub b z)).elim (hf b hb).2.1 (hf b hb).2.2.1
  have hok1 : HOk X.prog X.w (upd H1 s₂.heap.objs.size (.lst [])) h₁ := I.hok.laid old (Nat.le_refl _) ⟨Nat.zero_le _, [], 0, .nil, hacc⟩
  have I0 : ∀ tk, Inv X' [] (inSt frees σ none) (upd H1 s₂.heap.objs.size (.lst [])) { s₂ with heap := h₁, toks := tk } := fun tk => by
    refine ⟨ok', rfl, I.bare, Un.laid old (Nat.le_refl _) nD, ⟨_, hns₁, fun i y v h1 h2 h3 => ?_⟩, fun y c h => ?_, ?_, fun y c h => ?_, fun p hp => absurd (show p ∈ ([] : List (Addr × Obj)) from hp) (by simp), hok1, ?_⟩
    · cases i with
      | zero =>
        have h2' : (none : Option V) = some v := Option.some.inj h2
        cases h2'
      | succ j =>
        have h1' : (frees.map (·.1))[j]? = some y := h1
        have h2' : (frees.map fun p => (σ[p.2]?).join)[j]? = some (some v) := h2
        rw [List.getElem?_map] at h1' h2'
        cases e : frees[j]? with
        | none => rw [e] at h1'; cases h1'
        | some p =>
          rw [e] at h1' h2'
          have e1 : p.1 = y := Option.some.inj h1'
          have e2 : (σ[p.2]?).join = some v := Option.some.inj h2'
          obtain ⟨g1, g2, g3, g4⟩ := O.fr.at p (List.mem_of_getElem? e)
          have e3 : σ[p.2]? = some (some v) := by
            cases q : σ[p.2]? with
            | none => rw [q] at e2; cases e2
            | some o => rw [q] at e2; exact congrArg some e2
          obtain ⟨m, hn, hl⟩ := I.loc
          obtain ⟨u, r, l⟩ := hl p.2 p.1 v g1 e3 (.inr (.inl g2))
          refine ⟨u, r, ?_⟩
          rcases l with ⟨k, _⟩ | ⟨_, c, hc1, hc2⟩
          · rw [g2] at k; cases k
          · obtain ⟨c2, hc3⟩ := Option.isSome_iff_exists.mp (closOf_has (cells := X.env.cells) scope.names [] (.inr g4))
            have hc4 := inC _ _ hc3
            rw [hc1] at hc4
            cases hc4
            rw [← e1]
            refine .inr ⟨.inl g3, c, hc3, ?_⟩
            obtain ⟨o, ho, hd⟩ := hc2
            exact ⟨o, old c o ho, hd⟩
    · obtain ⟨v, o, ho, hd⟩ := I.cell y c (inC y c h)
      exact ⟨v, o, old c o ho, hd⟩
    · show upd H1 s₂.heap.objs.size (.lst []) H2.objs.size = none
      rw [upd_ne (Ne.symm hDC)]
      exact I.hok.fresh hCle
    · obtain ⟨v, o, ho, hd⟩ := I.cell y c (inC y c h)
      rw [upd_ne (below c (Heap.lt_size ho)).2]
      exact I.freeC y c (inC y c h)
    · show (inSt frees σ none).length = (x :: frees.map (·.1)).length
      simp [inSt]
  have stat : ∀ {H' : Hp}, (∀ b ∈ fp, H' b = none) → ∀ b ∈ fp, FpOk X' [] H' b := fun hn b hb =>
    ⟨hn b hb, (below b (fpl b hb)).1, fun z => (List.mem_cons.mp (I.stkSub b z)).elim (hf b hb).2.1 (hf b hb).2.2.1, .inl hb, fun y c h => (hf b hb).2.2.2.2.1 y c (inC y c h), fun p hp => absurd (show p ∈ ([] : List (Addr × Obj)) from hp) (by simp)⟩
  have hst₁ : tn 0 h₁ := T.keep _ _ _ st fun b _ o e => old b o e
  have fr0 : ∀ b ∈ fp, (upd H1 s₂.heap.objs.size (.lst [])) b = none := fun b hb => by
    rw [upd_ne (below b (fpl b hb)).2]
    exact (hf b hb).1
  have loop : ∀ tk, codeAny (model X.prog X.w) X.A (.compLoop (.ListComp elt [⟨.Name x px, iter, ifs, 0⟩] scope pos) 0 (.ref it) (.ref s₂.heap.objs.size) X'.env) (RR (.ref s₂.heap.objs.size) H2.objs.size) { s₂ with heap := h₁, toks := tk } := fun tk => by
    refine comp_loop (fun n s' => ∃ i ys o H', Inv X' [] (inSt frees σ o) H' s' ∧ tn i s'.heap ∧ (∀ b ∈ fp, H' b = none) ∧ W i n ys H') ?_ m0 ⟨0, [], none, _, I0 tk, hst₁, fr0, w0⟩
    rintro n s3 ⟨i, ys, o3, H3, I3, st3, fr3, w3⟩
    obtain ⟨hD3, alt⟩ := hW i n ys H3 w3
    rcases alt with ⟨stop, q⟩ | ⟨go, hlt, step⟩
    · refine thn (T.done X' rfl rfl rfl O.calm i [] s3 _ H3 _ I3 (stat fr3) st3 stop) fun r s4 ⟨hr, I4⟩ => ?_
      subst hr
      have J4 : Inv X pins σ H3 s4 := I.call' (ch := fp) I4.os I4.base I4.hok I4.bare fun b hb => ⟨(hf b hb).2.2.2.1, (hf b hb).2.1, (hf b hb).2.2.2.2.1, (hf b hb).2.2.2.2.2⟩
      obtain ⟨m4, hn4, _⟩ := I4.loc
      exact hRR _ _ H3 s4 J4 ⟨m4, hn4⟩ (I.fpOk hCle I4.free) q
    · refine thn (T.item X' rfl rfl rfl O.calm i [] s3 _ H3 _ I3 (stat fr3) st3 go) fun r s4 ⟨u, hr, h4⟩ => ?_
      subst hr
      refine thn h4 fun _ s5 ⟨v, H5, I5, r5, y5, st5, fr5⟩ => ?_
      have I5' := I5.pinned (stat fr5) (T.obj _ _ st5)
      have tail : ∀ {σ7 : St} {H7 : Hp} {s7 : Shared}, Inv X' ([] ++ pinsAt fp s5.heap) σ7 H7 s7 → Inv X' [] σ7 H7 s7 ∧ tn (i + 1) s7.heap ∧ ∀ b ∈ fp, H7 b = none := fun {σ7 H7 s7} I7 => by
        refine ⟨I7.unpinned, T.keep _ _ _ st5 fun b hb o e => (I7.pin (b, o) (List.mem_append_right _ (List.mem_append_right _ (mem_pinsAt hb e)))).1, fun b hb => ?_⟩
        obtain ⟨o, e, d⟩ := T.obj _ _ st5 b hb
        exact (I7.pin (b, o) (List.mem_append_right _ (List.mem_append_right _ (mem_pinsAt hb e)))).2.1
      have hg : PG X' (.Name x px) (gName 0) := pg_name O.nd rfl (Or.inl (lookup_relabel_local O.own)) (.inr (lookup_relabel_local O.own))
      refine thn (hg _ s5 _ H5 v u (fun σ6 H6 => σ6 = inSt frees σ (some v) ∧ H6 = H5) I5' r5 ⟨rfl, rfl⟩) fun _ s6 ⟨σ6, H6, I6, e6, e6'⟩ => ?_
      subst e6 e6'
      refine thn (hc _ _ _ _ _ s6 _ _ _ I6 (step v _ y5)) fun b s7 ⟨H7, I7, q7⟩ => ?_
      cases b with
      | false =>
        obtain ⟨m', hm, w7⟩ := (show ∃ m', m' < n ∧ W (i + 1) m' ys H7 from q7)
        obtain ⟨t1, t2, t3⟩ := tail I7
        exact ⟨m', hm, i + 1, ys, some v, H7, t1, t2, t3, w7⟩
      | true =>
        refine thn (he _ _ _ _ _ s7 _ _ _ I7 q7) fun y s8 ⟨y', H8, I8, r8, hD8, m', hm, w8⟩ => ?_
        refine thn (mt_append (X := X') _ s8 _ H8 (.ref s₂.heap.objs.size) [y'] _ [y] (fun _ H9 => H9 = upd H8 s₂.heap.objs.size (.lst (ys ++ [y']))) I8 rfl (.cons r8 .nil) ⟨_, _, _, rfl, rfl, hD8, hlt, rfl⟩) fun _ s9 ⟨_, H9, I9, _, e9⟩ => ?_
        subst e9
        obtain ⟨t1, t2, t3⟩ := tail I9
        exact ⟨m', hm, i + 1, ys ++ [y'], some v, _, t1, t2, t3, w8⟩
  exact codeAny_compStart_list (loop _) (T.self _ 0 _ _ _ hst₁ (loop _))
theorem pe_compH {ea : Addr} {wi : TI} (O : CompOkH ea X scope x frees) (hxe : X.xe = fun _ _ => False) (hi : PIH ea X (.Name x px) iter wi)
    (hc : ∀ C ex s₂ H₂, PIfs (compCx X scope (x :: frees.map (·.1)) C ex s₂ H₂) ifs tc) (he : ∀ C ex s₂ H₂, PE (compCx X scope (x :: frees.map (·.1)) C ex s₂ H₂) elt te)
    (hs : ∀ x, foldedSetIterable iter X.env x = pure x := by intro _; rfl) : PE X (.ListComp elt [⟨.Name x px, iter, ifs, 0⟩] scope pos) (tComp frees tc te wi) := by
  intro pins s σ H Q I h
  rw [eval_ListComp]
  refine wpAny_comprehension_free (use := none) rfl hs (closureFor_of O.cl) O.kind O.names (thn (hi pins s σ H _ I h) fun xv s₁ h₁ => thn h₁ fun itv s₂ h₂ => ?_)
  obtain ⟨it, fp, tn, J, H2, e, I2, T, st2, f2, hB⟩ := h₂
  subst e
  refine comp_coreH (RR := fun acc C => compPost (model X.prog X.w) X.A X.xe none (EP X pins σ Q) acc C) O hc he I2 T st2 f2 hB ?_
  intro D C H' s' I' hn hC q
  obtain ⟨m, hn⟩ := hn
  refine ⟨m, hn, fun h' hs' => ?_⟩
  exact ⟨.ref D, H', I'.turned (t' := s'.toks) (fun b o hb e => hs'.extBut b o hb e) hC.1 hC.2.1 hC.2.2.2.1 hC.2.2.2.2.1 hC.2.2.2.2.2, rfl, q⟩
end
theorem seq_listH {K : PySem.W.Frag} {ea a C : Addr} {d : Option Addr} {xs : List V} {H1 : Hp} (h : SqL K H1 a xs) (hX : IsX H1 ea C d) : Seq (ItlH ea K a) H1 xs where
  go := (seq_list h).go
  yld := (seq_list h).yld
  stop := fun H s => ⟨(seq_list h).stop H s, C, d, hX.elim (fun z => .inl (s _ _ z)) fun z => .inr (s _ _ z)⟩
section
variable {X : Cx}
theorem call_sumH {ea : Addr} (hc : X.A.handled = some (.ref ea)) : CallR X (.builtin "sum") (fun xs H Q => ∃ (p : Addr) (ns : List Int) (C : Addr) (d : Option Addr), IsX H ea C d ∧ xs = [.ref p] ∧ SqL X.K H p (ns.map V.int) ∧ (∀ v ∈ ns, 0 ≤ v ∧ v ≤ 1) ∧ Q (.int ns.sum) H) := by
  intro pins s σ H xs us Q I r h
  obtain ⟨p, ns, C, d, hX, rfl, hq, hv, q⟩ := h
  obtain ⟨vs, sl, g1, g2⟩ := x_getC I.hok hX
  obtain ⟨u, rfl, rx⟩ := vals1 r
  cases rx
  obtain ⟨its, rv, pl, hz⟩ := I.list hq
  have hl := pl.isList
  have hlen := rv.length
  have hlt : p < s.heap.objs.size := by obtain ⟨_, e, _⟩ := hl; exact Heap.lt_size e
  have hn := line63
  rw [List.length_map] at hlen hz
  refine call_sum_walk (wpAny_pyIter_list hl ?_)
  refine ⟨s.heap.objs.size, [s.heap.objs.size, p, ea], [s.heap.objs.size], its.toArray.size, _, _, fun i => ns.getD i 0, rfl, walks_h (A := X.A.in1) hc _ p (Nat.ne_of_lt hlt) (Nat.ne_of_lt (Heap.lt_size g1)) g2 its.toArray,
    ⟨⟨⟨_, Heap.get?_push_size _ rfl, rfl, rfl⟩, hl.push _⟩, Heap.get?_push_of_some _ g1⟩, fun b hb => ?_, fun i v hP => ?_, fun j hj => ?_, fun h' tk t' hk => ?_⟩
  · rcases List.mem_cons.mp hb with rfl | hb
    · show _ < (s.heap.push _).objs.size
      rw [Heap.size_push]
      exact Nat.lt_succ_self _
    · rcases List.mem_cons.mp hb with rfl | hb
      · show _ < (s.heap.push _).objs.size
        rw [Heap.size_push]
        exact Nat.lt_succ_of_lt hlt
      · rw [List.mem_singleton.mp hb]
        show _ < (s.heap.push _).objs.size
        rw [Heap.size_push]
        exact Nat.lt_succ_of_lt (Heap.lt_size g1)
  · have hv' : its[i]? = some v := by simpa using hP
    have hi : i < its.length := (List.getElem?_eq_some_iff.mp hv').1
    have hb : i < ns.length := by omega
    obtain ⟨u2, e1, e2⟩ := rv.get (i := i) (x := V.int ns[i]) (by rw [List.getElem?_map, List.getElem?_eq_getElem hb]; rfl)
    rw [hv'] at e1
    cases e1
    obtain ⟨t, rfl⟩ := e2
    refine ⟨t, ?_⟩
    show _ = Value.int (ns.getD i 0) t
    rw [List.getD_eq_getElem?_getD, List.getElem?_eq_getElem hb]
    rfl
  · have hj' : j < ns.length := by rw [List.size_toArray] at hj; omega
    have h1 := hv (ns.getD j 0) (by rw [List.getD_eq_getElem?_getD, List.getElem?_eq_getElem hj']; exact List.getElem_mem _)
    obtain ⟨_, h2, h3⟩ := pre_sum hv (j + 1) (by omega)
    refine ⟨⟨?_, ?_⟩, by omega, by omega⟩
    · show -(2 ^ 63) ≤ ns.getD j 0
      omega
    · show ns.getD j 0 < 2 ^ 63
      omega
  · have e : preSum (fun i => ns.getD i 0) its.toArray.size = ns.sum := by
      rw [List.size_toArray, ← hlen, (pre_sum hv ns.length (Nat.le_refl _)).1, List.take_length]
    rw [e]
    refine ⟨.int _, H, I.kept (t' := tk) (fun b x e => ?_), ⟨_, rfl⟩, q⟩
    exact hk b x (fun hm => by rw [List.mem_singleton.mp hm] at e; exact Nat.lt_irrefl _ (Heap.lt_size e)) (Heap.get?_push_of_some _ e)
end
end L2
namespace My
open PySem L2
def fig : List Nat := List.range' 48 10
def isnum (z : Str) : Bool := decide ((1 : Int) ≤ (z.length : Nat)) && decide (((z.length : Nat) : Int) ≤ 9) && (z.cps.toList.all fun c => decide (c ∈ fig)) && (decide (z = ⟨#[48]⟩) || !decide (z.cps.toList.headD 0 = 48))
def val (z : Str) : Int := ((NumText.digitsVal z.cps.toList : Nat) : Int)
def wr (z : Str) : V := if isnum z = true then .int (val z) else .non
def inNum (z : Str) (lo hi : Int) : V := if (isnum z && decide (lo ≤ val z) && decide (val z ≤ hi)) = true then .int (val z) else .non
def low : List Nat := List.range' 97 26
def good (z : Str) : Bool := decide ((1 : Int) ≤ (z.length : Nat)) && decide (((z.length : Nat) : Int) ≤ 12) && decide (z.cps.toList.headD 0 ∈ low) && z.cps.toList.all fun c => decide (c ∈ low ++ fig)
def lay (z : Str) : Bool := decide (z = Str.ofString "both") || (Txt.startswith z (Str.ofString "up:") && decide (¬ inNum (Txt.slice z (some 3) none) 2 16 = V.non))
def goods : List V := (((List.range 15).map fun i => V.int (2 + ((i : Nat) : Int))).filter fun _ => true).map fun v => match v with | .int n => V.str (Str.ofString "up:" ++ Str.ofString (toString n)) | _ => .non
def goodTexts : List Str := (List.range 15).map fun i => Str.ofString "up:" ++ Str.ofString (toString (2 + ((i : Nat) : Int)))
end My
namespace My
open PySem L2
open Blk (sg sg_inj sg_app)
def Jc (c : Nat) : List (List Nat) → List Nat
  | [] => []
  | [x] => x
  | x :: y :: r => x ++ c :: Jc c (y :: r)
def Cc (c : Nat) : List Nat → List (List Nat)
  | [] => [[]]
  | d :: r => if d = c then [] :: Cc c r else match Cc c r with
    | [] => [[d]]
    | p :: ps => (d :: p) :: ps
theorem txt_join (z : Str) (ws : List Str) : Txt.join z ws = Str.join z ws := StrLaws.glued_eq_join z ws
def tn (n : Int) : Str := Str.ofString (toString n)
end My
namespace My
open PySem L2
open Blk (sg sg_inj sg_app)
inductive VO where
  | v (x : V) | pair (a b : Int)
  deriving DecidableEq
def non : VO := .v .non
abbrev cX : Str := Str.ofString "x"
abbrev cCol : Str := Str.ofString "colour:"
abbrev cPap : Str := Str.ofString "paper:"
abbrev cCov : Str := Str.ofString "cover:"
abbrev cAft : Str := Str.ofString "after:"
abbrev cSta : Str := Str.ofString "staple"
abbrev cLay : Str := Str.ofString "layout"
abbrev cOne : Str := Str.ofString "one"
abbrev cPla : Str := Str.ofString "plain"
abbrev cDash : Str := Str.ofString "-"
abbrev cBlank : Str := Str.ofString " "
def rst (z p : Str) : Str := Txt.slice z (some ((p.length : Nat) : Int)) none
def readCol (span : Str) (pages : Int) : VO := match Txt.split span cDash with
  | [a, b] => (match inNum a 1 pages with
    | .int f => (match inNum b f pages with
      | .int l => .pair f l
      | _ => non)
    | _ => non)
  | _ => non
def three : List Str := [cPap, cCov, cAft]
def four : List Str := [cX, cCol, cPap, cCov]
def valueOf (z : Str) (pages : Int) : VO :=
  if z = cSta then .v (.bl true) else if lay z = true then .v (.str z) else if Txt.startswith z cX = true then .v (inNum (rst z cX) 1 99) else if Txt.startswith z cCol = true then readCol (rst z cCol) pages
  else match three.find? (fun p => Txt.startswith z p && good (rst z p)) with
    | some p => .v (.str (rst z p))
    | none => non
def sortOf (z : Str) : Str := if lay z = true then cLay else (four.find? fun p => Txt.startswith z p).getD z
def readTail (pages : Int) : List Str → Nat → List (Str × VO) → Except Nat (List (Str × VO))
  | [], _, t => .ok t
  | w :: r, p, t => if valueOf w pages = non ∨ sortOf w ∈ t.map (·.1) then .error p else readTail pages r (p + 1) (t ++ [(sortOf w, valueOf w pages)])
def toldV (t : List (Str × VO)) (k : Str) : Option VO := (t.find? fun p => decide (p.1 = k)).map (·.2)
structure JF where
  name : Str
  asker : Str
  pages : Int
  copies : VO
  layout : VO
  paper : VO
  cover : VO
  colour : VO
  staple : VO
  after : List VO
def readHead (ws : List Str) : Except Nat Int :=
  if good (ws.getD 0 cBlank) = false then .error 0 else if ws.length < 2 then .error ws.length else if good (ws.getD 1 cBlank) = false then .error 1 else if ws.length < 3 then .error ws.length else
  match inNum (ws.getD 2 cBlank) 1 999 with
  | .int n => .ok n
  | _ => .error 2
def toldJob (ws : List Str) (pages : Int) (t : List (Str × VO)) : JF :=
  { name := ws.getD 0 cBlank, asker := ws.getD 1 cBlank, pages := pages, copies := (toldV t cX).getD (.v (.int 1)), layout := (toldV t cLay).getD (.v (.str cOne)), paper := (toldV t cPap).getD (.v (.str cPla)), cover := (toldV t cCov).getD non, colour := (toldV t cCol).getD non,
    staple := (toldV t cSta).getD (.v (.bl false)), after := (t.filter fun p => Txt.startswith p.1 cAft).map (·.2) }
def readJ (z : Str) : Except Nat JF := match readHead (Txt.split z cBlank) with
  | .error p => .error p
  | .ok n => match readTail n ((Txt.split z cBlank).drop 3) 3 [] with
    | .error p => .error p
    | .ok t => .ok (toldJob (Txt.split z cBlank) n t)
structure Jb where
  name : Str
  asker : Str
  pages : Int
  copies : Int
  layout : Str
  paper : Str
  cover : Option Str
  colour : Option (Int × Int)
  staple : Bool
  after : List Str
structure Jb.Ok (j : Jb) : Prop where
  name : good j.name = true
  asker : good j.asker = true
  p0 : 1 ≤ j.pages
  p1 : j.pages ≤ 999
  c0 : 1 ≤ j.copies
  c1 : j.copies ≤ 99
  lay : j.layout ∈ cOne :: Str.ofString "both" :: goodTexts
  paper : good j.paper = true
  cover : ∀ z, j.cover = some z → good z = true
  colour : ∀ a b, j.colour = some (a, b) → 1 ≤ a ∧ a ≤ b ∧ b ≤ j.pages
  after : ∀ z ∈ j.after, good z = true
  nd : j.after.Nodup
  few : j.after.length ≤ 3
def Jb.jf (j : Jb) : JF := { name := j.name, asker := j.asker, pages := j.pages, copies := .v (.int j.copies), layout := .v (.str j.layout), paper := .v (.str j.paper), cover := (match j.cover with | some z => .v (.str z) | none => non), colour := (match j.colour with | some (a, b) => .pair a b | none => non), staple := .v (.bl j.staple), after := j.after.map fun z => .v (.str z) }
def Jb.ents (j : Jb) (told : Bool) : List (Bool × Str × Str × VO) :=
  [(!decide (j.copies = 1) || told, cX ++ tn j.copies, cX, .v (.int j.copies)), (!decide (j.layout = cOne), j.layout, cLay, .v (.str j.layout)),
   (j.colour.isSome, cCol ++ tn (j.colour.getD (1, 1)).1 ++ cDash ++ tn (j.colour.getD (1, 1)).2, cCol, .pair (j.colour.getD (1, 1)).1 (j.colour.getD (1, 1)).2),
   (!decide (j.paper = cPla) || told, cPap ++ j.paper, cPap, .v (.str j.paper)), (j.cover.isSome, cCov ++ j.cover.getD cPla, cCov, .v (.str (j.cover.getD cPla))), (j.staple, cSta, cSta, .v (.bl true))]
def Jb.words (j : Jb) (told : Bool) : List Str := ((j.ents told).filter (·.1)).map (·.2.1)
def Jb.afts (j : Jb) : List Str := j.after.map fun n => cAft ++ n
end My
namespace My
open PySem L2
open Blk (sg sg_inj sg_app)
def sorts : List Str := [cX, cLay, cCol, cPap, cCov, cSta]
def told (pages : Int) (M : List Str) : List (Str × VO) := M.map fun w => (sortOf w, valueOf w pages)
structure Mix (ws as M : List Str) : Prop where
  perm : M.Perm (ws ++ as)
  afts : (M.filter fun w => Txt.startswith w cAft) = as
def Jb.head (j : Jb) : List Str := [j.name, j.asker, tn j.pages]
end My
namespace My
open PySem L2
open Blk (sg sg_inj sg_app)
def HoldsV (H : Hp) (x : V) : VO → Prop
  | .v y => x = y
  | .pair a b => ∃ p, x = .ref p ∧ H p = some (.tup [.int a, .int b])
theorem HoldsV.same {H H' : Hp} {x : V} {o : VO} (h : HoldsV H x o) (e : Same H H') : HoldsV H' x o := by
  cases o with
  | v y => exact h
  | pair a b => obtain ⟨p, h1, h2⟩ := h; exact ⟨p, h1, e _ _ h2⟩
theorem HoldsV.upd {H : Hp} {x : V} {o : VO} {D : Addr} {kvs : List (Key × V)} {u : HO} (h : HoldsV H x o) (hD : H D = some (.dK kvs)) : HoldsV (L2.upd H D u) x o := by
  cases o with
  | v y => exact h
  | pair a b =>
    obtain ⟨p, h1, h2⟩ := h
    exact ⟨p, h1, by rw [upd_ne (ne_of h2 hD (by intro z; cases z))]; exact h2⟩
def TR (H : Hp) (q : Key × V) (p : Str × VO) : Prop := q.1 = Sum.inr p.1 ∧ HoldsV H q.2 p.2
structure Told (H : Hp) (D : Addr) (kvs : List (Key × V)) (t : List (Str × VO)) : Prop where
  at_ : H D = some (.dK kvs)
  rel : Paired (TR H) kvs t
  nd : (t.map (·.1)).Nodup
theorem Told.look {H : Hp} {D : Addr} {kvs : List (Key × V)} {t : List (Str × VO)} (T : Told H D kvs t) (k : Str) : match valV kvs (Sum.inr k : Key), toldV t k with | some x, some o => HoldsV H x o | none, none => True | _, _ => False := by
  have key : ∀ {kvs : List (Key × V)} {t : List (Str × VO)}, Paired (TR H) kvs t → match valV kvs (Sum.inr k : Key), toldV t k with | some x, some o => HoldsV H x o | none, none => True | _, _ => False := by
    intro kvs t r
    induction r with
    | nil => trivial
    | @cons q p kvs t h r ih =>
      obtain ⟨h1, h2⟩ := h
      by_cases e : p.1 = k
      · rw [valV_pos (by rw [h1, e])]
        unfold toldV
        rw [List.find?_cons_of_pos (h := by exact decide_eq_true e)]
        exact h2
      · rw [valV_neg (by rw [h1]; intro z; injection z with z; exact e z)]
        unfold toldV
        rw [List.find?_cons_of_neg (h := by rw [decide_eq_false e]; decide)]
        exact ih
  exact key T.rel
theorem Told.has {H : Hp} {D : Addr} {kvs : List (Key × V)} {t : List (Str × VO)} (T : Told H D kvs t) (k : Str) : (valV kvs (Sum.inr k : Key)).isSome = decide (k ∈ t.map (·.1)) := by
  have q := T.look k
  cases e2 : toldV t k with
  | none =>
    have nm : k ∉ t.map (·.1) := fun m => by
      obtain ⟨p, hp, rfl⟩ := List.mem_map.mp m
      unfold toldV at e2
      rw [Option.map_eq_none_iff] at e2
      have := List.find?_eq_none.mp e2 p hp
      exact this (decide_eq_true rfl)
    rw [decide_eq_false nm]
    cases e1 : valV kvs (Sum.inr k : Key) with
    | none => rfl
    | some x => rw [e1, e2] at q; exact q.elim
  | some o =>
    have m : k ∈ t.map (·.1) := by
      unfold toldV at e2
      obtain ⟨p, hp, _⟩ := Option.map_eq_some_iff.mp e2
      exact List.mem_map.mpr ⟨p, List.mem_of_find?_eq_some hp, by have q := List.find?_some hp; exact of_decide_eq_true q⟩
    rw [decide_eq_true m]
    cases e1 : valV kvs (Sum.inr k : Key) with
    | none => rw [e1, e2] at q; exact q.elim
    | some x => rfl
theorem Told.same {H H' : Hp} {D : Addr} {kvs : List (Key × V)} {t : List (Str × VO)} (T : Told H D kvs t) (e : Same H H') : Told H' D kvs t := ⟨e _ _ T.at_, Paired.mapP T.rel fun _ _ h => ⟨h.1, h.2.same e⟩, T.nd⟩
theorem paired_snoc {α β : Type} {R : α → β → Prop} : ∀ {xs : List α} {ys : List β} {x : α} {y : β}, Paired R xs ys → R x y → Paired R (xs ++ [x]) (ys ++ [y])
  | _, _, _, _, .nil, h => .cons h .nil
  | _, _, _, _, .cons a b, h => .cons a (paired_snoc b h)
theorem Told.put {H : Hp} {D : Addr} {kvs : List (Key × V)} {t : List (Str × VO)} (T : Told H D kvs t) {k : Str} {x : V} {o : VO} (hx : HoldsV H x o) (hn : valV kvs (Sum.inr k : Key) = none) :
    Told (upd H D (.dK (putK kvs (Sum.inr k) x))) D (kvs ++ [(Sum.inr k, x)]) (t ++ [(k, o)]) := by
  have hk : k ∉ t.map (·.1) := fun m => by
    have q := T.has k
    rw [hn, decide_eq_true m] at q
    cases q
  refine ⟨?_, ?_, by rw [List.map_append]; exact nd_snoc T.nd hk⟩
  · rw [upd_same, putK_new x hn]
  · exact paired_snoc (Paired.mapP T.rel fun _ _ h => ⟨h.1, h.2.upd T.at_⟩) ⟨rfl, hx.upd T.at_⟩
theorem Told.keys {H : Hp} {kvs : List (Key × V)} {t : List (Str × VO)} (r : Paired (TR H) kvs t) : kvs.map (·.1) = (t.map (·.1)).map Sum.inr := by
  induction r with
  | nil => rfl
  | cons h r ih => rw [List.map_cons, List.map_cons, List.map_cons, ih, h.1]
def luV (kvs : List (Key × V)) : V → V
  | .str s => (valV kvs (Sum.inr s : Key)).getD .non
  | _ => .non
def afterP : V → Bool
  | .str x => Txt.startswith x cAft
  | _ => false
theorem Told.after {H : Hp} {D : Addr} {kvs : List (Key × V)} {t : List (Str × VO)} (T : Told H D kvs t) (g : V → V) (hg : ∀ q ∈ kvs, g (kV q.1) = q.2) :
    Paired (fun a o => HoldsV H a o) (((kvs.map fun p => kV p.1).filter afterP).map g) ((t.filter fun p => Txt.startswith p.1 cAft).map (·.2)) := by
  rw [List.filter_map, List.map_map]
  have e : (kvs.filter (afterP ∘ fun p => kV p.1)).map (g ∘ fun p => kV p.1) = (kvs.filter (afterP ∘ fun p => kV p.1)).map (·.2) := List.map_congr_left fun q hq => hg q (List.mem_filter.mp hq).1
  rw [e]
  clear e hg
  have key : ∀ {kvs : List (Key × V)} {t : List (Str × VO)}, Paired (TR H) kvs t → Paired (fun a o => HoldsV H a o) ((kvs.filter (afterP ∘ fun p => kV p.1)).map (·.2)) ((t.filter fun p => Txt.startswith p.1 cAft).map (·.2)) := by
    intro kvs t r
    induction r with
    | nil => exact .nil
    | @cons q p kvs t h r ih =>
      obtain ⟨h1, h2⟩ := h
      have e1 : (afterP ∘ fun p : Key × V => kV p.1) q = Txt.startswith p.1 cAft := by
        show afterP (kV q.1) = _
        rw [h1]
        rfl
      cases hs : Txt.startswith p.1 cAft with
      | true =>
        rw [List.filter_cons_of_pos (by rw [e1, hs]), List.filter_cons_of_pos (by exact hs)]
        exact .cons h2 ih
      | false =>
        rw [List.filter_cons_of_neg (by rw [e1, hs]; decide), List.filter_cons_of_neg (by rw [hs]; decide)]
        exact ih
  exact key T.rel
theorem Told.len {H : Hp} {D : Addr} {kvs : List (Key × V)} {t : List (Str × VO)} (T : Told H D kvs t) : kvs.length = t.length := Paired.length T.rel
def jobF (a b c d e f g h i j : V) : List (Str × V) := [("name", a), ("asker", b), ("pages", c), ("copies", d), ("layout", e), ("paper", f), ("cover", g), ("colour", h), ("staple", i), ("after", j)]
structure JobAt (C : Addr) (H : Hp) (x : Addr) (f : JF) : Prop where
  ex : ∃ (dx pa : Addr) (d e p g h i : V) (as : List V), H x = some (.ins C dx (jobF (.str f.name) (.str f.asker) (.int f.pages) d e p g h i (.ref pa))) ∧ HoldsV H d f.copies ∧ HoldsV H e f.layout ∧ HoldsV H p f.paper ∧ HoldsV H g f.cover ∧ HoldsV H h f.colour ∧ HoldsV H i f.staple ∧
    H pa = some (.tup as) ∧ Paired (fun a o => HoldsV H a o) as f.after
theorem JobAt.same {C : Addr} {H H' : Hp} {x : Addr} {f : JF} (J : JobAt C H x f) (e : Same H H') : JobAt C H' x f := by
  obtain ⟨dx, pa, v1, v2, v3, v4, v5, v6, as, h0, h1, h2, h3, h4, h5, h6, h7, h8⟩ := J.ex
  exact ⟨dx, pa, v1, v2, v3, v4, v5, v6, as, e _ _ h0, h1.same e, h2.same e, h3.same e, h4.same e, h5.same e, h6.same e, e _ _ h7, Paired.mapP h8 fun _ _ h => h.same e⟩
theorem cut_from (xs : List V) (k : Nat) : cutV xs (some (k : Int)) none = xs.drop k := by
  unfold cutV
  rw [HT.sIx_nat, HT.sIx_none]
  by_cases h : k ≤ xs.length
  · rw [Nat.min_eq_left h]
    exact List.take_of_length_le (by rw [List.length_drop]; omega)
  · rw [Nat.min_eq_right (by omega), List.drop_of_length_le (Nat.le_refl _), List.drop_of_length_le (by omega), List.take_nil]
theorem cut_to (xs : List V) (k : Nat) : cutV xs none (some (k : Int)) = xs.take k := by
  unfold cutV
  rw [HT.sIx_nat, HT.sIx_none]
  by_cases h : k ≤ xs.length
  · rw [Nat.min_eq_left h]
    rfl
  · rw [Nat.min_eq_right (by omega), List.drop_zero, Nat.sub_zero, List.take_of_length_le (Nat.le_refl _), List.take_of_length_le (by omega)]
end My
namespace My
open PySem L2
open Blk (sg sg_inj sg_app)
def nmC (f r : Nat) (size place l : Nat) : List Nat := (f :: List.replicate (size - 1) r).set place l
def nm (f r : Nat) (size place l : Nat) : Str := ⟨(nmC f r size place l).toArray⟩
def ltr (s : Nat) (j : Nat) : Nat := 97 + (s + 5 * j) % 26
def nms (f r size place s : Nat) (m : Nat) : List Str := (List.range m).map fun j => nm f r size place (ltr s j)
structure NamesOk (ns : List Str) (m : Nat) : Prop where
  len : ns.length = m
  good : ∀ z ∈ ns, good z = true
  nd : ns.Nodup
def six : List Str := [Str.ofString "x2", Str.ofString "staple", Str.ofString "both", Str.ofString "up2", Str.ofString "plain", Str.ofString "after"]
def one (c : Nat) : Str := ⟨#[c]⟩
theorem join_ones (e : Str) (he : sg e = []) : ∀ cs : List Nat, sg (Str.join e (cs.map one)) = cs
  | [] => rfl
  | [c] => rfl
  | c :: d :: r => by
    have ih := join_ones e he (d :: r)
    show sg (one c ++ e ++ Str.join e ((d :: r).map one)) = c :: d :: r
    rw [sg_app, sg_app, he, ih]
    rfl
theorem low_at {i c : Nat} (h : low[i]? = some c) : c = 97 + i := by
  have hi : i < 26 := by
    have := (List.getElem?_eq_some_iff.mp h).1
    unfold low at this
    rwa [List.length_range'] at this
  unfold low at h
  rw [List.getElem?_range' hi] at h
  have := Option.some.inj h
  omega
theorem rep_flat {α : Type} (v : α) : ∀ k : Nat, (List.replicate k [v]).flatten = List.replicate k v
  | 0 => rfl
  | k + 1 => by rw [List.replicate_succ, List.flatten_cons, rep_flat v k, List.replicate_succ]; rfl
def optV : Option Str → V
  | some z => .str z
  | none => .non
structure Due (H : Hp) (t : Addr) (j : Jb) : Prop where
  ex : ∃ (vc : V) (pa : Addr), H t = some (.tup [.str j.name, .str j.asker, .int j.pages, .int j.copies, .str j.layout, .str j.paper, optV j.cover, vc, .bl j.staple, .ref pa]) ∧ HoldsV H vc j.jf.colour ∧ H pa = some (.tup (j.after.map V.str))
theorem Due.same {H H' : Hp} {t : Addr} {j : Jb} (D : Due H t j) (e : Same H H') : Due H' t j := by
  obtain ⟨vc, pa, h1, h2, h3⟩ := D.ex
  exact ⟨vc, pa, e _ _ h1, h2.same e, e _ _ h3⟩
end My
namespace My
open PySem L2
open Blk (sg sg_inj sg_app)
theorem ins_perm {α : Type} (M : List α) (i : Nat) (y : α) : (M.take i ++ y :: M.drop i).Perm (M ++ [y]) := by
  have a : (M.take i ++ y :: M.drop i).Perm (y :: (M.take i ++ M.drop i)) := List.perm_middle
  rw [List.take_append_drop] at a
  exact a.trans (List.perm_append_singleton y M).symm
structure Mid (ws as : List Str) (A : Nat) (M : List Str) : Prop where
  perm : M.Perm (ws ++ as)
  le : A ≤ M.length
  pre : ((M.take A).filter fun w => Txt.startswith w cAft) = as
  post : ((M.drop A).filter fun w => Txt.startswith w cAft) = []
theorem Mid.start {ws M : List Str} (p : M.Perm ws) (h : ∀ w ∈ ws, Txt.startswith w cAft = false) : Mid ws [] 0 M := by
  refine ⟨by rw [List.append_nil]; exact p, Nat.zero_le _, by simp, ?_⟩
  rw [List.drop_zero]
  exact List.filter_eq_nil_iff.mpr fun w hw => by rw [h w (p.mem_iff.mp hw)]; decide
theorem Mid.put {ws as M : List Str} {A B : Nat} {y : Str} (m : Mid ws as A M) (h1 : A ≤ B) (h2 : B ≤ M.length) (hy : Txt.startswith y cAft = true) : Mid ws (as ++ [y]) (B + 1) (M.take B ++ y :: M.drop B) := by
  have hl : (M.take B).length = B := by rw [List.length_take]; omega
  refine ⟨?_, ?_, ?_, ?_⟩
  · exact (ins_perm M B y).trans (by rw [← List.append_assoc]; exact m.perm.append_right [y])
  · rw [List.length_append, List.length_cons, hl, List.length_drop]
    omega
  · have e : (M.take B ++ y :: M.drop B).take (B + 1) = M.take B ++ [y] := by
      rw [List.take_append, hl, List.take_of_length_le (by omega), show B + 1 - B = 1 by omega]
      rfl
    rw [e, List.filter_append]
    have e2 : ((M.take B).filter fun w => Txt.startswith w cAft) = as := by
      have e3 : M.take B = M.take A ++ (M.drop A).take (B - A) := by
        rw [← List.take_append_drop A (M.take B), List.take_take, Nat.min_eq_left h1, List.drop_take]
      rw [e3, List.filter_append, m.pre]
      have e4 : (((M.drop A).take (B - A)).filter fun w => Txt.startswith w cAft) = [] := by
        refine List.filter_eq_nil_iff.mpr fun w hw => ?_
        exact List.filter_eq_nil_iff.mp m.post w (List.mem_of_mem_take hw)
      rw [e4, List.append_nil]
    rw [e2]
    simp [hy]
  · have e : (M.take B ++ y :: M.drop B).drop (B + 1) = M.drop B := by
      rw [List.drop_append, hl, List.drop_of_length_le (by omega), show B + 1 - B = 1 by omega]
      rfl
    rw [e]
    refine List.filter_eq_nil_iff.mpr fun w hw => ?_
    have : w ∈ M.drop A := by
      have e3 : M.drop B = (M.drop A).drop (B - A) := by rw [List.drop_drop]; congr 1; omega
      rw [e3] at hw
      exact List.mem_of_mem_drop hw
    exact List.filter_eq_nil_iff.mp m.post w this
theorem Mid.done {ws as M : List Str} {A : Nat} (m : Mid ws as A M) : Mix ws as M := by
  refine ⟨m.perm, ?_⟩
  rw [← List.take_append_drop A M, List.filter_append, m.pre, m.post, List.append_nil]
end My
namespace My
open PySem L2
def top (i : Nat) : Stmt := PySem.Challenge.pw_spoolhall_k63_whole_fewest_changes.main.body.getD i (.Pass ⟨0, 0, 0, 0⟩)
abbrev s_TooMuch_init : Stmt := inClass (top 7) 0
abbrev s_change : Stmt := top 19
abbrev s_fewest : Stmt := top 20
abbrev s_moves : Stmt := top 21
abbrev s_reached : Stmt := top 22
abbrev s_behind : Stmt := top 23
abbrev s_priced : Stmt := top 24
abbrev s_dearness : Stmt := top 25
abbrev s_best_order : Stmt := top 26
abbrev s__law_draw : Stmt := top 28
abbrev s__law_whole : Stmt := top 29
abbrev s__law_names : Stmt := top 30
abbrev s__law_rows : Stmt := top 31
abbrev s__law_loaded : Stmt := top 32
abbrev s__law_nexts : Stmt := top 33
abbrev s__law_told_prices : Stmt := top 34
abbrev s__law_order_takes : Stmt := top 35
abbrev s__law_none_less : Stmt := top 36
abbrev s__law_others : Stmt := top 37
abbrev s__law_too_many : Stmt := top 38
abbrev s_law : Stmt := top 39
structure Txt (K : PySem.W.Frag) (mg : Str → Option Value) (cBadLine cUnknown cTwice cNotNow cTooMuch cDry cOver cNowhere cBusy cNoHeap cNoPrinter cGoesRound cNoWay cHallError : Addr) : Prop where
  len : mg "len" = none
  range : mg "range" = none
  enumerate : mg "enumerate" = none
  str : mg "str" = none
  int : mg "int" = none
  bool : mg "bool" = none
  tuple : mg "tuple" = none
  list : mg "list" = none
  isinstance : mg "isinstance" = none
  min : mg "min" = none
  sum : mg "sum" = none
  reversed : mg "reversed" = none
  ValueError : mg "ValueError" = none
  JOBS_MOST : GI mg "JOBS_MOST" (8)
  JOBS : GS mg "JOBS" (Str.ofString "jobs")
  xq_HallError : PySem.W.excMk K cHallError = true
  mh_TooMuch_TooMuch : PySem.W.mroHas K cTooMuch (.ref cTooMuch) = true
  mh_TooMuch_HallError : PySem.W.mroHas K cTooMuch (.ref cHallError) = true
  x_BadLine : XCl K cBadLine ["place"]
  mg_BadLine : mg "BadLine" = some (.ref cBadLine)
  x_Unknown : XCl K cUnknown ["name"]
  mg_Unknown : mg "Unknown" = some (.ref cUnknown)
  x_Twice : XCl K cTwice ["name"]
  mg_Twice : mg "Twice" = some (.ref cTwice)
  x_NotNow : XCl K cNotNow ["found"]
  mg_NotNow : mg "NotNow" = some (.ref cNotNow)
  x_TooMuch : XCl K cTooMuch ["name"]
  mg_TooMuch : mg "TooMuch" = some (.ref cTooMuch)
  x_Dry : XCl K cDry ["name"]
  mg_Dry : mg "Dry" = some (.ref cDry)
  x_Over : XCl K cOver ["job"]
  mg_Over : mg "Over" = some (.ref cOver)
  x_Nowhere : XCl K cNowhere ["job"]
  mg_Nowhere : mg "Nowhere" = some (.ref cNowhere)
  x_Busy : XCl K cBusy ["job"]
  mg_Busy : mg "Busy" = some (.ref cBusy)
  x_NoHeap : XCl K cNoHeap ["place"]
  mg_NoHeap : mg "NoHeap" = some (.ref cNoHeap)
  x_NoPrinter : XCl K cNoPrinter ["job", "lacks"]
  mg_NoPrinter : mg "NoPrinter" = some (.ref cNoPrinter)
  x_GoesRound : XCl K cGoesRound ["ring"]
  mg_GoesRound : mg "GoesRound" = some (.ref cGoesRound)
  x_NoWay : XCl K cNoWay ["place"]
  mg_NoWay : mg "NoWay" = some (.ref cNoWay)
  in_HallError : InX K cHallError
  mg_HallError : mg "HallError" = some (.ref cHallError)
  kit : kitTab K [cBadLine, cUnknown, cTwice, cNotNow, cTooMuch, cDry, cOver, cNowhere, cBusy, cNoHeap, cNoPrinter, cGoesRound, cNoWay] cHallError = true
end My
seal L2.PE L2.PS L2.PSs L2.PT L2.PW L2.PA L2.PI L2.PG L2.PGs L2.PSet L2.PIfs L2.PO L2.PK L2.CallR L2.OpR L2.IxR L2.SlR L2.UnR
namespace My
open PySem L2
open Blk (sg sg_inj sg_app)
section
variable {P : Program} {w : World} {K : PySem.W.Frag} {mg : Str → Option Value} {base : Heap}
theorem int_of {ns : List Int} {j : Nat} {v : V} (h : (ns.map V.int)[j]? = some v) : ∃ z, v = V.int z := by
  rw [List.getElem?_map] at h
  cases e : ns[j]? with
  | none => rw [e] at h; cases h
  | some z => rw [e] at h; exact ⟨z, (Option.some.inj h).symm⟩
structure Scr (K : PySem.W.Frag) (H : Hp) (a : Addr) : Prop where
  ex : ∃ ns : List Int, SqL K H a (ns.map V.int) ∧ ns.length ≤ 63
theorem Scr.same {K : PySem.W.Frag} {H H' : Hp} {a : Addr} (s : Scr K H a) (e : Same H H') : Scr K H' a := by
  obtain ⟨ns, h, l⟩ := s.ex
  exact ⟨ns, e.seq h, l⟩
end
end My
namespace My
open PySem L2
open Blk (sg sg_inj sg_app)
section
variable {P : Program} {w : World} {K : PySem.W.Frag} {mg : Str → Option Value} {base : Heap}
def KeptBut (x : Addr) (H H' : Hp) : Prop := ∀ b o, b ≠ x → H b = some o → H' b = some o
def sp_one (C : Addr) (f : Str) : Sp := fun vs H Q _ => ∃ (x : Addr) (y : V), vs = [.ref x, y] ∧ H x = some (XO x C none) ∧ ∀ H', KeptBut x H H' → XF H' x C [(f, y)] → Q .non H'
theorem kept_set {H : Hp} {x dx : Addr} {o u : HO} (hd : H dx = none) : KeptBut x H (upd (upd H dx o) x u) := fun b v hb e => by
  rw [upd_ne hb, upd_ne (ne_of_none e hd)]; exact e
theorem xf_set {H : Hp} {x dx C : Addr} {fs : List (Str × V)} (hx : dx ≠ x) : XF (upd (upd H dx (XD dx fs)) x (XO x C (some dx))) x C fs := ⟨dx, upd_same, by rw [upd_ne hx, upd_same], hx⟩
theorem same_made {H H' : Hp} {x : Addr} {o : HO} (hx : H x = none) (k : KeptBut x (upd H x o) H') : Same H H' := fun b v e => by
  have hb : b ≠ x := ne_of_none e hx
  exact k b v hb (by rw [upd_ne hb]; exact e)
theorem raise_one {K : PySem.W.Frag} {C : Addr} {f : Str} {y : V} {H : Hp} {E : XK} (mk : PySem.W.excMk K C = true) (h : ∀ ea H', Same H H' → H ea = none → XG H' ea C [(f, y)] → E (.ref C) (some ea) H') :
    ∀ x, H x = none → sp_one C f (.ref x :: [y]) (upd H x (XO x C none)) (fun v H2 => v = .non ∧ ∃ ea C' d, V.ref x = .ref ea ∧ H2 ea = some (XO ea C' d) ∧ PySem.W.excMk K C' = true ∧ E (.ref C') (some ea) (upd H2 ea (XC ea C' d))) E0 := by
  intro x nx
  refine ⟨x, y, rfl, upd_same, fun H' kb xf => ⟨rfl, ?_⟩⟩
  obtain ⟨dx, a, g⟩ := xf.raised
  exact ⟨x, C, some dx, rfl, a, mk, h x _ (same_on nx (same_made nx kb) _) nx g⟩
theorem iteYes {c A B : Prop} [Decidable c] (hc : c) (h : A) : if decide c = true then A else B := by
  rw [if_pos (decide_eq_true hc)]
  exact h
theorem iteNo {c A B : Prop} [Decidable c] (hc : ¬ c) (h : B) : if decide c = true then A else B := by
  rw [if_neg (by rw [decide_eq_false hc]; decide)]
  exact h
end
end My
namespace My
open PySem L2
open Blk (sg sg_inj sg_app)
section
variable {P : Program} {w : World} {K : PySem.W.Frag} {mg : Str → Option Value} {base : Heap}
def chg1 (p : Str × Str) : Int := if p.1 = p.2 then 0 else 1
def sp_change (K : PySem.W.Frag) : Sp := fun vs H Q _ => ∃ a b : Str, vs = [.str a, .str b] ∧ Q (.int (chg1 (a, b))) H
theorem sc_change : FnScope ["first", "second"] ["first", "second"] (defScope s_change) := ⟨rfl, rfl, rfl, by decide +kernel, rfl, by decide +kernel, by decide +kernel⟩
theorem ok_change {fa cBadLine cUnknown cTwice cNotNow cTooMuch cDry cOver cNowhere cBusy cNoHeap cNoPrinter cGoesRound cNoWay cHallError : Addr} {fd : FuncData} (F : Fun K "change" "change" s_change fa fd) (T : Txt K mg cBadLine cUnknown cTwice cNotNow cTooMuch cDry cOver cNowhere cBusy cNoHeap cNoPrinter cGoesRound cNoWay cHallError)  :
    FnOk P w K mg base CX0 1 fa fd ["first", "second"] (sp_change K) := by
  refine F.ok sc_change (fun vs H Q E h => ?_) (fun cdv A outer s H vs Q E hr h => ?_)
  · obtain ⟨a, b, rfl, _⟩ := h
    rfl
  obtain ⟨a, b, rfl, q⟩ := h
  refine ⟨_, (pss_one (ps_ret (pe_ifExp (pt_cmpR op_eq (pv 0) (pv 1) (nomark _)) pe_int pe_int))), ?_⟩
  refine ⟨_, rfl, _, rfl, rfl, _, rfl, ?_⟩
  unfold chg1 at q
  by_cases h : a = b
  · rw [if_pos (show (a, b).1 = (a, b).2 from h)] at q
    exact iteYes (by rw [h]) q
  · rw [if_neg (show ¬ (a, b).1 = (a, b).2 from h)] at q
    exact iteNo (fun z => by injection z with z; exact h z) q
end
end My
namespace My
open PySem L2
open Blk (sg sg_inj sg_app)
section
variable {P : Program} {w : World} {K : PySem.W.Frag} {mg : Str → Option Value} {base : Heap}
abbrev SS := List Nat × Str
abbrev Rw := List (List Str)
def lenAt (rows : Rw) (i : Nat) : Nat := (rows.getD i []).length
def stepAt (rows : Rw) (s : SS) (i : Nat) : Option (Nat × SS) := if s.1.getD i 0 < lenAt rows i then some (i, (s.1.set i (s.1.getD i 0 + 1), (rows.getD i []).getD (s.1.getD i 0) ⟨#[]⟩)) else none
def nexts (rows : Rw) (s : SS) : List (Nat × SS) := (List.range rows.length).filterMap (stepAt rows s)
def remD (rows : Rw) (s : SS) : Nat := ((List.range rows.length).map fun i => lenAt rows i - s.1.getD i 0).sum
def Wf (rows : Rw) (s : SS) : Prop := s.1.length = rows.length
theorem next_mem {rows : Rw} {s : SS} {t : Nat × SS} (h : t ∈ nexts rows s) : t.1 < rows.length ∧ s.1.getD t.1 0 < lenAt rows t.1 ∧ t.2 = (s.1.set t.1 (s.1.getD t.1 0 + 1), (rows.getD t.1 []).getD (s.1.getD t.1 0) ⟨#[]⟩) := by
  obtain ⟨i, hi, e⟩ := List.mem_filterMap.mp h
  unfold stepAt at e
  split at e
  · next c =>
    obtain rfl := Option.some.inj e
    exact ⟨List.mem_range.mp hi, c, rfl⟩
  · cases e
theorem next_wf {rows : Rw} {s : SS} {t : Nat × SS} (w : Wf rows s) (h : t ∈ nexts rows s) : Wf rows t.2 := by
  obtain ⟨_, _, e⟩ := next_mem h
  unfold Wf
  rw [e]
  dsimp only
  rw [List.length_set]
  exact w
theorem sum_one {f g : Nat → Nat} {i : Nat} (hi : f i + 1 = g i) (ho : ∀ j, j ≠ i → f j = g j) : ∀ n, ((List.range n).map f).sum + (if i < n then 1 else 0) = ((List.range n).map g).sum
  | 0 => rfl
  | n + 1 => by
    have ih := sum_one hi ho n
    rw [List.range_succ, List.map_append, List.map_append, List.sum_append, List.sum_append]
    show _ + (f n + 0) + _ = _ + (g n + 0)
    by_cases e : i = n
    · subst e
      rw [if_neg (Nat.lt_irrefl _)] at ih
      rw [if_pos (Nat.lt_succ_self _)]
      omega
    · have := ho n (fun z => e z.symm)
      by_cases c : i < n
      · rw [if_pos c] at ih
        rw [if_pos (by omega)]
        omega
      · rw [if_neg c] at ih
        rw [if_neg (by omega)]
        omega
theorem next_rem {rows : Rw} {s : SS} {t : Nat × SS} (w : Wf rows s) (h : t ∈ nexts rows s) : remD rows t.2 + 1 = remD rows s := by
  obtain ⟨h1, h2, e⟩ := next_mem h
  have := sum_one (f := fun i => lenAt rows i - t.2.1.getD i 0) (g := fun i => lenAt rows i - s.1.getD i 0) (i := t.1) ?_ ?_ rows.length
  · rw [if_pos h1] at this
    exact this
  · show lenAt rows t.1 - t.2.1.getD t.1 0 + 1 = lenAt rows t.1 - s.1.getD t.1 0
    rw [e]
    dsimp only
    have l : t.1 < s.1.length := by rw [w]; exact h1
    have : (s.1.set t.1 (s.1.getD t.1 0 + 1)).getD t.1 0 = s.1.getD t.1 0 + 1 := by
      rw [List.getD_eq_getElem?_getD, List.getElem?_set_self l]
      rfl
    rw [this]
    omega
  · intro j hj
    show lenAt rows j - t.2.1.getD j 0 = lenAt rows j - s.1.getD j 0
    rw [e]
    dsimp only
    rw [List.getD_eq_getElem?_getD, List.getElem?_set_ne (Ne.symm hj), ← List.getD_eq_getElem?_getD]
theorem count_le {α β : Type} {f : α → Option β} {g : α → Nat} (h : ∀ a, (f a).isSome = true → 1 ≤ g a) : ∀ l : List α, (l.filterMap f).length ≤ (l.map g).sum
  | [] => Nat.le_refl _
  | a :: l => by
    have ih := count_le h l
    rw [List.map_cons, List.sum_cons]
    cases e : f a with
    | none =>
      rw [List.filterMap_cons_none e]
      omega
    | some b =>
      rw [List.filterMap_cons_some e, List.length_cons]
      have := h a (by rw [e]; rfl)
      omega
theorem nexts_le (rows : Rw) (s : SS) : (nexts rows s).length ≤ remD rows s := by
  refine count_le (fun i hi => ?_) _
  unfold stepAt at hi
  split at hi
  · next c => omega
  · cases hi
theorem nexts_rows (rows : Rw) (s : SS) : (nexts rows s).length ≤ rows.length := by
  have := List.length_filterMap_le (stepAt rows s) (List.range rows.length)
  rw [List.length_range] at this
  exact this
inductive Reach (rows : Rw) (f : SS) : SS → Prop
  | here : Reach rows f f
  | step {s : SS} {t : Nat × SS} : Reach rows f s → t ∈ nexts rows s → Reach rows f t.2
def minD : List Int → Int
  | [] => 0
  | x :: r => r.foldl (fun a b => if b < a then b else a) x
theorem fold_min : ∀ (r : List Int) (x : Int), (r.foldl (fun a b => if b < a then b else a) x ∈ x :: r) ∧ ∀ k ∈ x :: r, r.foldl (fun a b => if b < a then b else a) x ≤ k
  | [], x => ⟨.head _, fun k hk => by rw [List.mem_singleton.mp hk]; exact Int.le_refl _⟩
  | y :: r, x => by
    obtain ⟨h1, h2⟩ := fold_min r (if y < x then y else x)
    refine ⟨?_, fun k hk => ?_⟩
    · rcases List.mem_cons.mp h1 with e | m
      · show r.foldl _ (if y < x then y else x) ∈ _
        rw [e]
        split
        · exact .tail _ (.head _)
        · exact .head _
      · exact .tail _ (.tail _ m)
    · have h3 := h2 _ (.head _)
      show r.foldl _ (if y < x then y else x) ≤ k
      rcases List.mem_cons.mp hk with e | m
      · rw [e]; split at h3 <;> split <;> omega
      · rcases List.mem_cons.mp m with e | m
        · rw [e]; split at h3 <;> split <;> omega
        · exact h2 k (.tail _ m)
theorem minD_is {l : List Int} {m : Int} (h : m ∈ l) (hk : ∀ k ∈ l, m ≤ k) : m = minD l := by
  cases l with
  | nil => cases h
  | cons x r =>
    obtain ⟨h1, h2⟩ := fold_min r x
    have a := hk _ h1
    have b := h2 _ h
    show m = r.foldl _ x
    omega
def priceF (rows : Rw) : Nat → SS → Int
  | 0, _ => 0
  | n + 1, s => minD ((nexts rows s).map fun t => chg1 (s.2, t.2.2) + priceF rows n t.2)
def price (rows : Rw) (s : SS) : Int := priceF rows (remD rows s) s
theorem price_eq {rows : Rw} {s : SS} (w : Wf rows s) : price rows s = minD ((nexts rows s).map fun t => chg1 (s.2, t.2.2) + price rows t.2) := by
  unfold price
  cases e : remD rows s with
  | zero =>
    have := nexts_le rows s
    rw [e] at this
    have z : nexts rows s = [] := List.eq_nil_of_length_eq_zero (by omega)
    rw [z]
    rfl
  | succ n =>
    show minD _ = minD _
    congr 1
    refine List.map_congr_left fun t ht => ?_
    have := next_rem w ht
    rw [show remD rows t.2 = n by omega]
def fac : Nat → Nat
  | 0 => 1
  | n + 1 => (n + 1) * fac n
theorem fac_pos : ∀ n, 1 ≤ fac n
  | 0 => Nat.le_refl _
  | n + 1 => Nat.mul_le_mul (Nat.succ_le_succ (Nat.zero_le n)) (fac_pos n)
theorem fac_le {n : Nat} (h : n ≤ 8) : fac n ≤ 40320 := by
  have : ∀ n, n ≤ 8 → fac n ≤ 40320 := by decide
  exact this n h
structure GoodL (rows : Rw) (f : SS) (L : List SS) : Prop where
  nd : L.Nodup
  pw : L.Pairwise fun a b => remD rows b ≤ remD rows a
  wf : ∀ s ∈ L, Wf rows s ∧ Reach rows f s
  fst : f ∈ L
  cl : ∀ s ∈ L, ∀ t ∈ nexts rows s, t.2 ∈ L
  le : L.length ≤ 400000
theorem GoodL.all {rows : Rw} {f : SS} {L : List SS} (g : GoodL rows f L) {s : SS} (h : Reach rows f s) : s ∈ L := by
  induction h with
  | here => exact g.fst
  | step _ ht ih => exact g.cl _ ih _ ht
def nkOf (s : SS) : NK := (s.1.map fun d : Nat => (Sum.inl (d : Int) : Key), Sum.inr s.2)
theorem nkOf_inj {s t : SS} (h : nkOf s = nkOf t) : s = t := by
  unfold nkOf at h
  obtain ⟨h1, h2⟩ := Prod.mk.inj h
  have m : ∀ a b : List Nat, (a.map fun d : Nat => (Sum.inl (d : Int) : Key)) = b.map (fun d : Nat => (Sum.inl (d : Int) : Key)) → a = b := by
    intro a
    induction a with
    | nil => intro b h; cases b with | nil => rfl | cons _ _ => cases h
    | cons x a ih =>
      intro b h
      cases b with
      | nil => cases h
      | cons y b =>
        obtain ⟨e1, e2⟩ := List.cons.inj h
        injection e1 with e1
        rw [ih b e2, Int.ofNat.inj e1]
  exact Prod.ext (m _ _ h1) (Sum.inr.inj h2)
end
end My
namespace My
open PySem L2
open Blk (sg sg_inj sg_app)
section
variable {P : Program} {w : World} {K : PySem.W.Frag} {mg : Str → Option Value} {base : Heap}
theorem sc_TooMuch_init : FnScope ["self", "name"] ["self", "name"] (defScope s_TooMuch_init) := ⟨rfl, rfl, rfl, by decide +kernel, rfl, by decide +kernel, by decide +kernel⟩
theorem ok_TooMuch_init {fa cBadLine cUnknown cTwice cNotNow cTooMuch cDry cOver cNowhere cBusy cNoHeap cNoPrinter cGoesRound cNoWay cHallError : Addr} {fd : FuncData} (F : Fun K "__init__" "TooMuch.__init__" s_TooMuch_init fa fd) (T : Txt K mg cBadLine cUnknown cTwice cNotNow cTooMuch cDry cOver cNowhere cBusy cNoHeap cNoPrinter cGoesRound cNoWay cHallError)  :
    FnOk P w K mg base CX0 1 fa fd ["self", "name"] (sp_one cTooMuch "name") := by
  refine F.ok sc_TooMuch_init (fun vs H Q E h => ?_) (fun cdv A outer s H vs Q E hr h => ?_)
  · obtain ⟨x, y, rfl, _⟩ := h
    rfl
  obtain ⟨x, y, rfl, hx, q⟩ := h
  refine ⟨_, (pss_cons (ps_expr (pe_initX T.in_HallError rfl T.mg_HallError (pa_cons (pv 0) (pa_cons (pv 1) pa_nil))))
  (pss_one (ps_fldX (pv 0) (pv 1) rfl))), ?_⟩
  refine ⟨_, rfl, _, rfl, x, _, none, [y], rfl, (by simp), hx, T.x_TooMuch.m, ?_⟩
  refine ⟨_, rfl, _, rfl, .inl ⟨x, _, rfl, hx, T.x_TooMuch.i.c, T.x_TooMuch.n _ (.head _), fun dx nd ne => ?_⟩⟩
  exact q _ (kept_set nd) (xf_set ne)
def Tp (H H' : Hp) : Prop := ∀ c ys, H c = some (.tup ys) → H' c = some (.tup ys)
theorem tpS {H H' : Hp} (s : Same H H') : Tp H H' := fun c ys e => s c _ e
theorem Tp.trans {H H1 H2 : Hp} (a : Tp H H1) (b : Tp H1 H2) : Tp H H2 := fun c ys e => b c ys (a c ys e)
theorem tp_upd {H : Hp} {a : Addr} {u o : HO} (h : H a = some u) (nt : ∀ ys, u ≠ .tup ys) : Tp H (upd H a o) := fun c ys e => by
  have : c ≠ a := fun z => by rw [z, h] at e; exact nt ys (Option.some.inj e)
  rw [upd_ne this]
  exact e
def dsV (ds : List Nat) : List V := ds.map fun d : Nat => V.int (d : Int)
def StA (H : Hp) (b : Addr) (s : SS) : Prop := ∃ d, H b = some (.tup [.ref d, .str s.2]) ∧ H d = some (.tup (dsV s.1))
theorem StA.nk {H : Hp} {b : Addr} {s : SS} (x : StA H b s) : NKey H (nkOf s) b := by
  obtain ⟨d, h1, h2⟩ := x
  refine ⟨d, h1, ?_⟩
  rw [h2]
  unfold nkOf dsV
  dsimp only
  rw [List.map_map]
  rfl
theorem StA.tp {H H' : Hp} {b : Addr} {s : SS} (x : StA H b s) (t : Tp H H') : StA H' b s := by
  obtain ⟨d, h1, h2⟩ := x
  exact ⟨d, t _ _ h1, t _ _ h2⟩
def MvA (H : Hp) (m : Addr) (t : Nat × SS) : Prop := ∃ b, H m = some (.tup [.int (t.1 : Int), .ref b]) ∧ StA H b t.2
theorem MvA.tp {H H' : Hp} {m : Addr} {t : Nat × SS} (x : MvA H m t) (k : Tp H H') : MvA H' m t := by
  obtain ⟨b, h1, h2⟩ := x
  exact ⟨b, k _ _ h1, h2.tp k⟩
def StL (H : Hp) (l : Addr) (ss : List SS) : Prop := ∃ bs : List Addr, H l = some (.lst (bs.map V.ref)) ∧ Paired (StA H) bs ss
def MvL (H : Hp) (l : Addr) (ts : List (Nat × SS)) : Prop := ∃ ms : List Addr, H l = some (.lst (ms.map V.ref)) ∧ Paired (MvA H) ms ts
def RowsAt (H : Hp) (r : Addr) (rows : Rw) : Prop := ∃ ps : List Addr, H r = some (.lst (ps.map V.ref)) ∧ Paired (fun p row => H p = some (.lst (row.map V.str))) ps rows
theorem RowsAt.same {H H' : Hp} {r : Addr} {rows : Rw} (x : RowsAt H r rows) (s : Same H H') : RowsAt H' r rows := by
  obtain ⟨ps, h1, h2⟩ := x
  exact ⟨ps, s _ _ h1, Paired.mapP h2 fun _ _ e => s _ _ e⟩
theorem StL.same {H H' : Hp} {l : Addr} {ss : List SS} (x : StL H l ss) (s : Same H H') : StL H' l ss := by
  obtain ⟨bs, h1, h2⟩ := x
  exact ⟨bs, s _ _ h1, Paired.mapP h2 fun _ _ e => e.tp (tpS s)⟩
theorem MvL.same {H H' : Hp} {l : Addr} {ts : List (Nat × SS)} (x : MvL H l ts) (s : Same H H') : MvL H' l ts := by
  obtain ⟨bs, h1, h2⟩ := x
  exact ⟨bs, s _ _ h1, Paired.mapP h2 fun _ _ e => e.tp (tpS s)⟩
theorem paired_at {α β : Type} {F : α → β → Prop} : ∀ {xs : List α} {ys : List β} {i : Nat} {y : β}, Paired F xs ys → ys[i]? = some y → ∃ x, xs[i]? = some x ∧ F x y
  | _, _, 0, _, .cons r _, e => by obtain rfl := Option.some.inj e; exact ⟨_, rfl, r⟩
  | _, _, i + 1, _, .cons _ t, e => paired_at (i := i) t e
theorem paired_at' {α β : Type} {F : α → β → Prop} : ∀ {xs : List α} {ys : List β} {i : Nat} {x : α}, Paired F xs ys → xs[i]? = some x → ∃ y, ys[i]? = some y ∧ F x y
  | _, _, 0, _, .cons r _, e => by obtain rfl := Option.some.inj e; exact ⟨_, rfl, r⟩
  | _, _, i + 1, _, .cons _ t, e => paired_at' (i := i) t e
theorem paired_app {α β : Type} {F : α → β → Prop} : ∀ {xs us : List α} {ys vs : List β}, Paired F xs ys → Paired F us vs → Paired F (xs ++ us) (ys ++ vs)
  | _, _, _, _, .nil, h => h
  | _, _, _, _, .cons r t, h => .cons r (paired_app t h)
theorem ds_set {ds : List Nat} {i v : Nat} (h : i < ds.length) : (dsV ds).take i ++ [V.int (v : Int)] ++ (dsV ds).drop (i + 1) = dsV (ds.set i v) := by
  unfold dsV
  rw [← List.map_take, ← List.map_drop, List.set_eq_take_append_cons_drop, if_pos h, List.map_append, List.map_cons, List.append_assoc]
  rfl
theorem ds_at {ds : List Nat} {i : Nat} (h : i < ds.length) : (dsV ds)[i]? = some (.int ((ds.getD i 0 : Nat) : Int)) := by
  unfold dsV
  rw [List.getElem?_map, List.getElem?_eq_getElem h, List.getD_eq_getElem?_getD, List.getElem?_eq_getElem h]
  rfl
theorem cat_any {K : PySem.W.Frag} {H : Hp} {a b : Addr} {xs ys : List V} {Q : VK} (ha : H a = some (.tup xs)) (hb : H b = some (.tup ys)) (hl : xs.length + ys.length ≤ 1000) (q : ∀ p H', Same H H' → H' p = some (.tup (xs ++ ys)) → Q (.ref p) H') : rCatU K (.ref a) (.ref b) H Q := by
  refine ⟨a, b, xs, ys, rfl, rfl, SqT.of ha, SqT.of hb, small hl, fun e => ?_, fun _ e => ?_, fun _ _ p np => q p _ (same_new np _) upd_same⟩
  · refine q b H (Same.refl H) ?_
    rw [e]
    exact hb
  · refine q a H (Same.refl H) ?_
    rw [e, List.append_nil]
    exact ha
theorem cut_pre {K : PySem.W.Frag} {H : Hp} {d : Addr} {ds : List Nat} {i : Nat} {Q : VK} (hd : H d = some (.tup (dsV ds))) (hi : i < ds.length) (q : ∀ p H', Same H H' → H' p = some (.tup ((dsV ds).take i)) → Q (.ref p) H') : rSlT K (.ref d) none (some (i : Int)) H Q := by
  have l : (dsV ds).length = ds.length := List.length_map _
  refine ⟨d, _, rfl, SqT.of hd, fun z => ?_, fun p np => q p _ (same_new np _) ?_⟩
  · have := z.2
    rw [HT.sIx_nat] at this
    omega
  · rw [upd_same, cut_to]
theorem cut_post {K : PySem.W.Frag} {H : Hp} {d : Addr} {ds : List Nat} {i : Nat} {Q : VK} (hd : H d = some (.tup (dsV ds))) (hi : i < ds.length) (q : ∀ p H', Same H H' → H' p = some (.tup ((dsV ds).drop (i + 1))) → Q (.ref p) H') : rSlT K (.ref d) (some ((i : Int) + 1)) none H Q := by
  have l : (dsV ds).length = ds.length := List.length_map _
  have e : (i : Int) + 1 = ((i + 1 : Nat) : Int) := by omega
  rw [e]
  refine ⟨d, _, rfl, SqT.of hd, fun z => ?_, fun p np => q p _ (same_new np _) ?_⟩
  · have := z.1
    rw [HT.sIx_nat] at this
    omega
  · rw [upd_same, cut_from]
theorem seq_cut {a rest : TS} {D : Ends} {σ : St} {H : Hp} (P : St → Hp → Prop) (h1 : ∀ R : St → Hp → Prop, (∀ σ H, P σ H → R σ H) → a { D with nx := R } σ H) (h2 : ∀ σ H, P σ H → rest D σ H) : tSeq a rest D σ H := h1 _ h2
def sp_moves (_K : PySem.W.Frag) : Sp := fun vs H Q _ => ∃ (b r : Addr) (s : SS) (rows : Rw), vs = [.ref b, .ref r] ∧ StA H b s ∧ RowsAt H r rows ∧ Wf rows s ∧ rows.length ≤ 60 ∧ ∀ l H', Same H H' → H l = none → MvL H' l (nexts rows s) → Q (.ref l) H'
theorem sc_moves : FnScope ["state", "rows", "done", "told", "place", "row", "further"] ["state", "rows"] (defScope s_moves) := ⟨rfl, rfl, rfl, by decide +kernel, rfl, by decide +kernel, by decide +kernel⟩
theorem ok_moves {fa cBadLine cUnknown cTwice cNotNow cTooMuch cDry cOver cNowhere cBusy cNoHeap cNoPrinter cGoesRound cNoWay cHallError : Addr} {fd : FuncData} (F : Fun K "moves" "moves" s_moves fa fd) (T : Txt K mg cBadLine cUnknown cTwice cNotNow cTooMuch cDry cOver cNowhere cBusy cNoHeap cNoPrinter cGoesRound cNoWay cHallError)  :
    FnOk P w K mg base CX0 1 fa fd ["state", "rows"] (sp_moves K) := by
  refine F.ok sc_moves (fun vs H Q E h => ?_) (fun cdv A outer s H vs Q E hr h => ?_)
  · obtain ⟨b, r, s, rows, rfl, _⟩ := h
    rfl
  obtain ⟨b, r, s, rows, rfl, ⟨d, hb, hd⟩, hr0, wf, lr, q⟩ := h
  obtain ⟨ps, hp, rel⟩ := id hr0
  have lps : ps.length = rows.length := Paired.length rel
  refine ⟨_, (pss_cons (ps_set (i := 2) sc_moves.nd rfl (by first | exact Or.inl rfl | exact Or.inr rfl) (pe_ix ix_tup (pv 0) pe_int (fun _ _ => rfl)))
  (pss_cons (ps_set (i := 3) sc_moves.nd rfl (by first | exact Or.inl rfl | exact Or.inr rfl) (pe_lst pa_nil))
  (pss_cons (ps_for PassesOwn.never rfl (pi_enum rfl T.enumerate (pa_cons (pv 1) pa_nil)) (pg_tup rfl (pgs_cons (pg_name (i := 4) sc_moves.nd rfl (by first | exact Or.inl rfl | exact Or.inr rfl)) (pgs_cons (pg_name (i := 5) sc_moves.nd rfl (by first | exact Or.inl rfl | exact Or.inr rfl)) pgs_nil)))
  (pss_one (ps_if (pt_cmpR op_lt (pe_ix ix_tup (pv 2) (pv 4) (fun _ _ => rfl)) (pe_callB call_len_seq rfl T.len PySem.boot_len (pa_cons (pv 5) pa_nil)) (nomark _)) (pss_cons (ps_set (i := 6) sc_moves.nd rfl (by first | exact Or.inl rfl | exact Or.inr rfl) (pe_op op_catU (pe_op op_catU (pe_slice sl_tup (pv 2) po_none (po_some (pv 4))) (pe_tup (pa_cons (pe_op op_add (pe_ix ix_tup (pv 2) (pv 4) (fun _ _ => rfl)) pe_int) pa_nil))) (pe_slice sl_tup (pv 2) (po_some (pe_op op_add (pv 4) pe_int)) po_none)))
  (pss_one (ps_expr (pe_bm PySem.F.plainAttrs_list PySem.F.slot_list_append PySem.F.type_list_append mt_append (pv 3) (pa_cons (pe_tup (pa_cons (pv 4) (pa_cons (pe_tup (pa_cons (pv 6) (pa_cons (pe_ix ix_listA (pv 5) (pe_ix ix_tup (pv 2) (pv 4) (fun _ _ => rfl)) (fun _ _ => rfl)) pa_nil))) pa_nil))) pa_nil))))) pss_nil)))
  (pss_one (ps_ret (pv 3)))))), ?_⟩
  refine ⟨_, rfl, b, _, _, _, rfl, rfl, SqT.of hb, atI_nat (j := 0) rfl, ?_⟩
  refine ⟨small (by decide), fun l nl => ?_⟩
  have s1 := same_new nl (.lst [])
  have hl1 : (upd H l (.lst [])) l = some (.lst (([] : List Addr).map V.ref)) := upd_same
  generalize upd H l (.lst []) = H1 at s1 hl1 ⊢
  refine ⟨_, rfl, r, rfl, ⟨_, SqL.of (s1 _ _ hp)⟩, for_enum (K := K) (a := r) (j := 0) (xs := ps.map V.ref) (fun i σ G => Same H G ∧ MvL G l ((List.range i).filterMap (stepAt rows s)) ∧ ∃ v1 v2 v3 : Option V, σ = [some (.ref b), some (.ref r), some (.ref d), some (.ref l), v1, v2, v3]) ⟨s1, ⟨[], hl1, .nil⟩, _, _, _, rfl⟩ (fun i σ G _ z => SqL.of (z.1 _ _ hp)) (fun i x σ G c hx z hc => ?_) (fun σ G z => ?_)⟩
  · obtain ⟨sm, ⟨ms, hm, rm⟩, v1, v2, v3, rfl⟩ := z
    rw [List.getElem?_map] at hx
    obtain ⟨p, hp', rfl⟩ := Option.map_eq_some_iff.mp hx
    obtain ⟨row, hrow, prow⟩ := paired_at' rel hp'
    have li : i < rows.length := (List.getElem?_eq_some_iff.mp hrow).1
    have lds : i < s.1.length := by rw [wf]; exact li
    have grow : rows.getD i [] = row := by rw [List.getD_eq_getElem?_getD, hrow]; rfl
    have s2 := same_new hc (.tup [V.int (0 + (i : Nat)), .ref p])
    have hcc : (upd G c (.tup [V.int (0 + (i : Nat)), .ref p])) c = some (.tup [V.int (0 + (i : Nat)), .ref p]) := upd_same
    generalize upd G c (.tup [V.int (0 + (i : Nat)), .ref p]) = G2 at s2 hcc ⊢
    have sm2 := sm.trans s2
    have e0 : (0 : Int) + ((i : Nat) : Int) = ((i : Nat) : Int) := by omega
    rw [e0] at hcc
    refine ⟨c, _, rfl, SqT.of hcc, rfl, _, _, rfl, _, _, rfl, rfl, ?_⟩
    have hd2 := sm2 _ _ hd
    have hp2 := sm2 _ _ prow
    have hm2 := s2 _ _ hm
    have rm2 : Paired (MvA G2) ms ((List.range i).filterMap (stepAt rows s)) := Paired.mapP rm fun _ _ e => e.tp (tpS s2)
    have rng : (List.range (i + 1)).filterMap (stepAt rows s) = (List.range i).filterMap (stepAt rows s) ++ (stepAt rows s i).toList := by
      rw [List.range_succ, List.filterMap_append]
      cases e : stepAt rows s i with
      | none => simp [List.filterMap_cons, e]
      | some t => simp [List.filterMap_cons, e]
    have ln : lenAt rows i = row.length := by unfold lenAt; rw [grow]
    have di := ds_at lds
    have ldv : (dsV s.1).length = s.1.length := List.length_map _
    refine ⟨_, rfl, _, rfl, d, _, _, _, rfl, rfl, SqT.of hd2, atI_nat di, _, rfl, p, _, rfl, .inl (SqL.of hp2), _, _, rfl, rfl, _, rfl, ?_⟩
    rw [List.length_map]
    by_cases c1 : s.1.getD i 0 < row.length
    · rw [decide_eq_true (show ((s.1.getD i 0 : Nat) : Int) < ((row.length : Nat) : Int) by omega)]
      have st : stepAt rows s i = some (i, (s.1.set i (s.1.getD i 0 + 1), row.getD (s.1.getD i 0) ⟨#[]⟩)) := by
        unfold stepAt
        rw [ln, if_pos c1, grow]
      rw [st] at rng
      refine iteT ?_
      have l60 : (dsV s.1).length ≤ 60 := by rw [ldv, wf]; exact lr
      refine ⟨_, rfl, _, rfl, _, rfl, cut_pre hd2 lds fun t1 G3 s3 ht1 => ?_⟩
      refine ⟨_, rfl, _, rfl, d, _, _, _, rfl, rfl, SqT.of (s3 _ _ hd2), atI_nat di, _, _, rfl, rfl, small (by show 1 ≤ 1000; decide), fun t2 nt2 => ?_⟩
      have s4 := same_new nt2 (.tup [V.int (((s.1.getD i 0 : Nat) : Int) + 1)])
      have ht2 : (upd G3 t2 (.tup [V.int (((s.1.getD i 0 : Nat) : Int) + 1)])) t2 = some (.tup [V.int ((s.1.getD i 0 + 1 : Nat) : Int)]) := upd_same
      generalize upd G3 t2 (.tup [V.int (((s.1.getD i 0 : Nat) : Int) + 1)]) = G4 at s4 ht2 ⊢
      refine cat_any (s4 _ _ ht1) ht2 ?_ fun t3 G5 s5 ht3 => ?_
      · rw [List.length_take]
        show _ + 1 ≤ 1000
        omega
      have s35 := (s3.trans s4).trans s5
      refine ⟨_, rfl, _, rfl, _, _, rfl, rfl, _, rfl, ?_⟩
      dsimp only [tNoPart]
      refine cut_post (s35 _ _ hd2) lds fun t4 G6 s6 ht4 => ?_
      refine cat_any (s6 _ _ ht3) ht4 ?_ fun f G7 s7 hf => ?_
      · rw [List.length_append, List.length_take, List.length_drop]
        show _ + 1 + _ ≤ 1000
        omega
      rw [ds_set lds] at hf
      have s27 := (s35.trans s6).trans s7
      have hm7 := s27 _ _ hm2
      have hp7 := s27 _ _ hp2
      have hd7 := s27 _ _ hd2
      refine ⟨_, rfl, .inl ⟨rfl, _, SqL.of hm7⟩, _, rfl, _, rfl, _, rfl, _, rfl, _, rfl, d, _, _, _, rfl, rfl, SqT.of hd7, atI_nat di, p, _, _, rfl, rfl, SqL.of hp7, by omega, by rw [List.length_map]; omega, fun v hv => ?_⟩
      obtain rfl : V.str (row.getD (s.1.getD i 0) ⟨#[]⟩) = v := by
        rw [Int.toNat_natCast, List.getElem?_map, List.getElem?_eq_getElem c1] at hv
        rw [List.getD_eq_getElem?_getD, List.getElem?_eq_getElem c1]
        exact Option.some.inj hv
      refine ⟨small (by show 2 ≤ 1000; decide), fun t5 nt5 => ?_⟩
      have s8 := same_new nt5 (.tup [V.ref f, .str (row.getD (s.1.getD i 0) ⟨#[]⟩)])
      have ht5 : (upd G7 t5 (.tup [V.ref f, .str (row.getD (s.1.getD i 0) ⟨#[]⟩)])) t5 = some (.tup [V.ref f, .str (row.getD (s.1.getD i 0) ⟨#[]⟩)]) := upd_same
      generalize upd G7 t5 (.tup [V.ref f, .str (row.getD (s.1.getD i 0) ⟨#[]⟩)]) = G8 at s8 ht5 ⊢
      refine ⟨small (by show 2 ≤ 1000; decide), fun t6 nt6 => ?_⟩
      have s9 := same_new nt6 (.tup [V.int (i : Int), .ref t5])
      have ht6 : (upd G8 t6 (.tup [V.int (i : Int), .ref t5])) t6 = some (.tup [V.int (i : Int), .ref t5]) := upd_same
      have s29 := (s27.trans s8).trans s9
      have hm9 := s29 _ _ hm2
      have hf9 := s9 _ _ (s8 _ _ hf)
      have ht59 := s9 _ _ ht5
      generalize upd G8 t6 (.tup [V.int (i : Int), .ref t5]) = G9 at s9 ht6 s29 hm9 hf9 ht59 ⊢
      have lm : ms.length ≤ 60 := by
        rw [Paired.length rm]
        have := List.length_filterMap_le (stepAt rows s) (List.range i)
        rw [List.length_range] at this
        omega
      refine ⟨l, _, _, rfl, rfl, hm9, ?_, same_on nl (sm2.trans s29) _, ?_, _, _, _, rfl⟩
      · rw [List.length_map]
        exact small1000 (by omega)
      · rw [rng]
        have tp : Tp G9 (upd G9 l (.lst (ms.map V.ref ++ [.ref t6]))) := tp_upd hm9 (by intro ys z; cases z)
        refine ⟨ms ++ [t6], by rw [upd_same, List.map_append]; rfl, paired_app (Paired.mapP rm2 fun _ _ e => (e.tp (tpS s29)).tp tp) (.cons ⟨t5, tp _ _ ht6, f, tp _ _ ht59, tp _ _ hf9⟩ .nil)⟩
    · rw [decide_eq_false (show ¬ ((s.1.getD i 0 : Nat) : Int) < ((row.length : Nat) : Int) by omega)]
      have st : stepAt rows s i = none := by
        unfold stepAt
        rw [ln, if_neg c1]
      rw [st] at rng
      refine iteF ⟨sm2, ?_, _, _, _, rfl⟩
      rw [rng]
      exact ⟨ms, hm2, by rw [show (none : Option (Nat × SS)).toList = [] from rfl, List.append_nil]; exact rm2⟩
  · obtain ⟨sm, M, v1, v2, v3, rfl⟩ := z
    rw [List.length_map, lps] at M
    exact ⟨_, rfl, q l G sm nl M⟩
end
end My
namespace My
open PySem L2
open Blk (sg sg_inj sg_app)
section
variable {P : Program} {w : World} {K : PySem.W.Frag} {mg : Str → Option Value} {base : Heap}
abbrev YS := List (SS × Addr × V)
def ndx (ys : YS) : NX := ys.map fun p => (nkOf p.1, p.2.1, p.2.2)
def keysY (ys : YS) : List SS := ys.map (·.1)
def lkY (ys : YS) (s : SS) : Option V := (ys.find? fun p => decide (p.1 = s)).map (·.2.2)
theorem lk_ndx (s : SS) : ∀ ys : YS, lkN (ndx ys) (nkOf s) = lkY ys s
  | [] => rfl
  | p :: ys => by
    have ih := lk_ndx s ys
    unfold lkN ndx at ih ⊢
    unfold lkY at ih ⊢
    rw [List.map_cons, List.find?_cons, List.find?_cons]
    by_cases c : p.1 = s
    · rw [decide_eq_true c, decide_eq_true (by rw [c])]
      rfl
    · rw [decide_eq_false c, decide_eq_false (fun z => c (nkOf_inj z))]
      exact ih
theorem lkY_none {ys : YS} {s : SS} (h : s ∉ keysY ys) : lkY ys s = none := by
  unfold lkY
  rw [List.find?_eq_none.mpr fun p hp => ?_]
  · rfl
  · intro z
    exact h (List.mem_map.mpr ⟨p, hp, of_decide_eq_true z⟩)
theorem lkY_in {ys : YS} {s : SS} (h : s ∈ keysY ys) : ∃ v, lkY ys s = some v ∧ ∃ b, (s, b, v) ∈ ys := by
  unfold lkY
  cases e : ys.find? (fun p => decide (p.1 = s)) with
  | none =>
    obtain ⟨p, hp, rfl⟩ := List.mem_map.mp h
    exact absurd (decide_eq_true rfl) (List.find?_eq_none.mp e p hp)
  | some p =>
    have h1 := List.find?_some e
    have h2 := List.mem_of_find?_eq_some e
    have : p.1 = s := of_decide_eq_true h1
    refine ⟨p.2.2, rfl, p.2.1, ?_⟩
    rw [← this]
    exact h2
theorem up_new {ys : YS} {s : SS} {b : Addr} {v : V} (h : s ∉ keysY ys) : upN (ndx ys) (nkOf s) b v = ndx (ys ++ [(s, b, v)]) := by
  unfold upN
  rw [lk_ndx, lkY_none h, if_neg (by decide)]
  unfold ndx
  rw [List.map_append]
  rfl
theorem up_old {ys : YS} {s : SS} {b : Addr} {v : V} (h : s ∈ keysY ys) (hv : ∀ p ∈ ys, p.1 = s → p.2.2 = v) : upN (ndx ys) (nkOf s) b v = ndx ys := by
  unfold upN
  obtain ⟨u, e, _⟩ := lkY_in h
  rw [lk_ndx, e, if_pos (show (some u).isSome = true from rfl)]
  unfold ndx
  rw [List.map_map]
  refine List.map_congr_left fun p hp => ?_
  show putN (nkOf s) v (nkOf p.1, p.2.1, p.2.2) = _
  unfold putN
  by_cases c : p.1 = s
  · rw [if_pos (by rw [c]), hv p hp c]
  · rw [if_neg (fun z => c (nkOf_inj z))]
structure YAt (P : Program) (w : World) (H : Hp) (a : Addr) (ys : YS) : Prop where
  at_ : H a = some (ND P w a (ndx ys))
  st : ∀ p ∈ ys, StA H p.2.1 p.1
theorem YAt.na {P : Program} {w : World} {H : Hp} {a : Addr} {ys : YS} (y : YAt P w H a ys) : NAt P w H a (ndx ys) := ⟨.inl y.at_, fun x hx => by
  obtain ⟨p, hp, rfl⟩ := List.mem_map.mp hx
  exact (y.st p hp).nk⟩
theorem YAt.same {P : Program} {w : World} {H H' : Hp} {a : Addr} {ys : YS} (y : YAt P w H a ys) (s : Same H H') : YAt P w H' a ys := ⟨s _ _ y.at_, fun p hp => (y.st p hp).tp (tpS s)⟩
theorem nd_tup {P : Program} {w : World} {a : Addr} {xs : NX} : ∀ ys, ND P w a xs ≠ .tup ys := by intro ys z; cases z
theorem YAt.put {P : Program} {w : World} {H : Hp} {a : Addr} {ys zs : YS} (y : YAt P w H a ys) (h : ∀ p ∈ zs, StA H p.2.1 p.1) : YAt P w (upd H a (ND P w a (ndx zs))) a zs :=
  ⟨upd_same, fun p hp => (h p hp).tp (tp_upd y.at_ nd_tup)⟩
theorem ndx_len (ys : YS) : (ndx ys).length = ys.length := List.length_map _
def sp_dearness (P : Program) (w : World) : Sp := fun vs H Q _ => ∃ (b m pr : Addr) (s : SS) (t : Nat × SS) (ys : YS) (v : Int), vs = [.ref b, .ref m, .ref pr] ∧ StA H b s ∧ MvA H m t ∧ YAt P w H pr ys ∧ lkY ys t.2 = some (.int v) ∧ Q (.int (chg1 (s.2, t.2.2) + v)) H
theorem sc_dearness : FnScope ["state", "move", "prices", "further"] ["state", "move", "prices"] (defScope s_dearness) := ⟨rfl, rfl, rfl, by decide +kernel, rfl, by decide +kernel, by decide +kernel⟩
theorem ok_dearness {fa cBadLine cUnknown cTwice cNotNow cTooMuch cDry cOver cNowhere cBusy cNoHeap cNoPrinter cGoesRound cNoWay cHallError : Addr} {fd : FuncData} (F : Fun K "dearness" "dearness" s_dearness fa fd) (T : Txt K mg cBadLine cUnknown cTwice cNotNow cTooMuch cDry cOver cNowhere cBusy cNoHeap cNoPrinter cGoesRound cNoWay cHallError) (D_change : Dfn P w K mg base 1 "change" ["first", "second"] (sp_change K)) :
    FnOk P w K mg base CX0 2 fa fd ["state", "move", "prices"] (sp_dearness P w) := by
  refine F.ok sc_dearness (fun vs H Q E h => ?_) (fun cdv A outer s H vs Q E hr h => ?_)
  · obtain ⟨b, m, pr, s, t, ys, v, rfl, _⟩ := h
    rfl
  obtain ⟨b, m, pr, s, t, ys, v, rfl, ⟨d, hb, hd⟩, ⟨f, hm, hs⟩, Y, lk, q⟩ := h
  have hu64 := hr.units
  refine ⟨_, (pss_cons (ps_set (i := 3) sc_dearness.nd rfl (by first | exact Or.inl rfl | exact Or.inr rfl) (pe_ix ix_tup (pv 1) pe_int (fun _ _ => rfl)))
  (pss_one (ps_ret (pe_op op_add (pe_callD D_change (hr.mono (by decide)) rfl (pa_cons (pe_ix ix_tup (pv 0) pe_int (fun _ _ => rfl)) (pa_cons (pe_ix ix_tup (pv 3) pe_int (fun _ _ => rfl)) pa_nil))) (pe_nget (P := P) (w := w) rfl rfl hu64 (pv 2) (pv 3) (fun _ _ => rfl)))))), ?_⟩
  refine ⟨_, rfl, m, _, _, _, rfl, rfl, SqT.of hm, atI_nat (j := 1) rfl, ?_⟩
  obtain ⟨d2, hf, hd2⟩ := id hs
  refine ⟨_, rfl, b, _, _, _, rfl, rfl, SqT.of hb, atI_nat (j := 1) rfl, _, rfl, f, _, _, _, rfl, rfl, SqT.of hf, atI_nat (j := 1) rfl, _, _, rfl, ?_⟩
  exact ⟨_, rfl, _, rfl, pr, f, _, _, _, rfl, rfl, Y.na, hs.nk, by rw [lk_ndx]; exact lk, _, _, rfl, rfl, q⟩
end
end My
namespace My
open PySem L2
open Blk (sg sg_inj sg_app)
section
variable {P : Program} {w : World} {K : PySem.W.Frag} {mg : Str → Option Value} {base : Heap}
theorem paired_map {α β : Type} {F : α → β → Prop} {γ : Type} (f : γ → α) (g : γ → β) : ∀ (l : List γ), (∀ c ∈ l, F (f c) (g c)) → Paired F (l.map f) (l.map g)
  | [], _ => .nil
  | c :: l, h => .cons (h c (.head _)) (paired_map f g l fun c hc => h c (.tail _ hc))
theorem take_succ {α : Type} {l : List α} {i : Nat} {x : α} (h : l[i]? = some x) : l.take (i + 1) = l.take i ++ [x] := by
  rw [List.take_add_one, h]
  rfl
def sp_behind (_K : PySem.W.Frag) : Sp := fun vs H Q _ => ∃ (l r : Addr) (ss : List SS) (rows : Rw) (m : Nat), vs = [.ref l, .ref r] ∧ StL H l ss ∧ RowsAt H r rows ∧ rows.length ≤ 60 ∧ (∀ s ∈ ss, Wf rows s ∧ (nexts rows s).length ≤ m) ∧ ss.length * m ≤ 100000 ∧
  ∀ l' H' ss', Same H H' → H l' = none → StL H' l' ss' → ss'.Nodup → (∀ t, t ∈ ss' ↔ ∃ s ∈ ss, ∃ u ∈ nexts rows s, u.2 = t) → ss'.length ≤ ss.length * m → Q (.ref l') H'
structure FnD (P : Program) (w : World) (H : Hp) (a : Addr) (ys : YS) (keys : SS → Prop) (n : Nat) : Prop where
  y : YAt P w H a ys
  nd : (keysY ys).Nodup
  tr : ∀ p ∈ ys, p.2.2 = .bl true
  ks : ∀ t, t ∈ keysY ys ↔ keys t
  le : ys.length ≤ n
theorem FnD.same {P : Program} {w : World} {H H' : Hp} {a : Addr} {ys : YS} {keys : SS → Prop} {n : Nat} (f : FnD P w H a ys keys n) (s : Same H H') : FnD P w H' a ys keys n := ⟨f.y.same s, f.nd, f.tr, f.ks, f.le⟩
theorem FnD.put {P : Program} {w : World} {H : Hp} {a : Addr} {ys : YS} {keys keys' : SS → Prop} {n : Nat} (f : FnD P w H a ys keys n) {s : SS} {b : Addr} (hb : StA H b s) (hk : ∀ t, keys' t ↔ keys t ∨ t = s) : ∃ zs, upN (ndx ys) (nkOf s) b (.bl true) = ndx zs ∧ FnD P w (upd H a (ND P w a (ndx zs))) a zs keys' (n + 1) := by
  by_cases c : s ∈ keysY ys
  · refine ⟨ys, up_old c fun p hp _ => f.tr p hp, f.y.put f.y.st, f.nd, f.tr, fun t => ?_, Nat.le_succ_of_le f.le⟩
    rw [hk t, f.ks t]
    constructor
    · exact .inl
    · rintro (h | h)
      · exact h
      · rw [h]; exact (f.ks s).mp c
  · have ek : keysY (ys ++ [(s, b, V.bl true)]) = keysY ys ++ [s] := by unfold keysY; rw [List.map_append]; rfl
    refine ⟨ys ++ [(s, b, .bl true)], up_new c, f.y.put fun p hp => ?_, ?_, fun p hp => ?_, fun t => ?_, by rw [List.length_append]; exact Nat.succ_le_succ f.le⟩
    · rcases List.mem_append.mp hp with hp | hp
      · exact f.y.st p hp
      · rw [List.mem_singleton.mp hp]; exact hb
    · rw [ek]
      exact nd_snoc f.nd c
    · rcases List.mem_append.mp hp with hp | hp
      · exact f.tr p hp
      · rw [List.mem_singleton.mp hp]
    · rw [ek, List.mem_append, List.mem_singleton, f.ks t, hk t]
theorem sc_behind : FnScope ["layer", "rows", "found", "state", "place", "further"] ["layer", "rows"] (defScope s_behind) := ⟨rfl, rfl, rfl, by decide +kernel, rfl, by decide +kernel, by decide +kernel⟩
theorem ok_behind {fa cBadLine cUnknown cTwice cNotNow cTooMuch cDry cOver cNowhere cBusy cNoHeap cNoPrinter cGoesRound cNoWay cHallError : Addr} {fd : FuncData} (F : Fun K "behind" "behind" s_behind fa fd) (T : Txt K mg cBadLine cUnknown cTwice cNotNow cTooMuch cDry cOver cNowhere cBusy cNoHeap cNoPrinter cGoesRound cNoWay cHallError) (D_moves : Dfn P w K mg base 1 "moves" ["state", "rows"] (sp_moves K)) :
    FnOk P w K mg base CX0 2 fa fd ["layer", "rows"] (sp_behind K) := by
  refine F.ok sc_behind (fun vs H Q E h => ?_) (fun cdv A outer s H vs Q E hr h => ?_)
  · obtain ⟨l, r, ss, rows, m, rfl, _⟩ := h
    rfl
  obtain ⟨l, r, ss, rows, m, rfl, ⟨bs, hl, rel⟩, hR, lr, hw, lm, q⟩ := h
  have hu64 := hr.units
  have lbs : bs.length = ss.length := Paired.length rel
  have sz : ∀ n : Nat, n ≤ 200000 → n < sizeLine := fun n h => by rw [sizeLine_eq]; omega
  refine ⟨_, (pss_cons (ps_set (i := 2) sc_behind.nd rfl (by first | exact Or.inl rfl | exact Or.inr rfl) (pe_nnew (P := P) (w := w) rfl rfl))
  (pss_cons (ps_for PassesOwn.never rfl (pi_list (pv 0)) (pg_name (i := 3) sc_behind.nd rfl (by first | exact Or.inl rfl | exact Or.inr rfl))
  (pss_one (ps_for PassesOwn.never rfl (pi_list (pe_callD D_moves (hr.mono (by decide)) rfl (pa_cons (pv 3) (pa_cons (pv 1) pa_nil)))) (pg_tup rfl (pgs_cons (pg_name (i := 4) sc_behind.nd rfl (by first | exact Or.inl rfl | exact Or.inr rfl)) (pgs_cons (pg_name (i := 5) sc_behind.nd rfl (by first | exact Or.inl rfl | exact Or.inr rfl)) pgs_nil)))
  (pss_one (ps_nput (P := P) (w := w) rfl rfl hu64 (pv 2) (pv 5) pe_bl rfl)))))
  (pss_one (ps_ret (pe_callTy (call_listN (P := P) (w := w) rfl rfl rfl) rfl T.list bt_list (pa_cons (pv 2) pa_nil)))))), ?_⟩
  intro D nD
  have s1 := same_new nD (ND P w D [])
  have F0 : FnD P w (upd H D (ND P w D [])) D [] (fun t => ∃ s ∈ ss.take 0, ∃ u ∈ nexts rows s, u.2 = t) 0 := ⟨⟨upd_same, fun p hp => absurd hp List.not_mem_nil⟩, List.nodup_nil, fun p hp => absurd hp List.not_mem_nil, fun t => ⟨fun z => absurd z List.not_mem_nil, fun ⟨s, hs, _⟩ => absurd hs List.not_mem_nil⟩, Nat.le_refl _⟩
  generalize upd H D (ND P w D []) = H1 at s1 F0 ⊢
  refine ⟨_, rfl, l, rfl, ⟨_, SqL.of (s1 _ _ hl)⟩, for_list (K := K) (a := l) (xs := bs.map V.ref) (fun i σ G => Same H G ∧ (∃ ys, FnD P w G D ys (fun t => ∃ s ∈ ss.take i, ∃ u ∈ nexts rows s, u.2 = t) (i * m)) ∧ ∃ v1 v2 v3 : Option V, σ = [some (.ref l), some (.ref r), some (.ref D), v1, v2, v3]) ⟨s1, ⟨[], by rw [Nat.zero_mul]; exact F0⟩, _, _, _, rfl⟩ (fun i σ G _ z => SqL.of (z.1 _ _ hl)) (fun i x σ G hx z => ?_) (fun σ G z => ?_)⟩
  · obtain ⟨sm, ⟨ys, F⟩, v1, v2, v3, rfl⟩ := z
    rw [List.getElem?_map] at hx
    obtain ⟨b, hb, rfl⟩ := Option.map_eq_some_iff.mp hx
    obtain ⟨s, hs, bst⟩ := paired_at' rel hb
    have li : i < ss.length := (List.getElem?_eq_some_iff.mp hs).1
    obtain ⟨wf, nl⟩ := hw s (List.mem_of_getElem? hs)
    have tk := take_succ hs
    have im : i * m + m ≤ ss.length * m := by
      rw [← Nat.succ_mul]
      exact Nat.mul_le_mul_right _ li
    refine ⟨_, rfl, _, rfl, b, r, s, rows, rfl, bst.tp (tpS sm), hR.same sm, wf, lr, fun ml G2 s2 nm M => ?_⟩
    obtain ⟨ms, hm, rm⟩ := id M
    have lms : ms.length = (nexts rows s).length := Paired.length rm
    have F2 := F.same s2
    have nlD : ml ≠ D := fun z => by
      have := F.y.at_
      rw [← z, nm] at this
      cases this
    refine ⟨ml, rfl, ⟨_, SqL.of hm⟩, for_list (K := K) (a := ml) (xs := ms.map V.ref) (fun j σ G' => KeptBut D G2 G' ∧ (∃ ys, FnD P w G' D ys (fun t => (∃ s ∈ ss.take i, ∃ u ∈ nexts rows s, u.2 = t) ∨ ∃ u ∈ (nexts rows s).take j, u.2 = t) (i * m + j)) ∧ ∃ v2 v3 : Option V, σ = [some (.ref l), some (.ref r), some (.ref D), some (.ref b), v2, v3]) ⟨fun _ _ _ e => e, ⟨ys, F2.y, F2.nd, F2.tr, fun t => ?_, F2.le⟩, _, _, rfl⟩ (fun j σ G' _ z => SqL.of (z.1 _ _ nlD hm)) (fun j x σ G' hx z => ?_) (fun σ G' z => ?_)⟩
    · rw [F2.ks t]
      constructor
      · exact .inl
      · rintro (h | ⟨u, hu, _⟩)
        · exact h
        · cases hu
    · obtain ⟨kb, ⟨zs, F3⟩, v2, v3, rfl⟩ := z
      rw [List.getElem?_map] at hx
      obtain ⟨mv, hmv, rfl⟩ := Option.map_eq_some_iff.mp hx
      obtain ⟨u, hu, b2, hm2, hst⟩ := paired_at' rm hmv
      have lj : j < (nexts rows s).length := (List.getElem?_eq_some_iff.mp hu).1
      have tkj := take_succ hu
      have tp : Tp G2 G' := fun c ys e => kb c _ (fun z => by
        rw [z, F2.y.at_] at e
        injection e with e
        exact nd_tup ys e) e
      refine ⟨mv, _, rfl, SqT.of (tp _ _ hm2), rfl, _, _, rfl, _, _, rfl, rfl, ?_⟩
      obtain ⟨ws, e1, F4⟩ := F3.put (hst.tp tp) (keys' := fun t => (∃ s ∈ ss.take i, ∃ u ∈ nexts rows s, u.2 = t) ∨ ∃ u ∈ (nexts rows s).take (j + 1), u.2 = t) (fun t => by
        rw [tkj]
        constructor
        · rintro (h | ⟨x, hx, e⟩)
          · exact .inl (.inl h)
          · rcases List.mem_append.mp hx with hx | hx
            · exact .inl (.inr ⟨x, hx, e⟩)
            · rw [List.mem_singleton.mp hx] at e
              exact .inr e.symm
        · rintro ((h | ⟨x, hx, e⟩) | e)
          · exact .inl h
          · exact .inr ⟨x, List.mem_append_left _ hx, e⟩
          · exact .inr ⟨u, List.mem_append_right _ (.head _), e.symm⟩)
      refine ⟨_, rfl, _, rfl, D, b2, _, _, rfl, rfl, F3.y.at_, F3.y.na, (hst.tp tp).nk, ?_, ?_⟩
      · rw [ndx_len]
        have := F3.le
        exact sz _ (by omega)
      · rw [e1]
        exact ⟨fun c o nc e => by rw [upd_ne nc]; exact kb c o nc e, ⟨ws, F4⟩, _, _, rfl⟩
    · obtain ⟨kb, ⟨zs, F3⟩, v2, v3, rfl⟩ := z
      rw [List.length_map, lms, List.take_of_length_le (Nat.le_refl _)] at F3
      have nh : ∀ c o, H c = some o → c ≠ D := fun c o e => ne_of_none e nD
      refine ⟨fun c o e => kb c o (nh c o e) (s2 _ _ (sm c o e)), ⟨zs, F3.y, F3.nd, F3.tr, fun t => ?_, ?_⟩, _, _, _, rfl⟩
      · rw [F3.ks t, tk]
        constructor
        · rintro (⟨x, hx, u, hu, e⟩ | ⟨u, hu, e⟩)
          · exact ⟨x, List.mem_append_left _ hx, u, hu, e⟩
          · exact ⟨s, List.mem_append_right _ (.head _), u, hu, e⟩
        · rintro ⟨x, hx, u, hu, e⟩
          rcases List.mem_append.mp hx with hx | hx
          · exact .inl ⟨x, hx, u, hu, e⟩
          · rw [List.mem_singleton.mp hx] at hu
            exact .inr ⟨u, hu, e⟩
      · have := F3.le
        rw [Nat.succ_mul]
        omega
  · obtain ⟨sm, ⟨ys, F⟩, v1, v2, v3, rfl⟩ := z
    rw [List.length_map, lbs, List.take_of_length_le (Nat.le_refl _)] at F
    refine ⟨_, rfl, D, _, rfl, F.y.na, fun l' nl' => ?_⟩
    have s9 := same_new nl' (.lst ((ndx ys).map fun x => V.ref x.2.1))
    refine q l' _ (keysY ys) (sm.trans s9) (sm.free nl') ⟨ys.map (·.2.1), ?_, ?_⟩ F.nd F.ks ?_
    · rw [upd_same]
      unfold ndx
      rw [List.map_map, List.map_map]
      rfl
    · exact paired_map _ _ ys fun p hp => (F.y.st p hp).tp (tpS s9)
    · unfold keysY
      rw [List.length_map]
      exact F.le
end
end My
namespace My
open PySem L2
open Blk (sg sg_inj sg_app)
section
variable {P : Program} {w : World} {K : PySem.W.Frag} {mg : Str → Option Value} {base : Heap}
structure LyI (rows : Rw) (f : SS) (k : Nat) (T ss : List SS) : Prop where
  a : ∀ s ∈ ss, Wf rows s ∧ Reach rows f s ∧ remD rows s + k = remD rows f
  nd : ss.Nodup
  b : ∀ s ∈ T, Wf rows s ∧ Reach rows f s ∧ remD rows f < remD rows s + k
  nT : T.Nodup
  pw : T.Pairwise fun a b => remD rows b ≤ remD rows a
  cl : ∀ s ∈ T, ∀ t ∈ nexts rows s, t.2 ∈ T ∨ t.2 ∈ ss
  fs : f ∈ T ∨ f ∈ ss
  lT : T.length ≤ k * 40320
  ls : ss ≠ [] → ss.length * fac (remD rows f - k) ≤ fac (remD rows f)
theorem fac_self : ∀ n, n ≤ fac n
  | 0 => Nat.zero_le _
  | n + 1 => by
    have := fac_pos n
    show n + 1 ≤ (n + 1) * fac n
    exact Nat.le_mul_of_pos_right _ this
theorem LyI.k_le {rows : Rw} {f : SS} {k : Nat} {T ss : List SS} (y : LyI rows f k T ss) (ne : ss ≠ []) : k ≤ remD rows f := by
  cases ss with
  | nil => exact absurd rfl ne
  | cons s r =>
    have := (y.a s (.head _)).2.2
    omega
theorem LyI.len {rows : Rw} {f : SS} {k : Nat} {T ss : List SS} (y : LyI rows f k T ss) (h8 : remD rows f ≤ 8) : ss.length ≤ 40320 := by
  by_cases ne : ss = []
  · rw [ne]; exact Nat.zero_le _
  · have h1 := y.ls ne
    have h2 := fac_le h8
    have h3 := fac_pos (remD rows f - k)
    have h4 : ss.length * 1 ≤ ss.length * fac (remD rows f - k) := Nat.mul_le_mul_left _ h3
    omega
theorem LyI.step {rows : Rw} {f : SS} {k : Nat} {T ss ss' : List SS} (y : LyI rows f k T ss) (h8 : remD rows f ≤ 8) (ne : ss ≠ []) (nd : ss'.Nodup) (mm : ∀ t, t ∈ ss' ↔ ∃ s ∈ ss, ∃ u ∈ nexts rows s, u.2 = t) (le : ss'.length ≤ ss.length * (remD rows f - k)) : LyI rows f (k + 1) (T ++ ss) ss' where
  a := fun t ht => by
    obtain ⟨s, hs, u, hu, rfl⟩ := (mm t).mp ht
    obtain ⟨w1, w2, w3⟩ := y.a s hs
    have := next_rem w1 hu
    exact ⟨next_wf w1 hu, w2.step hu, by omega⟩
  nd := nd
  b := fun s hs => by
    rcases List.mem_append.mp hs with hs | hs
    · obtain ⟨w1, w2, w3⟩ := y.b s hs
      exact ⟨w1, w2, by omega⟩
    · obtain ⟨w1, w2, w3⟩ := y.a s hs
      exact ⟨w1, w2, by omega⟩
  nT := by
    rw [List.nodup_append]
    refine ⟨y.nT, y.nd, fun a ha b hb e => ?_⟩
    have h1 := (y.b a ha).2.2
    have h2 := (y.a b hb).2.2
    rw [e] at h1
    omega
  pw := by
    rw [List.pairwise_append]
    refine ⟨y.pw, ?_, fun a ha b hb => ?_⟩
    · refine List.Pairwise.imp_of_mem (R := fun _ _ => True) (fun {a b} ha hb _ => ?_) (List.pairwise_of_forall (fun _ _ => trivial))
      have h1 := (y.a a ha).2.2
      have h2 := (y.a b hb).2.2
      omega
    · have h1 := (y.b a ha).2.2
      have h2 := (y.a b hb).2.2
      omega
  cl := fun s hs t ht => by
    rcases List.mem_append.mp hs with hs | hs
    · rcases y.cl s hs t ht with h | h
      · exact .inl (List.mem_append_left _ h)
      · exact .inl (List.mem_append_right _ h)
    · exact .inr ((mm t.2).mpr ⟨s, hs, t, ht, rfl⟩)
  fs := .inl (y.fs.elim (List.mem_append_left _) (List.mem_append_right _))
  lT := by
    rw [List.length_append]
    have h1 := y.lT
    have h2 := y.len h8
    rw [Nat.succ_mul]
    omega
  ls := fun ne' => by
    have kl := y.k_le ne
    have h1 := y.ls ne
    have pos : 1 ≤ remD rows f - k := by
      cases e : remD rows f - k with
      | zero =>
        rw [e, Nat.mul_zero] at le
        cases ss' with
        | nil => exact absurd rfl ne'
        | cons a b => exact absurd le (by simp)
      | succ n => exact Nat.succ_le_succ (Nat.zero_le _)
    obtain ⟨n, hn⟩ : ∃ n, remD rows f - k = n + 1 := ⟨remD rows f - k - 1, by omega⟩
    rw [hn] at h1 le
    rw [show remD rows f - (k + 1) = n by omega]
    refine Nat.le_trans (Nat.mul_le_mul_right _ le) ?_
    rw [Nat.mul_assoc]
    exact h1
def sp_reached (_K : PySem.W.Frag) : Sp := fun vs H Q _ => ∃ (b r : Addr) (f : SS) (rows : Rw), vs = [.ref b, .ref r] ∧ StA H b f ∧ RowsAt H r rows ∧ rows.length ≤ 60 ∧ Wf rows f ∧ remD rows f ≤ 8 ∧ ∀ l H' L, Same H H' → H l = none → StL H' l L → GoodL rows f L → Q (.ref l) H'
theorem sc_reached : FnScope ["first", "rows", "told", "layer"] ["first", "rows"] (defScope s_reached) := ⟨rfl, rfl, rfl, by decide +kernel, rfl, by decide +kernel, by decide +kernel⟩
theorem ok_reached {fa cBadLine cUnknown cTwice cNotNow cTooMuch cDry cOver cNowhere cBusy cNoHeap cNoPrinter cGoesRound cNoWay cHallError : Addr} {fd : FuncData} (F : Fun K "reached" "reached" s_reached fa fd) (T : Txt K mg cBadLine cUnknown cTwice cNotNow cTooMuch cDry cOver cNowhere cBusy cNoHeap cNoPrinter cGoesRound cNoWay cHallError) (D_behind : Dfn P w K mg base 2 "behind" ["layer", "rows"] (sp_behind K)) :
    FnOk P w K mg base CX0 3 fa fd ["first", "rows"] (sp_reached K) := by
  refine F.ok sc_reached (fun vs H Q E h => ?_) (fun cdv A outer s H vs Q E hr h => ?_)
  · obtain ⟨b, r, f, rows, rfl, _⟩ := h
    rfl
  obtain ⟨b, r, f, rows, rfl, hb, hR, lr, wf, h8, q⟩ := h
  have sz : ∀ n : Nat, n ≤ 1000000 → n ≤ sizeLine := fun n h => by rw [sizeLine_eq]; omega
  refine ⟨_, (pss_cons (ps_set (i := 2) sc_reached.nd rfl (by first | exact Or.inl rfl | exact Or.inr rfl) (pe_lst pa_nil))
  (pss_cons (ps_set (i := 3) sc_reached.nd rfl (by first | exact Or.inl rfl | exact Or.inr rfl) (pe_lst (pa_cons (pv 0) pa_nil)))
  (pss_cons (ps_while PassesOwn.never (pt_truth (pv 3) (fun _ => rfl)) (pss_cons (ps_expr (pe_bm PySem.F.plainAttrs_list PySem.F.slot_list_extend PySem.F.type_list_extend mt_extend (pv 2) (pa_cons (pv 3) pa_nil)))
  (pss_one (ps_set (i := 3) sc_reached.nd rfl (by first | exact Or.inl rfl | exact Or.inr rfl) (pe_callD D_behind (hr.mono (by decide)) rfl (pa_cons (pv 3) (pa_cons (pv 1) pa_nil)))))))
  (pss_one (ps_ret (pv 2)))))), ?_⟩
  refine ⟨small (by decide), fun tl ntl => ?_⟩
  have s1 := same_new ntl (.lst [])
  have ht1 : (upd H tl (.lst [])) tl = some (.lst (([] : List Addr).map V.ref)) := upd_same
  generalize upd H tl (.lst []) = H1 at s1 ht1 ⊢
  refine ⟨_, rfl, small (by show 1 ≤ 1000; decide), fun ly nly => ?_⟩
  have s2 := same_new nly (.lst [V.ref b])
  have hy2 : (upd H1 ly (.lst [V.ref b])) ly = some (.lst ([b].map V.ref)) := upd_same
  have ht2 := s2 _ _ ht1
  generalize upd H1 ly (.lst [V.ref b]) = H2 at s2 hy2 ht2 ⊢
  refine ⟨fun m σ G => ∃ k T ss ly, m + k = 10 ∧ k ≤ 9 ∧ Same H G ∧ StL G tl T ∧ StL G ly ss ∧ ly ≠ tl ∧ LyI rows f k T ss ∧ σ = [some (.ref b), some (.ref r), some (.ref tl), some (.ref ly)], ⟨10, 0, [], [f], ly, rfl, by decide, s1.trans s2, ⟨[], ht2, .nil⟩, ⟨[b], hy2, .cons (hb.tp (tpS (s1.trans s2))) .nil⟩, ?_, ?_, rfl⟩, ?_⟩
  · exact fun z => by rw [z, ht1] at nly; cases nly
  · refine ⟨fun s hs => ?_, List.nodup_cons.mpr ⟨List.not_mem_nil, List.nodup_nil⟩, fun s hs => absurd hs List.not_mem_nil, List.nodup_nil, .nil, fun s hs => absurd hs List.not_mem_nil, .inr (.head _), Nat.zero_le _, fun _ => ?_⟩
    · rw [List.mem_singleton.mp hs]; exact ⟨wf, .here, rfl⟩
    · rw [Nat.sub_zero]; show 1 * _ ≤ _; omega
  rintro m σ G ⟨k, T, ss, ly, mk, k9, sm, ⟨ts, ht, rt⟩, ⟨bs, hy, rb⟩, nyt, Y, rfl⟩
  have lb : bs.length = ss.length := Paired.length rb
  refine ⟨_, rfl, !(bs.map V.ref).isEmpty, .inl ⟨_, SqL.of hy, rfl⟩, ?_⟩
  by_cases e0 : ss = []
  · have be : bs = [] := List.eq_nil_of_length_eq_zero (by rw [lb, e0]; rfl)
    rw [be]
    refine iteF ⟨_, rfl, q tl G T sm ntl ⟨ts, ht, rt⟩ ⟨Y.nT, Y.pw, fun s hs => ⟨(Y.b s hs).1, (Y.b s hs).2.1⟩, ?_, fun s hs t ht => ?_, ?_⟩⟩
    · rcases Y.fs with h | h
      · exact h
      · rw [e0] at h; cases h
    · rcases Y.cl s hs t ht with h | h
      · exact h
      · rw [e0] at h; cases h
    · have := Y.lT
      omega
  · have kl := Y.k_le e0
    have be : (!(bs.map V.ref).isEmpty) = true := by
      cases bs with
      | nil => exact absurd (List.eq_nil_of_length_eq_zero lb.symm) e0
      | cons _ _ => rfl
    rw [be]
    have lT := Y.lT
    have lS := Y.len h8
    refine iteT ⟨fun σ' G' => ∃ T ss ly, Same H G' ∧ StL G' tl T ∧ StL G' ly ss ∧ ly ≠ tl ∧ LyI rows f (k + 1) T ss ∧ σ' = [some (.ref b), some (.ref r), some (.ref tl), some (.ref ly)], fun σ' G' ⟨T, ss, ly, h1, h2, h3, h4, h5, h6⟩ => ⟨m - 1, by omega, k + 1, T, ss, ly, by omega, by omega, h1, h2, h3, h4, h5, h6⟩, ?_⟩
    refine ⟨_, rfl, .inl ⟨rfl, _, SqL.of ht⟩, _, rfl, tl, ly, _, _, rfl, rfl, ht, hy, ?_, ?_⟩
    · rw [List.length_map, List.length_map, Paired.length rt, lb]
      exact sz _ (by omega)
    have tp : Tp G (upd G tl (.lst (ts.map V.ref ++ bs.map V.ref))) := tp_upd ht (by intro ys z; cases z)
    have sm2 := same_on ntl sm (.lst (ts.map V.ref ++ bs.map V.ref))
    have hy3 : (upd G tl (.lst (ts.map V.ref ++ bs.map V.ref))) ly = some (.lst (bs.map V.ref)) := by rw [upd_ne nyt]; exact hy
    have ht3 : (upd G tl (.lst (ts.map V.ref ++ bs.map V.ref))) tl = some (.lst ((ts ++ bs).map V.ref)) := by rw [upd_same, List.map_append]
    have hb3 : StL (upd G tl (.lst (ts.map V.ref ++ bs.map V.ref))) ly ss := ⟨bs, hy3, Paired.mapP rb fun _ _ e => e.tp tp⟩
    have hT3 : StL (upd G tl (.lst (ts.map V.ref ++ bs.map V.ref))) tl (T ++ ss) := ⟨ts ++ bs, ht3, paired_app (Paired.mapP rt fun _ _ e => e.tp tp) (Paired.mapP rb fun _ _ e => e.tp tp)⟩
    generalize upd G tl (.lst (ts.map V.ref ++ bs.map V.ref)) = G2 at tp sm2 hy3 ht3 hb3 hT3 ⊢
    refine ⟨_, rfl, _, rfl, ly, r, ss, rows, remD rows f - k, rfl, hb3, hR.same sm2, lr, fun s hs => ⟨(Y.a s hs).1, ?_⟩, ?_, fun l' G3 ss' s3 nl' L3 nd mm le => ?_⟩
    · have h1 := nexts_le rows s
      have h2 := (Y.a s hs).2.2
      omega
    · have h1 := Y.ls e0
      have h2 := fac_le h8
      have h3 := Nat.mul_le_mul_left ss.length (fac_self (remD rows f - k))
      omega
    · refine ⟨T ++ ss, ss', l', sm2.trans s3, hT3.same s3, L3, fun z => ?_, Y.step h8 e0 nd mm le, rfl⟩
      rw [z, ht3] at nl'
      cases nl'
end
end My
namespace My
open PySem L2
open Blk (sg sg_inj sg_app)
section
variable {P : Program} {w : World} {K : PySem.W.Frag} {mg : Str → Option Value} {base : Heap}
theorem StA.inj {H : Hp} {b : Addr} {s t : SS} (x : StA H b s) (y : StA H b t) : s = t := nkOf_inj (x.nk.inj y.nk)
theorem MvA.inj {H : Hp} {m : Addr} {s t : Nat × SS} (x : MvA H m s) (y : MvA H m t) : s = t := by
  obtain ⟨b, h1, h2⟩ := x
  obtain ⟨c, g1, g2⟩ := y
  rw [h1] at g1
  injection g1 with g1
  injection g1 with g1
  obtain ⟨q1, q2⟩ := List.cons.inj g1
  obtain ⟨q3, _⟩ := List.cons.inj q2
  injection q1 with q1
  injection q3 with q3
  subst q3
  exact Prod.ext (by omega) (h2.inj g2)
def PrY (rows : Rw) (ys : YS) : Prop := ∀ p ∈ ys, p.2.2 = .int (price rows p.1)
theorem pr_lk {rows : Rw} {ys : YS} {s : SS} (h : PrY rows ys) (hs : s ∈ keysY ys) : lkY ys s = some (.int (price rows s)) := by
  obtain ⟨v, e, b, m⟩ := lkY_in hs
  rw [e]
  exact congrArg some (h _ m)
theorem later {rows : Rw} {f : SS} {L : List SS} (g : GoodL rows f L) {i : Nat} {s : SS} {t : Nat × SS} (hs : L.reverse[i]? = some s) (ht : t ∈ nexts rows s) : t.2 ∈ L.reverse.take i := by
  have li : i < L.reverse.length := (List.getElem?_eq_some_iff.mp hs).1
  have ll : L.reverse.length = L.length := List.length_reverse
  rw [List.getElem?_reverse (by omega)] at hs
  have sL : s ∈ L := List.mem_of_getElem? hs
  have tL := g.cl s sL t ht
  have rm := next_rem (g.wf s sL).1 ht
  obtain ⟨j, hj⟩ := List.mem_iff_getElem?.mp tL
  have lj := (List.getElem?_eq_some_iff.mp hj).1
  have e1 := (List.getElem?_eq_some_iff.mp hs).2
  have e2 := (List.getElem?_eq_some_iff.mp hj).2
  have jl : L.length - 1 - i < j := by
    by_cases c : L.length - 1 - i < j
    · exact c
    · exfalso
      by_cases c2 : j = L.length - 1 - i
      · subst c2
        rw [e1] at e2
        rw [← e2] at rm
        omega
      · have := List.pairwise_iff_getElem.mp g.pw j (L.length - 1 - i) lj (by omega) (by omega)
        rw [e1, e2] at this
        omega
  rw [List.mem_take_iff_getElem]
  refine ⟨L.length - 1 - j, by omega, ?_⟩
  rw [List.getElem_reverse]
  have : L.length - 1 - (L.length - 1 - j) = j := by omega
  rw [← e2]
  congr 1
theorem ways_of {H0 : Hp} {ms : List Addr} {ts : List (Nat × SS)} (rm : Paired (MvA H0) ms ts) {us : List V} {F : Nat × SS → Int} (hl : us.length = (ms.map V.ref).length) (hg : ∀ (i : Nat) x y, (ms.map V.ref)[i]? = some x → us[i]? = some y → ∃ m t, x = .ref m ∧ MvA H0 m t ∧ y = .int (F t)) : us = (ts.map F).map V.int := by
  have lt := Paired.length rm
  rw [List.length_map] at hl
  refine List.ext_getElem? fun i => ?_
  rw [List.getElem?_map, List.getElem?_map]
  cases e : ts[i]? with
  | none =>
    rw [List.getElem?_eq_none (by have := List.getElem?_eq_none_iff.mp e; omega)]
    rfl
  | some t =>
    obtain ⟨m, hm, mt⟩ := paired_at rm e
    have li := (List.getElem?_eq_some_iff.mp e).1
    obtain ⟨y, hy⟩ : ∃ y, us[i]? = some y := ⟨us[i], List.getElem?_eq_getElem (by omega)⟩
    obtain ⟨m', t', e1, mt', rfl⟩ := hg i (.ref m) y (by rw [List.getElem?_map, hm]; rfl) hy
    injection e1 with e1
    subst e1
    rw [hy, mt.inj mt']
    rfl
def sp_priced (P : Program) (w : World) : Sp := fun vs H Q _ => ∃ (l r : Addr) (f : SS) (L : List SS) (rows : Rw), vs = [.ref l, .ref r] ∧ StL H l L ∧ RowsAt H r rows ∧ rows.length ≤ 60 ∧ GoodL rows f L ∧ ∀ D H' ys, Same H H' → H D = none → YAt P w H' D ys → keysY ys = L.reverse → PrY rows ys → Q (.ref D) H'
theorem sc_priced : FnScope ["states", "rows", "prices", "state", "ways"] ["states", "rows"] (defScope s_priced) := ⟨rfl, rfl, rfl, by decide +kernel, rfl, by decide +kernel, by decide +kernel⟩
theorem ok_priced {fa cBadLine cUnknown cTwice cNotNow cTooMuch cDry cOver cNowhere cBusy cNoHeap cNoPrinter cGoesRound cNoWay cHallError : Addr} {fd : FuncData} (F : Fun K "priced" "priced" s_priced fa fd) (T : Txt K mg cBadLine cUnknown cTwice cNotNow cTooMuch cDry cOver cNowhere cBusy cNoHeap cNoPrinter cGoesRound cNoWay cHallError) (D_dearness : Dfn P w K mg base 2 "dearness" ["state", "move", "prices"] (sp_dearness P w)) (D_moves : Dfn P w K mg base 1 "moves" ["state", "rows"] (sp_moves K)) :
    FnOk P w K mg base CX0 3 fa fd ["states", "rows"] (sp_priced P w) := by
  refine F.ok sc_priced (fun vs H Q E h => ?_) (fun cdv A outer s H vs Q E hr h => ?_)
  · obtain ⟨l, r, f, L, rows, rfl, _⟩ := h
    rfl
  obtain ⟨l, r, f, L, rows, rfl, ⟨bs, hl, rb⟩, hR, lr, g, q⟩ := h
  have hu64 := hr.units
  have lb : bs.length = L.length := Paired.length rb
  have sz : ∀ n : Nat, n ≤ 1000000 → n < sizeLine := fun n h => by rw [sizeLine_eq]; omega
  refine ⟨_, (pss_cons (ps_set (i := 2) sc_priced.nd rfl (by first | exact Or.inl rfl | exact Or.inr rfl) (pe_nnew (P := P) (w := w) rfl rfl))
  (pss_cons (ps_for PassesOwn.never rfl (pi_rev rfl T.reversed (pa_cons (pv 0) pa_nil)) (pg_name (i := 3) sc_priced.nd rfl (by first | exact Or.inl rfl | exact Or.inr rfl))
  (pss_cons (ps_comp (i := 4) (frees := [("state", 3), ("prices", 2)]) ⟨by decide +kernel, rfl, rfl, by decide +kernel, ⟨⟨rfl, rfl, rfl, by decide +kernel⟩, ⟨⟨rfl, rfl, rfl, by decide +kernel⟩, trivial⟩⟩, by decide +kernel, cellsFor_at rfl, rfl⟩ sc_priced.nd rfl rfl rfl (pi_list (pe_callD D_moves (hr.mono (by decide)) rfl (pa_cons (pv 3) (pa_cons (pv 1) pa_nil)))) (fun _ _ _ _ => pifs_nil) (fun _ _ _ _ => by exact (pe_callD D_dearness (hr.mono (by decide)) rfl (pa_cons (pv 1) (pa_cons (pv 0) (pa_cons (pv 2) pa_nil))))))
  (pss_one (ps_nput (P := P) (w := w) rfl rfl hu64 (pv 2) (pv 3) (pe_mindef rfl rfl T.min (pa_cons (pv 4) pa_nil) pe_int) rfl))))
  (pss_one (ps_ret (pv 2))))), ?_⟩
  intro D nD
  have s1 := same_new nD (ND P w D [])
  have Y0 : YAt P w (upd H D (ND P w D [])) D [] := ⟨upd_same, fun p hp => absurd hp List.not_mem_nil⟩
  generalize upd H D (ND P w D []) = H1 at s1 Y0 ⊢
  have lx : (bs.map V.ref).length = L.length := by rw [List.length_map, lb]
  refine ⟨_, rfl, l, _, rfl, SqL.of (s1 _ _ hl), for_rev (K := K) (a := l) (xs := bs.map V.ref) (fun i σ G => Same H G ∧ (∃ ys, YAt P w G D ys ∧ keysY ys = L.reverse.take i ∧ PrY rows ys) ∧ ∃ v1 v2 : Option V, σ = [some (.ref l), some (.ref r), some (.ref D), v1, v2]) ⟨s1, ⟨[], Y0, rfl, fun p hp => absurd hp List.not_mem_nil⟩, _, _, rfl⟩ (fun i σ G _ z => SqL.of (z.1 _ _ hl)) (fun i x σ G hi hx z => ?_) (fun σ G z => ?_)⟩
  · obtain ⟨sm, ⟨ys, Y, ky, py⟩, v1, v2, rfl⟩ := z
    rw [lx] at hx hi
    rw [List.getElem?_map] at hx
    obtain ⟨b, hb, rfl⟩ := Option.map_eq_some_iff.mp hx
    obtain ⟨s, hs, bst⟩ := paired_at' rb hb
    have hsr : L.reverse[i]? = some s := by rw [List.getElem?_reverse hi]; exact hs
    have sL : s ∈ L := List.mem_of_getElem? hs
    have wf := (g.wf s sL).1
    have bstG := bst.tp (tpS sm)
    refine ⟨_, rfl, _, rfl, b, r, s, rows, rfl, bstG, hR.same sm, wf, lr, fun ml G2 s2 nm M => ?_⟩
    obtain ⟨ms, hm, rm⟩ := id M
    have lms : ms.length ≤ 60 := by
      rw [Paired.length rm]
      have := nexts_rows rows s
      omega
    have Y2 := Y.same s2
    have bst2 := bstG.tp (tpS s2)
    refine ⟨ml, rfl, ⟨_, SqL.of hm⟩, ?_⟩
    refine compB_mk (seq_list (SqL.of hm)) (fun x y _ => ∃ m t, x = .ref m ∧ MvA G2 m t ∧ y = .int (chg1 (s.2, t.2.2) + price rows t.2)) (by rw [List.length_map]; exact small1000 (by omega)) (fun x hx' H' R _ r => r) (fun x hx' H' R s3 rr => ?_) (fun W G3 us s3 nW hW hl3 hg => ?_)
    · obtain ⟨m, hmem, rfl⟩ := List.mem_map.mp hx'
      obtain ⟨j, hj⟩ := List.mem_iff_getElem?.mp hmem
      obtain ⟨t, ht, mt⟩ := paired_at' rm hj
      have tin : t.2 ∈ keysY ys := by rw [ky]; exact later g hsr (List.mem_of_getElem? ht)
      refine ⟨_, rfl, _, rfl, _, rfl, b, m, D, s, t, ys, _, rfl, bst2.tp (tpS s3), mt.tp (tpS s3), Y2.same s3, pr_lk py tin, ?_⟩
      exact rr _ _ (Same.refl _) ⟨fun _ => False, fun _ z => z.elim, fun _ _ => ⟨m, t, rfl, mt, rfl⟩⟩
    have eu := ways_of rm hl3 hg
    rw [eu] at hW
    have Y3 := Y2.same s3
    have bst3 := bst2.tp (tpS s3)
    have new : s ∉ keysY ys := by
      rw [ky]
      intro z
      obtain ⟨j, hj, e⟩ := List.mem_take_iff_getElem.mp z
      have nr : L.reverse.Nodup := (List.reverse_perm L).nodup_iff.mpr g.nd
      have e2 := (List.getElem?_eq_some_iff.mp hsr).2
      have := (List.getElem_inj nr).mp (e.trans e2.symm)
      omega
    have fin : ∀ R : St → Hp → Prop, (∀ G', Same H G' → (∃ ys, YAt P w G' D ys ∧ keysY ys = L.reverse.take (i + 1) ∧ PrY rows ys) → R [some (.ref l), some (.ref r), some (.ref D), some (.ref b), some (.ref W)] G') → R [some (.ref l), some (.ref r), some (.ref D), some (.ref b), some (.ref W)] (upd G3 D (ND P w D (upN (ndx ys) (nkOf s) b (.int (price rows s))))) := fun R hR' => by
      rw [up_new new]
      refine hR' _ (same_on nD ((sm.trans s2).trans s3) _) ⟨_, Y3.put fun p hp => ?_, ?_, fun p hp => ?_⟩
      · rcases List.mem_append.mp hp with hp | hp
        · exact Y3.st p hp
        · rw [List.mem_singleton.mp hp]; exact bst3
      · unfold keysY at ky ⊢
        rw [List.map_append, ky, take_succ hsr]
        rfl
      · rcases List.mem_append.mp hp with hp | hp
        · exact py p hp
        · rw [List.mem_singleton.mp hp]
    have pe := price_eq wf
    refine ⟨_, rfl, _, W, _, rfl, rfl, SqL.of hW, fun e0 => ?_, fun m hm' hk => ?_⟩
    · have ev : price rows s = 0 := by rw [pe, e0]; rfl
      refine ⟨_, rfl, _, rfl, D, b, _, _, rfl, rfl, Y3.at_, Y3.na, bst3.nk, ?_, ?_⟩
      · rw [ndx_len]
        have := congrArg List.length ky
        unfold keysY at this
        rw [List.length_map, List.length_take] at this
        have := g.le
        exact sz _ (by omega)
      · rw [← ev]
        exact fin _ fun G' h1 h2 => ⟨h1, h2, _, _, rfl⟩
    · have ev : m = price rows s := by rw [pe]; exact minD_is hm' hk
      refine ⟨_, rfl, _, rfl, D, b, _, _, rfl, rfl, Y3.at_, Y3.na, bst3.nk, ?_, ?_⟩
      · rw [ndx_len]
        have := congrArg List.length ky
        unfold keysY at this
        rw [List.length_map, List.length_take] at this
        have := g.le
        exact sz _ (by omega)
      · rw [ev]
        exact fin _ fun G' h1 h2 => ⟨h1, h2, _, _, rfl⟩
  · obtain ⟨sm, ⟨ys, Y, ky, py⟩, v1, v2, rfl⟩ := z
    rw [lx, List.take_of_length_le (by rw [List.length_reverse]; exact Nat.le_refl _)] at ky
    exact ⟨_, rfl, q D G ys sm nD Y ky py⟩
end
end My
namespace My
open PySem L2
open Blk (sg sg_inj sg_app)
section
variable {P : Program} {w : World} {K : PySem.W.Frag} {mg : Str → Option Value} {base : Heap}
theorem build_of {τ : Type} {R : Addr → τ → Prop} : ∀ (us : List V) (ts : List τ), us.length = ts.length → (∀ (i : Nat) y t, us[i]? = some y → ts[i]? = some t → ∃ a, y = .ref a ∧ R a t) → ∃ ps : List (Addr × τ), us = ps.map (fun p => V.ref p.1) ∧ ts = ps.map (·.2) ∧ ∀ p ∈ ps, R p.1 p.2
  | [], [], _, _ => ⟨[], rfl, rfl, fun p hp => absurd hp List.not_mem_nil⟩
  | [], _ :: _, h, _ => by cases h
  | _ :: _, [], h, _ => by cases h
  | y :: us, t :: ts, h, hg => by
    obtain ⟨ps, e1, e2, e3⟩ := build_of us ts (Nat.succ.inj h) fun i y t h1 h2 => hg (i + 1) y t h1 h2
    obtain ⟨a, rfl, r⟩ := hg 0 y t rfl rfl
    refine ⟨(a, t) :: ps, by rw [List.map_cons, ← e1], by rw [List.map_cons, ← e2], fun p hp => ?_⟩
    rcases List.mem_cons.mp hp with rfl | hp
    · exact r
    · exact e3 p hp
theorem nexts_nd (rows : Rw) (s : SS) : ((nexts rows s).map (·.1)).Nodup := by
  have fm : ∀ l : List Nat, ∀ i ∈ (l.filterMap (stepAt rows s)).map (·.1), i ∈ l := fun l i hi => by
    obtain ⟨t, ht, rfl⟩ := List.mem_map.mp hi
    obtain ⟨j, hj, e⟩ := List.mem_filterMap.mp ht
    unfold stepAt at e
    split at e
    · obtain rfl := Option.some.inj e
      exact hj
    · cases e
  have go : ∀ l : List Nat, l.Nodup → ((l.filterMap (stepAt rows s)).map (·.1)).Nodup := by
    intro l
    induction l with
    | nil => intro _; exact List.nodup_nil
    | cons i l ih =>
      intro nd
      rw [List.nodup_cons] at nd
      cases e : stepAt rows s i with
      | none => rw [List.filterMap_cons_none e]; exact ih nd.2
      | some t =>
        rw [List.filterMap_cons_some e, List.map_cons, List.nodup_cons]
        refine ⟨fun z => nd.1 ?_, ih nd.2⟩
        have et : t.1 = i := by
          unfold stepAt at e
          split at e
          · obtain rfl := Option.some.inj e
            rfl
          · cases e
        rw [← et]
        exact fm l _ z
  exact go _ List.nodup_range
inductive Path (rows : Rw) (f : SS) : List Nat → SS → Int → Prop
  | here : Path rows f [] f 0
  | step {ns : List Nat} {s : SS} {c : Int} {t : Nat × SS} : Path rows f ns s c → t ∈ nexts rows s → Path rows f (ns ++ [t.1]) t.2 (c + chg1 (s.2, t.2.2))
theorem Path.len {rows : Rw} {f : SS} (w : Wf rows f) {ns : List Nat} {s : SS} {c : Int} (p : Path rows f ns s c) : Wf rows s ∧ ns.length + remD rows s = remD rows f := by
  induction p with
  | here => exact ⟨w, by rw [List.length_nil, Nat.zero_add]⟩
  | step _ ht ih =>
    have := next_rem ih.1 ht
    exact ⟨next_wf ih.1 ht, by rw [List.length_append]; show _ + 1 + _ = _; omega⟩
theorem Path.reach {rows : Rw} {f : SS} {ns : List Nat} {s : SS} {c : Int} (p : Path rows f ns s c) : Reach rows f s := by
  induction p with
  | here => exact .here
  | step _ ht ih => exact .step ih ht
def BestP (rows : Rw) (f : SS) (ns : List Nat) : Prop := ∃ s, Path rows f ns s (price rows f) ∧ nexts rows s = []
def nsV (ns : List Nat) : List V := ns.map fun n : Nat => V.int (n : Int)
def sp_best_order (P : Program) (w : World) : Sp := fun vs H Q _ => ∃ (b r D : Addr) (f : SS) (L : List SS) (rows : Rw) (ys : YS), vs = [.ref b, .ref r, .ref D] ∧ StA H b f ∧ RowsAt H r rows ∧ rows.length ≤ 60 ∧ Wf rows f ∧ remD rows f ≤ 8 ∧ GoodL rows f L ∧ YAt P w H D ys ∧ keysY ys = L.reverse ∧ PrY rows ys ∧
  ∀ l H' ns, Same H H' → H l = none → H' l = some (.lst (nsV ns)) → ns.length ≤ 8 → BestP rows f ns → Q (.ref l) H'
theorem sc_best_order : FnScope ["first", "rows", "prices", "told", "state", "ways", "best"] ["first", "rows", "prices"] (defScope s_best_order) := ⟨rfl, rfl, rfl, by decide +kernel, rfl, by decide +kernel, by decide +kernel⟩
theorem ok_best_order {fa cBadLine cUnknown cTwice cNotNow cTooMuch cDry cOver cNowhere cBusy cNoHeap cNoPrinter cGoesRound cNoWay cHallError : Addr} {fd : FuncData} (F : Fun K "best_order" "best_order" s_best_order fa fd) (T : Txt K mg cBadLine cUnknown cTwice cNotNow cTooMuch cDry cOver cNowhere cBusy cNoHeap cNoPrinter cGoesRound cNoWay cHallError) (D_moves : Dfn P w K mg base 1 "moves" ["state", "rows"] (sp_moves K)) (D_dearness : Dfn P w K mg base 2 "dearness" ["state", "move", "prices"] (sp_dearness P w)) :
    FnOk P w K mg base CX0 3 fa fd ["first", "rows", "prices"] (sp_best_order P w) := by
  refine F.ok sc_best_order (fun vs H Q E h => ?_) (fun cdv A outer s H vs Q E hr h => ?_)
  · obtain ⟨b, r, D, f, L, rows, ys, rfl, _⟩ := h
    rfl
  obtain ⟨b, r, D, f, L, rows, ys, rfl, hb, hR, lr, wf, h8, g, Y, ky, py, q⟩ := h
  have hu64 := hr.units
  have inY : ∀ s, Reach rows f s → s ∈ keysY ys := fun s hs => by rw [ky, List.mem_reverse]; exact g.all hs
  refine ⟨_, (pss_cons (ps_set (i := 3) sc_best_order.nd rfl (by first | exact Or.inl rfl | exact Or.inr rfl) (pe_lst pa_nil))
  (pss_cons (ps_set (i := 4) sc_best_order.nd rfl (by first | exact Or.inl rfl | exact Or.inr rfl) (pv 0))
  (pss_cons (ps_set (i := 5) sc_best_order.nd rfl (by first | exact Or.inl rfl | exact Or.inr rfl) (pe_callD D_moves (hr.mono (by decide)) rfl (pa_cons (pv 4) (pa_cons (pv 1) pa_nil))))
  (pss_cons (ps_while PassesOwn.never (pt_truth (pv 5) (fun _ => rfl)) (pss_cons (ps_set (i := 6) sc_best_order.nd rfl (by first | exact Or.inl rfl | exact Or.inr rfl) (pe_ix ix_tup (pe_callB (call_minMv rfl hu64) rfl T.min bt_min (pa_cons (pe_comp (frees := [("state", 4), ("prices", 2)]) ⟨by decide +kernel, rfl, rfl, by decide +kernel, ⟨⟨rfl, rfl, rfl, by decide +kernel⟩, ⟨⟨rfl, rfl, rfl, by decide +kernel⟩, trivial⟩⟩, by decide +kernel, cellsFor_at rfl, rfl⟩ rfl (pi_list (pv 5)) (fun _ _ _ _ => pifs_nil) (fun _ _ _ _ => by exact (pe_tup (pa_cons (pe_callD D_dearness (hr.mono (by decide)) rfl (pa_cons (pv 1) (pa_cons (pv 0) (pa_cons (pv 2) pa_nil)))) (pa_cons (pv 0) pa_nil))))) pa_nil)) pe_int (fun _ _ => rfl)))
  (pss_cons (ps_expr (pe_bm PySem.F.plainAttrs_list PySem.F.slot_list_append PySem.F.type_list_append mt_append (pv 3) (pa_cons (pe_ix ix_tup (pv 6) pe_int (fun _ _ => rfl)) pa_nil)))
  (pss_cons (ps_set (i := 4) sc_best_order.nd rfl (by first | exact Or.inl rfl | exact Or.inr rfl) (pe_ix ix_tup (pv 6) pe_int (fun _ _ => rfl)))
  (pss_one (ps_set (i := 5) sc_best_order.nd rfl (by first | exact Or.inl rfl | exact Or.inr rfl) (pe_callD D_moves (hr.mono (by decide)) rfl (pa_cons (pv 4) (pa_cons (pv 1) pa_nil)))))))))
  (pss_one (ps_ret (pv 3))))))), ?_⟩
  refine ⟨small (by decide), fun tl ntl => ?_⟩
  have s1 := same_new ntl (.lst [])
  have ht1 : (upd H tl (.lst [])) tl = some (.lst (nsV [])) := upd_same
  generalize upd H tl (.lst []) = H1 at s1 ht1 ⊢
  refine ⟨_, rfl, _, rfl, _, rfl, b, r, f, rows, rfl, hb.tp (tpS s1), hR.same s1, wf, lr, fun ml H2 s2 nm M => ?_⟩
  refine ⟨fun m σ G => ∃ ns s c sb ml, m = remD rows s ∧ Same H G ∧ G tl = some (.lst (nsV ns)) ∧ StA G sb s ∧ MvL G ml (nexts rows s) ∧ ml ≠ tl ∧ Path rows f ns s c ∧ c + price rows s = price rows f ∧ ∃ v6, σ = [some (.ref b), some (.ref r), some (.ref D), some (.ref tl), some (.ref sb), some (.ref ml), v6], ⟨remD rows f, [], f, 0, b, ml, rfl, s1.trans s2, s2 _ _ ht1, hb.tp (tpS (s1.trans s2)), M, fun z => ?_, .here, by omega, _, rfl⟩, ?_⟩
  · rw [z, ht1] at nm
    cases nm
  rintro m σ G ⟨ns, s, c, sb, ml, rfl, sm, ht, hs, ⟨ms, hm, rm⟩, nmt, pth, ec, v6, rfl⟩
  obtain ⟨ws, lns⟩ := pth.len wf
  have lm : ms.length = (nexts rows s).length := Paired.length rm
  have lms : ms.length ≤ 60 := by
    have := nexts_rows rows s
    omega
  refine ⟨_, rfl, !(ms.map V.ref).isEmpty, .inl ⟨_, SqL.of hm, rfl⟩, ?_⟩
  have pe := price_eq ws
  by_cases e0 : nexts rows s = []
  · have me : ms = [] := List.eq_nil_of_length_eq_zero (by rw [lm, e0]; rfl)
    rw [me]
    refine iteF ⟨_, rfl, q tl G ns sm ntl ht (by omega) ⟨s, ?_, e0⟩⟩
    have : price rows s = 0 := by rw [pe, e0]; rfl
    rw [this] at ec
    rw [show price rows f = c by omega]
    exact pth
  · have me : (!(ms.map V.ref).isEmpty) = true := by
      cases ms with
      | nil => exact absurd (List.eq_nil_of_length_eq_zero lm.symm) e0
      | cons _ _ => rfl
    rw [me]
    have YG := Y.same sm
    have rs := pth.reach
    refine iteT ⟨fun σ' G' => ∃ ns' s' c' sb' ml', remD rows s' + 1 = remD rows s ∧ Same H G' ∧ G' tl = some (.lst (nsV ns')) ∧ StA G' sb' s' ∧ MvL G' ml' (nexts rows s') ∧ ml' ≠ tl ∧ Path rows f ns' s' c' ∧ c' + price rows s' = price rows f ∧ ∃ v6, σ' = [some (.ref b), some (.ref r), some (.ref D), some (.ref tl), some (.ref sb'), some (.ref ml'), v6], fun σ' G' ⟨ns', s', c', sb', ml', h0, h1, h2, h3, h4, h5, h6, h7, h8'⟩ => ⟨remD rows s', by omega, ns', s', c', sb', ml', rfl, h1, h2, h3, h4, h5, h6, h7, h8'⟩, ?_⟩
    refine ⟨_, rfl, ml, rfl, ⟨_, SqL.of hm⟩, ?_⟩
    refine compB_mk (seq_list (SqL.of hm)) (fun x y H3 => ∃ m t a, x = .ref m ∧ MvA G m t ∧ y = .ref a ∧ H3 a = some (.tup [.int (chg1 (s.2, t.2.2) + price rows t.2), .ref m])) (by rw [List.length_map]; exact small1000 (by omega)) (fun x hx' H' R _ r => r) (fun x hx' H' R s3 rr => ?_) (fun W G3 us s3 nW hW hl3 hg => ?_)
    · obtain ⟨m, hmem, rfl⟩ := List.mem_map.mp hx'
      obtain ⟨j, hj⟩ := List.mem_iff_getElem?.mp hmem
      obtain ⟨t, ht', mt⟩ := paired_at' rm hj
      have tin : t.2 ∈ keysY ys := inY _ (.step rs (List.mem_of_getElem? ht'))
      refine ⟨_, rfl, _, rfl, _, rfl, sb, m, D, s, t, ys, _, rfl, hs.tp (tpS s3), mt.tp (tpS s3), YG.same s3, pr_lk py tin, _, rfl, small (by show 2 ≤ 1000; decide), fun a na => ?_⟩
      exact rr _ _ (same_new na _) ⟨fun z => z = a, fun z ez => by rw [ez]; exact ⟨na, _, upd_same⟩, fun H3 h3 => ⟨m, t, a, rfl, mt, rfl, by rw [h3 a rfl, upd_same]⟩⟩
    have lu : us.length = (nexts rows s).length := by rw [hl3, List.length_map, lm]
    obtain ⟨ps, e1, e2, e3⟩ := build_of (R := fun a t => ∃ m, G3 a = some (.tup [.int (chg1 (s.2, t.2.2) + price rows t.2), .ref m]) ∧ MvA G m t) us (nexts rows s) lu (fun i y t hy ht' => by
      obtain ⟨m, hm', mt⟩ := paired_at rm ht'
      obtain ⟨m2, t2, a, ex, mt2, rfl, h3⟩ := hg i (.ref m) y (by rw [List.getElem?_map, hm']; rfl) hy
      injection ex with ex
      subst ex
      rw [← mt.inj mt2] at h3
      exact ⟨a, rfl, m, h3, mt⟩)
    have lps : ps.length = (nexts rows s).length := by rw [e2, List.length_map]
    have hW' : G3 W = some (.lst ((ps.map fun p => (p.1, chg1 (s.2, p.2.2.2) + price rows p.2.2, (p.2.1 : Int))).map fun r => V.ref r.1)) := by
      rw [hW, e1, List.map_map]
      rfl
    refine ⟨W, ps.map fun p => (p.1, chg1 (s.2, p.2.2.2) + price rows p.2.2, (p.2.1 : Int)), rfl, SqL.of hW', ?_, fun q' hq' => ?_, ?_, fun q' hq' mn => ?_⟩
    · rw [List.length_map, lps]
      exact List.length_pos_iff.mpr e0
    · obtain ⟨p, hp, rfl⟩ := List.mem_map.mp hq'
      obtain ⟨m, h3, b2, hm2, hst⟩ := e3 p hp
      exact ⟨m, _, h3, s3 _ _ hm2⟩
    · rw [List.map_map]
      have nd := nexts_nd rows s
      rw [e2, List.map_map] at nd
      have go : ∀ l : List (Addr × Nat × SS), (l.map (fun p => p.2.1)).Nodup → (l.map (fun p => (p.2.1 : Int))).Nodup := by
        intro l
        induction l with
        | nil => intro _; exact List.nodup_nil
        | cons p l ih =>
          intro h
          rw [List.map_cons, List.nodup_cons] at h ⊢
          refine ⟨fun z => h.1 ?_, ih h.2⟩
          obtain ⟨p', hp', e⟩ := List.mem_map.mp z
          exact List.mem_map.mpr ⟨p', hp', by omega⟩
      exact go ps nd
    · obtain ⟨p, hp, rfl⟩ := List.mem_map.mp hq'
      obtain ⟨m, h3, b2, hm2, hst⟩ := e3 p hp
      have tin : p.2 ∈ nexts rows s := by rw [e2]; exact List.mem_map_of_mem hp
      have best : chg1 (s.2, p.2.2.2) + price rows p.2.2 = price rows s := by
        rw [pe]
        refine minD_is (List.mem_map_of_mem (f := fun t : Nat × SS => chg1 (s.2, t.2.2) + price rows t.2) tin) fun k hk => ?_
        obtain ⟨t, ht', rfl⟩ := List.mem_map.mp hk
        rw [e2] at ht'
        obtain ⟨p', hp', rfl⟩ := List.mem_map.mp ht'
        have := mn _ (List.mem_map_of_mem (f := fun p : Addr × Nat × SS => (p.1, chg1 (s.2, p.2.2.2) + price rows p.2.2, (p.2.1 : Int))) hp')
        rw [Bool.eq_false_iff] at this
        by_cases c : chg1 (s.2, p'.2.2.2) + price rows p'.2.2 < chg1 (s.2, p.2.2.2) + price rows p.2.2
        · exact absurd (mvB_iff.mpr (.inl c)) this
        · omega
      refine ⟨p.1, _, _, _, rfl, rfl, SqT.of h3, atI_nat (j := 1) rfl, ?_⟩
      have ht3 := s3 _ _ ht
      refine ⟨_, rfl, .inl ⟨rfl, _, SqL.of ht3⟩, _, rfl, m, _, _, _, rfl, rfl, SqT.of (s3 _ _ hm2), atI_nat (j := 0) rfl, tl, _, _, rfl, rfl, ht3, ?_, ?_⟩
      · unfold nsV
        rw [List.length_map]
        exact small1000 (by omega)
      have tp : Tp G3 (upd G3 tl (.lst (nsV ns ++ [V.int (p.2.1 : Int)]))) := tp_upd ht3 (by intro ys z; cases z)
      have sm4 := same_on ntl (sm.trans s3) (.lst (nsV ns ++ [V.int (p.2.1 : Int)]))
      have ht4 : (upd G3 tl (.lst (nsV ns ++ [V.int (p.2.1 : Int)]))) tl = some (.lst (nsV (ns ++ [p.2.1]))) := by rw [upd_same]; unfold nsV; rw [List.map_append]; rfl
      generalize upd G3 tl (.lst (nsV ns ++ [V.int (p.2.1 : Int)])) = G4 at tp sm4 ht4 ⊢
      have hst4 := (hst.tp (tpS s3)).tp tp
      refine ⟨_, rfl, m, _, _, _, rfl, rfl, SqT.of (tp _ _ (s3 _ _ hm2)), atI_nat (j := 1) rfl, ?_⟩
      refine ⟨_, rfl, _, rfl, b2, r, p.2.2, rows, rfl, hst4, hR.same sm4, next_wf ws tin, lr, fun ml2 G5 s5 nm2 M2 => ?_⟩
      have rm' := next_rem ws tin
      exact ⟨_, _, _, b2, ml2, rm', sm4.trans s5, s5 _ _ ht4, hst4.tp (tpS s5), M2, (fun z => by rw [z, ht4] at nm2; cases nm2), .step pth tin, by omega, _, rfl⟩
end
end My
namespace My
open PySem L2
open Blk (sg sg_inj sg_app)
section
variable {P : Program} {w : World} {K : PySem.W.Frag} {mg : Str → Option Value} {base : Heap}
def totR (rows : Rw) : Nat := (rows.map List.length).sum
def firstS (rows : Rw) (z : Str) : SS := (List.replicate rows.length 0, z)
theorem first_wf (rows : Rw) (z : Str) : Wf rows (firstS rows z) := List.length_replicate
theorem first_at (rows : Rw) (z : Str) (i : Nat) : (firstS rows z).1.getD i 0 = 0 := by
  unfold firstS
  rw [List.getD_eq_getElem?_getD, List.getElem?_replicate]
  split <;> rfl
theorem range_at (rows : Rw) : (List.range rows.length).map (lenAt rows) = rows.map List.length := by
  refine List.ext_getElem? fun i => ?_
  rw [List.getElem?_map, List.getElem?_map]
  by_cases h : i < rows.length
  · rw [List.getElem?_range h, List.getElem?_eq_getElem h]
    show some (lenAt rows i) = some rows[i].length
    unfold lenAt
    rw [List.getD_eq_getElem?_getD, List.getElem?_eq_getElem h]
    rfl
  · rw [List.getElem?_eq_none (by rw [List.length_range]; omega), List.getElem?_eq_none (by omega)]
    rfl
theorem first_rem (rows : Rw) (z : Str) : remD rows (firstS rows z) = totR rows := by
  unfold remD totR
  rw [← range_at]
  congr 1
  refine List.map_congr_left fun i _ => ?_
  rw [first_at]
  omega
def TrA (H : Hp) (a : Addr) (t : SS × Int) : Prop := ∃ d, H a = some (.tup [.ref d, .str t.1.2, .int t.2]) ∧ H d = some (.tup (dsV t.1.1))
theorem TrA.tp {H H' : Hp} {a : Addr} {t : SS × Int} (x : TrA H a t) (k : Tp H H') : TrA H' a t := by
  obtain ⟨d, h1, h2⟩ := x
  exact ⟨d, k _ _ h1, k _ _ h2⟩
def TrL (H : Hp) (l : Addr) (ts : List (SS × Int)) : Prop := ∃ as : List Addr, H l = some (.lst (as.map V.ref)) ∧ Paired (TrA H) as ts
theorem TrL.same {H H' : Hp} {l : Addr} {ts : List (SS × Int)} (x : TrL H l ts) (s : Same H H') : TrL H' l ts := by
  obtain ⟨as, h1, h2⟩ := x
  exact ⟨as, s _ _ h1, Paired.mapP h2 fun _ _ e => e.tp (tpS s)⟩
structure FewAt (H0 H : Hp) (x o tl : Addr) (rows : Rw) (z : Str) (ns : List Nat) (L : List SS) : Prop where
  at_ : H x = some (.tup [.ref o, .int (price rows (firstS rows z)), .ref tl])
  ord : H o = some (.lst (nsV ns))
  tol : TrL H tl (L.reverse.map fun s => (s, price rows s))
  best : BestP rows (firstS rows z) ns
  ln : ns.length ≤ 8
  good : GoodL rows (firstS rows z) L
  nx : H0 x = none
  no : H0 o = none
  nt : H0 tl = none
  ne : o ≠ tl
def sp_fewest (cT : Addr) : Sp := fun vs H Q E => ∃ (r : Addr) (rows : Rw) (z : Str), vs = [.ref r, .str z] ∧ RowsAt H r rows ∧ rows.length ≤ 60 ∧ (∀ row ∈ rows, row.length ≤ 60) ∧
  (totR rows ≤ 8 → ∀ x o tl H' ns L, Same H H' → FewAt H H' x o tl rows z ns L → Q (.ref x) H') ∧ (8 < totR rows → ∀ ea H', Same H H' → H ea = none → XG H' ea cT [("name", .str (Str.ofString "jobs"))] → E (.ref cT) (some ea) H')
theorem sum_len (rows : Rw) : (rows.map fun row => ((row.length : Nat) : Int)).sum = ((totR rows : Nat) : Int) := by
  unfold totR
  induction rows with
  | nil => rfl
  | cons a l ih =>
    rw [List.map_cons, List.map_cons, List.sum_cons, List.sum_cons, ih]
    omega
theorem lens_of {H0 : Hp} {ps : List Addr} {rows : Rw} (rel : Paired (fun p row => H0 p = some (.lst (row.map V.str))) ps rows) {us : List V} (hl : us.length = (ps.map V.ref).length) (hg : ∀ (i : Nat) x y, (ps.map V.ref)[i]? = some x → us[i]? = some y → ∃ (p : Addr) (row : List Str), x = .ref p ∧ H0 p = some (.lst (row.map V.str)) ∧ y = .int (row.length : Nat)) : us = (rows.map fun row => ((row.length : Nat) : Int)).map V.int := by
  have lt := Paired.length rel
  rw [List.length_map] at hl
  refine List.ext_getElem? fun i => ?_
  rw [List.getElem?_map, List.getElem?_map]
  cases e : rows[i]? with
  | none =>
    rw [List.getElem?_eq_none (by have := List.getElem?_eq_none_iff.mp e; omega)]
    rfl
  | some row =>
    obtain ⟨p, hp, prow⟩ := paired_at rel e
    have li := (List.getElem?_eq_some_iff.mp e).1
    obtain ⟨y, hy⟩ : ∃ y, us[i]? = some y := ⟨us[i], List.getElem?_eq_getElem (by omega)⟩
    obtain ⟨p', row', e1, prow', rfl⟩ := hg i (.ref p) y (by rw [List.getElem?_map, hp]; rfl) hy
    injection e1 with e1
    subst e1
    rw [prow] at prow'
    injection prow' with e2
    injection e2 with e2
    have := congrArg List.length e2
    rw [List.length_map, List.length_map] at this
    rw [hy, ← this]
    rfl
theorem sc_fewest : FnScope ["rows", "loaded", "first", "prices", "told"] ["rows", "loaded"] (defScope s_fewest) := ⟨rfl, rfl, rfl, by decide +kernel, rfl, by decide +kernel, by decide +kernel⟩
theorem ok_fewest {fa cBadLine cUnknown cTwice cNotNow cTooMuch cDry cOver cNowhere cBusy cNoHeap cNoPrinter cGoesRound cNoWay cHallError : Addr} {fd : FuncData} (F : Fun K "fewest" "fewest" s_fewest fa fd) (T : Txt K mg cBadLine cUnknown cTwice cNotNow cTooMuch cDry cOver cNowhere cBusy cNoHeap cNoPrinter cGoesRound cNoWay cHallError) (D_priced : Dfn P w K mg base 3 "priced" ["states", "rows"] (sp_priced P w)) (X_TooMuch : MkXD P w K mg base 1 "TooMuch" cTooMuch ["self", "name"] (sp_one cTooMuch "name")) (D_reached : Dfn P w K mg base 3 "reached" ["first", "rows"] (sp_reached K)) (D_best_order : Dfn P w K mg base 3 "best_order" ["first", "rows", "prices"] (sp_best_order P w)) :
    FnOk P w K mg base (CXe P w) 4 fa fd ["rows", "loaded"] (sp_fewest cTooMuch) := by
  refine F.okE sc_fewest (fun vs H Q E h => ?_) (fun cdv A outer s H vs Q E hr h => ?_)
  · obtain ⟨r, rows, z, rfl, _⟩ := h
    rfl
  obtain ⟨r, rows, z, rfl, hR, lr, lrow, q8, q9⟩ := h
  have hu64 := hr.units
  obtain ⟨ps, hp, rel⟩ := id hR
  have lps : ps.length = rows.length := Paired.length rel
  refine ⟨_, (pss_cons (ps_if (pt_cmpR op_gt (pe_callB (call_sumS rfl) rfl T.sum bt_sum (pa_cons (PE.nox (pe_comp (frees := []) ⟨by decide +kernel, rfl, rfl, by decide +kernel, trivial, by decide +kernel, cellsFor_at rfl, rfl⟩ rfl (pi_list (pv 0)) (fun _ _ _ _ => pifs_nil) (fun _ _ _ _ => by exact (pe_callB (call_len_seqK (K := K) rfl) rfl T.len PySem.boot_len (pa_cons (pv 0) pa_nil))))) pa_nil)) (pe_gi T.JOBS_MOST rfl) (nomark _)) (pss_one (ps_raise raise_def rfl (pe_makeXD X_TooMuch (hr.mono (by decide)) rfl (pa_cons (pe_gs T.JOBS rfl) pa_nil)))) pss_nil)
  (pss_cons (ps_set (i := 2) sc_fewest.nd rfl (by first | exact Or.inl rfl | exact Or.inr rfl) (pe_tup (pa_cons (pe_callTy call_tuple_of rfl T.tuple bt_tuple (pa_cons (pe_op op_rep (pe_lst (pa_cons pe_int pa_nil)) (pe_callB call_len_seq rfl T.len PySem.boot_len (pa_cons (pv 0) pa_nil))) pa_nil)) (pa_cons (pv 1) pa_nil))))
  (pss_cons (ps_set (i := 3) sc_fewest.nd rfl (by first | exact Or.inl rfl | exact Or.inr rfl) (pe_callD D_priced (hr.mono (by decide)) rfl (pa_cons (pe_callD D_reached (hr.mono (by decide)) rfl (pa_cons (pv 2) (pa_cons (pv 0) pa_nil))) (pa_cons (pv 0) pa_nil))))
  (pss_cons (ps_frzN (P := P) (w := w) rfl rfl (ps_comp2 (i := 4) (frees := []) ⟨by decide +kernel, rfl, rfl, rfl, by decide +kernel, trivial, by decide +kernel, cellsFor_at rfl, rfl⟩ sc_fewest.nd rfl rfl rfl (pi_itemsN (P := P) (w := w) rfl rfl (pe_itemsN0 (P := P) (w := w) rfl rfl (pv 3))) (fun _ _ _ _ => pifs_nil) (fun _ _ _ _ => by exact (pe_tup (pa_cons (pe_ixK (K := K) (r := rIxT) rfl ix_tup (pv 0) pe_int (fun _ _ => rfl)) (pa_cons (pe_ixK (K := K) (r := rIxT) rfl ix_tup (pv 0) pe_int (fun _ _ => rfl)) (pa_cons (pv 1) pa_nil)))))))
  (pss_one (ps_ret (pe_tup (pa_cons (pe_callD D_best_order (hr.mono (by decide)) rfl (pa_cons (pv 2) (pa_cons (pv 0) (pa_cons (pv 3) pa_nil)))) (pa_cons (pe_nget (P := P) (w := w) rfl rfl hu64 (pv 3) (pv 2) (fun _ _ => rfl)) (pa_cons (pv 4) pa_nil)))))))))), ?_⟩
  refine ⟨_, rfl, r, rfl, ⟨_, SqL.of hp⟩, ?_⟩
  refine compB_mk (seq_list (SqL.of hp)) (fun x y _ => ∃ (p : Addr) (row : List Str), x = .ref p ∧ H p = some (.lst (row.map V.str)) ∧ y = .int (row.length : Nat)) (by rw [List.length_map]; exact small1000 (by omega)) (fun x hx' H' R _ r => r) (fun x hx' H' R s3 rr => ?_) (fun W H1 us s1 nW hW hl3 hg => ?_)
  · obtain ⟨p, hmem, rfl⟩ := List.mem_map.mp hx'
    obtain ⟨j, hj⟩ := List.mem_iff_getElem?.mp hmem
    obtain ⟨row, hrow, prow⟩ := paired_at' rel hj
    refine ⟨_, rfl, p, _, rfl, .inl (SqL.of (s3 _ _ prow)), ?_⟩
    rw [List.length_map]
    exact rr _ _ (Same.refl _) ⟨fun _ => False, fun _ z => z.elim, fun _ _ => ⟨p, row, rfl, prow, rfl⟩⟩
  have eu := lens_of rel hl3 hg
  rw [eu] at hW
  refine ⟨W, _, rfl, SqL.of hW, fun v hv => ?_, _, _, rfl, rfl, _, rfl, ?_⟩
  · obtain ⟨row, hrow, rfl⟩ := List.mem_map.mp hv
    have := lrow row hrow
    constructor <;> omega
  rw [sum_len]
  refine ite2 (fun c => ?_) (fun c => ?_)
  · have c' : (8 : Int) < ((totR rows : Nat) : Int) := of_decide_eq_true c
    exact raise_one T.x_TooMuch.m fun ea H' sm ne g => q9 (by omega) ea H' (s1.trans sm) (s1.free ne) g
  have c' : ¬ (8 : Int) < ((totR rows : Nat) : Int) := fun z => c (decide_eq_true z)
  have h8 : totR rows ≤ 8 := by omega
  clear q9 c c' eu hg hl3
  refine ⟨small (by show 1 ≤ 1000; decide), fun l1 nl1 => ?_⟩
  have s2 := same_new nl1 (.lst [V.int 0])
  have hl1 : (upd H1 l1 (.lst [V.int 0])) l1 = some (.lst [V.int 0]) := upd_same
  generalize upd H1 l1 (.lst [V.int 0]) = H2 at s2 hl1 ⊢
  have s02 := s1.trans s2
  refine ⟨_, rfl, r, _, rfl, .inl (SqL.of (s02 _ _ hp)), l1, _, _, rfl, rfl, hl1, by rw [List.length_map]; omega, by rw [List.length_map]; omega, ?_, fun p3 np3 => ?_⟩
  · rw [List.length_map, Int.toNat_natCast]
    show 1 * ps.length ≤ sizeLine
    exact small (by omega)
  rw [List.length_map, Int.toNat_natCast, rep_flat, lps]
  have s3 := same_new np3 (.lst (List.replicate rows.length (V.int 0)))
  have hp3 : (upd H2 p3 (.lst (List.replicate rows.length (V.int 0)))) p3 = some (.lst (List.replicate rows.length (V.int 0))) := upd_same
  generalize upd H2 p3 (.lst (List.replicate rows.length (V.int 0))) = H3 at s3 hp3 ⊢
  refine ⟨p3, _, rfl, .inl ⟨SqL.of hp3, fun d nd => ?_⟩⟩
  have s4 := same_new nd (.tup (List.replicate rows.length (V.int 0)))
  have hd : (upd H3 d (.tup (List.replicate rows.length (V.int 0)))) d = some (.tup (dsV (firstS rows z).1)) := by
    rw [upd_same]
    unfold dsV firstS
    rw [List.map_replicate]
    rfl
  generalize upd H3 d (.tup (List.replicate rows.length (V.int 0))) = H4 at s4 hd ⊢
  refine ⟨_, rfl, small (by show 2 ≤ 1000; decide), fun fb nfb => ?_⟩
  have s5 := same_new nfb (.tup [V.ref d, .str z])
  have hfb : StA (upd H4 fb (.tup [V.ref d, .str z])) fb (firstS rows z) := ⟨d, upd_same, s5 _ _ hd⟩
  generalize upd H4 fb (.tup [V.ref d, .str z]) = H5 at s5 hfb ⊢
  have s05 := s02.trans ((s3.trans s4).trans s5)
  have wf := first_wf rows z
  have rm : remD rows (firstS rows z) ≤ 8 := by rw [first_rem]; exact h8
  refine ⟨_, rfl, _, rfl, fb, r, _, rows, rfl, hfb, hR.same s05, lr, wf, rm, fun sl H6 L s6 nsl SL GL => ?_⟩
  have s06 := s05.trans s6
  refine ⟨_, rfl, sl, r, _, L, rows, rfl, SL, hR.same s06, lr, GL, fun D H7 ys s7 nD Y ky py => ?_⟩
  have s07 := s06.trans s7
  have hf7 := hfb.tp (tpS (s6.trans s7))
  have fin : firstS rows z ∈ keysY ys := by rw [ky, List.mem_reverse]; exact GL.fst
  have lys : ys.length = L.length := by
    have := congrArg List.length ky
    unfold keysY at this
    rw [List.length_map, List.length_reverse] at this
    exact this
  have lL := GL.le
  clear hW hl1 hp3 hd s2 s3 s4 s5 s02 s05 s6 SL
  refine ⟨D, ndx ys, Y.at_, fun o => ?_⟩
  refine ⟨_, rfl, D, o, _, rfl, rfl, upd_same, fun v nv => ?_⟩
  have t8 : Tp H7 (upd H7 D (.frz o (ND P w D (ndx ys)))) := tp_upd Y.at_ nd_tup
  have k8 : KeptBut D H7 (upd H7 D (.frz o (ND P w D (ndx ys)))) := fun b u nb e => by rw [upd_ne nb]; exact e
  have hD8 : (upd H7 D (.frz o (ND P w D (ndx ys)))) D = some (.frz o (ND P w D (ndx ys))) := upd_same
  generalize upd H7 D (.frz o (ND P w D (ndx ys))) = H8 at t8 k8 hD8 nv ⊢
  have s9 := same_new nv (IW v D)
  have hv9 : (upd H8 v (IW v D)) v = some (IW v D) := upd_same
  generalize upd H8 v (IW v D) = H9 at s9 hv9 ⊢
  have hD9 := s9 _ _ hD8
  have t9 : Tp H7 H9 := t8.trans (tpS s9)
  refine ⟨v, D, o, _, rfl, hv9, hD9, ?_⟩
  refine compB2_itemsN hD9 (fun x y H3 => ∃ p a d, p ∈ ys ∧ x = (nkOf p.1, p.2.1, p.2.2) ∧ y = .ref a ∧ H3 a = some (.tup [.ref d, .str p.1.2, p.2.2]) ∧ H9 d = some (.tup (dsV p.1.1))) ?_ (fun x hx => ⟨fun H' R _ r => r, fun H' R sm rr => ?_⟩) (fun tl H10 us s10 ntl htl lus hg => ?_)
  · rw [ndx_len, lys, sizeLine_eq]
    omega
  · obtain ⟨p, hp', rfl⟩ := List.mem_map.mp hx
    obtain ⟨d, h1, h2⟩ := (Y.st p hp').tp t9
    refine ⟨_, rfl, p.2.1, _, _, _, rfl, rfl, SqT.of (sm _ _ h1), atI_nat (j := 0) rfl, _, rfl, p.2.1, _, _, _, rfl, rfl, SqT.of (sm _ _ h1), atI_nat (j := 1) rfl, _, rfl, small (by show 3 ≤ 1000; decide), fun a na => ?_⟩
    exact rr _ _ (same_new na _) ⟨fun z => z = a, fun z ez => by rw [ez]; exact ⟨na, _, upd_same⟩, fun H3 h3 => ⟨p, a, d, hp', rfl, rfl, by rw [h3 a rfl, upd_same], h2⟩⟩
  have hD10 := s10 _ _ hD9
  refine ⟨hD10, ?_⟩
  have t11 : Tp H10 (upd H10 D (ND P w D (ndx ys))) := tp_upd hD10 (by intro ys z; cases z)
  have ntD : tl ≠ D := fun z => by rw [z, hD10] at htl; cases htl
  have htl11 : (upd H10 D (ND P w D (ndx ys))) tl = some (.lst us) := by rw [upd_ne ntD]; exact htl
  have s711 : Same H7 (upd H10 D (ND P w D (ndx ys))) := fun c u e => by
    by_cases ec : c = D
    · rw [ec, Y.at_] at e
      rw [ec, upd_same]
      exact e
    · rw [upd_ne ec]
      exact s10 _ _ (s9 _ _ (k8 c u ec e))
  have nt7 : H7 tl = none := by
    cases e : H7 tl with
    | none => rfl
    | some u =>
      have := s9 _ _ (k8 tl u ntD e)
      rw [ntl] at this
      cases this
  generalize upd H10 D (ND P w D (ndx ys)) = H11 at t11 htl11 s711 ⊢
  obtain ⟨qs, e1, e2, e3⟩ := build_of (R := TrA H11) us (L.reverse.map fun s => (s, price rows s)) (by rw [lus, ndx_len, lys, List.length_map, List.length_reverse]) (fun i y t hy ht => by
    rw [← ky] at ht
    unfold keysY at ht
    rw [List.getElem?_map, List.getElem?_map] at ht
    obtain ⟨s, hs, rfl⟩ := Option.map_eq_some_iff.mp ht
    obtain ⟨p, hp', rfl⟩ := Option.map_eq_some_iff.mp hs
    obtain ⟨p', a, d, hp2, ex, rfl, ha, hd⟩ := hg i (nkOf p.1, p.2.1, p.2.2) y (by unfold ndx; rw [List.getElem?_map, hp']; rfl) hy
    obtain ⟨q1, q2⟩ := Prod.mk.inj ex
    obtain ⟨q3, q4⟩ := Prod.mk.inj q2
    have q5 := nkOf_inj q1
    refine ⟨a, rfl, d, ?_, ?_⟩
    · dsimp only
      rw [q5, ← py p' hp2]
      exact t11 _ _ ha
    · dsimp only
      rw [q5]
      exact t11 _ _ (s10 _ _ hd))
  have TL : TrL H11 tl (L.reverse.map fun s => (s, price rows s)) := ⟨qs.map (·.1), by rw [htl11, e1, List.map_map]; rfl, by rw [e2]; exact paired_map _ _ qs e3⟩
  have s011 := s07.trans s711
  have Y11 := Y.same s711
  have hf11 := hf7.tp (tpS s711)
  clear e1 e2 e3 hg htl11 t11 hD10 hD9 hD8 hv9 t9 s9 k8 t8
  refine ⟨_, rfl, _, rfl, _, rfl, fb, r, D, _, L, rows, ys, rfl, hf11, hR.same s011, lr, wf, rm, GL, Y11, ky, py, fun ol H12 ns s12 nol hol ln bp => ?_⟩
  refine ⟨_, rfl, _, rfl, D, fb, _, _, _, rfl, rfl, (Y11.same s12).na, (hf11.tp (tpS s12)).nk, by rw [lk_ndx]; exact pr_lk py fin, _, rfl, small (by show 3 ≤ 1000; decide), fun x nx => ?_⟩
  have s13 := same_new nx (.tup [V.ref ol, .int (price rows (firstS rows z)), .ref tl])
  have s012 := s011.trans s12
  refine q8 h8 x ol tl _ ns L (s012.trans s13) ⟨upd_same, s13 _ _ hol, (TL.same s12).same s13, bp, ln, GL, s012.free nx, s011.free nol, s07.free nt7, fun z => ?_⟩
  obtain ⟨as, ha, _⟩ := TL
  rw [z, ha] at nol
  cases nol
end
end My
namespace My
open PySem L2
open Blk (sg sg_inj sg_app)
section
variable {P : Program} {w : World} {K : PySem.W.Frag} {mg : Str → Option Value} {base : Heap}
def sp__law_draw (K : PySem.W.Frag) : Sp := fun vs H Q _ => ∃ (a : Addr) (k m : Int), vs = [.ref a, .int k, .int m] ∧ Scr K H a ∧ -(2 ^ 62) < k ∧ k < 2 ^ 62 ∧ 0 < m ∧ ∀ r : Int, 0 ≤ r → r < m → Q (.int r) H
def Wd (K : PySem.W.Frag) : TS := fun D σ H => ∃ (a : Addr) (k m : Int), σ = [some (.ref a), some (.int k), some (.int m), some (.int 0)] ∧ Scr K H a ∧ ∀ v : Int, D.nx [some (.ref a), some (.int k), some (.int m), some (.int v)] H
theorem sc__law_draw : FnScope ["_law_script", "_law_k", "_law_many", "_law_cell"] ["_law_script", "_law_k", "_law_many"] (defScope s__law_draw) := ⟨rfl, rfl, rfl, by decide +kernel, rfl, by decide +kernel, by decide +kernel⟩
theorem ok__law_draw {fa cBadLine cUnknown cTwice cNotNow cTooMuch cDry cOver cNowhere cBusy cNoHeap cNoPrinter cGoesRound cNoWay cHallError : Addr} {fd : FuncData} (F : Fun K "_law_draw" "_law_draw" s__law_draw fa fd) (T : Txt K mg cBadLine cUnknown cTwice cNotNow cTooMuch cDry cOver cNowhere cBusy cNoHeap cNoPrinter cGoesRound cNoWay cHallError)  :
    FnOk P w K mg base CX0 1 fa fd ["_law_script", "_law_k", "_law_many"] (sp__law_draw K) := by
  refine F.ok sc__law_draw (fun vs H Q E h => ?_) (fun cdv A outer s H vs Q E hr h => ?_)
  · obtain ⟨a, k, m, rfl, _⟩ := h
    rfl
  obtain ⟨a, k, m, rfl, hS, k0, k1, m0, q⟩ := h
  refine ⟨_, (pss_cons (ps_set (i := 3) sc__law_draw.nd rfl (by first | exact Or.inl rfl | exact Or.inr rfl) pe_int)
  (pss_cons (PS.weak (t' := Wd K) (ps_if (pt_cmpR op_gt (pe_callB call_len_seq rfl T.len PySem.boot_len (pa_cons (pv 0) pa_nil)) pe_int (nomark _)) (pss_one (ps_set (i := 3) sc__law_draw.nd rfl (by first | exact Or.inl rfl | exact Or.inr rfl) (pe_ix ix_listA (pv 0) (pe_op op_mod (pv 1) (pe_callB call_len_seq rfl T.len PySem.boot_len (pa_cons (pv 0) pa_nil))) (fun _ _ => rfl)))) pss_nil) ?w1)
  (pss_one (ps_ret (pe_op op_mod (pe_op op_mod (pe_op op_mul (pe_op op_add (pe_op op_add (pe_op op_add (pe_op op_mod (pv 3) pe_int) (pe_op op_mul (pe_op op_mul pe_int (pv 1)) (pv 1))) (pe_op op_mul pe_int (pv 1))) pe_int) pe_int) pe_int) (pv 2)))))), ?_⟩
  case w1 =>
    rintro D σ H' ⟨a, k, m, rfl, ⟨ns, hS, h63⟩, q⟩
    have hl : (ns.map V.int).length = ns.length := List.length_map _
    refine ⟨_, rfl, a, _, rfl, .inl hS, _, _, rfl, rfl, _, rfl, ?_⟩
    refine ite2 (fun c => ?_) (fun c => q 0)
    have c' : (0 : Int) < (((ns.map V.int).length : Nat) : Int) := of_decide_eq_true c
    have b0 := Int.emod_nonneg k (show (((ns.map V.int).length : Nat) : Int) ≠ 0 by omega)
    have b1 := Int.emod_lt_of_pos k c'
    refine ⟨_, rfl, _, rfl, _, rfl, a, _, rfl, .inl hS, _, _, rfl, rfl, c', a, _, _, rfl, rfl, hS, b0, b1, fun v hv => ?_⟩
    obtain ⟨z, rfl⟩ := int_of hv
    exact q z
  refine ⟨a, k, m, rfl, hS, fun v => ?_⟩
  refine ⟨_, rfl, _, _, rfl, rfl, (by show (0 : Int) < 1000003; decide), _, rfl, _, _, rfl, rfl, .inl ⟨by decide, by decide⟩, _, rfl, _, _, rfl, rfl, .inr ⟨by omega, by omega⟩, _, _, rfl, rfl, _, rfl, _, _, rfl, rfl, .inl ⟨by decide, by decide⟩, _, _, rfl, rfl, _, _, rfl, rfl, _, _, rfl, rfl, .inr ⟨by decide, by decide⟩, _, _, rfl, rfl, (by show (0 : Int) < 999983; decide), _, rfl, _, _, rfl, rfl, m0, ?_⟩
  exact q _ (Int.emod_nonneg _ (by omega)) (Int.emod_lt_of_pos _ m0)
def sp__law_whole (_K : PySem.W.Frag) : Sp := fun vs H Q _ => ∃ n : Int, vs = [.int n] ∧ Q (.bl true) H
theorem sc__law_whole : FnScope ["_law_found"] ["_law_found"] (defScope s__law_whole) := ⟨rfl, rfl, rfl, by decide +kernel, rfl, by decide +kernel, by decide +kernel⟩
theorem ok__law_whole {fa cBadLine cUnknown cTwice cNotNow cTooMuch cDry cOver cNowhere cBusy cNoHeap cNoPrinter cGoesRound cNoWay cHallError : Addr} {fd : FuncData} (F : Fun K "_law_whole" "_law_whole" s__law_whole fa fd) (T : Txt K mg cBadLine cUnknown cTwice cNotNow cTooMuch cDry cOver cNowhere cBusy cNoHeap cNoPrinter cGoesRound cNoWay cHallError)  :
    FnOk P w K mg base CX0 1 fa fd ["_law_found"] (sp__law_whole K) := by
  refine F.ok sc__law_whole (fun vs H Q E h => ?_) (fun cdv A outer s H vs Q E hr h => ?_)
  · obtain ⟨n, rfl, _⟩ := h
    rfl
  obtain ⟨n, rfl, q⟩ := h
  refine ⟨_, (pss_one (ps_ret (pe_and (pe_callB call_isi rfl T.isinstance bt_isi (pa_cons (pv 0) (pa_cons (pe_bltn rfl T.int bt_int (rel_ty _)) pa_nil))) (pe_one (pe_not (pe_callB call_isi rfl T.isinstance bt_isi (pa_cons (pv 0) (pa_cons (pe_bltn rfl T.bool bt_bool (rel_ty _)) pa_nil)))))))), ?_⟩
  refine ⟨_, rfl, _, _, _, true, rfl, TyOf.int _, kit_same _, true, rfl, iteT ?_⟩
  exact ⟨_, rfl, _, _, _, false, rfl, TyOf.int _, kit_int_bool _, false, rfl, q⟩
end
end My
namespace My
open PySem L2
open Blk (sg sg_inj sg_app)
section
variable {P : Program} {w : World} {K : PySem.W.Frag} {mg : Str → Option Value} {base : Heap}
theorem eL : (Str.ofString "abcdefghijklmnopqrstuvwxyz").cps.toList = low := by decide +kernel
end
end My
namespace My
open PySem L2
open Blk (sg sg_inj sg_app)
section
variable {P : Program} {w : World} {K : PySem.W.Frag} {mg : Str → Option Value} {base : Heap}
def nmK (cs : List Nat) (at' first : Nat) (j : Nat) : Str := ⟨(cs.set at' (97 + (first + j) % 26)).toArray⟩
theorem join_cs (cs : List Nat) : Txt.join (Str.ofString "") (cs.map one) = ⟨cs.toArray⟩ := by
  rw [txt_join]
  exact Blk.sg_inj (join_ones _ (by decide +kernel) _)
theorem chars_of {ys : List V} (h : ∀ (i : Nat) y, ys[i]? = some y → ∃ c : Nat, y = .str ⟨#[c]⟩) : ∃ cs : List Nat, ys = (cs.map one).map V.str := by
  induction ys with
  | nil => exact ⟨[], rfl⟩
  | cons y r ih =>
    obtain ⟨k, rfl⟩ := h 0 y rfl
    obtain ⟨zs, rfl⟩ := ih fun i y e => h (i + 1) y e
    exact ⟨k :: zs, rfl⟩
theorem new_triv {H H' : Hp} {G : Prop} (g : G) : New H H' (fun _ => G) := ⟨fun _ => False, fun _ z => z.elim, fun _ _ => g⟩
def preK (c : Nat) (j : Nat) : Str := one c ++ Txt.slice (Str.ofString "a1b2c3d4e5f") none (some (j : Int))
def sp__law_names (K : PySem.W.Frag) : Sp := fun vs H Q _ => ∃ (a : Addr) (k : Int), vs = [.ref a, .int k, .int 9] ∧ Scr K H a ∧ 0 ≤ k ∧ k ≤ 1000 ∧ ∀ (p : Addr) (ns : List Str) (H' : Hp), Same H H' → H' p = some (.lst (ns.map V.str)) → ns.length = 9 → Q (.ref p) H'
theorem sc__law_names : FnScope ["_law_script", "_law_k", "_law_many", "_law_letters", "_law_size", "_law_word", "_law_at", "_law_first", "_law_names_here", "_law_j", "_law_signs"] ["_law_script", "_law_k", "_law_many"] (defScope s__law_names) := ⟨rfl, rfl, rfl, by decide +kernel, rfl, by decide +kernel, by decide +kernel⟩
theorem ok__law_names {fa cBadLine cUnknown cTwice cNotNow cTooMuch cDry cOver cNowhere cBusy cNoHeap cNoPrinter cGoesRound cNoWay cHallError : Addr} {fd : FuncData} (F : Fun K "_law_names" "_law_names" s__law_names fa fd) (T : Txt K mg cBadLine cUnknown cTwice cNotNow cTooMuch cDry cOver cNowhere cBusy cNoHeap cNoPrinter cGoesRound cNoWay cHallError) (D__law_draw : Dfn P w K mg base 1 "_law_draw" ["_law_script", "_law_k", "_law_many"] (sp__law_draw K)) :
    FnOk P w K mg base CX0 2 fa fd ["_law_script", "_law_k", "_law_many"] (sp__law_names K) := by
  refine F.ok sc__law_names (fun vs H Q E h => ?_) (fun cdv A outer s H vs Q E hr h => ?_)
  · obtain ⟨a, k, rfl, _⟩ := h
    rfl
  obtain ⟨a, k, rfl, hS, k0, k1, q⟩ := h
  refine ⟨_, (pss_cons (ps_set (i := 3) sc__law_names.nd rfl (by first | exact Or.inl rfl | exact Or.inr rfl) pe_str)
  (pss_cons (ps_set (i := 4) sc__law_names.nd rfl (by first | exact Or.inl rfl | exact Or.inr rfl) (pe_op op_add pe_int (pe_callD D__law_draw (hr.mono (by decide)) rfl (pa_cons (pv 0) (pa_cons (pv 1) (pa_cons pe_int pa_nil))))))
  (pss_cons (ps_set (i := 5) sc__law_names.nd rfl (by first | exact Or.inl rfl | exact Or.inr rfl) (pe_comp (frees := [("_law_letters", 3), ("_law_script", 0), ("_law_k", 1)]) ⟨by decide +kernel, rfl, rfl, by decide +kernel, ⟨⟨rfl, rfl, rfl, by decide +kernel⟩, ⟨⟨rfl, rfl, rfl, by decide +kernel⟩, ⟨⟨rfl, rfl, rfl, by decide +kernel⟩, trivial⟩⟩⟩, by decide +kernel, cellsFor_at rfl, rfl⟩ rfl (pi_range1 rfl T.range (pa_cons (pv 4) pa_nil)) (fun _ _ _ _ => pifs_nil) (fun _ _ _ _ => by exact (pe_ix ix_strA (pv 1) (pe_callD D__law_draw (hr.mono (by decide)) rfl (pa_cons (pv 2) (pa_cons (pe_op op_add (pe_op op_add (pv 3) pe_int) (pv 0)) (pa_cons pe_int pa_nil)))) (fun _ _ => rfl)))))
  (pss_cons (ps_if (pt_cmpR op_eq (pe_callD D__law_draw (hr.mono (by decide)) rfl (pa_cons (pv 0) (pa_cons (pe_op op_add (pv 1) pe_int) (pa_cons pe_int pa_nil)))) pe_int (nomark _)) (pss_one (ps_ret (pe_comp (frees := [("_law_word", 5)]) ⟨by decide +kernel, rfl, rfl, by decide +kernel, ⟨⟨rfl, rfl, rfl, by decide +kernel⟩, trivial⟩, by decide +kernel, cellsFor_at rfl, rfl⟩ rfl (pi_range1 rfl T.range (pa_cons (pv 2) pa_nil)) (fun _ _ _ _ => pifs_nil) (fun _ _ _ _ => by exact (pe_op op_add_str (pe_ixK (K := K) (r := rIxL) rfl ix_list (pv 1) pe_int (fun _ _ => rfl)) (pe_slice sl_str pe_str po_none (po_some (pv 0)))))))) pss_nil)
  (pss_cons (ps_set (i := 6) sc__law_names.nd rfl (by first | exact Or.inl rfl | exact Or.inr rfl) (pe_callD D__law_draw (hr.mono (by decide)) rfl (pa_cons (pv 0) (pa_cons (pe_op op_add (pv 1) pe_int) (pa_cons (pv 4) pa_nil)))))
  (pss_cons (ps_set (i := 7) sc__law_names.nd rfl (by first | exact Or.inl rfl | exact Or.inr rfl) (pe_callD D__law_draw (hr.mono (by decide)) rfl (pa_cons (pv 0) (pa_cons (pe_op op_add (pv 1) pe_int) (pa_cons pe_int pa_nil)))))
  (pss_cons (ps_set (i := 8) sc__law_names.nd rfl (by first | exact Or.inl rfl | exact Or.inr rfl) (pe_lst pa_nil))
  (pss_cons (ps_for PassesOwn.never rfl (pi_range1 rfl T.range (pa_cons (pv 2) pa_nil)) (pg_name (i := 9) sc__law_names.nd rfl (by first | exact Or.inl rfl | exact Or.inr rfl))
  (pss_cons (ps_set (i := 10) sc__law_names.nd rfl (by first | exact Or.inl rfl | exact Or.inr rfl) (pe_callTy call_list_of rfl T.list bt_list (pa_cons (pv 5) pa_nil)))
  (pss_cons (ps_asg (pe_ix ix_strA (pv 3) (pe_op op_mod (pe_op op_add (pv 7) (pv 9)) pe_int) (fun _ _ => rfl)) (pg_sub (pv 10) (pv 6) set_list))
  (pss_one (ps_expr (pe_bm PySem.F.plainAttrs_list PySem.F.slot_list_append PySem.F.type_list_append mt_append (pv 8) (pa_cons (pe_bm PySem.F.plainAttrs_str PySem.F.slot_str_join PySem.F.type_str_join mt_join pe_str (pa_cons (pv 10) pa_nil)) pa_nil)))))))
  (pss_one (ps_ret (pv 8))))))))))), ?_⟩
  refine ⟨_, rfl, _, rfl, a, _, _, rfl, hS, by omega, by omega, by decide, fun r0 r00 r01 => ?_⟩
  refine ⟨_, _, rfl, rfl, ?_⟩
  obtain ⟨sz, hsz⟩ : ∃ sz : Nat, (1 + r0 : Int) = (sz : Int) := ⟨(1 + r0).toNat, by omega⟩
  have b1 : 1 ≤ sz ∧ sz ≤ 12 := by omega
  refine ⟨_, rfl, _, rfl, by omega, by omega, ?_⟩
  refine compB_mk (seq_range 0 (1 + r0).toNat H) (fun x y H3 => ∃ c : Nat, y = .str ⟨#[c]⟩) (by rw [List.length_map, List.length_range]; exact small1000 (by omega)) (fun x hx' H' R _ r => r) (fun x hx' H' R sm rr => ?_) (fun D H1 us sm1 nD hD hl hg => ?_)
  · obtain ⟨c, hc, rfl⟩ := List.mem_map.mp hx'
    rw [List.mem_range] at hc
    refine ⟨_, rfl, _, rfl, _, rfl, _, _, rfl, rfl, _, rfl, _, _, rfl, rfl, a, _, _, rfl, hS.same sm, by omega, by omega, by decide, fun r r0' r1' => ?_⟩
    refine ⟨_, _, rfl, rfl, (by decide +kernel), r0', Int.lt_of_lt_of_le r1' (by decide +kernel), fun c hc => ?_⟩
    exact rr _ _ (Same.refl _) (new_triv ⟨_, rfl⟩)
  obtain ⟨cs, rfl⟩ := chars_of (ys := us) fun i y e => by
    obtain ⟨x, ex⟩ : ∃ x, ((List.range (1 + r0).toNat).map fun i => V.int (0 + (i : Nat)))[i]? = some x := ⟨_, List.getElem?_eq_getElem (by rw [← hl]; exact (List.getElem?_eq_some_iff.mp e).1)⟩
    exact hg i x y ex e
  rw [List.length_map, List.length_map, List.length_map, List.length_range] at hl
  have lc : cs.length = sz := by omega
  have hS1 := hS.same sm1
  refine ⟨_, rfl, _, rfl, _, _, rfl, rfl, a, _, _, rfl, hS1, by omega, by omega, by decide, fun r1 _ _ => ⟨rfl, _, rfl, ?_⟩⟩
  refine ite2 (fun _ => ?_) (fun _ => ?_)
  · obtain ⟨c0, ec0⟩ : ∃ c0, cs[0]? = some c0 := ⟨_, List.getElem?_eq_getElem (by omega)⟩
    have e0 : ((cs.map one).map V.str)[0]? = some (.str (one c0)) := by rw [List.getElem?_map, List.getElem?_map, ec0]; rfl
    refine ⟨_, rfl, _, rfl, by decide, by decide, ?_⟩
    refine compB_mk (seq_range 0 (9 : Int).toNat H1) (fun x y H3 => ∃ j : Nat, x = .int (0 + (j : Int)) ∧ y = .str (preK c0 j)) (by rw [List.length_map, List.length_range]; exact small1000 (by decide)) (fun x hx' H' R _ r => r) (fun x hx' H' R sm rr => ?_) (fun D2 H2 us2 sm2 nD2 hD2 hl2 hg2 => ?_)
    · obtain ⟨j, hj, rfl⟩ := List.mem_map.mp hx'
      refine ⟨_, rfl, D, _, _, _, rfl, rfl, SqL.of (sm _ _ hD), atI_nat (j := 0) e0, _, rfl, _, rfl, _, rfl, (by decide +kernel), ?_⟩
      have j6 : j < 9 := List.mem_range.mp hj
      have ls : (Txt.slice (Str.ofString "a1b2c3d4e5f") none (some (0 + (j : Int)))).length ≤ 20 := by
        have all : ∀ j : Fin 9, (Txt.slice (Str.ofString "a1b2c3d4e5f") none (some (0 + ((j : Nat) : Int)))).length ≤ 20 := by decide +kernel
        exact all ⟨j, j6⟩
      refine ⟨_, _, rfl, rfl, small (by show 1 + _ ≤ 1000; omega), rr _ _ (Same.refl _) (new_triv ⟨j, rfl, ?_⟩)⟩
      unfold preK
      rw [Int.zero_add]
    · rw [List.length_map, List.length_range] at hl2
      have e : us2 = ((List.range 9).map (preK c0)).map V.str := by
        refine List.ext_getElem? fun i => ?_
        rw [List.getElem?_map, List.getElem?_map]
        by_cases hi : i < 9
        · obtain ⟨y, ey⟩ : ∃ y, us2[i]? = some y := ⟨_, List.getElem?_eq_getElem (by rw [hl2]; exact hi)⟩
          obtain ⟨j, ej, rfl⟩ := hg2 i (.int (0 + (i : Int))) y (by rw [List.getElem?_map, show (9 : Int).toNat = 9 from rfl, List.getElem?_range hi]; rfl) ey
          have hij : (i : Int) = j := by
            injection ej with ej
            omega
          obtain rfl : i = j := by omega
          rw [ey, List.getElem?_range hi]
          rfl
        · rw [List.getElem?_eq_none (by rw [hl2]; show (9 : Int).toNat ≤ i; omega), List.getElem?_eq_none (by rw [List.length_range]; omega)]
          rfl
      rw [e] at hD2
      exact q D2 ((List.range 9).map (preK c0)) H2 (sm1.trans sm2) hD2 (by rw [List.length_map, List.length_range])
  · refine ⟨_, rfl, _, rfl, _, _, rfl, rfl, _, rfl, a, _, _, rfl, hS1, by omega, by omega, by omega, fun r2 r20 r21 => ?_⟩
    refine ⟨_, rfl, _, rfl, _, _, rfl, rfl, a, _, _, rfl, hS1, by omega, by omega, by decide, fun r3 r30 r31 => ?_⟩
    obtain ⟨at', hat⟩ : ∃ n : Nat, r2 = (n : Int) := ⟨r2.toNat, by omega⟩
    obtain ⟨fi, hfi⟩ : ∃ n : Nat, r3 = (n : Int) := ⟨r3.toNat, by omega⟩
    refine ⟨Nat.zero_le _, fun p np => ?_⟩
    have sp := same_new np (.lst [])
    refine ⟨_, rfl, _, rfl, by decide, by decide, ?_⟩
    refine for_range (lo := 0) (n := (9 : Int).toNat) (fun i σ H' => Same H1 H' ∧ H' p = some (.lst (((List.range i).map (nmK cs at' fi)).map V.str)) ∧ ∃ v9 v10, σ = [some (.ref a), some (.int k), some (.int 9), some (.str (Str.ofString "abcdefghijklmnopqrstuvwxyz")), some (.int (1 + r0)), some (.ref D), some (.int r2), some (.int r3), some (.ref p), v9, v10]) ⟨sp, upd_same, _, _, rfl⟩ (fun i σ H' hi z => ?_) (fun σ H' z => ?_)
    · obtain ⟨sm, hp, v9, v10, rfl⟩ := z
      have i6 : i < 9 := hi
      refine ⟨_, rfl, D, _, rfl, .inl (SqL.of (sm _ _ hD)), fun l nl => ?_⟩
      have sl := same_new nl (.lst ((cs.map one).map V.str))
      have hlist : upd H' l (.lst ((cs.map one).map V.str)) l = some (.lst ((cs.map one).map V.str)) := upd_same
      have npl : H' l = none := nl
      generalize hH2 : upd H' l (.lst ((cs.map one).map V.str)) = H2 at sl hlist ⊢
      refine ⟨_, rfl, _, rfl, _, rfl, _, _, rfl, rfl, _, _, rfl, rfl, (by show (0 : Int) < 26; decide), ?_⟩
      refine ⟨_, _, rfl, rfl, (by decide +kernel), Int.emod_nonneg _ (by decide), Int.lt_of_lt_of_le (Int.emod_lt_of_pos _ (by decide)) (by decide +kernel), fun cl hcl => ?_⟩
      have hcl' : cl = 97 + (fi + i) % 26 := by
        rw [eL] at hcl
        have := low_at hcl
        omega
      refine ⟨_, rfl, _, rfl, l, _, _, at', rfl, rfl, hlist, ?_, ?_⟩
      · rw [hat, List.length_map, List.length_map]
        exact ixN_nat (by omega)
      have setl : ((cs.map one).map V.str).set at' (V.str ⟨#[cl]⟩) = ((cs.set at' (97 + (fi + i) % 26)).map one).map V.str := by
        rw [List.map_set, List.map_set, hcl']
        rfl
      rw [setl]
      have s3 : Same H' (upd H2 l (.lst (((cs.set at' (97 + (fi + i) % 26)).map one).map V.str))) := same_on npl sl _
      have h3 : upd H2 l (.lst (((cs.set at' (97 + (fi + i) % 26)).map one).map V.str)) l = some (.lst (((cs.set at' (97 + (fi + i) % 26)).map one).map V.str)) := upd_same
      generalize upd H2 l (.lst (((cs.set at' (97 + (fi + i) % 26)).map one).map V.str)) = H3 at s3 h3 ⊢
      have hp3 := s3 _ _ hp
      refine ⟨_, rfl, .inl ⟨rfl, _, SqL.of hp3⟩, rfl, _, rfl, _, l, (cs.set at' (97 + (fi + i) % 26)).map one, rfl, rfl, SqL.of h3, ?_, p, _, _, rfl, rfl, hp3, ?_, ?_⟩
      · unfold JoinOk
        rw [Bool.not_eq_true']
        refine StrLaws.joinFits (B := 1) (fun x hx => ?_) ?_
        · obtain ⟨c, _, rfl⟩ := List.mem_map.mp hx
          exact Nat.le_refl 1
        · rw [List.length_map, List.length_set, show (Str.ofString "").length = 0 by decide +kernel]
          omega
      · rw [List.length_map, List.length_map, List.length_range]
        exact small1000 (by omega)
      · refine ⟨same_on np (sm.trans s3) _, ?_, _, _, rfl⟩
        rw [upd_same, join_cs, List.range_succ, List.map_append, List.map_append]
        rfl
    · obtain ⟨sm, hp, v9, v10, rfl⟩ := z
      exact ⟨_, rfl, q p ((List.range 9).map (nmK cs at' fi)) H' (sm1.trans sm) hp (by rw [List.length_map, List.length_range])⟩
end
end My
namespace My
open PySem L2
open Blk (sg sg_inj sg_app)
section
variable {P : Program} {w : World} {K : PySem.W.Frag} {mg : Str → Option Value} {base : Heap}
structure FewR (rows : Rw) : Prop where
  n : rows.length ≤ 8
  t : totR rows ≤ 8
theorem tot_row {rows : Rw} {row : List Str} (h : row ∈ rows) : row.length ≤ totR rows := by
  unfold totR
  induction rows with
  | nil => cases h
  | cons a l ih =>
    rw [List.map_cons, List.sum_cons]
    rcases List.mem_cons.mp h with rfl | h
    · omega
    · have := ih h
      omega
theorem tot_set {rows : Rw} {i : Nat} {row : List Str} {k : Str} (h : rows[i]? = some row) : totR (rows.set i (row ++ [k])) = totR rows + 1 := by
  unfold totR
  induction rows generalizing i with
  | nil => cases h
  | cons a l ih =>
    cases i with
    | zero =>
      obtain rfl := Option.some.inj h
      rw [List.set_cons_zero, List.map_cons, List.map_cons, List.sum_cons, List.sum_cons, List.length_append]
      show _ + 1 + _ = _
      omega
    | succ i =>
      have := ih (i := i) h
      rw [List.set_cons_succ, List.map_cons, List.map_cons, List.sum_cons, List.sum_cons, this]
      omega
theorem tot_eq {rows : Rw} {m : Nat} (h : ∀ row ∈ rows, row.length = m) : totR rows = rows.length * m := by
  unfold totR
  induction rows with
  | nil => rw [List.map_nil, List.length_nil, Nat.zero_mul]; rfl
  | cons a l ih =>
    rw [List.map_cons, List.sum_cons, h a (.head _), ih fun r hr => h r (.tail _ hr), List.length_cons, Nat.succ_mul]
    omega
def RowsN (H0 H : Hp) (r : Addr) (rows : Rw) : Prop := ∃ ps : List Addr, H0 r = none ∧ H r = some (.lst (ps.map V.ref)) ∧ ps.Nodup ∧ (∀ p ∈ ps, H0 p = none ∧ p ≠ r) ∧ Paired (fun p row => H p = some (.lst (row.map V.str))) ps rows
theorem RowsN.at_ {H0 H : Hp} {r : Addr} {rows : Rw} (x : RowsN H0 H r rows) : RowsAt H r rows := by
  obtain ⟨ps, _, h1, _, _, h2⟩ := x
  exact ⟨ps, h1, h2⟩
theorem paired_in {α β : Type} {F F' : α → β → Prop} : ∀ {xs : List α} {ys : List β}, Paired F xs ys → (∀ x ∈ xs, ∀ y, F x y → F' x y) → Paired F' xs ys
  | _, _, .nil, _ => .nil
  | _, _, .cons r t, h => .cons (h _ (.head _) _ r) (paired_in t fun x hx => h x (.tail _ hx))
theorem paired_put {G : Hp} {row' : List Str} : ∀ {ps : List Addr} {rows : Rw} {i : Nat} {p : Addr}, Paired (fun p row => G p = some (.lst (row.map V.str))) ps rows → ps.Nodup → ps[i]? = some p → Paired (fun q row => (upd G p (.lst (row'.map V.str))) q = some (.lst (row.map V.str))) ps (rows.set i row')
  | _, _, 0, p, .cons r t, nd, e => by
    obtain rfl := Option.some.inj e
    rw [List.nodup_cons] at nd
    exact .cons upd_same (paired_in t fun q hq y e => by rw [upd_ne (fun z => nd.1 (by rw [← z]; exact hq))]; exact e)
  | _, _, i + 1, p, .cons r t, nd, e => by
    rw [List.nodup_cons] at nd
    have e' : (_ : List Addr)[i]? = some p := e
    exact .cons (by rw [upd_ne (fun z => nd.1 (by rw [z]; exact List.mem_of_getElem? e'))]; exact r) (paired_put t nd.2 e')
theorem strs_of {us : List V} (h : ∀ (i : Nat) y, us[i]? = some y → ∃ k : Str, y = .str k) : ∃ row : List Str, us = row.map V.str := by
  induction us with
  | nil => exact ⟨[], rfl⟩
  | cons y r ih =>
    obtain ⟨k, rfl⟩ := h 0 y rfl
    obtain ⟨zs, rfl⟩ := ih fun i y e => h (i + 1) y e
    exact ⟨k :: zs, rfl⟩
theorem rows_of {G : Hp} {m : Nat} {us : List V} (h : ∀ (i : Nat) y, us[i]? = some y → ∃ p row, y = .ref p ∧ G p = some (.lst (List.map V.str row)) ∧ row.length = m) : ∃ (ps : List Addr) (rows : Rw), us = ps.map V.ref ∧ Paired (fun p row => G p = some (.lst (row.map V.str))) ps rows ∧ ∀ row ∈ rows, row.length = m := by
  induction us with
  | nil => exact ⟨[], [], rfl, .nil, fun _ z => absurd z List.not_mem_nil⟩
  | cons y r ih =>
    obtain ⟨p, row, rfl, h1, h2⟩ := h 0 y rfl
    obtain ⟨ps, rows, rfl, g1, g2⟩ := ih fun i y e => h (i + 1) y e
    refine ⟨p :: ps, row :: rows, rfl, .cons h1 g1, fun x hx => ?_⟩
    rcases List.mem_cons.mp hx with rfl | hx
    · exact h2
    · exact g2 x hx
theorem each {us xs : List V} {G : V → V → Prop} (hl : us.length = xs.length) (hg : ∀ (i : Nat) x y, xs[i]? = some x → us[i]? = some y → G x y) : ∀ (i : Nat) y, us[i]? = some y → ∃ x, G x y := fun i y e => by
  have li := (List.getElem?_eq_some_iff.mp e).1
  exact ⟨xs[i], hg i _ y (List.getElem?_eq_getElem (by omega)) e⟩
theorem str_of {ns : List Str} {j : Nat} {v : V} (h : (ns.map V.str)[j]? = some v) : ∃ z, v = V.str z := by
  rw [List.getElem?_map] at h
  cases e : ns[j]? with
  | none => rw [e] at h; cases h
  | some z => rw [e] at h; exact ⟨z, (Option.some.inj h).symm⟩
theorem rowsN_put {H0 G : Hp} {r p : Addr} {rows : Rw} {i : Nat} {row : List Str} {k : Str} {ps : List Addr} (h0 : H0 r = none) (hr : G r = some (.lst (ps.map V.ref))) (nd : ps.Nodup) (hn : ∀ p ∈ ps, H0 p = none ∧ p ≠ r) (rel : Paired (fun p row => G p = some (.lst (row.map V.str))) ps rows) (hp : ps[i]? = some p) : RowsN H0 (upd G p (.lst (row.map V.str ++ [.str k]))) r (rows.set i (row ++ [k])) := by
  have pm := List.mem_of_getElem? hp
  have e : row.map V.str ++ [V.str k] = (row ++ [k]).map V.str := by rw [List.map_append]; rfl
  rw [e]
  exact ⟨ps, h0, by rw [upd_ne (Ne.symm (hn p pm).2)]; exact hr, nd, hn, paired_put rel nd hp⟩
def sp__law_rows (K : PySem.W.Frag) : Sp := fun vs H Q _ => ∃ (a kl : Addr) (ns : List Str), vs = [.ref a, .ref kl] ∧ Scr K H a ∧ H kl = some (.lst (ns.map V.str)) ∧ ns.length = 9 ∧ ∀ r H' rows, Same H H' → RowsAt H' r rows → FewR rows → Q (.ref r) H'
theorem sc__law_rows : FnScope ["_law_script", "_law_kinds", "_law_many", "_law_count", "_law_used", "_law_rows_here", "_law_k", "_law_way"] ["_law_script", "_law_kinds"] (defScope s__law_rows) := ⟨rfl, rfl, rfl, by decide +kernel, rfl, by decide +kernel, by decide +kernel⟩
theorem ok__law_rows {fa cBadLine cUnknown cTwice cNotNow cTooMuch cDry cOver cNowhere cBusy cNoHeap cNoPrinter cGoesRound cNoWay cHallError : Addr} {fd : FuncData} (F : Fun K "_law_rows" "_law_rows" s__law_rows fa fd) (T : Txt K mg cBadLine cUnknown cTwice cNotNow cTooMuch cDry cOver cNowhere cBusy cNoHeap cNoPrinter cGoesRound cNoWay cHallError) (D__law_draw : Dfn P w K mg base 1 "_law_draw" ["_law_script", "_law_k", "_law_many"] (sp__law_draw K)) :
    FnOk P w K mg base CX0 2 fa fd ["_law_script", "_law_kinds"] (sp__law_rows K) := by
  refine F.ok sc__law_rows (fun vs H Q E h => ?_) (fun cdv A outer s H vs Q E hr h => ?_)
  · obtain ⟨a, kl, ns, rfl, _⟩ := h
    rfl
  obtain ⟨a, kl, ns, rfl, hS, hk, l9, q⟩ := h
  refine ⟨_, (pss_cons (ps_set (i := 2) sc__law_rows.nd rfl (by first | exact Or.inl rfl | exact Or.inr rfl) (pe_callD D__law_draw (hr.mono (by decide)) rfl (pa_cons (pv 0) (pa_cons pe_int (pa_cons pe_int pa_nil)))))
  (pss_cons (ps_set (i := 3) sc__law_rows.nd rfl (by first | exact Or.inl rfl | exact Or.inr rfl) (pe_callD D__law_draw (hr.mono (by decide)) rfl (pa_cons (pv 0) (pa_cons pe_int (pa_cons pe_int pa_nil)))))
  (pss_cons (ps_set (i := 4) sc__law_rows.nd rfl (by first | exact Or.inl rfl | exact Or.inr rfl) (pe_op op_add pe_int (pe_callD D__law_draw (hr.mono (by decide)) rfl (pa_cons (pv 0) (pa_cons pe_int (pa_cons pe_int pa_nil))))))
  (pss_cons (ps_comp (i := 5) (frees := []) ⟨by decide +kernel, rfl, rfl, by decide +kernel, trivial, by decide +kernel, cellsFor_at rfl, rfl⟩ sc__law_rows.nd rfl rfl rfl (pi_range1 rfl T.range (pa_cons (pv 3) pa_nil)) (fun _ _ _ _ => pifs_nil) (fun _ _ _ _ => by exact (pe_lst pa_nil)))
  (pss_cons (ps_if (pt_cmpR op_gt (pv 3) pe_int (nomark _)) (pss_one (ps_for PassesOwn.never rfl (pi_range1 rfl T.range (pa_cons (pv 2) pa_nil)) (pg_name (i := 6) sc__law_rows.nd rfl (by first | exact Or.inl rfl | exact Or.inr rfl))
  (pss_one (ps_expr (pe_bm PySem.F.plainAttrs_list PySem.F.slot_list_append PySem.F.type_list_append mt_append (pe_ix ix_listA (pv 5) (pe_callD D__law_draw (hr.mono (by decide)) rfl (pa_cons (pv 0) (pa_cons (pe_op op_add pe_int (pv 6)) (pa_cons (pv 3) pa_nil)))) (fun _ _ => rfl)) (pa_cons (pe_ix ix_listA (pv 1) (pe_callD D__law_draw (hr.mono (by decide)) rfl (pa_cons (pv 0) (pa_cons (pe_op op_add pe_int (pv 6)) (pa_cons (pv 4) pa_nil)))) (fun _ _ => rfl)) pa_nil)))))) pss_nil)
  (pss_cons (ps_set (i := 7) sc__law_rows.nd rfl (by first | exact Or.inl rfl | exact Or.inr rfl) (pe_callD D__law_draw (hr.mono (by decide)) rfl (pa_cons (pv 0) (pa_cons pe_int (pa_cons pe_int pa_nil)))))
  (pss_cons (ps_if (pt_cmpR op_eq (pv 7) pe_int (nomark _)) (pss_one (ps_compC (i := 5) (frees := [("_law_kinds", 1), ("_law_script", 0)]) ⟨by decide +kernel, rfl, rfl, by decide +kernel, ⟨⟨rfl, rfl, rfl, by decide +kernel⟩, ⟨⟨rfl, rfl, rfl, by decide +kernel⟩, trivial⟩⟩, by decide +kernel, cellsFor_at rfl, rfl⟩ sc__law_rows.nd rfl rfl rfl (pi_range1 rfl T.range (pa_cons pe_int pa_nil)) (fun _ _ _ _ => pifs_nil) (fun _ _ _ _ => by exact (pe_comp (frees := [("_law_kinds", 1), ("_law_script", 2), ("_law_k", 0)]) ⟨by decide +kernel, rfl, rfl, by decide +kernel, ⟨⟨rfl, rfl, rfl, by decide +kernel⟩, ⟨⟨rfl, rfl, rfl, by decide +kernel⟩, ⟨⟨rfl, rfl, rfl, by decide +kernel⟩, trivial⟩⟩⟩, by decide +kernel, cellsFor_at rfl, rfl⟩ rfl (pi_range1 rfl T.range (pa_cons pe_int pa_nil)) (fun _ _ _ _ => pifs_nil) (fun _ _ _ _ => by exact (pe_ixK (K := K) (r := rIxLA) rfl ix_listA (pv 1) (pe_callD D__law_draw (hr.mono (by decide)) rfl (pa_cons (pv 2) (pa_cons (pe_op op_add (pe_op op_add pe_int (pe_op op_mul pe_int (pv 3))) (pv 0)) (pa_cons pe_int pa_nil)))) (fun _ _ => rfl))))))) pss_nil)
  (pss_cons (ps_if (pt_cmpR op_eq (pv 7) pe_int (nomark _)) (pss_one (ps_comp (i := 5) (frees := [("_law_kinds", 1), ("_law_script", 0)]) ⟨by decide +kernel, rfl, rfl, by decide +kernel, ⟨⟨rfl, rfl, rfl, by decide +kernel⟩, ⟨⟨rfl, rfl, rfl, by decide +kernel⟩, trivial⟩⟩, by decide +kernel, cellsFor_at rfl, rfl⟩ sc__law_rows.nd rfl rfl rfl (pi_range1 rfl T.range (pa_cons pe_int pa_nil)) (fun _ _ _ _ => pifs_nil) (fun _ _ _ _ => by exact (pe_lst (pa_cons (pe_ixK (K := K) (r := rIxLA) rfl ix_listA (pv 1) (pe_callD D__law_draw (hr.mono (by decide)) rfl (pa_cons (pv 2) (pa_cons (pe_op op_add pe_int (pv 0)) (pa_cons pe_int pa_nil)))) (fun _ _ => rfl)) pa_nil))))) pss_nil)
  (pss_cons (ps_if (pt_cmpR op_eq (pv 7) pe_int (nomark _)) (pss_one (ps_set (i := 5) sc__law_rows.nd rfl (by first | exact Or.inl rfl | exact Or.inr rfl) (pe_lst (pa_cons (pe_comp (frees := [("_law_kinds", 1), ("_law_script", 0)]) ⟨by decide +kernel, rfl, rfl, by decide +kernel, ⟨⟨rfl, rfl, rfl, by decide +kernel⟩, ⟨⟨rfl, rfl, rfl, by decide +kernel⟩, trivial⟩⟩, by decide +kernel, cellsFor_at rfl, rfl⟩ rfl (pi_range1 rfl T.range (pa_cons pe_int pa_nil)) (fun _ _ _ _ => pifs_nil) (fun _ _ _ _ => by exact (pe_ixK (K := K) (r := rIxLA) rfl ix_listA (pv 1) (pe_callD D__law_draw (hr.mono (by decide)) rfl (pa_cons (pv 2) (pa_cons (pe_op op_add pe_int (pv 0)) (pa_cons pe_int pa_nil)))) (fun _ _ => rfl)))) pa_nil)))) pss_nil)
  (pss_one (ps_ret (pv 5)))))))))))), ?_⟩
  refine ⟨_, rfl, a, _, _, rfl, hS, by decide, by decide, by decide, fun many m0 m1 => ?_⟩
  refine ⟨_, rfl, a, _, _, rfl, hS, by decide, by decide, by decide, fun count c0 c1 => ?_⟩
  refine ⟨_, rfl, a, _, _, rfl, hS, by decide, by decide, by decide, fun used u0 u1 => ⟨_, _, rfl, rfl, ?_⟩⟩
  obtain ⟨c, rfl⟩ : ∃ c : Nat, count = (c : Int) := ⟨count.toNat, by omega⟩
  obtain ⟨mn, rfl⟩ : ∃ c : Nat, many = (c : Int) := ⟨many.toNat, by omega⟩
  refine ⟨_, rfl, _, rfl, by omega, by omega, ?_⟩
  refine compB_inv (seq_range 0 ((c : Int)).toNat H) (fun D i ys G => ∃ ps : List Addr, ys = ps.map V.ref ∧ ps.length = i ∧ Same H G ∧ H D = none ∧ G D = some (.lst ys) ∧ ps.Nodup ∧ ∀ p ∈ ps, H p = none ∧ p ≠ D ∧ G p = some (.lst [])) (by rw [List.length_map, List.length_range]; exact small1000 (by omega)) (fun D nD => ⟨[], rfl, rfl, same_new nD _, nD, upd_same, List.nodup_nil, fun p hp => absurd hp List.not_mem_nil⟩) (fun D i ys G z => ?_) (fun D i x ys G N hx nD z nx => ?_) (fun D ys G nD z => ?_)
  · obtain ⟨ps, rfl, lp, sm, nD, hD, _⟩ := z
    exact ⟨sm, hD, by rw [List.length_map, lp]; exact Nat.le_refl _⟩
  · obtain ⟨ps, rfl, lp, sm, nD, hD, nd, hp⟩ := z
    refine iteT ⟨small (by decide), fun p np => ?_⟩
    have s1 := same_new np (.lst [])
    have npD : p ≠ D := fun z => by rw [z, hD] at np; cases np
    refine ⟨s1 _ _ hD, nx _ _ ⟨ps ++ [p], by rw [List.map_append]; rfl, by rw [List.length_append, lp]; rfl, same_on nD (sm.trans s1) _, nD, upd_same, nd_snoc nd fun z => ?_, fun p' hp' => ?_⟩⟩
    · have := (hp p z).2.2
      rw [np] at this
      cases this
    · rcases List.mem_append.mp hp' with h | h
      · obtain ⟨h1, h2, h3⟩ := hp p' h
        exact ⟨h1, h2, by rw [upd_ne h2]; exact s1 _ _ h3⟩
      · rw [List.mem_singleton.mp h]
        exact ⟨sm.free np, npD, by rw [upd_ne npD, upd_same]⟩
  obtain ⟨ps, rfl, lp, sm, _, hD, nd, hp⟩ := z
  rw [List.length_map, List.length_range] at lp
  have go : ∀ (l : List Addr) (n : Nat), l.length = n → (∀ p ∈ l, G p = some (.lst [])) → Paired (fun p row => G p = some (.lst (List.map V.str row))) l (List.replicate n []) := by
    intro l
    induction l with
    | nil => intro n e _; subst e; exact .nil
    | cons x l ih => intro n e h; subst e; exact .cons (h x (.head _)) (ih _ rfl fun p hp => h p (.tail _ hp))
  have R0 : RowsN H G D (List.replicate c []) := ⟨ps, nD, hD, nd, fun p h => ⟨(hp p h).1, (hp p h).2.1⟩, go ps c (by omega) fun p h => (hp p h).2.2⟩
  have t0 : totR (List.replicate c []) = 0 := by rw [tot_eq (m := 0) fun row h => by rw [List.eq_of_mem_replicate h]; rfl]; exact Nat.mul_zero _
  dsimp only [gName]
  refine seq_cut (fun σ G => ∃ rows v6 v7, σ = [some (.ref a), some (.ref kl), some (.int (mn : Int)), some (.int (c : Int)), some (.int (1 + used)), some (.ref D), v6, v7] ∧ Same H G ∧ RowsAt G D rows ∧ FewR rows) (fun R hR => ?_) ?_
  · refine ⟨_, rfl, _, _, rfl, rfl, _, rfl, ?_⟩
    refine ite2 (fun cc => ?_) (fun cc => hR _ _ ⟨_, _, _, rfl, sm, R0.at_, by rw [List.length_replicate]; omega, by omega⟩)
    have cc' : (0 : Int) < (c : Int) := of_decide_eq_true cc
    refine ⟨_, rfl, _, rfl, by omega, by omega, ?_⟩
    refine for_range (lo := 0) (n := ((mn : Int)).toNat) (fun i σ G => Same H G ∧ (∃ rows, RowsN H G D rows ∧ rows.length = c ∧ totR rows = i) ∧ ∃ v6 v7, σ = [some (.ref a), some (.ref kl), some (.int (mn : Int)), some (.int (c : Int)), some (.int (1 + used)), some (.ref D), v6, v7]) ⟨sm, ⟨_, R0, List.length_replicate, t0⟩, _, _, rfl⟩ (fun i σ G hi z => ?_) (fun σ G z => ?_)
    · obtain ⟨sm2, ⟨rows, ⟨ps, _, hr5, nd5, hn5, rel5⟩, lr, tr⟩, v6, v7, rfl⟩ := z
      have i7 : i < 7 := by omega
      have hS2 := hS.same sm2
      have lp5 : ps.length = c := by rw [Paired.length rel5, lr]
      refine ⟨_, rfl, _, rfl, _, rfl, _, _, rfl, rfl, _, rfl, a, _, _, rfl, hS2, by omega, by omega, by omega, fun x x0 x1 => ?_⟩
      refine ⟨D, _, _, rfl, rfl, SqL.of hr5, x0, by rw [List.length_map, lp5]; exact x1, fun v hv => ?_⟩
      rw [List.getElem?_map] at hv
      obtain ⟨p, hp', rfl⟩ := Option.map_eq_some_iff.mp hv
      obtain ⟨row, hrow, prow⟩ := paired_at' rel5 hp'
      refine ⟨.inl ⟨rfl, _, SqL.of prow⟩, _, rfl, _, rfl, _, rfl, _, _, rfl, rfl, _, rfl, a, _, _, rfl, hS2, by omega, by omega, by omega, fun y y0 y1 => ?_⟩
      refine ⟨kl, _, _, rfl, rfl, SqL.of (sm2 _ _ hk), y0, by rw [List.length_map, l9]; omega, fun v hv => ?_⟩
      obtain ⟨k, rfl⟩ := str_of hv
      have lrow : row.length ≤ 7 := by
        have := tot_row (List.mem_of_getElem? hrow)
        omega
      refine ⟨p, _, _, rfl, rfl, prow, by rw [List.length_map]; exact small1000 (by omega), ?_⟩
      refine ⟨same_on (hn5 p (List.mem_of_getElem? hp')).1 sm2 _, ⟨_, rowsN_put nD hr5 nd5 hn5 rel5 hp', by rw [List.length_set]; exact lr, by rw [tot_set hrow, tr]⟩, _, _, rfl⟩
    · obtain ⟨sm2, ⟨rows, RN, lr, tr⟩, v6, v7, rfl⟩ := z
      exact hR _ _ ⟨_, _, _, rfl, sm2, RN.at_, by omega, by omega⟩
  clear go hp hD t0 R0 sm nd lp
  rintro σ G ⟨rows, v6, v7, rfl, sm, RA, FR⟩
  refine ⟨_, rfl, a, _, _, rfl, hS.same sm, by decide, by decide, by decide, fun way w0 w1 => ?_⟩
  dsimp only [gName]
  have ele : ∀ {n m : Nat} {us : List V} {G : Hp} {W : Addr} {xs : List V}, xs.length = n → us.length = xs.length → G W = some (.lst us) → (∀ (i : Nat) x y, xs[i]? = some x → us[i]? = some y → ∃ (p : Addr) (row : List Str), y = .ref p ∧ G p = some (.lst (row.map V.str)) ∧ row.length = m) → n ≤ 8 → n * m ≤ 8 → ∃ rows, RowsAt G W rows ∧ FewR rows := fun {n m us G W xs} hx hl hW hg h8 hm => by
    obtain ⟨ps, rows, rfl, rel, hm2⟩ := rows_of (m := m) (G := G) (us := us) fun i y e => (each (G := fun _ y => ∃ (p : Addr) (row : List Str), y = .ref p ∧ G p = some (.lst (row.map V.str)) ∧ row.length = m) hl hg i y e).elim fun _ h => h
    have lr : rows.length = n := by rw [← Paired.length rel, ← hx, ← hl, List.length_map]
    exact ⟨rows, ⟨ps, hW, rel⟩, by omega, by rw [tot_eq hm2, lr]; exact hm⟩
  refine seq_cut (fun σ G => ∃ r rows v6, σ = [some (.ref a), some (.ref kl), some (.int (mn : Int)), some (.int (c : Int)), some (.int (1 + used)), some (.ref r), v6, some (.int way)] ∧ Same H G ∧ RowsAt G r rows ∧ FewR rows) (fun R hR => ?_) ?_
  · refine ⟨_, rfl, rfl, _, rfl, ite2 (fun _ => ?_) (fun _ => hR _ _ ⟨_, _, _, rfl, sm, RA, FR⟩)⟩
    refine ⟨_, rfl, by decide, by decide, ?_⟩
    refine compB_mk (seq_range 0 (4 : Int).toNat G) (fun x y H3 => ∃ (p : Addr) (row : List Str), y = .ref p ∧ H3 p = some (.lst (row.map V.str)) ∧ row.length = 2) (by rw [List.length_map, List.length_range]; exact small1000 (by decide)) (fun x hx' H' R _ r => r) (fun x hx' H' R s3 rr => ?_) (fun W G3 us s3 nW hW hl3 hg => ?_)
    · obtain ⟨j, hj, rfl⟩ := List.mem_map.mp hx'
      have j4 : j < 4 := List.mem_range.mp hj
      refine ⟨_, rfl, by decide, by decide, ?_⟩
      refine compB_mk (seq_range 0 (2 : Int).toNat H') (fun x y H3 => ∃ k : Str, y = .str k) (by rw [List.length_map, List.length_range]; exact small1000 (by decide)) (fun x hx' H' R _ r => r) (fun x hx' H'' R s4 rr => ?_) (fun W G3 us s4 nW hW hl3 hg => ?_)
      · obtain ⟨i, hi, rfl⟩ := List.mem_map.mp hx'
        have i2 : i < 2 := List.mem_range.mp hi
        have s5 := (sm.trans s3).trans s4
        refine ⟨_, rfl, _, rfl, _, rfl, _, _, rfl, rfl, .inl ⟨by decide, by decide⟩, _, _, rfl, rfl, _, rfl, _, _, rfl, rfl, a, _, _, rfl, hS.same s5, by omega, by omega, by decide, fun y y0 y1 => ?_⟩
        refine ⟨kl, _, _, rfl, rfl, SqL.of (s5 _ _ hk), y0, by rw [List.length_map, l9]; omega, fun v hv => ?_⟩
        obtain ⟨k, rfl⟩ := str_of hv
        exact rr _ _ (Same.refl _) (new_triv ⟨k, rfl⟩)
      · obtain ⟨row, rfl⟩ := strs_of (us := us) fun i y e => (each (G := fun _ y => ∃ k : Str, y = .str k) hl3 hg i y e).elim fun _ h => h
        rw [List.length_map, List.length_map, List.length_range] at hl3
        exact rr _ _ s4 ⟨fun z => z = W, fun z ez => by rw [ez]; exact ⟨nW, _, hW⟩, fun H3 h3 => ⟨W, row, rfl, by rw [h3 W rfl]; exact hW, hl3⟩⟩
    · obtain ⟨rows', RA', FR'⟩ := ele (n := 4) (m := 2) (by rw [List.length_map, List.length_range]; rfl) hl3 hW hg (by decide) (by decide)
      exact hR _ _ ⟨W, rows', _, rfl, sm.trans s3, RA', FR'⟩
  clear RA FR sm G
  rintro σ G ⟨r, rows, v6, rfl, sm, RA, FR⟩
  refine seq_cut (fun σ G => ∃ r rows v6, σ = [some (.ref a), some (.ref kl), some (.int (mn : Int)), some (.int (c : Int)), some (.int (1 + used)), some (.ref r), v6, some (.int way)] ∧ Same H G ∧ RowsAt G r rows ∧ FewR rows) (fun R hR => ?_) ?_
  · refine ⟨_, rfl, rfl, _, rfl, ite2 (fun _ => ?_) (fun _ => hR _ _ ⟨_, _, _, rfl, sm, RA, FR⟩)⟩
    refine ⟨_, rfl, by decide, by decide, ?_⟩
    refine compB_mk (seq_range 0 (8 : Int).toNat G) (fun x y H3 => ∃ (p : Addr) (row : List Str), y = .ref p ∧ H3 p = some (.lst (row.map V.str)) ∧ row.length = 1) (by rw [List.length_map, List.length_range]; exact small1000 (by decide)) (fun x hx' H' R _ r => r) (fun x hx' H' R s3 rr => ?_) (fun W G3 us s3 nW hW hl3 hg => ?_)
    · obtain ⟨j, hj, rfl⟩ := List.mem_map.mp hx'
      have j4 : j < 8 := List.mem_range.mp hj
      have s5 := sm.trans s3
      refine ⟨_, rfl, _, rfl, _, rfl, _, _, rfl, rfl, a, _, _, rfl, hS.same s5, by omega, by omega, by decide, fun y y0 y1 => ?_⟩
      refine ⟨kl, _, _, rfl, rfl, SqL.of (s5 _ _ hk), y0, by rw [List.length_map, l9]; omega, fun v hv => ?_⟩
      obtain ⟨k, rfl⟩ := str_of hv
      refine ⟨small (by show 1 ≤ 1000; decide), fun W nW => ?_⟩
      exact rr _ _ (same_new nW _) ⟨fun z => z = W, fun z ez => by rw [ez]; exact ⟨nW, _, upd_same⟩, fun H3 h3 => ⟨W, [k], rfl, by rw [h3 W rfl, upd_same]; rfl, rfl⟩⟩
    · obtain ⟨rows', RA', FR'⟩ := ele (n := 8) (m := 1) (by rw [List.length_map, List.length_range]; rfl) hl3 hW hg (by decide) (by decide)
      exact hR _ _ ⟨W, rows', _, rfl, sm.trans s3, RA', FR'⟩
  clear RA FR sm G
  rintro σ G ⟨r, rows, v6, rfl, sm, RA, FR⟩
  refine seq_cut (fun σ G => ∃ r rows v6, σ = [some (.ref a), some (.ref kl), some (.int (mn : Int)), some (.int (c : Int)), some (.int (1 + used)), some (.ref r), v6, some (.int way)] ∧ Same H G ∧ RowsAt G r rows ∧ FewR rows) (fun R hR => ?_) ?_
  · refine ⟨_, rfl, rfl, _, rfl, ite2 (fun _ => ?_) (fun _ => hR _ _ ⟨_, _, _, rfl, sm, RA, FR⟩)⟩
    refine ⟨_, rfl, by decide, by decide, ?_⟩
    refine compB_mk (seq_range 0 (8 : Int).toNat G) (fun x y H3 => ∃ k : Str, y = .str k) (by rw [List.length_map, List.length_range]; exact small1000 (by decide)) (fun x hx' H' R _ r => r) (fun x hx' H' R s3 rr => ?_) (fun W G3 us s3 nW hW hl3 hg => ?_)
    · obtain ⟨j, hj, rfl⟩ := List.mem_map.mp hx'
      have j4 : j < 8 := List.mem_range.mp hj
      have s5 := sm.trans s3
      refine ⟨_, rfl, _, rfl, _, rfl, _, _, rfl, rfl, a, _, _, rfl, hS.same s5, by omega, by omega, by decide, fun y y0 y1 => ?_⟩
      refine ⟨kl, _, _, rfl, rfl, SqL.of (s5 _ _ hk), y0, by rw [List.length_map, l9]; omega, fun v hv => ?_⟩
      obtain ⟨k, rfl⟩ := str_of hv
      exact rr _ _ (Same.refl _) (new_triv ⟨k, rfl⟩)
    · obtain ⟨row, rfl⟩ := strs_of (us := us) fun i y e => (each (G := fun _ y => ∃ k : Str, y = .str k) hl3 hg i y e).elim fun _ h => h
      rw [List.length_map, List.length_map, List.length_range] at hl3
      refine ⟨small (by show 1 ≤ 1000; decide), fun W2 nW2 => ?_⟩
      have s6 := same_new nW2 (.lst [V.ref W])
      refine hR _ _ ⟨W2, [row], _, rfl, (sm.trans s3).trans s6, ⟨[W], upd_same, .cons (s6 _ _ hW) .nil⟩, by show 1 ≤ 8; decide, ?_⟩
      unfold totR
      show row.length + 0 ≤ 8
      rw [hl3]
      decide
  clear RA FR sm G
  rintro σ G ⟨r, rows, v6, rfl, sm, RA, FR⟩
  exact ⟨_, rfl, q r G rows sm RA FR⟩
end
end My
namespace My
open PySem L2
open Blk (sg sg_inj sg_app)
section
variable {P : Program} {w : World} {K : PySem.W.Frag} {mg : Str → Option Value} {base : Heap}
def sp__law_loaded (K : PySem.W.Frag) : Sp := fun vs H Q _ => ∃ (a kl : Addr) (ns : List Str), vs = [.ref a, .ref kl] ∧ Scr K H a ∧ H kl = some (.lst (ns.map V.str)) ∧ ns.length = 9 ∧ ∀ (z : Str) H', Same H H' → Q (.str z) H'
theorem sc__law_loaded : FnScope ["_law_script", "_law_kinds"] ["_law_script", "_law_kinds"] (defScope s__law_loaded) := ⟨rfl, rfl, rfl, by decide +kernel, rfl, by decide +kernel, by decide +kernel⟩
theorem ok__law_loaded {fa cBadLine cUnknown cTwice cNotNow cTooMuch cDry cOver cNowhere cBusy cNoHeap cNoPrinter cGoesRound cNoWay cHallError : Addr} {fd : FuncData} (F : Fun K "_law_loaded" "_law_loaded" s__law_loaded fa fd) (T : Txt K mg cBadLine cUnknown cTwice cNotNow cTooMuch cDry cOver cNowhere cBusy cNoHeap cNoPrinter cGoesRound cNoWay cHallError) (D__law_draw : Dfn P w K mg base 1 "_law_draw" ["_law_script", "_law_k", "_law_many"] (sp__law_draw K)) :
    FnOk P w K mg base CX0 2 fa fd ["_law_script", "_law_kinds"] (sp__law_loaded K) := by
  refine F.ok sc__law_loaded (fun vs H Q E h => ?_) (fun cdv A outer s H vs Q E hr h => ?_)
  · obtain ⟨a, kl, ns, rfl, _⟩ := h
    rfl
  obtain ⟨a, kl, ns, rfl, hS, hk, l9, q⟩ := h
  refine ⟨_, (pss_one (ps_ret (pe_ix ix_listA (pe_op op_cat (pe_slice sl_list (pv 1) po_none (po_some pe_int)) (pe_lst (pa_cons pe_str (pa_cons (pe_ix ix_list (pv 1) pe_int (fun _ _ => rfl)) pa_nil)))) (pe_callD D__law_draw (hr.mono (by decide)) rfl (pa_cons (pv 0) (pa_cons pe_int (pa_cons pe_int pa_nil)))) (fun _ _ => rfl)))), ?_⟩
  obtain ⟨k8, e8⟩ : ∃ k, ns[8]? = some k := ⟨_, List.getElem?_eq_getElem (by omega)⟩
  refine ⟨_, rfl, _, rfl, kl, _, rfl, SqL.of hk, fun p np => ?_⟩
  rw [show (3 : Int) = ((3 : Nat) : Int) from rfl, cut_to]
  have s1 := same_new np (.lst ((ns.map V.str).take 3))
  have hp1 : (upd H p (.lst ((ns.map V.str).take 3))) p = some (.lst ((ns.take 3).map V.str)) := by rw [upd_same, List.map_take]
  generalize upd H p (.lst ((ns.map V.str).take 3)) = H1 at s1 hp1 ⊢
  refine ⟨_, rfl, kl, _, _, _, rfl, rfl, SqL.of (s1 _ _ hk), atI_nat (j := 8) (by rw [List.getElem?_map, e8]; rfl), small (by show 2 ≤ 1000; decide), fun p2 np2 => ?_⟩
  have s2 := same_new np2 (.lst [V.str (Str.ofString ""), .str k8])
  have hp2 : (upd H1 p2 (.lst [V.str (Str.ofString ""), .str k8])) p2 = some (.lst ([Str.ofString "", k8].map V.str)) := upd_same
  generalize upd H1 p2 (.lst [V.str (Str.ofString ""), .str k8]) = H2 at s2 hp2 ⊢
  have l3 : (ns.take 3).length = 3 := by rw [List.length_take]; omega
  refine ⟨p, p2, _, _, rfl, rfl, s2 _ _ hp1, hp2, ?_, fun p3 np3 => ?_⟩
  · rw [List.length_map, l3]
    exact small (by show 3 + 2 ≤ 1000; decide)
  rw [← List.map_append]
  have s3 := same_new np3 (.lst ((ns.take 3 ++ [Str.ofString "", k8]).map V.str))
  have hp3 : (upd H2 p3 (.lst ((ns.take 3 ++ [Str.ofString "", k8]).map V.str))) p3 = some (.lst ((ns.take 3 ++ [Str.ofString "", k8]).map V.str)) := upd_same
  generalize upd H2 p3 (.lst ((ns.take 3 ++ [Str.ofString "", k8]).map V.str)) = H3 at s3 hp3 ⊢
  have s13 := s1.trans (s2.trans s3)
  refine ⟨_, rfl, a, _, _, rfl, hS.same s13, by decide, by decide, by decide, fun x x0 x1 => ?_⟩
  refine ⟨p3, _, _, rfl, rfl, SqL.of hp3, x0, by rw [List.length_map, List.length_append, l3]; exact x1, fun v hv => ?_⟩
  obtain ⟨z, rfl⟩ := str_of hv
  exact q z H3 s13
def sp__law_nexts (_K : PySem.W.Frag) : Sp := fun vs H Q _ => ∃ (b r : Addr) (s : SS) (rows : Rw), vs = [.ref r, .ref b] ∧ StA H b s ∧ RowsAt H r rows ∧ Wf rows s ∧ rows.length ≤ 60 ∧ ∀ l H', Same H H' → H l = none → StL H' l ((nexts rows s).map (·.2)) → Q (.ref l) H'
theorem sc__law_nexts : FnScope ["_law_rows_here", "_law_state", "_law_some", "_law_k", "_law_done"] ["_law_rows_here", "_law_state"] (defScope s__law_nexts) := ⟨rfl, rfl, rfl, by decide +kernel, rfl, by decide +kernel, by decide +kernel⟩
theorem ok__law_nexts {fa cBadLine cUnknown cTwice cNotNow cTooMuch cDry cOver cNowhere cBusy cNoHeap cNoPrinter cGoesRound cNoWay cHallError : Addr} {fd : FuncData} (F : Fun K "_law_nexts" "_law_nexts" s__law_nexts fa fd) (T : Txt K mg cBadLine cUnknown cTwice cNotNow cTooMuch cDry cOver cNowhere cBusy cNoHeap cNoPrinter cGoesRound cNoWay cHallError)  :
    FnOk P w K mg base CX0 1 fa fd ["_law_rows_here", "_law_state"] (sp__law_nexts K) := by
  refine F.ok sc__law_nexts (fun vs H Q E h => ?_) (fun cdv A outer s H vs Q E hr h => ?_)
  · obtain ⟨b, r, s, rows, rfl, _⟩ := h
    rfl
  obtain ⟨b, r, s, rows, rfl, ⟨d, hb, hd⟩, hr0, wf, lr, q⟩ := h
  obtain ⟨ps, hp, rel⟩ := id hr0
  have lps : ps.length = rows.length := Paired.length rel
  refine ⟨_, (pss_cons (ps_set (i := 2) sc__law_nexts.nd rfl (by first | exact Or.inl rfl | exact Or.inr rfl) (pe_lst pa_nil))
  (pss_cons (ps_for PassesOwn.never rfl (pi_range1 rfl T.range (pa_cons (pe_callB call_len_seq rfl T.len PySem.boot_len (pa_cons (pv 0) pa_nil)) pa_nil)) (pg_name (i := 3) sc__law_nexts.nd rfl (by first | exact Or.inl rfl | exact Or.inr rfl))
  (pss_cons (ps_set (i := 4) sc__law_nexts.nd rfl (by first | exact Or.inl rfl | exact Or.inr rfl) (pe_ix ix_tup (pe_ix ix_tup (pv 1) pe_int (fun _ _ => rfl)) (pv 3) (fun _ _ => rfl)))
  (pss_one (ps_if (pt_cmpR op_lt (pv 4) (pe_callB call_len_seq rfl T.len PySem.boot_len (pa_cons (pe_ix ix_listA (pv 0) (pv 3) (fun _ _ => rfl)) pa_nil)) (nomark _)) (pss_one (ps_expr (pe_bm PySem.F.plainAttrs_list PySem.F.slot_list_append PySem.F.type_list_append mt_append (pv 2) (pa_cons (pe_tup (pa_cons (pe_op op_catU (pe_op op_catU (pe_slice sl_tup (pe_ix ix_tup (pv 1) pe_int (fun _ _ => rfl)) po_none (po_some (pv 3))) (pe_tup (pa_cons (pe_op op_add (pv 4) pe_int) pa_nil))) (pe_slice sl_tup (pe_ix ix_tup (pv 1) pe_int (fun _ _ => rfl)) (po_some (pe_op op_add (pv 3) pe_int)) po_none)) (pa_cons (pe_ix ix_listA (pe_ix ix_listA (pv 0) (pv 3) (fun _ _ => rfl)) (pv 4) (fun _ _ => rfl)) pa_nil))) pa_nil)))) pss_nil))))
  (pss_one (ps_ret (pv 2))))), ?_⟩
  refine ⟨small (by decide), fun l nl => ?_⟩
  have s1 := same_new nl (.lst [])
  have hl1 : (upd H l (.lst [])) l = some (.lst (([] : List Addr).map V.ref)) := upd_same
  generalize upd H l (.lst []) = H1 at s1 hl1 ⊢
  refine ⟨_, rfl, r, _, rfl, .inl (SqL.of (s1 _ _ hp)), _, rfl, by rw [List.length_map]; omega, by rw [List.length_map]; omega, for_range (lo := 0) (n := (((ps.map V.ref).length : Nat) : Int).toNat) (fun i σ G => Same H G ∧ StL G l (((List.range i).filterMap (stepAt rows s)).map (·.2)) ∧ ∃ v3 v4 : Option V, σ = [some (.ref r), some (.ref b), some (.ref l), v3, v4]) ⟨s1, ⟨[], hl1, .nil⟩, _, _, rfl⟩ (fun i σ G hi z => ?_) (fun σ G z => ?_)⟩
  · obtain ⟨sm, ⟨ms, hm, rm⟩, v3, v4, rfl⟩ := z
    rw [Int.zero_add]
    have li : i < rows.length := by
      rw [List.length_map] at hi
      omega
    obtain ⟨row, hrow⟩ : ∃ row, rows[i]? = some row := ⟨_, List.getElem?_eq_getElem li⟩
    obtain ⟨p, hp', prow⟩ := paired_at rel hrow
    have hpv : (ps.map V.ref)[i]? = some (.ref p) := by rw [List.getElem?_map, hp']; rfl
    have lds : i < s.1.length := by rw [wf]; exact li
    have grow : rows.getD i [] = row := by rw [List.getD_eq_getElem?_getD, hrow]; rfl
    have hbG := sm _ _ hb
    have hdG := sm _ _ hd
    have hpG := sm _ _ prow
    have hrG := sm _ _ hp
    have rng : (List.range (i + 1)).filterMap (stepAt rows s) = (List.range i).filterMap (stepAt rows s) ++ (stepAt rows s i).toList := by
      rw [List.range_succ, List.filterMap_append]
      cases e : stepAt rows s i with
      | none => simp [List.filterMap_cons, e]
      | some t => simp [List.filterMap_cons, e]
    have ln : lenAt rows i = row.length := by unfold lenAt; rw [grow]
    have di := ds_at lds
    have ldv : (dsV s.1).length = s.1.length := List.length_map _
    have rowAt : ∀ {G' : Hp} {R : VK}, Same G G' → R (.ref p) G' → rIxLA K (.ref r) (.int (i : Int)) G' R := fun {G' R} s' rr => by
      refine ⟨r, _, _, rfl, rfl, SqL.of (s' _ _ hrG), by omega, by rw [List.length_map]; omega, fun v hv => ?_⟩
      rw [Int.toNat_natCast, hpv] at hv
      obtain rfl := Option.some.inj hv
      exact rr
    refine ⟨_, rfl, b, _, _, _, rfl, rfl, SqT.of hbG, atI_nat (j := 0) rfl, _, rfl, d, _, _, _, rfl, rfl, SqT.of hdG, atI_nat di, ?_⟩
    refine ⟨_, rfl, _, rfl, _, rfl, rowAt (Same.refl _) ⟨p, _, rfl, .inl (SqL.of hpG), _, _, rfl, rfl, _, rfl, ?_⟩⟩
    rw [List.length_map]
    by_cases c1 : s.1.getD i 0 < row.length
    · rw [decide_eq_true (show ((s.1.getD i 0 : Nat) : Int) < ((row.length : Nat) : Int) by omega)]
      have st : stepAt rows s i = some (i, (s.1.set i (s.1.getD i 0 + 1), row.getD (s.1.getD i 0) ⟨#[]⟩)) := by
        unfold stepAt
        rw [ln, if_pos c1, grow]
      rw [st] at rng
      refine iteT ?_
      have l60 : (dsV s.1).length ≤ 60 := by rw [ldv, wf]; exact lr
      refine ⟨_, rfl, .inl ⟨rfl, _, SqL.of hm⟩, _, rfl, b, _, _, _, rfl, rfl, SqT.of hbG, atI_nat (j := 0) rfl, _, rfl, _, rfl, cut_pre hdG lds fun t1 G3 s3 ht1 => ?_⟩
      refine ⟨_, rfl, _, _, rfl, rfl, small (by show 1 ≤ 1000; decide), fun t2 nt2 => ?_⟩
      have s4 := same_new nt2 (.tup [V.int (((s.1.getD i 0 : Nat) : Int) + 1)])
      have ht2 : (upd G3 t2 (.tup [V.int (((s.1.getD i 0 : Nat) : Int) + 1)])) t2 = some (.tup [V.int ((s.1.getD i 0 + 1 : Nat) : Int)]) := upd_same
      generalize upd G3 t2 (.tup [V.int (((s.1.getD i 0 : Nat) : Int) + 1)]) = G4 at s4 ht2 ⊢
      refine cat_any (s4 _ _ ht1) ht2 ?_ fun t3 G5 s5 ht3 => ?_
      · rw [List.length_take]
        show _ + 1 ≤ 1000
        omega
      have s35 := (s3.trans s4).trans s5
      refine ⟨_, rfl, b, _, _, _, rfl, rfl, SqT.of (s35 _ _ hbG), atI_nat (j := 0) rfl, _, rfl, _, _, rfl, rfl, _, rfl, ?_⟩
      dsimp only [tNoPart]
      refine cut_post (s35 _ _ hdG) lds fun t4 G6 s6 ht4 => ?_
      refine cat_any (s6 _ _ ht3) ht4 ?_ fun f G7 s7 hf => ?_
      · rw [List.length_append, List.length_take, List.length_drop]
        show _ + 1 + _ ≤ 1000
        omega
      rw [ds_set lds] at hf
      have s27 := (s35.trans s6).trans s7
      have hm7 := s27 _ _ hm
      have hp7 := s27 _ _ hpG
      refine ⟨_, rfl, _, rfl, rowAt s27 ⟨_, rfl, p, _, _, rfl, rfl, SqL.of hp7, by omega, by rw [List.length_map]; omega, fun v hv => ?_⟩⟩
      obtain rfl : V.str (row.getD (s.1.getD i 0) ⟨#[]⟩) = v := by
        rw [Int.toNat_natCast, List.getElem?_map, List.getElem?_eq_getElem c1] at hv
        rw [List.getD_eq_getElem?_getD, List.getElem?_eq_getElem c1]
        exact Option.some.inj hv
      refine ⟨small (by show 2 ≤ 1000; decide), fun t5 nt5 => ?_⟩
      have s8 := same_new nt5 (.tup [V.ref f, .str (row.getD (s.1.getD i 0) ⟨#[]⟩)])
      have ht5 : (upd G7 t5 (.tup [V.ref f, .str (row.getD (s.1.getD i 0) ⟨#[]⟩)])) t5 = some (.tup [V.ref f, .str (row.getD (s.1.getD i 0) ⟨#[]⟩)]) := upd_same
      have s28 := s27.trans s8
      have hm8 := s8 _ _ hm7
      have hf8 := s8 _ _ hf
      generalize upd G7 t5 (.tup [V.ref f, .str (row.getD (s.1.getD i 0) ⟨#[]⟩)]) = G8 at s8 ht5 s28 hm8 hf8 ⊢
      have lm : ms.length ≤ 60 := by
        rw [Paired.length rm, List.length_map]
        have := List.length_filterMap_le (stepAt rows s) (List.range i)
        rw [List.length_range] at this
        omega
      refine ⟨l, _, _, rfl, rfl, hm8, ?_, same_on nl (sm.trans s28) _, ?_, _, _, rfl⟩
      · rw [List.length_map]
        exact small1000 (by omega)
      · rw [rng, List.map_append]
        have tp : Tp G8 (upd G8 l (.lst (ms.map V.ref ++ [.ref t5]))) := tp_upd hm8 (by intro ys z; cases z)
        refine ⟨ms ++ [t5], by rw [upd_same, List.map_append]; rfl, paired_app (Paired.mapP rm fun _ _ e => (e.tp (tpS s28)).tp tp) (.cons ⟨f, tp _ _ ht5, tp _ _ hf8⟩ .nil)⟩
    · rw [decide_eq_false (show ¬ ((s.1.getD i 0 : Nat) : Int) < ((row.length : Nat) : Int) by omega)]
      have st : stepAt rows s i = none := by
        unfold stepAt
        rw [ln, if_neg c1]
      rw [st] at rng
      refine iteF ⟨sm, ?_, _, _, rfl⟩
      rw [rng]
      exact ⟨ms, hm, by rw [show (none : Option (Nat × SS)).toList = [] from rfl, List.append_nil]; exact rm⟩
  · obtain ⟨sm, M, v3, v4, rfl⟩ := z
    rw [List.length_map, Int.toNat_natCast, lps] at M
    exact ⟨_, rfl, q l G sm nl M⟩
end
end My
namespace My
open PySem L2
open Blk (sg sg_inj sg_app)
section
variable {P : Program} {w : World} {K : PySem.W.Frag} {mg : Str → Option Value} {base : Heap}
theorem sub_len {α : Type} [DecidableEq α] : ∀ {l m : List α}, l.Nodup → (∀ a ∈ l, a ∈ m) → l.length ≤ m.length
  | [], _, _, _ => Nat.zero_le _
  | a :: l, m, nd, h => by
    rw [List.nodup_cons] at nd
    have ha := h a (.head _)
    have ih := sub_len (m := m.erase a) nd.2 fun b hb => (List.mem_erase_of_ne (show b ≠ a from fun z => nd.1 (by rw [← z]; exact hb))).mpr (h b (.tail _ hb))
    rw [List.length_erase_of_mem ha] at ih
    have := List.length_pos_of_mem ha
    rw [List.length_cons]
    omega
theorem reach_le {rows : Rw} {f s : SS} (h : Reach rows f s) (wf : Wf rows f) (h0 : ∀ i, f.1.getD i 0 ≤ lenAt rows i) : Wf rows s ∧ ∀ i, s.1.getD i 0 ≤ lenAt rows i := by
  induction h with
  | here => exact ⟨wf, h0⟩
  | @step s t _ ht ih =>
    obtain ⟨w1, w2⟩ := ih
    obtain ⟨h1, h2, e⟩ := next_mem ht
    refine ⟨next_wf w1 ht, fun i => ?_⟩
    rw [e]
    dsimp only
    by_cases c : i = t.1
    · subst c
      rw [List.getD_eq_getElem?_getD, List.getElem?_set_self (by rw [w1]; exact h1)]
      show _ + 1 ≤ _
      omega
    · rw [List.getD_eq_getElem?_getD, List.getElem?_set_ne (Ne.symm c), ← List.getD_eq_getElem?_getD]
      exact w2 i
theorem first_le (rows : Rw) (z : Str) (i : Nat) : (firstS rows z).1.getD i 0 ≤ lenAt rows i := by
  rw [first_at]
  exact Nat.zero_le _
def pairsY (ys : YS) : List (SS × V) := ys.map fun p => (p.1, p.2.2)
theorem keys_pairs {ys : YS} {ts : List (SS × Int)} (h : pairsY ys = ts.map fun t => (t.1, V.int t.2)) : keysY ys = ts.map (·.1) := by
  have := congrArg (List.map (·.1)) h
  unfold pairsY at this
  rw [List.map_map, List.map_map] at this
  exact this
theorem prY_of {rows : Rw} {ys : YS} {L : List SS} (h : pairsY ys = (L.map fun s => (s, price rows s)).map fun t => (t.1, V.int t.2)) : PrY rows ys ∧ keysY ys = L := by
  refine ⟨fun p hp => ?_, ?_⟩
  · have m : (p.1, p.2.2) ∈ pairsY ys := List.mem_map.mpr ⟨p, hp, rfl⟩
    rw [h, List.map_map] at m
    obtain ⟨s, _, e⟩ := List.mem_map.mp m
    obtain ⟨e1, e2⟩ := Prod.mk.inj e
    rw [← e2, ← e1]
  · rw [keys_pairs h, List.map_map]
    exact List.map_id _
structure QuI (rows : Rw) (f : SS) (L S : List SS) (n : Nat) : Prop where
  nd : S.Nodup
  h0 : S[0]? = some f
  sub : ∀ s ∈ S, s ∈ L
  le : n ≤ S.length
  cl : ∀ s ∈ S.take n, ∀ t ∈ nexts rows s, t.2 ∈ S
theorem QuI.len {rows : Rw} {f : SS} {L S : List SS} {n : Nat} (q : QuI rows f L S n) : S.length ≤ L.length := sub_len q.nd q.sub
theorem QuI.all {rows : Rw} {f : SS} {L S : List SS} {n : Nat} (g : GoodL rows f L) (q : QuI rows f L S n) (e : n = S.length) : ∀ s, s ∈ S ↔ s ∈ L := fun s => by
  refine ⟨q.sub s, fun h => ?_⟩
  have r := (g.wf s h).2
  induction r with
  | here => exact List.mem_of_getElem? q.h0
  | @step s t h1 ht ih => exact q.cl s (by rw [e, List.take_length]; exact ih (g.all h1)) t ht
theorem QuI.step {rows : Rw} {f s : SS} {L S X : List SS} {n : Nat} (q : QuI rows f L S n) (hs : S[n]? = some s) (nd : (S ++ X).Nodup) (sub : ∀ s ∈ S ++ X, s ∈ L) (hx : ∀ t ∈ nexts rows s, t.2 ∈ S ++ X) : QuI rows f L (S ++ X) (n + 1) where
  nd := nd
  h0 := by
    have := q.h0
    rw [List.getElem?_append_left (List.getElem?_eq_some_iff.mp this).1]
    exact this
  sub := sub
  le := by
    have := (List.getElem?_eq_some_iff.mp hs).1
    rw [List.length_append]
    omega
  cl := fun u hu t ht => by
    have ln := (List.getElem?_eq_some_iff.mp hs).1
    rw [List.take_append_of_le_length (by omega), take_succ hs] at hu
    rcases List.mem_append.mp hu with hu | hu
    · exact List.mem_append_left _ (q.cl u hu t ht)
    · rw [List.mem_singleton.mp hu] at ht
      exact hx t ht
end
end My
namespace My
open PySem L2
open Blk (sg sg_inj sg_app)
section
variable {P : Program} {w : World} {K : PySem.W.Frag} {mg : Str → Option Value} {base : Heap}
def sp__law_told_prices (P : Program) (w : World) : Sp := fun vs H Q _ => ∃ (r pl : Addr) (rows : Rw) (ts : List (SS × Int)), vs = [.ref r, .ref pl] ∧ RowsAt H r rows ∧ rows.length ≤ 60 ∧ (∀ row ∈ rows, row.length ≤ 60) ∧ TrL H pl ts ∧ (ts.map (·.1)).Nodup ∧ ts.length ≤ 400000 ∧ (∀ t ∈ ts, Wf rows t.1 ∧ ∀ i, t.1.1.getD i 0 ≤ lenAt rows i) ∧ ∀ D H' ys, Same H H' → H D = none → YAt P w H' D ys → pairsY ys = ts.map (fun t => (t.1, V.int t.2)) → Q (.ref D) H'
theorem nd_at {α : Type} {l : List α} {i : Nat} {x : α} (nd : l.Nodup) (h : l[i]? = some x) : x ∉ l.take i := fun z => by
  obtain ⟨j, hj, e⟩ := List.mem_take_iff_getElem.mp z
  have e2 := (List.getElem?_eq_some_iff.mp h).2
  have := (List.getElem_inj nd).mp (e.trans e2.symm)
  omega
theorem cut2 {K : PySem.W.Frag} {H : Hp} {b : Addr} {x y z : V} {Q : VK} (h : H b = some (.tup [x, y, z])) (q : ∀ p, H p = none → Q (.ref p) (upd H p (.tup [x, y]))) : rSlT K (.ref b) none (some 2) H Q := by
  refine ⟨b, _, rfl, SqT.of h, fun z => ?_, fun p np => ?_⟩
  · have := z.2
    rw [show (2 : Int) = ((2 : Nat) : Int) from rfl, HT.sIx_nat] at this
    exact absurd (show min 2 3 = 3 from this) (by decide)
  · have := q p np
    rw [show (2 : Int) = ((2 : Nat) : Int) from rfl, cut_to]
    exact this
theorem sc__law_told_prices : FnScope ["_law_rows_here", "_law_prices", "_law_told", "_law_one", "_law_k"] ["_law_rows_here", "_law_prices"] (defScope s__law_told_prices) := ⟨rfl, rfl, rfl, by decide +kernel, rfl, by decide +kernel, by decide +kernel⟩
theorem ok__law_told_prices {fa cBadLine cUnknown cTwice cNotNow cTooMuch cDry cOver cNowhere cBusy cNoHeap cNoPrinter cGoesRound cNoWay cHallError : Addr} {fd : FuncData} (F : Fun K "_law_told_prices" "_law_told_prices" s__law_told_prices fa fd) (T : Txt K mg cBadLine cUnknown cTwice cNotNow cTooMuch cDry cOver cNowhere cBusy cNoHeap cNoPrinter cGoesRound cNoWay cHallError) (D__law_whole : Dfn P w K mg base 1 "_law_whole" ["_law_found"] (sp__law_whole K)) :
    FnOk P w K mg base CX0 2 fa fd ["_law_rows_here", "_law_prices"] (sp__law_told_prices P w) := by
  refine F.ok sc__law_told_prices (fun vs H Q E h => ?_) (fun cdv A outer s H vs Q E hr h => ?_)
  · obtain ⟨r, pl, rows, ts, rfl, _⟩ := h
    rfl
  obtain ⟨r, pl, rows, ts, rfl, hR, lr, lrow, ⟨as, hpl, rel⟩, nd, l4, hts, q⟩ := h
  have hu64 := hr.units
  have la : as.length = ts.length := Paired.length rel
  obtain ⟨ps, hp, relr⟩ := id hR
  have lps : ps.length = rows.length := Paired.length relr
  have sz : ∀ n : Nat, n ≤ 1000000 → n < sizeLine := fun n h => by rw [sizeLine_eq]; omega
  refine ⟨_, (pss_cons (ps_set (i := 2) sc__law_told_prices.nd rfl (by first | exact Or.inl rfl | exact Or.inr rfl) (pe_nnew (P := P) (w := w) rfl rfl))
  (pss_cons (ps_if (pt_not (pt_truth (pe_callB call_isi rfl T.isinstance bt_isi (pa_cons (pv 1) (pa_cons (pe_bltn rfl T.list bt_list (rel_ty _)) pa_nil))) (fun _ => rfl))) (pss_one (ps_ret pe_non)) pss_nil)
  (pss_cons (ps_for PassesOwn.never rfl (pi_list (pv 1)) (pg_name (i := 3) sc__law_told_prices.nd rfl (by first | exact Or.inl rfl | exact Or.inr rfl))
  (pss_cons (ps_if (PW.pt (pw_or (pt_not (pt_truth (pe_callB call_isi rfl T.isinstance bt_isi (pa_cons (pv 3) (pa_cons (pe_bltn rfl T.tuple bt_tuple (rel_ty _)) pa_nil))) (fun _ => rfl))) (pw_or (pt_cmpR op_ne (pe_callB call_len_seq rfl T.len PySem.boot_len (pa_cons (pv 3) pa_nil)) pe_int (nomark _)) (pw_or (pt_not (pt_truth (pe_callB call_isi rfl T.isinstance bt_isi (pa_cons (pe_ix ix_tup (pv 3) pe_int (fun _ _ => rfl)) (pa_cons (pe_bltn rfl T.tuple bt_tuple (rel_ty _)) pa_nil))) (fun _ => rfl))) (pw_or1 (pt_cmpR op_ne (pe_callB call_len_seq rfl T.len PySem.boot_len (pa_cons (pe_ix ix_tup (pv 3) pe_int (fun _ _ => rfl)) pa_nil)) (pe_callB call_len_seq rfl T.len PySem.boot_len (pa_cons (pv 0) pa_nil)) (nomark _))))))) (pss_one (ps_ret pe_non)) pss_nil)
  (pss_cons (ps_for PassesOwn.never rfl (pi_range1 rfl T.range (pa_cons (pe_callB call_len_seq rfl T.len PySem.boot_len (pa_cons (pv 0) pa_nil)) pa_nil)) (pg_name (i := 4) sc__law_told_prices.nd rfl (by first | exact Or.inl rfl | exact Or.inr rfl))
  (pss_one (ps_if (PW.pt (pw_or (pt_not (pt_truth (pe_callD D__law_whole (hr.mono (by decide)) rfl (pa_cons (pe_ix ix_tup (pe_ix ix_tup (pv 3) pe_int (fun _ _ => rfl)) (pv 4) (fun _ _ => rfl)) pa_nil)) (fun _ => rfl))) (pw_or (pt_cmpR op_lt (pe_ix ix_tup (pe_ix ix_tup (pv 3) pe_int (fun _ _ => rfl)) (pv 4) (fun _ _ => rfl)) pe_int (nomark _)) (pw_or1 (pt_cmpR op_gt (pe_ix ix_tup (pe_ix ix_tup (pv 3) pe_int (fun _ _ => rfl)) (pv 4) (fun _ _ => rfl)) (pe_callB call_len_seq rfl T.len PySem.boot_len (pa_cons (pe_ix ix_listA (pv 0) (pv 4) (fun _ _ => rfl)) pa_nil)) (nomark _)))))) (pss_one (ps_ret pe_non)) pss_nil)))
  (pss_cons (ps_if (PW.pt (pw_or (pt_not (pt_truth (pe_callB call_isi rfl T.isinstance bt_isi (pa_cons (pe_ix ix_tup (pv 3) pe_int (fun _ _ => rfl)) (pa_cons (pe_bltn rfl T.str bt_str (rel_ty _)) pa_nil))) (fun _ => rfl))) (pw_or (pt_not (pt_truth (pe_callD D__law_whole (hr.mono (by decide)) rfl (pa_cons (pe_ix ix_tup (pv 3) pe_int (fun _ _ => rfl)) pa_nil)) (fun _ => rfl))) (pw_or1 (pt_cmpR (op_nin (P := P) (w := w) rfl rfl hu64) (pe_slice sl_tup (pv 3) po_none (po_some pe_int)) (pv 2) rfl))))) (pss_one (ps_ret pe_non)) pss_nil)
  (pss_one (ps_nput (P := P) (w := w) rfl rfl hu64 (pv 2) (pe_slice sl_tup (pv 3) po_none (po_some pe_int)) (pe_ix ix_tup (pv 3) pe_int (fun _ _ => rfl)) rfl))))))
  (pss_one (ps_ret (pv 2)))))), ?_⟩
  intro D nD
  have s1 := same_new nD (ND P w D [])
  have Y0 : YAt P w (upd H D (ND P w D [])) D [] := ⟨upd_same, fun p hp => absurd hp List.not_mem_nil⟩
  generalize upd H D (ND P w D []) = H1 at s1 Y0 ⊢
  refine ⟨_, rfl, _, _, _, true, rfl, TyOf.lst (s1 _ _ hpl), kit_same _, true, rfl, iteF ?_⟩
  refine ⟨_, rfl, pl, rfl, ⟨_, SqL.of (s1 _ _ hpl)⟩, for_list (K := K) (a := pl) (xs := as.map V.ref) (fun i σ G => Same H G ∧ (∃ ys, YAt P w G D ys ∧ pairsY ys = (ts.take i).map fun t => (t.1, V.int t.2)) ∧ ∃ v1 v2 : Option V, σ = [some (.ref r), some (.ref pl), some (.ref D), v1, v2]) ⟨s1, ⟨[], Y0, rfl⟩, _, _, rfl⟩ (fun i σ G _ z => SqL.of (z.1 _ _ hpl)) (fun i x σ G hx z => ?_) (fun σ G z => ?_)⟩
  · obtain ⟨sm, ⟨ys, Y, py⟩, v1, v2, rfl⟩ := z
    rw [List.getElem?_map] at hx
    obtain ⟨b, hb, rfl⟩ := Option.map_eq_some_iff.mp hx
    obtain ⟨t, ht, d, hb1, hd⟩ := paired_at' rel hb
    have li : i < ts.length := (List.getElem?_eq_some_iff.mp ht).1
    obtain ⟨wf, dle⟩ := hts t (List.mem_of_getElem? ht)
    have hbG := sm _ _ hb1
    have hdG := sm _ _ hd
    have ld : (dsV t.1.1).length = rows.length := by
      unfold dsV
      rw [List.length_map]
      exact wf
    have hrG := sm _ _ hp
    refine ⟨_, rfl, _, _, _, true, rfl, TyOf.tup hbG, kit_same _, true, rfl, iteF ?_⟩
    refine ⟨_, rfl, b, _, rfl, .inr (SqT.of hbG), rfl, _, rfl, ite2 (fun c => by simp at c) fun _ => ?_⟩
    refine ⟨_, rfl, b, _, _, _, rfl, rfl, SqT.of hbG, atI_nat (j := 0) rfl, _, _, _, true, rfl, TyOf.tup hdG, kit_same _, true, rfl, iteF ?_⟩
    refine ⟨_, rfl, b, _, _, _, rfl, rfl, SqT.of hbG, atI_nat (j := 0) rfl, d, _, rfl, .inr (SqT.of hdG), _, rfl, r, _, rfl, .inl (SqL.of hrG), rfl, _, rfl, ite2 (fun c => ?_) fun _ => ?_⟩
    · exfalso
      rw [ld, List.length_map, lps] at c
      simp at c
    refine ⟨_, rfl, r, _, rfl, .inl (SqL.of hrG), _, rfl, by rw [List.length_map]; omega, by rw [List.length_map]; omega, for_range (lo := 0) (n := (((ps.map V.ref).length : Nat) : Int).toNat) (fun i σ G' => G' = G ∧ ∃ v4 : Option V, σ = [some (.ref r), some (.ref pl), some (.ref D), some (.ref b), v4]) ⟨rfl, _, rfl⟩ (fun j σ G' hj z => ?_) (fun σ G' z => ?_)⟩
    · obtain ⟨rfl, v4, rfl⟩ := z
      rw [Int.zero_add]
      have li : j < rows.length := by
        rw [List.length_map] at hj
        omega
      obtain ⟨row, hrow⟩ : ∃ row, rows[j]? = some row := ⟨_, List.getElem?_eq_getElem li⟩
      obtain ⟨p, hp', prow⟩ := paired_at relr hrow
      have hpv : (ps.map V.ref)[j]? = some (.ref p) := by rw [List.getElem?_map, hp']; rfl
      have lds : j < t.1.1.length := by rw [wf]; exact li
      have di := ds_at lds
      have dl := dle j
      have lnj : lenAt rows j = row.length := by unfold lenAt; rw [List.getD_eq_getElem?_getD, hrow]; rfl
      refine ⟨_, rfl, b, _, _, _, rfl, rfl, SqT.of hbG, atI_nat (j := 0) rfl, _, rfl, d, _, _, _, rfl, rfl, SqT.of hdG, atI_nat di, _, rfl, true, rfl, iteF ?_⟩
      refine ⟨_, rfl, b, _, _, _, rfl, rfl, SqT.of hbG, atI_nat (j := 0) rfl, _, rfl, d, _, _, _, rfl, rfl, SqT.of hdG, atI_nat di, _, _, rfl, rfl, _, rfl, ite2 (fun c => ?_) fun _ => ?_⟩
      · exfalso
        have := of_decide_eq_true c
        omega
      refine ⟨_, rfl, b, _, _, _, rfl, rfl, SqT.of hbG, atI_nat (j := 0) rfl, _, rfl, d, _, _, _, rfl, rfl, SqT.of hdG, atI_nat di, _, rfl, _, rfl, r, _, _, rfl, rfl, SqL.of hrG, by omega, by rw [List.length_map]; omega, fun v hv => ?_⟩
      rw [Int.toNat_natCast, hpv] at hv
      obtain rfl := Option.some.inj hv
      refine ⟨p, _, rfl, .inl (SqL.of (sm _ _ prow)), _, _, rfl, rfl, _, rfl, ite2 (fun c => ?_) fun _ => ⟨rfl, _, rfl⟩⟩
      exfalso
      have := of_decide_eq_true c
      rw [List.length_map] at this
      omega
    obtain ⟨rfl, v4, rfl⟩ := z
    have nk : t.1 ∉ keysY ys := by
      rw [keys_pairs py, List.map_take]
      exact nd_at nd (by rw [List.getElem?_map, ht]; rfl)
    refine ⟨_, rfl, b, _, _, _, rfl, rfl, SqT.of hbG, atI_nat (j := 1) rfl, _, _, _, true, rfl, TyOf.str _, kit_same _, true, rfl, iteF ?_⟩
    refine ⟨_, rfl, b, _, _, _, rfl, rfl, SqT.of hbG, atI_nat (j := 2) rfl, _, rfl, true, rfl, iteF ?_⟩
    refine ⟨_, rfl, _, rfl, cut2 hbG fun p np => ?_⟩
    have s2 := same_new np (.tup [V.ref d, .str t.1.2])
    have hp2 : StA (upd G' p (.tup [V.ref d, .str t.1.2])) p t.1 := ⟨d, upd_same, s2 _ _ hdG⟩
    generalize upd G' p (.tup [V.ref d, .str t.1.2]) = G2 at s2 hp2 ⊢
    have Y2 := Y.same s2
    refine ⟨_, rfl, D, p, _, _, rfl, rfl, Y2.na, hp2.nk, _, rfl, ?_⟩
    rw [lk_ndx, lkY_none nk]
    refine iteF ?_
    have hb2 := s2 _ _ hbG
    refine ⟨_, rfl, b, _, _, _, rfl, rfl, SqT.of hb2, atI_nat (j := 2) rfl, _, rfl, _, rfl, _, rfl, cut2 hb2 fun p3 np3 => ?_⟩
    have s3 := same_new np3 (.tup [V.ref d, .str t.1.2])
    have hp3 : StA (upd G2 p3 (.tup [V.ref d, .str t.1.2])) p3 t.1 := ⟨d, upd_same, s3 _ _ (s2 _ _ hdG)⟩
    generalize upd G2 p3 (.tup [V.ref d, .str t.1.2]) = G3 at s3 hp3 ⊢
    have Y3 := Y2.same s3
    refine ⟨D, p3, _, _, rfl, rfl, Y3.at_, Y3.na, hp3.nk, ?_, same_on nD (sm.trans (s2.trans s3)) _, ⟨ys ++ [(t.1, p3, .int t.2)], ?_, ?_⟩, _, _, rfl⟩
    · rw [ndx_len]
      have := congrArg List.length py
      unfold pairsY at this
      rw [List.length_map, List.length_map, List.length_take] at this
      exact sz _ (by omega)
    · rw [up_new nk]
      refine Y3.put fun p hp => ?_
      rcases List.mem_append.mp hp with hp | hp
      · exact Y3.st p hp
      · rw [List.mem_singleton.mp hp]
        exact hp3
    · unfold pairsY at py ⊢
      rw [List.map_append, py, take_succ ht, List.map_append]
      rfl
  · obtain ⟨sm, ⟨ys, Y, py⟩, v1, v2, rfl⟩ := z
    rw [List.length_map, la, List.take_of_length_le (Nat.le_refl _)] at py
    exact ⟨_, rfl, q D G ys sm nD Y py⟩
end
end My
namespace My
open PySem L2
open Blk (sg sg_inj sg_app)
section
variable {P : Program} {w : World} {K : PySem.W.Frag} {mg : Str → Option Value} {base : Heap}
theorem rows_dq {K : PySem.W.Frag} {H : Hp} {a b : Addr} {rows : Rw} {Q : VK} {bo : Bool} (x : RowsAt H a rows) (y : RowsAt H b rows) (q : Q (.bl bo) H) : rDq K 1 bo (.ref a) (.ref b) H Q := by
  obtain ⟨ps, hp, rp⟩ := x
  obtain ⟨qs, hq, rq⟩ := y
  refine ⟨a, b, _, _, rfl, rfl, .inl ⟨SqL.of hp, SqL.of hq⟩, by rw [List.length_map, List.length_map, Paired.length rp, Paired.length rq], fun j hj => ?_, q⟩
  rw [List.length_map, Paired.length rp] at hj
  obtain ⟨row, hrow⟩ : ∃ row, rows[j]? = some row := ⟨_, List.getElem?_eq_getElem hj⟩
  obtain ⟨p, e1, h1⟩ := paired_at rp hrow
  obtain ⟨q', e2, h2⟩ := paired_at rq hrow
  rw [List.getD_eq_getElem?_getD, List.getD_eq_getElem?_getD, List.getElem?_map, List.getElem?_map, e1, e2]
  refine .inr ⟨p, q', _, _, rfl, rfl, .inl ⟨SqL.of h1, SqL.of h2⟩, rfl, fun i hi => ?_⟩
  obtain ⟨v, ev⟩ : ∃ v, (row.map V.str)[i]? = some v := ⟨_, List.getElem?_eq_getElem hi⟩
  rw [List.getD_eq_getElem?_getD, ev]
  rw [List.getElem?_map] at ev
  obtain ⟨n, _, rfl⟩ := Option.map_eq_some_iff.mp ev
  exact ⟨rfl, rfl⟩
theorem copy_of {H0 G : Hp} {ps : List Addr} {rows : Rw} (rel : Paired (fun p row => H0 p = some (.lst (row.map V.str))) ps rows) {us : List V} (hl : us.length = (ps.map V.ref).length) (hg : ∀ (i : Nat) x y, (ps.map V.ref)[i]? = some x → us[i]? = some y → ∃ (p q : Addr) (row : List Str), x = .ref p ∧ H0 p = some (.lst (row.map V.str)) ∧ y = .ref q ∧ G q = some (.lst (row.map V.str))) : ∃ qs : List Addr, us = qs.map V.ref ∧ Paired (fun p row => G p = some (.lst (row.map V.str))) qs rows := by
  have lt := Paired.length rel
  rw [List.length_map] at hl
  obtain ⟨qs, e1, e2, e3⟩ := build_of (R := fun a (row : List Str) => G a = some (.lst (row.map V.str))) us rows (by omega) (fun i y row hy hrow => by
    obtain ⟨p, hp, prow⟩ := paired_at rel hrow
    obtain ⟨p', q, row', ex, h1, rfl, h2⟩ := hg i (.ref p) y (by rw [List.getElem?_map, hp]; rfl) hy
    injection ex with ex
    subst ex
    rw [prow] at h1
    injection h1 with h1
    injection h1 with h1
    rw [← h1] at h2
    exact ⟨q, rfl, h2⟩)
  exact ⟨qs.map (·.1), by rw [e1, List.map_map]; rfl, by rw [e2]; exact paired_map _ _ qs e3⟩
theorem good_fit {rows : Rw} {z : Str} {L : List SS} (g : GoodL rows (firstS rows z) L) : ((L.reverse.map fun s => (s, price rows s)).map (·.1)).Nodup ∧ (L.reverse.map fun s => (s, price rows s)).length ≤ 400000 ∧ ∀ t ∈ L.reverse.map (fun s => (s, price rows s)), Wf rows t.1 ∧ ∀ i, t.1.1.getD i 0 ≤ lenAt rows i := by
  refine ⟨?_, ?_, fun t ht => ?_⟩
  · rw [List.map_map]
    show (L.reverse.map id).Nodup
    rw [List.map_id]
    exact (List.reverse_perm L).nodup_iff.mpr g.nd
  · rw [List.length_map, List.length_reverse]
    exact g.le
  · obtain ⟨s, hs, rfl⟩ := List.mem_map.mp ht
    exact reach_le (g.wf s (List.mem_reverse.mp hs)).2 (first_wf rows z) (first_le rows z)
end
end My
namespace My
open PySem L2
open Blk (sg sg_inj sg_app)
section
variable {P : Program} {w : World} {K : PySem.W.Frag} {mg : Str → Option Value} {base : Heap}
def sp__law_others (ea cN : Addr) : Sp := fun vs H Q _ => ∃ fs : List (Str × V), vs = [.ref ea] ∧ XG H ea cN fs ∧ ∀ H', Same H H' → Q (.int 1) H'
theorem sc__law_others : FnScope ["_law_e", "_law_some"] ["_law_e"] (defScope s__law_others) := ⟨rfl, rfl, rfl, by decide +kernel, rfl, by decide +kernel, by decide +kernel⟩
theorem okH__law_others {ea fa cBadLine cUnknown cTwice cNotNow cTooMuch cDry cOver cNowhere cBusy cNoHeap cNoPrinter cGoesRound cNoWay cHallError : Addr} {fd : FuncData} (F : Fun K "_law_others" "_law_others" s__law_others fa fd) (T : Txt K mg cBadLine cUnknown cTwice cNotNow cTooMuch cDry cOver cNowhere cBusy cNoHeap cNoPrinter cGoesRound cNoWay cHallError) :
    FnOkH ea P w K mg base 1 fa fd ["_law_e"] (sp__law_others ea cTooMuch) := by
  refine F.okH sc__law_others (fun vs H Q E h => ?_) (fun cdv A outer s H vs Q E hr h => ?_)
  · obtain ⟨fs, rfl, _⟩ := h
    rfl
  obtain ⟨fs, rfl, X, q⟩ := h
  refine ⟨_, (pss_cons (ps_set (i := 1) sc__law_others.nd rfl (by first | exact Or.inl rfl | exact Or.inr rfl) (pe_lst (pa_cons (pe_callB call_isG rfl T.isinstance bt_isi (pa_cons (pv 0) (pa_cons (pe_glob (v := .ref cBadLine) rfl T.mg_BadLine rfl) pa_nil))) (pa_cons (pe_callB call_isG rfl T.isinstance bt_isi (pa_cons (pv 0) (pa_cons (pe_glob (v := .ref cUnknown) rfl T.mg_Unknown rfl) pa_nil))) (pa_cons (pe_callB call_isG rfl T.isinstance bt_isi (pa_cons (pv 0) (pa_cons (pe_glob (v := .ref cTwice) rfl T.mg_Twice rfl) pa_nil))) (pa_cons (pe_callB call_isG rfl T.isinstance bt_isi (pa_cons (pv 0) (pa_cons (pe_glob (v := .ref cNotNow) rfl T.mg_NotNow rfl) pa_nil))) pa_nil))))))
  (pss_cons (ps_set (i := 1) sc__law_others.nd rfl (by first | exact Or.inl rfl | exact Or.inr rfl) (pe_op op_cat (pv 1) (pe_lst (pa_cons (pe_callB call_isG rfl T.isinstance bt_isi (pa_cons (pv 0) (pa_cons (pe_glob (v := .ref cTooMuch) rfl T.mg_TooMuch rfl) pa_nil))) (pa_cons (pe_callB call_isG rfl T.isinstance bt_isi (pa_cons (pv 0) (pa_cons (pe_glob (v := .ref cDry) rfl T.mg_Dry rfl) pa_nil))) (pa_cons (pe_callB call_isG rfl T.isinstance bt_isi (pa_cons (pv 0) (pa_cons (pe_glob (v := .ref cOver) rfl T.mg_Over rfl) pa_nil))) (pa_cons (pe_callB call_isG rfl T.isinstance bt_isi (pa_cons (pv 0) (pa_cons (pe_glob (v := .ref cNowhere) rfl T.mg_Nowhere rfl) pa_nil))) pa_nil)))))))
  (pss_cons (ps_set (i := 1) sc__law_others.nd rfl (by first | exact Or.inl rfl | exact Or.inr rfl) (pe_op op_cat (pv 1) (pe_lst (pa_cons (pe_callB call_isG rfl T.isinstance bt_isi (pa_cons (pv 0) (pa_cons (pe_glob (v := .ref cBusy) rfl T.mg_Busy rfl) pa_nil))) (pa_cons (pe_callB call_isG rfl T.isinstance bt_isi (pa_cons (pv 0) (pa_cons (pe_glob (v := .ref cNoHeap) rfl T.mg_NoHeap rfl) pa_nil))) (pa_cons (pe_callB call_isG rfl T.isinstance bt_isi (pa_cons (pv 0) (pa_cons (pe_glob (v := .ref cNoPrinter) rfl T.mg_NoPrinter rfl) pa_nil))) (pa_cons (pe_callB call_isG rfl T.isinstance bt_isi (pa_cons (pv 0) (pa_cons (pe_glob (v := .ref cGoesRound) rfl T.mg_GoesRound rfl) pa_nil))) pa_nil)))))))
  (pss_one (ps_ret (pe_callB (call_sumH hr.hd) rfl T.sum bt_sum (pa_cons (pe_compH (frees := []) ⟨by decide +kernel, rfl, rfl, by decide +kernel, trivial, by decide +kernel, cellsFor_at rfl, hr.hd⟩ rfl (pi_listH (pe_op op_cat (pv 1) (pe_lst (pa_cons (pe_callB call_isG rfl T.isinstance bt_isi (pa_cons (pv 0) (pa_cons (pe_glob (v := .ref cNoWay) rfl T.mg_NoWay rfl) pa_nil))) pa_nil)))) (fun _ _ _ _ => pifs_nil) (fun _ _ _ _ => by exact (pe_callTy call_int1 rfl T.int bt_int (pa_cons (pv 0) pa_nil)))) pa_nil))))))), ?_⟩
  have ci : ClsI K cTooMuch := T.x_TooMuch.i
  have z1 : 1 ≤ sizeLine := small (by decide)
  have z4 : 4 ≤ sizeLine := small (by decide)
  refine ⟨_, rfl, ea, _, _, _, false, rfl, X, ci, (fun u r => r), kitTab_two (i := 4) (j := 0) T.kit (show 4 < 13 by decide) (show 0 < 13 by decide), _, rfl, ea, _, _, _, false, rfl, X, ci, (fun u r => r), kitTab_two (i := 4) (j := 1) T.kit (show 4 < 13 by decide) (show 1 < 13 by decide), _, rfl, ea, _, _, _, false, rfl, X, ci, (fun u r => r), kitTab_two (i := 4) (j := 2) T.kit (show 4 < 13 by decide) (show 2 < 13 by decide), _, rfl, ea, _, _, _, false, rfl, X, ci, (fun u r => r), kitTab_two (i := 4) (j := 3) T.kit (show 4 < 13 by decide) (show 3 < 13 by decide), z4, fun p1 n1 => ?_⟩
  have s1 := same_new n1 (.lst [V.bl false, .bl false, .bl false, .bl false])
  have h1 : upd H p1 (.lst [V.bl false, .bl false, .bl false, .bl false]) p1 = some (.lst [V.bl false, .bl false, .bl false, .bl false]) := upd_same
  generalize upd H p1 (.lst [V.bl false, .bl false, .bl false, .bl false]) = H1 at s1 h1 ⊢
  have X1 := X.keep s1
  refine ⟨_, rfl, _, rfl, ea, _, _, _, true, rfl, X1, ci, (fun u r => r), kitTab_two (i := 4) (j := 4) T.kit (show 4 < 13 by decide) (show 4 < 13 by decide), _, rfl, ea, _, _, _, false, rfl, X1, ci, (fun u r => r), kitTab_two (i := 4) (j := 5) T.kit (show 4 < 13 by decide) (show 5 < 13 by decide), _, rfl, ea, _, _, _, false, rfl, X1, ci, (fun u r => r), kitTab_two (i := 4) (j := 6) T.kit (show 4 < 13 by decide) (show 6 < 13 by decide), _, rfl, ea, _, _, _, false, rfl, X1, ci, (fun u r => r), kitTab_two (i := 4) (j := 7) T.kit (show 4 < 13 by decide) (show 7 < 13 by decide), z4, fun p2 n2 => ?_⟩
  have s2 := same_new n2 (.lst [V.bl true, .bl false, .bl false, .bl false])
  have h2 : upd H1 p2 (.lst [V.bl true, .bl false, .bl false, .bl false]) p2 = some (.lst [V.bl true, .bl false, .bl false, .bl false]) := upd_same
  generalize upd H1 p2 (.lst [V.bl true, .bl false, .bl false, .bl false]) = H2 at s2 h2 ⊢
  refine ⟨p1, p2, _, _, rfl, rfl, s2 _ _ h1, h2, small (by show 8 ≤ 1000; decide), fun p3 n3 => ?_⟩
  have s3 := same_new n3 (.lst ([V.bl false, .bl false, .bl false, .bl false] ++ [V.bl true, .bl false, .bl false, .bl false]))
  have h3 : upd H2 p3 (.lst ([V.bl false, .bl false, .bl false, .bl false] ++ [V.bl true, .bl false, .bl false, .bl false])) p3 = some (.lst [V.bl false, .bl false, .bl false, .bl false, .bl true, .bl false, .bl false, .bl false]) := upd_same
  generalize upd H2 p3 (.lst ([V.bl false, .bl false, .bl false, .bl false] ++ [V.bl true, .bl false, .bl false, .bl false])) = H3 at s3 h3 ⊢
  have s03 := (s1.trans s2).trans s3
  have X3 := X.keep s03
  refine ⟨_, rfl, _, rfl, ea, _, _, _, false, rfl, X3, ci, (fun u r => r), kitTab_two (i := 4) (j := 8) T.kit (show 4 < 13 by decide) (show 8 < 13 by decide), _, rfl, ea, _, _, _, false, rfl, X3, ci, (fun u r => r), kitTab_two (i := 4) (j := 9) T.kit (show 4 < 13 by decide) (show 9 < 13 by decide), _, rfl, ea, _, _, _, false, rfl, X3, ci, (fun u r => r), kitTab_two (i := 4) (j := 10) T.kit (show 4 < 13 by decide) (show 10 < 13 by decide), _, rfl, ea, _, _, _, false, rfl, X3, ci, (fun u r => r), kitTab_two (i := 4) (j := 11) T.kit (show 4 < 13 by decide) (show 11 < 13 by decide), z4, fun p4 n4 => ?_⟩
  have s4 := same_new n4 (.lst [V.bl false, .bl false, .bl false, .bl false])
  have h4 : upd H3 p4 (.lst [V.bl false, .bl false, .bl false, .bl false]) p4 = some (.lst [V.bl false, .bl false, .bl false, .bl false]) := upd_same
  generalize upd H3 p4 (.lst [V.bl false, .bl false, .bl false, .bl false]) = H4 at s4 h4 ⊢
  refine ⟨p3, p4, _, _, rfl, rfl, s4 _ _ h3, h4, small (by show 12 ≤ 1000; decide), fun p5 n5 => ?_⟩
  have s5 := same_new n5 (.lst ([V.bl false, .bl false, .bl false, .bl false, .bl true, .bl false, .bl false, .bl false] ++ [V.bl false, .bl false, .bl false, .bl false]))
  have h5 : upd H4 p5 (.lst ([V.bl false, .bl false, .bl false, .bl false, .bl true, .bl false, .bl false, .bl false] ++ [V.bl false, .bl false, .bl false, .bl false])) p5 = some (.lst [V.bl false, .bl false, .bl false, .bl false, .bl true, .bl false, .bl false, .bl false, .bl false, .bl false, .bl false, .bl false]) := upd_same
  generalize upd H4 p5 (.lst ([V.bl false, .bl false, .bl false, .bl false, .bl true, .bl false, .bl false, .bl false] ++ [V.bl false, .bl false, .bl false, .bl false])) = H5 at s5 h5 ⊢
  have s05 := (s03.trans s4).trans s5
  have X5 := X.keep s05
  refine ⟨_, rfl, _, rfl, ea, _, _, _, false, rfl, X5, ci, (fun u r => r), kitTab_two (i := 4) (j := 12) T.kit (show 4 < 13 by decide) (show 12 < 13 by decide), z1, fun p6 n6 => ?_⟩
  have s6 := same_new n6 (.lst [V.bl false])
  have h6 : upd H5 p6 (.lst [V.bl false]) p6 = some (.lst [V.bl false]) := upd_same
  generalize upd H5 p6 (.lst [V.bl false]) = H6 at s6 h6 ⊢
  refine ⟨p5, p6, _, _, rfl, rfl, s6 _ _ h5, h6, small (by show 13 ≤ 1000; decide), fun p7 n7 => ?_⟩
  have s7 := same_new n7 (.lst ([V.bl false, .bl false, .bl false, .bl false, .bl true, .bl false, .bl false, .bl false, .bl false, .bl false, .bl false, .bl false] ++ [V.bl false]))
  have h7 : upd H6 p7 (.lst ([V.bl false, .bl false, .bl false, .bl false, .bl true, .bl false, .bl false, .bl false, .bl false, .bl false, .bl false, .bl false] ++ [V.bl false])) p7 = some (.lst [V.bl false, .bl false, .bl false, .bl false, .bl true, .bl false, .bl false, .bl false, .bl false, .bl false, .bl false, .bl false, .bl false]) := upd_same
  generalize upd H6 p7 (.lst ([V.bl false, .bl false, .bl false, .bl false, .bl true, .bl false, .bl false, .bl false, .bl false, .bl false, .bl false, .bl false] ++ [V.bl false])) = H7 at s7 h7 ⊢
  refine ⟨p7, rfl, ⟨_, SqL.of h7⟩, ?_⟩
  have s07 := (s05.trans s6).trans s7
  obtain ⟨dx, hX7, _⟩ := X.keep s07
  refine compB_seq (seq_listH (SqL.of h7) hX7) (fun _ => true) (fun v => match v with | .bl b => .int (if b = true then 1 else 0) | v => v) (small1000 (by show 13 ≤ 1000; decide)) (fun x hx H' R _ rr => rr) (fun x hx H' R sm _ rr => ?_) (fun D H8 s8 hD hH => ?_)
  · obtain ⟨b, rfl⟩ : ∃ b, x = .bl b := by
      have all : ∀ v ∈ [V.bl false, .bl false, .bl false, .bl false, .bl true, .bl false, .bl false, .bl false, .bl false, .bl false, .bl false, .bl false, .bl false], ∃ b, v = V.bl b := by
        intro v hv
        rcases List.mem_cons.mp hv with rfl | hv
        · exact ⟨_, rfl⟩
        simp only [List.mem_cons, List.not_mem_nil, or_false] at hv
        rcases hv with h | h | h | h | h | h | h | h | h | h | h | h <;> exact ⟨_, by assumption⟩
      exact all x hx
    exact ⟨_, rfl, .inr ⟨b, rfl, rr⟩⟩
  have hH' : H8 D = some (.lst (([0, 0, 0, 0, 1, 0, 0, 0, 0, 0, 0, 0, 0] : List Int).map V.int)) := hH
  refine ⟨D, _, _, _, hX7.elim (fun z => .inl (s8 _ _ z)) (fun z => .inr (s8 _ _ z)), rfl, SqL.of hH', by decide, ?_⟩
  exact q H8 (s07.trans s8)
end
end My
namespace My
open PySem L2
open Blk (sg sg_inj sg_app)
section
variable {P : Program} {w : World} {K : PySem.W.Frag} {mg : Str → Option Value} {base : Heap}
def WR : TS := fun D σ H => ∃ (s0 s1 v4 : Option V) (z : Str) (r : Addr) (rows : Rw), σ = [s0, s1, some (.str z), some (.ref r), v4, some (.bl false), none] ∧ RowsAt H r rows ∧ rows.length ≤ 60 ∧ (∀ row ∈ rows, row.length ≤ 60) ∧ 8 < totR rows ∧ ∀ H', Same H H' → D.nx [s0, s1, some (.str z), some (.ref r), v4, some (.bl true), none] H'
def sp__law_too_many (K : PySem.W.Frag) : Sp := fun vs H Q _ => ∃ (a kl : Addr) (ns : List Str) (z : Str), vs = [.ref a, .ref kl, .str z] ∧ Scr K H a ∧ H kl = some (.lst (ns.map V.str)) ∧ ns.length = 9 ∧ ∀ H', Same H H' → Q (.bl true) H'
theorem sc__law_too_many : FnScope ["_law_script", "_law_kinds", "_law_loaded_here", "_law_rows_here", "_law_k", "_law_good", "_law_e"] ["_law_script", "_law_kinds", "_law_loaded_here"] (defScope s__law_too_many) := ⟨rfl, rfl, rfl, by decide +kernel, rfl, by decide +kernel, by decide +kernel⟩
theorem ok__law_too_many {fa cBadLine cUnknown cTwice cNotNow cTooMuch cDry cOver cNowhere cBusy cNoHeap cNoPrinter cGoesRound cNoWay cHallError : Addr} {fd : FuncData} (F : Fun K "_law_too_many" "_law_too_many" s__law_too_many fa fd) (T : Txt K mg cBadLine cUnknown cTwice cNotNow cTooMuch cDry cOver cNowhere cBusy cNoHeap cNoPrinter cGoesRound cNoWay cHallError) (D_fewest : DfE P w K mg base 4 "fewest" ["rows", "loaded"] (sp_fewest cTooMuch)) (D__law_draw : Dfn P w K mg base 1 "_law_draw" ["_law_script", "_law_k", "_law_many"] (sp__law_draw K)) (D__law_others : ∀ ea : Addr, DfnH ea P w K mg base 1 "_law_others" ["_law_e"] (sp__law_others ea cTooMuch)) :
    FnOk P w K mg base CX0 5 fa fd ["_law_script", "_law_kinds", "_law_loaded_here"] (sp__law_too_many K) := by
  refine F.ok sc__law_too_many (fun vs H Q E h => ?_) (fun cdv A outer s H vs Q E hr h => ?_)
  · obtain ⟨a, kl, ns, z, rfl, _⟩ := h
    rfl
  obtain ⟨a, kl, ns, z, rfl, hS, hk, l9, q⟩ := h
  refine ⟨_, (pss_cons (ps_comp (i := 3) (frees := []) ⟨by decide +kernel, rfl, rfl, by decide +kernel, trivial, by decide +kernel, cellsFor_at rfl, rfl⟩ sc__law_too_many.nd rfl rfl rfl (pi_range1 rfl T.range (pa_cons (pe_op op_add pe_int (pe_callD D__law_draw (hr.mono (by decide)) rfl (pa_cons (pv 0) (pa_cons pe_int (pa_cons pe_int pa_nil))))) pa_nil)) (fun _ _ _ _ => pifs_nil) (fun _ _ _ _ => by exact (pe_lst pa_nil)))
  (pss_cons (ps_for PassesOwn.never rfl (pi_range1 rfl T.range (pa_cons (pe_op op_add pe_int (pe_callD D__law_draw (hr.mono (by decide)) rfl (pa_cons (pv 0) (pa_cons pe_int (pa_cons pe_int pa_nil))))) pa_nil)) (pg_name (i := 4) sc__law_too_many.nd rfl (by first | exact Or.inl rfl | exact Or.inr rfl))
  (pss_one (ps_expr (pe_bm PySem.F.plainAttrs_list PySem.F.slot_list_append PySem.F.type_list_append mt_append (pe_ix ix_listA (pv 3) (pe_callD D__law_draw (hr.mono (by decide)) rfl (pa_cons (pv 0) (pa_cons (pe_op op_add pe_int (pv 4)) (pa_cons (pe_callB call_len_seq rfl T.len PySem.boot_len (pa_cons (pv 3) pa_nil)) pa_nil)))) (fun _ _ => rfl)) (pa_cons (pe_ix ix_listA (pv 1) (pe_callD D__law_draw (hr.mono (by decide)) rfl (pa_cons (pv 0) (pa_cons (pe_op op_add pe_int (pv 4)) (pa_cons pe_int pa_nil)))) (fun _ _ => rfl)) pa_nil)))))
  (pss_cons (ps_set (i := 5) sc__law_too_many.nd rfl (by first | exact Or.inl rfl | exact Or.inr rfl) pe_bl)
  (pss_cons (PS.weak (t' := WR) (ps_try top_nox (fun _ _ _ hP hO => by exact (pss_one (ps_expr (pe_callE D_fewest hP (hr.mono (show 4 ≤ 4 by decide)) rfl (pa_cons (pv 3) (pa_cons (pv 2) pa_nil)))))) (ph_asH (i := 6) rfl T.mg_HallError sc__law_too_many.nd rfl rfl (fun ea => by exact (pss_one (ps_set (i := 5) sc__law_too_many.nd rfl (by first | exact Or.inl rfl | exact Or.inr rfl) (pe_and (pe_callB (call_isGK (K := K) rfl) rfl T.isinstance bt_isi (pa_cons (pv 6) (pa_cons (pe_glob (v := .ref cTooMuch) rfl T.mg_TooMuch rfl) pa_nil))) (pe_and (pe_callB (call_isGK (K := K) rfl) rfl T.isinstance bt_isi (pa_cons (pv 6) (pa_cons (pe_bltn rfl T.ValueError bt_ValueError (rel_ty _)) pa_nil))) (pe_and (pe_cmpR op_eq (pe_callH (D__law_others ea) ((hr.mono (show 1 ≤ 4 by decide)).caught ea) rfl (pa_cons (pv 6) pa_nil)) pe_int (nomark _)) (pe_one (pe_cmpR op_eq (pe_fldGK (K := K) rfl (pv 6) rfl) pe_str (nomark _))))))))) ph_nil)) ?w1)
  (pss_one (ps_ret (pv 5))))))), ?_⟩
  case w1 =>
    rintro D σ H' ⟨s0, s1, v4, z, r, rows, rfl, RA, lr, lrow, h9, q⟩
    refine ⟨_, rfl, _, rfl, r, rows, z, rfl, RA, lr, lrow, fun c => by omega, fun _ ea H1 sm ne g => ?_⟩
    refine ⟨cTooMuch, ea, rfl, rfl, T.x_TooMuch.m, T.xq_HallError, true, T.mh_TooMuch_HallError, iteT ?_⟩
    have cc : ClsX K cTooMuch ∧ NoAttr K cTooMuch "name" := ⟨T.x_TooMuch.i.c, T.x_TooMuch.n _ (.head _)⟩
    refine ⟨_, rfl, ea, _, _, _, true, rfl, g, T.x_TooMuch.i, (fun u r => r), kitTab_two (i := 4) (j := 4) T.kit (show 4 < 13 by decide) (show 4 < 13 by decide), true, rfl, iteT ?_⟩
    refine ⟨_, rfl, ea, _, _, _, true, rfl, g, T.x_TooMuch.i, (fun u r => r), kitTab_val (i := 4) T.kit (show 4 < 13 by decide), true, rfl, iteT ?_⟩
    refine ⟨_, rfl, _, rfl, g, fun H2 s2 => ⟨rfl, ?_⟩⟩
    have g2 := g.keep s2
    refine ⟨true, rfl, iteT ?_⟩
    refine ⟨_, rfl, ea, _, _, _, rfl, g2, cc.1, cc.2, rfl, rfl, ?_⟩
    have q' := q H2 (sm.trans s2)
    rw [← decide_eq_true (show V.str (Str.ofString "jobs") = V.str (Str.ofString "jobs") from rfl)] at q'
    exact q'
  refine ⟨_, rfl, a, _, _, rfl, hS, by decide, by decide, by decide, fun cnt c0 c1 => ⟨_, _, rfl, rfl, ?_⟩⟩
  obtain ⟨c, hc⟩ : ∃ c : Nat, 1 + cnt = (c : Int) := ⟨(1 + cnt).toNat, by omega⟩
  refine ⟨_, rfl, by omega, by omega, ?_⟩
  rw [hc]
  refine compB_inv (seq_range 0 ((c : Int)).toNat H) (fun D i ys G => ∃ ps : List Addr, ys = ps.map V.ref ∧ ps.length = i ∧ Same H G ∧ H D = none ∧ G D = some (.lst ys) ∧ ps.Nodup ∧ ∀ p ∈ ps, H p = none ∧ p ≠ D ∧ G p = some (.lst [])) (by rw [List.length_map, List.length_range]; exact small1000 (by omega)) (fun D nD => ⟨[], rfl, rfl, same_new nD _, nD, upd_same, List.nodup_nil, fun p hp => absurd hp List.not_mem_nil⟩) (fun D i ys G z => ?_) (fun D i x ys G N hx nD z nx => ?_) (fun D ys G nD z => ?_)
  · obtain ⟨ps, rfl, lp, sm, nD, hD, _⟩ := z
    exact ⟨sm, hD, by rw [List.length_map, lp]; exact Nat.le_refl _⟩
  · obtain ⟨ps, rfl, lp, sm, nD, hD, nd, hp⟩ := z
    refine iteT ⟨small (by decide), fun p np => ?_⟩
    have s1 := same_new np (.lst [])
    have npD : p ≠ D := fun z => by rw [z, hD] at np; cases np
    refine ⟨s1 _ _ hD, nx _ _ ⟨ps ++ [p], by rw [List.map_append]; rfl, by rw [List.length_append, lp]; rfl, same_on nD (sm.trans s1) _, nD, upd_same, nd_snoc nd fun z => ?_, fun p' hp' => ?_⟩⟩
    · have := (hp p z).2.2
      rw [np] at this
      cases this
    · rcases List.mem_append.mp hp' with h | h
      · obtain ⟨h1, h2, h3⟩ := hp p' h
        exact ⟨h1, h2, by rw [upd_ne h2]; exact s1 _ _ h3⟩
      · rw [List.mem_singleton.mp h]
        exact ⟨sm.free np, npD, by rw [upd_ne npD, upd_same]⟩
  obtain ⟨ps, rfl, lp, sm, _, hD, nd, hp⟩ := z
  rw [List.length_map, List.length_range] at lp
  have go : ∀ (l : List Addr) (n : Nat), l.length = n → (∀ p ∈ l, G p = some (.lst [])) → Paired (fun p row => G p = some (.lst (List.map V.str row))) l (List.replicate n []) := by
    intro l
    induction l with
    | nil => intro n e _; subst e; exact .nil
    | cons x l ih => intro n e h; subst e; exact .cons (h x (.head _)) (ih _ rfl fun p hp => h p (.tail _ hp))
  have R0 : RowsN H G D (List.replicate c []) := ⟨ps, nD, hD, nd, fun p h => ⟨(hp p h).1, (hp p h).2.1⟩, go ps c (by omega) fun p h => (hp p h).2.2⟩
  have t0 : totR (List.replicate c []) = 0 := by rw [tot_eq (m := 0) fun row h => by rw [List.eq_of_mem_replicate h]; rfl]; exact Nat.mul_zero _
  refine ⟨_, rfl, a, _, _, rfl, hS.same sm, by decide, by decide, by decide, fun mn m0 m1 => ⟨_, _, rfl, rfl, ?_⟩⟩
  obtain ⟨m, hm⟩ : ∃ m : Nat, 9 + mn = (m : Int) := ⟨(9 + mn).toNat, by omega⟩
  refine ⟨_, rfl, by omega, by omega, ?_⟩
  rw [hm]
  refine for_range (lo := 0) (n := ((m : Int)).toNat) (fun i σ G => Same H G ∧ (∃ rows, RowsN H G D rows ∧ rows.length = c ∧ totR rows = i) ∧ ∃ v4, σ = [some (.ref a), some (.ref kl), some (.str z), some (.ref D), v4, none, none]) ⟨sm, ⟨_, R0, List.length_replicate, t0⟩, _, rfl⟩ (fun i σ G hi z => ?_) (fun σ G z => ?_)
  · obtain ⟨sm2, ⟨rows, ⟨ps, _, hr5, nd5, hn5, rel5⟩, lr, tr⟩, v4, rfl⟩ := z
    have i7 : i < 60 := by omega
    have hS2 := hS.same sm2
    have lp5 : ps.length = c := by rw [Paired.length rel5, lr]
    refine ⟨_, rfl, _, rfl, _, rfl, _, _, rfl, rfl, _, rfl, D, _, rfl, .inl (SqL.of hr5), a, _, _, rfl, hS2, by omega, by omega, by rw [List.length_map]; omega, fun x x0 x1 => ?_⟩
    refine ⟨D, _, _, rfl, rfl, SqL.of hr5, x0, x1, fun v hv => ?_⟩
    rw [List.getElem?_map] at hv
    obtain ⟨p, hp', rfl⟩ := Option.map_eq_some_iff.mp hv
    obtain ⟨row, hrow, prow⟩ := paired_at' rel5 hp'
    refine ⟨.inl ⟨rfl, _, SqL.of prow⟩, _, rfl, _, rfl, _, rfl, _, _, rfl, rfl, a, _, _, rfl, hS2, by omega, by omega, by omega, fun y y0 y1 => ?_⟩
    refine ⟨kl, _, _, rfl, rfl, SqL.of (sm2 _ _ hk), y0, by rw [List.length_map, l9]; omega, fun v hv => ?_⟩
    obtain ⟨k, rfl⟩ := str_of hv
    have lrow : row.length ≤ 60 := by
      have := tot_row (List.mem_of_getElem? hrow)
      omega
    refine ⟨p, _, _, rfl, rfl, prow, by rw [List.length_map]; exact small1000 (by omega), ?_⟩
    refine ⟨same_on (hn5 p (List.mem_of_getElem? hp')).1 sm2 _, ⟨_, rowsN_put nD hr5 nd5 hn5 rel5 hp', by rw [List.length_set]; exact lr, by rw [tot_set hrow, tr]⟩, _, rfl⟩
  · obtain ⟨sm2, ⟨rows, RN, lr, tr⟩, v4, rfl⟩ := z
    refine ⟨_, _, _, z, D, rows, rfl, RN.at_, by omega, fun row hrow => ?_, by omega, fun H' s' => ⟨_, rfl, q H' (sm2.trans s')⟩⟩
    have := tot_row hrow
    omega
end
end My
namespace My
open PySem L2
open Blk (sg sg_inj sg_app)
section
variable {P : Program} {w : World} {K : PySem.W.Frag} {mg : Str → Option Value} {base : Heap}
theorem chg_int (a b : Str) : (if (!decide (V.str b = V.str a)) = true then (1 : Int) else 0) = chg1 (a, b) := by
  unfold chg1
  by_cases e : a = b
  · rw [if_pos (show (a, b).1 = (a, b).2 from e), e]
    simp
  · rw [if_neg (show ¬ (a, b).1 = (a, b).2 from e), decide_eq_false (fun z => by injection z with z; exact e z.symm)]
    rfl
theorem next_uni {rows : Rw} {s : SS} {t u : Nat × SS} (ht : t ∈ nexts rows s) (hu : u ∈ nexts rows s) (e : t.1 = u.1) : t = u := by
  obtain ⟨_, _, e1⟩ := next_mem ht
  obtain ⟨_, _, e2⟩ := next_mem hu
  exact Prod.ext e (by rw [e1, e2, e])
theorem Path.inv {rows : Rw} {f : SS} {ns : List Nat} {s : SS} {c : Int} (p : Path rows f ns s c) : (ns = [] ∧ s = f ∧ c = 0) ∨ ∃ ns' s' c' t, ns = ns' ++ [t.1] ∧ Path rows f ns' s' c' ∧ t ∈ nexts rows s' ∧ s = t.2 ∧ c = c' + chg1 (s'.2, t.2.2) := by
  cases p with
  | here => exact .inl ⟨rfl, rfl, rfl⟩
  | step p ht => exact .inr ⟨_, _, _, _, rfl, p, ht, rfl, rfl⟩
theorem Path.uni {rows : Rw} {f : SS} {ns : List Nat} {s : SS} {c : Int} (p : Path rows f ns s c) : ∀ {s' : SS} {c' : Int}, Path rows f ns s' c' → s = s' ∧ c = c' := by
  induction p with
  | here =>
    intro s' c' q
    rcases q.inv with ⟨_, e1, e2⟩ | ⟨ns', _, _, t, e, _⟩
    · exact ⟨e1.symm, e2.symm⟩
    · exact absurd (congrArg List.length e) (by simp)
  | step p ht ih =>
    intro s' c' q
    rcases q.inv with ⟨e, _⟩ | ⟨ns', s1, c1, t', e, q1, ht', e1, e2⟩
    · exact absurd (congrArg List.length e) (by simp)
    · obtain ⟨e3, e4⟩ := List.append_inj' e rfl
      have e5 := (List.cons.inj e4).1
      subst e3
      obtain ⟨rfl, rfl⟩ := ih q1
      have e6 := next_uni ht ht' e5
      subst e6
      exact ⟨e1.symm, e2.symm⟩
theorem Path.nth {rows : Rw} {f : SS} {ns : List Nat} {s : SS} {c : Int} (p : Path rows f ns s c) : ∀ (i n : Nat), ns[i]? = some n → ∃ s' c' t, Path rows f (ns.take i) s' c' ∧ t ∈ nexts rows s' ∧ t.1 = n := by
  induction p with
  | here => intro i n h; cases h
  | @step ns s c t p ht ih =>
    intro i n h
    by_cases ci : i < ns.length
    · rw [List.getElem?_append_left ci] at h
      rw [List.take_append_of_le_length (by omega)]
      exact ih i n h
    · have li := (List.getElem?_eq_some_iff.mp h).1
      rw [List.length_append] at li
      have ei : i = ns.length := by
        have : i < ns.length + 1 := li
        omega
      subst ei
      rw [List.getElem?_concat_length] at h
      rw [List.take_append_of_le_length (Nat.le_refl _), List.take_of_length_le (Nat.le_refl _)]
      exact ⟨s, c, t, p, ht, Option.some.inj h⟩
theorem end_lens {rows : Rw} {s : SS} (wf : Wf rows s) (h : ∀ i, s.1.getD i 0 ≤ lenAt rows i) (e : nexts rows s = []) : s.1 = rows.map List.length := by
  refine List.ext_getElem? fun i => ?_
  rw [List.getElem?_map]
  by_cases hi : i < rows.length
  · have li : i < s.1.length := by rw [wf]; exact hi
    have e1 : s.1.getD i 0 = s.1[i] := by rw [List.getD_eq_getElem?_getD, List.getElem?_eq_getElem li]; rfl
    have e2 : lenAt rows i = rows[i].length := by
      unfold lenAt
      rw [List.getD_eq_getElem?_getD, List.getElem?_eq_getElem hi]
      rfl
    have h1 := h i
    have h2 : ¬ s.1.getD i 0 < lenAt rows i := fun z => by
      have : (i, (s.1.set i (s.1.getD i 0 + 1), (rows.getD i []).getD (s.1.getD i 0) ⟨#[]⟩)) ∈ nexts rows s := List.mem_filterMap.mpr ⟨i, List.mem_range.mpr hi, by unfold stepAt; rw [if_pos z]⟩
      rw [e] at this
      cases this
    rw [List.getElem?_eq_getElem li, List.getElem?_eq_getElem hi]
    show some s.1[i] = some rows[i].length
    congr 1
    omega
  · rw [List.getElem?_eq_none (by rw [wf]; omega), List.getElem?_eq_none (by omega)]
    rfl
theorem zeros_of {us xs : List V} (n : Nat) (hx : xs.length = n) (hl : us.length = xs.length) (hg : ∀ (i : Nat) x y, xs[i]? = some x → us[i]? = some y → y = .int 0) : us = dsV (List.replicate n 0) := by
  unfold dsV
  rw [List.map_replicate, List.eq_replicate_iff]
  refine ⟨by omega, fun y hy => ?_⟩
  obtain ⟨i, hi⟩ := List.mem_iff_getElem?.mp hy
  obtain ⟨_, e⟩ := each (G := fun _ y => y = V.int 0) hl hg i y hi
  exact e
def sp__law_order_takes (_K : PySem.W.Frag) : Sp := fun vs H Q _ => ∃ (r pl : Addr) (z : Str) (rows : Rw) (ns : List Nat), vs = [.ref r, .str z, .ref pl] ∧ RowsAt H r rows ∧ rows.length ≤ 60 ∧ (∀ row ∈ rows, row.length ≤ 60) ∧ H pl = some (.lst (nsV ns)) ∧ ns.length ≤ 8 ∧ BestP rows (firstS rows z) ns ∧ ∀ H', Same H H' → Q (.int (price rows (firstS rows z))) H'
theorem sc__law_order_takes : FnScope ["_law_rows_here", "_law_loaded_here", "_law_places", "_law_state", "_law_many", "_law_row", "_law_done", "_law_kind"] ["_law_rows_here", "_law_loaded_here", "_law_places"] (defScope s__law_order_takes) := ⟨rfl, rfl, rfl, by decide +kernel, rfl, by decide +kernel, by decide +kernel⟩
theorem ok__law_order_takes {fa cBadLine cUnknown cTwice cNotNow cTooMuch cDry cOver cNowhere cBusy cNoHeap cNoPrinter cGoesRound cNoWay cHallError : Addr} {fd : FuncData} (F : Fun K "_law_order_takes" "_law_order_takes" s__law_order_takes fa fd) (T : Txt K mg cBadLine cUnknown cTwice cNotNow cTooMuch cDry cOver cNowhere cBusy cNoHeap cNoPrinter cGoesRound cNoWay cHallError) (D__law_whole : Dfn P w K mg base 1 "_law_whole" ["_law_found"] (sp__law_whole K)) :
    FnOk P w K mg base CX0 2 fa fd ["_law_rows_here", "_law_loaded_here", "_law_places"] (sp__law_order_takes K) := by
  refine F.ok sc__law_order_takes (fun vs H Q E h => ?_) (fun cdv A outer s H vs Q E hr h => ?_)
  · obtain ⟨r, pl, z, rows, ns, rfl, _⟩ := h
    rfl
  obtain ⟨r, pl, z, rows, ns, rfl, hR, lr, lrow, hpl, ln, ⟨se, pe, e0⟩, q⟩ := h
  have hu := hu_n hr 0 (by decide)
  obtain ⟨ps, hp, relr⟩ := id hR
  have lps : ps.length = rows.length := Paired.length relr
  refine ⟨_, (pss_cons (ps_if (pt_not (pt_truth (pe_callB call_isi rfl T.isinstance bt_isi (pa_cons (pv 2) (pa_cons (pe_bltn rfl T.list bt_list (rel_ty _)) pa_nil))) (fun _ => rfl))) (pss_one (ps_ret pe_non)) pss_nil)
  (pss_cons (ps_set (i := 3) sc__law_order_takes.nd rfl (by first | exact Or.inl rfl | exact Or.inr rfl) (pe_tup (pa_cons (pe_callTy call_tuple_of rfl T.tuple bt_tuple (pa_cons (pe_comp (frees := []) ⟨by decide +kernel, rfl, rfl, by decide +kernel, trivial, by decide +kernel, cellsFor_at rfl, rfl⟩ rfl (pi_list (pv 0)) (fun _ _ _ _ => pifs_nil) (fun _ _ _ _ => by exact pe_int)) pa_nil)) (pa_cons (pv 1) pa_nil))))
  (pss_cons (ps_set (i := 4) sc__law_order_takes.nd rfl (by first | exact Or.inl rfl | exact Or.inr rfl) pe_int)
  (pss_cons (ps_for PassesOwn.never rfl (pi_list (pv 2)) (pg_name (i := 5) sc__law_order_takes.nd rfl (by first | exact Or.inl rfl | exact Or.inr rfl))
  (pss_cons (ps_if (PW.pt (pw_or (pt_not (pt_truth (pe_callD D__law_whole (hr.mono (by decide)) rfl (pa_cons (pv 5) pa_nil)) (fun _ => rfl))) (pw_or (pt_cmpR op_lt (pv 5) pe_int (nomark _)) (pw_or (pt_cmpR op_ge (pv 5) (pe_callB call_len_seq rfl T.len PySem.boot_len (pa_cons (pv 0) pa_nil)) (nomark _)) (pw_or1 (pt_cmpR op_ge (pe_ix ix_tup (pe_ix ix_tup (pv 3) pe_int (fun _ _ => rfl)) (pv 5) (fun _ _ => rfl)) (pe_callB call_len_seq rfl T.len PySem.boot_len (pa_cons (pe_ix ix_listA (pv 0) (pv 5) (fun _ _ => rfl)) pa_nil)) (nomark _))))))) (pss_one (ps_ret pe_non)) pss_nil)
  (pss_cons (ps_set (i := 6) sc__law_order_takes.nd rfl (by first | exact Or.inl rfl | exact Or.inr rfl) (pe_ix ix_tup (pe_ix ix_tup (pv 3) pe_int (fun _ _ => rfl)) (pv 5) (fun _ _ => rfl)))
  (pss_cons (ps_set (i := 7) sc__law_order_takes.nd rfl (by first | exact Or.inl rfl | exact Or.inr rfl) (pe_ix ix_listA (pe_ix ix_listA (pv 0) (pv 5) (fun _ _ => rfl)) (pv 6) (fun _ _ => rfl)))
  (pss_cons (ps_set (i := 4) sc__law_order_takes.nd rfl (by first | exact Or.inl rfl | exact Or.inr rfl) (pe_op op_add (pv 4) (pe_callTy call_int1 rfl T.int bt_int (pa_cons (pe_cmpR op_ne (pv 7) (pe_ix ix_tup (pv 3) pe_int (fun _ _ => rfl)) (nomark _)) pa_nil))))
  (pss_one (ps_set (i := 3) sc__law_order_takes.nd rfl (by first | exact Or.inl rfl | exact Or.inr rfl) (pe_tup (pa_cons (pe_op op_catU (pe_op op_catU (pe_slice sl_tup (pe_ix ix_tup (pv 3) pe_int (fun _ _ => rfl)) po_none (po_some (pv 5))) (pe_tup (pa_cons (pe_op op_add (pv 6) pe_int) pa_nil))) (pe_slice sl_tup (pe_ix ix_tup (pv 3) pe_int (fun _ _ => rfl)) (po_some (pe_op op_add (pv 5) pe_int)) po_none)) (pa_cons (pv 7) pa_nil))))))))))
  (pss_cons (ps_if (pt_cmpR (op_ne_dq (n := 0) hu) (pe_ix ix_tup (pv 3) pe_int (fun _ _ => rfl)) (pe_callTy call_tuple_of rfl T.tuple bt_tuple (pa_cons (pe_comp (frees := []) ⟨by decide +kernel, rfl, rfl, by decide +kernel, trivial, by decide +kernel, cellsFor_at rfl, rfl⟩ rfl (pi_list (pv 0)) (fun _ _ _ _ => pifs_nil) (fun _ _ _ _ => by exact (pe_callB (call_len_seqK (K := K) rfl) rfl T.len PySem.boot_len (pa_cons (pv 0) pa_nil)))) pa_nil)) (nomark _)) (pss_one (ps_ret pe_non)) pss_nil)
  (pss_one (ps_ret (pv 4)))))))), ?_⟩
  refine ⟨_, rfl, _, _, _, true, rfl, TyOf.lst hpl, kit_same _, true, rfl, iteF ?_⟩
  refine ⟨_, rfl, r, rfl, ⟨_, SqL.of hp⟩, ?_⟩
  refine compB_mk (seq_list (SqL.of hp)) (fun x y _ => y = .int 0) (by rw [List.length_map]; exact small1000 (by omega)) (fun x hx' H' R _ r => r) (fun x hx' H' R s3 rr => rr _ _ (Same.refl _) (new_triv rfl)) (fun W H1 us s1 nW hW hl3 hg => ?_)
  have eu : us = dsV (firstS rows z).1 := zeros_of rows.length (by rw [List.length_map, lps]) hl3 hg
  subst eu
  refine ⟨W, _, rfl, .inl ⟨SqL.of hW, fun d nd => ?_⟩⟩
  have s2 := same_new nd (.tup (dsV (firstS rows z).1))
  have hd : (upd H1 d (.tup (dsV (firstS rows z).1))) d = some (.tup (dsV (firstS rows z).1)) := upd_same
  generalize upd H1 d (.tup (dsV (firstS rows z).1)) = H2 at s2 hd ⊢
  refine ⟨_, rfl, small (by show 2 ≤ 1000; decide), fun fb nfb => ?_⟩
  have s3 := same_new nfb (.tup [V.ref d, .str z])
  have hfb : StA (upd H2 fb (.tup [V.ref d, .str z])) fb (firstS rows z) := ⟨d, upd_same, s3 _ _ hd⟩
  generalize upd H2 fb (.tup [V.ref d, .str z]) = H3 at s3 hfb ⊢
  have s03 := s1.trans (s2.trans s3)
  have wff := first_wf rows z
  refine ⟨_, rfl, pl, rfl, ⟨_, SqL.of (s03 _ _ hpl)⟩, for_list (K := K) (a := pl) (xs := nsV ns) (fun i σ G => Same H G ∧ ∃ s c sb, StA G sb s ∧ Path rows (firstS rows z) (ns.take i) s c ∧ ∃ v5 v6 v7 : Option V, σ = [some (.ref r), some (.str z), some (.ref pl), some (.ref sb), some (.int c), v5, v6, v7]) ⟨s03, _, _, fb, hfb, .here, _, _, _, rfl⟩ (fun i σ G _ z => SqL.of (z.1 _ _ hpl)) (fun i x σ G hx z => ?_) (fun σ G z => ?_)⟩
  · obtain ⟨sm, s, c, sb, bst, pth, v5, v6, v7, rfl⟩ := z
    unfold nsV at hx
    rw [List.getElem?_map] at hx
    obtain ⟨n, hn, rfl⟩ := Option.map_eq_some_iff.mp hx
    obtain ⟨s', c', t, pth', ht, et⟩ := pe.nth i n hn
    obtain ⟨e1, e2⟩ := pth.uni pth'
    subst e1 e2 et
    obtain ⟨wf, _⟩ := pth.len wff
    obtain ⟨n1, n2, e2⟩ := next_mem ht
    obtain ⟨d, hb, hd⟩ := bst
    obtain ⟨row, hrow⟩ : ∃ row, rows[t.1]? = some row := ⟨_, List.getElem?_eq_getElem n1⟩
    obtain ⟨p, hp', prow⟩ := paired_at relr hrow
    have hpv : (ps.map V.ref)[t.1]? = some (.ref p) := by rw [List.getElem?_map, hp']; rfl
    have lds : t.1 < s.1.length := by rw [wf]; exact n1
    have grow : rows.getD t.1 [] = row := by rw [List.getD_eq_getElem?_getD, hrow]; rfl
    have lnj : lenAt rows t.1 = row.length := by unfold lenAt; rw [grow]
    have di := ds_at lds
    have ldv : (dsV s.1).length = s.1.length := List.length_map _
    have hrG := sm _ _ hp
    have hpG := sm _ _ prow
    rw [lnj] at n2
    rw [grow] at e2
    have lr2 := lrow row (List.mem_of_getElem? hrow)
    have rowAt : ∀ {G' : Hp} {R : VK}, Same G G' → R (.ref p) G' → rIxLA K (.ref r) (.int (t.1 : Int)) G' R := fun {G' R} s' rr => by
      refine ⟨r, _, _, rfl, rfl, SqL.of (s' _ _ hrG), by omega, by rw [List.length_map]; omega, fun v hv => ?_⟩
      rw [Int.toNat_natCast, hpv] at hv
      obtain rfl := Option.some.inj hv
      exact rr
    refine ⟨_, rfl, _, rfl, true, rfl, iteF ?_⟩
    refine ⟨_, rfl, _, _, rfl, rfl, _, rfl, ite2 (fun c => ?_) fun _ => ?_⟩
    · exfalso
      have := of_decide_eq_true c
      omega
    refine ⟨_, rfl, _, rfl, r, _, rfl, .inl (SqL.of hrG), _, _, rfl, rfl, _, rfl, ite2 (fun c => ?_) fun _ => ?_⟩
    · exfalso
      have := of_decide_eq_true c
      rw [List.length_map] at this
      omega
    refine ⟨_, rfl, sb, _, _, _, rfl, rfl, SqT.of hb, atI_nat (j := 0) rfl, _, rfl, d, _, _, _, rfl, rfl, SqT.of hd, atI_nat di, _, rfl, _, rfl, rowAt (Same.refl _) ⟨p, _, rfl, .inl (SqL.of hpG), _, _, rfl, rfl, _, rfl, ite2 (fun c => ?_) fun _ => ?_⟩⟩
    · exfalso
      have := of_decide_eq_true c
      rw [List.length_map] at this
      omega
    refine ⟨_, rfl, sb, _, _, _, rfl, rfl, SqT.of hb, atI_nat (j := 0) rfl, _, rfl, d, _, _, _, rfl, rfl, SqT.of hd, atI_nat di, ?_⟩
    refine ⟨_, rfl, _, rfl, rowAt (Same.refl _) ⟨_, rfl, p, _, _, rfl, rfl, SqL.of hpG, by omega, by rw [List.length_map]; omega, fun v hv => ?_⟩⟩
    obtain rfl : V.str (row.getD (s.1.getD t.1 0) ⟨#[]⟩) = v := by
      rw [Int.toNat_natCast, List.getElem?_map, List.getElem?_eq_getElem n2] at hv
      rw [List.getD_eq_getElem?_getD, List.getElem?_eq_getElem n2]
      exact Option.some.inj hv
    refine ⟨_, rfl, _, rfl, _, rfl, sb, _, _, _, rfl, rfl, SqT.of hb, atI_nat (j := 1) rfl, rfl, .inr ⟨_, rfl, _, _, rfl, rfl, ?_⟩⟩
    rw [chg_int]
    have l60 : (dsV s.1).length ≤ 60 := by rw [ldv, wf]; exact lr
    refine ⟨_, rfl, sb, _, _, _, rfl, rfl, SqT.of hb, atI_nat (j := 0) rfl, _, rfl, _, rfl, cut_pre hd lds fun t1 G3 s3 ht1 => ?_⟩
    refine ⟨_, rfl, _, _, rfl, rfl, small (by show 1 ≤ 1000; decide), fun t2 nt2 => ?_⟩
    have s4 := same_new nt2 (.tup [V.int (((s.1.getD t.1 0 : Nat) : Int) + 1)])
    have ht2 : (upd G3 t2 (.tup [V.int (((s.1.getD t.1 0 : Nat) : Int) + 1)])) t2 = some (.tup [V.int ((s.1.getD t.1 0 + 1 : Nat) : Int)]) := upd_same
    generalize upd G3 t2 (.tup [V.int (((s.1.getD t.1 0 : Nat) : Int) + 1)]) = G4 at s4 ht2 ⊢
    refine cat_any (s4 _ _ ht1) ht2 ?_ fun t3 G5 s5 ht3 => ?_
    · rw [List.length_take]
      show _ + 1 ≤ 1000
      omega
    have s35 := (s3.trans s4).trans s5
    refine ⟨_, rfl, sb, _, _, _, rfl, rfl, SqT.of (s35 _ _ hb), atI_nat (j := 0) rfl, _, rfl, _, _, rfl, rfl, _, rfl, ?_⟩
    dsimp only [tNoPart]
    refine cut_post (s35 _ _ hd) lds fun t4 G6 s6 ht4 => ?_
    refine cat_any (s6 _ _ ht3) ht4 ?_ fun f G7 s7 hf => ?_
    · rw [List.length_append, List.length_take, List.length_drop]
      show _ + 1 + _ ≤ 1000
      omega
    rw [ds_set lds] at hf
    have s27 := (s35.trans s6).trans s7
    refine ⟨_, rfl, small (by show 2 ≤ 1000; decide), fun t5 nt5 => ?_⟩
    have s8 := same_new nt5 (.tup [V.ref f, .str (row.getD (s.1.getD t.1 0) ⟨#[]⟩)])
    have e3 : t.2.2 = row.getD (s.1.getD t.1 0) ⟨#[]⟩ := by rw [e2]
    have e4 : t.2.1 = s.1.set t.1 (s.1.getD t.1 0 + 1) := by rw [e2]
    have pn := Path.step pth ht
    rw [e3] at pn
    refine ⟨sm.trans (s27.trans s8), t.2, c + chg1 (s.2, row.getD (s.1.getD t.1 0) ⟨#[]⟩), t5, ⟨f, ?_, ?_⟩, ?_, _, _, _, rfl⟩
    · rw [e3, upd_same]
    · rw [e4]
      exact s8 _ _ hf
    · rw [take_succ hn]
      exact pn
  · obtain ⟨sm, s, c, sb, bst, pth, v5, v6, v7, rfl⟩ := z
    have lnv : (nsV ns).length = ns.length := List.length_map _
    rw [lnv, List.take_of_length_le (Nat.le_refl _)] at pth
    obtain ⟨e1, e2⟩ := pth.uni pe
    subst e1 e2
    obtain ⟨d, hb, hd⟩ := bst
    obtain ⟨wf, dle⟩ := reach_le pth.reach wff (first_le rows z)
    have ee := end_lens wf dle e0
    have hpG := sm _ _ hp
    have relG : Paired (fun p row => G p = some (.lst (List.map V.str row))) ps rows := Paired.mapP relr fun _ _ e => sm _ _ e
    refine ⟨_, rfl, sb, _, _, _, rfl, rfl, SqT.of hb, atI_nat (j := 0) rfl, _, rfl, r, rfl, ⟨_, SqL.of hpG⟩, ?_⟩
    refine compB_mk (seq_list (SqL.of hpG)) (fun x y _ => ∃ (p : Addr) (row : List Str), x = .ref p ∧ G p = some (.lst (row.map V.str)) ∧ y = .int (row.length : Nat)) (by rw [List.length_map]; exact small1000 (by omega)) (fun x hx' H' R _ r => r) (fun x hx' H' R s3 rr => ?_) (fun W2 G1 us s4 nW2 hW2 hl4 hg4 => ?_)
    · obtain ⟨p, hmem, rfl⟩ := List.mem_map.mp hx'
      obtain ⟨j, hj⟩ := List.mem_iff_getElem?.mp hmem
      obtain ⟨row, hrow, prow⟩ := paired_at' relG hj
      refine ⟨_, rfl, p, _, rfl, .inl (SqL.of (s3 _ _ prow)), ?_⟩
      rw [List.length_map]
      exact rr _ _ (Same.refl _) (new_triv ⟨p, row, rfl, prow, rfl⟩)
    have el := lens_of relG hl4 hg4
    have ed : us = dsV s.1 := by
      rw [el, ee]
      unfold dsV
      rw [List.map_map, List.map_map]
      rfl
    subst ed
    refine ⟨W2, _, rfl, .inl ⟨SqL.of hW2, fun dd ndd => ?_⟩⟩
    have s5 := same_new ndd (.tup (dsV s.1))
    refine ⟨d, dd, _, _, rfl, rfl, .inr ⟨SqT.of (s5 _ _ (s4 _ _ hd)), SqT.of upd_same⟩, rfl, fun j hj => ?_, _, rfl, iteF ⟨_, rfl, q _ (sm.trans (s4.trans s5))⟩⟩
    have lds : j < s.1.length := by
      unfold dsV at hj
      rw [List.length_map] at hj
      exact hj
    rw [List.getD_eq_getElem?_getD, ds_at lds]
    exact ⟨rfl, rfl⟩
end
end My
namespace My
open PySem L2
open Blk (sg sg_inj sg_app)
section
variable {P : Program} {w : World} {K : PySem.W.Frag} {mg : Str → Option Value} {base : Heap}
theorem minD_le {l : List Int} {x : Int} (h : x ∈ l) : minD l ≤ x := by
  cases l with
  | nil => cases h
  | cons y r => exact (fold_min r y).2 x h
theorem price_le {rows : Rw} {s : SS} (wf : Wf rows s) {t : Nat × SS} (ht : t ∈ nexts rows s) : price rows s ≤ price rows t.2 + chg1 (s.2, t.2.2) := by
  rw [price_eq wf, Int.add_comm]
  exact minD_le (List.mem_map_of_mem (f := fun t : Nat × SS => chg1 (s.2, t.2.2) + price rows t.2) ht)
def sp__law_none_less (P : Program) (w : World) : Sp := fun vs H Q _ => ∃ (r fb D : Addr) (rows : Rw) (f : SS) (ys : YS), vs = [.ref r, .ref fb, .ref D] ∧ RowsAt H r rows ∧ rows.length ≤ 60 ∧ StA H fb f ∧ YAt P w H D ys ∧ PrY rows ys ∧ f ∈ keysY ys ∧ (∀ s ∈ keysY ys, Wf rows s ∧ ∀ t ∈ nexts rows s, t.2 ∈ keysY ys) ∧ ∀ H', Same H H' → Q (.bl true) H'
theorem sc__law_none_less : FnScope ["_law_rows_here", "_law_first", "_law_told", "_law_state", "_law_price", "_law_some", "_law_other"] ["_law_rows_here", "_law_first", "_law_told"] (defScope s__law_none_less) := ⟨rfl, rfl, rfl, by decide +kernel, rfl, by decide +kernel, by decide +kernel⟩
theorem ok__law_none_less {fa cBadLine cUnknown cTwice cNotNow cTooMuch cDry cOver cNowhere cBusy cNoHeap cNoPrinter cGoesRound cNoWay cHallError : Addr} {fd : FuncData} (F : Fun K "_law_none_less" "_law_none_less" s__law_none_less fa fd) (T : Txt K mg cBadLine cUnknown cTwice cNotNow cTooMuch cDry cOver cNowhere cBusy cNoHeap cNoPrinter cGoesRound cNoWay cHallError) (D__law_nexts : Dfn P w K mg base 1 "_law_nexts" ["_law_rows_here", "_law_state"] (sp__law_nexts K)) :
    FnOk P w K mg base CX0 2 fa fd ["_law_rows_here", "_law_first", "_law_told"] (sp__law_none_less P w) := by
  refine F.ok sc__law_none_less (fun vs H Q E h => ?_) (fun cdv A outer s H vs Q E hr h => ?_)
  · obtain ⟨r, fb, D, rows, f, ys, rfl, _⟩ := h
    rfl
  obtain ⟨r, fb, D, rows, f, ys, rfl, hR, lr, hfb, Y, py, fin, hY, q⟩ := h
  have hu64 := hr.units
  refine ⟨_, (pss_cons (ps_if (pt_cmpR (op_nnotin (P := P) (w := w) rfl rfl hu64) (pv 1) (pv 2) rfl) (pss_one (ps_ret pe_bl)) pss_nil)
  (pss_cons (ps_frzN (P := P) (w := w) rfl rfl (ps_for PassesOwn.never rfl (pi_itemsN (P := P) (w := w) rfl rfl (pe_itemsN0 (P := P) (w := w) rfl rfl (pv 2))) (pg_tup rfl (pgs_cons (pg_name (i := 3) sc__law_none_less.nd rfl (by first | exact Or.inl rfl | exact Or.inr rfl)) (pgs_cons (pg_name (i := 4) sc__law_none_less.nd rfl (by first | exact Or.inl rfl | exact Or.inr rfl)) pgs_nil)))
  (pss_cons (ps_set (i := 5) sc__law_none_less.nd rfl (by first | exact Or.inl rfl | exact Or.inr rfl) (pe_callD D__law_nexts (hr.mono (by decide)) rfl (pa_cons (pv 0) (pa_cons (pv 3) pa_nil))))
  (pss_cons (ps_if (PW.pt (pw_and (pt_cmpR op_eq (pe_callB call_len_seq rfl T.len PySem.boot_len (pa_cons (pv 5) pa_nil)) pe_int (nomark _)) (pw_and1 (pt_cmpR op_ne (pv 4) pe_int (nomark _))))) (pss_one (ps_ret pe_bl)) pss_nil)
  (pss_one (ps_for PassesOwn.never rfl (pi_list (pv 5)) (pg_name (i := 6) sc__law_none_less.nd rfl (by first | exact Or.inl rfl | exact Or.inr rfl))
  (pss_one (ps_if (PW.pt (pw_or (pt_cmpR (op_nnotin (P := P) (w := w) rfl rfl hu64) (pv 6) (pv 2) rfl) (pw_or1 (pt_cmpR op_gt (pv 4) (pe_op op_add (pe_nget (P := P) (w := w) rfl rfl hu64 (pv 2) (pv 6) (fun _ _ => rfl)) (pe_callTy call_int1 rfl T.int bt_int (pa_cons (pe_cmpR op_ne (pe_ix ix_tup (pv 6) pe_int (fun _ _ => rfl)) (pe_ix ix_tup (pv 3) pe_int (fun _ _ => rfl)) (nomark _)) pa_nil))) (nomark _))))) (pss_one (ps_ret pe_bl)) pss_nil))))))))
  (pss_one (ps_ret pe_bl)))), ?_⟩
  refine ⟨_, rfl, _, rfl, D, fb, _, _, rfl, rfl, Y.na, hfb.nk, _, rfl, ?_⟩
  rw [lk_ndx, pr_lk py fin]
  refine iteF ⟨D, ndx ys, Y.at_, fun o => ?_⟩
  refine ⟨_, rfl, D, o, _, rfl, rfl, upd_same, fun v nv => ?_⟩
  have t8 : Tp H (upd H D (.frz o (ND P w D (ndx ys)))) := tp_upd Y.at_ nd_tup
  have k8 : KeptBut D H (upd H D (.frz o (ND P w D (ndx ys)))) := fun b u nb e => by rw [upd_ne nb]; exact e
  have hD8 : (upd H D (.frz o (ND P w D (ndx ys)))) D = some (.frz o (ND P w D (ndx ys))) := upd_same
  generalize upd H D (.frz o (ND P w D (ndx ys))) = H8 at t8 k8 hD8 nv ⊢
  have s9 := same_new nv (IW v D)
  have hv9 : (upd H8 v (IW v D)) v = some (IW v D) := upd_same
  generalize upd H8 v (IW v D) = H9 at s9 hv9 ⊢
  have hD9 := s9 _ _ hD8
  have t9 : Tp H H9 := t8.trans (tpS s9)
  obtain ⟨ps, hp, relr⟩ := id hR
  have nrD : ∀ c xs, H c = some (.lst xs) → c ≠ D := fun c xs e z => by
    rw [z, Y.at_] at e
    cases e
  have hR9 : RowsAt H9 r rows := ⟨ps, s9 _ _ (k8 _ _ (nrD _ _ hp) hp), Paired.mapP relr fun p row e => s9 _ _ (k8 _ _ (nrD _ _ e) e)⟩
  have NA : ∀ {G : Hp}, Same H9 G → NAt P w G D (ndx ys) := fun {G} sg => ⟨.inr ⟨o, sg _ _ hD9⟩, fun x hx => by
    obtain ⟨p, hp, rfl⟩ := List.mem_map.mp hx
    exact (((Y.st p hp).tp t9).tp (tpS sg)).nk⟩
  refine ⟨v, D, o, _, rfl, hv9, hD9, ?_⟩
  refine for_itemsN (fun i σ G => Same H9 G ∧ ∃ v3 v4 v5 v6 : Option V, σ = [some (.ref r), some (.ref fb), some (.ref D), v3, v4, v5, v6]) ⟨Same.refl _, _, _, _, _, rfl⟩ (fun i σ G _ z => z.1 _ _ hD9) (fun i k b v p σ G hx np z => ?_) (fun σ G z => ?_)
  · obtain ⟨sm, v3, v4, v5, v6, rfl⟩ := z
    unfold ndx at hx
    rw [List.getElem?_map] at hx
    obtain ⟨y, hy, ey⟩ := Option.map_eq_some_iff.mp hx
    have ym := List.mem_of_getElem? hy
    obtain ⟨_, e2⟩ := Prod.mk.inj ey
    obtain ⟨rfl, rfl⟩ := Prod.mk.inj e2
    have s1 := same_new np (.tup [V.ref y.2.1, y.2.2])
    have hp1 : (upd G p (.tup [V.ref y.2.1, y.2.2])) p = some (.tup [V.ref y.2.1, y.2.2]) := upd_same
    generalize upd G p (.tup [V.ref y.2.1, y.2.2]) = G1 at s1 hp1 ⊢
    have sm1 := sm.trans s1
    refine ⟨p, _, rfl, SqT.of hp1, rfl, _, _, rfl, _, _, rfl, rfl, ?_⟩
    obtain ⟨wf, tin⟩ := hY y.1 (List.mem_map_of_mem ym)
    have bst := ((Y.st y ym).tp t9).tp (tpS sm1)
    refine ⟨_, rfl, _, rfl, y.2.1, r, y.1, rows, rfl, bst, hR9.same sm1, wf, lr, fun ml G2 s2 nml M => ?_⟩
    obtain ⟨ms, hm, rm⟩ := id M
    have lms : ms.length = (nexts rows y.1).length := by rw [Paired.length rm, List.length_map]
    have sm2 := sm1.trans s2
    have bst2 := bst.tp (tpS s2)
    have ev := py y ym
    have pe := price_eq wf
    rw [ev]
    dsimp only [gName]
    refine seq_cut (fun σ G' => σ = [some (.ref r), some (.ref fb), some (.ref D), some (.ref y.2.1), some (.int (price rows y.1)), some (.ref ml), v6] ∧ G' = G2) (fun R hR2 => ?_) ?_
    · refine ⟨_, rfl, ml, _, rfl, .inl (SqL.of hm), rfl, _, rfl, ?_⟩
      rw [List.length_map, lms]
      refine ite2 (fun c => ?_) (fun _ => iteF (hR2 _ _ ⟨rfl, rfl⟩))
      have c' : (nexts rows y.1).length = 0 := by
        have := of_decide_eq_true c
        injection this with this
        omega
      have z0 : price rows y.1 = 0 := by
        rw [pe, List.eq_nil_of_length_eq_zero c']
        rfl
      refine ⟨_, rfl, rfl, _, rfl, ?_⟩
      rw [z0]
      exact iteF (by rw [← z0]; exact hR2 _ _ ⟨rfl, rfl⟩)
    rintro σ G' ⟨rfl, rfl⟩
    refine ⟨_, rfl, ml, rfl, ⟨_, SqL.of hm⟩, for_list (K := K) (a := ml) (xs := ms.map V.ref) (fun j σ G3 => G3 = G' ∧ ∃ v6 : Option V, σ = [some (.ref r), some (.ref fb), some (.ref D), some (.ref y.2.1), some (.int (price rows y.1)), some (.ref ml), v6]) ⟨rfl, _, rfl⟩ (fun j σ G3 _ z => by rw [z.1]; exact SqL.of hm) (fun j x σ G3 hx z => ?_) (fun σ G3 z => ?_)⟩
    · obtain ⟨rfl, v6, rfl⟩ := z
      rw [List.getElem?_map] at hx
      obtain ⟨b2, hb2, rfl⟩ := Option.map_eq_some_iff.mp hx
      obtain ⟨u, hu, ust⟩ := paired_at' rm hb2
      obtain ⟨t, ht, rfl⟩ := List.mem_map.mp (List.mem_of_getElem? hu)
      have uin := tin t ht
      have le := price_le wf ht
      obtain ⟨d2, hb2', _⟩ := id ust
      obtain ⟨d1, hb1, _⟩ := id bst2
      refine ⟨_, rfl, _, rfl, D, b2, _, _, rfl, rfl, NA sm2, ust.nk, _, rfl, ?_⟩
      rw [lk_ndx, pr_lk py uin]
      refine iteF ⟨_, rfl, _, rfl, _, rfl, D, b2, _, _, _, rfl, rfl, NA sm2, ust.nk, by rw [lk_ndx]; exact pr_lk py uin, ?_⟩
      refine ⟨_, rfl, b2, _, _, _, rfl, rfl, SqT.of hb2', atI_nat (j := 1) rfl, _, rfl, y.2.1, _, _, _, rfl, rfl, SqT.of hb1, atI_nat (j := 1) rfl, rfl, .inr ⟨_, rfl, _, _, rfl, rfl, ?_⟩⟩
      rw [chg_int]
      refine ⟨_, _, rfl, rfl, _, rfl, ite2 (fun c => ?_) fun _ => ⟨rfl, _, rfl⟩⟩
      exfalso
      have := of_decide_eq_true c
      omega
    · obtain ⟨rfl, v6, rfl⟩ := z
      exact ⟨sm2, _, _, _, _, rfl⟩
  · obtain ⟨sm, v3, v4, v5, v6, rfl⟩ := z
    refine ⟨sm _ _ hD9, ?_⟩
    refine q _ fun c u e => ?_
    by_cases ec : c = D
    · rw [ec, Y.at_] at e
      rw [ec, upd_same]
      exact e
    · rw [upd_ne ec]
      exact sm _ _ (s9 _ _ (k8 c u ec e))
end
end My
namespace My
open PySem L2
open Blk (sg sg_inj sg_app)
section
variable {P : Program} {w : World} {K : PySem.W.Frag} {mg : Str → Option Value} {base : Heap}
def sp_law (K : PySem.W.Frag) : Sp := fun vs H Q _ => ∃ a : Addr, vs = [.ref a] ∧ Scr K H a ∧ ∀ H', Q (.bl true) H'
theorem sc_law : FnScope ["_law_script", "_law_kinds", "_law_rows_here", "_law_loaded_here", "_law_handed", "_law_found", "_law_told", "_law_first", "_law_again"] ["_law_script"] (defScope s_law) := ⟨rfl, rfl, rfl, by decide +kernel, rfl, by decide +kernel, by decide +kernel⟩
theorem ok_law {fa cBadLine cUnknown cTwice cNotNow cTooMuch cDry cOver cNowhere cBusy cNoHeap cNoPrinter cGoesRound cNoWay cHallError : Addr} {fd : FuncData} (F : Fun K "law" "law" s_law fa fd) (T : Txt K mg cBadLine cUnknown cTwice cNotNow cTooMuch cDry cOver cNowhere cBusy cNoHeap cNoPrinter cGoesRound cNoWay cHallError) (D__law_names : Dfn P w K mg base 2 "_law_names" ["_law_script", "_law_k", "_law_many"] (sp__law_names K)) (D__law_rows : Dfn P w K mg base 2 "_law_rows" ["_law_script", "_law_kinds"] (sp__law_rows K)) (D__law_loaded : Dfn P w K mg base 2 "_law_loaded" ["_law_script", "_law_kinds"] (sp__law_loaded K)) (D_fewest : DfE P w K mg base 4 "fewest" ["rows", "loaded"] (sp_fewest cTooMuch)) (D__law_told_prices : Dfn P w K mg base 2 "_law_told_prices" ["_law_rows_here", "_law_prices"] (sp__law_told_prices P w)) (D__law_too_many : Dfn P w K mg base 5 "_law_too_many" ["_law_script", "_law_kinds", "_law_loaded_here"] (sp__law_too_many K)) (D__law_order_takes : Dfn P w K mg base 2 "_law_order_takes" ["_law_rows_here", "_law_loaded_here", "_law_places"] (sp__law_order_takes K)) (D__law_whole : Dfn P w K mg base 1 "_law_whole" ["_law_found"] (sp__law_whole K)) (D__law_none_less : Dfn P w K mg base 2 "_law_none_less" ["_law_rows_here", "_law_first", "_law_told"] (sp__law_none_less P w)) :
    FnOk P w K mg base CX0 6 fa fd ["_law_script"] (sp_law K) := by
  refine F.ok sc_law (fun vs H Q E h => ?_) (fun cdv A outer s H vs Q E hr h => ?_)
  · obtain ⟨a, rfl, _⟩ := h
    rfl
  obtain ⟨a, rfl, hS, q⟩ := h
  have hu1 := hu_n hr 1 (by decide)
  have hu64 := hr.units
  refine ⟨_, (pss_cons (ps_set (i := 1) sc_law.nd rfl (by first | exact Or.inl rfl | exact Or.inr rfl) (pe_callD D__law_names (hr.mono (by decide)) rfl (pa_cons (pv 0) (pa_cons pe_int (pa_cons pe_int pa_nil)))))
  (pss_cons (ps_set (i := 2) sc_law.nd rfl (by first | exact Or.inl rfl | exact Or.inr rfl) (pe_callD D__law_rows (hr.mono (by decide)) rfl (pa_cons (pv 0) (pa_cons (pv 1) pa_nil))))
  (pss_cons (ps_set (i := 3) sc_law.nd rfl (by first | exact Or.inl rfl | exact Or.inr rfl) (pe_callD D__law_loaded (hr.mono (by decide)) rfl (pa_cons (pv 0) (pa_cons (pv 1) pa_nil))))
  (pss_cons (ps_if (pt_not (pt_truth (pe_callD D__law_too_many (hr.mono (by decide)) rfl (pa_cons (pv 0) (pa_cons (pv 1) (pa_cons (pv 3) pa_nil)))) (fun _ => rfl))) (pss_one (ps_ret pe_bl)) pss_nil)
  (pss_cons (ps_comp (i := 4) (frees := []) ⟨by decide +kernel, rfl, rfl, by decide +kernel, trivial, by decide +kernel, cellsFor_at rfl, rfl⟩ sc_law.nd rfl rfl rfl (pi_list (pv 2)) (fun _ _ _ _ => pifs_nil) (fun _ _ _ _ => by exact (pe_callTy (call_list_ofK (K := K) rfl) rfl T.list bt_list (pa_cons (pv 0) pa_nil))))
  (pss_cons (ps_set (i := 5) sc_law.nd rfl (by first | exact Or.inl rfl | exact Or.inr rfl) (pe_callE D_fewest passE0 (hr.mono (by decide)) rfl (pa_cons (pv 4) (pa_cons (pv 3) pa_nil))))
  (pss_cons (ps_if (PW.pt (pw_or (pt_not (pt_truth (pe_callB call_isi rfl T.isinstance bt_isi (pa_cons (pv 5) (pa_cons (pe_bltn rfl T.tuple bt_tuple (rel_ty _)) pa_nil))) (fun _ => rfl))) (pw_or (pt_cmpR op_ne (pe_callB call_len_seq rfl T.len PySem.boot_len (pa_cons (pv 5) pa_nil)) pe_int (nomark _)) (pw_or (pt_not (pt_truth (pe_callD D__law_whole (hr.mono (by decide)) rfl (pa_cons (pe_ix ix_tup (pv 5) pe_int (fun _ _ => rfl)) pa_nil)) (fun _ => rfl))) (pw_or1 (pt_cmpR (op_ne_dq (n := 1) hu1) (pv 4) (pv 2) (nomark _))))))) (pss_one (ps_ret pe_bl)) pss_nil)
  (pss_cons (ps_set (i := 6) sc_law.nd rfl (by first | exact Or.inl rfl | exact Or.inr rfl) (pe_callD D__law_told_prices (hr.mono (by decide)) rfl (pa_cons (pv 2) (pa_cons (pe_ix ix_tup (pv 5) pe_int (fun _ _ => rfl)) pa_nil))))
  (pss_cons (ps_set (i := 7) sc_law.nd rfl (by first | exact Or.inl rfl | exact Or.inr rfl) (pe_tup (pa_cons (pe_callTy call_tuple_of rfl T.tuple bt_tuple (pa_cons (pe_comp (frees := []) ⟨by decide +kernel, rfl, rfl, by decide +kernel, trivial, by decide +kernel, cellsFor_at rfl, rfl⟩ rfl (pi_list (pv 2)) (fun _ _ _ _ => pifs_nil) (fun _ _ _ _ => by exact pe_int)) pa_nil)) (pa_cons (pv 3) pa_nil))))
  (pss_cons (ps_if (PW.pt (pw_or (pt_cmpR op_isN (pv 6) pe_non (nomark _)) (pw_or (pt_not (pt_truth (pe_callD D__law_none_less (hr.mono (by decide)) rfl (pa_cons (pv 2) (pa_cons (pv 7) (pa_cons (pv 6) pa_nil)))) (fun _ => rfl))) (pw_or1 (pt_cmpR op_ne (pe_nget (P := P) (w := w) rfl rfl hu64 (pv 6) (pv 7) (fun _ _ => rfl)) (pe_ix ix_tup (pv 5) pe_int (fun _ _ => rfl)) (nomark _)))))) (pss_one (ps_ret pe_bl)) pss_nil)
  (pss_cons (ps_if (pt_cmpR op_ne (pe_callD D__law_order_takes (hr.mono (by decide)) rfl (pa_cons (pv 2) (pa_cons (pv 3) (pa_cons (pe_ix ix_tup (pv 5) pe_int (fun _ _ => rfl)) pa_nil)))) (pe_ix ix_tup (pv 5) pe_int (fun _ _ => rfl)) (nomark _)) (pss_one (ps_ret pe_bl)) pss_nil)
  (pss_cons (ps_expr (pe_bm PySem.F.plainAttrs_list PySem.F.slot_list_append PySem.F.type_list_append mt_append (pe_ix ix_tup (pv 5) pe_int (fun _ _ => rfl)) (pa_cons pe_int pa_nil)))
  (pss_cons (ps_set (i := 8) sc_law.nd rfl (by first | exact Or.inl rfl | exact Or.inr rfl) (pe_callE D_fewest passE0 (hr.mono (by decide)) rfl (pa_cons (pv 4) (pa_cons (pv 3) pa_nil))))
  (pss_cons (ps_if (pt_cmpR op_ne (pe_callD D__law_order_takes (hr.mono (by decide)) rfl (pa_cons (pv 2) (pa_cons (pv 3) (pa_cons (pe_ix ix_tup (pv 8) pe_int (fun _ _ => rfl)) pa_nil)))) (pe_nget (P := P) (w := w) rfl rfl hu64 (pv 6) (pv 7) (fun _ _ => rfl)) (nomark _)) (pss_one (ps_ret pe_bl)) pss_nil)
  (pss_one (ps_ret (pe_callD D__law_too_many (hr.mono (by decide)) rfl (pa_cons (pv 0) (pa_cons (pv 1) (pa_cons (pv 3) pa_nil)))))))))))))))))))), ?_⟩
  refine ⟨_, rfl, a, 10, rfl, hS, by decide, by decide, fun kl ns H1 s1 hk l9 => ?_⟩
  refine ⟨_, rfl, _, rfl, a, kl, ns, rfl, hS.same s1, hk, l9, fun r H2 rows s2 RA FR => ?_⟩
  have s12 := s1.trans s2
  have hk2 := s2 _ _ hk
  refine ⟨_, rfl, _, rfl, a, kl, ns, rfl, hS.same s12, hk2, l9, fun z H3' s3' => ?_⟩
  refine ⟨_, rfl, _, rfl, _, rfl, a, kl, ns, z, rfl, hS.same (s12.trans s3'), s3' _ _ hk2, l9, fun H3 s3'' => ⟨true, rfl, iteF ?_⟩⟩
  have s3 := s3'.trans s3''
  have RA3 := RA.same s3
  obtain ⟨ps, hp, rel⟩ := id RA3
  have lps : ps.length = rows.length := Paired.length rel
  have fr := FR.n
  have ft := FR.t
  refine ⟨_, rfl, r, rfl, ⟨_, SqL.of hp⟩, ?_⟩
  refine compB_mk (seq_list (SqL.of hp)) (fun x y G => ∃ (p q : Addr) (row : List Str), x = .ref p ∧ H3 p = some (.lst (row.map V.str)) ∧ y = .ref q ∧ G q = some (.lst (row.map V.str))) (by rw [List.length_map]; exact small1000 (by omega)) (fun x hx' H' R _ r => r) (fun x hx' H' R s4 rr => ?_) (fun h H4 us s4 nh hh hl3 hg => ?_)
  · obtain ⟨p, hmem, rfl⟩ := List.mem_map.mp hx'
    obtain ⟨j, hj⟩ := List.mem_iff_getElem?.mp hmem
    obtain ⟨row, hrow, prow⟩ := paired_at' rel hj
    refine ⟨_, rfl, p, _, rfl, .inl (SqL.of (s4 _ _ prow)), fun l nl => ?_⟩
    exact rr _ _ (same_new nl _) ⟨fun z => z = l, fun z ez => by rw [ez]; exact ⟨nl, _, upd_same⟩, fun G h3 => ⟨p, l, row, rfl, prow, rfl, by rw [h3 l rfl, upd_same]⟩⟩
  obtain ⟨qs, rfl, relq⟩ := copy_of rel hl3 hg
  have RH : RowsAt H4 h rows := ⟨qs, hh, relq⟩
  have RA4 := RA3.same s4
  clear hg hl3
  have lr60 : rows.length ≤ 60 := by omega
  have lrow : ∀ row ∈ rows, row.length ≤ 60 := fun row hrow => by
    have := tot_row hrow
    omega
  have s04 := s12.trans (s3.trans s4)
  have hk4 := (s3.trans s4) _ _ hk2
  have hS4 := hS.same s04
  refine ⟨_, rfl, _, rfl, h, rows, z, rfl, RH, lr60, lrow, fun _ x o tl H5 ns1 L s5 FW => ?_, fun c => by omega⟩
  have hx5 := FW.at_
  refine ⟨_, rfl, _, _, _, true, rfl, TyOf.tup hx5, kit_same _, true, rfl, iteF ?_⟩
  refine ⟨_, rfl, x, _, rfl, .inr (SqT.of hx5), rfl, _, rfl, ite2 (fun c => by simp at c) fun _ => ?_⟩
  refine ⟨_, rfl, x, _, _, _, rfl, rfl, SqT.of hx5, atI_nat (j := 1) rfl, _, rfl, true, rfl, iteF ?_⟩
  refine ⟨_, rfl, _, rfl, rows_dq (RH.same s5) (RA4.same s5) ⟨_, rfl, iteF ?_⟩⟩
  obtain ⟨g1, g2, g3⟩ := good_fit FW.good
  refine ⟨_, rfl, _, rfl, x, _, _, _, rfl, rfl, SqT.of hx5, atI_nat (j := 2) rfl, r, tl, rows, _, rfl, RA4.same s5, lr60, lrow, FW.tol, g1, g2, g3, fun D H6 ys s6 nD Y pys => ?_⟩
  obtain ⟨py, ky⟩ := prY_of pys
  have inY : ∀ s, s ∈ L ↔ s ∈ keysY ys := fun s => by rw [ky, List.mem_reverse]
  have RA6 := (RA4.same s5).same s6
  obtain ⟨ps6, hp6, rel6⟩ := id RA6
  have lps6 : ps6.length = rows.length := Paired.length rel6
  refine ⟨_, rfl, r, rfl, ⟨_, SqL.of hp6⟩, ?_⟩
  refine compB_mk (seq_list (SqL.of hp6)) (fun x y _ => y = .int 0) (by rw [List.length_map]; exact small1000 (by omega)) (fun x hx' H' R _ r => r) (fun x hx' H' R s3 rr => rr _ _ (Same.refl _) (new_triv rfl)) (fun W H7 us s7 nW hW hl3 hg => ?_)
  have eu : us = dsV (firstS rows z).1 := zeros_of rows.length (by rw [List.length_map, lps6]) hl3 hg
  subst eu
  refine ⟨W, _, rfl, .inl ⟨SqL.of hW, fun d nd => ?_⟩⟩
  have t2 := same_new nd (.tup (dsV (firstS rows z).1))
  have hd : (upd H7 d (.tup (dsV (firstS rows z).1))) d = some (.tup (dsV (firstS rows z).1)) := upd_same
  generalize upd H7 d (.tup (dsV (firstS rows z).1)) = H7a at t2 hd ⊢
  refine ⟨_, rfl, small (by show 2 ≤ 1000; decide), fun fb nfb => ?_⟩
  have t3 := same_new nfb (.tup [V.ref d, .str z])
  have hfb : StA (upd H7a fb (.tup [V.ref d, .str z])) fb (firstS rows z) := ⟨d, upd_same, t3 _ _ hd⟩
  generalize upd H7a fb (.tup [V.ref d, .str z]) = H8 at t3 hfb ⊢
  have s68 := s7.trans (t2.trans t3)
  have s58 := s6.trans s68
  have Y8 := Y.same s68
  have RA8 := RA6.same s68
  refine ⟨_, rfl, rfl, _, rfl, iteF ?_⟩
  refine ⟨_, rfl, _, rfl, _, rfl, r, fb, D, rows, firstS rows z, ys, rfl, RA8, lr60, hfb, Y8, py, (inY _).mp FW.good.fst, fun s hs => ?_, fun H9 s9 => ⟨true, rfl, iteF ?_⟩⟩
  · have sL := (inY s).mpr hs
    exact ⟨(FW.good.wf s sL).1, fun t ht => (inY _).mp (FW.good.cl s sL t ht)⟩
  have s59 := s58.trans s9
  have hx9 := s59 _ _ hx5
  have Y9 := Y8.same s9
  have hfb9 := hfb.tp (tpS s9)
  have fin := pr_lk py ((inY _).mp FW.good.fst)
  refine ⟨_, rfl, _, rfl, D, fb, _, _, _, rfl, rfl, Y9.na, hfb9.nk, by rw [lk_ndx]; exact fin, _, rfl, x, _, _, _, rfl, rfl, SqT.of hx9, atI_nat (j := 1) rfl, rfl, _, rfl, ite2 (fun c => by simp at c) fun _ => ?_⟩
  have ho9 := s59 _ _ FW.ord
  refine ⟨_, rfl, _, rfl, _, rfl, x, _, _, _, rfl, rfl, SqT.of hx9, atI_nat (j := 0) rfl, r, o, z, rows, ns1, rfl, RA8.same s9, lr60, lrow, ho9, FW.ln, FW.best, fun H10 s10 => ?_⟩
  have s510 := s59.trans s10
  have hx10 := s10 _ _ hx9
  refine ⟨_, rfl, x, _, _, _, rfl, rfl, SqT.of hx10, atI_nat (j := 1) rfl, rfl, _, rfl, ite2 (fun c => by simp at c) fun _ => ?_⟩
  have ho10 := s10 _ _ ho9
  refine ⟨_, rfl, x, _, _, _, rfl, rfl, SqT.of hx10, atI_nat (j := 0) rfl, .inl ⟨rfl, _, SqL.of ho10⟩, o, _, _, rfl, rfl, ho10, ?_, ?_⟩
  · have := FW.ln
    unfold nsV
    rw [List.length_map]
    exact small1000 (by omega)
  have t11 : Tp H10 (upd H10 o (.lst (nsV ns1 ++ [.int 0]))) := tp_upd ho10 (by intro ys z; cases z)
  have s411 : Same H4 (upd H10 o (.lst (nsV ns1 ++ [.int 0]))) := same_on FW.no (s5.trans s510) _
  have nDo : D ≠ o := fun z => by
    have := FW.ord
    rw [← z, nD] at this
    cases this
  have Y10 := Y9.same s10
  have Y11 : YAt P w (upd H10 o (.lst (nsV ns1 ++ [.int 0]))) D ys := ⟨by rw [upd_ne nDo]; exact Y10.at_, fun p hp => (Y10.st p hp).tp t11⟩
  have hfb11 := (hfb9.tp (tpS s10)).tp t11
  generalize upd H10 o (.lst (nsV ns1 ++ [.int 0])) = H11 at t11 s411 Y11 hfb11 ⊢
  have RH11 := RH.same s411
  have RA11 := RA4.same s411
  refine ⟨_, rfl, _, rfl, h, rows, z, rfl, RH11, lr60, lrow, fun _ x2 o2 tl2 H12 ns2 L2 s12' FW2 => ?_, fun c => by omega⟩
  have hx12 := FW2.at_
  refine ⟨_, rfl, _, rfl, _, rfl, x2, _, _, _, rfl, rfl, SqT.of hx12, atI_nat (j := 0) rfl, r, o2, z, rows, ns2, rfl, RA11.same s12', lr60, lrow, FW2.ord, FW2.ln, FW2.best, fun H13 s13 => ?_⟩
  have s1113 := s12'.trans s13
  refine ⟨_, rfl, _, rfl, D, fb, _, _, _, rfl, rfl, (Y11.same s1113).na, (hfb11.tp (tpS s1113)).nk, by rw [lk_ndx]; exact fin, rfl, _, rfl, ite2 (fun c => by simp at c) fun _ => ?_⟩
  have s413 := s411.trans s1113
  exact ⟨_, rfl, _, rfl, _, rfl, a, kl, ns, z, rfl, hS4.same s413, s413 _ _ hk4, l9, fun H14 _ => q H14⟩
end
end My
namespace PySem.W.Fast
theorem tw5425619267516235046:True:=⟨⟩
theorem tw844766884154325935:True:=⟨⟩
theorem tw11711671014967781110:True:=⟨⟩
theorem tw9277732847258386116:True:=⟨⟩
theorem tw4218979123833695626:True:=⟨⟩
theorem tw4060488604825393751:True:=⟨⟩
theorem tw430382032026161828:True:=⟨⟩
theorem tw14686317770112841514:True:=⟨⟩
theorem tw12491590562109063910:True:=⟨⟩
theorem tw4289683881582196806:True:=⟨⟩
theorem tw17778481792308602333:True:=⟨⟩
theorem tw13096023221968952692:True:=⟨⟩
theorem tw4321221926607509129:True:=⟨⟩
theorem tw13123111211706907126:True:=⟨⟩
theorem tw2099759070711924504:True:=⟨⟩
theorem tw4475416084203324057:True:=⟨⟩
theorem tw17912162044740661639:True:=⟨⟩
theorem tw13338132165784617774:True:=⟨⟩
theorem tw15187380969967295488:True:=⟨⟩
end PySem.W.Fast
namespace My
open PySem L2
theorem bn1 {p : List Value → Prop} (h : ∀ a0 : Value, p [a0]) (us : List Value) (l : us.length = 1) : p us := match us, l with | [a0], _ => h a0
theorem bn2 {p : List Value → Prop} (h : ∀ a0 a1 : Value, p [a0, a1]) (us : List Value) (l : us.length = 2) : p us := match us, l with | [a0, a1], _ => h a0 a1
theorem bn3 {p : List Value → Prop} (h : ∀ a0 a1 a2 : Value, p [a0, a1, a2]) (us : List Value) (l : us.length = 3) : p us := match us, l with | [a0, a1, a2], _ => h a0 a1 a2
theorem all_mk {l : PySem.W.OpenLaw} {w : World} {K : PySem.W.Frag} {h : Heap} {mg : Str → Option Value} {fa cBadLine cUnknown cTwice cNotNow cTooMuch cDry cOver cNowhere cBusy cNoHeap cNoPrinter cGoesRound cNoWay cHallError f0 f1 f2 f3 f4 f5 f6 f7 f8 f9 f10 f11 f12 f13 f14 f15 f16 f17 f18 f19 f20 : Addr} (X : K.In h) (G : h.Ns mainGlobals mg) (hfa : mg "law" = some (.ref fa))
    {od0 an0 od1 an1 od2 an2 od3 an3 od4 an4 od5 an5 od6 an6 od7 an7 od8 an8 od9 an9 od10 an10 od11 an11 od12 an12 od13 an13 od14 an14 od15 an15 od16 an16 od17 an17 od18 an18 od19 an19 od20 an20 : Option Addr} {sl0 sl1 sl2 sl3 sl4 sl5 sl6 sl7 sl8 sl9 sl10 sl11 sl12 sl13 sl14 sl15 sl16 sl17 sl18 sl19 sl20 : Array (Option Value)}
    {oc0 kV0 dc0 pm0 cd0 ct0 oc1 kV1 dc1 pm1 cd1 ct1 oc2 kV2 dc2 pm2 cd2 ct2 oc3 kV3 dc3 pm3 cd3 ct3 oc4 kV4 dc4 pm4 cd4 ct4 oc5 kV5 dc5 pm5 cd5 ct5 oc6 kV6 dc6 pm6 cd6 ct6 oc7 kV7 dc7 pm7 cd7 ct7 oc8 kV8 dc8 pm8 cd8 ct8 oc9 kV9 dc9 pm9 cd9 ct9 oc10 kV10 dc10 pm10 cd10 ct10 oc11 kV11 dc11 pm11 cd11 ct11 oc12 kV12 dc12 pm12 cd12 ct12 oc13 kV13 dc13 pm13 cd13 ct13 oc14 kV14 dc14 pm14 cd14 ct14 oc15 kV15 dc15 pm15 cd15 ct15 oc16 kV16 dc16 pm16 cd16 ct16 oc17 kV17 dc17 pm17 cd17 ct17 oc18 kV18 dc18 pm18 cd18 ct18 oc19 kV19 dc19 pm19 cd19 ct19 oc20 kV20 dc20 pm20 cd20 ct20 : Value}
    (aC_BadLine : PySem.W.nsIn K mainGlobals "BadLine" = some (some (.ref cBadLine)))
    (aC_Unknown : PySem.W.nsIn K mainGlobals "Unknown" = some (some (.ref cUnknown)))
    (aC_Twice : PySem.W.nsIn K mainGlobals "Twice" = some (some (.ref cTwice)))
    (aC_NotNow : PySem.W.nsIn K mainGlobals "NotNow" = some (some (.ref cNotNow)))
    (aC_TooMuch : PySem.W.nsIn K mainGlobals "TooMuch" = some (some (.ref cTooMuch)))
    (aC_Dry : PySem.W.nsIn K mainGlobals "Dry" = some (some (.ref cDry)))
    (aC_Over : PySem.W.nsIn K mainGlobals "Over" = some (some (.ref cOver)))
    (aC_Nowhere : PySem.W.nsIn K mainGlobals "Nowhere" = some (some (.ref cNowhere)))
    (aC_Busy : PySem.W.nsIn K mainGlobals "Busy" = some (some (.ref cBusy)))
    (aC_NoHeap : PySem.W.nsIn K mainGlobals "NoHeap" = some (some (.ref cNoHeap)))
    (aC_NoPrinter : PySem.W.nsIn K mainGlobals "NoPrinter" = some (some (.ref cNoPrinter)))
    (aC_GoesRound : PySem.W.nsIn K mainGlobals "GoesRound" = some (some (.ref cGoesRound)))
    (aC_NoWay : PySem.W.nsIn K mainGlobals "NoWay" = some (some (.ref cNoWay)))
    (aC_HallError : PySem.W.nsIn K mainGlobals "HallError" = some (some (.ref cHallError)))
    (a0 : PySem.W.findIn K (.ref cTooMuch) "__init__" = some (some (.ref f0)))
    (i0 : PySem.W.isFn K (.ref f0) = true)
    (l0 : K.lookup f0 = some ⟨oc0, od0, .func (PySem.W.fnOf "__init__" "TooMuch.__init__" (defArgs s_TooMuch_init) (defBody s_TooMuch_init) (defScope s_TooMuch_init) .none kV0 dc0 pm0 an0 cd0 ct0), sl0⟩)
    (c0 : PySem.W.codeIn K cd0 "TooMuch.__init__" = true)
    (k0 : PySem.W.keepIn K (.ref f0) = true)
    (a1 : PySem.W.nsIn K mainGlobals "change" = some (some (.ref f1)))
    (l1 : K.lookup f1 = some ⟨oc1, od1, .func (PySem.W.fnOf "change" "change" (defArgs s_change) (defBody s_change) (defScope s_change) .none kV1 dc1 pm1 an1 cd1 ct1), sl1⟩)
    (c1 : PySem.W.codeIn K cd1 "change" = true)
    (k1 : PySem.W.keepIn K (.ref f1) = true)
    (a2 : PySem.W.nsIn K mainGlobals "fewest" = some (some (.ref f2)))
    (l2 : K.lookup f2 = some ⟨oc2, od2, .func (PySem.W.fnOf "fewest" "fewest" (defArgs s_fewest) (defBody s_fewest) (defScope s_fewest) .none kV2 dc2 pm2 an2 cd2 ct2), sl2⟩)
    (c2 : PySem.W.codeIn K cd2 "fewest" = true)
    (k2 : PySem.W.keepIn K (.ref f2) = true)
    (a3 : PySem.W.nsIn K mainGlobals "moves" = some (some (.ref f3)))
    (l3 : K.lookup f3 = some ⟨oc3, od3, .func (PySem.W.fnOf "moves" "moves" (defArgs s_moves) (defBody s_moves) (defScope s_moves) .none kV3 dc3 pm3 an3 cd3 ct3), sl3⟩)
    (c3 : PySem.W.codeIn K cd3 "moves" = true)
    (k3 : PySem.W.keepIn K (.ref f3) = true)
    (a4 : PySem.W.nsIn K mainGlobals "reached" = some (some (.ref f4)))
    (l4 : K.lookup f4 = some ⟨oc4, od4, .func (PySem.W.fnOf "reached" "reached" (defArgs s_reached) (defBody s_reached) (defScope s_reached) .none kV4 dc4 pm4 an4 cd4 ct4), sl4⟩)
    (c4 : PySem.W.codeIn K cd4 "reached" = true)
    (k4 : PySem.W.keepIn K (.ref f4) = true)
    (a5 : PySem.W.nsIn K mainGlobals "behind" = some (some (.ref f5)))
    (l5 : K.lookup f5 = some ⟨oc5, od5, .func (PySem.W.fnOf "behind" "behind" (defArgs s_behind) (defBody s_behind) (defScope s_behind) .none kV5 dc5 pm5 an5 cd5 ct5), sl5⟩)
    (c5 : PySem.W.codeIn K cd5 "behind" = true)
    (k5 : PySem.W.keepIn K (.ref f5) = true)
    (a6 : PySem.W.nsIn K mainGlobals "priced" = some (some (.ref f6)))
    (l6 : K.lookup f6 = some ⟨oc6, od6, .func (PySem.W.fnOf "priced" "priced" (defArgs s_priced) (defBody s_priced) (defScope s_priced) .none kV6 dc6 pm6 an6 cd6 ct6), sl6⟩)
    (c6 : PySem.W.codeIn K cd6 "priced" = true)
    (k6 : PySem.W.keepIn K (.ref f6) = true)
    (a7 : PySem.W.nsIn K mainGlobals "dearness" = some (some (.ref f7)))
    (l7 : K.lookup f7 = some ⟨oc7, od7, .func (PySem.W.fnOf "dearness" "dearness" (defArgs s_dearness) (defBody s_dearness) (defScope s_dearness) .none kV7 dc7 pm7 an7 cd7 ct7), sl7⟩)
    (c7 : PySem.W.codeIn K cd7 "dearness" = true)
    (k7 : PySem.W.keepIn K (.ref f7) = true)
    (a8 : PySem.W.nsIn K mainGlobals "best_order" = some (some (.ref f8)))
    (l8 : K.lookup f8 = some ⟨oc8, od8, .func (PySem.W.fnOf "best_order" "best_order" (defArgs s_best_order) (defBody s_best_order) (defScope s_best_order) .none kV8 dc8 pm8 an8 cd8 ct8), sl8⟩)
    (c8 : PySem.W.codeIn K cd8 "best_order" = true)
    (k8 : PySem.W.keepIn K (.ref f8) = true)
    (a9 : PySem.W.nsIn K mainGlobals "_law_draw" = some (some (.ref f9)))
    (l9 : K.lookup f9 = some ⟨oc9, od9, .func (PySem.W.fnOf "_law_draw" "_law_draw" (defArgs s__law_draw) (defBody s__law_draw) (defScope s__law_draw) .none kV9 dc9 pm9 an9 cd9 ct9), sl9⟩)
    (c9 : PySem.W.codeIn K cd9 "_law_draw" = true)
    (k9 : PySem.W.keepIn K (.ref f9) = true)
    (a10 : PySem.W.nsIn K mainGlobals "_law_whole" = some (some (.ref f10)))
    (l10 : K.lookup f10 = some ⟨oc10, od10, .func (PySem.W.fnOf "_law_whole" "_law_whole" (defArgs s__law_whole) (defBody s__law_whole) (defScope s__law_whole) .none kV10 dc10 pm10 an10 cd10 ct10), sl10⟩)
    (c10 : PySem.W.codeIn K cd10 "_law_whole" = true)
    (k10 : PySem.W.keepIn K (.ref f10) = true)
    (a11 : PySem.W.nsIn K mainGlobals "_law_names" = some (some (.ref f11)))
    (l11 : K.lookup f11 = some ⟨oc11, od11, .func (PySem.W.fnOf "_law_names" "_law_names" (defArgs s__law_names) (defBody s__law_names) (defScope s__law_names) .none kV11 dc11 pm11 an11 cd11 ct11), sl11⟩)
    (c11 : PySem.W.codeIn K cd11 "_law_names" = true)
    (k11 : PySem.W.keepIn K (.ref f11) = true)
    (a12 : PySem.W.nsIn K mainGlobals "_law_rows" = some (some (.ref f12)))
    (l12 : K.lookup f12 = some ⟨oc12, od12, .func (PySem.W.fnOf "_law_rows" "_law_rows" (defArgs s__law_rows) (defBody s__law_rows) (defScope s__law_rows) .none kV12 dc12 pm12 an12 cd12 ct12), sl12⟩)
    (c12 : PySem.W.codeIn K cd12 "_law_rows" = true)
    (k12 : PySem.W.keepIn K (.ref f12) = true)
    (a13 : PySem.W.nsIn K mainGlobals "_law_loaded" = some (some (.ref f13)))
    (l13 : K.lookup f13 = some ⟨oc13, od13, .func (PySem.W.fnOf "_law_loaded" "_law_loaded" (defArgs s__law_loaded) (defBody s__law_loaded) (defScope s__law_loaded) .none kV13 dc13 pm13 an13 cd13 ct13), sl13⟩)
    (c13 : PySem.W.codeIn K cd13 "_law_loaded" = true)
    (k13 : PySem.W.keepIn K (.ref f13) = true)
    (a14 : PySem.W.nsIn K mainGlobals "_law_nexts" = some (some (.ref f14)))
    (l14 : K.lookup f14 = some ⟨oc14, od14, .func (PySem.W.fnOf "_law_nexts" "_law_nexts" (defArgs s__law_nexts) (defBody s__law_nexts) (defScope s__law_nexts) .none kV14 dc14 pm14 an14 cd14 ct14), sl14⟩)
    (c14 : PySem.W.codeIn K cd14 "_law_nexts" = true)
    (k14 : PySem.W.keepIn K (.ref f14) = true)
    (a15 : PySem.W.nsIn K mainGlobals "_law_told_prices" = some (some (.ref f15)))
    (l15 : K.lookup f15 = some ⟨oc15, od15, .func (PySem.W.fnOf "_law_told_prices" "_law_told_prices" (defArgs s__law_told_prices) (defBody s__law_told_prices) (defScope s__law_told_prices) .none kV15 dc15 pm15 an15 cd15 ct15), sl15⟩)
    (c15 : PySem.W.codeIn K cd15 "_law_told_prices" = true)
    (k15 : PySem.W.keepIn K (.ref f15) = true)
    (a16 : PySem.W.nsIn K mainGlobals "_law_order_takes" = some (some (.ref f16)))
    (l16 : K.lookup f16 = some ⟨oc16, od16, .func (PySem.W.fnOf "_law_order_takes" "_law_order_takes" (defArgs s__law_order_takes) (defBody s__law_order_takes) (defScope s__law_order_takes) .none kV16 dc16 pm16 an16 cd16 ct16), sl16⟩)
    (c16 : PySem.W.codeIn K cd16 "_law_order_takes" = true)
    (k16 : PySem.W.keepIn K (.ref f16) = true)
    (a17 : PySem.W.nsIn K mainGlobals "_law_none_less" = some (some (.ref f17)))
    (l17 : K.lookup f17 = some ⟨oc17, od17, .func (PySem.W.fnOf "_law_none_less" "_law_none_less" (defArgs s__law_none_less) (defBody s__law_none_less) (defScope s__law_none_less) .none kV17 dc17 pm17 an17 cd17 ct17), sl17⟩)
    (c17 : PySem.W.codeIn K cd17 "_law_none_less" = true)
    (k17 : PySem.W.keepIn K (.ref f17) = true)
    (a18 : PySem.W.nsIn K mainGlobals "_law_others" = some (some (.ref f18)))
    (l18 : K.lookup f18 = some ⟨oc18, od18, .func (PySem.W.fnOf "_law_others" "_law_others" (defArgs s__law_others) (defBody s__law_others) (defScope s__law_others) .none kV18 dc18 pm18 an18 cd18 ct18), sl18⟩)
    (c18 : PySem.W.codeIn K cd18 "_law_others" = true)
    (k18 : PySem.W.keepIn K (.ref f18) = true)
    (a19 : PySem.W.nsIn K mainGlobals "_law_too_many" = some (some (.ref f19)))
    (l19 : K.lookup f19 = some ⟨oc19, od19, .func (PySem.W.fnOf "_law_too_many" "_law_too_many" (defArgs s__law_too_many) (defBody s__law_too_many) (defScope s__law_too_many) .none kV19 dc19 pm19 an19 cd19 ct19), sl19⟩)
    (c19 : PySem.W.codeIn K cd19 "_law_too_many" = true)
    (k19 : PySem.W.keepIn K (.ref f19) = true)
    (a20 : PySem.W.nsIn K mainGlobals "law" = some (some (.ref f20)))
    (l20 : K.lookup f20 = some ⟨oc20, od20, .func (PySem.W.fnOf "law" "law" (defArgs s_law) (defBody s_law) (defScope s_law) .none kV20 dc20 pm20 an20 cd20 ct20), sl20⟩)
    (c20 : PySem.W.codeIn K cd20 "law" = true)
    (k20 : PySem.W.keepIn K (.ref f20) = true)
    (xc_BadLine : xcls K cBadLine ["place"] = true)
    (xm_BadLine : PySem.W.excMk K cBadLine = true)
    (kc_BadLine : PySem.W.keepIn K (.ref cBadLine) = true)
    (xc_Unknown : xcls K cUnknown ["name"] = true)
    (xm_Unknown : PySem.W.excMk K cUnknown = true)
    (kc_Unknown : PySem.W.keepIn K (.ref cUnknown) = true)
    (xc_Twice : xcls K cTwice ["name"] = true)
    (xm_Twice : PySem.W.excMk K cTwice = true)
    (kc_Twice : PySem.W.keepIn K (.ref cTwice) = true)
    (xc_NotNow : xcls K cNotNow ["found"] = true)
    (xm_NotNow : PySem.W.excMk K cNotNow = true)
    (kc_NotNow : PySem.W.keepIn K (.ref cNotNow) = true)
    (xc_TooMuch : xcls K cTooMuch ["name"] = true)
    (xm_TooMuch : PySem.W.excMk K cTooMuch = true)
    (kc_TooMuch : PySem.W.keepIn K (.ref cTooMuch) = true)
    (xc_Dry : xcls K cDry ["name"] = true)
    (xm_Dry : PySem.W.excMk K cDry = true)
    (kc_Dry : PySem.W.keepIn K (.ref cDry) = true)
    (xc_Over : xcls K cOver ["job"] = true)
    (xm_Over : PySem.W.excMk K cOver = true)
    (kc_Over : PySem.W.keepIn K (.ref cOver) = true)
    (xc_Nowhere : xcls K cNowhere ["job"] = true)
    (xm_Nowhere : PySem.W.excMk K cNowhere = true)
    (kc_Nowhere : PySem.W.keepIn K (.ref cNowhere) = true)
    (xc_Busy : xcls K cBusy ["job"] = true)
    (xm_Busy : PySem.W.excMk K cBusy = true)
    (kc_Busy : PySem.W.keepIn K (.ref cBusy) = true)
    (xc_NoHeap : xcls K cNoHeap ["place"] = true)
    (xm_NoHeap : PySem.W.excMk K cNoHeap = true)
    (kc_NoHeap : PySem.W.keepIn K (.ref cNoHeap) = true)
    (xc_NoPrinter : xcls K cNoPrinter ["job", "lacks"] = true)
    (xm_NoPrinter : PySem.W.excMk K cNoPrinter = true)
    (kc_NoPrinter : PySem.W.keepIn K (.ref cNoPrinter) = true)
    (xc_GoesRound : xcls K cGoesRound ["ring"] = true)
    (xm_GoesRound : PySem.W.excMk K cGoesRound = true)
    (kc_GoesRound : PySem.W.keepIn K (.ref cGoesRound) = true)
    (xc_NoWay : xcls K cNoWay ["place"] = true)
    (xm_NoWay : PySem.W.excMk K cNoWay = true)
    (kc_NoWay : PySem.W.keepIn K (.ref cNoWay) = true)
    (xq_HallError : PySem.W.excMk K cHallError = true)
    (mh_TooMuch_TooMuch : PySem.W.mroHas K cTooMuch (.ref cTooMuch) = true)
    (mh_TooMuch_HallError : PySem.W.mroHas K cTooMuch (.ref cHallError) = true)
    (xcn : PySem.W.specialIn K (.builtin "object.__class__") "__get__" = some (some (.builtin "getset_descriptor.__get__")))
    (xct : PySem.W.takesIn K (.builtin "object.__class__") = some true)
    (xb1 : PySem.W.specialIn K (.ref cHallError) "__getattribute__" = some (some (.builtin "type.__getattribute__")))
    (xb2 : PySem.W.readsIn K cHallError (.type "type") = true)
    (xb3 : PySem.W.findCls K (.ref cHallError) (.type "type") "__init__" = some (.val (.builtin "ValueError.__init__")))
    (xkt : kitTab K [cBadLine, cUnknown, cTwice, cNotNow, cTooMuch, cDry, cOver, cNowhere, cBusy, cNoHeap, cNoPrinter, cGoesRound, cNoWay] cHallError = true)
    {xJOBS_MOST : Int} {tJOBS_MOST : Tok}
    (gJOBS_MOST : PySem.W.nsIn K mainGlobals "JOBS_MOST" = some (some (.int xJOBS_MOST tJOBS_MOST)))
    (eJOBS_MOST : xJOBS_MOST = 8)
    {xJOBS : Str} {tJOBS : Tok}
    (gJOBS : PySem.W.nsIn K mainGlobals "JOBS" = some (some (.str xJOBS tJOBS)))
    (eJOBS : xJOBS = Str.ofString "jobs")
    (z_len : PySem.W.nsIn K mainGlobals "len" = some none)
    (z_range : PySem.W.nsIn K mainGlobals "range" = some none)
    (z_enumerate : PySem.W.nsIn K mainGlobals "enumerate" = some none)
    (z_str : PySem.W.nsIn K mainGlobals "str" = some none)
    (z_int : PySem.W.nsIn K mainGlobals "int" = some none)
    (z_bool : PySem.W.nsIn K mainGlobals "bool" = some none)
    (z_tuple : PySem.W.nsIn K mainGlobals "tuple" = some none)
    (z_list : PySem.W.nsIn K mainGlobals "list" = some none)
    (z_isinstance : PySem.W.nsIn K mainGlobals "isinstance" = some none)
    (z_min : PySem.W.nsIn K mainGlobals "min" = some none)
    (z_sum : PySem.W.nsIn K mainGlobals "sum" = some none)
    (z_reversed : PySem.W.nsIn K mainGlobals "reversed" = some none)
    (z_ValueError : PySem.W.nsIn K mainGlobals "ValueError" = some none)
    : ∃ fd : FuncData, (∀ (s : Shared) (v : Value), BindsTo s fd ⟨[v], []⟩ [("_law_script", v)]) ∧ ∀ base : Heap, K.In base → base.Ns mainGlobals mg → FnOk l.prog w K mg base CX0 6 fa fd ["_law_script"] (sp_law K) := by
  have e := hfa.symm.trans (PySem.W.mg_of X G a20)
  cases e
  have F0 := fun_mk (st := s_TooMuch_init) l0 c0 k0
  have F1 := fun_mk (st := s_change) l1 c1 k1
  have F2 := fun_mk (st := s_fewest) l2 c2 k2
  have F3 := fun_mk (st := s_moves) l3 c3 k3
  have F4 := fun_mk (st := s_reached) l4 c4 k4
  have F5 := fun_mk (st := s_behind) l5 c5 k5
  have F6 := fun_mk (st := s_priced) l6 c6 k6
  have F7 := fun_mk (st := s_dearness) l7 c7 k7
  have F8 := fun_mk (st := s_best_order) l8 c8 k8
  have F9 := fun_mk (st := s__law_draw) l9 c9 k9
  have F10 := fun_mk (st := s__law_whole) l10 c10 k10
  have F11 := fun_mk (st := s__law_names) l11 c11 k11
  have F12 := fun_mk (st := s__law_rows) l12 c12 k12
  have F13 := fun_mk (st := s__law_loaded) l13 c13 k13
  have F14 := fun_mk (st := s__law_nexts) l14 c14 k14
  have F15 := fun_mk (st := s__law_told_prices) l15 c15 k15
  have F16 := fun_mk (st := s__law_order_takes) l16 c16 k16
  have F17 := fun_mk (st := s__law_none_less) l17 c17 k17
  have F18 := fun_mk (st := s__law_others) l18 c18 k18
  have F19 := fun_mk (st := s__law_too_many) l19 c19 k19
  have F20 := fun_mk (st := s_law) l20 c20 k20
  have b0 := F0.binds (ps := ["self", "name"]) fun _ _ _ _ _ _ => bn2 fun _ _ => rfl
  have b1 := F1.binds (ps := ["first", "second"]) fun _ _ _ _ _ _ => bn2 fun _ _ => rfl
  have b2 := F2.binds (ps := ["rows", "loaded"]) fun _ _ _ _ _ _ => bn2 fun _ _ => rfl
  have b3 := F3.binds (ps := ["state", "rows"]) fun _ _ _ _ _ _ => bn2 fun _ _ => rfl
  have b4 := F4.binds (ps := ["first", "rows"]) fun _ _ _ _ _ _ => bn2 fun _ _ => rfl
  have b5 := F5.binds (ps := ["layer", "rows"]) fun _ _ _ _ _ _ => bn2 fun _ _ => rfl
  have b6 := F6.binds (ps := ["states", "rows"]) fun _ _ _ _ _ _ => bn2 fun _ _ => rfl
  have b7 := F7.binds (ps := ["state", "move", "prices"]) fun _ _ _ _ _ _ => bn3 fun _ _ _ => rfl
  have b8 := F8.binds (ps := ["first", "rows", "prices"]) fun _ _ _ _ _ _ => bn3 fun _ _ _ => rfl
  have b9 := F9.binds (ps := ["_law_script", "_law_k", "_law_many"]) fun _ _ _ _ _ _ => bn3 fun _ _ _ => rfl
  have b10 := F10.binds (ps := ["_law_found"]) fun _ _ _ _ _ _ => bn1 fun _ => rfl
  have b11 := F11.binds (ps := ["_law_script", "_law_k", "_law_many"]) fun _ _ _ _ _ _ => bn3 fun _ _ _ => rfl
  have b12 := F12.binds (ps := ["_law_script", "_law_kinds"]) fun _ _ _ _ _ _ => bn2 fun _ _ => rfl
  have b13 := F13.binds (ps := ["_law_script", "_law_kinds"]) fun _ _ _ _ _ _ => bn2 fun _ _ => rfl
  have b14 := F14.binds (ps := ["_law_rows_here", "_law_state"]) fun _ _ _ _ _ _ => bn2 fun _ _ => rfl
  have b15 := F15.binds (ps := ["_law_rows_here", "_law_prices"]) fun _ _ _ _ _ _ => bn2 fun _ _ => rfl
  have b16 := F16.binds (ps := ["_law_rows_here", "_law_loaded_here", "_law_places"]) fun _ _ _ _ _ _ => bn3 fun _ _ _ => rfl
  have b17 := F17.binds (ps := ["_law_rows_here", "_law_first", "_law_told"]) fun _ _ _ _ _ _ => bn3 fun _ _ _ => rfl
  have b18 := F18.binds (ps := ["_law_e"]) fun _ _ _ _ _ _ => bn1 fun _ => rfl
  have b19 := F19.binds (ps := ["_law_script", "_law_kinds", "_law_loaded_here"]) fun _ _ _ _ _ _ => bn3 fun _ _ _ => rfl
  have b20 := F20.binds (ps := ["_law_script"]) fun _ _ _ _ _ _ => bn1 fun _ => rfl
  have T : Txt K mg cBadLine cUnknown cTwice cNotNow cTooMuch cDry cOver cNowhere cBusy cNoHeap cNoPrinter cGoesRound cNoWay cHallError := ⟨PySem.W.mg_none_of X G z_len, PySem.W.mg_none_of X G z_range, PySem.W.mg_none_of X G z_enumerate, PySem.W.mg_none_of X G z_str, PySem.W.mg_none_of X G z_int, PySem.W.mg_none_of X G z_bool, PySem.W.mg_none_of X G z_tuple, PySem.W.mg_none_of X G z_list, PySem.W.mg_none_of X G z_isinstance, PySem.W.mg_none_of X G z_min, PySem.W.mg_none_of X G z_sum, PySem.W.mg_none_of X G z_reversed, PySem.W.mg_none_of X G z_ValueError, ⟨⟨tJOBS_MOST, by rw [← eJOBS_MOST]; exact PySem.W.mg_of X G gJOBS_MOST⟩⟩, ⟨⟨tJOBS, by rw [← eJOBS]; exact PySem.W.mg_of X G gJOBS⟩⟩, xq_HallError, mh_TooMuch_TooMuch, mh_TooMuch_HallError, XCl.of xc_BadLine xm_BadLine xcn xct, PySem.W.mg_of X G aC_BadLine, XCl.of xc_Unknown xm_Unknown xcn xct, PySem.W.mg_of X G aC_Unknown, XCl.of xc_Twice xm_Twice xcn xct, PySem.W.mg_of X G aC_Twice, XCl.of xc_NotNow xm_NotNow xcn xct, PySem.W.mg_of X G aC_NotNow, XCl.of xc_TooMuch xm_TooMuch xcn xct, PySem.W.mg_of X G aC_TooMuch, XCl.of xc_Dry xm_Dry xcn xct, PySem.W.mg_of X G aC_Dry, XCl.of xc_Over xm_Over xcn xct, PySem.W.mg_of X G aC_Over, XCl.of xc_Nowhere xm_Nowhere xcn xct, PySem.W.mg_of X G aC_Nowhere, XCl.of xc_Busy xm_Busy xcn xct, PySem.W.mg_of X G aC_Busy, XCl.of xc_NoHeap xm_NoHeap xcn xct, PySem.W.mg_of X G aC_NoHeap, XCl.of xc_NoPrinter xm_NoPrinter xcn xct, PySem.W.mg_of X G aC_NoPrinter, XCl.of xc_GoesRound xm_GoesRound xcn xct, PySem.W.mg_of X G aC_GoesRound, XCl.of xc_NoWay xm_NoWay xcn xct, PySem.W.mg_of X G aC_NoWay, ⟨xb1, xb2, xb3⟩, PySem.W.mg_of X G aC_HallError, xkt⟩
  refine ⟨PySem.W.fnOf "law" "law" (defArgs s_law) (defBody s_law) (defScope s_law) .none kV20 dc20 pm20 an20 cd20 ct20, fun s v => .of_eq rfl, fun base _ _ => ?_⟩
  have D__law_draw : Dfn l.prog w K mg base 1 "_law_draw" ["_law_script", "_law_k", "_law_many"] (sp__law_draw K) := ⟨_, _, ok__law_draw F9 T, b9, k9, PySem.W.mg_of X G a9⟩
  have D__law_names : Dfn l.prog w K mg base 2 "_law_names" ["_law_script", "_law_k", "_law_many"] (sp__law_names K) := ⟨_, _, ok__law_names F11 T D__law_draw, b11, k11, PySem.W.mg_of X G a11⟩
  have D__law_rows : Dfn l.prog w K mg base 2 "_law_rows" ["_law_script", "_law_kinds"] (sp__law_rows K) := ⟨_, _, ok__law_rows F12 T D__law_draw, b12, k12, PySem.W.mg_of X G a12⟩
  have D__law_loaded : Dfn l.prog w K mg base 2 "_law_loaded" ["_law_script", "_law_kinds"] (sp__law_loaded K) := ⟨_, _, ok__law_loaded F13 T D__law_draw, b13, k13, PySem.W.mg_of X G a13⟩
  have D_change : Dfn l.prog w K mg base 1 "change" ["first", "second"] (sp_change K) := ⟨_, _, ok_change F1 T, b1, k1, PySem.W.mg_of X G a1⟩
  have D_dearness : Dfn l.prog w K mg base 2 "dearness" ["state", "move", "prices"] (sp_dearness l.prog w) := ⟨_, _, ok_dearness F7 T D_change, b7, k7, PySem.W.mg_of X G a7⟩
  have D_moves : Dfn l.prog w K mg base 1 "moves" ["state", "rows"] (sp_moves K) := ⟨_, _, ok_moves F3 T, b3, k3, PySem.W.mg_of X G a3⟩
  have D_priced : Dfn l.prog w K mg base 3 "priced" ["states", "rows"] (sp_priced l.prog w) := ⟨_, _, ok_priced F6 T D_dearness D_moves, b6, k6, PySem.W.mg_of X G a6⟩
  have X_TooMuch : MkXD l.prog w K mg base 1 "TooMuch" cTooMuch ["self", "name"] (sp_one cTooMuch "name") := ⟨⟨_, _, ⟨xm_TooMuch, a0, i0, kc_TooMuch⟩, ok_TooMuch_init F0 T, b0, PySem.W.mg_of X G aC_TooMuch⟩, by decide⟩
  have D_behind : Dfn l.prog w K mg base 2 "behind" ["layer", "rows"] (sp_behind K) := ⟨_, _, ok_behind F5 T D_moves, b5, k5, PySem.W.mg_of X G a5⟩
  have D_reached : Dfn l.prog w K mg base 3 "reached" ["first", "rows"] (sp_reached K) := ⟨_, _, ok_reached F4 T D_behind, b4, k4, PySem.W.mg_of X G a4⟩
  have D_best_order : Dfn l.prog w K mg base 3 "best_order" ["first", "rows", "prices"] (sp_best_order l.prog w) := ⟨_, _, ok_best_order F8 T D_moves D_dearness, b8, k8, PySem.W.mg_of X G a8⟩
  have D_fewest : DfE l.prog w K mg base 4 "fewest" ["rows", "loaded"] (sp_fewest cTooMuch) := ⟨_, _, ok_fewest F2 T D_priced X_TooMuch D_reached D_best_order, b2, k2, PySem.W.mg_of X G a2⟩
  have D__law_whole : Dfn l.prog w K mg base 1 "_law_whole" ["_law_found"] (sp__law_whole K) := ⟨_, _, ok__law_whole F10 T, b10, k10, PySem.W.mg_of X G a10⟩
  have D__law_told_prices : Dfn l.prog w K mg base 2 "_law_told_prices" ["_law_rows_here", "_law_prices"] (sp__law_told_prices l.prog w) := ⟨_, _, ok__law_told_prices F15 T D__law_whole, b15, k15, PySem.W.mg_of X G a15⟩
  have H__law_others : ∀ ea : Addr, DfnH ea l.prog w K mg base 1 "_law_others" ["_law_e"] (sp__law_others ea cTooMuch) := fun ea => ⟨_, _, okH__law_others (ea := ea) F18 T, b18, k18, PySem.W.mg_of X G a18⟩
  have D__law_too_many : Dfn l.prog w K mg base 5 "_law_too_many" ["_law_script", "_law_kinds", "_law_loaded_here"] (sp__law_too_many K) := ⟨_, _, ok__law_too_many F19 T D_fewest D__law_draw H__law_others, b19, k19, PySem.W.mg_of X G a19⟩
  have D__law_order_takes : Dfn l.prog w K mg base 2 "_law_order_takes" ["_law_rows_here", "_law_loaded_here", "_law_places"] (sp__law_order_takes K) := ⟨_, _, ok__law_order_takes F16 T D__law_whole, b16, k16, PySem.W.mg_of X G a16⟩
  have D__law_nexts : Dfn l.prog w K mg base 1 "_law_nexts" ["_law_rows_here", "_law_state"] (sp__law_nexts K) := ⟨_, _, ok__law_nexts F14 T, b14, k14, PySem.W.mg_of X G a14⟩
  have D__law_none_less : Dfn l.prog w K mg base 2 "_law_none_less" ["_law_rows_here", "_law_first", "_law_told"] (sp__law_none_less l.prog w) := ⟨_, _, ok__law_none_less F17 T D__law_nexts, b17, k17, PySem.W.mg_of X G a17⟩
  exact ok_law F20 T D__law_names D__law_rows D__law_loaded D_fewest D__law_told_prices D__law_too_many D__law_order_takes D__law_whole D__law_none_less
theorem walk {l : PySem.W.OpenLaw} {q : Program} {loose : List Str} {XP : (Str → Option Value) → Heap → Prop} {YP : World → Heap → Prop} {d : DefRec} {K : Params → PySem.W.Frag} (hn : l.most = some 63) (hdf : d.params.defaults = [])
    (hY : ∀ (w : World) (h : Heap), YP w h → (K w.params).In h)
    (F : ∀ (w : World) (mg : Str → Option Value) (fa : Addr) (h : Heap), (K w.params).In h → h.Ns mainGlobals mg → mg d.name = some (.ref fa) →
      ∃ fd : FuncData, (∀ (s : Shared) (u : Value), BindsTo s fd ⟨[u], []⟩ [("_law_script", u)]) ∧ ∀ base : Heap, (K w.params).In base → base.Ns mainGlobals mg → FnOk l.prog w (K w.params) mg base CX0 6 fa fd ["_law_script"] (sp_law (K w.params))) :
    PySem.W.WalkO q loose XP YP l.row.toRowW d [] (fun f vs => PySem.call f vs) :=
  L2.walk_of (n := 63) (k := 6) (x := "_law_script") (CX := fun _ => CX0) (sp := fun w => sp_law (K w.params)) hn (by decide) hdf ⟨rfl, by decide, by decide⟩ hY F (fun _ _ a ns hl _ hS => ⟨a, rfl, ⟨⟨ns, hS, hl⟩⟩, fun _ => rfl⟩) fun _ _ _ _ _ z => z
end My
open PySem PySem.W PyProof.Rows
set_option maxRecDepth 100000 in
set_option maxHeartbeats 0 in
theorem PySem.Challenge.cw_spoolhall_k63_whole_fewest_changes_holds : PySem.Challenge.rw_spoolhall_k63_whole_fewest_changes.Holds := by
  w_on; o_law; k_head; (case hw => w_witness2)
  k_fill
  refine My.walk (l := PySem.Challenge.rw_spoolhall_k63_whole_fewest_changes) rfl rfl (fun w h Y => PySem.W.kIn_of Y) ?F
  case F =>
    intro w mg fa h KX G hmg
    refine' My.all_mk KX G hmg ?aC_BadLine ?aC_Unknown ?aC_Twice ?aC_NotNow ?aC_TooMuch ?aC_Dry ?aC_Over ?aC_Nowhere ?aC_Busy ?aC_NoHeap ?aC_NoPrinter ?aC_GoesRound ?aC_NoWay ?aC_HallError ?a0 ?i0 ?l0 ?c0 ?k0 ?a1 ?l1 ?c1 ?k1 ?a2 ?l2 ?c2 ?k2 ?a3 ?l3 ?c3 ?k3 ?a4 ?l4 ?c4 ?k4 ?a5 ?l5 ?c5 ?k5 ?a6 ?l6 ?c6 ?k6 ?a7 ?l7 ?c7 ?k7 ?a8 ?l8 ?c8 ?k8 ?a9 ?l9 ?c9 ?k9 ?a10 ?l10 ?c10 ?k10 ?a11 ?l11 ?c11 ?k11 ?a12 ?l12 ?c12 ?k12 ?a13 ?l13 ?c13 ?k13 ?a14 ?l14 ?c14 ?k14 ?a15 ?l15 ?c15 ?k15 ?a16 ?l16 ?c16 ?k16 ?a17 ?l17 ?c17 ?k17 ?a18 ?l18 ?c18 ?k18 ?a19 ?l19 ?c19 ?k19 ?a20 ?l20 ?c20 ?k20 ?xc_BadLine ?xm_BadLine ?kc_BadLine ?xc_Unknown ?xm_Unknown ?kc_Unknown ?xc_Twice ?xm_Twice ?kc_Twice ?xc_NotNow ?xm_NotNow ?kc_NotNow ?xc_TooMuch ?xm_TooMuch ?kc_TooMuch ?xc_Dry ?xm_Dry ?kc_Dry ?xc_Over ?xm_Over ?kc_Over ?xc_Nowhere ?xm_Nowhere ?kc_Nowhere ?xc_Busy ?xm_Busy ?kc_Busy ?xc_NoHeap ?xm_NoHeap ?kc_NoHeap ?xc_NoPrinter ?xm_NoPrinter ?kc_NoPrinter ?xc_GoesRound ?xm_GoesRound ?kc_GoesRound ?xc_NoWay ?xm_NoWay ?kc_NoWay ?xq_HallError ?mh_TooMuch_TooMuch ?mh_TooMuch_HallError ?xcn ?xct ?xb1 ?xb2 ?xb3 ?xkt ?gJOBS_MOST ?eJOBS_MOST ?gJOBS ?eJOBS ?z_len ?z_range ?z_enumerate ?z_str ?z_int ?z_bool ?z_tuple ?z_list ?z_isinstance ?z_min ?z_sum ?z_reversed ?z_ValueError
    (case aC_BadLine => k_is)
    (case aC_Unknown => k_is)
    (case aC_Twice => k_is)
    (case aC_NotNow => k_is)
    (case aC_TooMuch => k_is)
    (case aC_Dry => k_is)
    (case aC_Over => k_is)
    (case aC_Nowhere => k_is)
    (case aC_Busy => k_is)
    (case aC_NoHeap => k_is)
    (case aC_NoPrinter => k_is)
    (case aC_GoesRound => k_is)
    (case aC_NoWay => k_is)
    (case aC_HallError => k_is)
    (case a0 => k_is)
    (case i0 => k_is)
    (case l0 => k_is)
    (case c0 => k_is)
    (case k0 => k_is)
    (case a1 => k_is)
    (case l1 => k_is)
    (case c1 => k_is)
    (case k1 => k_is)
    (case a2 => k_is)
    (case l2 => k_is)
    (case c2 => k_is)
    (case k2 => k_is)
    (case a3 => k_is)
    (case l3 => k_is)
    (case c3 => k_is)
    (case k3 => k_is)
    (case a4 => k_is)
    (case l4 => k_is)
    (case c4 => k_is)
    (case k4 => k_is)
    (case a5 => k_is)
    (case l5 => k_is)
    (case c5 => k_is)
    (case k5 => k_is)
    (case a6 => k_is)
    (case l6 => k_is)
    (case c6 => k_is)
    (case k6 => k_is)
    (case a7 => k_is)
    (case l7 => k_is)
    (case c7 => k_is)
    (case k7 => k_is)
    (case a8 => k_is)
    (case l8 => k_is)
    (case c8 => k_is)
    (case k8 => k_is)
    (case a9 => k_is)
    (case l9 => k_is)
    (case c9 => k_is)
    (case k9 => k_is)
    (case a10 => k_is)
    (case l10 => k_is)
    (case c10 => k_is)
    (case k10 => k_is)
    (case a11 => k_is)
    (case l11 => k_is)
    (case c11 => k_is)
    (case k11 => k_is)
    (case a12 => k_is)
    (case l12 => k_is)
    (case c12 => k_is)
    (case k12 => k_is)
    (case a13 => k_is)
    (case l13 => k_is)
    (case c13 => k_is)
    (case k13 => k_is)
    (case a14 => k_is)
    (case l14 => k_is)
    (case c14 => k_is)
    (case k14 => k_is)
    (case a15 => k_is)
    (case l15 => k_is)
    (case c15 => k_is)
    (case k15 => k_is)
    (case a16 => k_is)
    (case l16 => k_is)
    (case c16 => k_is)
    (case k16 => k_is)
    (case a17 => k_is)
    (case l17 => k_is)
    (case c17 => k_is)
    (case k17 => k_is)
    (case a18 => k_is)
    (case l18 => k_is)
    (case c18 => k_is)
    (case k18 => k_is)
    (case a19 => k_is)
    (case l19 => k_is)
    (case c19 => k_is)
    (case k19 => k_is)
    (case a20 => k_is)
    (case l20 => k_is)
    (case c20 => k_is)
    (case k20 => k_is)
    (case xc_BadLine => kernel_rfl)
    (case xm_BadLine => kernel_rfl)
    (case kc_BadLine => k_is)
    (case xc_Unknown => kernel_rfl)
    (case xm_Unknown => kernel_rfl)
    (case kc_Unknown => k_is)
    (case xc_Twice => kernel_rfl)
    (case xm_Twice => kernel_rfl)
    (case kc_Twice => k_is)
    (case xc_NotNow => kernel_rfl)
    (case xm_NotNow => kernel_rfl)
    (case kc_NotNow => k_is)
    (case xc_TooMuch => kernel_rfl)
    (case xm_TooMuch => kernel_rfl)
    (case kc_TooMuch => k_is)
    (case xc_Dry => kernel_rfl)
    (case xm_Dry => kernel_rfl)
    (case kc_Dry => k_is)
    (case xc_Over => kernel_rfl)
    (case xm_Over => kernel_rfl)
    (case kc_Over => k_is)
    (case xc_Nowhere => kernel_rfl)
    (case xm_Nowhere => kernel_rfl)
    (case kc_Nowhere => k_is)
    (case xc_Busy => kernel_rfl)
    (case xm_Busy => kernel_rfl)
    (case kc_Busy => k_is)
    (case xc_NoHeap => kernel_rfl)
    (case xm_NoHeap => kernel_rfl)
    (case kc_NoHeap => k_is)
    (case xc_NoPrinter => kernel_rfl)
    (case xm_NoPrinter => kernel_rfl)
    (case kc_NoPrinter => k_is)
    (case xc_GoesRound => kernel_rfl)
    (case xm_GoesRound => kernel_rfl)
    (case kc_GoesRound => k_is)
    (case xc_NoWay => kernel_rfl)
    (case xm_NoWay => kernel_rfl)
    (case kc_NoWay => k_is)
    (case xq_HallError => kernel_rfl)
    (case mh_TooMuch_TooMuch => kernel_rfl)
    (case mh_TooMuch_HallError => kernel_rfl)
    (case xcn => k_is)
    (case xct => k_is)
    (case xb1 => k_is)
    (case xb2 => k_is)
    (case xb3 => k_is)
    (case xkt => kernel_rfl)
    (case gJOBS_MOST => k_is)
    (case eJOBS_MOST => rfl)
    (case gJOBS => k_is)
    (case eJOBS => first | rfl | decide +kernel)
    (case z_len => k_is)
    (case z_range => k_is)
    (case z_enumerate => k_is)
    (case z_str => k_is)
    (case z_int => k_is)
    (case z_bool => k_is)
    (case z_tuple => k_is)
    (case z_list => k_is)
    (case z_isinstance => k_is)
    (case z_min => k_is)
    (case z_sum => k_is)
    (case z_reversed => k_is)
    (case z_ValueError => k_is)
#print axioms PySem.Challenge.cw_spoolhall_k63_whole_fewest_changes_holds
