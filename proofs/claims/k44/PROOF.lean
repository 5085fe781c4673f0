import PyProof.Rows.All
import Wide.All
import OpenK.AllK
import Wide.FinOn
import Lean
import PyProof.EqAt
import PyProof.EqKinds
import PyProof.TupleCall
import PyProof.EnumMake
import PyProof.Draws
import PyProof.InstStoreFacts
import PyProof.ExcArgs
import PyProof.ExcBaseAll.ValueError
import KE.KDictLaws
import OpenK.KOwn
import PyProof.ListRange
import PyProof.AttrMissHeap
import PyProof.MinMaxWalk
import PyProof.WalksMore
import PyProof.NeKinds
import KE.KDictList
import KE.KDictSum
import KE.KEqDict
import PyProof.DictItems
import KE.KPairComp
import PyProof.EqAt
import PyProof.NeKinds
import PyProof.MeetsSeq3
import KE.KLam
import KE.KMinKey
import KE.KNestM
import PyProof.MinMaxWalk
import PyProof.Rows.CallKw2
import PyProof.MeetsSeq
import PyProof.MinMaxWalk
import PySem.Challenge.RW_spoolhall_k44_whole_shares
set_option Elab.async false
set_option linter.all false
set_option maxRecDepth 100000
namespace L2
open PySem PySem.Spec PyProof.Rows
abbrev Key := Sum Int Str
def keyIs : Key → Value → Bool
  | .inl k, v => Value.isInt k v
  | .inr x, v => Value.isStrOf x v
def keyH (w : World) : Key → Int
  | .inl k => hashInt k
  | .inr x => hashStr w x
theorem keyIs_shape : ∀ {k : Key} {v : Value}, keyIs k v = true → (∃ i t, k = Sum.inl i ∧ v = Value.int i t) ∨ (∃ x t, k = Sum.inr x ∧ v = Value.str x t)
  | .inl i, v, h => by
    obtain ⟨t, e⟩ := Value.isInt_shape (k := i) (v := v) h
    exact .inl ⟨i, t, rfl, e⟩
  | .inr x, v, h => by
    obtain ⟨t, e⟩ := Value.isStrOf_shape (x := x) (v := v) h
    exact .inr ⟨x, t, rfl, e⟩
theorem keyIs_int (i : Int) (t : Tok) : keyIs (.inl i) (.int i t) = true := by simp [keyIs, Value.isInt]
theorem keyIs_str (x : Str) (t : Tok) : keyIs (.inr x) (.str x t) = true := by simp [keyIs, Value.isStrOf]
theorem key_ll (a b : Int) : decide ((Sum.inl a : Key) = Sum.inl b) = (a == b) := by
  by_cases e : a = b
  · subst e; simp
  · have h : ¬ (Sum.inl a : Key) = Sum.inl b := fun q => e (Sum.inl.inj q)
    rw [decide_eq_false h]
    exact (beq_eq_false_iff_ne.mpr e).symm
theorem key_rr (a b : Str) : decide ((Sum.inr a : Key) = Sum.inr b) = decide (a = b) := by
  by_cases e : a = b
  · subst e; simp
  · have h : ¬ (Sum.inr a : Key) = Sum.inr b := fun q => e (Sum.inr.inj q)
    rw [decide_eq_false h, decide_eq_false e]
theorem key_lr (a : Int) (b : Str) : decide ((Sum.inl a : Key) = Sum.inr b) = false := decide_eq_false (fun q => nomatch q)
theorem key_rl (a : Str) (b : Int) : decide ((Sum.inr a : Key) = Sum.inl b) = false := decide_eq_false (fun q => nomatch q)
def mixKind (prog : Program) (w : World) : PySem.KeyKind prog w Key where
  is := keyIs
  hash := keyH w
  inj := fun v a b ha hb => by
    rcases keyIs_shape ha with ⟨i, t, rfl, rfl⟩ | ⟨x, t, rfl, rfl⟩
    · rcases keyIs_shape hb with ⟨j, u, rfl, e⟩ | ⟨y, u, rfl, e⟩
      · injection e with e1 _; rw [e1]
      · exact nomatch e
    · rcases keyIs_shape hb with ⟨j, u, rfl, e⟩ | ⟨y, u, rfl, e⟩
      · exact nomatch e
      · injection e with e1 _; rw [e1]
  byValue := fun k v h => by
    rcases keyIs_shape h with ⟨i, t, rfl, rfl⟩ | ⟨x, t, rfl, rfl⟩ <;> rfl
  pyHash := fun hv h => by
    rcases keyIs_shape hv with ⟨i, t, rfl, rfl⟩ | ⟨x, t, rfl, rfl⟩
    · exact wpAny_pyHash_int h
    · exact wpAny_pyHash_str h
  eqBool := fun hu hv h => by
    rcases keyIs_shape hu with ⟨i, t, rfl, rfl⟩ | ⟨x, t, rfl, rfl⟩
    · rcases keyIs_shape hv with ⟨j, u, rfl, rfl⟩ | ⟨y, u, rfl, rfl⟩
      · rw [key_ll] at h; exact wpAny_eqBool_int h
      · rw [key_lr] at h; exact SeqAt.EqAt.int_str i t y u _ _ _ _ h
    · rcases keyIs_shape hv with ⟨j, u, rfl, rfl⟩ | ⟨y, u, rfl, rfl⟩
      · rw [key_rl] at h; exact SeqAt.EqAt.str_int x t j u _ _ _ _ h
      · rw [key_rr] at h; exact wpAny_eqBool_str h
  «strs» := fun k x t v h => by
    rcases keyIs_shape h with ⟨i, u, rfl, e⟩ | ⟨y, u, rfl, e⟩
    · exact nomatch e
    · injection e with e1 _
      subst e1
      cases v <;> rfl
theorem mixKind_int (prog : Program) (w : World) (i : Int) (t : Tok) : (mixKind prog w).is (.inl i) (.int i t) = true := keyIs_int i t
theorem mixKind_str (prog : Program) (w : World) (x : Str) (t : Tok) : (mixKind prog w).is (.inr x) (.str x t) = true := keyIs_str x t
end L2
namespace L2
open PySem PySem.Spec PyProof.Rows
inductive V where
  | non | bl (b : Bool) | int (i : Int) | str (x : Str) | byt (b : Array UInt8) | flt (b : UInt64) | ref (a : Addr) | ty (n : String)
  deriving DecidableEq
def RelV : V → Value → Prop
  | .non, u => u = Value.none
  | .bl b, u => u = Value.bool b
  | .int i, u => ∃ t, u = Value.int i t
  | .str x, u => ∃ t, u = Value.str x t
  | .byt b, u => ∃ t, u = Value.bytes b t
  | .flt b, u => ∃ t, u = Value.float b t
  | .ref a, u => u = Value.ref a
  | .ty n, u => u = Value.type n
abbrev Vals : List V → List Value → Prop := Paired RelV
theorem Vals.length {xs : List V} {us : List Value} (r : Vals xs us) : xs.length = us.length := Paired.length r
theorem Vals.get : ∀ {xs : List V} {us : List Value} {i : Nat} {x : V}, Vals xs us → xs[i]? = some x → ∃ u, us[i]? = some u ∧ RelV x u
  | _, _, _, _, .nil, e => by simp at e
  | _, _, 0, _, .cons r _, e => by simp at e; subst e; exact ⟨_, rfl, r⟩
  | _, _, i + 1, x, .cons _ t, e => by
    obtain ⟨u, h1, h2⟩ := Vals.get (i := i) (x := x) t (by simpa using e)
    exact ⟨u, by simpa using h1, h2⟩
theorem Vals.set {x : V} {u : Value} (r : RelV x u) : ∀ {xs : List V} {us : List Value} (i : Nat), Vals xs us → Vals (xs.set i x) (us.set i u)
  | _, _, _, .nil => .nil
  | _, _, 0, .cons _ t => .cons r t
  | _, _, i + 1, .cons q t => .cons q (Vals.set r i t)
theorem Vals.append : ∀ {xs ys : List V} {us ws : List Value}, Vals xs us → Vals ys ws → Vals (xs ++ ys) (us ++ ws)
  | _, _, _, _, .nil, s => s
  | _, _, _, _, .cons r t, s => .cons r (Vals.append t s)
theorem Vals.take : ∀ {xs : List V} {us : List Value} (n : Nat), Vals xs us → Vals (xs.take n) (us.take n)
  | _, _, 0, _ => .nil
  | _, _, _ + 1, .nil => .nil
  | _, _, n + 1, .cons r t => .cons r (Vals.take n t)
theorem Vals.drop : ∀ {xs : List V} {us : List Value} (n : Nat), Vals xs us → Vals (xs.drop n) (us.drop n)
  | _, _, 0, r => r
  | _, _, _ + 1, .nil => .nil
  | _, _, n + 1, .cons _ t => Vals.drop n t
theorem Vals.none_of : ∀ {xs : List V} {us : List Value} {i : Nat}, Vals xs us → xs[i]? = none → us[i]? = none := fun {xs us i} r e => by
  have h1 := r.length
  have h2 : xs.length ≤ i := List.getElem?_eq_none_iff.mp e
  exact List.getElem?_eq_none_iff.mpr (by omega)
def RelO : Option V → Option Value → Prop
  | some v, some u => RelV v u
  | none, none => True
  | _, _ => False
def KV {κ : Type} : List (κ × V) → List (κ × Value) → Prop := Paired fun (p : κ × V) (q : κ × Value) => p.1 = q.1 ∧ RelV p.2 q.2
def kV : Key → V
  | .inl i => .int i
  | .inr x => .str x
inductive HO where
  | lst (xs : List V)
  | tup (xs : List V)
  | dK (kvs : List (Key × V)) | dT (kvs : List (List Key × V))
  | set (S : Int → Bool) (n : Nat)
  | ins (C dx : Addr) (fs : List (Str × V))
  | own (x : Addr)
  | xd (fs : List (Str × V))
  | met (f x : Addr)
  | rng (lo hi : Int)
  | frz (o : Obj) (u : HO)
  | tbl (ps : Array Value)
  | ext (φ : Heap → Prop)
abbrev Hp := Addr → Option HO
def upd (H : Hp) (a : Addr) (o : HO) : Hp := fun b => if b = a then some o else H b
theorem upd_same {H : Hp} {a : Addr} {o : HO} : upd H a o a = some o := by unfold upd; rw [if_pos rfl]
theorem upd_ne {H : Hp} {a b : Addr} {o : HO} (h : b ≠ a) : upd H a o b = H b := by unfold upd; rw [if_neg h]
theorem ne_of {H : Hp} {a b : Addr} {o u : HO} (h : H a = some o) (h' : H b = some u) (d : o ≠ u) : a ≠ b := by
  intro e; subst e; rw [h] at h'; exact d (Option.some.inj h')
theorem ne_of_none {H : Hp} {a b : Addr} {o : HO} (h : H a = some o) (h' : H b = none) : a ≠ b := by
  intro e; subst e; rw [h] at h'; cases h'
section
variable (P : Program) (w : World)
def ObjOk (H : Hp) (h : Heap) (a : Addr) : HO → Prop
  | .lst xs => xs.length ≤ sizeLine ∧ ∃ (its : List Value) (n : Nat), Vals xs its ∧ h.get? a = some { cls := .type "list", data := .seq its.toArray n }
  | .tup xs => xs.length ≤ sizeLine ∧ ∃ its : List Value, Vals xs its ∧ IsTup h a its.toArray
  | .dK kvs => kvs.length ≤ sizeLine ∧ (a == sysModules) = false ∧ ∃ vs, KV kvs vs ∧ h.DictOf (mixKind P w) a vs
  | .dT kvs => kvs.length ≤ sizeLine ∧ (a == sysModules) = false ∧ ∃ xs : List (List Key × Addr × Value),
      Paired (fun (p : List Key × V) (q : List Key × Addr × Value) => p.1 = q.1 ∧ H q.2.1 = some (.tup (p.1.map kV)) ∧ RelV p.2 q.2.2) kvs xs ∧
      ∃ o es ep, h.get? a = some o ∧ o.ExactDict ∧ o.data = .dict es ep ∧ es.toList = xs.map (entryOfKey (tupleKind (mixKind P w))) ∧ (xs.map (·.1)).Nodup
  | .set S n => h.SetOf (intKind P w) a S n
  | .ins C dx fs => H dx = some (.own a) ∧ fs.length ≤ 1000 ∧ dx ≠ a ∧ h.get? a = some (PySem.W.instObj C dx) ∧
      ∃ mA, h.Ns1 dx mA ∧ (∀ f, RelO (fs.lookup f) (mA f)) ∧ PySem.Within mA (fs.map (·.1))
  | .own _ => ∃ o, h.get? a = some o
  | .xd fs => ∃ mA, h.Ns1 a mA ∧ ∀ f, RelO (fs.lookup f) (mA f)
  | .rng lo hi => ∃ t u v, h.get? a = some { cls := .type "range", data := .fields #[.int lo t, .int hi u, .int 1 v] }
  | .frz o u => h.get? a = some o ∧ ObjOk H h a u
  | .tbl ps => h.get? a = some { cls := .none, data := .fields ps }
  | .met f x => h.get? a = some (PySem.W.methodObj (.ref f) (.ref x))
  | .ext φ => φ h ∧ (∃ o, h.get? a = some o) ∧ ∀ h1 h2 : Heap, φ h1 → (∀ o, h1.get? a = some o → h2.get? a = some o) → φ h2
def HOk (H : Hp) (h : Heap) : Prop := ∀ a o, H a = some o → ObjOk P w H h a o
end
section
variable {P : Program} {w : World} {H H' : Hp} {h h' : Heap} {a : Addr} {o : HO}
theorem ObjOk.lt (x : ObjOk P w H h a o) : a < h.objs.size := by
  cases o with
  | lst xs => obtain ⟨_, _, _, _, e⟩ := x; exact Heap.lt_size e
  | tup xs => obtain ⟨_, _, _, p⟩ := x; exact p.lt
  | dK kvs => obtain ⟨_, _, _, _, o, _, _, e, _⟩ := x; exact Heap.lt_size e
  | dT kvs => obtain ⟨_, _, _, _, o, _, _, e, _⟩ := x; exact Heap.lt_size e
  | set S n => obtain ⟨o, _, _, _, e, _⟩ := x; exact Heap.lt_size e
  | ins C dx fs => obtain ⟨_, _, _, e, _⟩ := x; exact Heap.lt_size e
  | own y => obtain ⟨_, e⟩ := x; exact Heap.lt_size e
  | xd fs => obtain ⟨_, ⟨_, _, _, e, _⟩, _⟩ := x; exact Heap.lt_size e
  | rng lo hi => obtain ⟨_, _, _, e⟩ := x; exact Heap.lt_size e
  | frz ob u => obtain ⟨e, _⟩ := x; exact Heap.lt_size e
  | tbl ps => exact Heap.lt_size (show h.get? a = some _ from x)
  | met f y => exact Heap.lt_size (show h.get? a = some _ from x)
  | ext φ => obtain ⟨_, ⟨_, e⟩, _⟩ := x; exact Heap.lt_size e
theorem Paired.mapP {α β : Type} {F G : α → β → Prop} : ∀ {l₁ : List α} {l₂ : List β}, Paired F l₁ l₂ → (∀ a b, F a b → G a b) → Paired G l₁ l₂
  | _, _, .nil, _ => .nil
  | _, _, .cons r t, f => .cons (f _ _ r) (Paired.mapP t f)
theorem ObjOk.stay (x : ObjOk P w H h a o) (k : ∀ b u, (b = a ∨ H b = some (.own a)) → h.get? b = some u → h'.get? b = some u)
    (ho : ∀ b, H b = some (.own a) → H' b = some (.own a)) (ht : ∀ b xs, H b = some (.tup xs) → H' b = some (.tup xs)) : ObjOk P w H' h' a o := by
  induction o with
  | lst xs => obtain ⟨z, its, n, r, e⟩ := x; exact ⟨z, its, n, r, k _ _ (.inl rfl) e⟩
  | tup xs => obtain ⟨z, its, r, ob, e, c⟩ := x; exact ⟨z, its, r, ob, k _ _ (.inl rfl) e, c⟩
  | dK kvs => obtain ⟨z, y, vs, r, ob, es, ep, e, c⟩ := x; exact ⟨z, y, vs, r, ob, es, ep, k _ _ (.inl rfl) e, c⟩
  | dT kvs =>
    obtain ⟨z, y, xs, r, ob, es, ep, e, c⟩ := x
    exact ⟨z, y, xs, Paired.mapP r fun p q z => ⟨z.1, ht _ _ z.2.1, z.2.2⟩, ob, es, ep, k _ _ (.inl rfl) e, c⟩
  | set S n => obtain ⟨ob, es, ep, t, e, c⟩ := x; exact ⟨ob, es, ep, t, k _ _ (.inl rfl) e, c⟩
  | ins C dx fs =>
    obtain ⟨d, z, ne, e, mA, ⟨od, es, ep, e2, c⟩, r⟩ := x
    exact ⟨ho _ d, z, ne, k _ _ (.inl rfl) e, mA, ⟨od, es, ep, k _ _ (.inr d) e2, c⟩, r⟩
  | own y => obtain ⟨ob, e⟩ := x; exact ⟨ob, k _ _ (.inl rfl) e⟩
  | xd fs => obtain ⟨mA, ⟨od, es, ep, e, c⟩, r⟩ := x; exact ⟨mA, ⟨od, es, ep, k _ _ (.inl rfl) e, c⟩, r⟩
  | rng lo hi => obtain ⟨t, u, v, e⟩ := x; exact ⟨t, u, v, k _ _ (.inl rfl) e⟩
  | frz ob u ih => obtain ⟨e, q⟩ := x; exact ⟨k _ _ (.inl rfl) e, ih q⟩
  | tbl ps =>
    have e : h.get? a = some { cls := .none, data := .fields ps } := x
    show h'.get? a = some { cls := .none, data := .fields ps }
    exact k a _ (.inl rfl) e
  | met f y =>
    have e : h.get? a = some (PySem.W.methodObj (.ref f) (.ref y)) := x
    show h'.get? a = some (PySem.W.methodObj (.ref f) (.ref y))
    exact k a _ (.inl rfl) e
  | ext φ => obtain ⟨p, ⟨o, e⟩, st⟩ := x; exact ⟨st _ _ p fun o q => k _ _ (.inl rfl) q, ⟨o, k _ _ (.inl rfl) e⟩, st⟩
theorem HOk.lt (x : HOk P w H h) (e : H a = some o) : a < h.objs.size := (x a o e).lt
theorem HOk.fresh (x : HOk P w H h) (e : h.objs.size ≤ a) : H a = none := by
  cases q : H a with
  | none => rfl
  | some u => exact absurd (Nat.lt_of_lt_of_le (x.lt q) e) (Nat.lt_irrefl _)
theorem HOk.kept (x : HOk P w H h) (k : ∀ b u, h.get? b = some u → h'.get? b = some u) : HOk P w H h' := fun a o e =>
  (x a o e).stay (fun b u _ q => k b u q) (fun _ q => q) fun _ _ q => q
theorem HOk.laid (x : HOk P w H h) (k : ∀ b u, h.get? b = some u → h'.get? b = some u) (hp : h.objs.size ≤ a) (new : ObjOk P w (upd H a o) h' a o) : HOk P w (upd H a o) h' := fun b u e => by
  have hn := x.fresh hp
  by_cases hb : b = a
  · subst hb; rw [upd_same] at e; cases e; exact new
  · rw [upd_ne hb] at e
    exact (x b u e).stay (fun c v _ q => k c v q) (fun c q => by rw [upd_ne (ne_of_none q hn)]; exact q) fun c xs q => by rw [upd_ne (ne_of_none q hn)]; exact q
end
def Rd (H : Hp) (a : Addr) (u : HO) : Prop := H a = some u ∨ ∃ o, H a = some (.frz o u)
theorem Rd.of {H : Hp} {a : Addr} {u : HO} (h : H a = some u) : Rd H a u := .inl h
theorem Rd.ok {P : Program} {w : World} {H : Hp} {h : Heap} {a : Addr} {u : HO} (r : Rd H a u) (x : HOk P w H h) : ObjOk P w H h a u := by
  rcases r with r | ⟨o, r⟩
  · exact x a u r
  · obtain ⟨_, q⟩ := x a _ r
    exact q
def Mut : Option HO → Prop
  | some (.lst _) => True
  | some (.dK _) => True
  | some (.dT _) => True
  | some (.set _ _) => True
  | some (.ins _ _ _) => True
  | some (.ext _) => True
  | _ => False
section
variable {P : Program} {w : World} {H : Hp} {h h' : Heap} {x e : Addr} {o' : HO}
theorem HOk.write (ok : HOk P w H h) (mu : Mut (H x)) (he : e = x ∨ H e = some (.own x)) (k : ∀ b u, b ≠ e → h.get? b = some u → h'.get? b = some u) (heo : ∃ u, h'.get? e = some u)
    (new : ObjOk P w (upd H x o') h' x o') : HOk P w (upd H x o') h' := fun b u q => by
  have nown : ∀ c y, H c = some (.own y) → c ≠ x := fun c y r z => by subst z; rw [r] at mu; exact mu
  have ntup : ∀ c xs, H c = some (.tup xs) → c ≠ x := fun c xs r z => by subst z; rw [r] at mu; exact mu
  by_cases hb : b = x
  · subst hb; rw [upd_same] at q; cases q; exact new
  · rw [upd_ne hb] at q
    by_cases hbe : b = e
    · have q' : H b = some (.own x) := by
        rcases he with z | z
        · exact absurd (hbe.trans z) hb
        · rw [hbe]; exact z
      rw [q] at q'; cases q'
      obtain ⟨v, hv⟩ := heo
      exact ⟨v, by rw [hbe]; exact hv⟩
    · refine (ok b u q).stay (fun c v hc r => k c v ?_ r) (fun c r => by rw [upd_ne (nown c b r)]; exact r) fun c xs r => by rw [upd_ne (ntup c xs r)]; exact r
      rcases hc with rfl | hc
      · exact hbe
      · rintro rfl
        rcases he with z | z
        · exact nown c b hc z
        · rw [hc] at z; cases z; exact hb rfl
end
structure Un (fs ex : List Addr) (H H' : Hp) (h h' : Heap) : Prop where
  keep : ∀ b o, h.get? b = some o → H b = none → b ∉ fs → b ∉ ex → h'.get? b = some o
  slot : ∀ b o, h.get? b = some o → H b = none → b ∈ fs → b ∉ ex → ∃ sl, h'.get? b = some { o with slots := sl }
  free : ∀ b o, h.get? b = some o → H b = none → b ∉ ex → H' b = none
  there : ∀ b o, h.get? b = some o → b ∉ ex → ∃ o', h'.get? b = some o'
  tups : ∀ b xs, H b = some (.tup xs) → H' b = some (.tup xs)
  frzs : ∀ b o u, H b = some (.frz o u) → H' b = some (.frz o u)
  tbls : ∀ b ps, H b = some (.tbl ps) → ∃ more, H' b = some (.tbl (ps ++ more))
section
variable {fs fs' ex ex' : List Addr} {H H1 H2 : Hp} {h h1 h2 h' : Heap} {a x e : Addr} {o : HO}
theorem Un.any (u : Un fs ex H H1 h h1) {b : Addr} {ob : Obj} (q : h.get? b = some ob) (n : H b = none) (hx : b ∉ ex) : ∃ sl, h1.get? b = some { ob with slots := sl } := by
  by_cases hb : b ∈ fs
  · exact u.slot b ob q n hb hx
  · exact ⟨ob.slots, u.keep b ob q n hb hx⟩
theorem Un.trans (a : Un fs ex H H1 h h1) (b : Un fs ex H1 H2 h1 h2) : Un fs ex H H2 h h2 where
  keep := fun c ob q n hc hx => b.keep c ob (a.keep c ob q n hc hx) (a.free c ob q n hx) hc hx
  slot := fun c ob q n hc hx => by
    obtain ⟨sl, e1⟩ := a.slot c ob q n hc hx
    obtain ⟨sl', e2⟩ := b.slot c _ e1 (a.free c ob q n hx) hc hx
    exact ⟨sl', e2⟩
  free := fun c ob q n hx => by
    obtain ⟨o', e1⟩ := a.there c ob q hx
    exact b.free c o' e1 (a.free c ob q n hx) hx
  there := fun c ob q hx => by
    obtain ⟨o', e1⟩ := a.there c ob q hx
    exact b.there c o' e1 hx
  tups := fun c xs q => b.tups c xs (a.tups c xs q)
  frzs := fun c ob xs q => b.frzs c ob xs (a.frzs c ob xs q)
  tbls := fun c ps q => by
    obtain ⟨m1, e1⟩ := a.tbls c ps q
    obtain ⟨m2, e2⟩ := b.tbls c _ e1
    exact ⟨m1 ++ m2, by rw [e2, Array.append_assoc]⟩
theorem Un.kept (k : ∀ b u, h.get? b = some u → h'.get? b = some u) : Un fs ex H H h h' :=
  ⟨fun b ob q _ _ _ => k b ob q, fun b ob q _ _ _ => ⟨ob.slots, k b ob q⟩, fun _ _ _ n _ => n, fun b ob q _ => ⟨ob, k b ob q⟩, fun _ _ q => q, fun _ _ _ q => q, fun _ ps q => ⟨#[], by rw [q]; simp⟩⟩
theorem Un.refl : Un fs ex H H h h := Un.kept fun _ _ q => q
theorem Un.laid (k : ∀ b u, h.get? b = some u → h'.get? b = some u) (hp : h.objs.size ≤ a) (hn : H a = none) : Un fs ex H (upd H a o) h h' where
  keep := fun b u q _ _ _ => k b u q
  slot := fun b u q _ _ _ => ⟨u.slots, k b u q⟩
  free := fun b u q n _ => by rw [upd_ne (Nat.ne_of_lt (Nat.lt_of_lt_of_le (Heap.lt_size q) hp))]; exact n
  there := fun b u q _ => ⟨u, k b u q⟩
  tups := fun b xs q => by rw [upd_ne (ne_of_none q hn)]; exact q
  frzs := fun b u xs q => by rw [upd_ne (ne_of_none q hn)]; exact q
  tbls := fun b ps q => ⟨#[], by rw [upd_ne (ne_of_none q hn), q]; simp⟩
theorem Un.write (mu : Mut (H x)) (he : e = x ∨ H e = some (.own x)) (k : ∀ b u, b ≠ e → h.get? b = some u → h'.get? b = some u) (heo : ∃ u, h'.get? e = some u) : Un fs ex H (upd H x o) h h' := by
  have hx : ∀ b, H b = none → b ≠ x := fun b n z => by subst z; rw [n] at mu; exact mu
  have hb : ∀ b, H b = none → b ≠ e := fun b n z => by
    subst z
    rcases he with r | r
    · exact hx b n r
    · rw [n] at r; cases r
  have hm : ∀ b u, H b = some u → ¬ Mut (some u) → b ≠ x := fun b u q nm z => by subst z; rw [q] at mu; exact nm mu
  refine ⟨fun b u q n _ _ => k b u (hb b n) q, fun b u q n _ _ => ⟨u.slots, k b u (hb b n) q⟩, fun b u q n _ => by rw [upd_ne (hx b n)]; exact n, fun b u q _ => ?_,
    fun b xs q => by rw [upd_ne (hm b _ q fun z => z)]; exact q, fun b u xs q => by rw [upd_ne (hm b _ q fun z => z)]; exact q, fun b ps q => ⟨#[], by rw [upd_ne (hm b _ q fun z => z), q]; simp⟩⟩
  by_cases hbe : b = e
  · subst hbe; exact heo
  · exact ⟨u, k b u hbe q⟩
theorem Un.mono (u : Un fs ex H H1 h h1) (hs : ∀ b ∈ fs, b ∈ fs') (hx : ∀ b ∈ ex, b ∈ ex') : Un fs' ex' H H1 h h1 :=
  ⟨fun b ob q n hb he => u.keep b ob q n (fun z => hb (hs b z)) fun z => he (hx b z), fun _ _ q n _ he => u.any q n fun z => he (hx _ z), fun b ob q n he => u.free b ob q n fun z => he (hx b z), fun b ob q he => u.there b ob q fun z => he (hx b z), u.tups, u.frzs, u.tbls⟩
end
def trk (h : Heap) (H : Hp) : List Addr := (List.range h.objs.size).filter fun a => (H a).isSome
def hidT (h : Heap) (H : Hp) : Heap := PySem.W.hideAll h (trk h H)
theorem hidT_size (h : Heap) (H : Hp) : (hidT h H).objs.size = h.objs.size := PySem.W.hideAll_size _ _
theorem hidT_get {h : Heap} {H : Hp} {b : Addr} {o : Obj} (e : h.get? b = some o) (n : H b = none) : (hidT h H).get? b = some o :=
  PySem.W.hideAll_get _ e fun hm => by
    have q : (H b).isSome = true := (List.mem_filter.mp hm).2
    rw [n] at q; simp at q
theorem of_hidT {h : Heap} {H : Hp} {b : Addr} {o : Obj} (e : (hidT h H).get? b = some o) : h.get? b = some o ∧ H b = none := by
  have e' : h.get? b = some o := PySem.W.of_hideAll (trk h H) e
  refine ⟨e', ?_⟩
  cases q : H b with
  | none => rfl
  | some x =>
    have hm : b ∈ trk h H := List.mem_filter.mpr ⟨List.mem_range.mpr (Heap.lt_size e'), by simp [q]⟩
    have z : (hidT h H).get? b = none := PySem.W.hideAll_none (trk h H) hm
    rw [z] at e; cases e
def allNews (g h : Heap) (L : Addr) : List (Addr × Obj) := (List.range h.objs.size).filterMap fun a => if a = L ∨ (g.get? a).isSome = true then none else (h.get? a).map fun o => (a, o)
def rest (g h : Heap) (L d : Addr) : List (Addr × Obj) := (allNews g h L).filter fun p => decide (p.1 ≠ d)
end L2
namespace L2
open PySem PySem.Spec PyProof.Rows
structure Mod (K : PySem.W.Frag) (mg : Str → Option Value) (base : Heap) : Prop where
  kin : K.In base
  glob : base.Ns mainGlobals mg
  blt : ∃ mb, base.Ns builtinsNs mb ∧ ∀ x : Str, x ≠ "__name__" → mb x = bootBuiltins x
  nolimit : base.NoLimit
/-- the context: a def's body (or a comprehension's block) running. base: fixed through the whole law; s₀, H₀: the entry; outer: the frames whose slots others may change (a def's callers); stack: all frames that run;
   ex: iterators that were made ahead of the entry and are walked here (a comprehension's); fn: the names whose cells were made at the entry (a def: all; a comprehension's block: its own); calm: not within an except suite; pn: pins that every state bears; xe: what is wanted of an exception that leaves the code -/
structure Cx where
  prog : Program
  w : World
  K : PySem.W.Frag
  mg : Str → Option Value
  base : Heap
  A : Around
  N : List Str
  s₀ : Shared
  H₀ : Hp
  env : Env
  outer : List Env
  stack : List Env
  ex : List Addr
  fn : Str → Bool
  calm : Bool
  pn : List (Addr × Obj)
  xe : Value → Shared → Prop
def frs (l : List Env) : List Addr := l.filterMap (·.frame)
abbrev Cx.fs (X : Cx) : List Addr := frs X.outer
def Vis (sc : Scope) (x : Str) : Prop := sc.names.lookup x = some .local ∨ sc.names.lookup x = some .cell ∨ sc.names.lookup x = some .free
def Loc (sc : Scope) (x : Str) : Prop := sc.names.lookup x = some .local ∨ sc.names.lookup x = some .cell
def Look (env : Env) (h : Heap) (m : Str → Option Value) (x : Str) (u : Value) : Prop :=
  (env.kindOf x = some .local ∧ m x = some u) ∨ ((env.kindOf x = some .cell ∨ env.kindOf x = some .free) ∧ ∃ c, env.cells.lookup x = some c ∧ h.IsCell c (some u))
structure Cx.Ok (X : Cx) : Prop where
  mod : Mod X.K X.mg X.base
  kind : X.env.scope.kind = .function
  glob : X.env.globals = mainGlobals
  blt : X.env.builtins = builtinsNs
  above : X.s₀.heap.objs.size ≤ X.env.locals
  inj : ∀ x y c, X.env.cells.lookup x = some c → X.env.cells.lookup y = some c → x = y
  has : ∀ x, (X.env.kindOf x = some .cell ∨ X.env.kindOf x = some .free) → ∃ c, X.env.cells.lookup x = some c
  cab : ∀ x c, X.fn x = true → X.env.cells.lookup x = some c → X.s₀.heap.objs.size ≤ c
  hd : X.calm = true → X.A.handled = none
  frames : X.A.frames = some X.stack
  stk : X.stack = X.outer ∨ (X.stack = X.env :: X.outer ∧ X.env.frame = some X.env.locals)
  exf : ∀ b ∈ X.ex, b ≠ X.env.locals ∧ ∀ x c, X.env.cells.lookup x = some c → c ≠ b
  bs : ∀ b o, X.base.get? b = some o → X.s₀.heap.get? b = some o ∧ X.H₀ b = none
  bsz : X.base.objs.size ≤ X.s₀.heap.objs.size
  noex : ∀ b o, X.base.get? b = some o → b ∉ X.ex
  exfs : ∀ b ∈ X.ex, b ∉ X.fs
  funs : X.s₀.heap.FunFrames X.base X.outer
  frf : ∀ b ∈ X.fs, X.H₀ b = none
structure Inv (X : Cx) (pins : List (Addr × Obj)) (σ : List (Option V)) (H : Hp) (s : Shared) : Prop where
  ok : X.Ok
  os : s.os = X.s₀.os
  bare : AllBare s.gens
  base : Un X.fs X.ex X.H₀ H X.s₀.heap s.heap
  loc : ∃ m, s.heap.Ns X.env.locals m ∧ ∀ (i : Nat) (x : Str) (v : V), X.N[i]? = some x → σ[i]? = some (some v) → Vis X.env.scope x → ∃ u, RelV v u ∧ Look X.env s.heap m x u
  cell : ∀ x c, X.env.cells.lookup x = some c → ∃ v, s.heap.IsCell c v
  free : H X.env.locals = none
  freeC : ∀ x c, X.env.cells.lookup x = some c → H c = none
  pin : ∀ p ∈ X.pn ++ pins, s.heap.get? p.1 = some p.2 ∧ H p.1 = none ∧ p.1 ≠ X.env.locals ∧ p.1 ∉ X.fs ∧ ∀ v, p.2.data ≠ .cell v
  hok : HOk X.prog X.w H s.heap
  len : σ.length = X.N.length
section
variable {X : Cx} {pins : List (Addr × Obj)} {σ : List (Option V)} {H H' : Hp} {s : Shared} {h' : Heap}
theorem Cx.Ok.nofr (ok : X.Ok) {b : Addr} {o : Obj} (e : X.base.get? b = some o) : b ∉ X.fs := fun hb => by
  have := (ok.funs.mem hb).1
  rw [e] at this; cases this
theorem Inv.bs (I : Inv X pins σ H s) : ∀ b o, X.base.get? b = some o → s.heap.get? b = some o ∧ H b = none := fun b o e =>
  ⟨I.base.keep b o (I.ok.bs b o e).1 (I.ok.bs b o e).2 (I.ok.nofr e) (I.ok.noex b o e), I.base.free b o (I.ok.bs b o e).1 (I.ok.bs b o e).2 (I.ok.noex b o e)⟩
theorem Inv.bk (I : Inv X pins σ H s) : ∀ b o, X.base.get? b = some o → s.heap.get? b = some o := fun b o e => (I.bs b o e).1
theorem Inv.mod (I : Inv X pins σ H s) : Mod X.K X.mg X.base := I.ok.mod
theorem Inv.kIn (I : Inv X pins σ H s) : X.K.In s.heap := I.ok.mod.kin.keeps I.bk
theorem Inv.nolimit (I : Inv X pins σ H s) : s.heap.NoLimit := I.ok.mod.nolimit.keeps I.bk
theorem Inv.fr (I : Inv X pins σ H s) : ∃ m, Fr X.base X.env.locals s.heap m :=
  let ⟨m, hn, _⟩ := I.loc
  ⟨m, hn, I.bk, Nat.le_trans I.ok.bsz I.ok.above⟩
theorem Inv.lt (I : Inv X pins σ H s) : X.env.locals < s.heap.objs.size := let ⟨_, hn, _⟩ := I.loc; hn.lt
theorem Inv.sz (I : Inv X pins σ H s) : X.s₀.heap.objs.size ≤ s.heap.objs.size := Nat.le_trans I.ok.above (Nat.le_of_lt I.lt)
theorem Inv.nofs (I : Inv X pins σ H s) {a : Addr} (h : s.heap.objs.size ≤ a) : a ∉ X.fs := fun hb => by
  obtain ⟨_, o, ho, _⟩ := I.ok.funs.mem hb
  exact absurd (Nat.lt_of_lt_of_le (Heap.lt_size ho) (Nat.le_trans I.sz h)) (Nat.lt_irrefl _)
theorem Inv.cne (I : Inv X pins σ H s) : ∀ x c, X.env.cells.lookup x = some c → c ≠ X.env.locals := fun x c e z => by
  obtain ⟨v, o, ho, hd⟩ := I.cell x c e
  obtain ⟨m, ⟨o', es, ep, ho', hd', _⟩, _⟩ := I.loc
  rw [z, ho'] at ho; cases ho; rw [hd'] at hd; cases hd
theorem Inv.funs (I : Inv X pins σ H s) : s.heap.FunFrames X.base X.outer := by
  have all : ∀ (l : List Env), (∀ b ∈ frs l, b ∈ X.fs) → X.s₀.heap.FunFrames X.base l → s.heap.FunFrames X.base l := by
    intro l
    induction l with
    | nil => intro _ _; trivial
    | cons env r ih =>
      intro hs hl
      obtain ⟨hk, ⟨L, o, hf, hn, ho, hd⟩, hr⟩ := hl
      have hL : L ∈ X.fs := hs L (by unfold frs; rw [List.filterMap_cons, hf]; exact List.mem_cons_self)
      obtain ⟨sl, e⟩ := I.base.slot L o ho (I.ok.frf L hL) hL fun z => I.ok.exfs L z hL
      exact ⟨hk, ⟨L, _, hf, hn, e, hd⟩, ih (fun b hb => hs b (by unfold frs; rw [List.filterMap_cons, hf]; exact List.mem_cons_of_mem _ hb)) hr⟩
  exact all X.outer (fun _ hb => hb) I.ok.funs
theorem Inv.stack (I : Inv X pins σ H s) : s.heap.FunFrames X.base X.stack := by
  rcases I.ok.stk with e | ⟨e, hf⟩
  · rw [e]; exact I.funs
  · rw [e]
    obtain ⟨m, hn, _⟩ := I.loc
    refine .cons (by rw [I.ok.kind]; decide) hf hn ?_ I.funs
    exact Heap.get?_none_of_le (Nat.le_trans I.ok.bsz I.ok.above)
theorem Inv.stkSub (I : Inv X pins σ H s) : ∀ b ∈ frs X.stack, b ∈ X.env.locals :: X.fs := fun b hb => by
  rcases I.ok.stk with e | ⟨e, hf⟩
  · rw [e] at hb; exact List.mem_cons_of_mem _ hb
  · rw [e] at hb
    unfold frs at hb
    rw [List.filterMap_cons, hf] at hb
    exact hb
theorem Inv.stkFree (I : Inv X pins σ H s) : ∀ b ∈ frs X.stack, H b = none := fun b hb => by
  rcases List.mem_cons.mp (I.stkSub b hb) with e | hb
  · rw [e]; exact I.free
  · obtain ⟨_, o, ho, _⟩ := I.ok.funs.mem hb
    exact I.base.free b o ho (I.ok.frf b hb) fun z => I.ok.exfs b z hb
theorem Inv.step {g' : Array GenState} {t' : Nat} {d' : Drawn} {ch : List Addr} (I : Inv X pins σ H s)
    (hch : ∀ b ∈ ch, (b ∈ X.ex ∨ X.s₀.heap.objs.size ≤ b) ∧ b ≠ X.env.locals ∧ (∀ x c, X.env.cells.lookup x = some c → c ≠ b) ∧ ∀ p ∈ X.pn ++ pins, p.1 ≠ b)
    (keep : ∀ b o, b ≠ X.env.locals → b ∉ X.fs → b ∉ ch → s.heap.get? b = some o → H b = none → h'.get? b = some o)
    (slot : ∀ b o, b ≠ X.env.locals → b ∈ X.fs → b ∉ ch → s.heap.get? b = some o → H b = none → ∃ sl, h'.get? b = some { o with slots := sl }) (free : ∀ b o, b ∉ ch → s.heap.get? b = some o → H b = none → H' b = none)
    (there : ∀ b o, b ∉ ch → s.heap.get? b = some o → ∃ o', h'.get? b = some o')
    (tups : ∀ b xs, H b = some (.tup xs) → H' b = some (.tup xs)) (frzs : ∀ b o u, H b = some (.frz o u) → H' b = some (.frz o u)) (tbls : ∀ b ps, H b = some (.tbl ps) → ∃ more, H' b = some (.tbl (ps ++ more)))
    (ns : ∀ m, s.heap.Ns X.env.locals m → h'.Ns X.env.locals m) (hok : HOk X.prog X.w H' h') (hg : AllBare g') :
    Inv X pins σ H' { s with heap := h', gens := g', drawn := d', toks := t' } := by
  have neL : ∀ b o, X.s₀.heap.get? b = some o → b ≠ X.env.locals := fun b o e => Nat.ne_of_lt (Nat.lt_of_lt_of_le (Heap.lt_size e) I.ok.above)
  have neC : ∀ b o, X.s₀.heap.get? b = some o → b ∉ X.ex → b ∉ ch := fun b o e hx hb => by
    rcases (hch b hb).1 with z | z
    · exact hx z
    · exact absurd (Nat.lt_of_lt_of_le (Heap.lt_size e) z) (Nat.lt_irrefl _)
  have cellK : ∀ x c, X.env.cells.lookup x = some c → ∀ v, s.heap.IsCell c v → h'.IsCell c v := fun x c e v ⟨o, ho, hd⟩ => by
    have nch : c ∉ ch := fun z => (hch c z).2.2.1 x c e rfl
    by_cases hc : c ∈ X.fs
    · obtain ⟨sl, q⟩ := slot c o (I.cne x c e) hc nch ho (I.freeC x c e)
      exact ⟨_, q, hd⟩
    · exact ⟨o, keep c o (I.cne x c e) hc nch ho (I.freeC x c e), hd⟩
  refine ⟨I.ok, I.os, hg, ⟨fun b o e n hb hx => ?_, fun b o e n hb hx => ?_, fun b o e n hx => ?_, fun b o e hx => ?_, fun b xs e => tups b xs (I.base.tups b xs e), fun b o xs e => frzs b o xs (I.base.frzs b o xs e), fun b ps e => ?_⟩, ?_, fun x c e => ?_, ?_, fun x c e => ?_, fun p hp => ?_, hok, I.len⟩
  · exact keep b o (neL b o e) hb (neC b o e hx) (I.base.keep b o e n hb hx) (I.base.free b o e n hx)
  · obtain ⟨sl, e1⟩ := I.base.slot b o e n hb hx
    obtain ⟨sl', e2⟩ := slot b _ (neL b o e) hb (neC b o e hx) e1 (I.base.free b o e n hx)
    exact ⟨sl', e2⟩
  · obtain ⟨o', e1⟩ := I.base.there b o e hx
    exact free b o' (neC b o e hx) e1 (I.base.free b o e n hx)
  · obtain ⟨o', e1⟩ := I.base.there b o e hx
    exact there b o' (neC b o e hx) e1
  · obtain ⟨m1, e1⟩ := I.base.tbls b ps e
    obtain ⟨m2, e2⟩ := tbls b _ e1
    exact ⟨m1 ++ m2, by rw [e2, Array.append_assoc]⟩
  · obtain ⟨m, hn, hl⟩ := I.loc
    refine ⟨m, ns m hn, fun i x v e1 e2 e3 => ?_⟩
    obtain ⟨u, r, l⟩ := hl i x v e1 e2 e3
    refine ⟨u, r, ?_⟩
    rcases l with l | ⟨k, c, e, z⟩
    · exact .inl l
    · exact .inr ⟨k, c, e, cellK x c e _ z⟩
  · obtain ⟨v, z⟩ := I.cell x c e
    exact ⟨v, cellK x c e v z⟩
  · obtain ⟨m, ⟨o, _, _, ho, _⟩, _⟩ := I.loc
    exact free _ o (fun z => (hch _ z).2.1 rfl) ho I.free
  · obtain ⟨v, o, ho, hd⟩ := I.cell x c e
    exact free c o (fun z => (hch c z).2.2.1 x c e rfl) ho (I.freeC x c e)
  · obtain ⟨e, n, ne, nf, d⟩ := I.pin p hp
    have nch : p.1 ∉ ch := fun z => (hch p.1 z).2.2.2 p hp rfl
    exact ⟨keep p.1 p.2 ne nf nch e n, free p.1 p.2 nch e n, ne, nf, d⟩
theorem Inv.un {t' : Nat} (I : Inv X pins σ H s) (u : Un X.fs [] H H' s.heap h') (hok : HOk X.prog X.w H' h') : Inv X pins σ H' { s with heap := h', toks := t' } := by
  obtain ⟨m, ⟨o, es, ep, ho, r⟩, _⟩ := id I.loc
  obtain ⟨sl, hL⟩ := u.any ho I.free (by simp)
  exact I.step (g' := s.gens) (d' := s.drawn) (ch := []) (fun _ z => nomatch z) (fun b o _ hb _ e n => u.keep b o e n hb (by simp)) (fun b o _ hb _ e n => u.slot b o e n hb (by simp)) (fun b o _ e n => u.free b o e n (by simp)) (fun b o _ e => u.there b o e (by simp)) u.tups u.frzs u.tbls (fun m' hm => by
    obtain ⟨o', es', ep', ho', r'⟩ := hm
    rw [ho] at ho'; cases ho'
    exact ⟨_, es', ep', hL, r'⟩) hok I.bare
theorem Inv.call {g' : Array GenState} {t' : Nat} {d' : Drawn} {ch : List Addr} (I : Inv X pins σ H s) (u : Un (frs X.stack) ch H H' s.heap h') (hok : HOk X.prog X.w H' h') (hg : AllBare g')
    (hch : ∀ b ∈ ch, (b ∈ X.ex ∨ X.s₀.heap.objs.size ≤ b) ∧ b ≠ X.env.locals ∧ (∀ x c, X.env.cells.lookup x = some c → c ≠ b) ∧ ∀ p ∈ X.pn ++ pins, p.1 ≠ b) :
    Inv X pins σ H' { s with heap := h', gens := g', drawn := d', toks := t' } := by
  obtain ⟨m, ⟨o, es, ep, ho, r⟩, _⟩ := id I.loc
  obtain ⟨sl, hL⟩ := u.any ho I.free fun z => (hch _ z).2.1 rfl
  exact I.step (ch := ch) hch (fun b o hL hb hc e n => u.keep b o e n (fun z => (List.mem_cons.mp (I.stkSub b z)).elim hL hb) hc) (fun b o _ _ hc e n => u.any e n hc) (fun b o hc e n => u.free b o e n hc) (fun b o hc e => u.there b o e hc) u.tups u.frzs u.tbls (fun m' hm => by
    obtain ⟨o', es', ep', ho', r'⟩ := hm
    rw [ho] at ho'; cases ho'
    exact ⟨_, es', ep', hL, r'⟩) hok hg
theorem Inv.turned {t' : Nat} {it : Addr} (I : Inv X pins σ H s) (k : ∀ b o, b ≠ it → s.heap.get? b = some o → h'.get? b = some o) (hn : H it = none) (hL : it ≠ X.env.locals)
    (h1 : it ∈ X.ex ∨ X.s₀.heap.objs.size ≤ it) (h2 : ∀ x c, X.env.cells.lookup x = some c → c ≠ it) (h3 : ∀ p ∈ X.pn ++ pins, p.1 ≠ it) : Inv X pins σ H { s with heap := h', toks := t' } := by
  have nit : ∀ b u, H b = some u → b ≠ it := fun b u e z => by rw [z, hn] at e; cases e
  refine I.step (g' := s.gens) (d' := s.drawn) (ch := [it]) (fun b hb => ?_) (fun b o _ _ hc e _ => k b o (fun z => hc (by simp [z])) e) (fun b o _ _ hc e _ => ⟨o.slots, k b o (fun z => hc (by simp [z])) e⟩) (fun _ _ _ _ n => n)
    (fun b o hc e => ⟨o, k b o (fun z => hc (by simp [z])) e⟩) (fun _ _ e => e) (fun _ _ _ e => e) (fun b ps e => ⟨#[], by rw [e]; simp⟩) (fun m hm => ?_) (fun b u e => ?_) I.bare
  · have e : b = it := by simpa using hb
    subst e
    exact ⟨h1, hL, h2, h3⟩
  · obtain ⟨o, es, ep, ho, r⟩ := hm
    exact ⟨o, es, ep, k _ o (Ne.symm hL) ho, r⟩
  · refine (I.hok b u e).stay (fun c v hc q => k c v ?_ q) (fun _ q => q) fun _ _ q => q
    rcases hc with z | z
    · rw [z]; exact nit b u e
    · exact nit c _ z
theorem Inv.tok (I : Inv X pins σ H s) (t : Nat) : Inv X pins σ H { s with toks := t } := I.un (h' := s.heap) (t' := t) Un.refl I.hok
theorem Inv.kept {t' : Nat} (I : Inv X pins σ H s) (k : ∀ b u, s.heap.get? b = some u → h'.get? b = some u) : Inv X pins σ H { s with heap := h', toks := t' } := I.un (Un.kept k) (I.hok.kept k)
theorem Inv.laid {a : Addr} {o : HO} {t' : Nat} (I : Inv X pins σ H s) (k : ∀ b u, s.heap.get? b = some u → h'.get? b = some u) (hp : s.heap.objs.size ≤ a) (new : ObjOk X.prog X.w (upd H a o) h' a o) :
    Inv X pins σ (upd H a o) { s with heap := h', toks := t' } := I.un (Un.laid k hp (I.hok.fresh hp)) (I.hok.laid k hp new)
theorem Inv.write {x e : Addr} {o : HO} {t' : Nat} (I : Inv X pins σ H s) (mu : Mut (H x)) (he : e = x ∨ H e = some (.own x)) (k : ∀ b u, b ≠ e → s.heap.get? b = some u → h'.get? b = some u) (heo : ∃ u, h'.get? e = some u)
    (new : ObjOk X.prog X.w (upd H x o) h' x o) : Inv X pins σ (upd H x o) { s with heap := h', toks := t' } := I.un (Un.write mu he k heo) (I.hok.write mu he k heo new)
theorem Inv.pins_of {pins' : List (Addr × Obj)} (I : Inv X pins σ H s) (h : ∀ p ∈ pins', s.heap.get? p.1 = some p.2 ∧ H p.1 = none ∧ p.1 ≠ X.env.locals ∧ p.1 ∉ X.fs ∧ ∀ v, p.2.data ≠ .cell v) : Inv X pins' σ H s :=
  ⟨I.ok, I.os, I.bare, I.base, I.loc, I.cell, I.free, I.freeC, fun p hp => (List.mem_append.mp hp).elim (fun z => I.pin p (List.mem_append_left _ z)) (h p), I.hok, I.len⟩
theorem nodup_ix {N : List Str} (hN : N.Nodup) {i j : Nat} {x : Str} (a : N[i]? = some x) (b : N[j]? = some x) : i = j := by
  obtain ⟨h1, e1⟩ := List.getElem?_eq_some_iff.mp a
  obtain ⟨h2, e2⟩ := List.getElem?_eq_some_iff.mp b
  exact (List.getElem_inj hN).mp (e1.trans e2.symm)
theorem store_ok2 {M : Model} {A : Around} {E : Value → Shared → Prop} {i : Nat} {x : Str} {v : V} {u : Value} {Q : Unit → Shared → Prop} (I : Inv X pins σ H s) (hN : X.N.Nodup) (hi : X.N[i]? = some x) (hx : Loc X.env.scope x) (r : RelV v u)
    (h : ∀ s', Inv X pins (σ.set i (some v)) H s' → (∃ a, Heap.SameBut a s.heap s'.heap ∧ (a = X.env.locals ∨ X.env.cells.lookup x = some a)) → Q () s') (hf : X.fn x = true ∨ X.env.scope.names.lookup x = some .local := by first | exact .inl rfl | exact .inr rfl | assumption) : wpAny M A (storeName X.env x u) Q E s := by
  obtain ⟨m, hn, hl⟩ := id I.loc
  have hcls : (X.env.scope.kind == .class || (X.env.scope.kind == .module && X.env.locals != X.env.globals)) = false := by rw [I.ok.kind]; rfl
  have hiσ : i < σ.length := by rw [I.len]; exact (List.getElem?_eq_some_iff.mp hi).1
  have cne := I.cne
  have tracked : ∀ {a : Addr} {h' : Heap}, (∃ o, s.heap.get? a = some o ∧ H a = none) → Heap.SameBut a s.heap h' → HOk X.prog X.w H h' := fun {a h'} ha hs b ob e => by
    obtain ⟨_, _, hfree⟩ := ha
    refine (I.hok b ob e).stay (fun c w' hc q => (hs.2 c ?_).trans q) (fun _ q => q) fun _ _ q => q
    rintro rfl
    rcases hc with rfl | hc
    · rw [hfree] at e; cases e
    · rw [hfree] at hc; cases hc
  rcases hx with hk | hk
  · refine wpAny_storeName_local hk hn (fun h' hn' hs => ?_) hcls
    obtain ⟨oL, _, _, hoL, _⟩ := id hn
    refine h _ ⟨I.ok, I.os, I.bare, ⟨fun b o e n hb hx => ?_, fun b o e n hb hx => ?_, I.base.free, fun b o e hx => ?_, I.base.tups, I.base.frzs, I.base.tbls⟩, ⟨_, hn', fun j y v' e1 e2 e3 => ?_⟩, fun y c e => ?_, I.free, I.freeC, fun p hp => ?_, tracked ⟨oL, hoL, I.free⟩ hs, by simpa using I.len⟩ ⟨_, hs, .inl rfl⟩
    · exact (hs.2 b (Nat.ne_of_lt (Nat.lt_of_lt_of_le (Heap.lt_size e) I.ok.above))).trans (I.base.keep b o e n hb hx)
    · obtain ⟨sl, e1⟩ := I.base.slot b o e n hb hx
      exact ⟨sl, (hs.2 b (Nat.ne_of_lt (Nat.lt_of_lt_of_le (Heap.lt_size e) I.ok.above))).trans e1⟩
    · obtain ⟨o', e1⟩ := I.base.there b o e hx
      exact ⟨o', (hs.2 b (Nat.ne_of_lt (Nat.lt_of_lt_of_le (Heap.lt_size e) I.ok.above))).trans e1⟩
    · by_cases hj : j = i
      · subst hj
        rw [hi] at e1; cases e1
        rw [List.getElem?_set_self hiσ] at e2
        cases e2
        exact ⟨u, r, .inl ⟨hk, by simp⟩⟩
      · rw [List.getElem?_set_ne (Ne.symm hj)] at e2
        obtain ⟨u', r', q⟩ := hl j y v' e1 e2 e3
        refine ⟨u', r', ?_⟩
        rcases q with ⟨k, e⟩ | ⟨k, c, e, z⟩
        · refine .inl ⟨k, ?_⟩
          have : y ≠ x := fun e => hj (nodup_ix hN e1 (e ▸ hi))
          simp [this, e]
        · exact .inr ⟨k, c, e, z.sameBut hs (cne y c e)⟩
    · obtain ⟨w', z⟩ := I.cell y c e
      exact ⟨w', z.sameBut hs (cne y c e)⟩
    · obtain ⟨e, n, ne, nf, d⟩ := I.pin p hp
      exact ⟨(hs.2 p.1 ne).trans e, n, ne, nf, d⟩
  · have hfn : X.fn x = true := by
      rcases hf with z | z
      · exact z
      · rw [z] at hk; cases hk
    obtain ⟨c, hc⟩ := I.ok.has x (.inl hk)
    obtain ⟨w', z⟩ := I.cell x c hc
    refine wpAny_storeName_cell I.ok.kind hk hc z (fun h' hc' hs => ?_)
    obtain ⟨oc, hoc, hocd⟩ := id z
    refine h { s with heap := h' } ⟨I.ok, I.os, I.bare, ⟨fun b o e n hb hx => ?_, fun b o e n hb hx => ?_, I.base.free, fun b o e hx => ?_, I.base.tups, I.base.frzs, I.base.tbls⟩, ⟨m, hn.sameBut hs (Ne.symm (cne x c hc)), fun j y v' e1 e2 e3 => ?_⟩, fun y c' e => ?_, I.free, I.freeC, fun p hp => ?_, tracked ⟨oc, hoc, I.freeC x c hc⟩ hs, by simpa using I.len⟩ ⟨c, hs, .inr hc⟩
    · exact (hs.2 b (Nat.ne_of_lt (Nat.lt_of_lt_of_le (Heap.lt_size e) (I.ok.cab x c hfn hc)))).trans (I.base.keep b o e n hb hx)
    · obtain ⟨sl, e1⟩ := I.base.slot b o e n hb hx
      exact ⟨sl, (hs.2 b (Nat.ne_of_lt (Nat.lt_of_lt_of_le (Heap.lt_size e) (I.ok.cab x c hfn hc)))).trans e1⟩
    · obtain ⟨o', e1⟩ := I.base.there b o e hx
      exact ⟨o', (hs.2 b (Nat.ne_of_lt (Nat.lt_of_lt_of_le (Heap.lt_size e) (I.ok.cab x c hfn hc)))).trans e1⟩
    · by_cases hj : j = i
      · subst hj
        rw [hi] at e1; cases e1
        rw [List.getElem?_set_self hiσ] at e2
        cases e2
        exact ⟨u, r, .inr ⟨.inl hk, c, hc, hc'⟩⟩
      · rw [List.getElem?_set_ne (Ne.symm hj)] at e2
        obtain ⟨u', r', q⟩ := hl j y v' e1 e2 e3
        refine ⟨u', r', ?_⟩
        rcases q with q | ⟨k, c', e, z'⟩
        · exact .inl q
        · refine .inr ⟨k, c', e, z'.sameBut hs ?_⟩
          rintro rfl
          exact hj (nodup_ix hN e1 (I.ok.inj _ _ _ e hc ▸ hi))
    · by_cases hcc : c' = c
      · subst hcc; exact ⟨_, hc'⟩
      · obtain ⟨w2, z2⟩ := I.cell y c' e
        exact ⟨w2, z2.sameBut hs hcc⟩
    · obtain ⟨e, n, ne, nf, d⟩ := I.pin p hp
      refine ⟨(hs.2 p.1 ?_).trans e, n, ne, nf, d⟩
      intro q
      rw [q, hoc] at e
      have q' : oc = p.2 := Option.some.inj e
      exact d w' (by rw [← q']; exact hocd)
theorem store_ok {M : Model} {A : Around} {E : Value → Shared → Prop} {i : Nat} {x : Str} {v : V} {u : Value} {Q : Unit → Shared → Prop} (I : Inv X pins σ H s) (hN : X.N.Nodup) (hi : X.N[i]? = some x) (hx : Loc X.env.scope x) (r : RelV v u)
    (h : ∀ s', Inv X pins (σ.set i (some v)) H s' → Q () s') (hf : X.fn x = true ∨ X.env.scope.names.lookup x = some .local := by first | exact .inl rfl | exact .inr rfl | assumption) : wpAny M A (storeName X.env x u) Q E s :=
  store_ok2 I hN hi hx r (fun s' I' _ => h s' I') hf
theorem Inv.call' {s' : Shared} {ch : List Addr} (I : Inv X pins σ H s) (ho : s'.os = s.os) (u : Un (frs X.stack) ch H H' s.heap s'.heap) (hok : HOk X.prog X.w H' s'.heap) (hg : AllBare s'.gens)
    (hch : ∀ b ∈ ch, (b ∈ X.ex ∨ X.s₀.heap.objs.size ≤ b) ∧ b ≠ X.env.locals ∧ (∀ x c, X.env.cells.lookup x = some c → c ≠ b) ∧ ∀ p ∈ X.pn ++ pins, p.1 ≠ b) : Inv X pins σ H' s' := by
  obtain ⟨h', g', d', t', o'⟩ := s'
  have e : o' = s.os := ho
  subst e
  exact I.call (g' := g') (t' := t') (d' := d') u hok hg hch
end
abbrev XK := Value → Option Addr → Hp → Prop
abbrev St := List (Option V)
abbrev VK := V → Hp → Prop
abbrev TE := St → Hp → VK → Prop
abbrev TT := St → Hp → (Bool → Hp → Prop) → Prop
abbrev TA := St → Hp → (List V → Hp → Prop) → Prop
structure Ends where
  nx : St → Hp → Prop
  rt : VK
  bk : St → Hp → Prop := fun _ _ => False
  ct : St → Hp → Prop := fun _ _ => False
abbrev TS := Ends → St → Hp → Prop
def EP (X : Cx) (pins : List (Addr × Obj)) (σ : St) (Q : VK) (u : Value) (s' : Shared) : Prop := ∃ v H', Inv X pins σ H' s' ∧ RelV v u ∧ Q v H'
def TP (X : Cx) (pins : List (Addr × Obj)) (σ : St) (Q : Bool → Hp → Prop) (b : Bool) (s' : Shared) : Prop := ∃ H', Inv X pins σ H' s' ∧ Q b H'
def AP (X : Cx) (pins : List (Addr × Obj)) (σ : St) (Q : List V → Hp → Prop) (us : List Value) (s' : Shared) : Prop := ∃ vs H', Inv X pins σ H' s' ∧ Vals vs us ∧ Q vs H'
def SP (X : Cx) (pins : List (Addr × Obj)) (D : Ends) (f : Flow) (s' : Shared) : Prop :=
  match f with
  | .next => ∃ σ' H', Inv X pins σ' H' s' ∧ D.nx σ' H'
  | .brk => ∃ σ' H', Inv X pins σ' H' s' ∧ D.bk σ' H'
  | .cont => ∃ σ' H', Inv X pins σ' H' s' ∧ D.ct σ' H'
  | .ret u => ∃ v σ' H', Inv X pins σ' H' s' ∧ RelV v u ∧ D.rt v H'
def PE (X : Cx) (e : Expr) (t : TE) : Prop :=
  ∀ (pins : List (Addr × Obj)) (s : Shared) (σ : St) (H : Hp) (Q : VK), Inv X pins σ H s → t σ H Q → wpAny (model X.prog X.w) X.A (eval e X.env) (EP X pins σ Q) X.xe s
def PT (X : Cx) (e : Expr) (t : TT) : Prop :=
  ∀ (pins : List (Addr × Obj)) (s : Shared) (σ : St) (H : Hp) (Q : Bool → Hp → Prop), Inv X pins σ H s → t σ H Q → wpAny (model X.prog X.w) X.A (isTrue e X.env (eval e X.env)) (TP X pins σ Q) X.xe s
def PW (X : Cx) (e : Expr) (t : TT) : Prop :=
  ∀ (whole : Sem Value) (pins : List (Addr × Obj)) (s : Shared) (σ : St) (H : Hp) (Q : Bool → Hp → Prop), Inv X pins σ H s → t σ H Q → wpAny (model X.prog X.w) X.A (isTrue e X.env whole) (TP X pins σ Q) X.xe s
theorem PW.pt {X : Cx} {e : Expr} {t : TT} (h : PW X e t) : PT X e t := h _
def PA (X : Cx) (es : List Expr) (t : TA) : Prop :=
  ∀ (pos : Pos) (pins : List (Addr × Obj)) (s : Shared) (σ : St) (H : Hp) (Q : List V → Hp → Prop), Inv X pins σ H s → t σ H Q → wpAny (model X.prog X.w) X.A (spliced (backTo pos (starEach es X.env))) (AP X pins σ Q) X.xe s
def PS (X : Cx) (st : Stmt) (t : TS) : Prop :=
  ∀ (pins : List (Addr × Obj)) (s : Shared) (σ : St) (H : Hp) (D : Ends), Inv X pins σ H s → t D σ H → wpAny (model X.prog X.w) X.A (exec st X.env) (SP X pins D) X.xe s
def PSs (X : Cx) (st : List Stmt) (t : TS) : Prop :=
  ∀ (pins : List (Addr × Obj)) (s : Shared) (σ : St) (H : Hp) (D : Ends), Inv X pins σ H s → t D σ H → wpAny (model X.prog X.w) X.A (execs st X.env) (SP X pins D) X.xe s
theorem thn {α : Type} {t : Sem α} {Q Q' : α → Shared → Prop} {M : Model} {A : Around} {E : Value → Shared → Prop} {s : Shared} (h : wpAny M A t Q E s) (hQ : ∀ a s, Q a s → Q' a s) : wpAny M A t Q' E s := wpAny_mono h hQ fun _ _ x => x
end L2
namespace L2
open PySem PySem.Spec PyProof.Rows
section
variable {X : Cx}
theorem bin {a b : Expr} {ta tb : TE} (ha : PE X a ta) (hb : PE X b tb) {pins : List (Addr × Obj)} {s : Shared} {σ : St} {H : Hp} {R : V → V → Hp → Prop} (I : Inv X pins σ H s) (h : ta σ H fun x H1 => tb σ H1 fun y H2 => R x y H2)
    {α : Type} {Q : α → Shared → Prop} {f : Value → Value → Sem α}
    (hf : ∀ v u s2 x y H2, Inv X pins σ H2 s2 → RelV x v → RelV y u → R x y H2 → wpAny (model X.prog X.w) X.A (f v u) Q X.xe s2) :
    wpAny (model X.prog X.w) X.A (eval a X.env) (fun v s₁ => wpAny (model X.prog X.w) X.A (eval b X.env) (fun u s₂ => wpAny (model X.prog X.w) X.A (f v u) Q X.xe s₂) X.xe s₁) X.xe s := by
  refine thn (ha pins s σ H _ I h) fun v s1 ⟨x, H1, I1, r1, q1⟩ => ?_
  refine thn (hb pins s1 σ H1 _ I1 q1) fun u s2 ⟨y, H2, I2, r2, q2⟩ => ?_
  exact hf v u s2 x y H2 I2 r1 r2 q2
def tVar (i : Nat) : TE := fun σ H Q => ∃ v, σ[i]? = some (some v) ∧ Q v H
def tC (v : V) : TE := fun _ H Q => Q v H
theorem pe_var {i : Nat} {x : Str} {pos : Pos} (hN : X.N[i]? = some x) (hv : Vis X.env.scope x) (hd : (x == ("__debug__" : Str)) = false := by decide) (hcd : (x == ("__classdict__" : Str)) = false := by decide) : PE X (.Name x pos) (tVar i) := by
  intro pins s σ H Q I h
  obtain ⟨v, e, h⟩ := h
  obtain ⟨m, hn, hl⟩ := I.loc
  obtain ⟨u, r, l⟩ := hl i x v hN e hv
  have fin : EP X pins σ Q u s := ⟨v, H, I, r, h⟩
  rcases l with ⟨hk, hm⟩ | ⟨hk, c, hc, hcell⟩
  · exact wpAny_Name (wpAny_loadName_local I.ok.kind hk hn hm fin) hd
  · rcases hk with hk | hk
    · exact wpAny_Name (wpAny_loadName_cell I.ok.kind hk hc hcell fin) hd
    · exact wpAny_Name (wpAny_loadName_free I.ok.kind hk hc hcell fin hcd) hd
theorem pe_int {i j pos} : PE X (.Constant (.int i) j pos) (tC (.int i)) := fun _ _ _ H _ I h => wpAny_Constant_int ⟨.int i, H, I.tok _, ⟨_, rfl⟩, h⟩
theorem pe_bl {b j pos} : PE X (.Constant (.bool b) j pos) (tC (.bl b)) := fun _ _ _ H _ I h => Constant_bool ⟨.bl b, H, I, rfl, h⟩
theorem pe_non {j pos} : PE X (.Constant .none j pos) (tC .non) := fun _ _ _ H _ I h => Constant_none ⟨.non, H, I, rfl, h⟩
theorem pe_str {x j pos} : PE X (.Constant (.str x) j pos) (tC (.str x)) := fun _ _ _ H _ I h => Calls.Constant_str ⟨.str x, H, I.tok _, ⟨_, rfl⟩, h⟩
def Gl (X : Cx) (x : Str) : Prop := X.env.kindOf x = some .globalImplicit
theorem ld_glob {E : Value → Shared → Prop} {pins : List (Addr × Obj)} {s : Shared} {σ : St} {H : Hp} {x : Str} {u : Value} {pos : Pos} {Q : Value → Shared → Prop} (I : Inv X pins σ H s) (hg : Gl X x) (hm : X.mg x = some u) (h : Q u s)
    (hd : (x == ("__debug__" : Str)) = false := by decide) : wpAny (model X.prog X.w) X.A (eval (.Name x pos) X.env) Q E s :=
  Calls.Name_function_global I.ok.kind hg (Calls.loadGlobal_global (by rw [I.ok.glob]; exact I.mod.glob.keeps I.bk) hm h) hd
theorem ld_blt {E : Value → Shared → Prop} {pins : List (Addr × Obj)} {s : Shared} {σ : St} {H : Hp} {x : Str} {u : Value} {pos : Pos} {Q : Value → Shared → Prop} (I : Inv X pins σ H s) (hg : Gl X x) (hm : X.mg x = none) (hv : bootBuiltins x = some u) (h : Q u s)
    (hn : x ≠ "__name__" := by decide) (hd : (x == ("__debug__" : Str)) = false := by decide) : wpAny (model X.prog X.w) X.A (eval (.Name x pos) X.env) Q E s := by
  obtain ⟨mb, h1, h2⟩ := I.mod.blt
  exact Calls.Name_function_global I.ok.kind hg (Calls.loadGlobal_builtin (by rw [I.ok.glob]; exact I.mod.glob.keeps I.bk) hm (by rw [I.ok.blt]; exact h1.keeps I.bk) ((h2 x hn).trans hv) h) hd
theorem pe_glob {x : Str} {v : V} {u : Value} {pos : Pos} (hg : Gl X x) (hm : X.mg x = some u) (r : RelV v u) (hd : (x == ("__debug__" : Str)) = false := by decide) : PE X (.Name x pos) (tC v) :=
  fun _ _ _ H _ I h => ld_glob I hg hm ⟨v, H, I, r, h⟩ hd
def t2I (ta tb : TE) (k : Int → Int → Hp → Prop) : St → Hp → Prop := fun σ H => ta σ H fun x H1 => tb σ H1 fun y H2 => ∃ i j, x = .int i ∧ y = .int j ∧ k i j H2
def tAdd (ta tb : TE) : TE := fun σ H Q => t2I ta tb (fun i j H2 => Q (.int (i + j)) H2) σ H
def tSub (ta tb : TE) : TE := fun σ H Q => t2I ta tb (fun i j H2 => Q (.int (i - j)) H2) σ H
def tMul (ta tb : TE) : TE := fun σ H Q => t2I ta tb (fun i j H2 => (-(2 ^ 64) < i ∧ i < 2 ^ 64) ∧ Q (.int (i * j)) H2) σ H
variable {a b : Expr} {ta tb : TE} {pos : Pos}
def PC (X : Cx) (op : CmpOp) (a b : Expr) (t : TE) : Prop :=
  ∀ (pins : List (Addr × Obj)) (s : Shared) (σ : St) (H : Hp) (Q : VK), Inv X pins σ H s → t σ H Q →
    wpAny (model X.prog X.w) X.A (eval a X.env) (fun v s₁ => wpAny (model X.prog X.w) X.A (eval b X.env) (fun u s₂ => wpAny (model X.prog X.w) X.A (compareOp op v u) (EP X pins σ Q) X.xe s₂) X.xe s₁) X.xe s
theorem nobehind (b : Expr) {op : CmpOp} (h : op ≠ .In) (h2 : op ≠ .NotIn) : behindInMarks op b = false := by
  have e1 : (op == CmpOp.In) = false := by cases op <;> first | rfl | exact absurd rfl h
  have e2 : (op == CmpOp.NotIn) = false := by cases op <;> first | rfl | exact absurd rfl h2
  cases b <;> simp [behindInMarks, e1, e2]
def tCmp (p : Int → Int → Bool) (ta tb : TE) : TE := fun σ H Q => t2I ta tb (fun i j H2 => Q (.bl (p i j)) H2) σ H
abbrev tLt : TE → TE → TE := tCmp fun i j => decide (i < j)
abbrev tLe : TE → TE → TE := tCmp fun i j => decide (i ≤ j)
abbrev tGt : TE → TE → TE := tCmp fun i j => decide (j < i)
abbrev tGe : TE → TE → TE := tCmp fun i j => decide (j ≤ i)
abbrev tEqI : TE → TE → TE := tCmp fun i j => decide (i = j)
abbrev tNeI : TE → TE → TE := tCmp fun i j => !decide (i = j)
def tIsN (ta : TE) : TE := fun σ H Q => ta σ H fun x H1 => Q (.bl (decide (x = .non))) H1
def tNotN (ta : TE) : TE := fun σ H Q => ta σ H fun x H1 => Q (.bl (!decide (x = .non))) H1
def tB (t : TE) : TT := fun σ H Q => t σ H fun x H1 => ∃ c, x = .bl c ∧ Q c H1
theorem pt_cmp {op : CmpOp} {t : TE} (h : PC X op a b t) (h1 : behindInMarks op b = false := by first | exact nobehind _ (by decide) (by decide) | rfl) : PT X (.Compare a [op] [b] pos) (tB t) := by
  intro pins s σ H Q I hw
  refine wpAny_isTrue_Compare1 (thn (h pins s σ H _ I hw) fun v s1 h1 => thn h1 fun u s2 h2 => thn h2 fun c s3 ⟨x, H1, I1, r1, q1⟩ => ?_) h1
  obtain ⟨d, rfl, q⟩ := q1
  cases r1
  exact wpAny_truthy_bool ⟨H1, I1, q⟩
variable {tA tB' : TT} {rest : List Expr}
def tAnd (t u : TT) : TT := fun σ H Q => t σ H fun c H1 => if c = true then u σ H1 Q else Q false H1
def tOr (t u : TT) : TT := fun σ H Q => t σ H fun c H1 => if c = true then Q true H1 else u σ H1 Q
def tNot (t : TT) : TT := fun σ H Q => t σ H fun c H1 => Q (!c) H1
theorem pw_and1 (ha : PT X a tA) : PW X (.BoolOp .And [a] pos) tA := by
  intro wh pins s σ H Q I h
  refine isTrue_and (thn (ha pins s σ H Q I h) fun c s1 e => ?_)
  cases c with
  | true => exact isTrue_and_nil e
  | false => exact e
theorem pw_or1 (ha : PT X a tA) : PW X (.BoolOp .Or [a] pos) tA := by
  intro wh pins s σ H Q I h
  refine isTrue_or (thn (ha pins s σ H Q I h) fun c s1 e => ?_)
  cases c with
  | false => exact isTrue_or_nil e
  | true => exact e
theorem pw_and (ha : PT X a tA) (hb : PW X (.BoolOp .And (b :: rest) pos) tB') : PW X (.BoolOp .And (a :: b :: rest) pos) (tAnd tA tB') := by
  intro wh pins s σ H Q I h
  refine isTrue_and (thn (ha pins s σ H _ I h) fun c s1 ⟨H1, I1, q1⟩ => ?_)
  cases c with
  | true => exact hb wh pins s1 σ H1 Q I1 q1
  | false => exact ⟨H1, I1, q1⟩
theorem pw_or (ha : PT X a tA) (hb : PW X (.BoolOp .Or (b :: rest) pos) tB') : PW X (.BoolOp .Or (a :: b :: rest) pos) (tOr tA tB') := by
  intro wh pins s σ H Q I h
  refine isTrue_or (thn (ha pins s σ H _ I h) fun c s1 ⟨H1, I1, q1⟩ => ?_)
  cases c with
  | true => exact ⟨H1, I1, q1⟩
  | false => exact hb wh pins s1 σ H1 Q I1 q1
theorem pt_not (ha : PT X a tA) : PT X (.UnaryOp .Not a pos) (tNot tA) := by
  intro pins s σ H Q I h
  exact isTrue_not (ha pins s σ H (fun c H1 => Q (!c) H1) I h)
def tAndV (ta tb : TE) : TE := fun σ H Q => ta σ H fun x H1 => ∃ c, x = .bl c ∧ if c = true then tb σ H1 Q else Q (.bl false) H1
def tOrV (ta tb : TE) : TE := fun σ H Q => ta σ H fun x H1 => ∃ c, x = .bl c ∧ if c = true then Q (.bl true) H1 else tb σ H1 Q
def tNotV (ta : TE) : TE := fun σ H Q => ta σ H fun x H1 => ∃ c, x = .bl c ∧ Q (.bl (!c)) H1
def tIf (t : TT) (ta tb : TE) : TE := fun σ H Q => t σ H fun c H1 => if c = true then ta σ H1 Q else tb σ H1 Q
theorem pe_ifExp {c : Expr} (hc : PT X c tA) (ha : PE X a ta) (hb : PE X b tb) : PE X (.IfExp c a b pos) (tIf tA ta tb) := by
  intro pins s σ H Q I h
  refine wpAny_IfExp (thn (hc pins s σ H _ I h) fun d s1 ⟨H1, I1, q1⟩ => ?_)
  cases d with
  | true => exact ha pins s1 σ H1 Q I1 q1
  | false => exact hb pins s1 σ H1 Q I1 q1
end
end L2
namespace L2
open PySem PySem.Spec PyProof.Rows
def SqL (K : PySem.W.Frag) (H : Hp) (a : Addr) (xs : List V) : Prop :=
  Rd H a (.lst xs) ∨
    ∃ (o : Obj) (its : Array Value) (n : Nat), K.lookup a = some o ∧ o.cls = .type "list" ∧ o.dict = none ∧ o.data = .seq its n ∧ its.size ≤ sizeLine ∧ Vals xs its.toList
def SqT (K : PySem.W.Frag) (H : Hp) (a : Addr) (xs : List V) : Prop :=
  Rd H a (.tup xs) ∨
    ∃ (o : Obj) (its : Array Value) (n : Nat), K.lookup a = some o ∧ o.cls = .type "tuple" ∧ o.data = .seq its n ∧ its.size ≤ sizeLine ∧ Vals xs its.toList
def absV : Value → Option V
  | .none => some .non
  | .bool b => some (.bl b)
  | .int i _ => some (.int i)
  | .str x _ => some (.str x)
  | .bytes b _ => some (.byt b)
  | .float b _ => some (.flt b)
  | .ref a => some (.ref a)
  | .type n => some (.ty n)
  | _ => none
theorem RelV.abs {x : V} {u : Value} (r : RelV x u) : absV u = some x := by
  cases x with
  | non => cases r; rfl
  | bl _ => cases r; rfl
  | int _ => obtain ⟨t, rfl⟩ := r; rfl
  | str _ => obtain ⟨t, rfl⟩ := r; rfl
  | byt _ => obtain ⟨t, rfl⟩ := r; rfl
  | flt _ => obtain ⟨t, rfl⟩ := r; rfl
  | ref _ => cases r; rfl
  | ty _ => cases r; rfl
theorem RelV.inj {x y : V} {u : Value} (r : RelV x u) (q : RelV y u) : x = y := Option.some.inj (r.abs.symm.trans q.abs)
theorem Vals.inj : ∀ {xs ys : List V} {us : List Value}, Vals xs us → Vals ys us → xs = ys
  | _, _, _, .nil, .nil => rfl
  | _, _, _, .cons r t, .cons r' t' => by rw [r.inj r', Vals.inj t t']
section
variable {X : Cx} {pins : List (Addr × Obj)} {σ : St} {H : Hp} {s : Shared} {a : Addr} {xs ys : List V}
theorem SqL.of {K : PySem.W.Frag} (h : H a = some (.lst xs)) : SqL K H a xs := .inl (.inl h)
theorem SqT.of {K : PySem.W.Frag} (h : H a = some (.tup xs)) : SqT K H a xs := .inl (.inl h)
theorem Inv.list (I : Inv X pins σ H s) (h : SqL X.K H a xs) : ∃ its : List Value, Vals xs its ∧ PlainL s.heap a its.toArray ∧ xs.length ≤ sizeLine := by
  rcases h with h | ⟨o, its, n, hk, hc, hd, hs, hz, r⟩
  · obtain ⟨z, its, n, r, e⟩ := h.ok I.hok
    exact ⟨its, r, ⟨_, n, e, rfl, rfl, rfl⟩, z⟩
  · refine ⟨its.toList, r, ⟨o, n, I.kIn a o hk, hc, hd, by simpa using hs⟩, ?_⟩
    have e := r.length
    simp only [Array.length_toList] at e
    omega
theorem Inv.tuple (I : Inv X pins σ H s) (h : SqT X.K H a xs) : ∃ its : List Value, Vals xs its ∧ IsTup s.heap a its.toArray ∧ xs.length ≤ sizeLine := by
  rcases h with h | ⟨o, its, n, hk, hc, hs, hz, r⟩
  · obtain ⟨z, its, r, p⟩ := h.ok I.hok
    exact ⟨its, r, p, z⟩
  · refine ⟨its.toList, r, ⟨o, I.kIn a o hk, hc, n, by simpa using hs⟩, ?_⟩
    have e := r.length
    simp only [Array.length_toList] at e
    omega
theorem Inv.list_inj (I : Inv X pins σ H s) (h : SqL X.K H a xs) (h' : SqL X.K H a ys) : xs = ys := by
  obtain ⟨its, r, ⟨o, n, e, _, _, d⟩, _⟩ := I.list h
  obtain ⟨its', r', ⟨o', n', e', _, _, d'⟩, _⟩ := I.list h'
  rw [e] at e'; cases e'
  rw [d] at d'
  injection d' with d1 _
  have : its = its' := by simpa using congrArg Array.toList d1
  subst this
  exact r.inj r'
end
abbrev Cx.wish (X : Cx) (E : Value → Shared → Prop) : Cx := { X with xe := E }
abbrev Cx.nox (X : Cx) : Cx := X.wish fun _ _ => False
theorem Cx.Ok.wish {X : Cx} (ok : X.Ok) (E : Value → Shared → Prop) : (X.wish E).Ok :=
  ⟨ok.mod, ok.kind, ok.glob, ok.blt, ok.above, ok.inj, ok.has, ok.cab, ok.hd, ok.frames, ok.stk, ok.exf, ok.bs, ok.bsz, ok.noex, ok.exfs, ok.funs, ok.frf⟩
theorem Cx.Ok.unwish {X : Cx} {E : Value → Shared → Prop} (ok : (X.wish E).Ok) : X.Ok :=
  ⟨ok.mod, ok.kind, ok.glob, ok.blt, ok.above, ok.inj, ok.has, ok.cab, ok.hd, ok.frames, ok.stk, ok.exf, ok.bs, ok.bsz, ok.noex, ok.exfs, ok.funs, ok.frf⟩
section
variable {X : Cx} {pins : List (Addr × Obj)} {σ : St} {H : Hp} {s : Shared} {E : Value → Shared → Prop}
theorem Inv.wish (I : Inv X pins σ H s) (E : Value → Shared → Prop) : Inv (X.wish E) pins σ H s := ⟨I.ok.wish E, I.os, I.bare, I.base, I.loc, I.cell, I.free, I.freeC, I.pin, I.hok, I.len⟩
theorem Inv.unwish (I : Inv (X.wish E) pins σ H s) : Inv X pins σ H s := ⟨I.ok.unwish, I.os, I.bare, I.base, I.loc, I.cell, I.free, I.freeC, I.pin, I.hok, I.len⟩
theorem SP.unwish {D : Ends} {f : Flow} {s' : Shared} (h : SP (X.wish E) pins D f s') : SP X pins D f s' := by
  cases f with
  | next => obtain ⟨σ', H', I, q⟩ := h; exact ⟨σ', H', I.unwish, q⟩
  | brk => obtain ⟨σ', H', I, q⟩ := h; exact ⟨σ', H', I.unwish, q⟩
  | cont => obtain ⟨σ', H', I, q⟩ := h; exact ⟨σ', H', I.unwish, q⟩
  | ret u => obtain ⟨v, σ', H', I, r, q⟩ := h; exact ⟨v, σ', H', I.unwish, r, q⟩
theorem PE.nox {e : Expr} {t : TE} (h : PE X.nox e t) : PE X e t := fun pins s σ H Q I hw =>
  wpAny_mono (h pins s σ H Q (I.wish _) hw) (fun _ _ ⟨v, H', I', r, q⟩ => ⟨v, H', I'.unwish, r, q⟩) fun _ _ z => False.elim z
theorem PT.nox {e : Expr} {t : TT} (h : PT X.nox e t) : PT X e t := fun pins s σ H Q I hw =>
  wpAny_mono (h pins s σ H Q (I.wish _) hw) (fun _ _ ⟨H', I', q⟩ => ⟨H', I'.unwish, q⟩) fun _ _ z => False.elim z
theorem PSs.nox {st : List Stmt} {t : TS} (h : PSs X.nox st t) : PSs X st t := fun pins s σ H D I hw =>
  wpAny_mono (h pins s σ H D (I.wish _) hw) (fun _ _ q => q.unwish) fun _ _ z => False.elim z
end
section
variable {X : Cx} {st : Stmt} {rest : List Stmt} {t u : TS} {e : Expr} {te : TE} {pos : Pos}
def tNext : TS := fun D σ H => D.nx σ H
def tSeq (t u : TS) : TS := fun D σ H => t { D with nx := u D } σ H
theorem pss_nil : PSs X [] tNext := fun _ _ σ H _ I h => wpAny_execs_nil ⟨σ, H, I, h⟩
theorem pss_cons (h1 : PS X st t) (h2 : PSs X rest u) : PSs X (st :: rest) (tSeq t u) := by
  intro pins s σ H D I h
  refine wpAny_execs_cons (thn (h1 pins s σ H { D with nx := u D } I h) fun f s1 q => ?_)
  cases f with
  | next =>
    obtain ⟨σ', H', I', q⟩ := q
    exact h2 pins s1 σ' H' D I' q
  | ret v => exact q
  | brk => exact q
  | cont => exact q
theorem pss_one (h1 : PS X st t) : PSs X [st] t := by
  intro pins s σ H D I h
  refine wpAny_execs_cons (thn (h1 pins s σ H D I h) fun f s1 q => ?_)
  cases f with
  | next => exact wpAny_execs_nil q
  | ret v => exact q
  | brk => exact q
  | cont => exact q
def tBreak : TS := fun D σ H => D.bk σ H
def tCont : TS := fun D σ H => D.ct σ H
theorem Inv.quiet {pins : List (Addr × Obj)} {σ : St} {H : Hp} {s : Shared} (I : Inv X pins σ H s) : interactive X.env = false := by simp [interactive, I.ok.kind]
def tDrop (te : TE) : TS := fun D σ H => te σ H fun _ H1 => D.nx σ H1
theorem ps_expr (he : PE X e te) (hs : swapsWith e none pos.line X.env = pure false := by rfl) : PS X (.Expr e pos) (tDrop te) := by
  intro pins s σ H D I h
  exact wpAny_Expr_any (thn (he pins s σ H _ I h) fun v s1 ⟨x, H1, I1, r1, q1⟩ => ⟨σ, H1, I1, q1⟩) I.quiet hs
def tRet (te : TE) : TS := fun D σ H => te σ H D.rt
theorem ps_ret (he : PE X e te) : PS X (.Return (some e) pos) (tRet te) := by
  intro pins s σ H D I h
  exact wpAny_Return_some (thn (he pins s σ H _ I h) fun v s1 ⟨x, H1, I1, r1, q1⟩ => ⟨x, σ, H1, I1, r1, q1⟩)
def tRetN : TS := fun D _ H => D.rt .non H
def tIfS (c : TT) (t u : TS) : TS := fun D σ H => c σ H fun b H1 => if b = true then t D σ H1 else u D σ H1
theorem ps_if {c : Expr} {a b : List Stmt} {tc : TT} (hc : PT X c tc) (ha : PSs X a t) (hb : PSs X b u) : PS X (.If c a b pos) (tIfS tc t u) := by
  intro pins s σ H D I h
  refine wpAny_If (thn (hc pins s σ H _ I h) fun d s1 ⟨H1, I1, q1⟩ => ?_)
  cases d with
  | true => exact ha pins s1 σ H1 D I1 q1
  | false => exact hb pins s1 σ H1 D I1 q1
def tNever : TS := fun _ _ _ => False
end
abbrev TG := V → St → Hp → (St → Hp → Prop) → Prop
abbrev TGs := List V → St → Hp → (St → Hp → Prop) → Prop
def PG (X : Cx) (target : Expr) (t : TG) : Prop :=
  ∀ (pins : List (Addr × Obj)) (s : Shared) (σ : St) (H : Hp) (v : V) (u : Value) (Q : St → Hp → Prop), Inv X pins σ H s → RelV v u → t v σ H Q →
    wpAny (model X.prog X.w) X.A (assign target X.env u) (fun _ s' => ∃ σ' H', Inv X pins σ' H' s' ∧ Q σ' H') X.xe s
def PGs (X : Cx) (ts : List Expr) (t : TGs) : Prop :=
  ∀ (pins : List (Addr × Obj)) (s : Shared) (σ : St) (H : Hp) (vs : List V) (us : List Value) (Q : St → Hp → Prop), Inv X pins σ H s → Vals vs us → t vs σ H Q →
    wpAny (model X.prog X.w) X.A (assignInOrder ((assignEach ts X.env).map (·.2)) us) (fun _ s' => ∃ σ' H', Inv X pins σ' H' s' ∧ Q σ' H') X.xe s
abbrev TSet := V → V → V → Hp → (Hp → Prop) → Prop
def PSet (X : Cx) (t : TSet) : Prop :=
  ∀ (pins : List (Addr × Obj)) (s : Shared) (σ : St) (H : Hp) (o i v : V) (ov iv u : Value) (Q : Hp → Prop), Inv X pins σ H s → RelV o ov → RelV i iv → RelV v u → t o i v H Q →
    wpAny (model X.prog X.w) X.A (setItem ov iv u) (fun _ s' => ∃ H', Inv X pins σ H' s' ∧ Q H') X.xe s
abbrev TIp := V → V → Hp → VK → Prop
def PIp (X : Cx) (op : Operator) (t : TIp) : Prop :=
  ∀ (pins : List (Addr × Obj)) (s : Shared) (σ : St) (H : Hp) (x y : V) (v u : Value) (Q : VK), Inv X pins σ H s → RelV x v → RelV y u → t x y H Q →
    wpAny (model X.prog X.w) X.A (inplaceOp op v u) (EP X pins σ Q) X.xe s
section
variable {X : Cx} {pos : Pos}
def gName (i : Nat) : TG := fun v σ H Q => Q (σ.set i (some v)) H
theorem pg_name {i : Nat} {x : Str} (hN : X.N.Nodup) (hi : X.N[i]? = some x) (hx : Loc X.env.scope x) (hf : X.fn x = true ∨ X.env.scope.names.lookup x = some .local := by first | exact .inl rfl | exact .inr rfl | assumption) : PG X (.Name x pos) (gName i) := by
  intro pins s σ H v u Q I r h
  exact wpAny_assign_Name (store_ok I hN hi hx r (fun s' I' => ⟨_, H, I', h⟩) hf)
def gNil : TGs := fun vs σ H Q => vs = [] ∧ Q σ H
def gCons (t : TG) (u : TGs) : TGs := fun vs σ H Q => ∃ v r, vs = v :: r ∧ t v σ H fun σ' H' => u r σ' H' Q
theorem pgs_nil : PGs X [] gNil := by
  intro pins s σ H vs us Q I r h
  obtain ⟨e, h⟩ := h
  subst e
  cases r
  exact assignInOrder_nil ⟨σ, H, I, h⟩
theorem pgs_cons {e : Expr} {es : List Expr} {t : TG} {u : TGs} (h1 : PG X e t) (h2 : PGs X es u)
    (hs : (assignEach (e :: es) X.env).map (·.2) = assign e X.env :: (assignEach es X.env).map (·.2) := by rfl) : PGs X (e :: es) (gCons t u) := by
  intro pins s σ H vs us Q I r h
  obtain ⟨v, vr, e1, h⟩ := h
  subst e1
  cases r with
  | cons r rr =>
    rw [hs]
    refine assignInOrder_cons (thn (h1 pins s σ H _ _ _ I r h) fun _ s1 ⟨σ1, H1, I1, q1⟩ => ?_)
    exact h2 pins s1 σ1 H1 _ _ Q I1 rr q1
def gTup (K : PySem.W.Frag) (n : Nat) (t : TGs) : TG := fun v σ H Q => ∃ a xs, v = .ref a ∧ SqT K H a xs ∧ xs.length = n ∧ t xs σ H Q
theorem pg_tup {es : List Expr} {k : Nat} {t : TGs} {n : Nat} (hc : X.calm = true) (h : PGs X es t)
    (hn : (assignEach es X.env).length = n := by rfl) (hst : (assignEach es X.env).findIdx? (·.1) = none := by rfl) : PG X (.Tuple es k pos) (gTup X.K n t) := by
  intro pins s σ H v u Q I r hw
  obtain ⟨a, xs, e1, hq, hl, hw⟩ := hw
  subst e1
  cases r
  obtain ⟨its, rv, ht, hz⟩ := I.tuple hq
  refine assign_Tuple_tuple (I.ok.hd hc) ht (by simp [hn, ← hl, rv.length]) hst fun h' hx => ?_
  have I1 : Inv X pins σ H { s with heap := h' } := I.kept (t' := s.toks) fun b o e => hx b o (Nat.ne_of_lt (Heap.lt_size e)) e
  exact h pins _ σ H xs _ Q I1 (by simpa using rv) hw
def gSub (to ti : TE) (t : TSet) : TG := fun v σ H Q => to σ H fun o H1 => ti σ H1 fun i H2 => t o i v H2 fun H3 => Q σ H3
def tAsg (te : TE) (g : TG) : TS := fun D σ H => te σ H fun x H1 => g x σ H1 D.nx
theorem ps_set {i : Nat} {x : Str} {e : Expr} {te : TE} {pos' : Pos} (hN : X.N.Nodup) (hi : X.N[i]? = some x) (hx : Loc X.env.scope x) (he : PE X e te) (hs : swapsWith e (some (.Name x pos')) pos.line X.env = pure false := by rfl) (hf : X.fn x = true ∨ X.env.scope.names.lookup x = some .local := by first | exact .inl rfl | exact .inr rfl | assumption) :
    PS X (.Assign [.Name x pos'] e pos) (tAsg te (gName i)) := by
  intro pins s σ H D I h
  refine wpAny_Assign_Name (thn (he pins s σ H _ I h) fun v s1 ⟨y, H1, I1, r1, q1⟩ => ?_) hs
  exact store_ok I1 hN hi hx r1 (fun s2 I2 => ⟨_, H1, I2, q1⟩) hf
def tPar (i j : Nat) (ta : TA) : TS := fun D σ H => ta σ H fun vs H1 => ∃ v w, vs = [v, w] ∧ D.nx ((σ.set i (some v)).set j (some w)) H1
def tAug (i : Nat) (te : TE) (ti : TIp) : TS := fun D σ H => ∃ x, σ[i]? = some (some x) ∧ te σ H fun y H1 => ti x y H1 fun z H2 => D.nx (σ.set i (some z)) H2
def tAugS (to ti te : TE) (tget : V → V → Hp → VK → Prop) (tip : TIp) (tset : TSet) : TS := fun D σ H => to σ H fun o H1 => ti σ H1 fun i H2 => tget o i H2 fun x H3 => te σ H3 fun y H4 => tip x y H4 fun z H5 => tset o i z H5 fun H6 => D.nx σ H6
def PGet (X : Cx) (t : V → V → Hp → VK → Prop) : Prop :=
  ∀ (pins : List (Addr × Obj)) (s : Shared) (σ : St) (H : Hp) (o i : V) (ov iv : Value) (Q : VK), Inv X pins σ H s → RelV o ov → RelV i iv → t o i H Q →
    wpAny (model X.prog X.w) X.A (getItem ov iv) (EP X pins σ Q) X.xe s
def ipI (f : Int → Int → Int) : TIp := fun x y H Q => ∃ i j, x = .int i ∧ y = .int j ∧ Q (.int (f i j)) H
end
section
variable {X : Cx} {pos : Pos}
def tWhile (c : TT) (tb : TS) : TS := fun D σ H => ∃ W : Nat → St → Hp → Prop, (∃ m, W m σ H) ∧ ∀ m σ H, W m σ H →
  c σ H fun b H1 => if b = true then ∃ N : St → Hp → Prop, (∀ σ' H', N σ' H' → ∃ m', m' < m ∧ W m' σ' H') ∧ tb { D with nx := N, ct := N, bk := D.nx } σ H1 else D.nx σ H1
end
structure It where
  go : Nat → Hp → Prop
  yld : Nat → Hp → V → Hp → Prop
  stop : Nat → Hp → Prop
def FpOk (X : Cx) (pins : List (Addr × Obj)) (H : Hp) (b : Addr) : Prop :=
  H b = none ∧ b ≠ X.env.locals ∧ b ∉ X.fs ∧ (b ∈ X.ex ∨ X.s₀.heap.objs.size ≤ b) ∧ (∀ x c, X.env.cells.lookup x = some c → c ≠ b) ∧ ∀ p ∈ X.pn ++ pins, p.1 ≠ b
theorem Inv.fpOk {X : Cx} {pins : List (Addr × Obj)} {σ : St} {H H' : Hp} {s : Shared} {b : Addr} (I : Inv X pins σ H s) (hb : s.heap.objs.size ≤ b) (hn : H' b = none) : FpOk X pins H' b := by
  refine ⟨hn, Nat.ne_of_gt (Nat.lt_of_lt_of_le I.lt hb), I.nofs hb, .inr (Nat.le_trans I.sz hb), fun x c e z => ?_, fun p hp z => ?_⟩
  · obtain ⟨v, q⟩ := I.cell x c e
    exact absurd (Nat.lt_of_lt_of_le q.lt (by rw [z]; exact hb)) (Nat.lt_irrefl _)
  · exact absurd (Nat.lt_of_lt_of_le (Heap.lt_size (I.pin p hp).1) (by rw [z]; exact hb)) (Nat.lt_irrefl _)
structure Turn (P : Program) (w : World) (K : PySem.W.Frag) (tg : Expr) (J : It) (fp : List Addr) (it : Addr) (tn : Nat → Heap → Prop) : Prop where
  mem : it ∈ fp
  obj : ∀ i h, tn i h → ∀ b ∈ fp, ∃ o, h.get? b = some o ∧ ∀ v, o.data ≠ .cell v
  keep : ∀ i h h', tn i h → (∀ b ∈ fp, ∀ o, h.get? b = some o → h'.get? b = some o) → tn i h'
  item : ∀ (X : Cx), X.prog = P → X.w = w → X.K = K → X.calm = true → ∀ (i : Nat) (pins : List (Addr × Obj)) (s : Shared) (σ : St) (H : Hp) (E : Value → Shared → Prop), Inv X pins σ H s → (∀ b ∈ fp, FpOk X pins H b) → tn i s.heap → J.go i H →
    wpAny (model P w) X.A (pyNext (.ref it)) (fun r s1 => ∃ u, r = some u ∧
      wpAny (model P w) X.A (letOwnedTupleGo tg (.ref it) u) (fun _ s2 => ∃ x H', Inv X pins σ H' s2 ∧ RelV x u ∧ J.yld i H x H' ∧ tn (i + 1) s2.heap ∧ ∀ b ∈ fp, H' b = none) E s1) E s
  done : ∀ (X : Cx), X.prog = P → X.w = w → X.K = K → X.calm = true → ∀ (i : Nat) (pins : List (Addr × Obj)) (s : Shared) (σ : St) (H : Hp) (E : Value → Shared → Prop), Inv X pins σ H s → (∀ b ∈ fp, FpOk X pins H b) → tn i s.heap → J.stop i H →
    wpAny (model P w) X.A (pyNext (.ref it)) (fun r s1 => r = none ∧ Inv X pins σ H s1) E s
  self : ∀ (A : Around) (i : Nat) (s : Shared) (Q : Value → Shared → Prop) (E : Value → Shared → Prop), tn i s.heap → Q (.ref it) s → wpAny (model P w) A (pyIter (.ref it)) Q E s
abbrev TI := St → Hp → (It → Hp → Prop) → Prop
def PIE (X : Cx) (pins : List (Addr × Obj)) (σ : St) (tg : Expr) (R : It → Hp → Prop) (itv : Value) (s2 : Shared) : Prop :=
  ∃ (it : Addr) (fp : List Addr) (tn : Nat → Heap → Prop) (J : It) (H' : Hp), itv = .ref it ∧ Inv X pins σ H' s2 ∧ Turn X.prog X.w X.K tg J fp it tn ∧ tn 0 s2.heap ∧ (∀ b ∈ fp, FpOk X pins H' b) ∧ R J H'
def PI (X : Cx) (tg iter : Expr) (wi : TI) : Prop :=
  ∀ (pins : List (Addr × Obj)) (s : Shared) (σ : St) (H : Hp) (R : It → Hp → Prop), Inv X pins σ H s → wi σ H R →
    wpAny (model X.prog X.w) X.A (eval iter X.env) (fun v s1 => wpAny (model X.prog X.w) X.A (pyIter v) (PIE X pins σ tg R) X.xe s1) X.xe s
theorem go_of {M : Model} {A : Around} {E : Value → Shared → Prop} {s : Shared} {tg : Expr} {it : Addr} {u : Value} {o : Obj} {n : String} {vs : Array Value} {Q : Unit → Shared → Prop} (ho : s.heap.get? it = some o) (hc : o.cls = .type n) (hd : o.data = .fields vs)
    (hn : ["enumerate", "zip", "dict_itemiterator", "dict_reverseitemiterator", "odict_iterator", "itertools.zip_longest", "itertools.pairwise"].contains n = false) (hQ : Q () s) : wpAny M A (letOwnedTupleGo tg (.ref it) u) Q E s := by
  unfold letOwnedTupleGo
  cases tg <;> first
    | exact wpAny_pure hQ
    | (cases u <;> first
        | exact wpAny_pure hQ
        | (refine wpAny_bind (wpAny_load ho ?_)
           rw [hc, hd]
           show wpAny M A (if (["enumerate", "zip", "dict_itemiterator", "dict_reverseitemiterator", "odict_iterator", "itertools.zip_longest", "itertools.pairwise"].contains n && vs[0]? == some (rawInt _)) = true then _ else _) Q E s
           rw [if_neg (by intro h; rw [hn, Bool.false_and] at h; cases h)]
           exact wpAny_pure hQ))
def Itl (K : PySem.W.Frag) (a : Addr) : It :=
  ⟨fun i H => ∃ xs x, SqL K H a xs ∧ xs[i]? = some x, fun i H x H' => H' = H ∧ ∀ xs, SqL K H a xs → xs[i]? = some x, fun i H => ∃ xs, SqL K H a xs ∧ xs.length ≤ i⟩
def Itt (K : PySem.W.Frag) (a : Addr) : It :=
  ⟨fun i H => ∃ xs x, SqT K H a xs ∧ xs[i]? = some x, fun i H x H' => H' = H ∧ ∀ xs, SqT K H a xs → xs[i]? = some x, fun i H => ∃ xs, SqT K H a xs ∧ xs.length ≤ i⟩
def Itr (lo : Int) (n : Nat) : It := ⟨fun i _ => i < n, fun i H x H' => H' = H ∧ x = .int (lo + i), fun i _ => n ≤ i⟩
theorem turn_list {P : Program} {w : World} {K : PySem.W.Frag} {tg : Expr} (a it : Addr) : Turn P w K tg (Itl K a) [it] it (fun i h => h.IsListIter it a i) where
  mem := by simp
  obj := fun i h st b hb => by
    have e : b = it := by simpa using hb
    subst e
    obtain ⟨o, e, c, d⟩ := st
    exact ⟨o, e, fun v z => by rw [d] at z; cases z⟩
  keep := fun i h h' st k => st.at fun o e => k it (by simp) o e
  item := by
    intro X hP hw hK hc i pins s σ H E I hf st hg
    subst hP hw hK
    obtain ⟨xs, x, hq, hx⟩ := hg
    obtain ⟨its, rv, p, hz⟩ := I.list hq
    obtain ⟨u, hu, ru⟩ := rv.get hx
    obtain ⟨f0, f1, f2, f3, f4, f5⟩ := hf it (by simp)
    refine wpAny_pyNext_list_item st p.isList (x := u) (by simpa using hu) fun h' st' sb => ?_
    have I1 : Inv X pins σ H { s with heap := h' } := I.turned (t' := s.toks) (fun b o hb e => (sb.2 b hb).trans e) f0 f1 f3 f4 f5
    obtain ⟨o, e, c, d⟩ := id st'
    exact ⟨u, rfl, go_of (s := { s with heap := h' }) e c d (by decide) ⟨x, H, I1, ru, ⟨rfl, fun ys hy => by rw [I.list_inj hy hq]; exact hx⟩, st', fun b hb => (hf b hb).1⟩⟩
  done := by
    intro X hP hw hK hc i pins s σ H E I hf st hg
    subst hP hw hK
    obtain ⟨xs, hq, hx⟩ := hg
    obtain ⟨its, rv, p, hz⟩ := I.list hq
    obtain ⟨f0, f1, f2, f3, f4, f5⟩ := hf it (by simp)
    have hl := rv.length
    exact wpAny_pyNext_list_end (I.ok.hd hc) st p.isList (by simp; omega) fun h' eb => ⟨rfl, I.turned (t' := s.toks) (fun b o hb e => eb b o hb e) f0 f1 f3 f4 f5⟩
  self := fun _ _ _ _ _ st h => wpAny_pyIter_listiter st h
theorem turn_range {P : Program} {w : World} {K : PySem.W.Frag} {tg : Expr} (it : Addr) (lo : Int) (n : Nat) : Turn P w K tg (Itr lo n) [it] it (fun i h => IsRangeIter h it (lo + (i : Nat) * 1) ((n : Int) - (i : Nat)) 1) where
  mem := by simp
  obj := fun i h st b hb => by
    have e : b = it := by simpa using hb
    subst e
    exact ⟨_, st, fun v z => by
      have z' : Data.fields _ = Data.cell v := z
      cases z'⟩
  keep := fun i h h' st k => k it (by simp) _ st
  item := by
    intro X hP hw hK hc i pins s σ H E I hf st hg
    subst hP hw hK
    obtain ⟨f0, f1, f2, f3, f4, f5⟩ := hf it (by simp)
    have W := Walks.range (prog := X.prog) (w := X.w) (I.ok.hd hc) it lo 1 n
    refine W.item i s _ _ hg st fun v h' tk hv st' kk => ?_
    obtain ⟨t, rfl⟩ := hv
    have I1 : Inv X pins σ H { s with heap := h', toks := tk } := I.turned (fun b o hb e => kk b o (by simpa using hb) e) f0 f1 f3 f4 f5
    refine ⟨_, rfl, go_of (s := { s with heap := h', toks := tk }) (n := "range_iterator") st' rfl rfl (by decide) ⟨.int (lo + i), H, I1, ⟨t, ?_⟩, ⟨rfl, rfl⟩, st', fun b hb => (hf b hb).1⟩⟩
    rw [Int.mul_one]
  done := by
    intro X hP hw hK hc i pins s σ H E I hf st hg
    subst hP hw hK
    obtain ⟨f0, f1, f2, f3, f4, f5⟩ := hf it (by simp)
    exact wpAny_pyNext_range_end (I.ok.hd hc) st (by have : n ≤ i := hg; omega) fun h' eb => ⟨rfl, I.turned (t' := s.toks) (fun b o hb e => eb b o hb e) f0 f1 f3 f4 f5⟩
  self := fun _ _ _ _ _ st h => wpAny_pyIter_rangeiter st h
end L2
namespace L2
open PySem PySem.Spec PyProof.Rows
section
variable {X : Cx} {tg : Expr}
def iList (K : PySem.W.Frag) (tl : TE) : TI := fun σ H R => tl σ H fun x H1 => ∃ a, x = .ref a ∧ (∃ xs, SqL K H1 a xs) ∧ R (Itl K a) H1
def iTup (K : PySem.W.Frag) (tl : TE) : TI := fun σ H R => tl σ H fun x H1 => ∃ a, x = .ref a ∧ (∃ xs, SqT K H1 a xs) ∧ R (Itt K a) H1
theorem pi_list {l : Expr} {tl : TE} (hl : PE X l tl) : PI X tg l (iList X.K tl) := by
  intro pins s σ H R I h
  refine thn (hl pins s σ H _ I h) fun v s1 ⟨x, H1, I1, r1, q1⟩ => ?_
  obtain ⟨a, e, ⟨xs, hq⟩, q⟩ := q1
  subst e
  cases r1
  obtain ⟨its, rv, p, hz⟩ := I1.list hq
  refine wpAny_pyIter_list p.isList ?_
  refine ⟨s1.heap.objs.size, [s1.heap.objs.size], _, _, H1, rfl, I1.kept (t' := s1.toks) fun b o e => Heap.get?_push_of_some _ e, turn_list a _, ⟨_, Heap.get?_push_size _ rfl, rfl, rfl⟩, fun b hb => ?_, q⟩
  have e : b = s1.heap.objs.size := by simpa using hb
  subst e
  exact I1.fpOk (Nat.le_refl _) (I1.hok.fresh (Nat.le_refl _))
theorem range_it {pins : List (Addr × Obj)} {σ : St} {H : Hp} {s : Shared} {R : It → Hp → Prop} {E : Value → Shared → Prop} {lo hi : Int} {t u v : Tok} {tk : Nat} (I : Inv X pins σ H s) (h1 : -(2 ^ 62) ≤ lo) (h2 : lo < 2 ^ 62) (h3 : -(2 ^ 62) ≤ hi) (h4 : hi < 2 ^ 62)
    (q : R (Itr lo (hi - lo).toNat) H) : wpAny (model X.prog X.w) X.A (pyIter (.ref s.heap.objs.size)) (PIE X pins σ tg R) E { s with heap := s.heap.push { cls := .type "range", data := .fields #[.int lo t, .int hi u, .int 1 v] }, toks := tk } := by
  refine wpAny_pyIter_range (IsRange.new ..) (small_one h1 h2 h3 h4) ?_
  have I1 : Inv X pins σ H { s with heap := s.heap.push { cls := .type "range", data := .fields #[.int lo t, .int hi u, .int 1 v] }, toks := tk } := I.kept fun b o e => Heap.get?_push_of_some _ e
  refine ⟨(s.heap.push { cls := .type "range", data := .fields #[.int lo t, .int hi u, .int 1 v] }).objs.size, [(s.heap.push { cls := .type "range", data := .fields #[.int lo t, .int hi u, .int 1 v] }).objs.size], _, _, H, rfl,
    I1.kept (t' := tk) fun b o e => Heap.get?_push_of_some _ e, turn_range _ lo (hi - lo).toNat, ?_, fun b hb => ?_, q⟩
  · have e1 : lo + ((0 : Nat) : Int) * 1 = lo := by simp
    have e2 : (((hi - lo).toNat : Nat) : Int) - ((0 : Nat) : Int) = Builtin.Range.rangeSize lo hi 1 := by rw [rangeSize_one]; split <;> omega
    show IsRangeIter _ _ (lo + ((0 : Nat) : Int) * 1) ((((hi - lo).toNat : Nat) : Int) - ((0 : Nat) : Int)) 1
    rw [e1, e2]
    exact Heap.get?_push_size _ rfl
  · have e : b = (s.heap.push { cls := .type "range", data := .fields #[.int lo t, .int hi u, .int 1 v] }).objs.size := by simpa using hb
    subst e
    exact I1.fpOk (Nat.le_refl _) (I1.hok.fresh (Nat.le_refl _))
def iRng1 (ta : TA) : TI := fun σ H R => ta σ H fun vs H1 => ∃ j : Int, vs = [.int j] ∧ -(2 ^ 62) ≤ j ∧ j < 2 ^ 62 ∧ R (Itr 0 j.toNat) H1
def iRng2 (ta : TA) : TI := fun σ H R => ta σ H fun vs H1 => ∃ i j : Int, vs = [.int i, .int j] ∧ (-(2 ^ 62) ≤ i ∧ i < 2 ^ 62 ∧ -(2 ^ 62) ≤ j ∧ j < 2 ^ 62) ∧ R (Itr i (j - i).toNat) H1
theorem pi_range1 {a : Expr} {ta : TA} {p pos : Pos} (hg : Gl X "range") (hm : X.mg "range" = none) (ha : PA X [a] ta) (hs : starEach [a] X.env = [(false, eval a X.env)] := by rfl) : PI X tg (.Call (.Name "range" p) [a] [] pos) (iRng1 ta) := by
  intro pins s σ H R I h
  refine Call_ (ld_blt I hg hm boot_range (PyProof.Rows.callWith_type1 (thn (ha pos pins s σ H _ I h) fun us s1 ⟨vs, H1, I1, r1, q1⟩ => ?_) hs rfl))
  obtain ⟨j, e, q1, q2, q⟩ := q1
  subst e
  cases r1 with
  | cons r rr =>
    cases rr
    obtain ⟨t, rfl⟩ := r
    exact call_range_1 (range_it I1 (by omega) (by omega) q1 q2 (by simpa using q))
def tFor (wi : TI) (g : TG) (tb : TS) : TS := fun D σ H => wi σ H fun J H1 => ∃ W : Nat → Nat → St → Hp → Prop, (∃ m, W 0 m σ H1) ∧ ∀ i m σ H, W i m σ H →
  (J.stop i H ∧ D.nx σ H) ∨ (J.go i H ∧ ∃ N : St → Hp → Prop, (∀ σ' H', N σ' H' → ∃ m', m' < m ∧ W (i + 1) m' σ' H') ∧ ∀ x H', J.yld i H x H' → g x σ H' fun σ2 H2 => tb { D with nx := N, ct := N, bk := D.nx } σ2 H2)
def pinsAt (fp : List Addr) (h : Heap) : List (Addr × Obj) := fp.filterMap fun b => (h.get? b).map fun o => (b, o)
theorem mem_pinsAt {fp : List Addr} {h : Heap} {b : Addr} {o : Obj} (hb : b ∈ fp) (e : h.get? b = some o) : (b, o) ∈ pinsAt fp h := List.mem_filterMap.mpr ⟨b, hb, by rw [e]; rfl⟩
theorem of_pinsAt {fp : List Addr} {h : Heap} {p : Addr × Obj} (hp : p ∈ pinsAt fp h) : p.1 ∈ fp ∧ h.get? p.1 = some p.2 := by
  obtain ⟨b, hb, e⟩ := List.mem_filterMap.mp hp
  cases q : h.get? b with
  | none => rw [q] at e; cases e
  | some o =>
    rw [q] at e
    have e' : (b, o) = p := Option.some.inj e
    subst e'
    exact ⟨hb, q⟩
theorem Inv.pinned {pins : List (Addr × Obj)} {σ : St} {H : Hp} {s : Shared} {fp : List Addr} (I : Inv X pins σ H s) (hf : ∀ b ∈ fp, FpOk X pins H b) (ho : ∀ b ∈ fp, ∃ o, s.heap.get? b = some o ∧ ∀ v, o.data ≠ .cell v) : Inv X (pins ++ pinsAt fp s.heap) σ H s :=
  I.pins_of fun p hp => (List.mem_append.mp hp).elim (fun z => I.pin p (List.mem_append_right _ z)) fun z => by
    obtain ⟨hb, e⟩ := of_pinsAt z
    obtain ⟨f0, f1, f2, _⟩ := hf p.1 hb
    obtain ⟨o, e', d⟩ := ho p.1 hb
    rw [e] at e'; cases e'
    exact ⟨e, f0, f1, f2, d⟩
theorem Inv.unpinned {pins pl : List (Addr × Obj)} {σ : St} {H : Hp} {s : Shared} (I : Inv X (pins ++ pl) σ H s) : Inv X pins σ H s := I.pins_of fun p hp => I.pin p (List.mem_append_right _ (List.mem_append_left _ hp))
theorem ps_for {iter : Expr} {body : List Stmt} {wi : TI} {g : TG} {tb : TS} {pos : Pos} (hp : PassesOwn (model X.prog X.w) X.A X.env X.xe) (hc : X.calm = true) (hi : PI X tg iter wi) (hg : PG X tg g) (hb : PSs X body tb)
    (hs : ∀ x, foldedSetIterable iter X.env x = pure x := by intro _; rfl) : PS X (.For tg iter body [] pos) (tFor wi g tb) := by
  intro pins s σ H D I h
  refine wpAny_For (thn (hi pins s σ H _ I h) fun v s1 h1 => thn h1 fun itv s2 h2 => ?_) hs
  obtain ⟨it, fp, tn, J, H2, e, I2, T, st2, f2, W, ⟨m0, w0⟩, turn⟩ := h2
  subst e
  -- what stays true of the iterator's objects through the loop
  have stat : ∀ {H' : Hp}, (∀ b ∈ fp, H' b = none) → ∀ b ∈ fp, FpOk X pins H' b := fun hn b hb => ⟨hn b hb, (f2 b hb).2⟩
  refine codeAny_forLoop_any (fun n s' => ∃ i σ' H', Inv X pins σ' H' s' ∧ tn i s'.heap ∧ (∀ b ∈ fp, H' b = none) ∧ W i n σ' H') ?_ m0 ⟨0, σ, H2, I2, st2, fun b hb => (f2 b hb).1, w0⟩
  rintro n s3 ⟨i, σ3, H3, I3, st3, fr3, w3⟩
  rcases turn i n σ3 H3 w3 with ⟨stop, qn⟩ | ⟨go, N, hN, step⟩
  · refine wpAny_passesOwn hp (thn (T.done X rfl rfl rfl hc i pins s3 σ3 H3 X.xe I3 (stat fr3) st3 stop) fun r s4 ⟨hr, I4⟩ => ?_)
    subst hr
    exact wpAny_execs_nil ⟨σ3, H3, I4, qn⟩
  · refine wpAny_passesOwn hp (thn (T.item X rfl rfl rfl hc i pins s3 σ3 H3 X.xe I3 (stat fr3) st3 go) fun r s4 ⟨u, hr, h4⟩ => ?_)
    subst hr
    refine wpAny_passesOwn hp (thn h4 fun _ s5 ⟨x, H5, I5, r5, y5, st5, fr5⟩ => ?_)
    have I5' := I5.pinned (stat fr5) (T.obj _ _ st5)
    refine wpAny_passesOwn hp (thn (hg _ s5 σ3 H5 x u _ I5' r5 (step x H5 y5)) fun _ s6 ⟨σ6, H6, I6, q6⟩ => ?_)
    refine wpAny_passesOwn hp (thn (hb _ s6 σ6 H6 _ I6 q6) fun f s7 q7 => ?_)
    have again : ∀ {σ7 : St} {H7 : Hp}, Inv X (pins ++ pinsAt fp s5.heap) σ7 H7 s7 → N σ7 H7 → ∃ m, m < n ∧ ∃ i σ' H', Inv X pins σ' H' s7 ∧ tn i s7.heap ∧ (∀ b ∈ fp, H' b = none) ∧ W i m σ' H' := fun {σ7 H7} I7 n7 => by
      obtain ⟨m', hm, w7⟩ := hN σ7 H7 n7
      refine ⟨m', hm, i + 1, σ7, H7, I7.unpinned, T.keep _ _ _ st5 fun b hb o e => (I7.pin (b, o) (List.mem_append_right _ (List.mem_append_right _ (mem_pinsAt hb e)))).1, fun b hb => ?_, w7⟩
      obtain ⟨o, e, d⟩ := T.obj _ _ st5 b hb
      exact (I7.pin (b, o) (List.mem_append_right _ (List.mem_append_right _ (mem_pinsAt hb e)))).2.1
    cases f with
    | next => obtain ⟨σ7, H7, I7, n7⟩ := q7; exact again I7 n7
    | cont => obtain ⟨σ7, H7, I7, n7⟩ := q7; exact again I7 n7
    | brk => obtain ⟨σ7, H7, I7, q7⟩ := q7; exact ⟨σ7, H7, I7.unpinned, q7⟩
    | ret v => obtain ⟨x7, σ7, H7, I7, r7, q7⟩ := q7; exact ⟨x7, σ7, H7, I7.unpinned, r7, q7⟩
end
theorem for_list {K : PySem.W.Frag} {a : Addr} {xs : List V} {g : TG} {tb : TS} {D : Ends} {σ : St} {H : Hp} (Pv : Nat → St → Hp → Prop) (h0 : Pv 0 σ H) (hl : ∀ i σ H, i ≤ xs.length → Pv i σ H → SqL K H a xs)
    (hs : ∀ i x σ H, xs[i]? = some x → Pv i σ H → g x σ H fun σ2 H2 => tb { D with nx := Pv (i + 1), ct := Pv (i + 1), bk := D.nx } σ2 H2) (hd : ∀ σ H, Pv xs.length σ H → D.nx σ H) :
    ∃ W : Nat → Nat → St → Hp → Prop, (∃ m, W 0 m σ H) ∧ ∀ i m σ H, W i m σ H →
      ((Itl K a).stop i H ∧ D.nx σ H) ∨ ((Itl K a).go i H ∧ ∃ N : St → Hp → Prop, (∀ σ' H', N σ' H' → ∃ m', m' < m ∧ W (i + 1) m' σ' H') ∧ ∀ x H', (Itl K a).yld i H x H' → g x σ H' fun σ2 H2 => tb { D with nx := N, ct := N, bk := D.nx } σ2 H2) := by
  refine ⟨fun i m σ H => m = xs.length - i ∧ i ≤ xs.length ∧ Pv i σ H, ⟨xs.length, by simp, Nat.zero_le _, h0⟩, ?_⟩
  rintro i m σ H ⟨rfl, hi, p⟩
  have q := hl i σ H hi p
  by_cases hlt : i < xs.length
  · refine .inr ⟨⟨xs, xs[i], q, by simp [hlt]⟩, Pv (i + 1), fun σ' H' p' => ⟨xs.length - (i + 1), by omega, rfl, hlt, p'⟩, fun x H' y => ?_⟩
    obtain ⟨e, y⟩ := y
    subst e
    exact hs i x σ _ (y xs q) p
  · have e : i = xs.length := by omega
    subst e
    exact .inl ⟨⟨xs, q, Nat.le_refl _⟩, hd σ H p⟩
theorem for_range {lo : Int} {n : Nat} {g : TG} {tb : TS} {D : Ends} {σ : St} {H : Hp} (Pv : Nat → St → Hp → Prop) (h0 : Pv 0 σ H)
    (hs : ∀ i σ H, i < n → Pv i σ H → g (.int (lo + i)) σ H fun σ2 H2 => tb { D with nx := Pv (i + 1), ct := Pv (i + 1), bk := D.nx } σ2 H2) (hd : ∀ σ H, Pv n σ H → D.nx σ H) :
    ∃ W : Nat → Nat → St → Hp → Prop, (∃ m, W 0 m σ H) ∧ ∀ i m σ H, W i m σ H →
      ((Itr lo n).stop i H ∧ D.nx σ H) ∨ ((Itr lo n).go i H ∧ ∃ N : St → Hp → Prop, (∀ σ' H', N σ' H' → ∃ m', m' < m ∧ W (i + 1) m' σ' H') ∧ ∀ x H', (Itr lo n).yld i H x H' → g x σ H' fun σ2 H2 => tb { D with nx := N, ct := N, bk := D.nx } σ2 H2) := by
  refine ⟨fun i m σ H => m = n - i ∧ i ≤ n ∧ Pv i σ H, ⟨n, by simp, Nat.zero_le _, h0⟩, ?_⟩
  rintro i m σ H ⟨rfl, hi, p⟩
  by_cases hlt : i < n
  · refine .inr ⟨hlt, Pv (i + 1), fun σ' H' p' => ⟨n - (i + 1), by omega, rfl, hlt, p'⟩, fun x H' y => ?_⟩
    obtain ⟨e, y⟩ := y
    subst e y
    exact hs i σ _ hlt p
  · have e : i = n := by omega
    subst e
    exact .inl ⟨Nat.le_refl _, hd σ H p⟩
end L2
namespace L2
open PySem PySem.Spec PyProof.Rows
abbrev R2 := V → V → Hp → VK → Prop
def OpR (X : Cx) (f : Value → Value → Sem Value) (r : R2) : Prop :=
  ∀ (pins : List (Addr × Obj)) (s : Shared) (σ : St) (H : Hp) (x y : V) (v u : Value) (Q : VK), Inv X pins σ H s → RelV x v → RelV y u → r x y H Q →
    wpAny (model X.prog X.w) X.A (f v u) (EP X pins σ Q) X.xe s
def UnR (X : Cx) (f : Value → Sem Value) (r : V → Hp → VK → Prop) : Prop :=
  ∀ (pins : List (Addr × Obj)) (s : Shared) (σ : St) (H : Hp) (x : V) (v : Value) (Q : VK), Inv X pins σ H s → RelV x v → r x H Q →
    wpAny (model X.prog X.w) X.A (f v) (EP X pins σ Q) X.xe s
def CallR (X : Cx) (f : Value) (r : List V → Hp → VK → Prop) : Prop :=
  ∀ (pins : List (Addr × Obj)) (s : Shared) (σ : St) (H : Hp) (xs : List V) (us : List Value) (Q : VK), Inv X pins σ H s → Vals xs us → r xs H Q →
    wpAny (model X.prog X.w) X.A (call f us) (EP X pins σ Q) X.xe s
def TruR (X : Cx) (r : V → Hp → (Bool → Hp → Prop) → Prop) : Prop :=
  ∀ (pins : List (Addr × Obj)) (s : Shared) (σ : St) (H : Hp) (x : V) (v : Value) (Q : Bool → Hp → Prop), Inv X pins σ H s → RelV x v → r x H Q →
    wpAny (model X.prog X.w) X.A (truthy v) (TP X pins σ Q) X.xe s
def tOp (r : R2) (ta tb : TE) : TE := fun σ H Q => ta σ H fun x H1 => tb σ H1 fun y H2 => r x y H2 Q
def tUn (r : V → Hp → VK → Prop) (ta : TE) : TE := fun σ H Q => ta σ H fun x H1 => r x H1 Q
def rI (C : Int → Int → Prop) (g : Int → Int → V) : R2 := fun x y H Q => ∃ i j, x = .int i ∧ y = .int j ∧ C i j ∧ Q (g i j) H
def rI0 (g : Int → Int → V) : R2 := fun x y H Q => ∃ i j, x = .int i ∧ y = .int j ∧ Q (g i j) H
def rU (g : Int → V) : V → Hp → VK → Prop := fun x H Q => ∃ i, x = .int i ∧ Q (g i) H
section
variable {X : Cx} {a b c : Expr} {ta tb tc : TE} {pos : Pos}
theorem binT (ha : PE X a ta) (hb : PE X b tb) {pins : List (Addr × Obj)} {s : Shared} {σ : St} {H : Hp} {R : V → V → Hp → Prop} (I : Inv X pins σ H s)
    (h : ta σ H fun x H1 => tb σ H1 fun y H2 => R x y H2) {Q : Value → Shared → Prop} {f : Value → Value → Sem Value}
    (hf : ∀ v u s2 x y H2, Inv X pins σ H2 s2 → RelV x v → RelV y u → R x y H2 → wpAny (model X.prog X.w) X.A (f v u) Q X.xe s2) :
    wpAny (model X.prog X.w) X.A (eval a X.env) (fun v s₁ => wpAny (model X.prog X.w) X.A (eval b X.env) (fun u s₂ => wpAny (model X.prog X.w) X.A (f v u) Q X.xe s₂) X.xe s₁) X.xe s := by
  refine thn (ha pins s σ H _ I h) fun v s1 ⟨x, H1, I1, r1, q1⟩ => ?_
  refine thn (hb pins s1 σ H1 _ I1 q1) fun u s2 ⟨y, H2, I2, r2, q2⟩ => ?_
  exact hf v u s2 x y H2 I2 r1 r2 q2
theorem pe_op {op : Operator} {r : R2} (ho : OpR X (binaryOp op) r) (ha : PE X a ta) (hb : PE X b tb) : PE X (.BinOp a op b pos) (tOp r ta tb) := by
  intro pins s σ H Q I h
  exact wpAny_BinOp (binT ha hb I h fun v u s2 x y H2 I2 rx ry q => ho pins s2 σ H2 x y v u Q I2 rx ry q)
theorem pe_un {op : UnaryOp} {r : V → Hp → VK → Prop} (ho : UnR X (unaryOp op) r) (ha : PE X a ta) : PE X (.UnaryOp op a pos) (tUn r ta) := by
  intro pins s σ H Q I h
  exact UnaryOp_ (thn (ha pins s σ H _ I h) fun v s1 ⟨x, H1, I1, r1, q1⟩ => ho pins s1 σ H1 x v Q I1 r1 q1)
theorem opI {f : Value → Value → Sem Value} {C : Int → Int → Prop} {g : Int → Int → Int}
    (rule : ∀ (i j : Int) (t u : Tok) (s : Shared) (Q : Value → Shared → Prop) (E : Value → Shared → Prop), C i j → Q (.int (g i j) s.toks) { s with toks := s.toks + 1 } → wpAny (model X.prog X.w) X.A (f (.int i t) (.int j u)) Q E s) :
    OpR X f (rI C fun i j => .int (g i j)) := by
  intro pins s σ H x y v u Q I rx ry h
  obtain ⟨i, j, rfl, rfl, hc, q⟩ := h
  obtain ⟨t, rfl⟩ := rx
  obtain ⟨t', rfl⟩ := ry
  exact rule i j t t' s _ _ hc ⟨.int (g i j), H, I.tok _, ⟨_, rfl⟩, q⟩
theorem opI0 {f : Value → Value → Sem Value} {g : Int → Int → Int}
    (rule : ∀ (i j : Int) (t u : Tok) (s : Shared) (Q : Value → Shared → Prop) (E : Value → Shared → Prop), Q (.int (g i j) s.toks) { s with toks := s.toks + 1 } → wpAny (model X.prog X.w) X.A (f (.int i t) (.int j u)) Q E s) :
    OpR X f (rI0 fun i j => .int (g i j)) := by
  intro pins s σ H x y v u Q I rx ry h
  obtain ⟨i, j, rfl, rfl, q⟩ := h
  obtain ⟨t, rfl⟩ := rx
  obtain ⟨t', rfl⟩ := ry
  exact rule i j t t' s _ _ ⟨.int (g i j), H, I.tok _, ⟨_, rfl⟩, q⟩
theorem opB0 {f : Value → Value → Sem Value} {g : Int → Int → Bool}
    (rule : ∀ (i j : Int) (t u : Tok) (s : Shared) (Q : Value → Shared → Prop) (E : Value → Shared → Prop), Q (.bool (g i j)) s → wpAny (model X.prog X.w) X.A (f (.int i t) (.int j u)) Q E s) :
    OpR X f (rI0 fun i j => .bl (g i j)) := by
  intro pins s σ H x y v u Q I rx ry h
  obtain ⟨i, j, rfl, rfl, q⟩ := h
  obtain ⟨t, rfl⟩ := rx
  obtain ⟨t', rfl⟩ := ry
  exact rule i j t t' s _ _ ⟨.bl (g i j), H, I, rfl, q⟩
def CDiv (i j : Int) : Prop := 0 < j ∧ j < 1073741824
def CDivN (i j : Int) : Prop := j ≠ 0 ∧ j.natAbs < 1073741824
def CPow (i j : Int) : Prop := 0 ≤ j ∧ j ≤ 1000000 ∧ i.natAbs < 2 ^ 64
def CMul (i j : Int) : Prop := (-(2 ^ 64) < i ∧ i < 2 ^ 64) ∨ (-(2 ^ 64) < j ∧ j < 2 ^ 64)
theorem CMul.ok {i j : Int} (h : CMul i j) : IntMulOk i j := by
  rcases h with ⟨h1, h2⟩ | ⟨h1, h2⟩
  · exact .of_left (intBits_le_64 h1 h2)
  · exact .of_right (intBits_le_64 h1 h2)
theorem op_add : OpR X (binaryOp .Add) (rI0 fun i j => .int (i + j)) := opI0 fun _ _ _ _ _ _ _ q => add_int q
theorem op_sub : OpR X (binaryOp .Sub) (rI0 fun i j => .int (i - j)) := opI0 fun _ _ _ _ _ _ _ q => sub_int q
theorem op_mul : OpR X (binaryOp .Mult) (rI CMul fun i j => .int (i * j)) := opI fun _ _ _ _ _ _ _ hc q => mul_int q hc.ok
theorem op_fdiv : OpR X (binaryOp .FloorDiv) (rI CDiv fun i j => .int (i / j)) := opI fun i j _ _ _ _ _ hc q => by
  have h1 : (0 : Int) < j := hc.1
  have h2 : j < 1073741824 := hc.2
  exact floordiv_int (by omega) (by rw [Int.fdiv_eq_ediv_of_nonneg i (by omega)]; exact q) (.inl (PyProof.noPylong_small (by omega)))
theorem op_mod : OpR X (binaryOp .Mod) (rI (fun _ j => 0 < j) fun i j => .int (i % j)) := opI fun i j _ _ _ _ _ hc q => by
  have h1 : (0 : Int) < j := hc
  exact mod_int' (by omega) (by rw [Int.fmod_eq_emod_of_nonneg i (by omega)]; exact q)
theorem op_pow : OpR X (binaryOp .Pow) (rI CPow fun i j => .int (i ^ j.toNat)) := opI fun _ _ _ _ _ _ _ hc q => pow_int_small hc.1 hc.2.1 hc.2.2 q
theorem unI {f : Value → Sem Value} {g : Int → Int}
    (rule : ∀ (i : Int) (t : Tok) (s : Shared) (Q : Value → Shared → Prop) (E : Value → Shared → Prop), Q (.int (g i) s.toks) { s with toks := s.toks + 1 } → wpAny (model X.prog X.w) X.A (f (.int i t)) Q E s) :
    UnR X f (rU fun i => .int (g i)) := by
  intro pins s σ H x v Q I rx h
  obtain ⟨i, rfl, q⟩ := h
  obtain ⟨t, rfl⟩ := rx
  exact rule i t s _ _ ⟨.int (g i), H, I.tok _, ⟨_, rfl⟩, q⟩
theorem un_neg : UnR X (unaryOp .USub) (rU fun i => .int (-i)) := unI fun _ _ _ _ _ q => neg_int q
end
def scal : V → V → Bool
  | .non, .non => true | .non, .int _ => true | .int _, .non => true | .non, .bl _ => true | .bl _, .non => true | .non, .str _ => true | .str _, .non => true
  | .int _, .int _ => true | .bl _, .bl _ => true | .str _, .str _ => true | .byt _, .byt _ => true
  | .int _, .str _ => true | .str _, .int _ => true | .bl _, .str _ => true | .str _, .bl _ => true
  | _, _ => false
def rEq : R2 := fun x y H Q => scal x y = true ∧ Q (.bl (decide (x = y))) H
def rNe : R2 := fun x y H Q => scal x y = true ∧ Q (.bl (!decide (x = y))) H
theorem dec_int {i j : Int} : decide (V.int i = V.int j) = (i == j) := by
  rw [Bool.eq_iff_iff]
  simp
theorem dec_bl {i j : Bool} : decide (V.bl i = V.bl j) = (i == j) := by
  rw [Bool.eq_iff_iff]
  simp
theorem dec_str {i j : Str} : decide (V.str i = V.str j) = (i == j) := by
  rw [Bool.eq_iff_iff]
  simp
theorem dec_byt {i j : Array UInt8} : decide (V.byt i = V.byt j) = (i.toList == j.toList) := by
  rw [Bool.eq_iff_iff]
  cases i
  cases j
  simp
section
variable {X : Cx} {a b c : Expr} {ta tb tc : TE} {pos : Pos}
theorem fin_bl {pins : List (Addr × Obj)} {σ : St} {H : Hp} {s : Shared} {Q : VK} {k k' : Bool} (I : Inv X pins σ H s) (q : Q (.bl k) H) (e : k = k') : EP X pins σ Q (.bool k') s := by
  subst e
  exact ⟨.bl k, H, I, rfl, q⟩
theorem op_eq : OpR X (compareOp .Eq) rEq := by
  intro pins s σ H x y v u Q I rx ry h
  obtain ⟨hs, q⟩ := h
  cases x with
  | non =>
    cases rx
    cases y with
    | non => cases ry; exact PySem.EqNone.eq_none_none (fin_bl I q (by simp))
    | bl j => cases ry; exact PySem.EqNone.eq_none_bool (fin_bl I q (by simp))
    | int j => obtain ⟨t', rfl⟩ := ry; exact PySem.EqNone.eq_none_int (fin_bl I q (by simp))
    | str j => obtain ⟨t', rfl⟩ := ry; exact PySem.EqNone.eq_none_str (fin_bl I q (by simp))
    | _ => exact absurd (show false = true from hs) Bool.false_ne_true
  | bl i =>
    cases rx
    cases y with
    | non => cases ry; exact PySem.EqNone.eq_bool_none (fin_bl I q (by simp))
    | bl j => cases ry; exact eq_bool (fin_bl I q dec_bl)
    | str j => obtain ⟨t', rfl⟩ := ry; exact PySem.EqMixed.eq_bool_str (fin_bl I q (by simp))
    | _ => exact absurd (show false = true from hs) Bool.false_ne_true
  | int i =>
    obtain ⟨t, rfl⟩ := rx
    cases y with
    | non => cases ry; exact PySem.EqNone.eq_int_none (fin_bl I q (by simp))
    | int j => obtain ⟨t', rfl⟩ := ry; exact eq_int (fin_bl I q dec_int)
    | str j => obtain ⟨t', rfl⟩ := ry; exact PySem.EqMixed.eq_int_str (fin_bl I q (by simp))
    | _ => exact absurd (show false = true from hs) Bool.false_ne_true
  | str i =>
    obtain ⟨t, rfl⟩ := rx
    cases y with
    | non => cases ry; exact PySem.EqNone.eq_str_none (fin_bl I q (by simp))
    | bl j => cases ry; exact PySem.EqMixed.eq_str_bool (fin_bl I q (by simp))
    | int j => obtain ⟨t', rfl⟩ := ry; exact PySem.EqMixed.eq_str_int (fin_bl I q (by simp))
    | str j => obtain ⟨t', rfl⟩ := ry; exact eq_str (fin_bl I q dec_str)
    | _ => exact absurd (show false = true from hs) Bool.false_ne_true
  | byt i =>
    obtain ⟨t, rfl⟩ := rx
    cases y with
    | byt j => obtain ⟨t', rfl⟩ := ry; exact PySem.W.eq_bytes (fin_bl I q dec_byt)
    | _ => exact absurd (show false = true from hs) Bool.false_ne_true
  | _ => cases y <;> exact absurd (show false = true from hs) Bool.false_ne_true
theorem op_ne : OpR X (compareOp .NotEq) rNe := by
  intro pins s σ H x y v u Q I rx ry h
  obtain ⟨hs, q⟩ := h
  cases x with
  | non =>
    cases rx
    cases y with
    | non => cases ry; exact PySem.EqNone.ne_none_none (fin_bl I q (by simp))
    | bl j => cases ry; exact PySem.EqNone.ne_none_bool (fin_bl I q (by simp))
    | int j => obtain ⟨t', rfl⟩ := ry; exact PySem.EqNone.ne_none_int (fin_bl I q (by simp))
    | str j => obtain ⟨t', rfl⟩ := ry; exact PySem.EqNone.ne_none_str (fin_bl I q (by simp))
    | _ => exact absurd (show false = true from hs) Bool.false_ne_true
  | bl i =>
    cases rx
    cases y with
    | non => cases ry; exact PySem.EqNone.ne_bool_none (fin_bl I q (by simp))
    | bl j => cases ry; exact ne_bool (fin_bl I q (congrArg not dec_bl))
    | str j => obtain ⟨t', rfl⟩ := ry; exact PySem.EqMixed.ne_bool_str (fin_bl I q (by simp))
    | _ => exact absurd (show false = true from hs) Bool.false_ne_true
  | int i =>
    obtain ⟨t, rfl⟩ := rx
    cases y with
    | non => cases ry; exact PySem.EqNone.ne_int_none (fin_bl I q (by simp))
    | int j => obtain ⟨t', rfl⟩ := ry; exact ne_int (fin_bl I q (congrArg not dec_int))
    | str j => obtain ⟨t', rfl⟩ := ry; exact PySem.EqMixed.ne_int_str (fin_bl I q (by simp))
    | _ => exact absurd (show false = true from hs) Bool.false_ne_true
  | str i =>
    obtain ⟨t, rfl⟩ := rx
    cases y with
    | non => cases ry; exact PySem.EqNone.ne_str_none (fin_bl I q (by simp))
    | bl j => cases ry; exact PySem.EqMixed.ne_str_bool (fin_bl I q (by simp))
    | int j => obtain ⟨t', rfl⟩ := ry; exact PySem.EqMixed.ne_str_int (fin_bl I q (by simp))
    | str j => obtain ⟨t', rfl⟩ := ry; exact ne_str (fin_bl I q (congrArg not dec_str))
    | _ => exact absurd (show false = true from hs) Bool.false_ne_true
  | byt i =>
    obtain ⟨t, rfl⟩ := rx
    cases y with
    | byt j => obtain ⟨t', rfl⟩ := ry; exact PySem.W.ne_bytes (fin_bl I q (congrArg not dec_byt))
    | _ => exact absurd (show false = true from hs) Bool.false_ne_true
  | _ => cases y <;> exact absurd (show false = true from hs) Bool.false_ne_true
theorem op_lt : OpR X (compareOp .Lt) (rI0 fun i j => .bl (decide (i < j))) := opB0 fun _ _ _ _ _ _ _ q => lt_int q
theorem op_gt : OpR X (compareOp .Gt) (rI0 fun i j => .bl (decide (j < i))) := opB0 fun _ _ _ _ _ _ _ q => gt_int q
theorem op_isN : OpR X (compareOp .Is) (fun x y H Q => y = .non ∧ Q (.bl (decide (x = .non))) H) := by
  intro pins s σ H x y v u Q I rx ry h
  obtain ⟨rfl, q⟩ := h
  cases ry
  refine is_none_gen (fin_bl I q ?_)
  cases x <;> first
    | (cases rx; rfl)
    | (obtain ⟨t, rfl⟩ := rx; rfl)
def isObj : HO → Bool
  | .lst _ => true
  | .ins _ _ _ => true
  | _ => false
theorem OpR.or {f : Value → Value → Sem Value} {r r' : R2} (h : OpR X f r) (h' : OpR X f r') : OpR X f (fun x y H Q => r x y H Q ∨ r' x y H Q) := by
  intro pins s σ H x y v u Q I rx ry q
  rcases q with q | q
  · exact h pins s σ H x y v u Q I rx ry q
  · exact h' pins s σ H x y v u Q I rx ry q
theorem nomark (b : Expr) {op : CmpOp} (h : op ≠ .In := by decide) (h2 : op ≠ .NotIn := by decide) : behindInMarks op b = false := by
  have e1 : (op == CmpOp.In) = false := by cases op <;> first | rfl | exact absurd rfl h
  have e2 : (op == CmpOp.NotIn) = false := by cases op <;> first | rfl | exact absurd rfl h2
  cases b <;> simp [behindInMarks, e1, e2]
theorem pe_cmpR {op : CmpOp} {r : R2} (ho : OpR X (compareOp op) r) (ha : PE X a ta) (hb : PE X b tb) (hm : behindInMarks op b = false) : PE X (.Compare a [op] [b] pos) (tOp r ta tb) := by
  intro pins s σ H Q I h
  exact wpAny_Compare1 (binT ha hb I h fun v u s2 x y H2 I2 rx ry q => ho pins s2 σ H2 x y v u Q I2 rx ry q) hm
def tTest (t : TE) : TT := fun σ H Q => t σ H fun x H' => ∃ k, x = .bl k ∧ Q k H'
theorem pt_cmpR {op : CmpOp} {r : R2} (ho : OpR X (compareOp op) r) (ha : PE X a ta) (hb : PE X b tb) (hm : behindInMarks op b = false) : PT X (.Compare a [op] [b] pos) (tTest (tOp r ta tb)) := by
  intro pins s σ H Q I h
  refine wpAny_isTrue_Compare1 (thn (ha pins s σ H _ I h) fun v s1 ⟨x, H1, I1, r1, q1⟩ => thn (hb pins s1 σ H1 _ I1 q1) fun u s2 ⟨y, H2, I2, r2, q2⟩ =>
    thn (ho pins s2 σ H2 x y v u _ I2 r1 r2 q2) fun c s3 ⟨z, H3, I3, r3, k, e, q3⟩ => ?_) hm
  subst e
  cases r3
  exact wpAny_truthy_bool ⟨H3, I3, q3⟩
def tChain (r r' : R2) (ta tb tc : TE) : TE := fun σ H Q => ta σ H fun x H1 => tb σ H1 fun y H2 => r x y H2 fun z H3 => ∃ k, z = .bl k ∧
  (if k = true then tc σ H3 fun w' H4 => r' y w' H4 Q else Q (.bl false) H3)
def TruV (K : PySem.W.Frag) (x : V) (H : Hp) (k : Bool) : Prop :=
  match x with
  | .non => k = false
  | .bl b => k = b
  | .int i => k = (i != 0)
  | .str y => y.length ≤ sizeLine ∧ k = ((y.length : Int) != 0)
  | .byt y => y.size ≤ sizeLine ∧ k = ((y.size : Int) != 0)
  | .ref p => (∃ xs, SqL K H p xs ∧ k = !xs.isEmpty) ∨ (∃ xs, SqT K H p xs ∧ k = !xs.isEmpty) ∨ ∃ kvs, H p = some (.dK kvs) ∧ k = !kvs.isEmpty
  | _ => False
theorem isEmpty_kv {κ : Type} {kvs : List (κ × V)} {vs : List (κ × Value)} (r : KV kvs vs) : (!vs.isEmpty) = !kvs.isEmpty := by
  cases r <;> rfl
theorem isEmpty_of {xs : List V} {its : List Value} (r : Vals xs its) : (!its.toArray.isEmpty) = !xs.isEmpty := by
  cases r <;> simp
theorem line63 : (sizeLine : Nat) < 2 ^ 63 := by rw [sizeLine_eq]; decide
theorem tru_ok : TruR X (fun x H Q => ∃ k, TruV X.K x H k ∧ Q k H) := by
  intro pins s σ H x v Q I rx h
  obtain ⟨k, e, q⟩ := h
  have hl := line63
  have hs : sizeLine = 16777216 := sizeLine_eq
  cases x with
  | non =>
    cases rx
    have e' : k = false := e
    subst e'
    exact truthy_none ⟨H, I, q⟩
  | bl b =>
    cases rx
    have e' : k = b := e
    subst e'
    exact wpAny_truthy_bool ⟨H, I, q⟩
  | int i =>
    obtain ⟨t, rfl⟩ := rx
    have e' : k = (i != 0) := e
    subst e'
    exact PySem.P.truthy_int ⟨H, I, q⟩
  | str y =>
    obtain ⟨t, rfl⟩ := rx
    obtain ⟨hy, e'⟩ : y.length ≤ sizeLine ∧ k = ((y.length : Int) != 0) := e
    subst e'
    exact PySem.P.truthy_str (by omega) ⟨H, I.tok _, q⟩
  | byt y =>
    obtain ⟨t, rfl⟩ := rx
    obtain ⟨hy, e'⟩ : y.size ≤ sizeLine ∧ k = ((y.size : Int) != 0) := e
    subst e'
    exact PySem.W.truthy_bytes (by omega) ⟨H, I.tok _, q⟩
  | ref p =>
    cases rx
    have e' : (∃ xs, SqL X.K H p xs ∧ k = !xs.isEmpty) ∨ (∃ xs, SqT X.K H p xs ∧ k = !xs.isEmpty) ∨ ∃ kvs, H p = some (.dK kvs) ∧ k = !kvs.isEmpty := e
    rcases e' with ⟨xs, hx, e'⟩ | ⟨xs, hx, e'⟩ | ⟨kvs, hx, e'⟩
    · subst e'
      obtain ⟨its, r, pl, hz⟩ := I.list hx
      have hlen := r.length
      exact wpAny_truthy_list pl.isList (by simp only [List.size_toArray]; omega) ⟨H, I.tok _, by rw [isEmpty_of r]; exact q⟩
    · subst e'
      obtain ⟨its, r, pl, hz⟩ := I.tuple hx
      have hlen := r.length
      exact truthy_tuple pl (by simp only [List.size_toArray]; omega) ⟨H, I.tok _, by rw [isEmpty_of r]; exact q⟩
    · subst e'
      obtain ⟨hz, hS, vs, r, m⟩ : kvs.length ≤ sizeLine ∧ (p == sysModules) = false ∧ ∃ vs, KV kvs vs ∧ s.heap.DictOf (mixKind X.prog X.w) p vs := I.hok p _ hx
      have hlen : kvs.length = vs.length := Paired.length r
      exact wpAny_truthy_dict hS m (by omega) ⟨H, I.tok _, by rw [isEmpty_kv r]; exact q⟩
  | _ => exact (show False from e).elim
theorem pt_truth (ha : PE X a ta) (he : ∀ whole, isTrue a X.env whole = (do let v ← whole; standAt a.pos; holding [v] (truthy v))) :
    PT X a (fun σ H Q => ta σ H fun x H' => ∃ k, TruV X.K x H' k ∧ Q k H') := by
  intro pins s σ H Q I h
  exact isTrue_plain (thn (ha pins s σ H _ I h) fun v s1 ⟨x, H1, I1, r1, q1⟩ => tru_ok pins s1 σ H1 x v Q I1 r1 q1) (he _)
theorem op_add_str : OpR X (binaryOp .Add) (fun x y H Q => ∃ i j, x = .str i ∧ y = .str j ∧ i.length + j.length ≤ sizeLine ∧ Q (.str (i ++ j)) H) := by
  intro pins s σ H x y v u Q I rx ry h
  obtain ⟨i, j, rfl, rfl, hz, q⟩ := h
  obtain ⟨t, rfl⟩ := rx
  obtain ⟨t', rfl⟩ := ry
  exact add_str (fun t' tk => ⟨.str (i ++ j), H, I.tok _, ⟨_, rfl⟩, q⟩) hz
def PlainIxT (b : Expr) : Prop := ∀ o i, subscripted b false o i = operate [o, i] (getItem o i)
theorem vals1 {x : V} {us : List Value} (r : Vals [x] us) : ∃ u, us = [u] ∧ RelV x u := by
  cases r with
  | cons r1 r2 => cases r2; exact ⟨_, rfl, r1⟩
theorem vals2 {x y : V} {us : List Value} (r : Vals [x, y] us) : ∃ u w', us = [u, w'] ∧ RelV x u ∧ RelV y w' := by
  cases r with
  | cons r1 r2 =>
    cases r2 with
    | cons r3 r4 => cases r4; exact ⟨_, _, rfl, r1, r3⟩
theorem call_abs : CallR X (.builtin "abs") (fun xs H Q => ∃ i, xs = [.int i] ∧ Q (.int (if i < 0 then -i else i)) H) := by
  intro pins s σ H xs us Q I r h
  obtain ⟨i, rfl, q⟩ := h
  obtain ⟨u, rfl, t, rfl⟩ := vals1 r
  exact call_abs_int fun u tk => ⟨.int (if i < 0 then -i else i), H, I.tok _, ⟨_, rfl⟩, q⟩
theorem call_max2 (hc : X.calm = true) : CallR X (.builtin "max") (fun xs H Q => ∃ i j, xs = [.int i, .int j] ∧ Q (.int (if j > i then j else i)) H) := by
  intro pins s σ H xs us Q I r h
  obtain ⟨i, j, rfl, q⟩ := h
  obtain ⟨u, w', rfl, ⟨t, rfl⟩, ⟨t', rfl⟩⟩ := vals2 r
  refine max_two_ints (I.ok.hd hc) fun h' tk k => ⟨_, H, I.kept k, ?_, q⟩
  by_cases hj : j > i
  · rw [if_pos hj, if_pos hj]; exact ⟨_, rfl⟩
  · rw [if_neg hj, if_neg hj]; exact ⟨_, rfl⟩
theorem call_str_int : CallR X (.type "str") (fun xs H Q => ∃ i, xs = [.int i] ∧ i.natAbs.log2 < 1920 ∧ Q (.str (toString i)) H) := by
  intro pins s σ H xs us Q I r h
  obtain ⟨i, rfl, hz, q⟩ := h
  obtain ⟨u, rfl, t, rfl⟩ := vals1 r
  exact PySem.P.str_of_int hz ⟨.str _, H, I.tok _, ⟨_, rfl⟩, q⟩
def LenV (K : PySem.W.Frag) (x : V) (H : Hp) (n : Nat) : Prop :=
  match x with
  | .str y => y.length ≤ sizeLine ∧ n = y.length
  | .byt y => y.size ≤ sizeLine ∧ n = y.size
  | .ref p => (∃ xs, SqL K H p xs ∧ n = xs.length) ∨ ∃ xs, SqT K H p xs ∧ n = xs.length
  | _ => False
end
end L2
namespace L2
open PySem PySem.Spec PyProof.Rows
structure ObjM (h : Heap) (x dx C : Addr) (mA : Str → Option Value) : Prop where
  obj : h.get? x = some (PySem.W.instObj C dx)
  ns : h.Ns1 dx mA
  ne : dx ≠ x
theorem lookIn_ns {h : Heap} {dx : Addr} {mA : Str → Option Value} (n : h.Ns1 dx mA) : ∃ od, h.get? dx = some od ∧ ∀ name, PySem.W.lookIn name od = some (mA name) := by
  obtain ⟨o, es, ep, ho, hd, hk, _, hm⟩ := n
  refine ⟨o, ho, fun name => ?_⟩
  have e := hm name
  unfold nsFind findBy at e
  rw [← Array.find?_toList] at e
  unfold PySem.W.lookIn
  rw [hd]
  dsimp only
  split
  · rename_i y q
    rw [q] at e
    exact congrArg some e
  · rename_i q
    rw [q] at e
    have a : es.toList.any (·.refKey) = false := by
      rw [List.any_eq_false]
      intro y hy
      obtain ⟨z, t, hkey⟩ := hk y (Array.mem_toList_iff.mp hy)
      simp [DictEntry.refKey, hkey]
    have a' : ¬ es.toList.any (·.refKey) = true := by rw [a]; exact Bool.false_ne_true
    rw [if_neg a']
    exact congrArg some e
theorem ObjM.look {h : Heap} {x dx C : Addr} {mA : Str → Option Value} (I : ObjM h x dx C mA) : ∃ od, PySem.W.InstAt h x (PySem.W.instObj C dx) C (some od) ∧ ∀ name, PySem.W.lookIn name od = some (mA name) :=
  let ⟨od, ho, hl⟩ := lookIn_ns I.ns
  ⟨od, ⟨I.obj, rfl, rfl, ho⟩, hl⟩
section
variable {prog : Program} {w : World} {A : Around} {E : Value → Shared → Prop} {s : Shared} {K : PySem.W.Frag} {x dx C f : Addr} {mA : Str → Option Value} {name : Str} {v : Value}
theorem get_map {expr : Bool} {Q : Value → Shared → Prop} (X : K.In s.heap) (I : ObjM s.heap x dx C mA) (hg : PySem.W.plainGet K C name = true) (hh : PySem.W.hasDictIn K C = true)
    (ha : PySem.W.findIn K (.ref C) name = some none) (hv : mA name = some v) (hv' : PySem.W.handedIn v = true) (h : Q v { s with toks := s.toks + 1 }) :
    wpAny (model prog w) A (getAttr (.ref x) name expr) Q E s := by
  obtain ⟨od, J, hl⟩ := I.look
  exact PySem.W.get_value X J (PySem.W.plainGet_of hg).1 (PySem.W.findObj_own hh ha rfl (by rw [hl, hv])) hv' h
theorem get_meth {pl : Sem Bool} {Q : Value × List Value → Shared → Prop} (X : K.In s.heap) (I : ObjM s.heap x dx C mA) (hg : PySem.W.plainGet K C name = true)
    (hf : PySem.W.findIn K (.ref C) name = some (some (.ref f))) (ht : PySem.W.isFn K (.ref f) = true) (hv : mA name = none) (h : Q (.ref f, [.ref x]) s) :
    wpAny (model prog w) A (getMethod (.ref x) name pl) Q E s := by
  obtain ⟨od, J, hl⟩ := I.look
  exact PySem.W.method_fn X J (PySem.W.plainGet_of hg).1 (PySem.W.plainGet_of hg).2 hf (beq_iff_eq.mp ht) (by show (PySem.W.lookIn name od).map (·.isSome) = some false; rw [hl, hv]; rfl) h
theorem set_map {ns : List Str} {Q : Unit → Shared → Prop} (X : K.In s.heap) (I : ObjM s.heap x dx C mA)
    (hs : PySem.W.findIn K (.ref C) "__setattr__" = some (some (.builtin "object.__setattr__"))) (hp : PySem.W.plainOver K C = true) (ht : PySem.W.takerIn K C name = some none) (hh : PySem.W.hasDictIn K C = true)
    (hw : PySem.Within mA ns) (hsz : ns.length ≤ sizeLine)
    (h : ∀ h', ObjM h' x dx C (fun y => if y = name then some v else mA y) → Heap.SameBut dx s.heap h' → Q () { s with heap := h', toks := s.toks + 2 }) :
    wpAny (model prog w) A (setAttr (.ref x) name v) Q E s := by
  obtain ⟨od, J, hl⟩ := I.look
  refine PySem.W.set_plain X J hs (PySem.W.osa_open (s := { s with toks := s.toks + 1 }) (r := none) X J hp ht fun b => ?_)
  obtain ⟨cd, hc, hd'⟩ := PySem.W.any_some hh
  have hx : s.heap.get? x = some ⟨.ref C, some dx, .plain, #[]⟩ := I.obj
  refine wpAny_bind (wpAny_pure (wpAny_bind (wpAny_bind (wpAny_loadPart hx (wpAny_bind (PySem.W.Looks.here (s := { s with toks := s.toks + 1 }) (PySem.W.looks_clsIn X hc) ?_))))))
  rw [hd']
  refine wpAny_pure (a := some dx) (wpAny_bind (wpAny_pure (wpAny_bind ?_)))
  refine wpAny_nsSet1 (s := { s with toks := s.toks + 1 }) I.ns fun h' hn2 hs2 => ?_
  obtain ⟨oD, esD, epD, hoD, hdD, hcD⟩ := hn2.count (PySem.Within.cons name v hw)
  refine wpAny_bind (wpAny_lookBehind hoD (by rw [hdD]; exact pastItsLine_dict (Nat.le_trans hcD (by rw [List.length_cons]; omega))) ?_)
  exact wpAny_pure (h _ ⟨(hs2.2 _ (Ne.symm I.ne)).trans I.obj, hn2, I.ne⟩ hs2)
theorem make_map {R : Result → Shared → Prop} {vs : List Value} {kw : List (Str × Value)} (X : K.In s.heap) (hm : PySem.W.makesIn K C = true)
    (hi : PySem.W.findIn K (.ref C) "__init__" = some (some (.ref f))) (hf : PySem.W.typeIn K (.ref f) = some (.type "function"))
    (h : codeAny (model prog w) (A.under (.builtin "type.__call__" ⟨.ref C :: vs, kw⟩)) (.call (.ref f) ⟨.ref (s.heap.objs.size + 1) :: vs, kw⟩) (PySem.W.InitBack (s.heap.objs.size + 1) R)
      { s with heap := (s.heap.push PySem.W.emptyDict).push (PySem.W.instObj C s.heap.objs.size) }) :
    codeAny (model prog w) A (.call (.ref C) ⟨vs, kw⟩) R s := by
  obtain ⟨hh, g, d, t, os⟩ := s
  exact PySem.W.make_core (PySem.W.makes_of X hm) (PySem.W.looks_findIn X hi) (fun self => PySem.W.bind_fn X self hf) (.inl rfl) h
end
def putF (f : Str) (v : V) : List (Str × V) → List (Str × V)
  | [] => [(f, v)]
  | (g, x) :: r => if g = f then (g, v) :: r else (g, x) :: putF f v r
theorem lookup_putF (f g : Str) (v : V) : ∀ fs : List (Str × V), (putF f v fs).lookup g = if g = f then some v else fs.lookup g
  | [] => by
    show List.lookup g [(f, v)] = _
    by_cases h : g = f
    · have hb : (g == f) = true := beq_iff_eq.mpr h
      simp only [List.lookup, hb, if_pos h]
    · have hb : (g == f) = false := beq_eq_false_iff_ne.mpr h
      simp only [List.lookup, hb, if_neg h]
  | (k, x) :: r => by
    have ih := lookup_putF f g v r
    rw [show putF f v ((k, x) :: r) = (if k = f then (k, v) :: r else (k, x) :: putF f v r) from rfl]
    by_cases hk : k = f
    · rw [if_pos hk]
      by_cases h : g = k
      · have hb : (g == k) = true := beq_iff_eq.mpr h
        simp only [List.lookup, hb, if_pos (h.trans hk)]
      · have hb : (g == k) = false := beq_eq_false_iff_ne.mpr h
        simp only [List.lookup, hb, if_neg (fun e : g = f => h (e.trans hk.symm))]
    · rw [if_neg hk]
      by_cases h : g = k
      · have hb : (g == k) = true := beq_iff_eq.mpr h
        simp only [List.lookup, hb, if_neg (fun e : g = f => hk (h.symm.trans e))]
      · have hb : (g == k) = false := beq_eq_false_iff_ne.mpr h
        simp only [List.lookup, hb]
        exact ih
theorem keys_putF (f : Str) (v : V) : ∀ fs : List (Str × V), f ∈ (putF f v fs).map (·.1) ∧ ∀ g, g ∈ fs.map (·.1) → g ∈ (putF f v fs).map (·.1)
  | [] => ⟨by simp [putF], fun g h => by simp at h⟩
  | (k, x) :: r => by
    obtain ⟨i1, i2⟩ := keys_putF f v r
    rw [show putF f v ((k, x) :: r) = (if k = f then (k, v) :: r else (k, x) :: putF f v r) from rfl]
    by_cases hk : k = f
    · rw [if_pos hk]
      subst hk
      exact ⟨by simp, fun g h => by simpa using h⟩
    · rw [if_neg hk]
      refine ⟨?_, fun g h => ?_⟩
      · rw [List.map_cons]
        exact List.mem_cons_of_mem _ i1
      · rw [List.map_cons] at h ⊢
        rcases List.mem_cons.mp h with e | e
        · exact List.mem_cons.mpr (.inl e)
        · exact List.mem_cons_of_mem _ (i2 g e)
theorem length_putF (f : Str) (v : V) : ∀ fs : List (Str × V), (putF f v fs).length ≤ fs.length + 1
  | [] => by simp [putF]
  | (k, x) :: r => by
    have ih := length_putF f v r
    rw [show putF f v ((k, x) :: r) = (if k = f then (k, v) :: r else (k, x) :: putF f v r) from rfl]
    by_cases hk : k = f
    · rw [if_pos hk, List.length_cons, List.length_cons]; omega
    · rw [if_neg hk, List.length_cons, List.length_cons]; omega
theorem RelO.some_of {v : V} {o : Option Value} (r : RelO (some v) o) : ∃ u, o = some u ∧ RelV v u := by
  cases o with
  | none => exact (show False from r).elim
  | some u => exact ⟨u, rfl, r⟩
theorem RelO.none_of {o : Option Value} (r : RelO none o) : o = none := by
  cases o with
  | none => rfl
  | some u => exact (show False from r).elim
theorem handed_of {v : V} {u : Value} (r : RelV v u) : PySem.W.handedIn u = true := by
  cases v with
  | non => cases (show u = Value.none from r); rfl
  | bl b => cases (show u = Value.bool b from r); rfl
  | int i => obtain ⟨t, e⟩ := (show ∃ t, u = Value.int i t from r); cases e; rfl
  | str x => obtain ⟨t, e⟩ := (show ∃ t, u = Value.str x t from r); cases e; rfl
  | byt b => obtain ⟨t, e⟩ := (show ∃ t, u = Value.bytes b t from r); cases e; rfl
  | flt b => obtain ⟨t, e⟩ := (show ∃ t, u = Value.float b t from r); cases e; rfl
  | ref a => cases (show u = Value.ref a from r); rfl
  | ty n => cases (show u = Value.type n from r); rfl
section
variable {P : Program} {w : World} {H H' : Hp} {h h' : Heap} {a C dx : Addr} {fs fs' : List (Str × V)}
theorem ins_get (hok : HOk P w H h) (e : H a = some (.ins C dx fs)) : ∃ mA, ObjM h a dx C mA ∧ (∀ f, RelO (fs.lookup f) (mA f)) ∧ PySem.Within mA (fs.map (·.1)) ∧ fs.length ≤ 1000 ∧ H dx = some (.own a) := by
  obtain ⟨d, z, ne, ob, mA, n, r, q⟩ := (show ObjOk P w H h a (.ins C dx fs) from hok a _ e)
  exact ⟨mA, ⟨ob, n, ne⟩, r, q, z, d⟩
end
structure Cls (K : PySem.W.Frag) (C : Addr) : Prop where
  pg : PySem.W.plainGet K C Str.empty = true
  hd : PySem.W.hasDictIn K C = true
  po : PySem.W.plainOver K C = true
  sa : PySem.W.findIn K (.ref C) "__setattr__" = some (some (.builtin "object.__setattr__"))
theorem Cls.get {K : PySem.W.Frag} {C : Addr} (c : Cls K C) (f : Str) : PySem.W.plainGet K C f = true := c.pg
def NoAttr (K : PySem.W.Frag) (C : Addr) (f : Str) : Prop := PySem.W.findIn K (.ref C) f = some none
theorem NoAttr.taker {K : PySem.W.Frag} {C : Addr} {f : Str} (n : NoAttr K C f) : PySem.W.takerIn K C f = some none := by
  unfold PySem.W.takerIn
  rw [show PySem.W.findIn K (.ref C) f = some none from n]
  rfl
structure Con (K : PySem.W.Frag) (C : Addr) (f : Str) (v : V) (u : Value) : Prop where
  at_ : PySem.W.findIn K (.ref C) f = some (some u)
  rel : RelV v u
  get : PySem.W.specialIn K u "__get__" = some none
  cp : PySem.W.copiedNames.contains f = false
structure Meth (K : PySem.W.Frag) (C : Addr) (m : Str) (f : Addr) : Prop where
  at_ : PySem.W.findIn K (.ref C) m = some (some (.ref f))
  fn : PySem.W.isFn K (.ref f) = true
  kp : PySem.W.keepIn K (.ref f) = true
section
variable {X : Cx} {pins : List (Addr × Obj)} {σ : St} {H : Hp} {s : Shared} {a C dx : Addr} {fs : List (Str × V)} {f : Str} {v : V} {A : Around} {E : Value → Shared → Prop}
theorem getattr_ok {b : Bool} {Q : Value → Shared → Prop} (I : Inv X pins σ H s) (e : H a = some (.ins C dx fs)) (c : Cls X.K C) (n : NoAttr X.K C f) (l : fs.lookup f = some v)
    (h : ∀ u s', Inv X pins σ H s' → RelV v u → Q u s') : wpAny (model X.prog X.w) A (getAttr (.ref a) f b) Q E s := by
  obtain ⟨mA, O, r, _, _, _⟩ := ins_get I.hok e
  obtain ⟨u, hu, ru⟩ := RelO.some_of (v := v) (o := mA f) (by rw [← l]; exact r f)
  exact get_map I.kIn O (c.get f) c.hd n hu (handed_of ru) (h u _ (I.tok _) ru)
theorem getmeth_ok {m : Str} {g : Addr} {pl : Sem Bool} {Q : Value × List Value → Shared → Prop} (I : Inv X pins σ H s) (e : H a = some (.ins C dx fs)) (c : Cls X.K C) (k : Meth X.K C m g) (l : fs.lookup m = none)
    (h : Q (.ref g, [.ref a]) s) : wpAny (model X.prog X.w) A (getMethod (.ref a) m pl) Q E s := by
  obtain ⟨mA, O, r, _, _, _⟩ := ins_get I.hok e
  have hn : mA m = none := RelO.none_of (by rw [← l]; exact r m)
  exact get_meth I.kIn O (c.get m) k.at_ k.fn hn h
theorem setattr_ok {y : V} {u : Value} {Q : Unit → Shared → Prop} (I : Inv X pins σ H s) (e : H a = some (.ins C dx fs)) (c : Cls X.K C) (n : NoAttr X.K C f) (hl : fs.length < 1000) (ry : RelV y u)
    (h : ∀ s', Inv X pins σ (upd H a (.ins C dx (putF f y fs))) s' → Q () s') : wpAny (model X.prog X.w) A (setAttr (.ref a) f u) Q E s := by
  obtain ⟨mA, O, r, wi, _, ho⟩ := ins_get I.hok e
  have hz : (fs.map (·.1)).length ≤ sizeLine := by rw [List.length_map, sizeLine_eq]; omega
  refine set_map I.kIn O c.sa c.po n.taker c.hd wi hz fun h' O' sb => h _ ?_
  have hd : ∃ o, h'.get? dx = some o := let ⟨o, _, _, e', _⟩ := O'.ns; ⟨o, e'⟩
  refine I.write (x := a) (e := dx) (by rw [e]; exact True.intro) (.inr ho) (fun b q hb z => (sb.2 b hb).trans z) hd ?_
  refine ⟨by rw [upd_ne O.ne]; exact ho, ?_, O.ne, O'.obj, _, O'.ns, fun g => ?_, fun g hg => ?_⟩
  · have := length_putF f y fs; omega
  · show RelO ((putF f y fs).lookup g) (if g = f then some u else mA g)
    rw [lookup_putF]
    by_cases q : g = f
    · rw [if_pos q, if_pos q]; exact ry
    · rw [if_neg q, if_neg q]; exact r g
  · by_cases q : g = f
    · rw [q]; exact (keys_putF f y fs).1
    · refine (keys_putF f y fs).2 g (wi g fun z => hg ?_)
      show (if g = f then some u else mA g) = none
      rw [if_neg q]; exact z
theorem Inv.made (I : Inv X pins σ H s) : Inv X pins σ (upd (upd H s.heap.objs.size (.own (s.heap.objs.size + 1))) (s.heap.objs.size + 1) (.ins C s.heap.objs.size []))
    { s with heap := (s.heap.push PySem.W.emptyDict).push (PySem.W.instObj C s.heap.objs.size) } := by
  have e1 : (s.heap.push PySem.W.emptyDict).get? s.heap.objs.size = some PySem.W.emptyDict := Heap.get?_push_size s.heap rfl
  have e2 : ((s.heap.push PySem.W.emptyDict).push (PySem.W.instObj C s.heap.objs.size)).get? (s.heap.objs.size + 1) = some (PySem.W.instObj C s.heap.objs.size) := by
    have := Heap.get?_push_size (s.heap.push PySem.W.emptyDict) (o := PySem.W.instObj C s.heap.objs.size) rfl
    rwa [Heap.size_push] at this
  have e3 : (s.heap.push PySem.W.emptyDict).Ns s.heap.objs.size (fun _ => none) := ⟨PySem.W.emptyDict, #[], _, e1, rfl, (fun e he => absurd he (by simp)), fun _ => rfl⟩
  have I1 := I.laid (a := s.heap.objs.size) (o := .own (s.heap.objs.size + 1)) (h' := s.heap.push PySem.W.emptyDict) (t' := s.toks) (fun b u q => Heap.get?_push_of_some _ q) (Nat.le_refl _) ⟨_, e1⟩
  refine I1.laid (a := s.heap.objs.size + 1) (o := .ins C s.heap.objs.size []) (t' := s.toks) (fun b u q => Heap.get?_push_of_some _ q) (Nat.le_of_eq (Heap.size_push _ _)) ?_
  have ne : s.heap.objs.size ≠ s.heap.objs.size + 1 := Nat.ne_of_lt (Nat.lt_succ_self _)
  refine ⟨by rw [upd_ne ne, upd_same], Nat.zero_le _, ne, e2, fun _ => none, (Heap.Ns1.of_empty e3).at fun o q => Heap.get?_push_of_some _ q, fun _ => True.intro, fun y hy => absurd rfl hy⟩
theorem attr_of {prog : Program} {w : World} {env : Env} {e : Expr} {f : Str} {pos : Pos} {s : Shared} {Q : Value → Shared → Prop} (hb : attributeBase e f env (eval e env) = eval e env)
    (h : wpAny (model prog w) A (eval e env) (fun o s₁ => wpAny (model prog w) A (getAttr o f true) Q E s₁) E s) : wpAny (model prog w) A (eval (.Attribute e f pos) env) Q E s :=
  Attribute_any_ h (by rw [arm_eval_Attribute, hb])
end
def tFld (K : PySem.W.Frag) (ta : TE) (f : Str) : TE := fun σ H Q => ta σ H fun x H1 => ∃ a C dx fs v, x = .ref a ∧ H1 a = some (.ins C dx fs) ∧ Cls K C ∧ NoAttr K C f ∧ fs.lookup f = some v ∧ Q v H1
def tCon (K : PySem.W.Frag) (ta : TE) (f : Str) : TE := fun σ H Q => ta σ H fun x H1 => ∃ a C dx fs v u, x = .ref a ∧ H1 a = some (.ins C dx fs) ∧ Cls K C ∧ Con K C f v u ∧ fs.lookup f = none ∧ Q v H1
def sFld (K : PySem.W.Frag) (ta tv : TE) (f : Str) : TS := fun D σ H => tv σ H fun y H1 => ta σ H1 fun x H2 => ∃ a C dx fs, x = .ref a ∧ H2 a = some (.ins C dx fs) ∧ Cls K C ∧ NoAttr K C f ∧ fs.length < 1000 ∧
  D.nx σ (upd H2 a (.ins C dx (putF f y fs)))
def InOp (X : Cx) (op : Operator) (rd : V → V → Hp → VK → Prop) : Prop :=
  ∀ (pins : List (Addr × Obj)) (s : Shared) (σ : St) (H : Hp) (x y : V) (u v : Value) (Q : VK), Inv X pins σ H s → RelV x u → RelV y v → rd x y H Q → wpAny (model X.prog X.w) X.A (inplaceOp op u v) (EP X pins σ Q) X.xe s
def sFldAug (K : PySem.W.Frag) (ta tv : TE) (rd : V → V → Hp → VK → Prop) (f : Str) : TS := fun D σ H => ta σ H fun x H1 => ∃ a C dx fs v, x = .ref a ∧ H1 a = some (.ins C dx fs) ∧ Cls K C ∧ NoAttr K C f ∧ fs.lookup f = some v ∧
  tv σ H1 fun y H2 => rd v y H2 fun z H3 => ∃ dx' fs', H3 a = some (.ins C dx' fs') ∧ fs'.length < 1000 ∧ D.nx σ (upd H3 a (.ins C dx' (putF f z fs')))
section
variable {X : Cx} {o e value : Expr} {f : Str} {pos pos' tpos : Pos} {ta tv : TE}
theorem pe_fld (he : PE X e ta) (hb : attributeBase e f X.env (eval e X.env) = eval e X.env) : PE X (.Attribute e f pos) (tFld X.K ta f) := by
  intro pins s σ H Q I h
  refine attr_of hb (thn (he pins s σ H _ I h) fun u s1 ⟨x, H1, I1, rx, a, C, dx, fs, v, ex, ea, c, n, l, q⟩ => ?_)
  subst ex
  obtain rfl : u = Value.ref a := rx
  exact getattr_ok I1 ea c n l fun u' s2 I2 ru => ⟨v, H1, I2, ru, q⟩
theorem ps_fld (ha : PE X o ta) (hv : PE X value tv) (hs : swapsWith value (some (.Attribute o f pos')) pos.line X.env = pure false) : PS X (.Assign [.Attribute o f pos'] value pos) (sFld X.K ta tv f) := by
  intro pins s σ H D I h
  refine plainObj_wpAny_Assign_Attribute (thn (hv pins s σ H _ I h) fun u s1 ⟨y, H1, I1, ry, q⟩ => thn (ha pins s1 σ H1 _ I1 q) fun ov s2 ⟨x, H2, I2, rx, a, C, dx, fs, ex, ea, c, n, l, q2⟩ => ?_) hs
  subst ex
  obtain rfl : ov = Value.ref a := rx
  exact setattr_ok I2 ea c n l ry fun s3 I3 => ⟨σ, _, I3, q2⟩
def rAdd : V → V → Hp → VK → Prop := fun x y H Q => ∃ i j, x = .int i ∧ y = .int j ∧ Q (.int (i + j)) H
def rSub : V → V → Hp → VK → Prop := fun x y H Q => ∃ i j, x = .int i ∧ y = .int j ∧ Q (.int (i - j)) H
end
section
variable {X : Cx} {pins : List (Addr × Obj)} {σ : St} {H : Hp} {s : Shared} {A : Around} {E : Value → Shared → Prop} {Q : Value → Shared → Prop} {c : Value} {b : Bool}
inductive TyOf (K : PySem.W.Frag) (H : Hp) : V → Value → Prop where
  | non : TyOf K H .non (.type "NoneType")
  | bl (x : Bool) : TyOf K H (.bl x) (.type "bool")
  | int (i : Int) : TyOf K H (.int i) (.type "int")
  | str (x : Str) : TyOf K H (.str x) (.type "str")
  | flt (x : UInt64) : TyOf K H (.flt x) (.type "float")
  | lst {a : Addr} {xs : List V} (e : H a = some (.lst xs)) : TyOf K H (.ref a) (.type "list")
  | frz {a : Addr} {o : Obj} {xs : List V} (e : H a = some (.frz o (.lst xs))) : TyOf K H (.ref a) (.type "list")
  | tup {a : Addr} {xs : List V} (e : H a = some (.tup xs)) : TyOf K H (.ref a) (.type "tuple")
  | dK {a : Addr} {kvs : List (Key × V)} (e : H a = some (.dK kvs)) : TyOf K H (.ref a) (.type "dict")
  | dT {a : Addr} {kvs : List (List Key × V)} (e : H a = some (.dT kvs)) : TyOf K H (.ref a) (.type "dict")
  | ins {a C dx : Addr} {fs : List (Str × V)} (e : H a = some (.ins C dx fs)) (cl : Cls K C) (ha : PySem.W.findIn K (.ref C) "__class__" = some (some (.builtin "object.__class__")))
      (hn : PySem.W.specialIn K (.builtin "object.__class__") "__get__" = some (some (.builtin "getset_descriptor.__get__"))) (htk : PySem.W.takesIn K (.builtin "object.__class__") = some true)
      (hm : PySem.W.mroIn K C (.type "object") = some true) : TyOf K H (.ref a) (.ref C)
end
end L2
namespace L2
open PySem PySem.Spec PyProof.Rows
structure Room (k : Nat) (A : Around) : Prop where
  hd : A.handled = none
  dp : A.depth + 3 * k + 5 < recursionLimit
  un : A.units + 16 * k + 200 < cLine
theorem Room.mono {j k : Nat} {A : Around} (r : Room k A) (h : j ≤ k) : Room j A := ⟨r.hd, by have := r.dp; omega, by have := r.un; omega⟩
theorem Room.deeper {k : Nat} {A : Around} (r : Room (k + 1) A) (env : Env) : Room k (A.deeper env) :=
  ⟨r.hd, by have := r.dp; show A.depth + 1 + 3 * k + 5 < _; omega, by have := r.un; show A.units + 3 + 16 * k + 200 < _; omega⟩
theorem Room.in1 {k : Nat} {A : Around} (r : Room (k + 1) A) : Room k A.in1 :=
  ⟨r.hd, by have := r.dp; show A.depth + 3 * k + 5 < _; omega, by have := r.un; show A.units + 1 + 16 * k + 200 < _; omega⟩
theorem make_depth {A : Around} {C : Addr} {us : List Value} {kw : List (Str × Value)} : (A.under (.builtin "type.__call__" ⟨.ref C :: us, kw⟩)).depth = A.depth + 1 := by
  first | rfl | simp [Around.under, Code.weight, Code.isCreation, Code.isGuard, Code.isCaller, Code.frames, Code.isFrame, guardIds]
theorem make_units {A : Around} {C : Addr} {us : List Value} {kw : List (Str × Value)} : (A.under (.builtin "type.__call__" ⟨.ref C :: us, kw⟩)).units = A.units + 1 := by
  first | rfl | simp [Around.under, Code.cUnits, Code.frames, Code.isFrame]
theorem Room.make {k : Nat} {A : Around} (r : Room (k + 1) A) (C : Addr) (us : List Value) (kw : List (Str × Value)) : Room k (A.under (.builtin "type.__call__" ⟨.ref C :: us, kw⟩)) :=
  ⟨r.hd, by have := r.dp; rw [make_depth]; omega, by have := r.un; rw [make_units]; omega⟩
theorem Room.depth {k : Nat} {A : Around} (r : Room k A) : A.depth < recursionLimit := by have := r.dp; omega
theorem Room.units {k : Nat} {A : Around} (r : Room k A) : A.units + 64 < cLine := by have := r.un; omega
theorem Room.units0 {k : Nat} {A : Around} (r : Room k A) : A.units < cLine := by have := r.un; omega
def tNil : TA := fun _ H Q => Q [] H
def tCons (ta : TE) (tr : TA) : TA := fun σ H Q => ta σ H fun x H1 => tr σ H1 fun xs H2 => Q (x :: xs) H2
section
variable {X : Cx} {e : Expr} {es : List Expr} {te : TE} {t : TA} {pos : Pos}
theorem pa_nil : PA X [] tNil := fun _ _ _ _ H Q I h => Calls.spliced_nil ⟨[], H, I, .nil, h⟩
theorem pa_cons (ha : PE X e te) (hr : PA X es t) (hs : starEach (e :: es) X.env = (false, eval e X.env) :: starEach es X.env := by rfl) : PA X (e :: es) (tCons te t) := by
  intro pos pins s σ H Q I h
  rw [hs]
  show wpAny _ _ (spliced ((false, eval e X.env) :: backTo pos (starEach es X.env))) _ _ s
  refine Calls.spliced_cons (thn (ha pins s σ H _ I h) fun u s1 ⟨x, H1, I1, r1, q1⟩ => ?_)
  exact thn (hr pos pins s1 σ H1 _ I1 q1) fun us s2 ⟨xs, H2, I2, r2, q2⟩ => ⟨x :: xs, H2, I2, .cons r1 r2, q2⟩
def tTup (t : TA) : TE := fun σ H Q => t σ H fun xs H1 => xs.length ≤ sizeLine ∧ ∀ p, H1 p = none → Q (.ref p) (upd H1 p (.tup xs))
def tLst (t : TA) : TE := fun σ H Q => t σ H fun xs H1 => xs.length ≤ sizeLine ∧ ∀ p, H1 p = none → Q (.ref p) (upd H1 p (.lst xs))
theorem pe_tup {x1} (h : PA X es t) : PE X (.Tuple es x1 pos) (tTup t) := by
  intro pins s σ H Q I hq
  refine wpAny_Tuple_spliced (thn (h pos pins s σ H _ I hq) fun us s1 ⟨xs, H1, I1, r, z, q⟩ => ⟨by rw [← r.length]; exact z, ?_⟩)
  have hf : H1 s1.heap.objs.size = none := I1.hok.fresh (Nat.le_refl _)
  refine ⟨.ref s1.heap.objs.size, upd H1 s1.heap.objs.size (.tup xs), I1.laid (t' := s1.toks) (fun b u e => Heap.get?_push_of_some _ e) (Nat.le_refl _) ?_, rfl, q _ hf⟩
  exact ⟨z, us, r, ⟨_, Heap.get?_push_size _ rfl, rfl, _, rfl⟩⟩
theorem pe_lst (h : PA X es t) : PE X (.List es pos) (tLst t) := by
  intro pins s σ H Q I hq
  refine wpAny_List_spliced (thn (h pos pins s σ H _ I hq) fun us s1 ⟨xs, H1, I1, r, z, q⟩ => ⟨by rw [← r.length]; exact z, ?_⟩)
  have hf : H1 s1.heap.objs.size = none := I1.hok.fresh (Nat.le_refl _)
  refine ⟨.ref s1.heap.objs.size, upd H1 s1.heap.objs.size (.lst xs), I1.laid (t' := s1.toks) (fun b u e => Heap.get?_push_of_some _ e) (Nat.le_refl _) ?_, rfl, q _ hf⟩
  exact ⟨z, us, 0, r, Heap.get?_push_size _ rfl⟩
end
abbrev Sp := List V → Hp → VK → XK → Prop
abbrev CXT := List Env → Hp → Shared → XK → Value → Shared → Prop
structure Env0 (P : Program) (w : World) (K : PySem.W.Frag) (mg : Str → Option Value) (base : Heap) (A : Around) (outer : List Env) (s : Shared) (H : Hp) : Prop where
  frames : A.frames = some outer
  mod : Mod K mg base
  bs : ∀ b o, base.get? b = some o → s.heap.get? b = some o ∧ H b = none
  bsz : base.objs.size ≤ s.heap.objs.size
  funs : s.heap.FunFrames base outer
  frf : ∀ b ∈ frs outer, H b = none
  hok : HOk P w H s.heap
  bare : AllBare s.gens
def CE (outer : List Env) (P : Program) (w : World) (H : Hp) (s : Shared) (Q : VK) (u : Value) (s' : Shared) : Prop :=
  ∃ v H', s'.os = s.os ∧ AllBare s'.gens ∧ Un (frs outer) [] H H' s.heap s'.heap ∧ HOk P w H' s'.heap ∧ RelV v u ∧ Q v H'
def CR (CX : CXT) (outer : List Env) (P : Program) (w : World) (H : Hp) (s : Shared) (Q : VK) (E : XK) (r : Result) (s' : Shared) : Prop :=
  match r with
  | .ok (.ret u) => CE outer P w H s Q u s'
  | .ok _ => False
  | .error e => CX outer H s E e s'
structure FnOk (P : Program) (w : World) (K : PySem.W.Frag) (mg : Str → Option Value) (base : Heap) (CX : CXT) (k : Nat) (f : Addr) (fd : FuncData) (ps : List Str) (sp : Sp) : Prop where
  len : ∀ vs H Q E, sp vs H Q E → vs.length = ps.length
  run : ∀ (A : Around) (outer : List Env) (s : Shared) (H : Hp) (args : Args) (us : List Value) (vs : List V) (Q : VK) (E : XK), Room k A → Env0 P w K mg base A outer s H → BindsTo s fd args (ps.zip us) → Vals vs us → sp vs H Q E →
    codeAny (model P w) A (.call (.ref f) args) (CR CX outer P w H s Q E) s
theorem FnOk.mono {P : Program} {w : World} {K : PySem.W.Frag} {mg : Str → Option Value} {base : Heap} {CX : CXT} {j k : Nat} {f : Addr} {fd : FuncData} {ps : List Str} {sp : Sp} (F : FnOk P w K mg base CX j f fd ps sp) (h : j ≤ k) :
    FnOk P w K mg base CX k f fd ps sp := ⟨F.len, fun A outer s H args us vs Q E hr => F.run A outer s H args us vs Q E (hr.mono h)⟩
theorem FnOk.imp {P : Program} {w : World} {K : PySem.W.Frag} {mg : Str → Option Value} {base : Heap} {CX : CXT} {k : Nat} {f : Addr} {fd : FuncData} {ps : List Str} {sp sp' : Sp} (F : FnOk P w K mg base CX k f fd ps sp)
    (h : ∀ vs H Q E, sp' vs H Q E → sp vs H Q E) : FnOk P w K mg base CX k f fd ps sp' :=
  ⟨fun vs H Q E q => F.len vs H Q E (h _ _ _ _ q), fun A outer s H args us vs Q E hr he hb hv hs => F.run A outer s H args us vs Q E hr he hb hv (h _ _ _ _ hs)⟩
theorem Env0.make {P : Program} {w : World} {K : PySem.W.Frag} {mg : Str → Option Value} {base : Heap} {A : Around} {outer : List Env} {s : Shared} {H : Hp} (e : Env0 P w K mg base A outer s H) (C : Addr) (us : List Value) (kw : List (Str × Value)) :
    Env0 P w K mg base (A.under (.builtin "type.__call__" ⟨.ref C :: us, kw⟩)) outer s H := ⟨by first | exact e.frames | (simpa [Around.under, Code.envs, Code.isFrame, pushEnvs] using e.frames), e.mod, e.bs, e.bsz, e.funs, e.frf, e.hok, e.bare⟩
theorem Env0.in1 {P : Program} {w : World} {K : PySem.W.Frag} {mg : Str → Option Value} {base : Heap} {A : Around} {outer : List Env} {s : Shared} {H : Hp} (e : Env0 P w K mg base A outer s H) :
    Env0 P w K mg base A.in1 outer s H := ⟨e.frames, e.mod, e.bs, e.bsz, e.funs, e.frf, e.hok, e.bare⟩
section
variable {X : Cx} {pins : List (Addr × Obj)} {σ : St} {H : Hp} {s s' : Shared}
theorem Inv.env0 (I : Inv X pins σ H s) : Env0 X.prog X.w X.K X.mg X.base X.A X.stack s H :=
  ⟨I.ok.frames, I.ok.mod, I.bs, Nat.le_trans I.ok.bsz I.sz, I.stack, I.stkFree, I.hok, I.bare⟩
theorem Inv.after {Q : VK} {u : Value} (I : Inv X pins σ H s) (h : CE X.stack X.prog X.w H s Q u s') : EP X pins σ Q u s' := by
  obtain ⟨v, H', os, bare, un, hok, r, q⟩ := h
  obtain ⟨hh, g, d, t, os'⟩ := s'
  obtain rfl : os' = s.os := os
  exact ⟨v, H', I.call (h' := hh) (g' := g) (d' := d) (t' := t) (ch := []) un hok bare (fun b z => absurd z (by simp)), r, q⟩
end
def tCall (sp : Sp) (dvs : List V) (E : XK) (t : TA) : TE := fun σ H Q => t σ H fun vs H1 => sp (vs ++ dvs) H1 Q E
def tMeth (C : Addr) (m : Str) (sp : Sp) (dvs : List V) (E : XK) (ta : TE) (t : TA) : TE := fun σ H Q => ta σ H fun x H1 => ∃ a dx fs, x = .ref a ∧ H1 a = some (.ins C dx fs) ∧ fs.lookup m = none ∧
  t σ H1 fun vs H2 => sp (x :: (vs ++ dvs)) H2 Q E
def tMake (C : Addr) (sp : Sp) (dvs : List V) (E : XK) (t : TA) : TE := fun σ H Q => t σ H fun vs H1 => ∀ x dx, H1 x = none → H1 dx = none → dx ≠ x →
  sp (.ref x :: (vs ++ dvs)) (upd (upd H1 dx (.own x)) x (.ins C dx [])) (fun v H2 => v = .non ∧ Q (.ref x) H2) E
def Binds (K : PySem.W.Frag) (fd : FuncData) (ps : List Str) (ds : List Value) : Prop :=
  ∀ (s : Shared) (us : List Value), K.In s.heap → (us ++ ds).length = ps.length → BindsTo s fd ⟨us, []⟩ (ps.zip (us ++ ds))
theorem Binds.all {K : PySem.W.Frag} {fd : FuncData} {ps : List Str} (h : ∀ us : List Value, us.length = ps.length → bindArgs fd ⟨us, []⟩ = pure (ps.zip us)) : Binds K fd ps [] := fun s us _ hl => by
  rw [List.append_nil] at hl ⊢
  exact .of_eq (h us hl)
def Passes (CX : CXT) (X : Cx) (E : XK) : Prop := ∀ (pins : List (Addr × Obj)) (σ : St) (H : Hp) (s : Shared) (e : Value) (s' : Shared), Inv X pins σ H s → CX X.stack H s E e s' → X.xe e s'
section
variable {X : Cx} {CX : CXT} {k : Nat} {f C : Addr} {fd : FuncData} {ps : List Str} {sp : Sp} {dvs : List V} {ds : List Value} {E : XK} {x m : Str} {p pos apos : Pos} {e o : Expr} {es : List Expr} {ta : TE} {t : TA}
theorem run_fn {pins : List (Addr × Obj)} {σ : St} {H : Hp} {s : Shared} {Q : VK} {us : List Value} {vs : List V} (F : FnOk X.prog X.w X.K X.mg X.base CX k f fd ps sp) (hr : Room k X.A) (hb : Binds X.K fd ps ds) (hd : Vals dvs ds) (hx : Passes CX X E)
    (I : Inv X pins σ H s) (r : Vals vs us) (h : sp (vs ++ dvs) H Q E) : wpAny (model X.prog X.w) X.A (call (.ref f) us) (EP X pins σ Q) X.xe s := by
  have r2 : Vals (vs ++ dvs) (us ++ ds) := r.append hd
  have hl : (us ++ ds).length = ps.length := by rw [← r2.length]; exact F.len _ _ _ _ h
  refine wpAny_call (codeAny_mono (F.run X.A X.stack s H ⟨us, []⟩ (us ++ ds) (vs ++ dvs) Q E hr I.env0 (hb s us I.kIn hl) r2 h) fun r s' hq => ?_)
  cases r with
  | error e => exact hx pins σ H s e s' I hq
  | ok fl =>
    cases fl with
    | ret u => exact I.after hq
    | next => exact False.elim hq
    | brk => exact False.elim hq
    | cont => exact False.elim hq
theorem pe_call (F : FnOk X.prog X.w X.K X.mg X.base CX k f fd ps sp) (hr : Room k X.A) (hg : Gl X x) (hm : X.mg x = some (.ref f)) (hk : PySem.W.keepIn X.K (.ref f) = true) (hb : Binds X.K fd ps ds) (hd : Vals dvs ds) (hx : Passes CX X E)
    (ha : PA X (e :: es) t) (hdb : (x == ("__debug__" : Str)) = false := by decide) (he : starEach (e :: es) X.env = (false, eval e X.env) :: starEach es X.env := by rfl) (hpl : (backTo pos (starEach es X.env)).any (·.1) = false := by rfl) :
    PE X (.Call (.Name x p) (e :: es) [] pos) (tCall sp dvs E t) := by
  intro pins s σ H Q I h
  refine wpAny_Call_Name_kw (ld_glob I hg hm ?_ hdb)
  refine PySem.W.callWith_K (h₀ := X.base) I.ok.mod.kin hk (thn (ha pos pins s σ H _ I h) fun us s1 ⟨vs, H1, I1, r, q⟩ => ⟨I1.kIn, ?_⟩) he hpl
  exact run_fn F hr hb hd hx I1 r q
structure Mk (K : PySem.W.Frag) (C f : Addr) : Prop where
  makes : PySem.W.makesIn K C = true
  init : PySem.W.findIn K (.ref C) "__init__" = some (some (.ref f))
  fn : PySem.W.isFn K (.ref f) = true
  kp : PySem.W.keepIn K (.ref C) = true
theorem run_make {pins : List (Addr × Obj)} {σ : St} {H : Hp} {s : Shared} {Q : VK} {us : List Value} {vs : List V} (M : Mk X.K C f) (F : FnOk X.prog X.w X.K X.mg X.base CX k f fd ps sp) (hr : Room (k + 1) X.A) (hb : Binds X.K fd ps ds) (hd : Vals dvs ds)
    (hx : Passes CX X E) (I : Inv X pins σ H s) (r : Vals vs us)
    (h : ∀ x dx, H x = none → H dx = none → dx ≠ x → sp (.ref x :: (vs ++ dvs)) (upd (upd H dx (.own x)) x (.ins C dx [])) (fun v H2 => v = .non ∧ Q (.ref x) H2) E) :
    wpAny (model X.prog X.w) X.A (call (.ref C) us) (EP X pins σ Q) X.xe s := by
  have hq := h (s.heap.objs.size + 1) s.heap.objs.size (I.hok.fresh (Nat.le_succ _)) (I.hok.fresh (Nat.le_refl _)) (Nat.ne_of_lt (Nat.lt_succ_self _))
  have I2 := Inv.made (C := C) I
  have r2 : Vals (V.ref (s.heap.objs.size + 1) :: (vs ++ dvs)) (Value.ref (s.heap.objs.size + 1) :: (us ++ ds)) := .cons rfl (r.append hd)
  have hl : (Value.ref (s.heap.objs.size + 1) :: us ++ ds).length = ps.length := by
    have e := r2.length
    rw [F.len _ _ _ _ hq] at e
    exact e.symm
  refine wpAny_call (make_map (f := f) I.kIn M.makes M.init (beq_iff_eq.mp M.fn) (codeAny_mono (F.run _ X.stack _ _ ⟨Value.ref (s.heap.objs.size + 1) :: us, []⟩ (Value.ref (s.heap.objs.size + 1) :: (us ++ ds)) _ _ E (hr.make C us [])
    (I2.env0.make C us []) (hb _ (Value.ref (s.heap.objs.size + 1) :: us) I2.kIn hl) r2 hq) fun r s' hq' => ?_))
  cases r with
  | error e => exact hx pins σ _ _ e s' I2 hq'
  | ok fl =>
    cases fl with
    | ret u =>
      obtain ⟨v, H', I3, rv, ev, q3⟩ := I2.after hq'
      subst ev
      exact ⟨rv, ⟨V.ref (s.heap.objs.size + 1), H', I3, rfl, q3⟩⟩
    | next => exact False.elim hq'
    | brk => exact False.elim hq'
    | cont => exact False.elim hq'
theorem pe_make0 (M : Mk X.K C f) (F : FnOk X.prog X.w X.K X.mg X.base CX k f fd ps sp) (hr : Room (k + 1) X.A) (hg : Gl X x) (hm : X.mg x = some (.ref C)) (hb : Binds X.K fd ps ds) (hd : Vals dvs ds) (hx : Passes CX X E)
    (hdb : (x == ("__debug__" : Str)) = false := by decide) : PE X (.Call (.Name x p) [] [] pos) (tMake C sp dvs E tNil) := by
  intro pins s σ H Q I h
  refine wpAny_Call_Name_kw (ld_glob I hg hm ?_ hdb)
  exact PySem.W.callWith_K0 I.kIn M.kp (run_make (us := []) M F hr hb hd hx I .nil h)
end
def PK (X : Cx) (kws : List Keyword) (t : TA) : Prop :=
  ∀ (pos : Pos) (pins : List (Addr × Obj)) (s : Shared) (σ : St) (H : Hp) (Q : List V → Hp → Prop), Inv X pins σ H s → t σ H Q → wpAny (model X.prog X.w) X.A (evalAll ((backToKw pos (keywordEach kws X.env)).map (·.2))) (AP X pins σ Q) X.xe s
section
variable {X : Cx} {CX : CXT} {k : Nat} {f C : Addr} {fd : FuncData} {ps ks : List Str} {sp : Sp} {E : XK} {x m : Str} {p pos apos kpos : Pos} {e o : Expr} {es : List Expr} {kws : List Keyword} {te ta : TE} {t tk : TA} {nm : Option Str}
theorem pk_nil : PK X [] tNil := fun _ _ _ _ H Q I h => wpAny_evalAll_nil ⟨[], H, I, .nil, h⟩
theorem pk_cons (ha : PE X e te) (hr : PK X kws t) : PK X (⟨nm, e, kpos⟩ :: kws) (tCons te t) := by
  intro pos pins s σ H Q I h
  show wpAny _ _ (evalAll ((do let v ← eval e X.env; standAt pos; pure v) :: (backToKw pos (keywordEach kws X.env)).map (·.2))) _ _ s
  refine wpAny_evalAll_cons (wpAny_bind (thn (ha pins s σ H _ I h) fun u s1 ⟨x, H1, I1, r1, q1⟩ => wpAny_bind (wpAny_standAt (wpAny_pure ?_))))
  exact thn (hr pos pins s1 σ H1 _ I1 q1) fun us s2 ⟨xs, H2, I2, r2, q2⟩ => ⟨x :: xs, H2, I2, .cons r1 r2, q2⟩
structure KBinds (K : PySem.W.Frag) (fd : FuncData) (ps ks : List Str) (g : List Value → List Value → List Value) (gV : List V → List V → List V) : Prop where
  to : ∀ (s : Shared) (us ws : List Value), K.In s.heap → (g us ws).length = ps.length → BindsTo s fd ⟨us, ks.zip ws⟩ (ps.zip (g us ws))
  rel : ∀ {vs : List V} {us : List Value} {zs : List V} {ws : List Value}, Vals vs us → Vals zs ws → Vals (gV vs zs) (g us ws)
def tCallK (sp : Sp) (gV : List V → List V → List V) (E : XK) (t tk : TA) : TE := fun σ H Q => t σ H fun vs H1 => tk σ H1 fun zs H2 => sp (gV vs zs) H2 Q E
variable {g : List Value → List Value → List Value} {gV : List V → List V → List V}
end
structure FnScope (N P : List Str) (sc : Scope) : Prop where
  kind : sc.kind = .function
  co : sc.isCoroutine = false
  gen : sc.isGenerator = false
  nd : N.Nodup
  pre : N.take P.length = P
  par : ∀ x ∈ P, sc.names.lookup x = some .local ∨ sc.names.lookup x = some .cell
  nofree : ∀ y ∈ sc.names, y.2 ≠ .free
theorem bindL_out {kindOf : Str → Option NameKind} {x : Str} : ∀ {binds : List (Str × Value)} {m : Str → Option Value}, (∀ v, (x, v) ∉ binds) → bindL kindOf binds m x = m x
  | [], _, _ => rfl
  | (n, v) :: r, m, h => by
    unfold bindL
    rw [bindL_out fun w hw => h w (List.mem_cons_of_mem _ hw)]
    split
    · have : x ≠ n := by rintro rfl; exact h v List.mem_cons_self
      simp [this]
    · rfl
theorem bindC_out {kindOf : Str → Option NameKind} {x : Str} : ∀ {binds : List (Str × Value)} {m : Str → Option Value}, (∀ v, (x, v) ∉ binds) → bindC kindOf binds m x = m x
  | [], _, _ => rfl
  | (n, v) :: r, m, h => by
    unfold bindC
    rw [bindC_out fun w hw => h w (List.mem_cons_of_mem _ hw)]
    split
    · rfl
    · have : x ≠ n := by rintro rfl; exact h v List.mem_cons_self
      simp [this]
theorem bindL_get {kindOf : Str → Option NameKind} {x : Str} {v : Value} : ∀ {P : List Str} {vs : List Value} {i : Nat} {m : Str → Option Value}, P.Nodup → P[i]? = some x → vs[i]? = some v → kindOf x = some .local →
    bindL kindOf (P.zip vs) m x = some v
  | [], _, _, _, _, h, _, _ => by simp at h
  | _ :: _, [], _, _, _, _, h, _ => by simp at h
  | p :: P, w :: vs, 0, m, nd, h1, h2, hk => by
    simp at h1 h2; subst h1; subst h2
    show bindL kindOf ((p, w) :: P.zip vs) m p = _
    unfold bindL
    rw [bindL_out fun v hv => (List.nodup_cons.mp nd).1 (List.of_mem_zip hv).1, if_pos hk]
    simp
  | p :: P, w :: vs, i + 1, m, nd, h1, h2, hk => by
    show bindL kindOf ((p, w) :: P.zip vs) m x = _
    unfold bindL
    exact bindL_get (i := i) (List.nodup_cons.mp nd).2 (by simpa using h1) (by simpa using h2) hk
theorem bindC_get {kindOf : Str → Option NameKind} {x : Str} {v : Value} : ∀ {P : List Str} {vs : List Value} {i : Nat} {m : Str → Option Value}, P.Nodup → P[i]? = some x → vs[i]? = some v → kindOf x ≠ some .local →
    bindC kindOf (P.zip vs) m x = some v
  | [], _, _, _, _, h, _, _ => by simp at h
  | _ :: _, [], _, _, _, _, h, _ => by simp at h
  | p :: P, w :: vs, 0, m, nd, h1, h2, hk => by
    simp at h1 h2; subst h1; subst h2
    show bindC kindOf ((p, w) :: P.zip vs) m p = _
    unfold bindC
    rw [bindC_out fun v hv => (List.nodup_cons.mp nd).1 (List.of_mem_zip hv).1, if_neg hk]
    simp
  | p :: P, w :: vs, i + 1, m, nd, h1, h2, hk => by
    show bindC kindOf ((p, w) :: P.zip vs) m x = _
    unfold bindC
    exact bindC_get (i := i) (List.nodup_cons.mp nd).2 (by simpa using h1) (by simpa using h2) hk
def start (N : List Str) (vs : List V) : St := vs.map some ++ List.replicate (N.length - vs.length) none
def cxOf (CX : CXT) (P : Program) (w : World) (K : PySem.W.Frag) (mg : Str → Option Value) (base : Heap) (N : List Str) (qual : Str) (scope : Scope) (f : Addr) (cd : Value) (A : Around) (outer : List Env) (s : Shared) (H : Hp) (E : XK) : Cx where
  prog := P
  w := w
  K := K
  mg := mg
  base := base
  A := A.deeper (envOfC qual scope s.heap.objs.size f cd)
  N := N
  s₀ := s
  H₀ := H
  env := envOfC qual scope s.heap.objs.size f cd
  outer := outer
  stack := envOfC qual scope s.heap.objs.size f cd :: outer
  ex := []
  calm := true
  fn := fun _ => true
  pn := []
  xe := fun e s' => wpAny (model P w) (A.deeper (envOfC qual scope s.heap.objs.size f cd)) (leaving (envOfC qual scope s.heap.objs.size f cd) e) (fun _ s'' => CX outer H s E e s'') (fun e' s'' => CX outer H s E e' s'') s'
theorem cell_has {sc : Scope} {n : Nat} {x : Str} (h : sc.names.lookup x = some .cell) : ∃ c, (cellsFrom n sc.names []).lookup x = some c := by
  have q := PySem.W.cellsFrom_some sc.names n [] (.inl h)
  exact Option.isSome_iff_exists.mp q
theorem inv_start {CX : CXT} {P : Program} {w : World} {K : PySem.W.Frag} {mg : Str → Option Value} {base : Heap} {N ps : List Str} {qual : Str} {scope : Scope} {f : Addr} {cd : Value} {A : Around} {outer : List Env} {s s1 : Shared} {H : Hp} {E : XK} {us : List Value} {vs : List V}
    (S : FnScope N ps scope) (hd : A.handled = none) (e0 : Env0 P w K mg base A outer s H) (hl : vs.length = ps.length) (r : Vals vs us)
    (x : InCallC s s.heap.objs.size (bindL (envOfC qual scope s.heap.objs.size f cd).kindOf (ps.zip us) fun _ => none) (cellsFrom (s.heap.objs.size + 1) scope.names []) (bindC (envOfC qual scope s.heap.objs.size f cd).kindOf (ps.zip us) fun _ => none) s1) :
    Inv (cxOf CX P w K mg base N qual scope f cd A outer s H E) [] (start N vs) H s1 := by
  have hpl : ps.length ≤ N.length := by have := congrArg List.length S.pre; rw [List.length_take] at this; omega
  obtain ⟨h1, tk, rfl, hk⟩ := x.done
  have noA : ∀ b : Addr, b ∉ (cxOf CX P w K mg base N qual scope f cd A outer s H E).ex := fun b z => absurd (show b ∈ ([] : List Addr) from z) (by simp)
  refine ⟨⟨e0.mod, S.kind, rfl, rfl, Nat.le_refl _, fun y z c h1 h2 => ?_, fun y hy => ?_, fun y c _ h => ?_, fun _ => hd, Around.frames_deeper e0.frames, .inr ⟨rfl, rfl⟩, fun b z => absurd z (noA b), e0.bs, e0.bsz, fun b _ _ => noA b, fun b z => absurd z (noA b), e0.funs, e0.frf⟩,
    rfl, e0.bare, Un.kept hk, ⟨_, x.toInCall.ns, fun i y v h1 h2 h3 => ?_⟩, fun y c h => ⟨_, x.cell y c h⟩, e0.hok.fresh (Nat.le_refl _), fun y c h => ?_, fun p hp => absurd (show p ∈ ([] : List (Addr × Obj)) from hp) (by simp), e0.hok.kept hk, ?_⟩
  · exact name_of_addr x.apart (PySem.mem_of_lookup h1) (PySem.mem_of_lookup h2)
  · have hy : scope.names.lookup y = some .cell ∨ scope.names.lookup y = some .free := hy
    rcases hy with hy | hy
    · exact cell_has hy
    · exact absurd rfl (S.nofree _ (PySem.mem_of_lookup hy))
  · exact Nat.le_of_lt (x.above y c (PySem.mem_of_lookup h))
  · have hi : i < vs.length := by
      unfold start at h2
      by_cases hi : i < vs.length
      · exact hi
      · rw [List.getElem?_append_right (by simpa using hi)] at h2
        rw [List.getElem?_replicate] at h2
        split at h2 <;> cases h2
    have ha : vs[i]? = some v := by
      unfold start at h2
      rw [List.getElem?_append_left (by simpa using hi), List.getElem?_map] at h2
      cases e : vs[i]? with
      | none => rw [e] at h2; cases h2
      | some a => rw [e] at h2; cases h2; rfl
    obtain ⟨u, hu, rv⟩ := r.get ha
    have hp : ps[i]? = some y := by
      rw [← S.pre, List.getElem?_take_of_lt (by omega)]; exact h1
    have ndP : ps.Nodup := by rw [← S.pre]; exact S.nd.sublist (List.take_sublist _ _)
    refine ⟨u, rv, ?_⟩
    rcases S.par y (List.mem_of_getElem? hp) with k | k
    · exact .inl ⟨k, bindL_get ndP hp hu k⟩
    · obtain ⟨c, e⟩ := cell_has (n := s.heap.objs.size + 1) k
      refine .inr ⟨.inl k, c, e, ?_⟩
      have q := x.cell y c e
      rw [bindC_get ndP hp hu (by show scope.names.lookup y ≠ _; rw [k]; decide)] at q
      exact q
  · exact e0.hok.fresh (Nat.le_of_lt (x.above y c (PySem.mem_of_lookup h)))
  · unfold start
    show _ = N.length
    rw [List.length_append, List.length_map, List.length_replicate]
    omega
theorem fn_of {CX : CXT} {P : Program} {w : World} {K : PySem.W.Frag} {mg : Str → Option Value} {base : Heap} {k : Nat} {f : Addr} {name qual : Str} {params : Arguments} {body : List Stmt} {scope : Scope} {dV kV doc pm cdv ct oc : Value} {an od : Option Addr}
    {osl : Array (Option Value)} {N ps : List Str} {sp : Sp} (lk : K.lookup f = some ⟨oc, od, .func (PySem.W.fnOf name qual params body scope dV kV doc pm an cdv ct), osl⟩) (hcd : PySem.W.codeIn K cdv qual = true) (S : FnScope N ps scope)
    (len : ∀ vs H Q E, sp vs H Q E → vs.length = ps.length)
    (hbody : ∀ (A : Around) (outer : List Env) (s : Shared) (H : Hp) (vs : List V) (Q : VK) (E : XK), Room k (A.deeper (envOfC qual scope s.heap.objs.size f cdv)) → sp vs H Q E →
      ∃ t, PSs (cxOf CX P w K mg base N qual scope f cdv A outer s H E) body t ∧ t { nx := fun _ H' => Q .non H', rt := Q } (start N vs) H) :
    FnOk P w K mg base CX (k + 1) f (PySem.W.fnOf name qual params body scope dV kV doc pm an cdv ct) ps sp := by
  refine ⟨len, fun A outer s H args us vs Q E hr e0 hb r hsp => ?_⟩
  have hl := len _ _ _ _ hsp
  have KX : K.In s.heap := e0.mod.kin.keeps fun b o e => (e0.bs b o e).1
  have lim : s.heap.NoLimit := e0.mod.nolimit.keeps fun b o e => (e0.bs b o e).1
  have hkind : ∀ y ∈ ps.zip us, scope.names.lookup y.1 = some .local ∨ (scope.names.lookup y.1 = some .cell ∧ ((cellsFrom (s.heap.objs.size + 1) scope.names []).lookup y.1).isSome = true) := fun ⟨n, v⟩ hy => by
    rcases S.par n (List.of_mem_zip hy).1 with q | q
    · exact .inl q
    · exact .inr ⟨q, PySem.W.cellsFrom_some _ _ _ (.inl q)⟩
  refine codeAny_call_function hr.depth (KX _ _ lk) rfl S.co S.gen rfl (PySem.W.codeRec_of KX hcd) (hb _ _ _ _ ?_)
  refine wpAny_newFunctionEnv_cells S.kind hkind fun env he s1 x => ?_
  subst he
  refine ⟨lim.keeps x.toInCall.keep, codeAny_func ?_⟩
  obtain ⟨t, ht, hq⟩ := hbody A outer s H vs Q E (hr.deeper _) hsp
  have I : Inv (cxOf CX P w K mg base N qual scope f cdv A outer s H E) [] (start N vs) H s1 := inv_start S hr.hd e0 hl r x
  refine wpAny_mono (ht [] s1 (start N vs) H _ I hq) (fun fl s' hs => ?_) fun e s' hs => hs
  have fin : ∀ {σ' : St} {H' : Hp} {v : V} {u : Value}, Inv (cxOf CX P w K mg base N qual scope f cdv A outer s H E) [] σ' H' s' → RelV v u → Q v H' → CE outer P w H s Q u s' :=
    fun {σ' H' v u} J rv q => ⟨v, H', J.os, J.bare, J.base, J.hok, rv, q⟩
  cases fl with
  | ret u =>
    obtain ⟨v, σ', H', J, rv, q⟩ := hs
    exact fin J rv q
  | next =>
    obtain ⟨σ', H', J, q⟩ := hs
    exact fin (v := V.non) (u := Value.none) J rfl q
  | brk =>
    obtain ⟨_, _, _, q⟩ := hs
    exact False.elim q
  | cont =>
    obtain ⟨_, _, _, q⟩ := hs
    exact False.elim q
end L2
namespace L2
open PySem PySem.Spec PyProof.Rows
section
variable {X : Cx} {x : Str} {p pos : Pos} {e : Expr} {es : List Expr} {t : TA} {id T : String} {r : List V → Hp → VK → Prop}
def tCB (r : List V → Hp → VK → Prop) (t : TA) : TE := fun σ H Q => t σ H fun vs H1 => r vs H1 Q
theorem pe_callB (hc : CallR X (.builtin id) r) (hg : Gl X x) (hm : X.mg x = none) (hv : bootBuiltins x = some (.builtin id)) (ha : PA X (e :: es) t) (hn : x ≠ "__name__" := by decide) (hdb : (x == ("__debug__" : Str)) = false := by decide)
    (he : starEach (e :: es) X.env = (false, eval e X.env) :: starEach es X.env := by rfl) (hpl : (backTo pos (starEach es X.env)).any (·.1) = false := by rfl) : PE X (.Call (.Name x p) (e :: es) [] pos) (tCB r t) := by
  intro pins s σ H Q I h
  refine wpAny_Call_Name_kw (ld_blt I hg hm hv ?_ hn hdb)
  exact PyProof.Rows.callWith_builtin1 (thn (ha pos pins s σ H _ I h) fun us s1 ⟨vs, H1, I1, r1, q1⟩ => hc pins s1 σ H1 vs us Q I1 r1 q1) he hpl
theorem pe_callTy (hc : CallR X (.type T) r) (hg : Gl X x) (hm : X.mg x = none) (hv : bootBuiltins x = some (.type T)) (ha : PA X (e :: es) t) (hn : x ≠ "__name__" := by decide) (hdb : (x == ("__debug__" : Str)) = false := by decide)
    (he : starEach (e :: es) X.env = (false, eval e X.env) :: starEach es X.env := by rfl) (hpl : (backTo pos (starEach es X.env)).any (·.1) = false := by rfl) : PE X (.Call (.Name x p) (e :: es) [] pos) (tCB r t) := by
  intro pins s σ H Q I h
  refine wpAny_Call_Name_kw (ld_blt I hg hm hv ?_ hn hdb)
  exact PyProof.Rows.callWith_type1 (thn (ha pos pins s σ H _ I h) fun us s1 ⟨vs, H1, I1, r1, q1⟩ => hc pins s1 σ H1 vs us Q I1 r1 q1) he hpl
end
end L2
namespace HT
open PySem PyProof.Rows
def lexLt : List Int → List Int → Bool
  | [], [] => false
  | [], _ :: _ => true
  | _ :: _, [] => false
  | x :: xs, y :: ys => if x = y then lexLt xs ys else decide (x < y)
section
open PySem.SeqAt
open PySem.AutoSeq1 (wpAny_loadPart')
open PySem.MeetsSeq PySem.MeetsSeq2 PySem.MeetsSeq3
end
section
variable {prog : Program} {w : World} {A : Around} {E : Value → Shared → Prop} {s : Shared}
def sIx (n d : Nat) : Option Int → Nat
  | none => d
  | some v => if v < 0 then (v + (n : Int)).toNat else min v.toNat n
theorem sIx_none (n d : Nat) : sIx n d none = d := rfl
theorem sIx_nat (n d k : Nat) : sIx n d (some (k : Int)) = min k n := by
  show (if (k : Int) < 0 then ((k : Int) + (n : Int)).toNat else min (k : Int).toNat n) = min k n
  rw [if_neg (by omega), Int.toNat_natCast]
end
end HT
namespace L2
open PySem PySem.Spec PyProof.Rows
abbrev TO := St → Hp → (Option Int → Hp → Prop) → Prop
def PO (X : Cx) (e : Option Expr) (t : TO) : Prop :=
  ∀ (pins : List (Addr × Obj)) (s : Shared) (σ : St) (H : Hp) (Q : Option Int → Hp → Prop), Inv X pins σ H s → t σ H Q →
    wpAny (model X.prog X.w) X.A (evalPart e X.env) (fun u s' => ∃ o H', Inv X pins σ H' s' ∧ IsPart u o ∧ Q o H') X.xe s
def tNoPart : TO := fun _ H Q => Q none H
def tPart (t : TE) : TO := fun σ H Q => t σ H fun x H1 => ∃ i, x = .int i ∧ Q (some i) H1
section
variable {X : Cx} {e : Expr} {te : TE} {lo hi : Option Expr} {tl th : TO} {pos p2 : Pos}
theorem po_none : PO X none tNoPart := by
  intro pins s σ H Q I h
  rw [evalPart_none]
  exact wpAny_pure ⟨none, H, I, .none, h⟩
theorem po_some (h : PE X e te) : PO X (some e) (tPart te) := by
  intro pins s σ H Q I hw
  rw [evalPart_some]
  refine thn (h pins s σ H _ I hw) fun u s1 ⟨x, H1, I1, r1, q1⟩ => ?_
  obtain ⟨i, rfl, q⟩ := q1
  obtain ⟨t, rfl⟩ := r1
  exact ⟨some i, H1, I1, .int i t, q⟩
def SlR (X : Cx) (r : V → Option Int → Option Int → Hp → VK → Prop) : Prop :=
  ∀ (pins : List (Addr × Obj)) (s : Shared) (σ : St) (H : Hp) (x : V) (v vl vu : Value) (lo hi : Option Int) (sl : Addr) (Q : VK), Inv X pins σ H s → RelV x v → s.heap.IsSliceOf sl vl vu .none → IsPart vl lo → IsPart vu hi → r x lo hi H Q →
    ∃ T id, typeLookup (.type T) "__getitem__" = pure (some (.builtin id)) ∧ s.TypeIs v T ∧ wpAny (model X.prog X.w) X.A (getItem v (.ref sl)) (EP X pins σ Q) X.xe s
theorem SlR.or {r r' : V → Option Int → Option Int → Hp → VK → Prop} (h : SlR X r) (h' : SlR X r') : SlR X (fun x lo hi H Q => r x lo hi H Q ∨ r' x lo hi H Q) := by
  intro pins s σ H x v vl vu lo hi sl Q I rx hs pl pu q
  rcases q with q | q
  · exact h pins s σ H x v vl vu lo hi sl Q I rx hs pl pu q
  · exact h' pins s σ H x v vl vu lo hi sl Q I rx hs pl pu q
def tSl (r : V → Option Int → Option Int → Hp → VK → Prop) (te : TE) (tl th : TO) : TE := fun σ H Q => te σ H fun x H1 => tl σ H1 fun l H2 => th σ H2 fun u H3 => r x l u H3 Q
theorem pe_slice {r : V → Option Int → Option Int → Hp → VK → Prop} (hr : SlR X r) (he : PE X e te) (hl : PO X lo tl) (hu : PO X hi th) : PE X (.Subscript e (.Slice lo hi none p2) pos) (tSl r te tl th) := by
  intro pins s σ H Q I h
  refine Subscript_ (thn (he pins s σ H _ I h) fun v s1 ⟨x, H1, I1, r1, q1⟩ => ?_)
  refine wpAny_Slice (thn (hl pins s1 σ H1 _ I1 q1) fun vl s2 ⟨l, H2, I2, pl, q2⟩ => thn (hu pins s2 σ H2 _ I2 q2) fun vu s3 ⟨u, H3, I3, pu, q3⟩ => ?_)
  rw [evalPart_none]
  refine wpAny_pure ?_
  have I4 : Inv X pins σ H3 { s3 with heap := s3.heap.push { cls := .type "slice", data := .fields #[vl, vu, .none] } } := I3.kept (t' := s3.toks) fun b ob q => Heap.get?_push_of_some _ q
  obtain ⟨T, id, hT, ht, hg⟩ := hr pins { s3 with heap := s3.heap.push { cls := .type "slice", data := .fields #[vl, vu, .none] } } σ H3 x v vl vu l u s3.heap.objs.size Q I4 r1 (Heap.IsSliceOf.new ..) pl pu q3
  show wpAny (model X.prog X.w) X.A (subscriptTail e (.Slice lo hi none p2) v (.ref s3.heap.objs.size)) (EP X pins σ Q) X.xe { s3 with heap := s3.heap.push { cls := .type "slice", data := .fields #[vl, vu, .none] } }
  exact tail_any (ops := [.ref s3.heap.objs.size, v]) ht hT hg (by with_unfolding_all rfl)
def cutV (xs : List V) (lo hi : Option Int) : List V := (xs.drop (HT.sIx xs.length 0 lo)).take (HT.sIx xs.length xs.length hi - HT.sIx xs.length 0 lo)
theorem cutV_length (xs : List V) (lo hi : Option Int) : (cutV xs lo hi).length ≤ xs.length := by
  unfold cutV
  rw [List.length_take, List.length_drop]
  omega
def rSlT (K : PySem.W.Frag) : V → Option Int → Option Int → Hp → VK → Prop := fun x lo hi H Q => ∃ a xs, x = .ref a ∧ SqT K H a xs ∧
  ¬ (HT.sIx xs.length 0 lo = 0 ∧ HT.sIx xs.length xs.length hi = xs.length) ∧ ∀ p, H p = none → Q (.ref p) (upd H p (.tup (cutV xs lo hi)))
def rLtT (K : PySem.W.Frag) : R2 := fun x y H Q => ∃ a b ns ms, x = .ref a ∧ y = .ref b ∧ SqT K H a (ns.map V.int) ∧ SqT K H b (ms.map V.int) ∧ Q (.bl (HT.lexLt ns ms)) H
def rCatT (K : PySem.W.Frag) : R2 := fun x y H Q => ∃ a b xs ys, x = .ref a ∧ y = .ref b ∧ SqT K H a xs ∧ SqT K H b ys ∧ xs ≠ [] ∧ xs.length + ys.length ≤ sizeLine ∧
  (ys = [] → Q (.ref a) H) ∧ (ys ≠ [] → ∀ p, H p = none → Q (.ref p) (upd H p (.tup (xs ++ ys))))
end
end L2
namespace L2
open PySem PySem.Spec PyProof.Rows
def ixN (n : Nat) (i : Int) : Option Nat := if 0 ≤ i then (if i < n then some i.toNat else none) else if -(n : Int) ≤ i then some (i + n).toNat else none
def atI {α : Type} (xs : List α) (i : Int) : Option α := (ixN xs.length i).bind fun j => xs[j]?
theorem ixN_seq {n : Nat} {i : Int} {j : Nat} (h : ixN n i = some j) : seqIndex? i n = some j ∧ j < n ∧ -(n : Int) ≤ i ∧ i < n := by
  unfold ixN at h
  by_cases h0 : 0 ≤ i
  · rw [if_pos h0] at h
    by_cases h1 : i < n
    · rw [if_pos h1] at h
      have e : i.toNat = j := Option.some.inj h
      exact ⟨by rw [seqIndex_of h0 h1, e], by omega, by omega, h1⟩
    · rw [if_neg h1] at h; cases h
  · rw [if_neg h0] at h
    by_cases h1 : -(n : Int) ≤ i
    · rw [if_pos h1] at h
      have e : (i + n).toNat = j := Option.some.inj h
      exact ⟨by rw [seqIndex_neg (by omega) h1, e], by omega, h1, by omega⟩
    · rw [if_neg h1] at h; cases h
theorem atI_get {α : Type} {xs : List α} {i : Int} {v : α} (h : atI xs i = some v) : ∃ j, seqIndex? i xs.length = some j ∧ xs[j]? = some v ∧ j < xs.length ∧ -(xs.length : Int) ≤ i ∧ i < xs.length := by
  unfold atI at h
  cases e : ixN xs.length i with
  | none => rw [e] at h; cases h
  | some j =>
    rw [e] at h
    obtain ⟨h1, h2, h3, h4⟩ := ixN_seq e
    exact ⟨j, h1, h, h2, h3, h4⟩
theorem atI_nat {α : Type} {xs : List α} {j : Nat} {v : α} (h : xs[j]? = some v) : atI xs (j : Int) = some v := by
  have hj : j < xs.length := (List.getElem?_eq_some_iff.mp h).1
  have e : ixN xs.length (j : Int) = some j := by
    unfold ixN
    rw [if_pos (by omega), if_pos (by omega)]; simp
  unfold atI; rw [e]; exact h
def PlainIx (b : Expr) : Prop := ∀ o i, subscripted b false o i = operate [o, i] (getItem o i)
def IxR (X : Cx) (r : R2) : Prop :=
  ∀ (value slice : Expr) (pins : List (Addr × Obj)) (s : Shared) (σ : St) (H : Hp) (x y : V) (v u : Value) (Q : VK), Inv X pins σ H s → RelV x v → RelV y u → r x y H Q →
    subscripted slice false v u = operate [v, u] (getItem v u) → wpAny (model X.prog X.w) X.A (subscriptTail value slice v u) (EP X pins σ Q) X.xe s
def MtR (X : Cx) (id : String) (r : V → List V → Hp → VK → Prop) : Prop :=
  ∀ (pins : List (Addr × Obj)) (s : Shared) (σ : St) (H : Hp) (x : V) (xs : List V) (v : Value) (us : List Value) (Q : VK), Inv X pins σ H s → RelV x v → Vals xs us → r x xs H Q →
    wpAny (model X.prog X.w) X.A (call (.builtin id) (v :: us)) (EP X pins σ Q) X.xe s
section
variable {X : Cx} {a b : Expr} {ta tb : TE} {pos : Pos}
theorem IxR.or {r r' : R2} (h : IxR X r) (h' : IxR X r') : IxR X (fun x y H Q => r x y H Q ∨ r' x y H Q) := by
  intro value slice pins s σ H x y v u Q I rx ry q hs
  rcases q with q | q
  · exact h value slice pins s σ H x y v u Q I rx ry q hs
  · exact h' value slice pins s σ H x y v u Q I rx ry q hs
theorem MtR.or {id : String} {r r' : V → List V → Hp → VK → Prop} (h : MtR X id r) (h' : MtR X id r') : MtR X id (fun x xs H Q => r x xs H Q ∨ r' x xs H Q) := by
  intro pins s σ H x xs v us Q I rx rs q
  rcases q with q | q
  · exact h pins s σ H x xs v us Q I rx rs q
  · exact h' pins s σ H x xs v us Q I rx rs q
theorem pe_ix {r : R2} (hr : IxR X r) (ha : PE X a ta) (hb : PE X b tb) (hs : PlainIx b) : PE X (.Subscript a b pos) (tOp r ta tb) := by
  intro pins s σ H Q I h
  exact Subscript_ (binT ha hb I h fun v u s2 x y H2 I2 rx ry q => hr a b pins s2 σ H2 x y v u Q I2 rx ry q (hs _ _))
def rIxL (K : PySem.W.Frag) : R2 := fun x y H Q => ∃ p xs i v, x = .ref p ∧ y = .int i ∧ SqL K H p xs ∧ atI xs i = some v ∧ Q v H
def rIxT (K : PySem.W.Frag) : R2 := fun x y H Q => ∃ p xs i v, x = .ref p ∧ y = .int i ∧ SqT K H p xs ∧ atI xs i = some v ∧ Q v H
def rIxS : R2 := fun x y H Q => ∃ z i c, x = .str z ∧ y = .int i ∧ z.length ≤ sizeLine ∧ atI z.cps.toList i = some c ∧ Q (.str ⟨#[c]⟩) H
theorem ix_list : IxR X (rIxL X.K) := by
  intro value slice pins s σ H x y v u Q I rx ry h hs
  obtain ⟨p, xs, i, z, rfl, rfl, hq, he, q⟩ := h
  cases rx
  obtain ⟨t, rfl⟩ := ry
  obtain ⟨its, r, pl, hz⟩ := I.list hq
  obtain ⟨j, h1, h2, h3, h4, h5⟩ := atI_get he
  obtain ⟨w, ew, rw'⟩ := r.get h2
  have hl := r.length
  have hn := line63
  have fin : EP X pins σ Q w s := ⟨z, H, I, rw', q⟩
  by_cases h0 : 0 ≤ i
  · have hj : i.toNat = j := by
      rw [seqIndex_of h0 h5] at h1
      exact Option.some.inj h1
    exact item_listR pl.isList h0 (by omega) (by rw [hj]; simpa using ew) fin hs
  · have hj : (i + (its.toArray.size : Int)).toNat = j := by
      rw [seqIndex_neg (by omega) h4] at h1
      rw [List.size_toArray, ← hl]
      exact Option.some.inj h1
    exact subscriptTail_builtinR (x := w) pl.isList.typeIs slot_list_getitem.lookup
      (wpAny_getItem_list_neg (Q := fun r s' => r = w ∧ EP X pins σ Q r s') pl.isList (by omega) (by rw [List.size_toArray] <;> omega) (by omega) (by rw [hj]; simpa using ew) ⟨rfl, fin⟩) hs
theorem ix_tup : IxR X (rIxT X.K) := by
  intro value slice pins s σ H x y v u Q I rx ry h hs
  obtain ⟨p, xs, i, z, rfl, rfl, hq, he, q⟩ := h
  cases rx
  obtain ⟨t, rfl⟩ := ry
  obtain ⟨its, r, pl, hz⟩ := I.tuple hq
  obtain ⟨j, h1, h2, h3, h4, h5⟩ := atI_get he
  obtain ⟨w, ew, rw'⟩ := r.get h2
  have hl := r.length
  have hn := line63
  have fin : EP X pins σ Q w s := ⟨z, H, I, rw', q⟩
  exact subscriptTail_builtinR (x := w) pl.typeIs slot_tuple_getitem.lookup
    (getItem_tuple (j := j) (Q := fun r s' => r = w ∧ EP X pins σ Q r s') pl (by omega) (by omega) (by rw [List.size_toArray, ← hl]; exact h1) (by simpa using ew) ⟨rfl, fin⟩) hs
def rIx (K : PySem.W.Frag) : R2 := fun x y H Q => rIxL K x y H Q ∨ rIxT K x y H Q ∨ rIxS x y H Q
theorem Inv.lst {pins : List (Addr × Obj)} {σ : St} {H : Hp} {s : Shared} {p : Addr} {xs : List V} (I : Inv X pins σ H s) (h : H p = some (.lst xs)) :
    ∃ (its : List Value) (n : Nat), Vals xs its ∧ s.heap.get? p = some { cls := .type "list", data := .seq its.toArray n } ∧ xs.length ≤ sizeLine := by
  obtain ⟨z, its, n, r, e⟩ := I.hok p _ h
  exact ⟨its, n, r, e, z⟩
def rSetL : V → V → V → Hp → (Hp → Prop) → Prop := fun o i v H Q => ∃ p xs k j, o = .ref p ∧ i = .int k ∧ H p = some (.lst xs) ∧ ixN xs.length k = some j ∧ Q (upd H p (.lst (xs.set j v)))
theorem slice_bounds (lo hi : Option Int) (n : Nat) : (sliceBounds lo hi none n).1 = ((HT.sIx n 0 lo : Nat) : Int) ∧ (sliceBounds lo hi none n).2.1 = ((HT.sIx n n hi : Nat) : Int) ∧ (sliceBounds lo hi none n).2.2 = 1 := by
  refine ⟨?_, ?_, rfl⟩
  · cases lo with
    | none => simp [sliceBounds, HT.sIx]
    | some i =>
      simp only [sliceBounds, HT.sIx, Option.getD_none, show (1 : Int) > 0 by decide, if_true]
      by_cases h : i < 0
      · simp only [h, if_true] <;> omega
      · simp only [h, if_false] <;> omega
  · cases hi with
    | none => simp [sliceBounds, HT.sIx]
    | some i =>
      simp only [sliceBounds, HT.sIx, Option.getD_none, show (1 : Int) > 0 by decide, if_true]
      by_cases h : i < 0
      · simp only [h, if_true] <;> omega
      · simp only [h, if_false] <;> omega
theorem slicePick_cut (its : List Value) (lo hi : Option Int) : slicePick its.toArray lo hi none = ((its.drop (HT.sIx its.length 0 lo)).take (HT.sIx its.length its.length hi - HT.sIx its.length 0 lo)).toArray := by
  obtain ⟨h1, h2, h3⟩ := slice_bounds lo hi its.toArray.size
  unfold slicePick
  rw [h1, h2, h3]
  simp only [sliceRange_one, pick_run, List.size_toArray] <;> rfl
def rSlL (K : PySem.W.Frag) : V → Option Int → Option Int → Hp → VK → Prop := fun x lo hi H Q => ∃ a xs, x = .ref a ∧ SqL K H a xs ∧ ∀ p, H p = none → Q (.ref p) (upd H p (.lst (cutV xs lo hi)))
theorem sl_list : SlR X (rSlL X.K) := by
  intro pins s σ H x v vl vu lo hi sl Q I rx hs pl pu h
  obtain ⟨a, xs, rfl, hx, q⟩ := h
  cases rx
  obtain ⟨its, r, ht, hz⟩ := I.list hx
  have hlen := r.length
  refine ⟨"list", _, slot_list_getitem.lookup, ht.isList.typeIs, ?_⟩
  refine wpAny_getItem_list_slice ht.isList hs pl pu .none (by simp) ?_ (by rw [List.size_toArray] <;> omega)
  rw [slicePick_cut, ← hlen]
  refine ⟨.ref s.heap.objs.size, _, I.laid (t' := s.toks) (o := .lst (cutV xs lo hi)) (fun b ob q => Heap.get?_push_of_some _ q) (Nat.le_refl _) ?_, rfl, q _ (I.hok.fresh (Nat.le_refl _))⟩
  exact ⟨Nat.le_trans (cutV_length xs lo hi) hz, _, 0, (r.drop (HT.sIx xs.length 0 lo)).take (HT.sIx xs.length xs.length hi - HT.sIx xs.length 0 lo), Heap.get?_push_size _ rfl⟩
def flatV : V → Bool
  | .non => true
  | .bl _ => true
  | .int _ => true
  | .str _ => true
  | _ => false
def eqV : V → V → Bool
  | .non, .non => true
  | .bl a, .bl b => a == b
  | .bl a, .int b => (if a then 1 else 0) == b
  | .int a, .bl b => a == (if b then 1 else 0)
  | .int a, .int b => a == b
  | .str a, .str b => a == b
  | _, _ => false
theorem eqAt_V {A : Around} {s : Shared} {y x : V} {u v : Value} (ry : RelV y u) (rx : RelV x v) (fy : flatV y = true) (fx : flatV x = true) : SeqAt.EqAt A s u v (eqV y x) := by
  cases y with
  | non =>
    cases ry
    cases x with
    | non => cases rx; exact SeqAt.EqAt.same _
    | bl b => cases rx; exact SeqAt.EqAt.none_bool b
    | int b => obtain ⟨t, rfl⟩ := rx; exact SeqAt.EqAt.none_int b t
    | str b => obtain ⟨t, rfl⟩ := rx; exact SeqAt.EqAt.none_str b t
    | _ => exact absurd (show false = true from fx) Bool.false_ne_true
  | bl a =>
    cases ry
    cases x with
    | non => cases rx; exact SeqAt.EqAt.bool_none a
    | bl b => cases rx; exact SeqAt.EqAt.bool_bool a b
    | int b => obtain ⟨t, rfl⟩ := rx; exact SeqAt.EqAt.bool_int a b t
    | str b => obtain ⟨t, rfl⟩ := rx; exact SeqAt.EqAt.bool_str a b t
    | _ => exact absurd (show false = true from fx) Bool.false_ne_true
  | int a =>
    obtain ⟨t', rfl⟩ := ry
    cases x with
    | non => cases rx; exact SeqAt.EqAt.int_none a t'
    | bl b => cases rx; exact SeqAt.EqAt.int_bool a t' b
    | int b => obtain ⟨t, rfl⟩ := rx; exact SeqAt.EqAt.int_int a t' b t
    | str b => obtain ⟨t, rfl⟩ := rx; exact SeqAt.EqAt.int_str a t' b t
    | _ => exact absurd (show false = true from fx) Bool.false_ne_true
  | str a =>
    obtain ⟨t', rfl⟩ := ry
    cases x with
    | non => cases rx; exact SeqAt.EqAt.str_none a t'
    | bl b => cases rx; exact SeqAt.EqAt.str_bool a t' b
    | int b => obtain ⟨t, rfl⟩ := rx; exact SeqAt.EqAt.str_int a t' b t
    | str b => obtain ⟨t, rfl⟩ := rx; exact SeqAt.EqAt.str_str a t' b t
    | _ => exact absurd (show false = true from fx) Bool.false_ne_true
  | _ => exact absurd (show false = true from fy) Bool.false_ne_true
def eqU (x : V) (u : Value) : Bool := match u with
  | .none => eqV .non x
  | .bool b => eqV (.bl b) x
  | .int i _ => eqV (.int i) x
  | .str z _ => eqV (.str z) x
  | _ => false
theorem eqU_of {x y : V} {u : Value} (r : RelV y u) (f : flatV y = true) : eqU x u = eqV y x := by
  cases y with
  | non => cases r; rfl
  | bl b => cases r; rfl
  | int i => obtain ⟨t, rfl⟩ := r; rfl
  | str z => obtain ⟨t, rfl⟩ := r; rfl
  | _ => exact absurd (show false = true from f) Bool.false_ne_true
theorem any_eqU {x : V} : ∀ {xs : List V} {us : List Value}, Vals xs us → xs.all flatV = true → us.any (eqU x) = xs.any fun y => eqV y x
  | _, _, .nil, _ => rfl
  | y :: xs, u :: us, .cons r t, f => by
    rw [List.all_cons, Bool.and_eq_true] at f
    rw [List.any_cons, List.any_cons, eqU_of r f.1, any_eqU t f.2]
theorem mem_eqAt {A : Around} {s : Shared} {x : V} {v : Value} (rx : RelV x v) (fx : flatV x = true) : ∀ {xs : List V} {us : List Value}, Vals xs us → xs.all flatV = true → ∀ u ∈ us, SeqAt.EqAt A s u v (eqU x u)
  | _, _, .nil, _ => fun u hu => by cases hu
  | y :: xs, u :: us, .cons r t, f => fun u' hu => by
    rw [List.all_cons, Bool.and_eq_true] at f
    rcases List.mem_cons.mp hu with rfl | hu
    · rw [eqU_of r f.1]; exact eqAt_V r rx f.1 fx
    · exact mem_eqAt rx fx t f.2 u' hu
def inV (x : V) (xs : List V) : Bool := xs.any fun y => eqV y x
def rIn (K : PySem.W.Frag) (neg : Bool) : R2 := fun x y H Q => ∃ p xs, y = .ref p ∧ (SqL K H p xs ∨ SqT K H p xs) ∧ flatV x = true ∧ xs.all flatV = true ∧ Q (.bl (if neg then !inV x xs else inV x xs)) H
theorem op_in_seq : OpR X (compareOp .In) (rIn X.K false) := by
  intro pins s σ H x y v u Q I rx ry h
  obtain ⟨p, xs, rfl, hq, fx, fs, q⟩ := h
  cases ry
  rcases hq with hq | hq
  · obtain ⟨its, r, pl, hz⟩ := I.list hq
    refine SeqAt.in_listAt (eqU x) pl.isList (fun w hw => mem_eqAt rx fx r fs w (by simpa using hw)) ⟨.bl _, H, I, rfl, ?_⟩
    rw [show its.toArray.any (eqU x) = its.any (eqU x) by simp, any_eqU r fs]
    exact q
  · obtain ⟨its, r, pl, hz⟩ := I.tuple hq
    refine SeqAt.in_tupleAt (eqU x) pl (fun w hw => mem_eqAt rx fx r fs w (by simpa using hw)) ⟨.bl _, H, I, rfl, ?_⟩
    rw [show its.toArray.any (eqU x) = its.any (eqU x) by simp, any_eqU r fs]
    exact q
theorem op_notIn_seq : OpR X (compareOp .NotIn) (rIn X.K true) := by
  intro pins s σ H x y v u Q I rx ry h
  obtain ⟨p, xs, rfl, hq, fx, fs, q⟩ := h
  cases ry
  rcases hq with hq | hq
  · obtain ⟨its, r, pl, hz⟩ := I.list hq
    refine SeqAt.notIn_listAt (eqU x) pl.isList (fun w hw => mem_eqAt rx fx r fs w (by simpa using hw)) ⟨.bl _, H, I, rfl, ?_⟩
    rw [show its.toArray.any (eqU x) = its.any (eqU x) by simp, any_eqU r fs]
    exact q
  · obtain ⟨its, r, pl, hz⟩ := I.tuple hq
    refine SeqAt.notIn_tupleAt (eqU x) pl (fun w hw => mem_eqAt rx fx r fs w (by simpa using hw)) ⟨.bl _, H, I, rfl, ?_⟩
    rw [show its.toArray.any (eqU x) = its.any (eqU x) by simp, any_eqU r fs]
    exact q
theorem call_len_seq : CallR X (.builtin "len") (fun xs H Q => ∃ p ys, xs = [.ref p] ∧ (SqL X.K H p ys ∨ SqT X.K H p ys) ∧ Q (.int ys.length) H) := by
  intro pins s σ H xs us Q I r h
  obtain ⟨p, ys, rfl, hq, q⟩ := h
  obtain ⟨u, rfl, rx⟩ := vals1 r
  cases rx
  have hn := line63
  rcases hq with hq | hq
  · obtain ⟨its, r', pl, hz⟩ := I.list hq
    have hlen := r'.length
    exact Calls.call_len_list pl.isList (by simp only [List.size_toArray] <;> omega) ⟨.int ys.length, H, I.tok _, ⟨s.toks + 1, by rw [List.size_toArray, hlen]⟩, q⟩
  · obtain ⟨its, r', pl, hz⟩ := I.tuple hq
    have hlen := r'.length
    exact len_tuple pl (by simp only [List.size_toArray] <;> omega) ⟨.int ys.length, H, I.tok _, ⟨s.toks + 1, by rw [List.size_toArray, hlen]⟩, q⟩
theorem CallR.or {f : Value} {r r' : List V → Hp → VK → Prop} (h : CallR X f r) (h' : CallR X f r') : CallR X f (fun xs H Q => r xs H Q ∨ r' xs H Q) := by
  intro pins s σ H xs us Q I rs q
  rcases q with q | q
  · exact h pins s σ H xs us Q I rs q
  · exact h' pins s σ H xs us Q I rs q
theorem call_list_of : CallR X (.type "list") (fun xs H Q => ∃ p ys, xs = [.ref p] ∧ (SqL X.K H p ys ∨ SqT X.K H p ys) ∧ ∀ l, H l = none → Q (.ref l) (upd H l (.lst ys))) := by
  intro pins s σ H xs us Q I r h
  obtain ⟨p, ys, rfl, hq, q⟩ := h
  obtain ⟨u, rfl, rx⟩ := vals1 r
  cases rx
  have fin : ∀ (its : List Value), Vals ys its → ys.length ≤ sizeLine → ∀ (h' : Heap) (c' : Nat), (∀ b o', s.heap.get? b = some o' → h'.get? b = some o') →
      h'.get? s.heap.objs.size = some { cls := .type "list", dict := none, data := .seq its.toArray c', slots := #[] } → EP X pins σ Q (.ref s.heap.objs.size) { s with heap := h' } := fun its r' hz h' c' kp e =>
    ⟨.ref s.heap.objs.size, _, I.laid (t' := s.toks) kp (Nat.le_refl _) (show ObjOk X.prog X.w _ h' _ (.lst ys) from ⟨hz, its, c', r', e⟩), rfl, q _ (I.hok.fresh (Nat.le_refl _))⟩
  rcases hq with hq | hq
  · obtain ⟨its, r', pl, hz⟩ := I.list hq
    have hlen := r'.length
    obtain ⟨o, ho, hc, n, hd⟩ := pl.isList
    exact call_list_seq p (.inl rfl) ho hc hd (fun h' c' kp e => fin its r' hz h' c' kp e) (by simp only [List.size_toArray] <;> omega)
  · obtain ⟨its, r', pl, hz⟩ := I.tuple hq
    have hlen := r'.length
    obtain ⟨o, ho, hc, n, hd⟩ := pl
    exact call_list_seq p (.inr rfl) ho hc hd (fun h' c' kp e => fin its r' hz h' c' kp e) (by simp only [List.size_toArray] <;> omega)
def tyV (K : PySem.W.Frag) (T : String) (x : V) (H : Hp) : Prop := match x with
  | .str _ => T = "str"
  | .int _ => T = "int"
  | .ref p => (T = "list" ∧ ∃ xs, SqL K H p xs) ∨ (T = "tuple" ∧ ∃ o, K.lookup p = some o ∧ o.cls = .type "tuple" ∧ o.dict = none) ∨
      (T = "dict" ∧ ((∃ kvs, H p = some (.dK kvs)) ∨ ∃ kvs, H p = some (.dT kvs))) ∨ (T = "set" ∧ ∃ S n, H p = some (.set S n))
  | _ => False
theorem tyV_is {pins : List (Addr × Obj)} {σ : St} {H : Hp} {s : Shared} {T : String} {x : V} {v : Value} (I : Inv X pins σ H s) (r : RelV x v) (ty : tyV X.K T x H) :
    s.TypeIs v T ∧ ∀ a, v = .ref a → ∃ ob, s.heap.get? a = some ob ∧ ob.dict = none := by
  cases x with
  | str z =>
    obtain ⟨t, rfl⟩ := r
    cases (show T = "str" from ty)
    exact ⟨typeIs_str s z t, fun _ e => nomatch e⟩
  | int i =>
    obtain ⟨t, rfl⟩ := r
    cases (show T = "int" from ty)
    exact ⟨typeIs_int s i t, fun _ e => nomatch e⟩
  | ref p =>
    cases r
    rcases ty with ⟨rfl, xs, hq⟩ | ⟨rfl, o, hk, hc, hd⟩ | ⟨rfl, hk⟩ | ⟨rfl, S, n, hk⟩
    · obtain ⟨its, _, pl, _⟩ := I.list hq
      refine ⟨pl.isList.typeIs, fun a e => ?_⟩
      cases e
      obtain ⟨o, n, e, c, hd, _⟩ := pl
      exact ⟨o, e, hd⟩
    · refine ⟨⟨o, I.kIn p o hk, hc⟩, fun a e => ?_⟩
      cases e
      exact ⟨o, I.kIn _ o hk, hd⟩
    · have z : ∃ o, s.heap.get? p = some o ∧ o.ExactDict := by
        rcases hk with ⟨kvs, hk⟩ | ⟨kvs, hk⟩
        · obtain ⟨_, _, _, _, o, _, _, e, ex, _⟩ := I.hok p _ hk
          exact ⟨o, e, ex⟩
        · obtain ⟨_, _, _, _, o, _, _, e, ex, _⟩ := I.hok p _ hk
          exact ⟨o, e, ex⟩
      obtain ⟨o, e, ex⟩ := z
      refine ⟨⟨o, e, ex.1⟩, fun a e2 => ?_⟩
      cases e2
      exact ⟨o, e, ex.2.1⟩
    · obtain ⟨o, _, _, _, e, ex, _⟩ := I.hok p _ hk
      refine ⟨⟨o, e, ex.1⟩, fun a e2 => ?_⟩
      cases e2
      exact ⟨o, e, ex.2.1⟩
  | _ => exact False.elim ty
def tBM0 (K : PySem.W.Frag) (T : String) (r : V → List V → Hp → VK → Prop) (to : TE) : TE := fun σ H Q => to σ H fun x H1 => tyV K T x H1 ∧ r x [] H1 Q
def tBM (K : PySem.W.Frag) (T : String) (r : V → List V → Hp → VK → Prop) (to : TE) (t : TA) : TE := fun σ H Q => to σ H fun x H1 => tyV K T x H1 ∧ t σ H1 fun xs H2 => r x xs H2 Q
variable {o e : Expr} {es : List Expr} {to : TE} {t : TA} {name : Str} {apos cpos : Pos} {T id : String} {r : V → List V → Hp → VK → Prop}
theorem pe_bm0 (pa : PlainAttrs T) (slot : Slot T name id) (hty : typeOf (.builtin id) = pure (.type "method_descriptor")) (hm : MtR X id r) (ho : PE X o to)
    (hbase : attributeBase o name X.env (eval o X.env) = eval o X.env := by rfl) (hline : (apos.endLine == cpos.line) = true := by rfl) : PE X (.Call (.Attribute o name apos) [] [] cpos) (tBM0 X.K T r to) := by
  intro pins s σ H Q I h
  refine wpAny_Call_method0_late hbase hline (thn (ho pins s σ H _ I h) fun v s1 ⟨x, H1, I1, r1, ty, q1⟩ => ?_)
  obtain ⟨h1, h2⟩ := tyV_is I1 r1 ty
  exact ⟨T, id, pa, slot, hty, h1, h2, Calls.callWith_builtin rfl (PySem.evalArgs_none (hm pins s1 σ H1 x [] v [] Q I1 r1 .nil q1))⟩
theorem pe_bm (pa : PlainAttrs T) (slot : Slot T name id) (hty : typeOf (.builtin id) = pure (.type "method_descriptor")) (hm : MtR X id r) (ho : PE X o to) (ha : PA X (e :: es) t)
    (hbase : attributeBase o name X.env (eval o X.env) = eval o X.env := by rfl)
    (hfew : ((backTo cpos (starEach (e :: es) X.env)).all (fun x => !x.1) && (backToKw cpos (keywordEach [] X.env)).all (fun x => x.1.isSome)
      && decide ((e :: es).length + ([] : List Keyword).length + (if ([] : List Keyword).isEmpty then 0 else 1) < 30)) = true := by rfl)
    (hline : (apos.endLine == cpos.line) = true := by rfl) (hs : starEach (e :: es) X.env = (false, eval e X.env) :: starEach es X.env := by rfl) (hplain : (backTo cpos (starEach es X.env)).any (·.1) = false := by rfl) :
    PE X (.Call (.Attribute o name apos) (e :: es) [] cpos) (tBM X.K T r to t) := by
  intro pins s σ H Q I h
  refine wpAny_Call_method_late hbase hfew hline rfl (thn (ho pins s σ H _ I h) fun v s1 ⟨x, H1, I1, r1, ty, q1⟩ => ?_)
  obtain ⟨h1, h2⟩ := tyV_is I1 r1 ty
  refine ⟨T, id, pa, slot, hty, h1, h2, ?_⟩
  have hA := ha cpos pins s1 σ H1 _ I1 q1
  rw [hs] at hA ⊢
  refine Calls.callWith_builtin (by show (false || (backTo cpos (starEach es X.env)).any (·.1)) = false; rw [hplain] <;> rfl) (Calls.evalArgs_plain ?_)
  exact thn hA fun us s2 ⟨vs, H2, I2, r2, q2⟩ => hm pins s2 σ H2 x vs v us Q I2 r1 r2 q2
/- xs.append(e), list.index on a module's tuple .. are MtR facts of 06m -/
end
end L2
namespace L2
open PySem PySem.Spec PyProof.Rows
def MtM (X : Cx) (id : String) (r : V → List V → Hp → VK → Prop) : Prop :=
  ∀ (pins : List (Addr × Obj)) (s : Shared) (σ : St) (H : Hp) (x : V) (xs : List V) (v : Value) (us : List Value) (Q : VK), Inv X pins σ H s → RelV x v → Vals xs us → r x xs H Q →
    wpAny (model X.prog X.w) X.A (call (.builtin id) (v :: us)) (EP X pins σ Q) X.xe s
theorem Vals.one : ∀ {x : V} {us : List Value}, Vals [x] us → ∃ u, us = [u] ∧ RelV x u
  | _, _, .cons r .nil => ⟨_, rfl, r⟩
theorem Vals.two : ∀ {x y : V} {us : List Value}, Vals [x, y] us → ∃ u v, us = [u, v] ∧ RelV x u ∧ RelV y v
  | _, _, _, .cons r (.cons q .nil) => ⟨_, _, rfl, r, q⟩
theorem Vals.zero : ∀ {us : List Value}, Vals [] us → us = []
  | _, .nil => rfl
theorem Vals.dropLast {xs : List V} {us : List Value} (h : Vals xs us) : Vals xs.dropLast us.dropLast := by
  induction h with
  | nil => exact .nil
  | cons r t ih =>
    cases t with
    | nil => exact .nil
    | cons q t' => exact .cons r ih
theorem Vals.eraseIdx : ∀ {xs : List V} {us : List Value} (i : Nat), Vals xs us → Vals (xs.eraseIdx i) (us.eraseIdx i)
  | _, _, _, .nil => .nil
  | _, _, 0, .cons _ t => t
  | _, _, i + 1, .cons r t => .cons r (Vals.eraseIdx i t)
theorem Vals.reverse {xs : List V} {us : List Value} (h : Vals xs us) : Vals xs.reverse us.reverse := by
  induction h with
  | nil => exact .nil
  | cons r t ih => rw [List.reverse_cons, List.reverse_cons]; exact Vals.append ih (.cons r .nil)
theorem erase_last {α : Type} (l : List α) : l.eraseIdx (l.length - 1) = l.dropLast := by
  induction l with
  | nil => rfl
  | cons a r ih =>
    cases r with
    | nil => rfl
    | cons b r =>
      have e : (a :: b :: r).length - 1 = ((b :: r).length - 1) + 1 := by
        have h1 : (a :: b :: r).length = r.length + 2 := rfl
        have h2 : (b :: r).length = r.length + 1 := rfl
        omega
      rw [e, List.eraseIdx_cons_succ, ih]
      all_goals rfl
theorem len_erase {α : Type} : ∀ (l : List α) (i : Nat), (l.eraseIdx i).length ≤ l.length
  | [], _ => Nat.le_refl _
  | _ :: _, 0 => Nat.le_succ _
  | _ :: r, i + 1 => Nat.succ_le_succ (len_erase r i)
section
variable {X : Cx} {pins : List (Addr × Obj)} {σ : St} {H : Hp} {s : Shared} {l b : Addr} {xs ys zs : List V}
theorem Inv.lset {its its' : List Value} {n : Nat} {f : Array Value → Array Value} {t' : Nat} (I : Inv X pins σ H s) (hH : H l = some (.lst xs))
    (e : s.heap.get? l = some { cls := .type "list", data := .seq its.toArray n }) (hf : f its.toArray = its'.toArray) (hv : Vals ys its') (hz : ys.length ≤ sizeLine) :
    Inv X pins σ (upd H l (.lst ys)) { s with heap := s.heap.update l (Obj.mapSeq f), toks := t' } := by
  have q := PySem.IsL.update e f
  rw [hf] at q
  refine I.write (x := l) (e := l) (by rw [hH]; exact trivial) (.inl rfl) (fun b' u hb hu => (Heap.get?_update_other s.heap (Obj.mapSeq f) (Ne.symm hb)).trans hu) ⟨_, q⟩ ?_
  exact ⟨hz, its', _, hv, q⟩
theorem Inv.fresh (I : Inv X pins σ H s) : H s.heap.objs.size = none := I.hok.fresh (Nat.le_refl _)
theorem Inv.lstM (I : Inv X pins σ H s) (hH : H l = some (.lst xs)) : xs.length ≤ sizeLine ∧ ∃ (its : List Value) (n : Nat), Vals xs its ∧ xs.length = its.length ∧ s.heap.get? l = some { cls := .type "list", data := .seq its.toArray n } := by
  obtain ⟨z, its, n, r, e⟩ := I.hok l _ hH
  exact ⟨z, its, n, r, r.length, e⟩
end
section
variable {X : Cx}
def rAppend : V → List V → Hp → VK → Prop := fun x vs H Q => ∃ l xs y, x = .ref l ∧ vs = [y] ∧ H l = some (.lst xs) ∧ xs.length < sizeLine ∧ Q .non (upd H l (.lst (xs ++ [y])))
theorem mt_append : MtM X "list.append" rAppend := by
  intro pins s σ H x vs v us Q I rx rv h
  obtain ⟨l, xs, y, rfl, rfl, hH, hz, q⟩ := h
  cases rx
  obtain ⟨u, rfl, ru⟩ := rv.one
  obtain ⟨z, its, n, r, hl, e⟩ := I.lstM hH
  refine call_meets F.slot_list_append ⟨_, e, rfl⟩ F.entry_list_append (F.args_list_append_2 _ _) (PySem.list_append l its.toArray n u (by rw [List.size_toArray]; omega)) ⟨e, ?_⟩
  refine ⟨.non, _, I.lset (its' := its ++ [u]) hH e (by simp) (r.append (.cons ru .nil)) ?_, rfl, q⟩
  rw [List.length_append, List.length_singleton]
  omega
def rExtend : V → List V → Hp → VK → Prop := fun x vs H Q => ∃ l b xs zs, x = .ref l ∧ vs = [.ref b] ∧ H l = some (.lst xs) ∧ H b = some (.lst zs) ∧ xs.length + zs.length ≤ sizeLine ∧ Q .non (upd H l (.lst (xs ++ zs)))
def rPop : V → List V → Hp → VK → Prop := fun x vs H Q => ∃ l xs y, x = .ref l ∧ vs = [] ∧ H l = some (.lst xs) ∧ xs[xs.length - 1]? = some y ∧ Q y (upd H l (.lst xs.dropLast))
theorem mt_pop : MtM X "list.pop" rPop := by
  intro pins s σ H x vs v us Q I rx rv h
  obtain ⟨l, xs, y, rfl, rfl, hH, hy, q⟩ := h
  cases rx
  have hus := rv.zero
  subst hus
  obtain ⟨z, its, n, r, hl, e⟩ := I.lstM hH
  obtain ⟨u, hu, ru⟩ := r.get hy
  have hy' : its.toArray[its.toArray.size - 1]? = some u := by
    show its.toArray[its.length - 1]? = some u
    rw [← Array.getElem?_toList, ← hl]
    exact hu
  refine call_meets F.slot_list_pop ⟨_, e, rfl⟩ F.entry_list_pop (F.args_list_pop_1 _) (MeetsSeq.list_pop_last l its.toArray n u hy' (by rw [List.size_toArray]; omega)) ⟨e, ?_⟩
  refine ⟨y, _, I.lset (its' := its.dropLast) hH e ?_ r.dropLast ?_, ru, q⟩
  · show its.toArray.eraseIdxIfInBounds (its.toArray.size - 1) = its.dropLast.toArray
    rw [List.size_toArray, List.eraseIdxIfInBounds_toArray, erase_last]
  · rw [List.length_dropLast]
    omega
def rPopAt : V → List V → Hp → VK → Prop := fun x vs H Q => ∃ l xs i k y, x = .ref l ∧ vs = [.int i] ∧ H l = some (.lst xs) ∧ -(2 ^ 63) ≤ i ∧ i < 2 ^ 63 ∧ seqIndex? i xs.length = some k ∧ xs[k]? = some y ∧ Q y (upd H l (.lst (xs.eraseIdx k)))
def rReverse : V → List V → Hp → VK → Prop := fun x vs H Q => ∃ l xs, x = .ref l ∧ vs = [] ∧ H l = some (.lst xs) ∧ Q .non (upd H l (.lst xs.reverse))
theorem mt_reverse : MtM X "list.reverse" rReverse := by
  intro pins s σ H x vs v us Q I rx rv h
  obtain ⟨l, xs, rfl, rfl, hH, q⟩ := h
  cases rx
  have hus := rv.zero
  subst hus
  obtain ⟨z, its, n, r, hl, e⟩ := I.lstM hH
  refine call_meets F.slot_list_reverse ⟨_, e, rfl⟩ F.entry_list_reverse (F.args_list_reverse_1 _) (AutoSeq1.list_reverse_list_0 l its.toArray n (by rw [List.size_toArray]; omega)) ⟨e, ?_⟩
  refine ⟨.non, _, I.lset (its' := its.reverse) hH e (by simp) r.reverse ?_, rfl, q⟩
  rw [List.length_reverse]
  omega
def rClear : V → List V → Hp → VK → Prop := fun x vs H Q => ∃ l xs, x = .ref l ∧ vs = [] ∧ H l = some (.lst xs) ∧ Q .non (upd H l (.lst []))
def rCat : R2 := fun x y H Q => ∃ l b xs zs, x = .ref l ∧ y = .ref b ∧ H l = some (.lst xs) ∧ H b = some (.lst zs) ∧ xs.length + zs.length ≤ sizeLine ∧ ∀ p, H p = none → Q (.ref p) (upd H p (.lst (xs ++ zs)))
def rRep : R2 := fun x y H Q => ∃ l k xs, x = .ref l ∧ y = .int k ∧ H l = some (.lst xs) ∧ -(2 ^ 63) ≤ k ∧ k < 2 ^ 63 ∧ xs.length * k.toNat ≤ sizeLine ∧
  ∀ p, H p = none → Q (.ref p) (upd H p (.lst (List.replicate k.toNat xs).flatten))
end
section
variable {prog : Program} {w : World} {A : Around} {E : Value → Shared → Prop} {s : Shared}
set_option maxRecDepth 100000 in
end
section
variable {X : Cx}
end
end L2
namespace Att
open PySem PySem.W PySem.Calls PyProof.Rows
theorem ints_of_wellAll {P : Params} {h : Heap} : ∀ (ns : List Int) (vs : List Value), WellAll P h vs (ns.map WData.int) → IntsAre vs ns := by
  intro ns
  induction ns with
  | nil =>
    intro vs w
    rw [List.map_nil] at w
    cases w
    exact .nil
  | cons n ns ih =>
    intro vs w
    rw [List.map_cons] at w
    cases w with
    | cons a b =>
      cases a
      exact .cons _ _ (ih _ b)
theorem script_of {l : OpenLaw} {n : Nat} (hn : l.most = some n) {P : Params} {h : Heap} {args : List WData} {vals : List Value}
    (hpre : l.row.toRowW.claim.pre args = true) (hwl : WellAll P h vals args) :
    ∃ a vs ns, vals = [Value.ref a] ∧ args = [WData.list (ns.map WData.int)] ∧ h.get? a = some { cls := .type "list", data := .seq vs.toArray } ∧ IntsAre vs ns ∧ ns.length ≤ n := by
  have hsh : WShape.hasAll [] args [.list .int] = true := (pre_splitW hpre).1
  have hc : l.pre.holds [] { args := args } = true := (pre_splitW hpre).2
  obtain ⟨d, r, rfl, h1, h2⟩ := hasAllW_cons hsh
  obtain rfl := hasAllW_nil h2
  obtain ⟨xs, rfl, h3⟩ := hasW_list h1
  obtain ⟨ns, rfl⟩ := items_int h3
  have hlen : ns.length ≤ n := by
    unfold OpenLaw.pre at hc
    have h4 : (WTm.not (.lt (.lit (.int (n : Int))) (.len (.arg 0)))).holds [] { args := [.list (ns.map .int)] } = true := by
      have h4 := (holds_andW hc).1
      rw [hn] at h4
      exact h4
    have h5 := condW_of h4 (w_not (w_lt w_lit (w_len_list (w_arg rfl))))
    rw [List.length_map] at h5
    refine Nat.le_of_not_lt fun q => ?_
    have q' : (n : Int) < ((ns.length : Nat) : Int) := by omega
    first
      | (rw [decide_eq_true q'] at h5; exact absurd h5 (by decide))
      | (simp at h5; omega)
  cases hwl with
  | cons w1 w2 =>
    cases w2
    cases w1 with
    | list ho hall => exact ⟨_, _, ns, rfl, rfl, ho, ints_of_wellAll ns _ hall, hlen⟩
theorem post_true (l : OpenLaw) (args : List WData) : l.row.toRowW.claim.post args (.bool true) args = true :=
  postW_of (r := l.row.toRowW) (X := (true == true))
    (show WShape.has [] (.bool true) .bool = true by first | rfl | decide | simp [WShape.has, WShape.arms, WShape.armsAll])
    (show (WTm.eq .res (.lit (.bool true))).value [] { args := args, res := some (.bool true), after := args } = some (.bool (true == true)) from w_eq_bool (w_res rfl) w_lit) rfl
theorem attach_call {l : OpenLaw} {n : Nat} {q : Program} {loose : List Str} {XP : (Str → Option Value) → Heap → Prop} {YP : World → Heap → Prop} {d : DefRec}
    (hn : l.most = some n) (hdf : d.params.defaults = [])
    (call : ∀ (w : World) (s₀ s₁ : Shared) (mg mb : Str → Option Value) (fa : Addr) (o : Obj) (pm cd doc : Value) (a : Addr) (vs : List Value) (ns : List Int),
      Ground q loose [] XP w s₀ mg mb s₁.heap → YP w s₁.heap →
      s₁.heap.get? fa = some o → o.data = .func (docDef d.name d.params d.body d.scope pm cd doc) → s₁.heap.CodeRec cd d.name → mg d.name = some (.ref fa) →
      s₁.heap.get? a = some { cls := .type "list", data := .seq vs.toArray } → IntsAre vs ns → ns.length ≤ n → s₁.gens = #[] →
      codeAny (model l.prog w) callerA (.call (.ref fa) ⟨[.ref a], []⟩) (fun r s' => r = .ok (.ret (.bool true)) ∧ OldK s₁.heap s'.heap ∧ s'.os = s₁.os ∧ AllBare s'.gens) s₁) :
    WalkO q loose XP YP l.row.toRowW d [] (fun f vs => PySem.call f vs) := by
  intro w s₀ s₁ mg mb G Y fa o pm cd doc dV kV ho hd hcd hD hmg hg args vals as hpre hlay hrd hwl hlo
  obtain rfl : dV = .none := Dflts.none hD hdf
  obtain rfl : kV = .none := Dflts.noKw hD
  obtain ⟨a, vs, ns, rfl, rfl, hobj, hints, hlen⟩ := script_of hn hpre hwl
  refine enter_call (codeAny_mono (call w s₀ s₁ mg mb fa o pm cd doc a vs ns G Y ho (fd_plain hd) hcd hmg hobj hints hlen hg) fun r s' hq => ?_)
  obtain ⟨rfl, h2, h3, h4⟩ := hq
  exact ⟨.inl ⟨.bool true, .bool true, [], rfl, fun _ => rfl, .bool true, post_true l _, fun _ => ⟨List.Pairwise.nil, fun _ hm => (nomatch hm)⟩⟩, h2, h3, h4⟩
section
variable {prog : Program} {w : World} {A : Around} {E : Value → Shared → Prop} {s : Shared} {K : Frag}
def noObjs (h : Heap) : Heap := { h with objs := #[] }
def ledger (h : Heap) (L d : Addr) : List (Addr × Obj) := (List.range h.objs.size).filterMap fun a => if a = L ∨ a = d then none else (h.get? a).map fun o => (a, o)
end
end Att
namespace L2
open PySem PySem.Spec PyProof.Rows
theorem vals_ints : ∀ {vs : List Value} {ns : List Int}, IntsAre vs ns → Vals (ns.map V.int) vs
  | _, _, .nil => .nil
  | _, _, .cons n t h => .cons ⟨t, rfl⟩ (vals_ints h)
def Only (H : Hp) : Prop := ∀ b, H b = none ∨ ∃ o xs, H b = some (.frz o (.lst xs))
theorem law_call {P : Program} {w : World} {K : PySem.W.Frag} {mg mb : Str → Option Value} {CX : CXT} {k : Nat} {fa a : Addr} {fd : FuncData} {x : Str} {sp : Sp} {s₁ : Shared} {vs : List Value} {ns : List Int}
    (KX : K.In s₁.heap) (hns : s₁.heap.Ns mainGlobals mg) (hb : s₁.heap.Ns builtinsNs mb) (hbb : ∀ x : Str, x ≠ "__name__" → mb x = bootBuiltins x) (hlim : s₁.heap.NoLimit) (hg : s₁.gens = #[])
    (ha : s₁.heap.get? a = some { cls := .type "list", data := .seq vs.toArray }) (hi : IntsAre vs ns) (hl : ns.length ≤ sizeLine) (hr : Room k callerA)
    (F : ∀ base : Heap, K.In base → base.Ns mainGlobals mg → FnOk P w K mg base CX k fa fd [x] sp) (hbind : ∀ (s : Shared) (u : Value), BindsTo s fd ⟨[u], []⟩ [(x, u)])
    (hsp : ∀ H : Hp, Only H → SqL K H a (ns.map V.int) → sp [.ref a] H (fun v _ => v = .bl true) fun _ _ _ => False)
    (hCX : ∀ H e s', CX [] H s₁ (fun _ _ _ => False) e s' → False) :
    codeAny (model P w) callerA (.call (.ref fa) ⟨[.ref a], []⟩) (fun r s' => r = .ok (.ret (.bool true)) ∧ OldK s₁.heap s'.heap ∧ s'.os = s₁.os ∧ AllBare s'.gens) s₁ := by
  have rv := vals_ints hi
  have lenV := hi.length
  -- from an abstract heap in which nothing but the script may be tracked
  have core : ∀ H : Hp, Only H → SqL K H a (ns.map V.int) → HOk P w H s₁.heap → (∀ b, H b ≠ none → b = a) → (H a ≠ none → K.lookup a = none) →
      codeAny (model P w) callerA (.call (.ref fa) ⟨[.ref a], []⟩) (fun r s' => r = .ok (.ret (.bool true)) ∧ OldK s₁.heap s'.heap ∧ s'.os = s₁.os ∧ AllBare s'.gens) s₁ := by
    intro H hO hS hok hA hK
    have base_of : ∀ {b : Addr} {o : Obj}, s₁.heap.get? b = some o → H b = none → (hidT s₁.heap H).get? b = some o := fun e n => hidT_get e n
    have noA : ∀ {b : Addr} {o : Obj} {es : Array DictEntry} {ep : Nat}, s₁.heap.get? b = some o → o.data = .dict es ep → H b = none := fun {b o es ep} e d => by
      cases q : H b with
      | none => rfl
      | some u =>
        have e' : b = a := hA b (by rw [q]; simp)
        subst e'
        rw [ha] at e; cases e
        have d' : Data.seq vs.toArray _ = Data.dict es ep := d
        cases d'
    have nsK : ∀ {b : Addr} {m : Str → Option Value}, s₁.heap.Ns b m → (hidT s₁.heap H).Ns b m := fun {b m} ⟨o, es, ep, e, d, r⟩ => ⟨o, es, ep, base_of e (noA e d), d, r⟩
    have hKb : K.In (hidT s₁.heap H) := fun b o e => base_of (KX b o e) (by
      cases q : H b with
      | none => rfl
      | some u =>
        have e' : b = a := hA b (by rw [q]; simp)
        subst e'
        rw [hK (by rw [q]; simp)] at e; cases e)
    have hM : Mod K mg (hidT s₁.heap H) := ⟨hKb, nsK hns, ⟨mb, nsK hb, hbb⟩, let ⟨mc, h1, h2⟩ := hlim; ⟨mc, nsK h1, h2⟩⟩
    have e0 : Env0 P w K mg (hidT s₁.heap H) callerA [] s₁ H := ⟨rfl, hM, fun b o e => of_hidT e, Nat.le_of_eq (hidT_size _ _), trivial, fun b hb => absurd (show b ∈ ([] : List Addr) from hb) (by simp), hok, .of_eq hg⟩
    refine codeAny_mono ((F _ hKb (nsK hns)).run callerA [] s₁ H ⟨[.ref a], []⟩ [.ref a] [.ref a] _ _ hr e0 (hbind s₁ (.ref a)) (.cons rfl .nil) (hsp H hO hS)) fun r s' h => ?_
    cases r with
    | error e => exact (hCX H e s' h).elim
    | ok fl =>
      cases fl with
      | next => exact False.elim h
      | brk => exact False.elim h
      | cont => exact False.elim h
      | ret u =>
        obtain ⟨v, H', os, bare, un, hok', r', q⟩ := h
        have q' : v = .bl true := q
        subst q'
        obtain rfl : u = Value.bool true := r'
        refine ⟨rfl, OldK.of_keep fun b o e => ?_, os, bare⟩
        cases q : H b with
        | none => exact un.keep b o e q (by intro z; exact absurd (show b ∈ ([] : List Addr) from z) (by simp)) (by simp)
        | some u =>
          rcases hO b with z | ⟨ob, xs, z⟩
          · rw [q] at z; cases z
          · have z2 := un.frzs b ob _ z
            obtain ⟨e1, _⟩ := hok b _ z
            obtain ⟨e2, _⟩ := hok' b _ z2
            rw [e] at e1; cases e1
            exact e2
  cases hk : K.lookup a with
  | some o =>
    -- the script is one of the module's own objects
    have e := KX a o hk
    rw [ha] at e
    cases e
    refine core (fun _ => none) (fun _ => .inl rfl) (.inr ⟨_, vs.toArray, _, hk, rfl, rfl, rfl, by rw [List.size_toArray, lenV]; exact hl, by simpa using rv⟩) (fun b u z => by have z' : (none : Option HO) = some u := z; cases z') (fun b z => absurd rfl z) fun z => absurd rfl z
  | none =>
    refine core (fun b => if b = a then some (.frz { cls := .type "list", data := .seq vs.toArray } (.lst (ns.map V.int))) else none) (fun b => ?_) (.inl (.inr ⟨{ cls := .type "list", data := .seq vs.toArray }, if_pos rfl⟩)) (fun b u z => ?_) (fun b z => ?_) fun _ => hk
    · by_cases hb : b = a
      · exact .inr ⟨_, _, if_pos hb⟩
      · exact .inl (if_neg hb)
    · by_cases hb : b = a
      · have z' := (if_pos hb).symm.trans z
        cases z'
        subst hb
        exact ⟨ha, by rw [List.length_map]; exact hl, vs, _, rv, ha⟩
      · have z' := (if_neg hb).symm.trans z
        cases z'
    · by_cases hb : b = a
      · exact hb
      · exact absurd (if_neg hb) z
end L2
namespace L2
open PySem PySem.Spec PyProof.Rows
abbrev KOf {K : PySem.W.Frag} {h : Heap} (_ : K.In h) : PySem.W.Frag := K
theorem walk_of {l : PySem.W.OpenLaw} {n k : Nat} {q : Program} {loose : List Str} {XP : (Str → Option Value) → Heap → Prop} {YP : World → Heap → Prop} {d : DefRec} {K : Params → PySem.W.Frag} {CX : World → CXT} {sp : World → Sp} {x : Str}
    (hn : l.most = some n) (hn2 : n ≤ sizeLine) (hdf : d.params.defaults = []) (hr : Room k callerA)
    (hY : ∀ (w : World) (h : Heap), YP w h → (K w.params).In h)
    (F : ∀ (w : World) (mg : Str → Option Value) (fa : Addr) (h : Heap), (K w.params).In h → h.Ns mainGlobals mg → mg d.name = some (.ref fa) →
      ∃ fd : FuncData, (∀ (s : Shared) (u : Value), BindsTo s fd ⟨[u], []⟩ [(x, u)]) ∧
        ∀ base : Heap, (K w.params).In base → base.Ns mainGlobals mg → FnOk l.prog w (K w.params) mg base (CX w) k fa fd [x] (sp w))
    (hsp : ∀ (w : World) (H : Hp) (a : Addr) (ns : List Int), ns.length ≤ n → Only H → SqL (K w.params) H a (ns.map V.int) → sp w [.ref a] H (fun v _ => v = .bl true) fun _ _ _ => False)
    (hCX : ∀ (w : World) (H : Hp) (s : Shared) (e : Value) (s' : Shared), CX w [] H s (fun _ _ _ => False) e s' → False) :
    PySem.W.WalkO q loose XP YP l.row.toRowW d [] (fun f vs => PySem.call f vs) := by
  refine Att.attach_call hn hdf fun w s₀ s₁ mg mb fa o pm cd doc a vs ns G Y ho hd hcd hmg hobj hints hlen hg => ?_
  have KX := hY w _ Y
  obtain ⟨fd, hb, hF⟩ := F w mg fa _ KX G.T.g hmg
  exact law_call KX G.T.g G.T.b G.T.builtins G.T.nolimit hg hobj hints (Nat.le_trans hlen hn2) hr hF hb (fun H hO hS => hsp w H a ns hlen hO hS) fun H e s' => hCX w H s₁ e s'
end L2
/- THE LAST THEOREM (shape; LID, My.* are yours):
   My.Adr: a structure of the addresses that your layer names (classes, functions); My.Txt K t: a structure (Prop) of the equations over K;
   My.txt_mk : {K} {implicit addresses ..} (e1 : nsIn K mainGlobals "law" = some (some (.ref f))) (e2 : K.lookup f = some ⟨oc, od, .func (fnOf "law" "law" params body scope dV kV doc pm an cdv ct), sl⟩) (e3 : codeIn K cdv "law" = true) .. : ∃ t, My.Txt K t
set_option maxRecDepth 100000 in
set_option maxHeartbeats 0 in
theorem PySem.Challenge.cw_LID_holds : PySem.Challenge.rw_LID.Holds := by
  w_on; o_law; k_head; (case hw => w_witness2)
  k_fill
  refine L2.walk_of (l := PySem.Challenge.rw_LID) (n := 63) (k := 40) (x := "script") (CX := fun w => ..) (sp := fun _ => My.sp_law) rfl (by decide) rfl ⟨rfl, by decide, by decide⟩ (fun w h Y => PySem.W.kIn_of Y) ?F ?S ?C
  case F =>
    intro w mg fa h KX G hmg
    have T : ∃ t, My.Txt (L2.KOf KX) t := by
      dsimp only [L2.KOf]                          -- K must stand as «<heap const> w.params» for k_is
      refine' My.txt_mk ?e1 ?e2 ?e3 ..
      (case e1 => PySem.W.k_is)                    -- in the order: a name -> its address -> its object -> its parts
      (case e2 => PySem.W.k_is)
      ..
    obtain ⟨t, T⟩ := T
    have e0 := hmg.symm.trans (PySem.W.mg_of KX G T.law)
    cases e0                                       -- fa is the law's own address
    exact ⟨_, fun s u => .of_eq rfl, fun base kb nb => My.law_fn T kb nb⟩     -- if «.of_eq rfl» comes too early: refine' ⟨_, ?b, fun base kb nb => My.law_fn T kb nb⟩; exact fun s u => .of_eq rfl
  case S => exact fun w H a ns hl hO hS => ..
  case C => exact ..
(the tactic k_is has no namespace: write k_is) -/
namespace L2
open PySem PySem.Spec PyProof.Rows
def inClass (s : Stmt) (j : Nat) : Stmt := match s with
  | .ClassDef _ _ _ body _ _ _ _ _ _ _ => body.getD j (.Pass ⟨0, 0, 0, 0⟩)
  | _ => .Pass ⟨0, 0, 0, 0⟩
def defArgs (s : Stmt) : Arguments := match s with
  | .FunctionDef _ a _ _ _ _ _ _ _ _ => a
  | _ => { posonlyargs := [], args := [], vararg := none, kwonlyargs := [], kw_defaults := [], kwarg := none, defaults := [] }
def defBody (s : Stmt) : List Stmt := match s with
  | .FunctionDef _ _ b _ _ _ _ _ _ _ => b
  | _ => []
def defScope (s : Stmt) : Scope := match s with
  | .FunctionDef _ _ _ _ _ _ sc _ _ _ => sc
  | _ => { kind := .function, names := [], isGenerator := false, isCoroutine := false }
abbrev CX0 : CXT := fun _ _ _ _ _ _ => False
abbrev E0 : XK := fun _ _ _ => False
theorem pass0 {X : Cx} : Passes CX0 X E0 := fun _ _ _ _ _ _ _ h => h.elim
structure Fun (K : PySem.W.Frag) (x qual : Str) (st : Stmt) (f : Addr) (fd : FuncData) : Prop where
  ex : ∃ (oc : Value) (od : Option Addr) (kV doc pm : Value) (an : Option Addr) (cdv ct : Value) (osl : Array (Option Value)),
    fd = PySem.W.fnOf x qual (defArgs st) (defBody st) (defScope st) .none kV doc pm an cdv ct ∧ K.lookup f = some ⟨oc, od, .func fd, osl⟩ ∧ PySem.W.codeIn K cdv qual = true
  kp : PySem.W.keepIn K (.ref f) = true
section
variable {P : Program} {w : World} {K : PySem.W.Frag} {mg : Str → Option Value} {base : Heap}
theorem Fun.ok {x qual : Str} {st : Stmt} {f : Addr} {fd : FuncData} {N ps : List Str} {k : Nat} {sp : Sp} (F : Fun K x qual st f fd) (S : FnScope N ps (defScope st)) (len : ∀ vs H Q E, sp vs H Q E → vs.length = ps.length)
    (hbody : ∀ (cdv : Value) (A : Around) (outer : List Env) (s : Shared) (H : Hp) (vs : List V) (Q : VK) (E : XK), Room k (A.deeper (envOfC qual (defScope st) s.heap.objs.size f cdv)) → sp vs H Q E →
      ∃ t, PSs (cxOf CX0 P w K mg base N qual (defScope st) f cdv A outer s H E).nox (defBody st) t ∧ t { nx := fun _ H' => Q .non H', rt := Q } (start N vs) H) : FnOk P w K mg base CX0 (k + 1) f fd ps sp := by
  obtain ⟨oc, od, kV, doc, pm, an, cdv, ct, osl, rfl, lk, hcd⟩ := F.ex
  refine fn_of lk hcd S len fun A outer s H vs Q E hr hsp => ?_
  obtain ⟨t, h, q⟩ := hbody cdv A outer s H vs Q E hr hsp
  exact ⟨t, h.nox, q⟩
theorem Fun.binds {x qual : Str} {st : Stmt} {f : Addr} {fd : FuncData} {ps : List Str} (F : Fun K x qual st f fd)
    (h : ∀ (kV doc pm : Value) (an : Option Addr) (cdv ct : Value) (us : List Value), us.length = ps.length → bindArgs (PySem.W.fnOf x qual (defArgs st) (defBody st) (defScope st) .none kV doc pm an cdv ct) ⟨us, []⟩ = pure (ps.zip us)) : Binds K fd ps [] := by
  obtain ⟨oc, od, kV, doc, pm, an, cdv, ct, osl, rfl, lk, hcd⟩ := F.ex
  exact .all (h kV doc pm an cdv ct)
theorem fun_mk {x qual : Str} {st : Stmt} {f : Addr} {oc : Value} {od an : Option Addr} {osl : Array (Option Value)} {kV doc pm cdv ct : Value} (l : K.lookup f = some ⟨oc, od, .func (PySem.W.fnOf x qual (defArgs st) (defBody st) (defScope st) .none kV doc pm an cdv ct), osl⟩)
    (c : PySem.W.codeIn K cdv qual = true) (k : PySem.W.keepIn K (.ref f) = true) : Fun K x qual st f (PySem.W.fnOf x qual (defArgs st) (defBody st) (defScope st) .none kV doc pm an cdv ct) := ⟨⟨oc, od, kV, doc, pm, an, cdv, ct, osl, rfl, l, c⟩, k⟩
end
theorem small1000 {n : Nat} (h : n ≤ 1000) : n < sizeLine := Nat.lt_of_le_of_lt h (by decide)
section
variable {X : Cx}
theorem pv (i : Nat) {x : Str} {pos : Pos} (hN : X.N[i]? = some x := by rfl) (hv : Vis X.env.scope x := by first | exact Or.inl rfl | exact Or.inr (Or.inl rfl) | exact Or.inr (Or.inr rfl)) (hd : (x == ("__debug__" : Str)) = false := by decide)
    (hcd : (x == ("__classdict__" : Str)) = false := by decide) : PE X (.Name x pos) (tVar i) := pe_var hN hv hd hcd
end
theorem iteF {A B : Prop} (h : B) : if false = true then A else B := by
  rw [if_neg Bool.false_ne_true]
  exact h
theorem iteT {A B : Prop} (h : A) : if true = true then A else B := by
  rw [if_pos rfl]
  exact h
theorem ite2 {c A B : Prop} [Decidable c] (h1 : c → A) (h2 : ¬ c → B) : if c then A else B := by
  by_cases h : c
  · rw [if_pos h]
    exact h1 h
  · rw [if_neg h]
    exact h2 h
def Same (H H' : Hp) : Prop := ∀ b o, H b = some o → H' b = some o
theorem Same.refl (H : Hp) : Same H H := fun _ _ h => h
theorem Same.trans {H H1 H2 : Hp} (a : Same H H1) (b : Same H1 H2) : Same H H2 := fun c o h => b c o (a c o h)
theorem Same.free {H H' : Hp} (e : Same H H') {l : Addr} (h : H' l = Option.none) : H l = Option.none := by
  cases q : H l with
  | none => rfl
  | some o =>
    rw [e l o q] at h
    cases h
theorem Same.seq {K : PySem.W.Frag} {H H' : Hp} {a : Addr} {xs : List V} (e : Same H H') (h : SqL K H a xs) : SqL K H' a xs := by
  rcases h with (h | ⟨o, h⟩) | h
  · exact .inl (.inl (e _ _ h))
  · exact .inl (.inr ⟨o, e _ _ h⟩)
  · exact .inr h
end L2
set_option maxHeartbeats 4000000
namespace L2
open PySem PySem.Spec PyProof.Rows
section
variable {κ : Type} [DecidableEq κ]
def valV (kvs : List (κ × V)) (k : κ) : Option V := (kvs.find? fun kv => decide (kv.1 = k)).map (·.2)
def putK (kvs : List (κ × V)) (k : κ) (v : V) : List (κ × V) :=
  if (kvs.any fun kv => decide (kv.1 = k)) = true then kvs.map (fun kv => if kv.1 = k then (kv.1, v) else kv) else kvs ++ [(k, v)]
def dropK (kvs : List (κ × V)) (k : κ) : List (κ × V) := kvs.filter fun kv => decide (kv.1 ≠ k)
theorem valV_pos {p : κ × V} {r : List (κ × V)} {k : κ} (e : p.1 = k) : valV (p :: r) k = some p.2 := by simp [valV, List.find?_cons, e]
theorem valV_neg {p : κ × V} {r : List (κ × V)} {k : κ} (e : ¬ p.1 = k) : valV (p :: r) k = valV r k := by simp [valV, List.find?_cons, e]
theorem valV_any (k : κ) : ∀ kvs : List (κ × V), (kvs.any fun kv => decide (kv.1 = k)) = (valV kvs k).isSome
  | [] => rfl
  | p :: r => by
    rw [List.any_cons]
    by_cases e : p.1 = k
    · simp only [valV_pos e, decide_eq_true e, Bool.true_or, Option.isSome_some]
    · rw [valV_neg e, decide_eq_false e, Bool.false_or]; exact valV_any k r
theorem length_putK (kvs : List (κ × V)) (k : κ) (v : V) : (putK kvs k v).length ≤ kvs.length + 1 := by
  unfold putK
  split
  · rw [List.length_map]; omega
  · rw [List.length_append, List.length_cons, List.length_nil]; omega
theorem putK_new {kvs : List (κ × V)} {k : κ} (v : V) (h : valV kvs k = none) : putK kvs k v = kvs ++ [(k, v)] := by
  unfold putK
  rw [valV_any, h]
  exact if_neg (by decide)
theorem RelO.isSome_eq {o : Option V} {u : Option Value} (r : RelO o u) : o.isSome = u.isSome := by
  cases o with
  | none => cases u with
    | none => rfl
    | some _ => exact (show False from r).elim
  | some _ => cases u with
    | none => exact (show False from r).elim
    | some _ => rfl
theorem RelO.getD {o : Option V} {u : Option Value} {d : V} {d' : Value} (r : RelO o u) (rd : RelV d d') : RelV (o.getD d) (u.getD d') := by
  cases o with
  | none => cases u with
    | none => exact rd
    | some _ => exact (show False from r).elim
  | some _ => cases u with
    | none => exact (show False from r).elim
    | some _ => exact r
theorem KV.val {kvs : List (κ × V)} {vs : List (κ × Value)} (r : KV kvs vs) (k : κ) : RelO (valV kvs k) (valueAt vs k) := by
  unfold KV at r
  induction r with
  | nil => exact True.intro
  | @cons p q ps qs h t ih =>
    obtain ⟨h1, h2⟩ := h
    by_cases e : p.1 = k
    · have e' : q.1 = k := h1.symm.trans e
      have b : valueAt (q :: qs) k = some q.2 := by simp [valueAt, List.find?_cons, e']
      rw [valV_pos e, b]; exact h2
    · have e' : ¬ q.1 = k := fun z => e (h1.trans z)
      have b : valueAt (q :: qs) k = valueAt qs k := by simp [valueAt, List.find?_cons, e']
      rw [valV_neg e, b]; exact ih
theorem KV.any {kvs : List (κ × V)} {vs : List (κ × Value)} (r : KV kvs vs) (k : κ) : (kvs.any fun kv => decide (kv.1 = k)) = vs.any fun kv => decide (kv.1 = k) := by
  unfold KV at r
  induction r with
  | nil => rfl
  | cons h t ih => rw [List.any_cons, List.any_cons, ih, h.1]
theorem KV.repl {kvs : List (κ × V)} {vs : List (κ × Value)} (r : KV kvs vs) (k : κ) {y : V} {u : Value} (ry : RelV y u) :
    KV (kvs.map fun kv => if kv.1 = k then (kv.1, y) else kv) (vs.map fun kv => if kv.1 = k then (kv.1, u) else kv) := by
  unfold KV at r ⊢
  induction r with
  | nil => exact .nil
  | @cons p q ps qs h t ih =>
    rw [List.map_cons, List.map_cons]
    refine .cons ?_ ih
    obtain ⟨h1, h2⟩ := h
    by_cases e : p.1 = k
    · rw [if_pos e, if_pos (h1.symm.trans e)]; exact ⟨h1, ry⟩
    · rw [if_neg e, if_neg (fun z => e (h1.trans z))]; exact ⟨h1, h2⟩
theorem KV.put {kvs : List (κ × V)} {vs : List (κ × Value)} (r : KV kvs vs) (k : κ) {y : V} {u : Value} (ry : RelV y u) : KV (putK kvs k y) (stored vs k u) := by
  unfold putK stored
  rw [r.any k]
  by_cases e : (vs.any fun kv => decide (kv.1 = k)) = true
  · rw [if_pos e, if_pos e]; exact r.repl k ry
  · rw [if_neg e, if_neg e]; exact Paired.snoc r ⟨rfl, ry⟩
theorem KV.drop {kvs : List (κ × V)} {vs : List (κ × Value)} (r : KV kvs vs) (k : κ) : KV (dropK kvs k) (without vs k) := by
  unfold KV at r ⊢
  unfold dropK without
  induction r with
  | nil => exact .nil
  | @cons p q ps qs h t ih =>
    obtain ⟨h1, h2⟩ := h
    rw [List.filter_cons, List.filter_cons]
    by_cases e : p.1 = k
    · have a : ¬ decide (p.1 ≠ k) = true := by simp [e]
      have b : ¬ decide (q.1 ≠ k) = true := by simp [h1.symm.trans e]
      rw [if_neg a, if_neg b]; exact ih
    · have e' : ¬ q.1 = k := fun z => e (h1.trans z)
      have a : decide (p.1 ≠ k) = true := by simp [e]
      have b : decide (q.1 ≠ k) = true := by simp [e']
      rw [if_pos a, if_pos b]; exact .cons ⟨h1, h2⟩ ih
theorem KV.keys {kvs : List (κ × V)} {vs : List (κ × Value)} (r : KV kvs vs) : kvs.map (·.1) = vs.map (·.1) := by
  unfold KV at r
  induction r with
  | nil => rfl
  | cons h t ih => rw [List.map_cons, List.map_cons, ih, h.1]
theorem KV.length {kvs : List (κ × V)} {vs : List (κ × Value)} (r : KV kvs vs) : kvs.length = vs.length := Paired.length r
theorem dropK_le (kvs : List (κ × V)) (k : κ) : (dropK kvs k).length ≤ kvs.length := List.length_filter_le _ _
end
theorem kV_is {P : Program} {w : World} {k : Key} {u : Value} (r : RelV (kV k) u) : (mixKind P w).is k u = true := by
  cases k with
  | inl i => obtain ⟨t, e⟩ := (show ∃ t, u = Value.int i t from r); subst e; exact mixKind_int P w i t
  | inr x => obtain ⟨t, e⟩ := (show ∃ t, u = Value.str x t from r); subst e; exact mixKind_str P w x t
theorem items_are {P : Program} {w : World} : ∀ {ks : List Key} {us : List Value}, Vals (ks.map kV) us → ItemsAre (mixKind P w) ks us
  | [], _, r => by rw [List.map_nil] at r; cases r; exact .nil
  | k :: ks, _, r => by
    rw [List.map_cons] at r
    cases r with
    | cons h t => exact .cons (kV_is h) (items_are t)
abbrev KT (H : Hp) : List (List Key × V) → List (List Key × Addr × Value) → Prop := Paired fun p q => p.1 = q.1 ∧ H q.2.1 = some (.tup (p.1.map kV)) ∧ RelV p.2 q.2.2
theorem KT.val {H : Hp} {kvs : List (List Key × V)} {xs : List (List Key × Addr × Value)} (r : KT H kvs xs) (k : List Key) : RelO (valV kvs k) ((atKey xs k).map (·.2)) := by
  induction r with
  | nil => exact True.intro
  | @cons p q ps qs h t ih =>
    obtain ⟨h1, _, h2⟩ := h
    by_cases e : p.1 = k
    · have e' : q.1 = k := h1.symm.trans e
      have b : atKey (q :: qs) k = some q.2 := by simp [atKey, List.find?_cons, e']
      rw [valV_pos e, b]; exact h2
    · have e' : ¬ q.1 = k := fun z => e (h1.trans z)
      have b : atKey (q :: qs) k = atKey qs k := by simp [atKey, List.find?_cons, e']
      rw [valV_neg e, b]; exact ih
theorem KT.repl {H : Hp} {kvs : List (List Key × V)} {xs : List (List Key × Addr × Value)} (r : KT H kvs xs) (k : List Key) {y : V} {u : Value} (ry : RelV y u) :
    KT H (kvs.map fun kv => if kv.1 = k then (kv.1, y) else kv) (xs.map (putAt k u)) := by
  induction r with
  | nil => exact .nil
  | @cons p q ps qs h t ih =>
    rw [List.map_cons, List.map_cons]
    refine .cons ?_ ih
    obtain ⟨h1, h2, h3⟩ := h
    unfold putAt
    by_cases e : p.1 = k
    · rw [if_pos e, if_pos (h1.symm.trans e)]; exact ⟨h1, h2, ry⟩
    · rw [if_neg e, if_neg (fun z => e (h1.trans z))]; exact ⟨h1, h2, h3⟩
theorem KT.put {H : Hp} {kvs : List (List Key × V)} {xs : List (List Key × Addr × Value)} (r : KT H kvs xs) (k : List Key) {b : Addr} {y : V} {u : Value} (hb : H b = some (.tup (k.map kV))) (ry : RelV y u) :
    KT H (putK kvs k y) (storedH xs k b u) := by
  have e : (kvs.any fun kv => decide (kv.1 = k)) = (atKey xs k).isSome := by
    rw [valV_any, (r.val k).isSome_eq, Option.isSome_map]
  unfold putK storedH
  rw [e]
  by_cases q : (atKey xs k).isSome = true
  · rw [if_pos q, if_pos q]; exact r.repl k ry
  · rw [if_neg q, if_neg q]; exact Paired.snoc r ⟨rfl, hb, ry⟩
theorem KT.keeps {H H' : Hp} {kvs : List (List Key × V)} {xs : List (List Key × Addr × Value)} (r : KT H kvs xs) (ht : ∀ b ys, H b = some (.tup ys) → H' b = some (.tup ys)) : KT H' kvs xs :=
  Paired.mapP r fun _ _ z => ⟨z.1, ht _ _ z.2.1, z.2.2⟩
section
variable {P : Program} {w : World} {H : Hp} {h : Heap} {a : Addr}
theorem rd_of {u : HO} (ok : HOk P w H h) (e : Rd H a u) : ObjOk P w H h a u := e.ok ok
theorem dk_rd {kvs : List (Key × V)} (ok : HOk P w H h) (e : Rd H a (.dK kvs)) : kvs.length ≤ sizeLine ∧ (a == sysModules) = false ∧ ∃ vs, KV kvs vs ∧ h.DictOf (mixKind P w) a vs :=
  show ObjOk P w H h a (.dK kvs) from rd_of ok e
theorem dk_of {kvs : List (Key × V)} (ok : HOk P w H h) (e : H a = some (.dK kvs)) : kvs.length ≤ sizeLine ∧ (a == sysModules) = false ∧ ∃ vs, KV kvs vs ∧ h.DictOf (mixKind P w) a vs := dk_rd ok (.inl e)
theorem key_of {ks : List Key} (ok : HOk P w H h) (e : H a = some (.tup (ks.map kV))) : (tupleKind (mixKind P w)).is h ks a := by
  obtain ⟨_, its, r, o, h1, h2, n, h3⟩ := (show ObjOk P w H h a (.tup (ks.map kV)) from ok a _ e)
  exact ⟨o, its.toArray, n, h1, h2, h3, by simpa using items_are r⟩
theorem dt_rd {kvs : List (List Key × V)} (ok : HOk P w H h) (e : Rd H a (.dT kvs)) : kvs.length ≤ sizeLine ∧ (a == sysModules) = false ∧
    ∃ xs, KT H kvs xs ∧ h.DictOfH (tupleKind (mixKind P w)) a xs := by
  obtain ⟨z, y, xs, r, o, es, ep, h1, h2, h3, h4, h5⟩ := (show ObjOk P w H h a (.dT kvs) from rd_of ok e)
  refine ⟨z, y, xs, r, o, es, ep, h1, h2, h3, h4, fun x hx => ?_, h5⟩
  have all : ∀ {l : List (List Key × V)} {m : List (List Key × Addr × Value)}, KT H l m → ∀ x ∈ m, (tupleKind (mixKind P w)).is h x.1 x.2.1 := by
    intro l m q
    induction q with
    | nil => intro x hx; exact nomatch hx
    | @cons p q ps qs hq t ih =>
      intro x hx
      rcases List.mem_cons.mp hx with e | hx
      · subst e
        exact key_of ok (by rw [← hq.1]; exact hq.2.1)
      · exact ih x hx
  exact all r x hx
theorem dt_of {kvs : List (List Key × V)} (ok : HOk P w H h) (e : H a = some (.dT kvs)) : kvs.length ≤ sizeLine ∧ (a == sysModules) = false ∧
    ∃ xs, KT H kvs xs ∧ h.DictOfH (tupleKind (mixKind P w)) a xs := dt_rd ok (.inl e)
end
def DGet (H : Hp) (a : Addr) (y : V) (r : Option V) : Prop :=
  (∃ kvs k, Rd H a (.dK kvs) ∧ y = kV k ∧ r = valV kvs k) ∨ ∃ kvs k b, Rd H a (.dT kvs) ∧ y = .ref b ∧ H b = some (.tup (k.map kV)) ∧ r = valV kvs k
def DPut (H : Hp) (a : Addr) (y v : V) (H' : Hp) : Prop :=
  (∃ kvs k, H a = some (.dK kvs) ∧ y = kV k ∧ kvs.length < sizeLine ∧ H' = upd H a (.dK (putK kvs k v))) ∨
  ∃ kvs k b, H a = some (.dT kvs) ∧ y = .ref b ∧ H b = some (.tup (k.map kV)) ∧ kvs.length < sizeLine ∧ H' = upd H a (.dT (putK kvs k v))
theorem DGet.k {H : Hp} {a : Addr} {kvs : List (Key × V)} {k : Key} (e : H a = some (.dK kvs)) : DGet H a (kV k) (valV kvs k) := .inl ⟨kvs, k, .inl e, rfl, rfl⟩
theorem DGet.t {H : Hp} {a b : Addr} {kvs : List (List Key × V)} {k : List Key} (e : H a = some (.dT kvs)) (eb : H b = some (.tup (k.map kV))) : DGet H a (.ref b) (valV kvs k) := .inr ⟨kvs, k, b, .inl e, rfl, eb, rfl⟩
theorem DPut.k {H : Hp} {a : Addr} {kvs : List (Key × V)} {k : Key} {v : V} (e : H a = some (.dK kvs)) (hl : kvs.length < sizeLine) : DPut H a (kV k) v (upd H a (.dK (putK kvs k v))) := .inl ⟨kvs, k, e, rfl, hl, rfl⟩
theorem DPut.t {H : Hp} {a b : Addr} {kvs : List (List Key × V)} {k : List Key} {v : V} (e : H a = some (.dT kvs)) (eb : H b = some (.tup (k.map kV))) (hl : kvs.length < sizeLine) :
    DPut H a (.ref b) v (upd H a (.dT (putK kvs k v))) := .inr ⟨kvs, k, b, e, rfl, eb, hl, rfl⟩
section
variable {X : Cx} {pins : List (Addr × Obj)} {σ : St} {H : Hp} {s : Shared} {a : Addr} {y v : V} {u r : Value} {o : Option V} {A : Around} {E : Value → Shared → Prop}
theorem Inv.big (I : Inv X pins σ H s) : sysModules < s.heap.objs.size := by
  have h : mainGlobals < s.heap.objs.size := (I.mod.glob.keeps I.bk).lt
  exact Nat.lt_trans (by decide) h
theorem d_getItem {Q : Value → Shared → Prop} (hu : A.units + 1 < cLine) (I : Inv X pins σ H s) (g : DGet H a y (some v)) (ry : RelV y u) (h : ∀ w' s', Inv X pins σ H s' → RelV v w' → Q w' s') :
    wpAny (model X.prog X.w) A (getItem (.ref a) u) Q E s := by
  rcases g with ⟨kvs, k, e, ey, l⟩ | ⟨kvs, k, b, e, ey, eb, l⟩
  · subst ey
    obtain ⟨z, hd, vs, rel, dd⟩ := dk_rd I.hok e
    obtain ⟨w', hw, rw'⟩ := RelO.some_of (v := v) (o := valueAt vs k) (by rw [l]; exact rel.val k)
    exact wpAny_getItem_of (kV_is ry) dd.mapOf hw (h w' _ (I.tok _) rw')
  · subst ey
    cases (show u = Value.ref b from ry)
    obtain ⟨z, hd, xs, rel, dd⟩ := dt_rd I.hok e
    obtain ⟨w', hw, rw'⟩ := RelO.some_of (v := v) (o := (atKey xs k).map (·.2)) (by rw [l]; exact rel.val k)
    obtain ⟨p, hp, hp2⟩ := Option.map_eq_some_iff.mp hw
    refine wpAny_getItem_heap (tupleKind_room_in1 hu) (key_of I.hok eb) dd hp ?_
    rw [hp2]
    exact h w' _ (I.tok _) rw'
theorem d_in {Q : Value → Shared → Prop} (hu : A.units + 1 < cLine) (I : Inv X pins σ H s) (g : DGet H a y o) (ry : RelV y u) (h : ∀ s', Inv X pins σ H s' → Q (.bool o.isSome) s') :
    wpAny (model X.prog X.w) A (compareOp .In u (.ref a)) Q E s := by
  rcases g with ⟨kvs, k, e, ey, l⟩ | ⟨kvs, k, b, e, ey, eb, l⟩
  · subst ey
    obtain ⟨z, hd, vs, rel, dd⟩ := dk_rd I.hok e
    refine wpAny_in_of (kV_is ry) hd dd.mapOf ?_
    rw [← (rel.val k).isSome_eq, ← l]
    exact h _ (I.tok _)
  · subst ey
    cases (show u = Value.ref b from ry)
    obtain ⟨z, hd, xs, rel, dd⟩ := dt_rd I.hok e
    refine wpAny_in_heap (tupleKind_room_in1 hu) (key_of I.hok eb) hd dd ?_
    have q := (rel.val k).isSome_eq
    rw [Option.isSome_map] at q
    rw [← q, ← l]
    exact h _ (I.tok _)
theorem d_notIn {Q : Value → Shared → Prop} (hu : A.units + 1 < cLine) (I : Inv X pins σ H s) (g : DGet H a y o) (ry : RelV y u) (h : ∀ s', Inv X pins σ H s' → Q (.bool (!o.isSome)) s') :
    wpAny (model X.prog X.w) A (compareOp .NotIn u (.ref a)) Q E s := by
  rcases g with ⟨kvs, k, e, ey, l⟩ | ⟨kvs, k, b, e, ey, eb, l⟩
  · subst ey
    obtain ⟨z, hd, vs, rel, dd⟩ := dk_rd I.hok e
    refine wpAny_notIn_of (kV_is ry) hd dd.mapOf ?_
    rw [← (rel.val k).isSome_eq, ← l]
    exact h _ (I.tok _)
  · subst ey
    cases (show u = Value.ref b from ry)
    obtain ⟨z, hd, xs, rel, dd⟩ := dt_rd I.hok e
    refine wpAny_notIn_heap (tupleKind_room_in1 hu) (key_of I.hok eb) hd dd ?_
    have q := (rel.val k).isSome_eq
    rw [Option.isSome_map] at q
    rw [← q, ← l]
    exact h _ (I.tok _)
theorem d_write {h' : Heap} {t' : Nat} {ob : HO} (I : Inv X pins σ H s) (mu : Mut (H a)) (hs : Heap.SameBut a s.heap h') (he : ∃ q, h'.get? a = some q) (new : ObjOk X.prog X.w (upd H a ob) h' a ob) :
    Inv X pins σ (upd H a ob) { s with heap := h', toks := t' } :=
  I.write (x := a) (e := a) mu (.inl rfl) (fun b q hb z => (hs.2 b hb).trans z) he new
theorem dk_new {P : Program} {w : World} {H' : Hp} {h' : Heap} {kvs : List (Key × V)} {vs : List (Key × Value)} (z : kvs.length ≤ sizeLine) (hd : (a == sysModules) = false) (rel : KV kvs vs) (dd : h'.DictOf (mixKind P w) a vs) :
    ObjOk P w H' h' a (.dK kvs) := ⟨z, hd, vs, rel, dd⟩
theorem d_setItem {H' : Hp} {Q : Unit → Shared → Prop} (hu : A.units + 1 < cLine) (I : Inv X pins σ H s) (g : DPut H a y v H') (ry : RelV y u) (rv : RelV v r) (h : ∀ s', Inv X pins σ H' s' → Q () s') :
    wpAny (model X.prog X.w) A (setItem (.ref a) u r) Q E s := by
  rcases g with ⟨kvs, k, e, ey, l, eH⟩ | ⟨kvs, k, b, e, ey, eb, l, eH⟩
  · subst ey eH
    obtain ⟨z, hd, vs, rel, dd⟩ := dk_of I.hok e
    have hz : vs.length ≤ sizeLine := by rw [← rel.length]; exact z
    have hl : (putK kvs k v).length ≤ sizeLine := by have := length_putK kvs k v; omega
    refine wpAny_setItem_pairs (hsz := hz) (kV_is ry) dd fun h' dd' hs => h _ ?_
    have he : ∃ q, h'.get? a = some q := let ⟨q, _, _, hq, _⟩ := dd'; ⟨q, hq⟩
    exact d_write I (by rw [e]; exact True.intro) hs he (dk_new hl hd (rel.put k rv) dd')
  · subst ey eH
    cases (show u = Value.ref b from ry)
    obtain ⟨z, hd, xs, rel, dd⟩ := dt_of I.hok e
    have hz : xs.length ≤ sizeLine := by rw [← Paired.length rel]; exact z
    have hl : (putK kvs k v).length ≤ sizeLine := by have := length_putK kvs k v; omega
    refine wpAny_setItem_heap (hsz := hz) (tupleKind_room_in1 hu) (key_of I.hok eb) dd fun h' dd' hs => h _ ?_
    obtain ⟨q, es, ep, hq, h2, h3, h4, _, h5⟩ := dd'
    refine d_write I (by rw [e]; exact True.intro) hs ⟨q, hq⟩ ⟨hl, hd, _, (rel.put k eb rv).keeps fun c ys ec => ?_, q, es, ep, hq, h2, h3, h4, h5⟩
    rw [upd_ne (ne_of ec e (fun z => nomatch z))]
    exact ec
end
section
variable {X : Cx} {pins : List (Addr × Obj)} {σ : St} {H : Hp} {s : Shared} {a : Addr} {kvs : List (Key × V)} {k : Key} {u : Value} {A : Around} {E : Value → Shared → Prop}
theorem d_delItem {Q : Unit → Shared → Prop} (I : Inv X pins σ H s) (e : H a = some (.dK kvs)) (ry : RelV (kV k) u) (l : (valV kvs k).isSome = true) (h : ∀ s', Inv X pins σ (upd H a (.dK (dropK kvs k))) s' → Q () s') :
    wpAny (model X.prog X.w) A (delItem (.ref a) u) Q E s := by
  obtain ⟨z, hd, vs, rel, dd⟩ := dk_of I.hok e
  refine wpAny_delItem_slot dd.typeIs (by decide) PySem.F.slot_dict_delitem
    (call_meetsIn PySem.F.slot_dict_delitem dd.typeIs PySem.F.entry_dict_delitem (PySem.F.args_dict_delitem_2 _ _) (meets_dict_delitem_pairs (mixKind X.prog X.w) a (kV_is ry)) ⟨vs, dd, by rw [← rel.length]; exact z, by rw [← (rel.val k).isSome_eq]; exact l, fun h' dd' hs => h _ ?_⟩)
  have he : ∃ q, h'.get? a = some q := let ⟨q, _, _, hq, _⟩ := dd'; ⟨q, hq⟩
  exact d_write I (by rw [e]; exact True.intro) hs he (dk_new (Nat.le_trans (dropK_le kvs k) z) hd (rel.drop k) dd')
theorem d_pop {v : V} {more : List Value} {Q : Value → Shared → Prop} (I : Inv X pins σ H s) (e : H a = some (.dK kvs)) (ry : RelV (kV k) u) (l : valV kvs k = some v) (hm : more = [] ∨ ∃ x, more = [x])
    (h : ∀ w' s', Inv X pins σ (upd H a (.dK (dropK kvs k))) s' → RelV v w' → Q w' s') : wpAny (model X.prog X.w) A (call (.builtin "dict.pop") (.ref a :: u :: more)) Q E s := by
  obtain ⟨z, hd, vs, rel, dd⟩ := dk_of I.hok e
  obtain ⟨w', hw, rw'⟩ := RelO.some_of (v := v) (o := valueAt vs k) (by rw [← l]; exact rel.val k)
  have hp : (keyPart u).isSome = true := by
    cases k with
    | inl i => obtain ⟨t, q⟩ := (show ∃ t, u = Value.int i t from ry); subst q; rfl
    | inr x => obtain ⟨t, q⟩ := (show ∃ t, u = Value.str x t from ry); subst q; rfl
  have ha : argsOk "dict.pop" ⟨.ref a :: u :: more, []⟩ := by
    rcases hm with q | ⟨x, q⟩
    · subst q; exact PySem.F.args_dict_pop_2 _ _
    · subst q; exact PySem.F.args_dict_pop_3 _ _ _
  refine call_meetsIn PySem.F.slot_dict_pop dd.typeIs PySem.F.entry_dict_pop ha (meets_dict_pop_there (mixKind X.prog X.w) a (kV_is ry) more hm hp)
    ⟨vs, w', dd, by rw [← rel.length]; exact z, hw, fun h' dd' hs => h w' _ ?_ rw'⟩
  have he : ∃ q, h'.get? a = some q := let ⟨q, _, _, hq, _⟩ := dd'; ⟨q, hq⟩
  exact d_write I (by rw [e]; exact True.intro) hs he (dk_new (Nat.le_trans (dropK_le kvs k) z) hd (rel.drop k) dd')
theorem d_len {Q : Value → Shared → Prop} (I : Inv X pins σ H s) (e : Rd H a (.dK kvs)) (h : ∀ t s', Inv X pins σ H s' → Q (.int kvs.length t) s') : wpAny (model X.prog X.w) A (call (.builtin "len") [.ref a]) Q E s := by
  obtain ⟨z, hd, vs, rel, dd⟩ := dk_rd I.hok e
  refine call_len_dict hd dd (by rw [← rel.length]; rw [sizeLine_eq] at z; omega) ?_
  rw [← rel.length]
  exact h _ _ (I.tok _)
end
def NoSl (i : Expr) : Prop := ∀ ov iv, subscripted i false ov iv = operate [ov, iv] (getItem ov iv)
theorem subD_of {prog : Program} {w : World} {A : Around} {E : Value → Shared → Prop} {s : Shared} {env : Env} {value slice : Expr} {pos : Pos} {T id : String} {Q : Value → Shared → Prop}
    (hl : typeLookup (.type T) "__getitem__" = pure (some (.builtin id))) (hs : NoSl slice)
    (h : wpAny (model prog w) A (eval value env) (fun o s₁ => wpAny (model prog w) A (eval slice env) (fun i s₂ => s₂.TypeIs o T ∧ wpAny (model prog w) A (getItem o i) Q E s₂) E s₁) E s) :
    wpAny (model prog w) A (eval (.Subscript value slice pos) env) Q E s := by
  refine Subscript_ (wpAny_mono h (fun o s₁ h₁ => wpAny_mono h₁ (fun i s₂ h₂ => ?_) fun _ _ x => x) fun _ _ x => x)
  obtain ⟨hT, h₂⟩ := h₂
  unfold subscriptTail
  refine wpAny_bind ?_
  rw [getitemInPython_of_ne hT.not_modules]
  refine wpAny_bind (wpAny_specialOf hT hl ?_)
  have fin : wpAny (model prog w) A (subscripted slice false o i) (fun r s₃ => wpAny (model prog w) A (letTemporaryGo value o r >>= fun _ => pure r) Q E s₃) E s₂ := by
    rw [hs o i]
    exact wpAny_operating (wpAny_mono h₂ (fun r s₃ h₃ => wpAny_bind (wpAny_letTemporaryGo (wpAny_pure h₃))) fun _ _ x => x)
  first
    | exact wpAny_pure (wpAny_bind fin)
    | exact wpAny_bind (wpAny_pure (wpAny_bind fin))
    | exact wpAny_bind fin
theorem dict_typeIs {X : Cx} {pins : List (Addr × Obj)} {σ : St} {H : Hp} {s : Shared} {a : Addr} {y : V} {o : Option V} (I : Inv X pins σ H s) (g : DGet H a y o) : s.TypeIs (.ref a) "dict" := by
  rcases g with ⟨kvs, k, e, _, _⟩ | ⟨kvs, k, b, e, _, _, _⟩
  · obtain ⟨_, _, vs, _, dd⟩ := dk_rd I.hok e
    exact dd.typeIs
  · obtain ⟨_, _, xs, _, dd⟩ := dt_rd I.hok e
    exact dd.typeIs
def tDGet (td ty : TE) : TE := fun σ H Q => td σ H fun x H1 => ty σ H1 fun y H2 => ∃ a v, x = .ref a ∧ DGet H2 a y (some v) ∧ Q v H2
def tDIn (ty td : TE) : TE := fun σ H Q => ty σ H fun y H1 => td σ H1 fun x H2 => ∃ a o, x = .ref a ∧ DGet H2 a y o ∧ Q (.bl o.isSome) H2
def tDNotIn (ty td : TE) : TE := fun σ H Q => ty σ H fun y H1 => td σ H1 fun x H2 => ∃ a o, x = .ref a ∧ DGet H2 a y o ∧ Q (.bl (!o.isSome)) H2
def sDPut (td ty tv : TE) : TS := fun D σ H => tv σ H fun v H1 => td σ H1 fun x H2 => ty σ H2 fun y H3 => ∃ a H4, x = .ref a ∧ DPut H3 a y v H4 ∧ D.nx σ H4
def sDAug (td ty tv : TE) (rd : V → V → Hp → VK → Prop) : TS := fun D σ H => td σ H fun x H1 => ty σ H1 fun y H2 => ∃ a v, x = .ref a ∧ DGet H2 a y (some v) ∧
  tv σ H2 fun y2 H3 => rd v y2 H3 fun z H4 => ∃ H5, DPut H4 a y z H5 ∧ D.nx σ H5
def sDDel (td ty : TE) : TS := fun D σ H => td σ H fun x H1 => ty σ H1 fun y H2 => ∃ a kvs k, x = .ref a ∧ H2 a = some (.dK kvs) ∧ y = kV k ∧ (valV kvs k).isSome = true ∧ D.nx σ (upd H2 a (.dK (dropK kvs k)))
section
variable {X : Cx} {o i e value : Expr} {pos pos' tpos : Pos} {td ty tv : TE}
theorem pe_dget (hu : X.A.units + 1 < cLine) (ho : PE X o td) (hi : PE X i ty) (hs : NoSl i) : PE X (.Subscript o i pos) (tDGet td ty) := by
  intro pins s σ H Q I h
  refine subD_of PySem.F.slot_dict_getitem.lookup hs (thn (ho pins s σ H _ I h) fun u s1 ⟨x, H1, I1, rx, q1⟩ => thn (hi pins s1 σ H1 _ I1 q1) fun iv s2 ⟨y, H2, I2, ry, a, v, ex, g, q2⟩ => ?_)
  subst ex
  obtain rfl : u = Value.ref a := rx
  exact ⟨dict_typeIs I2 g, d_getItem hu I2 g ry fun w' s3 I3 rw' => ⟨v, H2, I3, rw', q2⟩⟩
theorem pc_din (hu : X.A.units + 1 < cLine) (hi : PE X i ty) (ho : PE X o td) : PC X .In i o (tDIn ty td) := by
  intro pins s σ H Q I h
  refine thn (hi pins s σ H _ I h) fun iv s1 ⟨y, H1, I1, ry, q1⟩ => thn (ho pins s1 σ H1 _ I1 q1) fun u s2 ⟨x, H2, I2, rx, a, ov, ex, g, q2⟩ => ?_
  subst ex
  obtain rfl : u = Value.ref a := rx
  exact d_in hu I2 g ry fun s3 I3 => ⟨.bl ov.isSome, H2, I3, rfl, q2⟩
theorem pc_dnotin (hu : X.A.units + 1 < cLine) (hi : PE X i ty) (ho : PE X o td) : PC X .NotIn i o (tDNotIn ty td) := by
  intro pins s σ H Q I h
  refine thn (hi pins s σ H _ I h) fun iv s1 ⟨y, H1, I1, ry, q1⟩ => thn (ho pins s1 σ H1 _ I1 q1) fun u s2 ⟨x, H2, I2, rx, a, ov, ex, g, q2⟩ => ?_
  subst ex
  obtain rfl : u = Value.ref a := rx
  exact d_notIn hu I2 g ry fun s3 I3 => ⟨.bl (!ov.isSome), H2, I3, rfl, q2⟩
theorem ps_dput (hu : X.A.units + 1 < cLine) (ho : PE X o td) (hi : PE X i ty) (hv : PE X value tv) (hs : swapsWith value (some (.Subscript o i pos')) pos.line X.env = pure false) :
    PS X (.Assign [.Subscript o i pos'] value pos) (sDPut td ty tv) := by
  intro pins s σ H D I h
  refine wpAny_Assign_Subscript (thn (hv pins s σ H _ I h) fun r s1 ⟨v, H1, I1, rv, q1⟩ => thn (ho pins s1 σ H1 _ I1 q1) fun u s2 ⟨x, H2, I2, rx, q2⟩ => thn (hi pins s2 σ H2 _ I2 q2) fun iv s3 ⟨y, H3, I3, ry, a, H4, ex, g, q3⟩ => ?_) hs
  subst ex
  obtain rfl : u = Value.ref a := rx
  exact d_setItem hu I3 g ry rv fun s4 I4 => ⟨σ, H4, I4, q3⟩
end
theorem dk_empty {P : Program} {w : World} {H : Hp} (h : Heap) (hb : sysModules < h.objs.size) : ObjOk P w H (h.push { cls := .type "dict", data := .dict #[] }) h.objs.size (.dK []) :=
  ⟨Nat.zero_le _, beq_eq_false_iff_ne.mpr (Ne.symm (Nat.ne_of_lt hb)), [], .nil, Heap.DictOf.new h⟩
def tDNewK : TE := fun _ H Q => ∀ p, H p = none → Q (.ref p) (upd H p (.dK []))
def tDNewT : TE := fun _ H Q => ∀ p, H p = none → Q (.ref p) (upd H p (.dT []))
section
variable {X : Cx} {pos : Pos}
theorem pe_dnewK : PE X (.Dict [] [] pos) tDNewK := fun pins s σ H Q I h =>
  wpAny_Dict_empty ⟨.ref s.heap.objs.size, _, I.laid (a := s.heap.objs.size) (o := .dK []) (t' := s.toks) (fun _ _ q => Heap.get?_push_of_some _ q) (Nat.le_refl _) (dk_empty s.heap I.big), rfl, h _ (I.hok.fresh (Nat.le_refl _))⟩
end
def tPairs : List (TE × TE) → St → Hp → (List (V × V) → Hp → Prop) → Prop
  | [], _, H, Q => Q [] H
  | (tk, tv) :: r, σ, H, Q => tk σ H fun x H1 => tv σ H1 fun y H2 => tPairs r σ H2 fun ps H3 => Q ((x, y) :: ps) H3
abbrev VV : List (V × V) → List (Value × Value) → Prop := Paired fun p q => RelV p.1 q.1 ∧ RelV p.2 q.2
def PPs (X : Cx) (pos : Pos) (keys : List (Option Expr)) (values : List Expr) (trs : List (TE × TE)) : Prop :=
  ∀ (pins : List (Addr × Obj)) (s : Shared) (σ : St) (H : Hp) (Q : List (V × V) → Hp → Prop), Inv X pins σ H s → tPairs trs σ H Q →
    wpAny (model X.prog X.w) X.A (evalPairs (pairTrees keys values X.env pos)) (fun vs s' => ∃ ps H', Inv X pins σ H' s' ∧ VV ps vs ∧ Q ps H') X.xe s
theorem pps_nil {X : Cx} {pos : Pos} : PPs X pos [] [] [] := fun pins s σ H Q I h => pairTrees_nil_walk ⟨[], H, I, .nil, h⟩
theorem pps_cons {X : Cx} {pos : Pos} {k v : Expr} {ks : List (Option Expr)} {vs : List Expr} {tk tv : TE} {trs : List (TE × TE)} (hk : PE X k tk) (hv : PE X v tv) (hr : PPs X pos ks vs trs) :
    PPs X pos (some k :: ks) (v :: vs) ((tk, tv) :: trs) := fun pins s σ H Q I h =>
  pairTrees_cons_walk (thn (hk pins s σ H _ I h) fun u s1 ⟨x, H1, I1, rx, q1⟩ => thn (hv pins s1 σ H1 _ I1 q1) fun w2 s2 ⟨y, H2, I2, ry, q2⟩ =>
    thn (hr pins s2 σ H2 _ I2 q2) fun ws s3 ⟨ps, H3, I3, rel, q3⟩ => ⟨(x, y) :: ps, H3, I3, .cons ⟨rx, ry⟩ rel, q3⟩)
def mergeK (kvs more : List (Key × V)) : List (Key × V) := more.foldl (fun acc kv => putK acc kv.1 kv.2) kvs
theorem KV.merge : ∀ {more : List (Key × V)} {rs : List (Key × Value)} {kvs : List (Key × V)} {vs : List (Key × Value)}, KV more rs → KV kvs vs → KV (mergeK kvs more) (merged vs rs) := by
  intro more rs kvs vs r
  unfold KV at r
  induction r generalizing kvs vs with
  | nil => intro q; exact q
  | @cons p q ps qs h t ih =>
    intro r0
    have e : KV (putK kvs p.1 p.2) (stored vs q.1 q.2) := by
      have := r0.put p.1 h.2
      rw [← h.1]; exact this
    exact ih e
theorem length_mergeK : ∀ (more kvs : List (Key × V)), (mergeK kvs more).length ≤ kvs.length + more.length
  | [], kvs => by show kvs.length ≤ kvs.length + 0; omega
  | p :: r, kvs => by
    have h1 := length_mergeK r (putK kvs p.1 p.2)
    have h2 := length_putK kvs p.1 p.2
    show (mergeK (putK kvs p.1 p.2) r).length ≤ _
    rw [List.length_cons]; omega
theorem carries_of {P : Program} {w : World} : ∀ {kvs : List (Key × V)} {ws : List (Value × Value)}, VV (kvs.map fun kv => (kV kv.1, kv.2)) ws → ∃ rs, Carries (mixKind P w) ws rs ∧ KV kvs rs
  | [], _, r => by rw [List.map_nil] at r; cases r; exact ⟨[], True.intro, .nil⟩
  | p :: kvs, _, r => by
    rw [List.map_cons] at r
    cases r with
    | @cons a b as bs h t =>
      obtain ⟨rs, c, q⟩ := carries_of (P := P) (w := w) t
      obtain ⟨b1, b2⟩ := b
      exact ⟨(p.1, b2) :: rs, ⟨kV_is h.1, rfl, c⟩, .cons ⟨rfl, h.2⟩ q⟩
def tDisp (trs : List (TE × TE)) : TE := fun σ H Q => ∀ p, H p = none → tPairs trs σ (upd H p (.dK [])) fun ps H2 => H2 p = some (.dK []) ∧ ∃ kvs : List (Key × V), ps = kvs.map (fun kv => (kV kv.1, kv.2)) ∧ kvs.length ≤ 15 ∧ Q (.ref p) (upd H2 p (.dK (mergeK [] kvs)))
theorem pe_disp {X : Cx} {pos : Pos} {keys : List (Option Expr)} {values : List Expr} {trs : List (TE × TE)} (h : PPs X pos keys values trs) (hall : keys.all (·.isSome) = true) (hl : keys.length = values.length) (h0 : keys ≠ [])
    (h15 : keys.length ≤ 15) : PE X (.Dict keys values pos) (tDisp trs) := by
  intro pins s σ H Q I q
  have hn := I.hok.fresh (Nat.le_refl s.heap.objs.size)
  have I1 := I.laid (a := s.heap.objs.size) (o := .dK []) (h' := s.heap.push { cls := .type "dict", data := .dict #[] }) (t' := s.toks) (fun _ _ q => Heap.get?_push_of_some _ q) (Nat.le_refl _) (dk_empty s.heap I.big)
  refine wpAny_Dict_walk (knd := mixKind X.prog X.w) hall hl h0 h15 (thn (h pins _ σ _ _ I1 (q _ hn)) fun ws s2 ⟨ps, H2, I2, rel, e, kvs, ep, lk, q2⟩ => ?_)
  subst ep
  obtain ⟨rs, c, rk⟩ := carries_of (P := X.prog) (w := X.w) rel
  obtain ⟨z, hd, vs0, r0, dd⟩ := dk_of I2.hok e
  cases r0
  refine ⟨rs, c, dd, fun h' dd' hs => ⟨.ref s.heap.objs.size, _, ?_, rfl, q2⟩⟩
  have hz : (mergeK [] kvs).length ≤ sizeLine := by
    have h1 := length_mergeK kvs []
    rw [List.length_nil] at h1
    rw [sizeLine_eq]; omega
  have he : ∃ q, h'.get? s.heap.objs.size = some q := let ⟨q, _, _, hq, _⟩ := dd'; ⟨q, hq⟩
  exact d_write I2 (by rw [e]; exact True.intro) hs he (dk_new hz hd (rk.merge .nil) dd')
structure M1 (X : Cx) (o : Expr) (m : Str) (apos : Pos) (e : Expr) (cpos : Pos) : Prop where
  base : attributeBase o m X.env (eval o X.env) = eval o X.env
  few : ((backTo cpos (starEach [e] X.env)).all (fun x => !x.1) && (backToKw cpos (keywordEach [] X.env)).all (fun x => x.1.isSome)
    && decide (([e] : List Expr).length + ([] : List Keyword).length + (if ([] : List Keyword).isEmpty then 0 else 1) < 30)) = true
  line : (apos.endLine == cpos.line) = true
  trees : backTo cpos (starEach [e] X.env) = [(false, eval e X.env)]
structure M2 (X : Cx) (o : Expr) (m : Str) (apos : Pos) (e f : Expr) (cpos : Pos) : Prop where
  base : attributeBase o m X.env (eval o X.env) = eval o X.env
  few : ((backTo cpos (starEach [e, f] X.env)).all (fun x => !x.1) && (backToKw cpos (keywordEach [] X.env)).all (fun x => x.1.isSome)
    && decide (([e, f] : List Expr).length + ([] : List Keyword).length + (if ([] : List Keyword).isEmpty then 0 else 1) < 30)) = true
  line : (apos.endLine == cpos.line) = true
  trees : backTo cpos (starEach [e, f] X.env) = [(false, eval e X.env), (false, eval f X.env)]
def IsD (H : Hp) (a : Addr) : Prop := (∃ kvs, Rd H a (.dK kvs)) ∨ ∃ kvs, Rd H a (.dT kvs)
theorem isD_at {X : Cx} {pins : List (Addr × Obj)} {σ : St} {H : Hp} {s : Shared} {a : Addr} (I : Inv X pins σ H s) (d : IsD H a) :
    s.TypeIs (.ref a) "dict" ∧ (∀ b, Value.ref a = .ref b → ∃ ob, s.heap.get? b = some ob ∧ ob.dict = none) ∧ (a == sysModules) = false := by
  rcases d with ⟨kvs, e⟩ | ⟨kvs, e⟩
  · obtain ⟨_, hd, vs, _, dd⟩ := dk_rd I.hok e
    refine ⟨dd.typeIs, fun b q => ?_, hd⟩
    cases q
    obtain ⟨ob, _, _, h1, h2, _⟩ := dd
    exact ⟨ob, h1, h2.2.1⟩
  · obtain ⟨_, hd, xs, _, dd⟩ := dt_rd I.hok e
    refine ⟨dd.typeIs, fun b q => ?_, hd⟩
    cases q
    obtain ⟨ob, _, _, h1, h2, _⟩ := dd
    exact ⟨ob, h1, h2.2.1⟩
section
variable {X : Cx} {pins : List (Addr × Obj)} {σ : St} {H : Hp} {s : Shared} {a : Addr} {y d : V} {u r : Value} {o : Option V} {A : Around} {E : Value → Shared → Prop}
theorem d_get2 {Q : Value → Shared → Prop} (hu : A.units + 1 < cLine) (I : Inv X pins σ H s) (g : DGet H a y o) (ry : RelV y u) (rd : RelV d r) (h : ∀ w' s', Inv X pins σ H s' → RelV (o.getD d) w' → Q w' s') :
    wpAny (model X.prog X.w) A (call (.builtin "dict.get") [.ref a, u, r]) Q E s := by
  rcases g with ⟨kvs, k, e, ey, l⟩ | ⟨kvs, k, b, e, ey, eb, l⟩
  · subst ey
    obtain ⟨z, hd, vs, rel, dd⟩ := dk_rd I.hok e
    refine call_meetsIn PySem.F.slot_dict_get dd.typeIs PySem.F.entry_dict_get (PySem.F.args_dict_get_3 _ _ _) (meets_dict_get_default (mixKind X.prog X.w) a (kV_is ry) hd r) ⟨_, dd.mapOf, h _ _ (I.tok _) ?_⟩
    rw [l]
    exact (rel.val k).getD rd
  · subst ey
    cases (show u = Value.ref b from ry)
    obtain ⟨z, hd, xs, rel, dd⟩ := dt_rd I.hok e
    refine call_meetsIn PySem.F.slot_dict_get dd.typeIs PySem.F.entry_dict_get (PySem.F.args_dict_get_3 _ _ _) (meetsH_dict_get_default (tupleKind (mixKind X.prog X.w)) a b hd r) ⟨tupleKind_room_in1 hu, k, xs, key_of I.hok eb, dd, h _ _ (I.tok _) ?_⟩
    rw [l]
    exact (rel.val k).getD rd
end
def tDGet1 (td ty : TE) : TE := fun σ H Q => td σ H fun x H1 => ∃ a, x = .ref a ∧ IsD H1 a ∧ ty σ H1 fun y H2 => ∃ o, DGet H2 a y o ∧ Q (o.getD .non) H2
def tDGet2 (td ty tx : TE) : TE := fun σ H Q => td σ H fun x H1 => ∃ a, x = .ref a ∧ IsD H1 a ∧ ty σ H1 fun y H2 => tx σ H2 fun z H3 => ∃ o, DGet H3 a y o ∧ Q (o.getD z) H3
def tDPop1 (td ty : TE) : TE := fun σ H Q => td σ H fun x H1 => ∃ a, x = .ref a ∧ IsD H1 a ∧ ty σ H1 fun y H2 => ∃ kvs k v, H2 a = some (.dK kvs) ∧ y = kV k ∧ valV kvs k = some v ∧ Q v (upd H2 a (.dK (dropK kvs k)))
def tDPop2 (td ty tx : TE) : TE := fun σ H Q => td σ H fun x H1 => ∃ a, x = .ref a ∧ IsD H1 a ∧ ty σ H1 fun y H2 => tx σ H2 fun z H3 => ∃ kvs k, H3 a = some (.dK kvs) ∧ y = kV k ∧
  (∀ v, valV kvs k = some v → Q v (upd H3 a (.dK (dropK kvs k)))) ∧ (valV kvs k = none → Q z H3)
section
variable {X : Cx} {o e f : Expr} {apos cpos : Pos} {td ty tx : TE}
theorem pe_dget2 (hu : X.A.units + 1 < cLine) (ho : PE X o td) (he : PE X e ty) (hf : PE X f tx) (m : M2 X o "get" apos e f cpos) : PE X (.Call (.Attribute o "get" apos) [e, f] [] cpos) (tDGet2 td ty tx) := by
  intro pins s σ H Q I h
  refine wpAny_Call_method m.base m.few m.line PySem.F.plainAttrs_dict PySem.F.slot_dict_get PySem.F.type_dict_get (thn (ho pins s σ H _ I h) fun u s1 ⟨x, H1, I1, rx, a, ex, d, q1⟩ => ?_)
  subst ex
  obtain rfl : u = Value.ref a := rx
  obtain ⟨t1, t2, _⟩ := isD_at I1 d
  refine ⟨t1, t2, ?_⟩
  rw [m.trees]
  refine Calls.callWith_builtin rfl (Calls.evalArgs_plain (Calls.spliced_cons (thn (he pins s1 σ H1 _ I1 q1) fun iv s2 ⟨y, H2, I2, ry, q2⟩ =>
    Calls.spliced_cons (thn (hf pins s2 σ H2 _ I2 q2) fun fv s3 ⟨z, H3, I3, rz, ov, g, q3⟩ => Calls.spliced_nil ?_))))
  exact d_get2 hu I3 g ry rz fun w' s4 I4 rw' => ⟨_, H3, I4, rw', q3⟩
theorem pe_dpop1 (ho : PE X o td) (he : PE X e ty) (m : M1 X o "pop" apos e cpos) : PE X (.Call (.Attribute o "pop" apos) [e] [] cpos) (tDPop1 td ty) := by
  intro pins s σ H Q I h
  refine wpAny_Call_method m.base m.few m.line PySem.F.plainAttrs_dict PySem.F.slot_dict_pop PySem.F.type_dict_pop (thn (ho pins s σ H _ I h) fun u s1 ⟨x, H1, I1, rx, a, ex, d, q1⟩ => ?_)
  subst ex
  obtain rfl : u = Value.ref a := rx
  obtain ⟨t1, t2, _⟩ := isD_at I1 d
  refine ⟨t1, t2, ?_⟩
  rw [m.trees]
  refine Calls.callWith_builtin rfl (Calls.evalArgs_plain (Calls.spliced_cons (thn (he pins s1 σ H1 _ I1 q1) fun iv s2 ⟨y, H2, I2, ry, kvs, k, v, ea, ey, l, q2⟩ => Calls.spliced_nil ?_)))
  subst ey
  exact d_pop I2 ea ry l (.inl rfl) fun w' s3 I3 rw' => ⟨v, _, I3, rw', q2⟩
end
section
variable {X : Cx} {pins : List (Addr × Obj)} {σ : St} {H : Hp} {s : Shared} {a : Addr} {kvs : List (Key × V)} {A : Around} {E : Value → Shared → Prop}
end
section
variable {X : Cx} {pins : List (Addr × Obj)} {σ : St} {H : Hp} {s : Shared} {a : Addr} {y : V} {u : Value} {A : Around} {E : Value → Shared → Prop}
end
end L2
namespace L2
open PySem PySem.Spec PyProof.Rows
section
variable {X : Cx}
theorem call_lenD : CallR X (.builtin "len") (fun xs H Q => ∃ a kvs, xs = [V.ref a] ∧ H a = some (.dK kvs) ∧ Q (.int kvs.length) H) := by
  intro pins s σ H xs us Q I r h
  obtain ⟨a, kvs, rfl, ha, q⟩ := h
  obtain ⟨u, rfl, ru⟩ := vals1 r
  cases ru
  exact d_len I (.inl ha) fun t s' I' => ⟨.int kvs.length, H, I', ⟨t, rfl⟩, q⟩
end
section
variable {κ : Type} [DecidableEq κ]
theorem nd_snoc : ∀ {l : List κ} {k : κ}, l.Nodup → ¬ k ∈ l → (l ++ [k]).Nodup
  | [], k, _, _ => by simp
  | a :: r, k, h, hk => by
    obtain ⟨h1, h2⟩ := List.nodup_cons.mp h
    show (a :: (r ++ [k])).Nodup
    refine List.nodup_cons.mpr ⟨fun m => ?_, nd_snoc h2 fun m => hk (List.mem_cons.mpr (Or.inr m))⟩
    rcases List.mem_append.mp m with q | q
    · exact h1 q
    · exact hk (List.mem_cons.mpr (Or.inl (List.mem_singleton.mp q).symm))
end
end L2
namespace Blk
open PySem
def J : List (List Nat) → List Nat
  | [] => []
  | [x] => x
  | x :: y :: r => x ++ 32 :: J (y :: r)
def C : List Nat → List (List Nat)
  | [] => [[]]
  | c :: r => if c = 32 then [] :: C r else match C r with
    | [] => [[c]]
    | p :: ps => (c :: p) :: ps
theorem C_free : ∀ (x : List Nat), 32 ∉ x → C x = [x]
  | [], _ => rfl
  | c :: r, h => by
    have h1 : ¬ c = 32 := fun e => h (by rw [e]; exact List.mem_cons_self)
    have ih := C_free r fun m => h (List.mem_cons_of_mem _ m)
    show (if c = 32 then _ else _) = _
    rw [if_neg h1, ih]
theorem C_app : ∀ (x r : List Nat), 32 ∉ x → C (x ++ 32 :: r) = x :: C r
  | [], r, _ => by
    show (if 32 = 32 then _ else _) = _
    rw [if_pos rfl]
  | c :: x, r, h => by
    have h1 : ¬ c = 32 := fun e => h (by rw [e]; exact List.mem_cons_self)
    have ih := C_app x r fun m => h (List.mem_cons_of_mem _ m)
    show (if c = 32 then _ else match C (x ++ 32 :: r) with | [] => [[c]] | p :: ps => (c :: p) :: ps) = _
    rw [if_neg h1, ih]
theorem C_J : ∀ (ps : List (List Nat)), ps ≠ [] → (∀ p ∈ ps, 32 ∉ p) → C (J ps) = ps
  | [], h, _ => absurd rfl h
  | [x], _, h => C_free x (h x List.mem_cons_self)
  | x :: y :: r, _, h => by
    show C (x ++ 32 :: J (y :: r)) = _
    rw [C_app x _ (h x List.mem_cons_self), C_J (y :: r) (by intro e; cases e) fun p hp => h p (List.mem_cons_of_mem _ hp)]
theorem J_snoc : ∀ (ws : List (List Nat)) (w : List Nat), J (ws ++ [w]) = (ws.map (· ++ [32])).flatten ++ w
  | [], w => rfl
  | [x], w => by
    show x ++ 32 :: w = _
    simp
  | x :: y :: r, w => by
    have ih := J_snoc (y :: r) w
    show x ++ 32 :: J (y :: r ++ [w]) = _
    rw [ih]
    simp
def sg (x : Str) : List Nat := x.cps.toList
theorem sg_inj {x y : Str} (h : sg x = sg y) : x = y := by
  obtain ⟨a⟩ := x
  obtain ⟨b⟩ := y
  have e : a.toList = b.toList := h
  rw [Array.toList_inj.mp e]
theorem sg_app (x y : Str) : sg (x ++ y) = sg x ++ sg y := Array.toList_append ..
theorem map_sg_inj : ∀ {a b : List Str}, a.map sg = b.map sg → a = b
  | [], [], _ => rfl
  | [], _ :: _, h => by cases h
  | _ :: _, [], h => by cases h
  | x :: a, y :: b, h => by
    have e := List.cons.inj h
    rw [sg_inj e.1, map_sg_inj e.2]
theorem J_join : ∀ ps : List Str, ps ≠ [] → sg (Str.join ⟨#[32]⟩ ps) = J (ps.map sg)
  | [], h => absurd rfl h
  | [x], _ => rfl
  | x :: y :: r, _ => by
    have ih := J_join (y :: r) (by intro e; cases e)
    show sg (x ++ ⟨#[32]⟩ ++ Str.join ⟨#[32]⟩ (y :: r)) = sg x ++ 32 :: J ((y :: r).map sg)
    rw [sg_app, sg_app, ih]
    show sg x ++ [32] ++ _ = _
    rw [List.append_assoc] <;> rfl
theorem part_unique {z : Str} {a b : List Str} (ha : a ≠ []) (hb : b ≠ []) (fa : ∀ p ∈ a, 32 ∉ sg p) (fb : ∀ p ∈ b, 32 ∉ sg p) (ja : J (a.map sg) = sg z) (jb : J (b.map sg) = sg z) : a = b := by
  have h1 := C_J (a.map sg) (by simpa using ha) (by intro p hp; obtain ⟨q, hq, rfl⟩ := List.mem_map.mp hp; exact fa q hq)
  have h2 := C_J (b.map sg) (by simpa using hb) (by intro p hp; obtain ⟨q, hq, rfl⟩ := List.mem_map.mp hp; exact fb q hq)
  rw [ja] at h1
  rw [jb] at h2
  exact map_sg_inj (h1.symm.trans h2)
structure Parts (pre : List Nat) (ws : List Str) (w : Str) : Prop where
  free : ∀ p ∈ ws ++ [w], 32 ∉ sg p
  join : ((ws.map sg).map (· ++ [32])).flatten ++ sg w = pre
  many : ws.length ≤ pre.length
  len : w.length ≤ pre.length
theorem Parts.start : Parts [] [] ⟨#[]⟩ := by
  refine ⟨?_, rfl, Nat.le_refl _, Nat.le_refl _⟩
  intro p hp
  rw [List.mem_singleton.mp hp]
  intro h
  cases h
theorem Parts.blank {pre : List Nat} {ws : List Str} {w : Str} (P : Parts pre ws w) : Parts (pre ++ [32]) (ws ++ [w]) ⟨#[]⟩ := by
  refine ⟨?_, ?_, ?_, Nat.zero_le _⟩
  · intro p hp
    rcases List.mem_append.mp hp with h | h
    · exact P.free p h
    · rw [List.mem_singleton.mp h]
      intro h
      cases h
  · rw [← P.join]
    simp [sg]
  · have := P.many
    simp only [List.length_append, List.length_singleton]
    omega
theorem Parts.sign {pre : List Nat} {ws : List Str} {w : Str} {c : Nat} (P : Parts pre ws w) (h : c ≠ 32) : Parts (pre ++ [c]) ws (w ++ ⟨#[c]⟩) := by
  have e : sg (w ++ ⟨#[c]⟩) = sg w ++ [c] := sg_app ..
  refine ⟨?_, ?_, ?_, ?_⟩
  · intro p hp
    rcases List.mem_append.mp hp with q | q
    · exact P.free p (List.mem_append_left _ q)
    · rw [List.mem_singleton.mp q, e]
      intro m
      rcases List.mem_append.mp m with m | m
      · exact P.free w (List.mem_append_right _ (List.mem_singleton.mpr rfl)) m
      · exact h (List.mem_singleton.mp m).symm
  · rw [← P.join, e, List.append_assoc]
  · have := P.many
    simp only [List.length_append, List.length_singleton]
    omega
  · have := P.len
    have e2 := congrArg List.length e
    simp only [List.length_append, List.length_singleton] at e2 ⊢
    have e3 : (sg (w ++ ⟨#[c]⟩)).length = (w ++ ⟨#[c]⟩ : Str).length := by simp [sg, Str.length]
    have e4 : (sg w).length = w.length := by simp [sg, Str.length]
    omega
theorem Parts.done {z : Str} {ws : List Str} {w : Str} (P : Parts (sg z) ws w) {b : List Str} (hb : b ≠ []) (fb : ∀ p ∈ b, 32 ∉ sg p) (jb : Str.join ⟨#[32]⟩ b = z) : ws ++ [w] = b := by
  refine part_unique (z := z) (by simp) hb P.free fb ?_ ?_
  · rw [List.map_append, List.map_singleton, J_snoc]
    exact P.join
  · rw [← J_join b hb, jb]
end Blk
namespace L2
open PySem PySem.Spec PyProof.Rows
theorem small {n : Nat} (h : n ≤ 1000) : n ≤ sizeLine := Nat.le_of_lt (small1000 h)
theorem at_in {α : Type} {xs : List α} {i : Int} (h0 : 0 ≤ i) (h1 : i < (xs.length : Int)) : ∃ v, xs[i.toNat]? = some v ∧ atI xs i = some v := by
  have hk : i.toNat < xs.length := by omega
  have q : atI xs ((i.toNat : Nat) : Int) = some xs[i.toNat] := atI_nat (List.getElem?_eq_getElem hk)
  have e : ((i.toNat : Nat) : Int) = i := by omega
  rw [e] at q
  exact ⟨_, List.getElem?_eq_getElem hk, q⟩
theorem bt_list : bootBuiltins "list" = some (.type "list") := by decide +kernel
theorem bt_str : bootBuiltins "str" = some (.type "str") := by decide +kernel
theorem bt_min : bootBuiltins "min" = some (.builtin "min") := by decide +kernel
theorem bt_max : bootBuiltins "max" = some (.builtin "max") := by decide +kernel
theorem rel_str (x : Str) (t : Tok) : RelV (.str x) (.str x t) := ⟨t, rfl⟩
theorem rel_int (x : Int) (t : Tok) : RelV (.int x) (.int x t) := ⟨t, rfl⟩
def Itx (z : Str) : It := ⟨fun i _ => i < z.cps.size, fun i H x H' => H' = H ∧ ∃ c, z.cps[i]? = some c ∧ x = .str ⟨#[c]⟩, fun i _ => i = z.cps.size⟩
section
variable {X : Cx} {tg : Expr}
def iStr (tl : TE) : TI := fun σ H R => tl σ H fun x H1 => ∃ z, x = .str z ∧ R (Itx z) H1
end
section
variable {X : Cx}
def rIxSA : R2 := fun x y H Q => ∃ z i, x = .str z ∧ y = .int i ∧ z.length ≤ sizeLine ∧ 0 ≤ i ∧ i < ((z.length : Nat) : Int) ∧ ∀ c, z.cps.toList[i.toNat]? = some c → Q (.str ⟨#[c]⟩) H
def rIsi (K : PySem.W.Frag) : List V → Hp → VK → Prop := fun xs H Q => ∃ x n t b, xs = [x, .ty n] ∧ TyOf K H x t ∧ PySem.W.kitOne K t (.type n) = some b ∧ Q (.bl b) H
def eqVs (xs ys : List V) : Bool := xs.length == ys.length && (List.range xs.length).all fun j => eqV (xs.getD j .non) (ys.getD j .non)
theorem flat_at {xs : List V} (f : xs.all flatV = true) (j : Nat) : flatV (xs.getD j .non) = true := by
  by_cases h : j < xs.length
  · rw [List.getD_eq_getElem?_getD, List.getElem?_eq_getElem h]
    exact (List.all_eq_true.mp f) _ (List.getElem_mem h)
  · rw [List.getD_eq_getElem?_getD, List.getElem?_eq_none (by omega)]
    rfl
theorem vals_at {xs : List V} {us : List Value} (r : Vals xs us) (j : Nat) (h : j < us.toArray.size) : RelV (xs.getD j .non) (us.toArray[j]) := by
  have hl := r.length
  have h' : j < us.length := by simpa using h
  have h2 : j < xs.length := by omega
  obtain ⟨u, e1, e2⟩ := r.get (List.getElem?_eq_getElem h2)
  rw [List.getD_eq_getElem?_getD, List.getElem?_eq_getElem h2]
  have e3 : us.toArray[j] = u := by
    rw [List.getElem?_eq_getElem h'] at e1
    simpa using Option.some.inj e1
  rw [e3]
  exact e2
def rEqL (K : PySem.W.Frag) (neg : Bool) : R2 := fun x y H Q => ∃ p q xs ys, x = .ref p ∧ y = .ref q ∧ SqL K H p xs ∧ SqL K H q ys ∧ xs.all flatV = true ∧ ys.all flatV = true ∧ Q (.bl (if neg then !eqVs xs ys else eqVs xs ys)) H
theorem op_ne_list (hu : X.A.units < cLine) : OpR X (compareOp .NotEq) (rEqL X.K true) := by
  intro pins s σ H x y v u Q I rx ry h
  obtain ⟨p, q, xs, ys, rfl, rfl, hp, hq, fx, fy, k⟩ := h
  cases rx
  cases ry
  obtain ⟨its, r1, l1, z1⟩ := I.list hp
  obtain ⟨jts, r2, l2, z2⟩ := I.list hq
  have e1 := r1.length
  have e2 := r2.length
  have fin : ∀ b, b = eqVs xs ys → EP X pins σ Q (.bool (!b)) s := fun b e => ⟨.bl (!b), H, I, rfl, by rw [e]; exact k⟩
  by_cases hs : xs.length = ys.length
  · refine SeqAt.RcNeAt.lists (e := fun j => eqV (xs.getD j .non) (ys.getD j .non)) l1.isList l2.isList (by simp; omega) hu (fun j h1 h2 => ?_) X.prog X.w _ _ (fin _ ?_)
    · exact eqAt_V (vals_at r1 j h1) (vals_at r2 j h2) (flat_at fx j) (flat_at fy j)
    · unfold eqVs
      rw [List.size_toArray, ← e1, hs, beq_self_eq_true, Bool.true_and]
  · refine SeqAt.RcNeAt.lists_lengths l1.isList l2.isList (by simp [bne_iff_ne]; omega) hu X.prog X.w _ _ (fin false ?_)
    unfold eqVs
    rw [beq_eq_false_iff_ne.mpr hs, Bool.false_and]
theorem op_eq_list (hu : X.A.units < cLine) : OpR X (compareOp .Eq) (rEqL X.K false) := by
  intro pins s σ H x y v u Q I rx ry h
  obtain ⟨p, q, xs, ys, rfl, rfl, hp, hq, fx, fy, k⟩ := h
  cases rx
  cases ry
  obtain ⟨its, r1, l1, z1⟩ := I.list hp
  obtain ⟨jts, r2, l2, z2⟩ := I.list hq
  have e1 := r1.length
  have e2 := r2.length
  have fin : ∀ b, b = eqVs xs ys → EP X pins σ Q (.bool b) s := fun b e => ⟨.bl b, H, I, rfl, by rw [e]; exact k⟩
  by_cases hs : xs.length = ys.length
  · refine SeqAt.RcAt.lists (e := fun j => eqV (xs.getD j .non) (ys.getD j .non)) l1.isList l2.isList (by simp; omega) hu (fun j h1 h2 => ?_) X.prog X.w _ _ (fin _ ?_)
    · exact eqAt_V (vals_at r1 j h1) (vals_at r2 j h2) (flat_at fx j) (flat_at fy j)
    · unfold eqVs
      rw [List.size_toArray, ← e1, hs, beq_self_eq_true, Bool.true_and]
  · refine SeqAt.RcAt.lists_lengths l1.isList l2.isList (by simp [bne_iff_ne]; omega) hu X.prog X.w _ _ (fin false ?_)
    unfold eqVs
    rw [beq_eq_false_iff_ne.mpr hs, Bool.false_and]
theorem flat_strs (as : List Str) : (as.map V.str).all flatV = true := by
  rw [List.all_map]
  exact List.all_eq_true.mpr fun _ _ => rfl
def rSplit : V → List V → Hp → VK → Prop := fun x vs H Q => ∃ z y, x = .str z ∧ vs = [.str y] ∧ (y.length == 0) = false ∧ z.length + 2 ≤ sizeLine ∧ ∀ p, H p = none → Q (.ref p) (upd H p (.lst ((Txt.split z y).map V.str)))
end
theorem same_new {H : Hp} {p : Addr} (h : H p = none) (o : HO) : Same H (upd H p o) := fun b u q => by rw [upd_ne (ne_of_none q h)]; exact q
theorem same_on {H H' : Hp} {p : Addr} (h : H p = none) (e : Same H H') (o : HO) : Same H (upd H' p o) := fun b u q => by rw [upd_ne (ne_of_none q h)]; exact e b u q
end L2
namespace L2
open PySem PySem.Spec PyProof.Rows
def closOf (cells : List (Str × Addr)) : List (Str × NameKind) → List (Str × Addr) → List (Str × Addr)
  | [], acc => acc
  | (n, k) :: r, acc => closOf cells r (if (k == .free) = true then (n, (cells.lookup n).getD 0) :: acc else acc)
theorem closureFor_of {scope : Scope} {env : Env} (h : ∀ p ∈ scope.names, p.2 = .free → (env.cells.lookup p.1).isSome = true) : closureFor scope env = pure (closOf env.cells scope.names []) := by
  obtain ⟨kd, names, g1, g2, more⟩ := scope
  simp only [closureFor]
  dsimp only at h ⊢
  generalize ([] : List (Str × Addr)) = acc
  induction names generalizing acc with
  | nil => rfl
  | cons p r ih =>
    obtain ⟨n, k⟩ := p
    have hr : ∀ p ∈ r, p.2 = .free → (env.cells.lookup p.1).isSome = true := fun p hp => h p (List.mem_cons_of_mem _ hp)
    have ih' := ih hr
    simp only [closOf]
    by_cases hk : k = .free
    · subst hk
      obtain ⟨c, hc⟩ := Option.isSome_iff_exists.mp (h (n, .free) List.mem_cons_self rfl)
      have hc' : List.lookup n env.cells = some c := hc
      rw [show (NameKind.free == NameKind.free) = true from rfl, if_pos rfl, hc']
      have e : cellOf env n = pure c := by unfold cellOf; rw [hc']
      have q := ih' ((n, c) :: acc)
      simp only [List.forIn_cons, beq_self_eq_true, if_true, e, pure_bind, Option.getD_some]
      exact q
    · have hb : (k == NameKind.free) = false := by simpa using hk
      have q := ih' acc
      simp only [List.forIn_cons, hb, Bool.false_eq_true, if_false, pure_bind]
      exact q
theorem closOf_in {cells : List (Str × Addr)} {y : Str} {c : Addr} : ∀ (names : List (Str × NameKind)) (acc : List (Str × Addr)), (∀ p ∈ names, p.2 = .free → (cells.lookup p.1).isSome = true) →
    (∀ y c, acc.lookup y = some c → cells.lookup y = some c) → (closOf cells names acc).lookup y = some c → cells.lookup y = some c
  | [], _, _, ha, h => ha _ _ h
  | (n, k) :: r, acc, hn, ha, h => by
    refine closOf_in r _ (fun p hp => hn p (List.mem_cons_of_mem _ hp)) (fun y c hy => ?_) h
    by_cases hk : (k == NameKind.free) = true
    · rw [if_pos hk] at hy
      rw [List.lookup_cons] at hy
      by_cases e : (y == n) = true
      · rw [e] at hy
        obtain ⟨d, hd⟩ := Option.isSome_iff_exists.mp (hn (n, k) List.mem_cons_self (by simpa using hk))
        have hd' : cells.lookup n = some d := hd
        have hy' : (cells.lookup n).getD 0 = c := Option.some.inj hy
        rw [hd'] at hy'
        rw [eq_of_beq e, hd']
        exact congrArg some hy'
      · rw [Bool.eq_false_iff.mpr e] at hy
        exact ha y c hy
    · rw [if_neg hk] at hy
      exact ha y c hy
theorem closOf_has {cells : List (Str × Addr)} {y : Str} : ∀ (names : List (Str × NameKind)) (acc : List (Str × Addr)), ((acc.lookup y).isSome = true ∨ (y, NameKind.free) ∈ names) → ((closOf cells names acc).lookup y).isSome = true
  | [], acc, h => h.elim id (fun z => by cases z)
  | (n, k) :: r, acc, h => by
    refine closOf_has r _ ?_
    rcases h with h | h
    · refine .inl ?_
      by_cases hk : (k == NameKind.free) = true
      · rw [if_pos hk, List.lookup_cons]
        by_cases e : (y == n) = true
        · rw [e]; rfl
        · rw [Bool.eq_false_iff.mpr e]; exact h
      · rw [if_neg hk]; exact h
    · rcases List.mem_cons.mp h with e | h
      · cases e
        refine .inl ?_
        rw [if_pos (show (NameKind.free == NameKind.free) = true from rfl), List.lookup_cons, beq_self_eq_true]
        rfl
      · exact .inr h
def compCx (X : Cx) (scope : Scope) (N' : List Str) (C : Addr) (ex : List Addr) (s₂ : Shared) (H₂ : Hp) : Cx where
  prog := X.prog
  w := X.w
  K := X.K
  mg := X.mg
  base := X.base
  A := X.A
  N := N'
  s₀ := s₂
  H₀ := H₂
  env := compEnvC scope (closOf X.env.cells scope.names []) C X.env
  outer := X.stack
  stack := X.stack
  ex := ex
  fn := fun _ => false
  calm := X.calm
  pn := []
  xe := fun _ _ => False
def FreesOk (X : Cx) (scope : Scope) : List (Str × Nat) → Prop
  | [] => True
  | p :: r => (X.N[p.2]? = some p.1 ∧ X.env.kindOf p.1 = some .cell ∧ (relabel scope X.env).names.lookup p.1 = some .cell ∧ (p.1, NameKind.free) ∈ scope.names) ∧ FreesOk X scope r
theorem FreesOk.at {X : Cx} {scope : Scope} : ∀ {fr : List (Str × Nat)}, FreesOk X scope fr → ∀ p ∈ fr, X.N[p.2]? = some p.1 ∧ X.env.kindOf p.1 = some .cell ∧ (relabel scope X.env).names.lookup p.1 = some .cell ∧ (p.1, NameKind.free) ∈ scope.names
  | [], _, p, hp => by cases hp
  | _ :: _, h, p, hp => by
    rcases List.mem_cons.mp hp with e | hp
    · rw [e]; exact h.1
    · exact FreesOk.at h.2 p hp
def inSt (frees : List (Str × Nat)) (σ : St) (x : Option V) : St := x :: frees.map fun p => (σ[p.2]?).join
def PIfs (X : Cx) (ifs : List Expr) (t : TT) : Prop :=
  ∀ (pins : List (Addr × Obj)) (s : Shared) (σ : St) (H : Hp) (Q : Bool → Hp → Prop), Inv X pins σ H s → t σ H Q →
    wpAny (model X.prog X.w) X.A (forIn ifs true fun c r => if r = true then do let ok ← isTrue c X.env (eval c X.env); pure (ForInStep.yield ok) else pure (ForInStep.yield r)) (TP X pins σ Q) X.xe s
theorem pifs_nil {X : Cx} : PIfs X [] (fun _ H Q => Q true H) := fun _ _ _ H _ I h => wpAny_tests_nil ⟨H, I, h⟩
def CompB (J : It) (tc : TT) (te : TE) (σf : Option V → St) (H1 : Hp) (Q : VK) : Prop := ∀ D, H1 D = none →
  ∃ W : Nat → Nat → List V → Hp → Prop, (∃ m, W 0 m [] (upd H1 D (.lst []))) ∧ ∀ i m ys H2, W i m ys H2 → H2 D = some (.lst ys) ∧
    ((J.stop i H2 ∧ Q (.ref D) H2) ∨ (J.go i H2 ∧ ys.length < sizeLine ∧ ∀ x H3, J.yld i H2 x H3 → tc (σf (some x)) H3 fun b H4 =>
      if b = true then te (σf (some x)) H4 fun y H5 => H5 D = some (.lst ys) ∧ ∃ m', m' < m ∧ W (i + 1) m' (ys ++ [y]) (upd H5 D (.lst (ys ++ [y]))) else ∃ m', m' < m ∧ W (i + 1) m' ys H4))
section
variable {prog : Program} {w : World} {A : Around} {R : Result → Shared → Prop} {s : Shared}
theorem comp_loop {elt target iter : Expr} {ifs : List Expr} {scope : Scope} {pos : Pos} {it acc : Value} {env : Env} (I : Nat → Shared → Prop)
    (turn : ∀ n s, I n s → wpAny (model prog w) A (pyNext it) (fun r s₁ => match r with
      | none => R (.ok .next) s₁
      | some v => wpAny (model prog w) A (letOwnedTupleGo target it v) (fun _ s₁' => wpAny (model prog w) A (assign target env v) (fun _ s₂ =>
          wpAny (model prog w) A (forIn ifs true fun c r => if r = true then do let ok ← isTrue c env (eval c env); pure (ForInStep.yield ok) else pure (ForInStep.yield r)) (fun ok s₃ =>
            if ok = true then wpAny (model prog w) A (eval elt env) (fun x s₄ =>
              wpAny (model prog w) A (call (.builtin "list.append") [acc, x]) (fun _ s₅ => ∃ m, m < n ∧ I m s₅) (fun _ _ => False) s₄) (fun _ _ => False) s₃
            else ∃ m, m < n ∧ I m s₃) (fun _ _ => False) s₂) (fun _ _ => False) s₁') (fun _ _ => False) s₁) (fun _ _ => False) s)
    (n : Nat) (h : I n s) :
    codeAny (model prog w) A (.compLoop (.ListComp elt [⟨target, iter, ifs, 0⟩] scope pos) 0 it acc env) R s := by
  have no : ∀ {α : Type} {t : Sem α} {Q : α → Shared → Prop} {E : Value → Shared → Prop} {s : Shared}, wpAny (model prog w) A t Q (fun _ _ => False) s → wpAny (model prog w) A t Q E s := fun h => wpAny_mono h (fun _ _ q => q) fun _ _ f => f.elim
  refine codeAny_loop rfl I (fun n s hI => ?_) n h
  show wpAny _ A ((compTurn (.ListComp elt [⟨target, iter, ifs, 0⟩] scope pos) 0 it acc env).onRaise (fun x => do noteFrame x env; theTreesLotGoes x)) _ _ s
  refine wpAny_noted ?_
  rw [compTurn_list]
  refine wpAny_bind (wpAny_standAt (wpAny_bind (wpAny_mono (turn n s hI) (fun r s₁ h₁ => ?_) fun _ _ h' => h'.elim)))
  cases r with
  | none => exact wpAny_pure h₁
  | some v =>
    refine wpAny_bind (wpAny_mono h₁ (fun _ s₁' h₁' => ?_) fun _ _ h' => h'.elim)
    refine wpAny_bind (wpAny_mono h₁' (fun _ s₂ h₂ => wpAny_bind (wpAny_mono h₂ (fun ok s₃ h₃ => ?_) fun _ _ h' => h'.elim)) fun _ _ h' => h'.elim)
    cases ok with
    | false => exact wpAny_pure ⟨rfl, h₃⟩
    | true =>
      exact wpAny_bind (wpAny_bind (wpAny_mono h₃ (fun x s₄ h₄ => wpAny_bind (wpAny_mono h₄ (fun _ s₅ h₅ => wpAny_pure (wpAny_pure ⟨rfl, h₅⟩)) fun _ _ h' => h'.elim)) fun _ _ h' => h'.elim))
end
section
variable {X : Cx} {elt iter : Expr} {x : Str} {px pos : Pos} {ifs : List Expr} {scope : Scope} {frees : List (Str × Nat)} {tc : TT} {te : TE}
structure CompOk (X : Cx) (scope : Scope) (x : Str) (frees : List (Str × Nat)) : Prop where
  cell : ∀ y ∈ scope.names, y.2 ≠ .cell
  kind : scope.kind = .function
  own : scope.names.lookup x = some .local
  names : ∀ y ∈ scope.names, y.2 = .local → scope.names.lookup y.1 = some .local
  fr : FreesOk X scope frees
  nd : (x :: frees.map (·.1)).Nodup
  cl : ∀ p ∈ scope.names, p.2 = .free → (X.env.cells.lookup p.1).isSome = true
  calm : X.calm = true
theorem relabel_free {scope : Scope} {env : Env} {y : Str} (hc : ∀ y ∈ scope.names, y.2 ≠ .cell) (h : (relabel scope env).names.lookup y = some .cell ∨ (relabel scope env).names.lookup y = some .free) : (y, NameKind.free) ∈ scope.names := by
  have key : ∀ k, (relabel scope env).names.lookup y = some k → k ≠ .local → k = .cell ∨ k = .free → (y, NameKind.free) ∈ scope.names := fun k hk _ hkk => by
    have hm := PySem.mem_of_lookup hk
    obtain ⟨⟨n, k0⟩, hm0, e⟩ := List.mem_map.mp hm
    by_cases hcond : (k0 == NameKind.free && env.scope.kind == .function && env.kindOf n == some .cell) = true
    · have e' : (n, NameKind.cell) = (y, k) := by rw [← e]; exact (if_pos hcond).symm
      have hk0 : k0 = .free := by
        rw [Bool.and_eq_true, Bool.and_eq_true] at hcond
        exact eq_of_beq hcond.1.1
      have en : n = y := congrArg Prod.fst e'
      rw [← en, ← hk0]
      exact hm0
    · have e' : (n, k0) = (y, k) := by rw [← e]; exact (if_neg hcond).symm
      have en : n = y := congrArg Prod.fst e'
      have ek : k0 = k := congrArg Prod.snd e'
      rcases hkk with hkk | hkk
      · exact absurd (ek.trans hkk) (hc _ hm0)
      · rw [← en, ← hkk, ← ek]
        exact hm0
  rcases h with h | h
  · exact key _ h (by decide) (.inl rfl)
  · exact key _ h (by decide) (.inr rfl)
theorem comp_core {pins : List (Addr × Obj)} {σ : St} {H1 : Hp} {s₂ : Shared} {it : Addr} {fp : List Addr} {tn : Nat → Heap → Prop} {J : It} {Q : VK} {RR : Value → Addr → Result → Shared → Prop} {E : Value → Shared → Prop}
    (O : CompOk X scope x frees) (hc : ∀ C ex s₂ H₂, PIfs (compCx X scope (x :: frees.map (·.1)) C ex s₂ H₂) ifs tc) (he : ∀ C ex s₂ H₂, PE (compCx X scope (x :: frees.map (·.1)) C ex s₂ H₂) elt te)
    (I : Inv X pins σ H1 s₂) (T : Turn X.prog X.w X.K (.Name x px) J fp it tn) (st : tn 0 s₂.heap) (hf : ∀ b ∈ fp, FpOk X pins H1 b) (hB : CompB J tc te (inSt frees σ) H1 Q)
    (hRR : ∀ D C H' s', Inv X pins σ H' s' → (∃ m, s'.heap.Ns C m) → FpOk X pins H' C → Q (.ref D) H' → RR (.ref D) C (.ok .next) s') :
    wpAny (model X.prog X.w) X.A (newList []) (fun acc s₃ => wpAny (model X.prog X.w) X.A (newFunctionEnv scope X.env.globals (closOf X.env.cells scope.names []) [] X.env.qual none .none (some X.env)) (fun cenv s₄ =>
      codeAny (model X.prog X.w) X.A (.compStart (.ListComp elt [⟨.Name x px, iter, ifs, 0⟩] scope pos) 0 (.ref it) acc { cenv with scope := relabel scope X.env }) (RR acc cenv.locals) s₄) E s₃) E s₂ := by
  refine wpAny_newObj_type (wpAny_newFunctionEnv O.cell (by intro y hy; simp at hy) (fun h₁ hns₁ hsb₁ => ?_) O.kind)
  dsimp only at hns₁ hsb₁ ⊢
  generalize hH2 : s₂.heap.push { cls := .type "list", dict := none, data := .seq ([] : List Value).toArray } = H2 at hns₁ hsb₁ ⊢
  have hC : H2.objs.size = s₂.heap.objs.size + 1 := by rw [← hH2, Heap.size_push]
  have hDC : s₂.heap.objs.size ≠ H2.objs.size := by rw [hC]; exact Nat.ne_of_lt (Nat.lt_succ_self _)
  have hCle : s₂.heap.objs.size ≤ H2.objs.size := by rw [hC]; exact Nat.le_succ _
  have below : ∀ b, b < s₂.heap.objs.size → b ≠ H2.objs.size ∧ b ≠ s₂.heap.objs.size := fun b hb => ⟨by rw [hC]; exact Nat.ne_of_lt (Nat.lt_succ_of_lt hb), Nat.ne_of_lt hb⟩
  have old : ∀ b o, s₂.heap.get? b = some o → h₁.get? b = some o := fun b o e => hsb₁.extBut b o (below b (Heap.lt_size e)).1 (Heap.get?_push_of_some _ (hH2 ▸ Heap.get?_push_of_some _ e))
  have hacc : h₁.get? s₂.heap.objs.size = some { cls := .type "list", data := .seq ([] : List Value).toArray } := hsb₁.extBut _ _ hDC (Heap.get?_push_of_some _ (hH2 ▸ Heap.get?_push_size _ rfl))
  have nD : H1 s₂.heap.objs.size = none := I.hok.fresh (Nat.le_refl _)
  obtain ⟨W, ⟨m0, w0⟩, hW⟩ := hB s₂.heap.objs.size nD
  -- the block's context and its first state
  let X' : Cx := compCx X scope (x :: frees.map (·.1)) H2.objs.size fp s₂ H1
  have inC : ∀ y c, (closOf X.env.cells scope.names []).lookup y = some c → X.env.cells.lookup y = some c := fun y c h => closOf_in scope.names [] O.cl (fun y c h => by cases h) h
  have fpl : ∀ b ∈ fp, b < s₂.heap.objs.size := fun b hb => by
    obtain ⟨o, e, _⟩ := T.obj _ _ st b hb
    exact Heap.lt_size e
  have ok' : X'.Ok := by
    refine ⟨I.ok.mod, O.kind, I.ok.glob, I.ok.blt, hCle, fun y z c h1 h2 => I.ok.inj y z c (inC y c h1) (inC z c h2), fun y hy => ?_, fun y c h _ => (by cases h), I.ok.hd, I.ok.frames, .inl rfl, fun b hb => ?_, I.bs, Nat.le_trans I.ok.bsz I.sz, fun b o e hb => ?_, fun b hb z => ?_, I.stack, I.stkFree⟩
    · exact Option.isSome_iff_exists.mp (closOf_has scope.names [] (.inr (relabel_free O.cell hy)))
    · exact ⟨(below b (fpl b hb)).1, fun y c h => (hf b hb).2.2.2.2.1 y c (inC y c h)⟩
    · rcases (hf b hb).2.2.2.1 with z | z
      · exact I.ok.noex b o e z
      · exact absurd (Nat.lt_of_lt_of_le (Nat.lt_of_lt_of_le (Heap.lt_size e) I.ok.bsz) z) (Nat.lt_irrefl _)
    · exact (List.mem_cons.mp (I.stkSub b z)).elim (hf b hb).2.1 (hf b hb).2.2.1
  have hok1 : HOk X.prog X.w (upd H1 s₂.heap.objs.size (.lst [])) h₁ := I.hok.laid old (Nat.le_refl _) ⟨Nat.zero_le _, [], 0, .nil, hacc⟩
  have I0 : ∀ tk, Inv X' [] (inSt frees σ none) (upd H1 s₂.heap.objs.size (.lst [])) { s₂ with heap := h₁, toks := tk } := fun tk => by
    refine ⟨ok', rfl, I.bare, Un.laid old (Nat.le_refl _) nD, ⟨_, hns₁, fun i y v h1 h2 h3 => ?_⟩, fun y c h => ?_, ?_, fun y c h => ?_, fun p hp => absurd (show p ∈ ([] : List (Addr × Obj)) from hp) (by simp), hok1, ?_⟩
    · cases i with
      | zero =>
        have h2' : (none : Option V) = some v := Option.some.inj h2
        cases h2'
      | succ j =>
        have h1' : (frees.map (·.1))[j]? = some y := h1
        have h2' : (frees.map fun p => (σ[p.2]?).join)[j]? = some (some v) := h2
        rw [List.getElem?_map] at h1' h2'
        cases e : frees[j]? with
        | none => rw [e] at h1'; cases h1'
        | some p =>
          rw [e] at h1' h2'
          have e1 : p.1 = y := Option.some.inj h1'
          have e2 : (σ[p.2]?).join = some v := Option.some.inj h2'
          obtain ⟨g1, g2, g3, g4⟩ := O.fr.at p (List.mem_of_getElem? e)
          have e3 : σ[p.2]? = some (some v) := by
            cases q : σ[p.2]? with
            | none => rw [q] at e2; cases e2
            | some o => rw [q] at e2; exact congrArg some e2
          obtain ⟨m, hn, hl⟩ := I.loc
          obtain ⟨u, r, l⟩ := hl p.2 p.1 v g1 e3 (.inr (.inl g2))
          refine ⟨u, r, ?_⟩
          rcases l with ⟨k, _⟩ | ⟨_, c, hc1, hc2⟩
          · rw [g2] at k; cases k
          · obtain ⟨c2, hc3⟩ := Option.isSome_iff_exists.mp (closOf_has (cells := X.env.cells) scope.names [] (.inr g4))
            have hc4 := inC _ _ hc3
            rw [hc1] at hc4
            cases hc4
            rw [← e1]
            refine .inr ⟨.inl g3, c, hc3, ?_⟩
            obtain ⟨o, ho, hd⟩ := hc2
            exact ⟨o, old c o ho, hd⟩
    · obtain ⟨v, o, ho, hd⟩ := I.cell y c (inC y c h)
      exact ⟨v, o, old c o ho, hd⟩
    · show upd H1 s₂.heap.objs.size (.lst []) H2.objs.size = none
      rw [upd_ne (Ne.symm hDC)]
      exact I.hok.fresh hCle
    · obtain ⟨v, o, ho, hd⟩ := I.cell y c (inC y c h)
      rw [upd_ne (below c (Heap.lt_size ho)).2]
      exact I.freeC y c (inC y c h)
    · show (inSt frees σ none).length = (x :: frees.map (·.1)).length
      simp [inSt]
  have stat : ∀ {H' : Hp}, (∀ b ∈ fp, H' b = none) → ∀ b ∈ fp, FpOk X' [] H' b := fun hn b hb =>
    ⟨hn b hb, (below b (fpl b hb)).1, fun z => (List.mem_cons.mp (I.stkSub b z)).elim (hf b hb).2.1 (hf b hb).2.2.1, .inl hb, fun y c h => (hf b hb).2.2.2.2.1 y c (inC y c h), fun p hp => absurd (show p ∈ ([] : List (Addr × Obj)) from hp) (by simp)⟩
  have hst₁ : tn 0 h₁ := T.keep _ _ _ st fun b _ o e => old b o e
  have fr0 : ∀ b ∈ fp, (upd H1 s₂.heap.objs.size (.lst [])) b = none := fun b hb => by
    rw [upd_ne (below b (fpl b hb)).2]
    exact (hf b hb).1
  have loop : ∀ tk, codeAny (model X.prog X.w) X.A (.compLoop (.ListComp elt [⟨.Name x px, iter, ifs, 0⟩] scope pos) 0 (.ref it) (.ref s₂.heap.objs.size) X'.env) (RR (.ref s₂.heap.objs.size) H2.objs.size) { s₂ with heap := h₁, toks := tk } := fun tk => by
    refine comp_loop (fun n s' => ∃ i ys o H', Inv X' [] (inSt frees σ o) H' s' ∧ tn i s'.heap ∧ (∀ b ∈ fp, H' b = none) ∧ W i n ys H') ?_ m0 ⟨0, [], none, _, I0 tk, hst₁, fr0, w0⟩
    rintro n s3 ⟨i, ys, o3, H3, I3, st3, fr3, w3⟩
    obtain ⟨hD3, alt⟩ := hW i n ys H3 w3
    rcases alt with ⟨stop, q⟩ | ⟨go, hlt, step⟩
    · refine thn (T.done X' rfl rfl rfl O.calm i [] s3 _ H3 _ I3 (stat fr3) st3 stop) fun r s4 ⟨hr, I4⟩ => ?_
      subst hr
      have J4 : Inv X pins σ H3 s4 := I.call' (ch := fp) I4.os I4.base I4.hok I4.bare fun b hb => ⟨(hf b hb).2.2.2.1, (hf b hb).2.1, (hf b hb).2.2.2.2.1, (hf b hb).2.2.2.2.2⟩
      obtain ⟨m4, hn4, _⟩ := I4.loc
      exact hRR _ _ H3 s4 J4 ⟨m4, hn4⟩ (I.fpOk hCle I4.free) q
    · refine thn (T.item X' rfl rfl rfl O.calm i [] s3 _ H3 _ I3 (stat fr3) st3 go) fun r s4 ⟨u, hr, h4⟩ => ?_
      subst hr
      refine thn h4 fun _ s5 ⟨v, H5, I5, r5, y5, st5, fr5⟩ => ?_
      have I5' := I5.pinned (stat fr5) (T.obj _ _ st5)
      have tail : ∀ {σ7 : St} {H7 : Hp} {s7 : Shared}, Inv X' ([] ++ pinsAt fp s5.heap) σ7 H7 s7 → Inv X' [] σ7 H7 s7 ∧ tn (i + 1) s7.heap ∧ ∀ b ∈ fp, H7 b = none := fun {σ7 H7 s7} I7 => by
        refine ⟨I7.unpinned, T.keep _ _ _ st5 fun b hb o e => (I7.pin (b, o) (List.mem_append_right _ (List.mem_append_right _ (mem_pinsAt hb e)))).1, fun b hb => ?_⟩
        obtain ⟨o, e, d⟩ := T.obj _ _ st5 b hb
        exact (I7.pin (b, o) (List.mem_append_right _ (List.mem_append_right _ (mem_pinsAt hb e)))).2.1
      have hg : PG X' (.Name x px) (gName 0) := pg_name O.nd rfl (Or.inl (lookup_relabel_local O.own)) (.inr (lookup_relabel_local O.own))
      refine thn (hg _ s5 _ H5 v u (fun σ6 H6 => σ6 = inSt frees σ (some v) ∧ H6 = H5) I5' r5 ⟨rfl, rfl⟩) fun _ s6 ⟨σ6, H6, I6, e6, e6'⟩ => ?_
      subst e6 e6'
      refine thn (hc _ _ _ _ _ s6 _ _ _ I6 (step v _ y5)) fun b s7 ⟨H7, I7, q7⟩ => ?_
      cases b with
      | false =>
        obtain ⟨m', hm, w7⟩ := (show ∃ m', m' < n ∧ W (i + 1) m' ys H7 from q7)
        obtain ⟨t1, t2, t3⟩ := tail I7
        exact ⟨m', hm, i + 1, ys, some v, H7, t1, t2, t3, w7⟩
      | true =>
        refine thn (he _ _ _ _ _ s7 _ _ _ I7 q7) fun y s8 ⟨y', H8, I8, r8, hD8, m', hm, w8⟩ => ?_
        refine thn (mt_append (X := X') _ s8 _ H8 (.ref s₂.heap.objs.size) [y'] _ [y] (fun _ H9 => H9 = upd H8 s₂.heap.objs.size (.lst (ys ++ [y']))) I8 rfl (.cons r8 .nil) ⟨_, _, _, rfl, rfl, hD8, hlt, rfl⟩) fun _ s9 ⟨_, H9, I9, _, e9⟩ => ?_
        subst e9
        obtain ⟨t1, t2, t3⟩ := tail I9
        exact ⟨m', hm, i + 1, ys ++ [y'], some v, _, t1, t2, t3, w8⟩
  exact codeAny_compStart_list (loop _) (T.self _ 0 _ _ _ hst₁ (loop _))
def tComp (frees : List (Str × Nat)) (tc : TT) (te : TE) (wi : TI) : TE := fun σ H Q => wi σ H fun J H1 => CompB J tc te (inSt frees σ) H1 Q
theorem pe_comp {wi : TI} (O : CompOk X scope x frees) (hxe : X.xe = fun _ _ => False) (hi : PI X (.Name x px) iter wi)
    (hc : ∀ C ex s₂ H₂, PIfs (compCx X scope (x :: frees.map (·.1)) C ex s₂ H₂) ifs tc) (he : ∀ C ex s₂ H₂, PE (compCx X scope (x :: frees.map (·.1)) C ex s₂ H₂) elt te)
    (hs : ∀ x, foldedSetIterable iter X.env x = pure x := by intro _; rfl) : PE X (.ListComp elt [⟨.Name x px, iter, ifs, 0⟩] scope pos) (tComp frees tc te wi) := by
  intro pins s σ H Q I h
  rw [eval_ListComp]
  refine wpAny_comprehension_free (use := none) rfl hs (closureFor_of O.cl) O.kind O.names (thn (hi pins s σ H _ I h) fun xv s₁ h₁ => thn h₁ fun itv s₂ h₂ => ?_)
  obtain ⟨it, fp, tn, J, H2, e, I2, T, st2, f2, hB⟩ := h₂
  subst e
  refine comp_core (RR := fun acc C => compPost (model X.prog X.w) X.A X.xe none (EP X pins σ Q) acc C) O hc he I2 T st2 f2 hB ?_
  intro D C H' s' I' hn hC q
  obtain ⟨m, hn⟩ := hn
  refine ⟨m, hn, fun h' hs' => ?_⟩
  exact ⟨.ref D, H', I'.turned (t' := s'.toks) (fun b o hb e => hs'.extBut b o hb e) hC.1 hC.2.1 hC.2.2.2.1 hC.2.2.2.2.1 hC.2.2.2.2.2, rfl, q⟩
theorem ps_comp {wi : TI} {i : Nat} {y : Str} {py spos : Pos} (O : CompOk X scope x frees) (hN : X.N.Nodup) (hiy : X.N[i]? = some y) (hy : X.env.kindOf y = some .local) (hsw : swapsWith (.ListComp elt [⟨.Name x px, iter, ifs, 0⟩] scope pos) (some (.Name y py)) spos.line X.env = pure true)
    (hi : PI X (.Name x px) iter wi) (hc : ∀ C ex s₂ H₂, PIfs (compCx X scope (x :: frees.map (·.1)) C ex s₂ H₂) ifs tc) (he : ∀ C ex s₂ H₂, PE (compCx X scope (x :: frees.map (·.1)) C ex s₂ H₂) elt te)
    (hs : ∀ x, foldedSetIterable iter X.env x = pure x := by intro _; rfl) : PS X (.Assign [.Name y py] (.ListComp elt [⟨.Name x px, iter, ifs, 0⟩] scope pos) spos) (tAsg (tComp frees tc te wi) (gName i)) := by
  intro pins s σ H D I h
  rw [exec_Assign_Name_used _ _ _ _ hsw]
  refine wpAny_bind (wpAny_standAt (wpAny_bind ?_))
  show wpAny _ X.A (do let _ ← comprehension (.ListComp elt [⟨.Name x px, iter, ifs, 0⟩] scope pos) scope X.env _ (newList []) false (eval iter X.env) (some (assign (.Name y py) X.env))) _ _ s
  refine wpAny_bind (wpAny_mono (wpAny_comprehension_free (use := some (assign (.Name y py) X.env)) (Q := fun _ s' => SP X pins D .next s') rfl hs (closureFor_of O.cl) O.kind O.names
    (thn (hi pins s σ H _ I h) fun xv s₁ h₁ => thn h₁ fun itv s₂ h₂ => ?_)) (fun _ s' hq => wpAny_pure (wpAny_pure hq)) fun _ _ e => e)
  obtain ⟨it, fp, tn, J, H2, e, I2, T, st2, f2, hB⟩ := h₂
  subst e
  refine comp_core (RR := fun acc C => compPost (model X.prog X.w) X.A X.xe (some (assign (.Name y py) X.env)) (fun _ s' => SP X pins D .next s') acc C) O hc he I2 T st2 f2 hB ?_
  intro A C H' s' I' hn hC q
  obtain ⟨m, hn⟩ := hn
  obtain ⟨oC, es, ep, hoC, hdC, hr⟩ := id hn
  have I'' : Inv X (pins ++ [(C, oC)]) σ H' s' := I'.pins_of fun p hp => (List.mem_append.mp hp).elim (fun z => I'.pin p (List.mem_append_right _ z)) fun z => by
    rw [List.mem_singleton.mp z]
    exact ⟨hoC, hC.1, hC.2.1, hC.2.2.1, fun v e => by rw [hdC] at e; cases e⟩
  show wpAny _ X.A (assign (.Name y py) X.env (.ref A)) _ _ _
  refine wpAny_assign_Name (store_ok I'' hN hiy (.inl hy) (v := .ref A) rfl (fun s3 I3 => ?_) (.inr hy))
  have hC3 := (I3.pin (C, oC) (List.mem_append_right _ (List.mem_append_right _ (List.mem_singleton.mpr rfl)))).1
  have J3 : Inv X pins (σ.set i (some (.ref A))) H' s3 := I3.unpinned
  refine ⟨m, ⟨oC, es, ep, hC3, hdC, hr⟩, fun h' hs' => ?_⟩
  exact ⟨_, H', J3.turned (t' := s3.toks) (fun b o hb e => hs'.extBut b o hb e) hC.1 hC.2.1 hC.2.2.2.1 hC.2.2.2.2.1 hC.2.2.2.2.2, q⟩
end
end L2
namespace L2
open PySem PySem.Spec PyProof.Rows
section
variable {X : Cx}
def rSlS : V → Option Int → Option Int → Hp → VK → Prop := fun x lo hi H Q => ∃ z, x = .str z ∧ z.length ≤ sizeLine ∧ Q (.str (Txt.slice z lo hi)) H
end
structure Seq (J : It) (H1 : Hp) (xs : List V) : Prop where
  go : ∀ i H, Same H1 H → i < xs.length → J.go i H
  yld : ∀ i H x H', Same H1 H → i < xs.length → J.yld i H x H' → H' = H ∧ xs[i]? = some x
  stop : ∀ H, Same H1 H → J.stop xs.length H
theorem seq_list {K : PySem.W.Frag} {a : Addr} {xs : List V} {H1 : Hp} (h : SqL K H1 a xs) : Seq (Itl K a) H1 xs where
  go := fun i H e hi => ⟨xs, xs[i], e.seq h, List.getElem?_eq_getElem hi⟩
  yld := fun i H x H' e _ y => ⟨y.1, y.2 xs (e.seq h)⟩
  stop := fun H e => ⟨xs, e.seq h, Nat.le_refl _⟩
theorem take_more {α : Type} {xs : List α} {i : Nat} {x : α} (h : xs[i]? = some x) : xs.take (i + 1) = xs.take i ++ [x] := by
  rw [List.take_succ, h]
  rfl
theorem compB_seq {J : It} {tc : TT} {te : TE} {σf : Option V → St} {H1 : Hp} {Q : VK} {xs : List V} (S : Seq J H1 xs) (p : V → Bool) (g : V → V) (hz : xs.length < sizeLine)
    (hc : ∀ x ∈ xs, ∀ (H' : Hp) (R : Bool → Hp → Prop), Same H1 H' → R (p x) H' → tc (σf (some x)) H' R)
    (he : ∀ x ∈ xs, ∀ (H' : Hp) (R : VK), Same H1 H' → p x = true → R (g x) H' → te (σf (some x)) H' R)
    (q : ∀ D H', Same H1 H' → H1 D = none → H' D = some (.lst ((xs.filter p).map g)) → Q (.ref D) H') : CompB J tc te σf H1 Q := by
  intro D hD
  refine ⟨fun i m ys H2 => m = xs.length - i ∧ i ≤ xs.length ∧ Same H1 H2 ∧ H2 D = some (.lst ys) ∧ ys = ((xs.take i).filter p).map g, ⟨xs.length, rfl, Nat.zero_le _, same_new hD _, upd_same, rfl⟩, ?_⟩
  rintro i m ys H2 ⟨rfl, hi, sm, hD2, rfl⟩
  refine ⟨hD2, ?_⟩
  by_cases hlt : i < xs.length
  · refine .inr ⟨S.go i H2 sm hlt, ?_, fun x H3 y => ?_⟩
    · rw [List.length_map]
      refine Nat.lt_of_le_of_lt (List.length_filter_le _ _) ?_
      rw [List.length_take]
      omega
    · obtain ⟨e, hx⟩ := S.yld i H2 x H3 sm hlt y
      subst e
      have mem : x ∈ xs := List.mem_of_getElem? hx
      refine hc x mem _ _ sm ?_
      cases hp : p x with
      | false =>
        refine iteF ⟨xs.length - (i + 1), by omega, rfl, hlt, sm, hD2, ?_⟩
        rw [take_more hx, List.filter_append, List.filter_cons_of_neg (by rw [hp]; decide), List.filter_nil, List.append_nil]
      | true =>
        refine iteT (he x mem _ _ sm hp ⟨hD2, xs.length - (i + 1), by omega, rfl, hlt, same_on hD sm _, upd_same, ?_⟩)
        rw [take_more hx, List.filter_append, List.filter_cons_of_pos hp, List.filter_nil, List.map_append]
        rfl
  · have e : i = xs.length := by omega
    subst e
    refine .inl ⟨S.stop H2 sm, q D H2 sm hD ?_⟩
    rw [hD2, List.take_of_length_le (Nat.le_refl _)]
def cellsFor (cells : List (Str × Addr)) (names : List (Str × NameKind)) : Bool := names.all fun p => if (p.2 == NameKind.free) = true then (cells.lookup p.1).isSome else true
theorem cellsFor_at {cells : List (Str × Addr)} {names : List (Str × NameKind)} (h : cellsFor cells names = true) : ∀ p ∈ names, p.2 = .free → (cells.lookup p.1).isSome = true := fun p hp hk => by
  have q := (List.all_eq_true.mp h) p hp
  rw [hk, show (NameKind.free == NameKind.free) = true from rfl, if_pos rfl] at q
  exact q
end L2
namespace L2
open PySem PySem.Spec PyProof.Rows
section
variable {X : Cx}
def rIxLA (K : PySem.W.Frag) : R2 := fun x y H Q => ∃ p xs i, x = .ref p ∧ y = .int i ∧ SqL K H p xs ∧ 0 ≤ i ∧ i < ((xs.length : Nat) : Int) ∧ ∀ v, xs[i.toNat]? = some v → Q v H
theorem ix_listA : IxR X (rIxLA X.K) := by
  intro value slice pins s σ H x y v u Q I rx ry h hs
  obtain ⟨p, xs, i, rfl, rfl, hq, h0, h1, q⟩ := h
  obtain ⟨c, e1, e2⟩ := at_in (xs := xs) h0 h1
  exact ix_list value slice pins s σ H _ _ v u Q I rx ry ⟨p, xs, i, c, rfl, rfl, hq, e2, q c e1⟩ hs
def intV : V → Bool
  | .int _ => true
  | _ => false
end
end L2
namespace L2
open PySem PySem.Spec PyProof.Rows
section
variable {X : Cx}
def PSk (X : Cx) (st : Stmt) (t : TS) : Prop :=
  ∀ (pins : List (Addr × Obj)) (s : Shared) (σ : St) (H : Hp) (D : Ends), Inv X pins σ H s → 1 ≤ s.toks → t D σ H → wpAny (model X.prog X.w) X.A (exec st X.env) (SP X pins D) X.xe s
def PSsK (X : Cx) (st : List Stmt) (t : TS) : Prop :=
  ∀ (pins : List (Addr × Obj)) (s : Shared) (σ : St) (H : Hp) (D : Ends), Inv X pins σ H s → 1 ≤ s.toks → t D σ H → wpAny (model X.prog X.w) X.A (execs st X.env) (SP X pins D) X.xe s
def PEk (X : Cx) (e : Expr) (t : TE) : Prop :=
  ∀ (pins : List (Addr × Obj)) (s : Shared) (σ : St) (H : Hp) (Q : VK), Inv X pins σ H s → 1 ≤ s.toks → t σ H Q → wpAny (model X.prog X.w) X.A (eval e X.env) (EP X pins σ Q) X.xe s
def PE1 (X : Cx) (e : Expr) (t : TE) : Prop :=
  ∀ (pins : List (Addr × Obj)) (s : Shared) (σ : St) (H : Hp) (Q : VK), Inv X pins σ H s → t σ H Q → wpAny (model X.prog X.w) X.A (eval e X.env) (fun u s' => 1 ≤ s'.toks ∧ EP X pins σ Q u s') X.xe s
def PS1 (X : Cx) (st : Stmt) (t : TS) : Prop :=
  ∀ (pins : List (Addr × Obj)) (s : Shared) (σ : St) (H : Hp) (D : Ends), Inv X pins σ H s → t D σ H → wpAny (model X.prog X.w) X.A (exec st X.env) (fun f s' => 1 ≤ s'.toks ∧ SP X pins D f s') X.xe s
theorem PS.k {st : Stmt} {t : TS} (h : PS X st t) : PSk X st t := fun pins s σ H D I _ hw => h pins s σ H D I hw
theorem PSs.k {st : List Stmt} {t : TS} (h : PSs X st t) : PSsK X st t := fun pins s σ H D I _ hw => h pins s σ H D I hw
def tRepl (y z : Str) (to : TE) : TE := fun σ H Q => to σ H fun v H1 => ∃ x, v = .str x ∧ x.length + (x.length + 1) * z.length ≤ 16777216 ∧ ∀ u : Str, u.length ≤ x.length + (x.length + 1) * z.length → Q (.str u) H1
end
end L2
namespace L2
open PySem PySem.Spec PyProof.Rows
section
variable {prog : Program} {w : World} {A : Around} {E : Value → Shared → Prop} {s : Shared}
set_option maxHeartbeats 2000000 in
end
end L2
namespace L2
open PySem PySem.Spec PyProof.Rows
section
variable {prog : Program} {w : World} {A : Around} {E : Value → Shared → Prop} {s : Shared}
end
end L2
namespace L2
open PySem PySem.Spec PyProof.Rows
section
variable {prog : Program} {w : World} {A : Around} {E : Value → Shared → Prop} {s : Shared}
end
def Ite (K : PySem.W.Frag) (a : Addr) (j : Int) : It :=
  ⟨fun i H => ∃ xs x, SqL K H a xs ∧ xs[i]? = some x, fun i H x H' => ∃ p y, x = .ref p ∧ H p = none ∧ H' = upd H p (.tup [.int (j + (i : Nat)), y]) ∧ ∀ xs, SqL K H a xs → xs[i]? = some y, fun i H => ∃ xs, SqL K H a xs ∧ xs.length = i⟩
section
variable {X : Cx} {elts : List Expr} {x1 : Nat} {tpos : Pos}
def iEnumK (K : PySem.W.Frag) (tl : TA) (tj : TA) : TI := fun σ H R => tl σ H fun vs H1 => tj σ H1 fun zs H2 => ∃ a j, vs = [.ref a] ∧ zs = [.int j] ∧ (∃ xs, SqL K H2 a xs) ∧ Builtin.SmallTypes.fitsIndex j = true ∧ R (Ite K a j) H2
def iEnum (K : PySem.W.Frag) (tl : TA) : TI := fun σ H R => tl σ H fun vs H1 => ∃ a, vs = [.ref a] ∧ (∃ xs, SqL K H1 a xs) ∧ R (Ite K a 0) H1
end
end L2
namespace L2
open PySem PySem.Spec PyProof.Rows
section
variable {X : Cx} {pins : List (Addr × Obj)} {σ : St} {H : Hp} {s : Shared} {d : Addr} {kvs : List (Key × V)}
theorem Inv.freeze (I : Inv X pins σ H s) (h : H d = some (.dK kvs)) : ∃ o, s.heap.get? d = some o ∧ Inv X pins σ (upd H d (.frz o (.dK kvs))) s := by
  obtain ⟨z, hd, vs, r, o, es, ep, e, c⟩ := I.hok d _ h
  have mu : Mut (H d) := by rw [h]; trivial
  refine ⟨o, e, I.un (h' := s.heap) (t' := s.toks) (Un.write mu (.inl rfl) (fun _ _ _ q => q) ⟨o, e⟩) (I.hok.write mu (.inl rfl) (fun _ _ _ q => q) ⟨o, e⟩ ⟨e, z, hd, vs, r, o, es, ep, e, c⟩)⟩
theorem Inv.thaw {o : Obj} (I : Inv X pins σ H s) (h : H d = some (.frz o (.dK kvs))) (h0 : ∀ o u, X.H₀ d ≠ some (.frz o u)) : Inv X pins σ (upd H d (.dK kvs)) s := by
  have nn : ∀ b, H b = none → b ≠ d := fun b q z => by rw [z, h] at q; cases q
  refine ⟨I.ok, I.os, I.bare, ⟨I.base.keep, I.base.slot, fun b o' e n hx => ?_, I.base.there, fun b xs e => ?_, fun b o' u e => ?_, fun b ps e => ?_⟩, I.loc, I.cell, ?_, fun x c e => ?_, fun p hp => ?_, fun b u e => ?_, I.len⟩
  · have q := I.base.free b o' e n hx
    rw [upd_ne (nn b q)]
    exact q
  · have q := I.base.tups b xs e
    rw [upd_ne (ne_of q h (by intro z; cases z))]
    exact q
  · have q := I.base.frzs b o' u e
    rw [upd_ne (fun z => h0 o' u (by rw [← z]; exact e))]
    exact q
  · obtain ⟨more, q⟩ := I.base.tbls b ps e
    refine ⟨more, ?_⟩
    rw [upd_ne (ne_of q h (by intro z; cases z))]
    exact q
  · rw [upd_ne (nn _ I.free)]
    exact I.free
  · rw [upd_ne (nn _ (I.freeC x c e))]
    exact I.freeC x c e
  · obtain ⟨a, b, c⟩ := I.pin p hp
    exact ⟨a, by rw [upd_ne (nn _ b)]; exact b, c⟩
  · by_cases hb : b = d
    · subst hb
      rw [upd_same] at e
      cases e
      obtain ⟨q, ok⟩ := I.hok b _ h
      exact ok
    · rw [upd_ne hb] at e
      exact (I.hok b u e).stay (fun _ _ _ q => q) (fun c q => by rw [upd_ne (ne_of q h (by intro z; cases z))]; exact q) (fun c xs q => by rw [upd_ne (ne_of q h (by intro z; cases z))]; exact q)
theorem Inv.unfrozen (I : Inv X pins σ H s) (h : H d = some (.dK kvs)) : ∀ o u, X.H₀ d ≠ some (.frz o u) := fun o u e => by
  have q := I.base.frzs d o u e
  rw [h] at q
  cases q
def tFrz (t : TE) : TE := fun σ H Q => ∃ (d : Addr) (kvs : List (Key × V)), H d = some (.dK kvs) ∧ ∀ o, t σ (upd H d (.frz o (.dK kvs))) fun v H' => H' d = some (.frz o (.dK kvs)) ∧ Q v (upd H' d (.dK kvs))
theorem pe_frz {e : Expr} {t : TE} (h : PE X e t) : PE X e (tFrz t) := by
  intro pins s σ H Q I hw
  obtain ⟨d, kvs, hd, q⟩ := hw
  obtain ⟨o, eo, I1⟩ := I.freeze hd
  refine thn (h pins s σ _ _ I1 (q o)) fun v s1 ⟨x, H1, I2, r, hz, q2⟩ => ?_
  exact ⟨x, _, I2.thaw hz (I.unfrozen hd), r, q2⟩
def sFrz (t : TS) : TS := fun D σ H => ∃ (d : Addr) (kvs : List (Key × V)), H d = some (.dK kvs) ∧ ∀ o, t { nx := fun σ' H' => H' d = some (.frz o (.dK kvs)) ∧ D.nx σ' (upd H' d (.dK kvs)), rt := fun v H' => H' d = some (.frz o (.dK kvs)) ∧ D.rt v (upd H' d (.dK kvs)), bk := fun σ' H' => H' d = some (.frz o (.dK kvs)) ∧ D.bk σ' (upd H' d (.dK kvs)), ct := fun σ' H' => H' d = some (.frz o (.dK kvs)) ∧ D.ct σ' (upd H' d (.dK kvs)) } σ (upd H d (.frz o (.dK kvs)))
theorem ps_frz {st : Stmt} {t : TS} (h : PS X st t) : PS X st (sFrz t) := by
  intro pins s σ H D I hw
  obtain ⟨d, kvs, hd, q⟩ := hw
  obtain ⟨o, eo, I1⟩ := I.freeze hd
  refine thn (h pins s σ _ _ I1 (q o)) fun f s1 q1 => ?_
  have un := I.unfrozen hd
  cases f with
  | next => obtain ⟨σ', H', I2, hz, q2⟩ := q1; exact ⟨σ', _, I2.thaw hz un, q2⟩
  | brk => obtain ⟨σ', H', I2, hz, q2⟩ := q1; exact ⟨σ', _, I2.thaw hz un, q2⟩
  | cont => obtain ⟨σ', H', I2, hz, q2⟩ := q1; exact ⟨σ', _, I2.thaw hz un, q2⟩
  | ret u => obtain ⟨v, σ', H', I2, r, hz, q2⟩ := q1; exact ⟨v, σ', _, I2.thaw hz un, r, q2⟩
end
def Itd (d : Addr) (o : Obj) (kvs : List (Key × V)) : It :=
  ⟨fun i H => H d = some (.frz o (.dK kvs)) ∧ i < kvs.length, fun i H x H' => H' = H ∧ ∃ k v, kvs[i]? = some (k, v) ∧ x = kV k, fun i H => H d = some (.frz o (.dK kvs)) ∧ kvs.length = i⟩
theorem rel_key {k : Key} {v : Value} (h : keyIs k v = true) : RelV (kV k) v := by
  rcases keyIs_shape h with ⟨i, t, rfl, rfl⟩ | ⟨x, t, rfl, rfl⟩
  · exact ⟨t, rfl⟩
  · exact ⟨t, rfl⟩
theorem turn_dict {P : Program} {w : World} {K : PySem.W.Frag} {tg : Expr} (d it : Addr) (o : Obj) (kvs : List (Key × V)) {vs : List (Key × Value)} {es : Array DictEntry} {ep : Nat} (rk : KV kvs vs) (hd : o.ExactDict) (he : o.data = .dict es ep) (hk : KeysOf (mixKind P w) es) (hp : Pairs (mixKind P w) es.toList vs) (nd : (vs.map (·.1)).Nodup) :
    Turn P w K tg (Itd d o kvs) [it] it (fun i h => h.IsKeyIter it d i vs.length ep) where
  mem := by simp
  obj := fun i h st b hb => by
    have e : b = it := by simpa using hb
    subst e
    obtain ⟨o, e, c, d⟩ := st
    exact ⟨o, e, fun v z => by rw [d] at z; cases z⟩
  keep := fun i h h' st k => st.at fun o e => k it (by simp) o e
  item := by
    intro X hP hw hK hc i pins s σ H E I hf st hg
    subst hP hw hK
    obtain ⟨hz, hi⟩ := hg
    obtain ⟨eo, _⟩ := I.hok d _ hz
    obtain ⟨f0, f1, f2, f3, f4, f5⟩ := hf it (by simp)
    have hl := KV.length rk
    have hi2 : i < vs.length := by omega
    have ev : vs[i]? = some (vs[i].1, vs[i].2) := List.getElem?_eq_getElem hi2
    have ks : kvs[i]? = some (kvs[i].1, kvs[i].2) := List.getElem?_eq_getElem hi
    have keq : kvs[i].1 = vs[i].1 := by
      have q := KV.keys rk
      have q1 : (kvs.map (·.1))[i]? = (vs.map (·.1))[i]? := by rw [q]
      rw [List.getElem?_map, List.getElem?_map, ks, ev] at q1
      exact Option.some.inj q1
    refine wpAny_pyNext_dict_item st ⟨o, es, eo, hd, he, hk, hp, nd⟩ ev fun key h' hkey st' sb => ?_
    have I1 : Inv X pins σ H { s with heap := h' } := I.turned (t' := s.toks) (fun b o hb e => (sb.2 b hb).trans e) f0 f1 f3 f4 f5
    obtain ⟨o2, e2, c2, d2⟩ := id st'
    refine ⟨key, rfl, go_of (s := { s with heap := h' }) e2 c2 d2 (by decide) ⟨kV kvs[i].1, H, I1, ?_, ⟨rfl, _, _, ks, rfl⟩, st', fun b hb => (hf b hb).1⟩⟩
    rw [keq]
    exact rel_key hkey
  done := by
    intro X hP hw hK hc i pins s σ H E I hf st hg
    subst hP hw hK
    obtain ⟨hz, hi⟩ := hg
    obtain ⟨eo, _⟩ := I.hok d _ hz
    obtain ⟨f0, f1, f2, f3, f4, f5⟩ := hf it (by simp)
    have hl := KV.length rk
    have hin : vs[i]? = none := List.getElem?_eq_none (by omega)
    exact wpAny_pyNext_dict_end (I.ok.hd hc) st ⟨o, es, eo, hd, he, hk, hp, nd⟩ hin fun h' eb => ⟨rfl, I.turned (t' := s.toks) (fun b o hb e => eb b o hb e) f0 f1 f3 f4 f5⟩
  self := fun _ _ _ _ _ st h => wpAny_pyIter_keyiter st h
section
variable {X : Cx} {tg : Expr}
def iDict (tl : TE) : TI := fun σ H R => tl σ H fun x H1 => ∃ d o kvs, x = .ref d ∧ H1 d = some (.frz o (.dK kvs)) ∧ R (Itd d o kvs) H1
theorem pi_dict {l : Expr} {tl : TE} (hl : PE X l tl) : PI X tg l (iDict tl) := by
  intro pins s σ H R I h
  refine thn (hl pins s σ H _ I h) fun v s1 ⟨x, H1, I1, r1, q1⟩ => ?_
  obtain ⟨d, o, kvs, rfl, hz, q⟩ := q1
  cases r1
  obtain ⟨eo, z, hd, vs, rk, o', es, ep, e', xd, dt, ko, pr, nd⟩ := I1.hok d _ hz
  rw [eo] at e'
  cases e'
  refine wpAny_pyIter_dict hd ⟨o, es, eo, xd, dt, ko, pr, nd⟩ ?_
  refine ⟨s1.heap.objs.size, [s1.heap.objs.size], _, _, H1, rfl, I1.kept (t' := s1.toks) fun b o e => Heap.get?_push_of_some _ e, turn_dict d _ o kvs rk xd dt ko pr nd, ⟨_, Heap.get?_push_size _ rfl, rfl, rfl⟩, fun b hb => ?_, q⟩
  have e : b = s1.heap.objs.size := by simpa using hb
  subst e
  exact I1.fpOk (Nat.le_refl _) (I1.hok.fresh (Nat.le_refl _))
theorem seq_dict {d : Addr} {o : Obj} {kvs : List (Key × V)} {H1 : Hp} (h : H1 d = some (.frz o (.dK kvs))) : Seq (Itd d o kvs) H1 (kvs.map fun p => kV p.1) where
  go := fun i H e hi => ⟨e _ _ h, by rw [List.length_map] at hi; exact hi⟩
  yld := fun i H x H' e _ y => by
    obtain ⟨a, k, v, b, c⟩ := y
    refine ⟨a, ?_⟩
    rw [List.getElem?_map, b, c]
    rfl
  stop := fun H e => ⟨e _ _ h, by rw [List.length_map]⟩
def rInsert : V → List V → Hp → VK → Prop := fun x vs H Q => ∃ l xs i y, x = .ref l ∧ vs = [.int i, y] ∧ H l = some (.lst xs) ∧ 0 ≤ i ∧ i ≤ ((xs.length : Nat) : Int) ∧ xs.length < sizeLine ∧ Q .non (upd H l (.lst (xs.take i.toNat ++ y :: xs.drop i.toNat)))
structure Dfn (P : Program) (w : World) (K : PySem.W.Frag) (mg : Str → Option Value) (base : Heap) (k : Nat) (x : Str) (ps : List Str) (sp : Sp) : Prop where
  ex : ∃ f fd, FnOk P w K mg base CX0 k f fd ps sp ∧ Binds K fd ps [] ∧ PySem.W.keepIn K (.ref f) = true ∧ mg x = some (.ref f)
theorem pe_callD {k : Nat} {x : Str} {ps : List Str} {sp : Sp} {e : Expr} {es : List Expr} {t : TA} {p pos : Pos} (D : Dfn X.prog X.w X.K X.mg X.base k x ps sp) (hr : Room k X.A) (hg : Gl X x) (ha : PA X (e :: es) t) (hdb : (x == ("__debug__" : Str)) = false := by decide)
    (he : starEach (e :: es) X.env = (false, eval e X.env) :: starEach es X.env := by rfl) (hpl : (backTo pos (starEach es X.env)).any (·.1) = false := by rfl) : PE X (.Call (.Name x p) (e :: es) [] pos) (tCall sp [] E0 t) := by
  obtain ⟨f, fd, F, b, kp, m⟩ := D.ex
  exact pe_call F hr hg m kp b .nil pass0 ha hdb he hpl
structure GS (mg : Str → Option Value) (x : Str) (z : Str) : Prop where
  ex : ∃ t, mg x = some (.str z t)
structure GI (mg : Str → Option Value) (x : Str) (z : Int) : Prop where
  ex : ∃ t, mg x = some (.int z t)
theorem pe_gs {x z : Str} {pos : Pos} (G : GS X.mg x z) (hg : Gl X x) (hd : (x == ("__debug__" : Str)) = false := by decide) : PE X (.Name x pos) (tC (.str z)) := by
  obtain ⟨t, e⟩ := G.ex
  exact pe_glob hg e (rel_str _ _) hd
theorem pe_gi {x : Str} {z : Int} {pos : Pos} (G : GI X.mg x z) (hg : Gl X x) (hd : (x == ("__debug__" : Str)) = false := by decide) : PE X (.Name x pos) (tC (.int z)) := by
  obtain ⟨t, e⟩ := G.ex
  exact pe_glob hg e (rel_int _ _) hd
end
end L2
namespace L2
open PySem PySem.Spec PyProof.Rows
section
variable {X : Cx}
structure MkD (P : Program) (w : World) (K : PySem.W.Frag) (mg : Str → Option Value) (base : Heap) (k : Nat) (x : Str) (C : Addr) (ps : List Str) (sp : Sp) : Prop where
  ex : ∃ f fd, Mk K C f ∧ FnOk P w K mg base CX0 k f fd ps sp ∧ Binds K fd ps [] ∧ mg x = some (.ref C)
structure MtD (P : Program) (w : World) (K : PySem.W.Frag) (mg : Str → Option Value) (base : Heap) (k : Nat) (m : Str) (C : Addr) (ps : List Str) (sp : Sp) : Prop where
  ex : ∃ f fd, Meth K C m f ∧ FnOk P w K mg base CX0 k f fd ps sp ∧ Binds K fd ps []
theorem pe_ixK {K : PySem.W.Frag} {a b : Expr} {ta tb : TE} {pos : Pos} {r : PySem.W.Frag → R2} (hK : X.K = K) (hr : IxR X (r X.K)) (ha : PE X a ta) (hb : PE X b tb) (hs : PlainIx b) : PE X (.Subscript a b pos) (tOp (r K) ta tb) := by
  subst hK
  exact pe_ix hr ha hb hs
theorem pe_fldK {K : PySem.W.Frag} {e : Expr} {ta : TE} {f : Str} {pos : Pos} (hK : X.K = K) (he : PE X e ta) (hb : attributeBase e f X.env (eval e X.env) = eval e X.env) : PE X (.Attribute e f pos) (tFld K ta f) := by
  subst hK
  exact pe_fld he hb
def tAt (t : TS) : TS := fun D σ H => ∃ σ', σ = σ' ∧ t D σ' H
end
end L2
namespace PySem.W
open PySem PySem.Spec PySem.Calls PyProof.Rows Builtin Builtin.ObjectAttr Builtin.Getset_descriptor
abbrev veMro : List Value := [.type "ValueError", .type "Exception", .type "BaseException", .type "object"]
def excMk (K : Frag) (C : Addr) : Bool := match K.lookup C with
  | some ⟨.type "type", _, .cls cd, sls⟩ => (match cd.mro, sls.toList with
    | .ref C' :: tlm, [_, _, _, _, some (.builtin n), _] => C' == C && n == "ValueError.__new__" && !cd.hasDel && tailIn K veMro tlm
    | _, _ => false)
  | _ => false
def ExcAt (h : Heap) (C : Addr) (tlm : List Value) : Prop := ∃ N nm q bs hdct sn sub ab col dd q0 q1 q2 q3 q5, h.get? C = some (excClassObj nm q C N bs tlm hdct sn sub ab col dd q0 q1 q2 q3 q5 "ValueError.__new__")
theorem excMk_obj {K : Frag} {h : Heap} {C : Addr} (X : K.In h) (q : excMk K C = true) : ∃ tlm, ExcAt h C tlm ∧ OwnTail h veMro tlm := by
  unfold excMk at q
  split at q
  · rename_i dd cd sls ho
    split at q
    · rename_i C' tlm q0 q1 q2 q3 n q5 hmm hss
      simp only [beq_iff_eq, Bool.and_eq_true, Bool.not_eq_true'] at q
      obtain ⟨⟨⟨rfl, rfl⟩, hdel⟩, ht⟩ := q
      obtain ⟨nm, bs, mro, ns, qun, hd, sn, sub, ab, col, del⟩ := cd
      dsimp only at hmm hdel
      subst hmm hdel
      have hsl : sls = #[q0, q1, q2, q3, some (.builtin "ValueError.__new__"), q5] := by
        obtain ⟨l⟩ := sls
        simp only at hss
        rw [hss]
      subst hsl
      exact ⟨tlm, ⟨ns, nm, qun, bs, hd, sn, sub, ab, col, dd, q0, q1, q2, q3, q5, X _ _ ho⟩, tail_of_in X ht⟩
    · cases q
  · cases q
abbrev excTup (us : List Value) : Obj := { cls := .type "tuple", data := .seq us.toArray }
abbrev excNew (C t0 : Addr) : Obj := { cls := .ref C, data := .fields #[.ref t0, .none, .none, .none, .bool false, .none] }
section
variable {prog : Program} {w : World} {A : Around} {K : Frag} {C f : Addr} {R : Result → Shared → Prop} {h : Heap} {g : Array GenState} {d : Drawn} {t : Nat} {os : OsState}
theorem make_X {us : List Value} (X : K.In h) (e : excMk K C = true) (hi : findIn K (.ref C) "__init__" = some (some (.ref f))) (hf : typeIn K (.ref f) = some (.type "function")) (hrest : us.length ≤ sizeLine)
    (hq : codeAny (model prog w) (A.under (.builtin "type.__call__" ⟨.ref C :: us, []⟩)) (.call (.ref f) ⟨.ref (h.objs.size + 1) :: us, []⟩) (InitBack (h.objs.size + 1) R) ⟨(h.push (excTup us)).push (excNew C h.objs.size), g, d, t, os⟩) :
    codeAny (model prog w) A (.call (.ref C) ⟨us, []⟩) R ⟨h, g, d, t, os⟩ := by
  obtain ⟨tlm, ⟨N, nm, q, bs, hdct, sn, sub, ab, col, dd, q0, q1, q2, q3, q5, hCl⟩, T⟩ := excMk_obj X e
  have FB := PySem.F.excBase_ValueError
  have f1 := tc_lookup
  have f2 := tc_bind (.ref C)
  have hTy : (⟨h, g, d, t, os⟩ : Shared).TypeIs (.ref C) "type" := ⟨_, hCl, rfl⟩
  refine codeAny_of_tree ?_
  show wpAny (model prog w) A.in1 (callAny (.ref C) _) _ _ _
  repeat (any_goals (first | assumption | with_reducible refine wpAny_loadPart_at hCl ?_ | wp_step))
  refine ⟨rfl, ?_⟩
  refine codeAny_call_builtin_at (Code.quiet_builtin _ (by decide +kernel)) entry_typeCall (wpAny_check_type_call_sub hCl ?_)
  repeat (first | with_reducible refine wpAny_loadPart_at hCl ?_ | with_reducible refine wpAny_madeBy_exc hCl ?_ | wp_step)
  refine codeAny_call_builtin_code (Code.quiet_builtin _ FB.quiet) (wpAny_check_new_subT FB T hCl ?_)
  refine codeAny_exc_new_subT FB T hCl ?_ hrest
  show wpAny _ _ _ _ _ _
  have k : ∀ b o, h.get? b = some o → ((h.push (excTup us)).push (excNew C h.objs.size)).get? b = some o := fun b o e => Heap.get?_push_of_some _ (Heap.get?_push_of_some _ e)
  have hx : ((h.push (excTup us)).push (excNew C h.objs.size)).get? (h.objs.size + 1) = some (excNew C h.objs.size) := by heap_get
  have t1 : Looks (model prog w) ((h.push (excTup us)).push (excNew C h.objs.size)) (typeOf (.ref (h.objs.size + 1))) (.ref C) := (Looks.ld hx).andThen .now
  have hcc : (Value.ref C :: tlm).contains (.ref C) = true := by simp
  have s0 : Looks (model prog w) h (isSubtype (.ref C) (.ref C)) true := by
    intro A Q E s kk qq
    obtain ⟨h1, g1, d1, tk1, os1⟩ := s
    exact wpAny_isSubtype_exc (kk _ _ hCl) (by rw [hcc]; exact qq)
  have s1 := s0.keeps k
  have i1 := (looks_findIn (M := model prog w) X hi).keeps k
  have b1 := (bind_fn (M := model prog w) X (.ref (h.objs.size + 1)) hf).keeps k
  have hC₁ := k _ _ hCl
  unfold isInstance
  refine wpAny_bind (wpAny_bind (t1.here (s1.here ?_)))
  simp only [Bool.false_eq_true, Bool.not_true, if_false]
  refine wpAny_bind (wpAny_holding ?_); unfold callSpecial? specialOf
  refine wpAny_bind (wpAny_bind (t1.here ?_))
  refine i1.here ?_
  refine wpAny_holding (wpAny_bind (b1.here ?_))
  refine wpAny_bind (wpAny_call ?_)
  refine codeAny_mono hq fun r s' zz => ?_
  rcases r with e | (v | _ | _ | _) <;> first | exact zz | exact zz.elim | skip
  obtain ⟨rfl, zz⟩ := zz
  exact wpAny_pure (wpAny_pure zz)
end
end PySem.W
namespace PySem.W
open PySem PySem.Spec PySem.Calls PyProof.Rows Builtin Builtin.ObjectAttr Builtin.Getset_descriptor
def onlyVE : List Value → Bool
  | .ref _ :: r => onlyVE r
  | .type n :: r => (.type n :: r) == veMro
  | _ => false
theorem refuse_VE (self : Value) : ∀ {l : List Value}, onlyVE l = true → refuseLoop self "__setattr__" l = pure ()
  | .ref c :: r, e => by rw [refuseLoop_ref]; exact refuse_VE self (show onlyVE r = true from e)
  | .type n :: r, e => by rw [show Value.type n :: r = veMro from beq_iff_eq.mp e]; exact PySem.F.store_ValueError.passes self
theorem has_VE {b : String} (hbb : veMro.contains (.type b) = true) : ∀ {l : List Value}, onlyVE l = true → l.contains (.type b) = true
  | .ref c :: r, e => by rw [List.contains_cons, has_VE hbb (l := r) e, Bool.or_true]
  | .type n :: r, e => by rw [show Value.type n :: r = veMro from beq_iff_eq.mp e]; exact hbb
def excOver (K : Frag) (C : Addr) : Bool := (clsIn K C).any fun cdt => onlyVE cdt.mro
section
variable {prog : Program} {w : World} {A : Around} {K : Frag} {C x : Addr} {s : Shared} {R : Result → Shared → Prop}
theorem osa_X {ox : Obj} {od : Option Obj} {nm : Str} {tk : Tok} {v : Value} {r : Option Value} (X : K.In s.heap) (I : InstAt s.heap x ox C od) (hp : excOver K C = true) (ht : takerIn K C nm = some r)
    (go : ∀ b, wpAny (model prog w) A.in1 (match r with | some a => setByDescriptor a (.ref x) v | none => storeInOwnDict (.ref x) (.ref C) (.str nm tk) nm v b)
      (fun fi s' => match fi with | .done f => R (.ok f) s' | .again c' => c'.quiet = true ∧ codeAny (model prog w) A c' R s') (fun e s' => R (.error e) s') s) :
    codeAny (model prog w) A (.call (.builtin "object.__setattr__") ⟨[.ref x, .str nm tk, v], []⟩) R s := by
  have SFo := PySem.F.store_object
  obtain ⟨cdt, hcd, hov⟩ := any_some hp
  have nem : cdt.mro.isEmpty = false := by cases q : cdt.mro with | nil => rw [q] at hov; cases hov | cons _ _ => rfl
  have sub : Looks (model prog w) s.heap (isInstance (.ref x) (.type "object")) true := I.type.andThen (looks_mroIn X (by unfold mroIn; rw [hcd, Option.bind_some, if_neg (by rw [nem]; decide), has_VE (by decide +kernel) hov]))
  refine codeAny_call_builtin SFo.slot.plain SFo.entry (@check_slot (model prog w) _ _ s "object.__setattr__" "object" "__setattr__" (.ref x) [.str nm tk, v] [] _ SFo.kind SFo.split sub (SFo.args (.ref x) (.str nm tk) v) ?_)
  obtain ⟨atr, ha, hrr⟩ := Option.bind_eq_some_iff.mp ht
  have hmr : Looks (model prog w) s.heap (mroOf (.ref C)) cdt.mro := (looks_clsIn X hcd).andThen .now
  have l3 : Looks (model prog w) s.heap (storeTaker? atr) r := by
    cases atr with
    | none => cases hrr; exact .now
    | some a =>
      obtain ⟨b, hbb, rfl⟩ := Option.map_eq_some_iff.mp hrr
      refine (looks_takesIn X hbb).andThen ?_
      cases b <;> exact .now
  rw [osa_eq, refuse_eq]
  refine wpAny_bind (wpAny_bind (I.type.here (wpAny_bind (hmr.here ?_))))
  rw [refuse_VE _ hov]
  refine wpAny_pure (wpAny_bind (I.type.here (wpAny_bind ((looks_findIn X ha).here (wpAny_bind (l3.here ?_))))))
  exact go _
variable {E : Value → Shared → Prop} {vs : Array Value} {sl : Array (Option Value)} {nm : Str} {v : Value}
theorem setX_new {Q : Unit → Shared → Prop} (X : K.In s.heap) (hx : s.heap.get? x = some ⟨.ref C, none, .fields vs, sl⟩) (hs : findIn K (.ref C) "__setattr__" = some (some (.builtin "object.__setattr__")))
    (hp : excOver K C = true) (ht : takerIn K C nm = some none) (hh : hasDictIn K C = true)
    (h : ∀ h', h'.get? x = some ⟨.ref C, some s.heap.objs.size, .fields vs, sl⟩ → h'.Ns1 s.heap.objs.size (fun y => if y = nm then some v else none) → (∀ b o, b ≠ x → s.heap.get? b = some o → h'.get? b = some o) →
      Q () { s with heap := h', toks := s.toks + 2 }) : wpAny (model prog w) A (setAttr (.ref x) nm v) Q E s := by
  have J : InstAt s.heap x ⟨.ref C, none, .fields vs, sl⟩ C none := ⟨hx, rfl, rfl, True.intro⟩
  refine set_plain X J hs (osa_X (s := { s with toks := s.toks + 1 }) (r := none) X J hp ht fun b => ?_)
  obtain ⟨cdt, hcd, hdc⟩ := any_some hh
  refine wpAny_bind (wpAny_pure (wpAny_bind (wpAny_bind (wpAny_loadPart hx (wpAny_bind (Looks.here (s := { s with toks := s.toks + 1 }) (looks_clsIn X hcd) ?_))))))
  rw [hdc]
  have hxz : x ≠ s.heap.objs.size := Nat.ne_of_lt (Heap.lt_size hx)
  have hx1 : (s.heap.push { cls := .type "dict", data := .dict #[] }).get? x = some ⟨.ref C, none, .fields vs, sl⟩ := Heap.get?_push_of_some _ hx
  refine wpAny_bind (wpAny_alloc (wpAny_bind (wpAny_update hx1 ?_)))
  refine wpAny_pure (a := some s.heap.objs.size) ?_
  have hx2 : ((s.heap.push { cls := .type "dict", data := .dict #[] }).update x fun o => { cls := o.cls, dict := some s.heap.objs.size, data := o.data, slots := o.slots }).get? x = some ⟨.ref C, some s.heap.objs.size, .fields vs, sl⟩ := by
    rw [Heap.get?_update_self _ hx1 rfl]
  have hgx : ((s.heap.push { cls := .type "dict", data := .dict #[] }).update x fun o => { cls := o.cls, dict := some s.heap.objs.size, data := o.data, slots := o.slots }).get? s.heap.objs.size = some { cls := .type "dict", data := .dict #[] } :=
    (Heap.get?_update_ne _ _ _ _ hxz.symm).trans (Heap.get?_push_at rfl rfl)
  have hnd : ((s.heap.push { cls := .type "dict", data := .dict #[] }).update x fun o => { cls := o.cls, dict := some s.heap.objs.size, data := o.data, slots := o.slots }).Ns s.heap.objs.size (fun _ => none) :=
    ⟨_, #[], _, hgx, rfl, fun e he => absurd he (by simp), fun _ => rfl⟩
  refine wpAny_bind (wpAny_pure (wpAny_bind (wpAny_nsSet1 (Heap.Ns1.of_empty hnd) fun h' hn' hs' => ?_)))
  obtain ⟨oD, esD, epD, hoE, hdE, hcE⟩ := hn'.count (Within.cons nm v Within.nil)
  refine wpAny_bind (wpAny_lookBehind hoE (by rw [hdE]; exact pastItsLine_dict (Nat.le_trans hcE (by rw [List.length_cons, List.length_nil, sizeLine_eq]; omega))) ?_)
  refine wpAny_pure (h h' ((hs'.2 x hxz).trans hx2) hn' fun b o hbb q => ?_)
  exact (hs'.2 b (Nat.ne_of_lt (Heap.lt_size q))).trans ((Heap.get?_update_ne _ _ _ _ hbb).trans (Heap.get?_push_of_some _ q))
theorem setX_old {Q : Unit → Shared → Prop} {dxa : Addr} {mA : Str → Option Value} {ns : List Str} (X : K.In s.heap) (hx : s.heap.get? x = some ⟨.ref C, some dxa, .fields vs, sl⟩) (hn : s.heap.Ns1 dxa mA) (hne : dxa ≠ x)
    (hs : findIn K (.ref C) "__setattr__" = some (some (.builtin "object.__setattr__"))) (hp : excOver K C = true) (ht : takerIn K C nm = some none) (hh : hasDictIn K C = true) (hw : Within mA ns) (hsz : ns.length < sizeLine)
    (h : ∀ h', h'.Ns1 dxa (fun y => if y = nm then some v else mA y) → (∀ b o, b ≠ dxa → s.heap.get? b = some o → h'.get? b = some o) →
      Q () { s with heap := h', toks := s.toks + 2 }) : wpAny (model prog w) A (setAttr (.ref x) nm v) Q E s := by
  obtain ⟨od, hov, hl⟩ := L2.lookIn_ns hn
  have J : InstAt s.heap x ⟨.ref C, some dxa, .fields vs, sl⟩ C (some od) := ⟨hx, rfl, rfl, hov⟩
  refine set_plain X J hs (osa_X (s := { s with toks := s.toks + 1 }) (r := none) X J hp ht fun b => ?_)
  obtain ⟨cdt, hcd, hdc⟩ := any_some hh
  refine wpAny_bind (wpAny_pure (wpAny_bind (wpAny_bind (wpAny_loadPart hx (wpAny_bind (Looks.here (s := { s with toks := s.toks + 1 }) (looks_clsIn X hcd) ?_))))))
  rw [hdc]
  refine wpAny_pure (a := some dxa) (wpAny_bind (wpAny_pure (wpAny_bind ?_)))
  refine wpAny_nsSet1 (s := { s with toks := s.toks + 1 }) hn fun h' hn' hs' => ?_
  obtain ⟨oD, esD, epD, hoE, hdE, hcE⟩ := hn'.count (Within.cons nm v hw)
  refine wpAny_bind (wpAny_lookBehind hoE (by rw [hdE]; exact pastItsLine_dict (Nat.le_trans hcE (by rw [List.length_cons]; omega))) ?_)
  exact wpAny_pure (h h' hn' fun b o hbb q => (hs'.2 b hbb).trans q)
end
end PySem.W
namespace PySem.W
open PySem PySem.Spec PySem.Calls PyProof.Rows Builtin Builtin.ObjectAttr Builtin.Getset_descriptor
section
variable {prog : Program} {w : World} {A : Around} {K : Frag} {C x : Addr} {s : Shared} {E : Value → Shared → Prop} {ox : Obj} {od : Option Obj} {nm : Str} {v : Value} {Q : Value → Shared → Prop} {expr : Bool}
end
end PySem.W
namespace L2
open PySem PyProof.Rows PySem.Spec PySem.Calls
def XO (e C : Addr) (d : Option Addr) : HO := .ext fun h => ∃ t0, h.get? e = some ⟨.ref C, d, .fields #[.ref t0, .none, .none, .none, .bool false, .none], #[]⟩
def XC (e C : Addr) (d : Option Addr) : HO := .ext fun h => ∃ vs sl, h.get? e = some ⟨.ref C, d, .fields vs, sl⟩
def XD (a : Addr) (fs : List (Str × V)) : HO := .ext fun h => fs.length ≤ 1000 ∧ ∃ mA, h.Ns1 a mA ∧ (∀ f, RelO (fs.lookup f) (mA f)) ∧ PySem.Within mA (fs.map (·.1))
def IsX (H : Hp) (e C : Addr) (d : Option Addr) : Prop := H e = some (XO e C d) ∨ H e = some (XC e C d)
section
variable {P : Program} {w : World} {H : Hp} {h : Heap} {e C a : Addr} {d : Option Addr} {fs : List (Str × V)}
theorem xo_ok {t0 : Addr} (q : h.get? e = some ⟨.ref C, d, .fields #[.ref t0, .none, .none, .none, .bool false, .none], #[]⟩) : ObjOk P w H h e (XO e C d) :=
  ⟨⟨t0, q⟩, ⟨_, q⟩, fun _ _ ⟨t, z⟩ k => ⟨t, k _ z⟩⟩
theorem xc_ok {vs : Array Value} {sl : Array (Option Value)} (q : h.get? e = some ⟨.ref C, d, .fields vs, sl⟩) : ObjOk P w H h e (XC e C d) :=
  ⟨⟨vs, sl, q⟩, ⟨_, q⟩, fun _ _ ⟨v, s, z⟩ k => ⟨v, s, k _ z⟩⟩
theorem xd_ok {mA : Str → Option Value} (l : fs.length ≤ 1000) (n : h.Ns1 a mA) (r : ∀ f, RelO (fs.lookup f) (mA f)) (wi : PySem.Within mA (fs.map (·.1))) : ObjOk P w H h a (XD a fs) :=
  ⟨⟨l, mA, n, r, wi⟩, let ⟨o, _, _, q, _⟩ := n; ⟨o, q⟩, fun _ _ ⟨l, m, n, r, z⟩ k => ⟨l, m, n.at k, r, z⟩⟩
theorem xo_get (hok : HOk P w H h) (q : H e = some (XO e C d)) : ∃ t0, h.get? e = some ⟨.ref C, d, .fields #[.ref t0, .none, .none, .none, .bool false, .none], #[]⟩ :=
  (show ObjOk P w H h e (XO e C d) from hok e _ q).1
theorem x_get (hok : HOk P w H h) (q : IsX H e C d) : ∃ vs sl, h.get? e = some ⟨.ref C, d, .fields vs, sl⟩ := by
  rcases q with q | q
  · obtain ⟨t, z⟩ := xo_get hok q; exact ⟨_, _, z⟩
  · exact (show ObjOk P w H h e (XC e C d) from hok e _ q).1
theorem xd_get (hok : HOk P w H h) (q : H a = some (XD a fs)) : fs.length ≤ 1000 ∧ ∃ mA, h.Ns1 a mA ∧ (∀ f, RelO (fs.lookup f) (mA f)) ∧ PySem.Within mA (fs.map (·.1)) :=
  (show ObjOk P w H h a (XD a fs) from hok a _ q).1
end
structure ClsX (K : PySem.W.Frag) (C : Addr) : Prop where
  hd : PySem.W.hasDictIn K C = true
  po : PySem.W.excOver K C = true
  sa : PySem.W.findIn K (.ref C) "__setattr__" = some (some (.builtin "object.__setattr__"))
  ga : PySem.W.findIn K (.ref C) "__getattribute__" = some (some (.builtin "BaseException.__getattribute__"))
  gn : PySem.W.findIn K (.ref C) "__getattr__" = some none
section
variable {X : Cx} {pins : List (Addr × Obj)} {σ : St} {H : Hp} {s : Shared} {a C dx : Addr} {d : Option Addr} {fs : List (Str × V)} {f : Str} {v y : V} {u : Value} {A : Around} {E : Value → Shared → Prop}
theorem setX1_ok {Q : Unit → Shared → Prop} (I : Inv X pins σ H s) (e : H a = some (XO a C none)) (c : ClsX X.K C) (n : NoAttr X.K C f) (ry : RelV y u)
    (h : ∀ dx s', H dx = none → dx ≠ a → Inv X pins σ (upd (upd H dx (XD dx [(f, y)])) a (XO a C (some dx))) s' → Q () s') : wpAny (model X.prog X.w) A (setAttr (.ref a) f u) Q E s := by
  obtain ⟨t0, hx⟩ := xo_get I.hok e
  refine PySem.W.setX_new I.kIn hx c.sa c.po n.taker c.hd fun h' h1 h2 h3 => ?_
  have hf := I.hok.fresh (Nat.le_refl s.heap.objs.size)
  have hne : s.heap.objs.size ≠ a := fun z => by rw [z, e] at hf; cases hf
  obtain ⟨od, es, ep, q1, q2, q3⟩ := id h2
  have hfr : od.isFreed = false := (Heap.get?_some_iff.mp q1).2
  have g1 : (s.heap.push od).get? s.heap.objs.size = some od := Heap.get?_push_size s.heap hfr
  have I1 : Inv X pins σ (upd H s.heap.objs.size (XD s.heap.objs.size [(f, y)])) { s with heap := s.heap.push od, toks := s.toks } := by
    refine I.laid (fun b o q => Heap.get?_push_of_some _ q) (Nat.le_refl _) (xd_ok (by simp) (h2.at fun o q => ?_) (fun g => ?_) (fun g hg => ?_))
    · rw [q1] at q; cases q; exact g1
    · show RelO ([(f, y)].lookup g) (if g = f then some u else none)
      by_cases z : g = f
      · have hb : (g == f) = true := beq_iff_eq.mpr z
        simp only [List.lookup, hb, if_pos z]; exact ry
      · have hb : (g == f) = false := beq_eq_false_iff_ne.mpr z
        simp only [List.lookup, hb, if_neg z]; exact True.intro
    · by_cases z : g = f
      · rw [z]; exact .head _
      · exact absurd (if_neg z) hg
  refine h s.heap.objs.size _ hf hne (I1.write (x := a) (e := a) (t' := s.toks + 2) (h' := h') (by rw [upd_ne (Ne.symm hne), e]; exact True.intro) (.inl rfl) (fun b o hb q => ?_) ⟨_, h1⟩ (xo_ok h1))
  by_cases z : b = s.heap.objs.size
  · subst z; rw [g1] at q; cases q; exact q1
  · have hb' : s.heap.get? b = some o := by rw [← q]; exact (Heap.get?_push_ne _ _ _ z).symm
    exact h3 b o hb hb'
theorem setX2_ok {Q : Unit → Shared → Prop} (I : Inv X pins σ H s) (e : IsX H a C (some dx)) (ed : H dx = some (XD dx fs)) (hne : dx ≠ a) (c : ClsX X.K C) (n : NoAttr X.K C f) (hl : fs.length < 1000) (ry : RelV y u)
    (h : ∀ s', Inv X pins σ (upd H dx (XD dx (putF f y fs))) s' → Q () s') : wpAny (model X.prog X.w) A (setAttr (.ref a) f u) Q E s := by
  obtain ⟨vs, sl, hx⟩ := x_get I.hok e
  obtain ⟨_, mA, hn, r, wi⟩ := xd_get I.hok ed
  refine PySem.W.setX_old I.kIn hx hn hne c.sa c.po n.taker c.hd wi (by rw [List.length_map, sizeLine_eq]; omega) fun h' h1 h2 => h _ ?_
  refine I.write (x := dx) (e := dx) (by rw [ed]; exact True.intro) (.inl rfl) h2 (let ⟨o, _, _, q, _⟩ := h1; ⟨o, q⟩) (xd_ok ?_ h1 (fun g => ?_) (fun g hg => ?_))
  · have := length_putF f y fs; omega
  · show RelO ((putF f y fs).lookup g) (if g = f then some u else mA g)
    rw [lookup_putF]
    by_cases q : g = f
    · rw [if_pos q, if_pos q]; exact ry
    · rw [if_neg q, if_neg q]; exact r g
  · by_cases q : g = f
    · rw [q]; exact (keys_putF f y fs).1
    · refine (keys_putF f y fs).2 g (wi g fun z => hg ?_)
      show (if g = f then some u else mA g) = none
      rw [if_neg q]; exact z
end
end L2
namespace PySem.W
open PySem PySem.Spec PySem.Calls PyProof.Rows Builtin Builtin.ObjectAttr Builtin.Getset_descriptor
section
variable {prog : Program} {w : World} {A : Around} {K : Frag} {C x t0 : Addr} {s : Shared} {E : Value → Shared → Prop} {od : Option Addr} {Q : Value → Shared → Prop}
theorem initX {us : List Value} (X : K.In s.heap) (hx : s.heap.get? x = some ⟨.ref C, od, .fields #[.ref t0, .none, .none, .none, .bool false, .none], #[]⟩) (e : excMk K C = true) (hz : us.length ≤ sizeLine)
    (h : ∀ h', h'.get? x = some ⟨.ref C, od, .fields #[.ref s.heap.objs.size, .none, .none, .none, .bool false, .none], #[]⟩ → (∀ b o, b ≠ x → s.heap.get? b = some o → h'.get? b = some o) → Q .none { s with heap := h' }) :
    wpAny (model prog w) A (call (.builtin "ValueError.__init__") (.ref x :: us)) Q E s := by
  obtain ⟨bm, ⟨N, nm, q, bs, hdct, sn, sub, ab, col, dd, k0, k1, k2, k3, k5, hC⟩, T⟩ := excMk_obj X e
  have FB := PySem.F.excBase_ValueError
  obtain ⟨hp, g, d, t, os⟩ := s
  refine wpAny_call (codeAny_call_builtin FB.init.plain FB.initEntry (wpAny_check_init_subT FB T hC hx rfl ?_))
  delta Builtin.«BaseException.__init__»
  dsimp only
  rw [if_neg (by simp)]
  unfold Builtin.BaseException.bexcPut newTuple
  have hx1 := Heap.get?_push_of_some (h := hp) { cls := .type "tuple", data := .seq us.toArray } hx
  refine wpAny_bind (wpAny_newObj_type (wpAny_bind (wpAny_bind (wpAny_field hx1 rfl rfl (wpAny_bind (wpAny_setField hx1 rfl (by show 0 < 6; decide) ?_))))) (by show us.toArray.size ≤ sizeLine; rw [List.size_toArray]; exact hz))
  refine wpAny_letGo (wpAny_pure (h _ ?_ fun b o hb hq => ?_))
  · rw [Heap.get?_update_self _ hx1 rfl]
    rfl
  · exact (Heap.get?_update_ne _ _ _ _ hb).trans (Heap.get?_push_of_some _ hq)
end
end PySem.W
namespace PySem.W
open PySem PySem.Spec PySem.Calls PyProof.Rows Builtin Builtin.ObjectAttr Builtin.Getset_descriptor
section
variable {prog : Program} {w : World} {A : Around} {K : Frag} {C x : Addr} {s : Shared} {E : Value → Shared → Prop} {ox : Obj} {od : Obj}
structure ClsAt (K : Frag) (C : Addr) : Prop where
  hd : hasDictIn K C = true
  po : excOver K C = true
  ga : findIn K (.ref C) "__getattribute__" = some (some (.builtin "BaseException.__getattribute__"))
  gn : findIn K (.ref C) "__getattr__" = some none
  ca : findIn K (.ref C) "__class__" = some (some (.builtin "object.__class__"))
  cn : specialIn K (.builtin "object.__class__") "__get__" = some (some (.builtin "getset_descriptor.__get__"))
  ct : takesIn K (.builtin "object.__class__") = some true
end
end PySem.W
namespace L2
open PySem PyProof.Rows PySem.Spec PySem.Calls
theorem ClsX.at {K : PySem.W.Frag} {C : Addr} (c : ClsX K C) (ca : PySem.W.findIn K (.ref C) "__class__" = some (some (.builtin "object.__class__")))
    (cn : PySem.W.specialIn K (.builtin "object.__class__") "__get__" = some (some (.builtin "getset_descriptor.__get__"))) (ct : PySem.W.takesIn K (.builtin "object.__class__") = some true) : PySem.W.ClsAt K C :=
  ⟨c.hd, c.po, c.ga, c.gn, ca, cn, ct⟩
theorem upd_self {H : Hp} {a : Addr} {o : HO} (e : H a = some o) : upd H a o = H := by
  funext b
  unfold upd
  by_cases q : b = a
  · rw [if_pos q, q, e]
  · rw [if_neg q]
structure MkX (K : PySem.W.Frag) (C f : Addr) : Prop where
  makes : PySem.W.excMk K C = true
  init : PySem.W.findIn K (.ref C) "__init__" = some (some (.ref f))
  fn : PySem.W.isFn K (.ref f) = true
  kp : PySem.W.keepIn K (.ref C) = true
def tMakeX (C : Addr) (sp : Sp) (E : XK) (t : TA) : TE := fun σ H Q => t σ H fun vs H1 => ∀ x, H1 x = none → sp (.ref x :: vs) (upd H1 x (XO x C none)) (fun v H2 => v = .non ∧ Q (.ref x) H2) E
section
variable {X : Cx} {CX : CXT} {k : Nat} {f C : Addr} {fd : FuncData} {ps : List Str} {sp : Sp} {E : XK} {x m : Str} {p pos apos : Pos} {e o : Expr} {es : List Expr} {ta : TE} {t : TA}
theorem Inv.madeX {pins : List (Addr × Obj)} {σ : St} {H : Hp} {s : Shared} {us : List Value} (I : Inv X pins σ H s) :
    Inv X pins σ (upd H (s.heap.objs.size + 1) (XO (s.heap.objs.size + 1) C none)) { s with heap := (s.heap.push (PySem.W.excTup us)).push (PySem.W.excNew C s.heap.objs.size) } := by
  have e2 : ((s.heap.push (PySem.W.excTup us)).push (PySem.W.excNew C s.heap.objs.size)).get? (s.heap.objs.size + 1) = some (PySem.W.excNew C s.heap.objs.size) := by
    have := Heap.get?_push_size (s.heap.push (PySem.W.excTup us)) (o := PySem.W.excNew C s.heap.objs.size) rfl
    rwa [Heap.size_push] at this
  have I1 := I.kept (h' := s.heap.push (PySem.W.excTup us)) (t' := s.toks) (fun b u q => Heap.get?_push_of_some _ q)
  exact I1.laid (a := s.heap.objs.size + 1) (t' := s.toks) (fun b u q => Heap.get?_push_of_some _ q) (Nat.le_of_eq (Heap.size_push _ _)) (xo_ok e2)
theorem run_makeX {pins : List (Addr × Obj)} {σ : St} {H : Hp} {s : Shared} {Q : VK} {us : List Value} {vs : List V} (M : MkX X.K C f) (F : FnOk X.prog X.w X.K X.mg X.base CX k f fd ps sp) (hr : Room (k + 1) X.A) (hb : Binds X.K fd ps [])
    (hx : Passes CX X E) (hz : ps.length ≤ 1000) (I : Inv X pins σ H s) (r : Vals vs us)
    (h : ∀ x, H x = none → sp (.ref x :: vs) (upd H x (XO x C none)) (fun v H2 => v = .non ∧ Q (.ref x) H2) E) :
    wpAny (model X.prog X.w) X.A (call (.ref C) us) (EP X pins σ Q) X.xe s := by
  have hq := h (s.heap.objs.size + 1) (I.hok.fresh (Nat.le_succ _))
  have I2 := Inv.madeX (C := C) (us := us) I
  have r2 : Vals (V.ref (s.heap.objs.size + 1) :: vs) (Value.ref (s.heap.objs.size + 1) :: us) := .cons rfl r
  have hl : (Value.ref (s.heap.objs.size + 1) :: us).length = ps.length := by
    have e := r2.length
    rw [F.len _ _ _ _ hq] at e
    exact e.symm
  have hb2 := hb { s with heap := (s.heap.push (PySem.W.excTup us)).push (PySem.W.excNew C s.heap.objs.size) } (Value.ref (s.heap.objs.size + 1) :: us) I2.kIn (by rw [List.append_nil]; exact hl)
  rw [List.append_nil] at hb2
  refine wpAny_call (PySem.W.make_X (f := f) I.kIn M.makes M.init (beq_iff_eq.mp M.fn) (by rw [List.length_cons] at hl; rw [sizeLine_eq]; omega) (codeAny_mono (F.run _ X.stack _ _ ⟨Value.ref (s.heap.objs.size + 1) :: us, []⟩ (Value.ref (s.heap.objs.size + 1) :: us) _ _ E (hr.make C us [])
    (I2.env0.make C us []) hb2 r2 hq) fun r s' hq' => ?_))
  cases r with
  | error e => exact hx pins σ _ _ e s' I2 hq'
  | ok fl =>
    cases fl with
    | ret u =>
      obtain ⟨v, H', I3, rv, ev, q3⟩ := I2.after hq'
      subst ev
      exact ⟨rv, ⟨V.ref (s.heap.objs.size + 1), H', I3, rfl, q3⟩⟩
    | next => exact False.elim hq'
    | brk => exact False.elim hq'
    | cont => exact False.elim hq'
theorem pe_makeX (M : MkX X.K C f) (F : FnOk X.prog X.w X.K X.mg X.base CX k f fd ps sp) (hr : Room (k + 1) X.A) (hg : Gl X x) (hm : X.mg x = some (.ref C)) (hb : Binds X.K fd ps []) (hx : Passes CX X E) (hz : ps.length ≤ 1000)
    (ha : PA X (e :: es) t) (hdb : (x == ("__debug__" : Str)) = false := by decide) (he : starEach (e :: es) X.env = (false, eval e X.env) :: starEach es X.env := by rfl) (hpl : (backTo pos (starEach es X.env)).any (·.1) = false := by rfl) :
    PE X (.Call (.Name x p) (e :: es) [] pos) (tMakeX C sp E t) := by
  intro pins s σ H Q I h
  refine wpAny_Call_Name_kw (ld_glob I hg hm ?_ hdb)
  refine PySem.W.callWith_K (h₀ := X.base) I.ok.mod.kin M.kp (thn (ha pos pins s σ H _ I h) fun us s1 ⟨vs, H1, I1, r, q⟩ => ⟨I1.kIn, ?_⟩) he hpl
  exact run_makeX M F hr hb hx hz I1 r q
structure InX (K : PySem.W.Frag) (B : Addr) : Prop where
  sp : PySem.W.specialIn K (.ref B) "__getattribute__" = some (some (.builtin "type.__getattribute__"))
  rd : PySem.W.readsIn K B (.type "type") = true
  fc : PySem.W.findCls K (.ref B) (.type "type") "__init__" = some (.val (.builtin "ValueError.__init__"))
def tInX (K : PySem.W.Frag) (t : TA) : TE := fun σ H Q => t σ H fun vs H1 => ∃ a C d xs, vs = .ref a :: xs ∧ xs.length ≤ 1000 ∧ H1 a = some (XO a C d) ∧ PySem.W.excMk K C = true ∧ Q .non H1
theorem pe_initX {B : Addr} {pl : Sem Bool} (J : InX X.K B) (hg : Gl X x) (hm : X.mg x = some (.ref B)) (ha : PA X (e :: es) t) (hdb : (x == ("__debug__" : Str)) = false := by decide)
    (hst : starEach (e :: es) X.env = (false, eval e X.env) :: starEach es X.env := by rfl) (hpl : (backTo pos (starEach es X.env)).any (·.1) = false := by rfl)
    (ht : eval (.Call (.Attribute (.Name x p) "__init__" apos) (e :: es) [] pos) X.env = (do
      let ov ← eval (.Name x p) X.env
      standAt apos.atName
      let (f, first) ← holding [ov] (getMethod ov "__init__" pl)
      callWith pos f first (backTo pos (starEach (e :: es) X.env)) (backToKw pos (keywordEach [] X.env))) := by rfl) :
    PE X (.Call (.Attribute (.Name x p) "__init__" apos) (e :: es) [] pos) (tInX X.K t) := by
  intro pins s σ H Q I h
  refine PySem.W.methodCall_KW (pl := pl) (ld_glob I hg hm ?_ hdb) ht
  refine PySem.W.method_cls I.kIn J.sp (PySem.W.cls_value I.kIn J.rd J.fc rfl ?_)
  have hA := ha pos pins _ σ H _ (I.tok (s.toks + 1)) h
  show wpAny _ _ (callWith pos (.builtin "ValueError.__init__") [] (backTo pos (starEach (e :: es) X.env)) []) _ _ _
  rw [hst] at hA ⊢
  refine Calls.callWith_builtin (by show (false || (backTo pos (starEach es X.env)).any (·.1)) = false; rw [hpl] <;> rfl) (Calls.evalArgs_plain ?_)
  refine thn hA fun us s2 ⟨vs, H2, I2, r2, a, C, d, xs, ev, hl, ea, mk, q⟩ => ?_
  subst ev
  cases r2 with
  | cons ru rr =>
    cases ru
    obtain ⟨t0, hx⟩ := xo_get I2.hok ea
    refine PySem.W.initX I2.kIn hx mk (by rw [← rr.length, sizeLine_eq]; omega) fun h' h1 h2 => ⟨.non, H2, ?_, rfl, q⟩
    have := I2.write (x := a) (e := a) (o := XO a C d) (t' := s2.toks) (h' := h') (by rw [ea]; exact True.intro) (.inl rfl) h2 ⟨_, h1⟩ (xo_ok h1)
    rwa [upd_self ea] at this
end
end L2
namespace L2
open PySem PyProof.Rows PySem.Spec PySem.Calls
def XF (H : Hp) (e C : Addr) (fs : List (Str × V)) : Prop := ∃ dx, H e = some (XO e C (some dx)) ∧ H dx = some (XD dx fs) ∧ dx ≠ e
theorem XF.keep {H H' : Hp} {e C : Addr} {fs : List (Str × V)} (x : XF H e C fs) (k : Same H H') : XF H' e C fs := let ⟨d, a, b, c⟩ := x; ⟨d, k _ _ a, k _ _ b, c⟩
theorem XF.upd {H : Hp} {e C p : Addr} {fs : List (Str × V)} {o : HO} (x : XF H e C fs) (k : ∀ φ, H p ≠ some (.ext φ)) : XF (L2.upd H p o) e C fs := by
  obtain ⟨d, a, b, c⟩ := x
  have h1 : e ≠ p := fun z => k _ (by rw [← z]; exact a)
  have h2 : d ≠ p := fun z => k _ (by rw [← z]; exact b)
  exact ⟨d, by rw [upd_ne h1]; exact a, by rw [upd_ne h2]; exact b, c⟩
def sFldX (K : PySem.W.Frag) (ta tv : TE) (f : Str) : TS := fun D σ H => tv σ H fun y H1 => ta σ H1 fun x H2 =>
  (∃ a C, x = .ref a ∧ H2 a = some (XO a C none) ∧ ClsX K C ∧ NoAttr K C f ∧ ∀ dx, H2 dx = none → dx ≠ a → D.nx σ (upd (upd H2 dx (XD dx [(f, y)])) a (XO a C (some dx)))) ∨
  (∃ a C dx fs, x = .ref a ∧ IsX H2 a C (some dx) ∧ H2 dx = some (XD dx fs) ∧ dx ≠ a ∧ ClsX K C ∧ NoAttr K C f ∧ fs.length < 1000 ∧ D.nx σ (upd H2 dx (XD dx (putF f y fs))))
def tFldX (K : PySem.W.Frag) (ta : TE) (f : Str) : TE := fun σ H Q => ta σ H fun x H1 => ∃ a C fs v, x = .ref a ∧ XF H1 a C fs ∧ ClsX K C ∧ NoAttr K C f ∧ fs.lookup f = some v ∧ Q v H1
structure ClsI (K : PySem.W.Frag) (C : Addr) : Prop where
  c : ClsX K C
  ca : PySem.W.findIn K (.ref C) "__class__" = some (some (.builtin "object.__class__"))
  cn : PySem.W.specialIn K (.builtin "object.__class__") "__get__" = some (some (.builtin "getset_descriptor.__get__"))
  ct : PySem.W.takesIn K (.builtin "object.__class__") = some true
def clV : V → Value
  | .ref a => .ref a
  | .ty n => .type n
  | _ => .none
def rIsX (K : PySem.W.Frag) : List V → Hp → VK → Prop := fun xs H Q => ∃ a C fs c b, xs = [.ref a, c] ∧ XF H a C fs ∧ ClsI K C ∧ (∀ u, RelV c u → u = clV c) ∧ PySem.W.kitOne K (.ref C) (clV c) = some b ∧ Q (.bl b) H
def rUpd : V → List V → Hp → VK → Prop := fun x vs H Q => ∃ d e kvs more, x = .ref d ∧ vs = [.ref e] ∧ H d = some (.dK kvs) ∧ H e = some (.dK more) ∧ d ≠ e ∧ kvs.length + more.length ≤ 1000 ∧ Q .non (upd H d (.dK (mergeK kvs more)))
section
variable {X : Cx} {o e value : Expr} {f : Str} {pos pos' tpos : Pos} {ta tv : TE}
theorem ps_fldX (ha : PE X o ta) (hv : PE X value tv) (hs : swapsWith value (some (.Attribute o f pos')) pos.line X.env = pure false) : PS X (.Assign [.Attribute o f pos'] value pos) (sFldX X.K ta tv f) := by
  intro pins s σ H D I h
  refine plainObj_wpAny_Assign_Attribute (thn (hv pins s σ H _ I h) fun u s1 ⟨y, H1, I1, ry, q⟩ => thn (ha pins s1 σ H1 _ I1 q) fun ov s2 ⟨x, H2, I2, rx, q2⟩ => ?_) hs
  rcases q2 with ⟨a, C, ex, ea, c, n, q3⟩ | ⟨a, C, dx, fs, ex, ea, ed, ne, c, n, l, q3⟩
  · subst ex
    obtain rfl : ov = Value.ref a := rx
    exact setX1_ok I2 ea c n ry fun dx s3 h1 h2 I3 => ⟨σ, _, I3, q3 dx h1 h2⟩
  · subst ex
    obtain rfl : ov = Value.ref a := rx
    exact setX2_ok I2 ea ed ne c n l ry fun s3 I3 => ⟨σ, _, I3, q3⟩
end
end L2
namespace L2
open PySem PyProof.Rows PySem.Spec PySem.Calls
def Deq (K : PySem.W.Frag) (H : Hp) : Nat → V → V → Prop
  | 0, x, y => x = y ∧ flatV x = true
  | n + 1, x, y => (x = y ∧ flatV x = true) ∨ ∃ a b xs ys, x = .ref a ∧ y = .ref b ∧ ((SqL K H a xs ∧ SqL K H b ys) ∨ (SqT K H a xs ∧ SqT K H b ys)) ∧ xs.length = ys.length ∧ ∀ j, j < xs.length → Deq K H n (xs.getD j .non) (ys.getD j .non)
def rEqD (K : PySem.W.Frag) (n : Nat) : R2 := fun x y H Q => ∃ a b xs ys, x = .ref a ∧ y = .ref b ∧ SqL K H a xs ∧ SqL K H b ys ∧ xs.length = ys.length ∧ (∀ j, j < xs.length → Deq K H n (xs.getD j .non) (ys.getD j .non)) ∧ Q (.bl true) H
structure MkXD (P : Program) (w : World) (K : PySem.W.Frag) (mg : Str → Option Value) (base : Heap) (k : Nat) (x : Str) (C : Addr) (ps : List Str) (sp : Sp) : Prop where
  ex : ∃ f fd, MkX K C f ∧ FnOk P w K mg base CX0 k f fd ps sp ∧ Binds K fd ps [] ∧ mg x = some (.ref C)
  few : ps.length ≤ 1000
theorem pe_makeXD {X : Cx} {k : Nat} {x : Str} {C : Addr} {ps : List Str} {sp : Sp} {e : Expr} {es : List Expr} {t : TA} {p pos : Pos} (D : MkXD X.prog X.w X.K X.mg X.base k x C ps sp) (hr : Room (k + 1) X.A) (hg : Gl X x) (ha : PA X (e :: es) t) (hdb : (x == ("__debug__" : Str)) = false := by decide)
    (he : starEach (e :: es) X.env = (false, eval e X.env) :: starEach es X.env := by rfl) (hpl : (backTo pos (starEach es X.env)).any (·.1) = false := by rfl) : PE X (.Call (.Name x p) (e :: es) [] pos) (tMakeX C sp E0 t) := by
  obtain ⟨f, fd, M, F, b, m⟩ := D.ex
  exact pe_makeX M F hr hg m b pass0 D.few ha hdb he hpl
def xcls (K : PySem.W.Frag) (C : Addr) (fs : List Str) : Bool :=
  PySem.W.hasDictIn K C && PySem.W.excOver K C && PySem.W.findIn K (.ref C) "__setattr__" == some (some (.builtin "object.__setattr__")) && PySem.W.findIn K (.ref C) "__getattribute__" == some (some (.builtin "BaseException.__getattribute__")) &&
  PySem.W.findIn K (.ref C) "__getattr__" == some none && PySem.W.findIn K (.ref C) "__class__" == some (some (.builtin "object.__class__")) && fs.all fun f => PySem.W.findIn K (.ref C) f == some none
structure XCl (K : PySem.W.Frag) (C : Addr) (fs : List Str) : Prop where
  i : ClsI K C
  n : ∀ f ∈ fs, NoAttr K C f
  m : PySem.W.excMk K C = true
theorem XCl.of {K : PySem.W.Frag} {C : Addr} {fs : List Str} (h : xcls K C fs = true) (m : PySem.W.excMk K C = true) (cn : PySem.W.specialIn K (.builtin "object.__class__") "__get__" = some (some (.builtin "getset_descriptor.__get__"))) (ct : PySem.W.takesIn K (.builtin "object.__class__") = some true) : XCl K C fs := by
  unfold xcls at h
  simp only [Bool.and_eq_true, beq_iff_eq, List.all_eq_true] at h
  obtain ⟨⟨⟨⟨⟨⟨h1, h2⟩, h3⟩, h4⟩, h5⟩, h6⟩, h7⟩ := h
  exact ⟨⟨⟨h1, h2, h3, h4, h5⟩, h6, cn, ct⟩, fun f hf => h7 f hf, m⟩
end L2
namespace L2
open PySem PyProof.Rows PySem.Spec PySem.Calls
def kitTab (K : PySem.W.Frag) (cs : List Addr) (b : Addr) : Bool :=
  (List.range cs.length).all fun i => PySem.W.kitOne K (.ref (cs.getD i 0)) (.ref b) == some true && PySem.W.kitOne K (.ref (cs.getD i 0)) (.type "ValueError") == some true && (List.range cs.length).all fun j => PySem.W.kitOne K (.ref (cs.getD i 0)) (.ref (cs.getD j 0)) == some (i == j)
theorem putK_fresh {kvs : List (Key × V)} {k : Key} {v : V} (h : k ∉ kvs.map (·.1)) : putK kvs k v = kvs ++ [(k, v)] := by
  unfold putK
  rw [if_neg]
  intro e
  obtain ⟨p, hp, he⟩ := List.any_eq_true.mp e
  exact h (List.mem_map.mpr ⟨p, hp, of_decide_eq_true he⟩)
theorem mergeK_new : ∀ {more kvs : List (Key × V)} {ks : List Key}, kvs.map (·.1) ++ more.map (·.1) = ks → ks.Nodup → mergeK kvs more = kvs ++ more
  | [], kvs, ks, _, _ => (List.append_nil _).symm
  | p :: r, kvs, ks, e, n => by
    subst e
    have hn : p.1 ∉ kvs.map (·.1) := fun z => by
      rw [List.map_cons, List.nodup_append] at n
      exact n.2.2 _ z _ (.head _) rfl
    show mergeK (putK kvs p.1 p.2) r = _
    rw [putK_fresh hn, mergeK_new (more := r) (kvs := kvs ++ [(p.1, p.2)]) rfl (by rw [List.map_append, List.append_assoc]; exact n), List.append_assoc]
    rfl
theorem valV_at {kvs : List (Key × V)} {ks : List Key} {j : Nat} {k : Key} {v : V} (e : kvs.map (·.1) = ks) (n : ks.Nodup) (h : kvs[j]? = some (k, v)) : valV kvs k = some v := by
  subst e
  unfold valV
  induction kvs generalizing j with
  | nil => cases h
  | cons p r ih =>
    rw [List.map_cons, List.nodup_cons] at n
    cases j with
    | zero =>
      cases Option.some.inj h
      rw [List.find?_cons_of_pos (by simp)]
      rfl
    | succ j =>
      have h' : r[j]? = some (k, v) := h
      have ne : p.1 ≠ k := fun z => n.1 (List.mem_map.mpr ⟨(k, v), List.mem_of_getElem? h', z.symm⟩)
      rw [List.find?_cons_of_neg (by simpa using ne)]
      exact ih h' n.2
theorem DGet.look {H : Hp} {a : Addr} {kvs : List (Key × V)} {ks : List Key} {j : Nat} {k : Key} {v : V} (eH : H a = some (.dK kvs)) (e : kvs.map (·.1) = ks) (n : ks.Nodup) (h : kvs[j]? = some (k, v)) : DGet H a (kV k) (some v) := by
  rw [← valV_at e n h]
  exact DGet.k eH
def spC (m : Nat) : Sp := fun vs H Q _ =>
  (1 ≤ m ∧ ∃ z : Str, vs = [.str z] ∧ Q (.str z) H) ∨
  (2 ≤ m ∧ ∃ (a : Addr) (zs : List Str), vs = [.ref a] ∧ H a = some (.lst (zs.map V.str)) ∧ zs.length ≤ 100 ∧ ∀ p H', Same H H' → H p = none → H' p = some (.lst (zs.map V.str)) → Q (.ref p) H') ∨
  (3 ≤ m ∧ ∃ (a l : Addr) (z : Str) (zs : List Str), vs = [.ref a] ∧ H a = some (.tup [.str z, .ref l]) ∧ H l = some (.lst (zs.map V.str)) ∧ zs.length ≤ 100 ∧
    ∀ p q H', Same H H' → H p = none → H q = none → H' p = some (.tup [.str z, .ref q]) → H' q = some (.lst (zs.map V.str)) → Q (.ref p) H') ∨
  (4 ≤ m ∧ ∃ (a b l : Addr) (z : Str) (zs : List Str), vs = [.ref a] ∧ H a = some (.lst [.ref b]) ∧ H b = some (.tup [.str z, .ref l]) ∧ H l = some (.lst (zs.map V.str)) ∧ zs.length ≤ 100 ∧
    ∀ r p q H', Same H H' → H r = none → H' r = some (.lst [.ref p]) → H' p = some (.tup [.str z, .ref q]) → H' q = some (.lst (zs.map V.str)) → Q (.ref r) H')
theorem Fun.never {P : Program} {w : World} {K : PySem.W.Frag} {mg : Str → Option Value} {base : Heap} {x qual : Str} {st : Stmt} {f : Addr} {fd : FuncData} (_F : Fun K x qual st f fd) : FnOk P w K mg base CX0 0 f fd ["value"] (spC 0) := by
  have no : ∀ vs H Q E, spC 0 vs H Q E → False := fun vs H Q E h => by
    rcases h with h | h | h | h <;> exact absurd h.1 (by decide)
  exact ⟨fun vs H Q E q => (no _ _ _ _ q).elim, fun A outer s H args us vs Q E _ _ _ _ hs => (no _ _ _ _ hs).elim⟩
end L2
namespace PySem.W
open PySem
structure Noted (e : Addr) (cl : Value) (d : Option Addr) (fr : List Addr) (off : Addr → Prop) (h h' : Heap) : Prop where
  exc : ∃ vs sl T oT ts, h'.get? e = some ⟨cl, d, .fields vs, sl⟩ ∧ vs[1]? = some (.ref T) ∧ T ≠ e ∧ h.objs.size ≤ T ∧ h'.get? T = some oT ∧ oT.data = .fields ts ∧ ts[3]? = some .none
  keep : ∀ b o, b ≠ e → ¬ off b → b ∉ fr → h.get? b = some o → h'.get? b = some o
  slot : ∀ b o, b ≠ e → ¬ off b → h.get? b = some o → ∃ sl, h'.get? b = some { o with slots := sl }
abbrev tbObj (ws : Array Value) : Obj := { cls := .type "traceback", dict := none, data := .fields ws }
section
variable {M : Model} {E : Value → Shared → Prop} {A : Around} {s : Shared}
theorem note_core {bh : Heap} {env : Env} {outer : List Env} {L e : Addr} {cl head : Value} {d : Option Addr} {vs : Array Value} {sl : Array (Option Value)} {hadNext : Bool} {Q : Unit → Shared → Prop}
    (hA : A.frames = some (env :: outer)) (hl : s.heap.FunFrames bh (env :: outer)) (hf : env.frame = some L) (he : s.heap.get? e = some ⟨cl, d, .fields vs, sl⟩) (hz : 1 < vs.size)
    (k : ∀ h', Noted e cl d ((env :: outer).filterMap (·.frame)) (fun _ => False) s.heap h' → Q () { s with heap := h' }) :
    wpAny M A (do let fo ← frameOf env; let pl ← entryPlaceOf L hadNext; let tb ← EntryCells.newEntry head fo .none (rawInt L) .none pl; setField (.ref e) 1 tb) (fun _ s1 => wpAny M A (setFlight (.ref e) none) Q E s1) E s := by
  have eno : e ∉ (env :: outer).filterMap (·.frame) := fun z => by
    obtain ⟨_, ob, q1, q2⟩ := hl.mem z
    rw [he] at q1
    cases q1
    exact q2 vs rfl
  refine wpAny_bind (wpAny_frameOf_fun hA hl hf fun g so => ?_)
  refine wpAny_bind (wpAny_entryPlaceOf fun pla hpl => ?_)
  unfold EntryCells.newEntry; unfold newFields
  refine (wpAny_bind (wpAny_newObj_type ?_ (hpl.sizeOk5 _ _ _ _ _)))
  generalize hws : ([head, .ref L, .none, rawInt L, .none] ++ (if pla.isEmpty then List.replicate 6 Value.none else pla)).toArray = ws
  have wz : 3 < ws.size := by
    rw [← hws]
    simp only [List.size_toArray, List.length_append, List.length_cons, List.length_nil]
    omega
  have e1 : g.get? e = some ⟨cl, d, .fields vs, sl⟩ := (so.2.1 e eno).trans he
  have nT : g.objs.size ≠ e := Nat.ne_of_gt (Heap.lt_size e1)
  have e2 : (g.push (tbObj ws)).get? e = _ := Heap.get?_push_of_some (h := g) (tbObj ws) e1
  refine wpAny_setField e2 rfl hz ?_
  generalize hu : (g.push (tbObj ws)).update e (Obj.mapFields (·.setIfInBounds 1 (Value.ref g.objs.size))) = g2
  have e3 : g2.get? e = some ⟨cl, d, .fields (vs.setIfInBounds 1 (.ref g.objs.size)), sl⟩ := by
    rw [← hu]
    exact Heap.get?_update_self _ e2 rfl
  have t3 : g2.get? g.objs.size = some (tbObj ws) := by
    rw [← hu, Heap.get?_update_other _ _ (Ne.symm nT)]
    exact Heap.get?_push_size g rfl
  have o3 : ∀ b ob, b ≠ e → g.get? b = some ob → g2.get? b = some ob := fun b ob hb q => by
    rw [← hu, Heap.get?_update_other _ _ (Ne.symm hb)]
    exact Heap.get?_push_of_some _ q
  unfold setFlight
  refine wpAny_bind (wpAny_field e3 rfl (x := .ref g.objs.size) (by simp [hz]) ?_)
  rw [if_pos (by simp)]
  refine wpAny_setField t3 rfl wz (k _ ⟨?_, fun b ob hb _ hx q => ?_, fun b ob hb _ q => ?_⟩)
  · refine ⟨vs.setIfInBounds 1 (.ref g.objs.size), sl, g.objs.size, _, _, ?_, by simp [hz], nT, ?_, Heap.get?_update_self _ t3 rfl, rfl, by simp [wz]⟩
    · rw [Heap.get?_update_other _ _ nT]
      exact e3
    · exact Nat.le_of_eq so.1.symm
  · have q1 : g.get? b = some ob := (so.2.1 b hx).trans q
    rw [Heap.get?_update_other _ _ (Nat.ne_of_gt (Heap.lt_size q1))]
    exact o3 b ob hb q1
  · obtain ⟨s1, q1⟩ := so.2.2 b ob q
    refine ⟨s1, ?_⟩
    rw [Heap.get?_update_other _ _ (Nat.ne_of_gt (Heap.lt_size q1))]
    exact o3 b _ hb q1
def HeadAt (h : Heap) (e T : Addr) : Prop := T ≠ e ∧ ∃ oT ts, h.get? T = some oT ∧ oT.data = .fields ts ∧ ts[3]? = some .none
theorem note_fly {bh : Heap} {env : Env} {outer : List Env} {L e : Addr} {cl : Value} {d : Option Addr} {vs : Array Value} {sl : Array (Option Value)} {off : Addr → Prop} {Q : Unit → Shared → Prop}
    (hA : A.frames = some (env :: outer)) (hl : s.heap.FunFrames bh (env :: outer)) (hf : env.frame = some L) (he : s.heap.get? e = some ⟨cl, d, .fields vs, sl⟩)
    (hv : vs[1]? = some .none ∨ ∃ T, vs[1]? = some (.ref T) ∧ HeadAt s.heap e T ∧ off T)
    (k : ∀ h', Noted e cl d ((env :: outer).filterMap (·.frame)) off s.heap h' → Q () { s with heap := h' }) :
    wpAny M A (noteFrame (.ref e) env) (fun _ s1 => wpAny M A (setFlight (.ref e) none) Q E s1) E s := by
  unfold noteFrame
  simp only [hf]
  rcases hv with hv | ⟨T, hv, ⟨nT, oT, ts, hT, dT, h3⟩, ho⟩
  · refine wpAny_bind (wpAny_field he rfl hv ?_)
    rw [if_neg (by decide)]
    exact note_core hA hl hf he (Array.getElem?_eq_some_iff.mp hv).1 fun h' n => k h' ⟨n.exc, fun b o h1 _ => n.keep b o h1 (fun z => z), fun b o h1 _ => n.slot b o h1 (fun z => z)⟩
  · refine wpAny_bind (wpAny_field he rfl hv ?_)
    rw [if_pos (by simp)]
    refine wpAny_bind (wpAny_field hT dT h3 ?_)
    rw [if_neg (by simp [rawInt])]
    refine wpAny_bind (wpAny_setField hT dT (Array.getElem?_eq_some_iff.mp h3).1 ?_)
    generalize hu : s.heap.update T (Obj.mapFields (·.setIfInBounds 3 Value.none)) = g
    have oth : ∀ b, b ≠ T → g.get? b = s.heap.get? b := fun b hb => by rw [← hu]; exact Heap.get?_update_other _ _ (Ne.symm hb)
    have hz : g.objs.size = s.heap.objs.size := by rw [← hu]; exact Heap.size_after_update ..
    refine note_core (s := { s with heap := g }) hA (hl.of_keeps fun b o q nf => ⟨o, (oth b fun z => ?_).trans q, rfl⟩) hf ((oth e (Ne.symm nT)).trans he) (Array.getElem?_eq_some_iff.mp hv).1 fun h' n => k h' ⟨?_, fun b o h1 h2 h3 q => ?_, fun b o h1 h2 q => ?_⟩
    · rw [z, hT] at q
      cases q
      exact nf ts dT
    · obtain ⟨vs', sl', T', o', ts', x1, x2, x3, x4, x5⟩ := n.exc
      exact ⟨vs', sl', T', o', ts', x1, x2, x3, by rw [← hz]; exact x4, x5⟩
    · exact n.keep b o h1 (fun z => z) h3 ((oth b fun z => h2 (z ▸ ho)).trans q)
    · exact n.slot b o h1 (fun z => z) ((oth b fun z => h2 (z ▸ ho)).trans q)
end
end PySem.W
namespace L2
open PySem PyProof.Rows PySem.Spec PySem.Calls
def TrX (n : Nat) (H : Hp) (ea : Addr) (h : Heap) : Prop := ∃ cl d vs sl T, h.get? ea = some ⟨cl, d, .fields vs, sl⟩ ∧ vs[1]? = some (.ref T) ∧ PySem.W.HeadAt h ea T ∧ n ≤ T ∧ H T = none
def CXe (P : Program) (w : World) : CXT := fun outer H s E e s' => ∃ ea C d H', e = .ref ea ∧ s'.os = s.os ∧ AllBare s'.gens ∧ Un (frs outer) [] H H' s.heap s'.heap ∧ HOk P w H' s'.heap ∧ H' ea = some (XC ea C d) ∧
  TrX s.heap.objs.size H' ea s'.heap ∧ E (.ref C) (some ea) H'
def TrI (X : Cx) (pins : List (Addr × Obj)) (H : Hp) (ea : Addr) (h : Heap) : Prop := ∃ cl d vs sl T, h.get? ea = some ⟨cl, d, .fields vs, sl⟩ ∧ vs[1]? = some (.ref T) ∧ PySem.W.HeadAt h ea T ∧ X.s₀.heap.objs.size ≤ T ∧ H T = none ∧
  T ≠ X.env.locals ∧ (∀ x c, X.env.cells.lookup x = some c → c ≠ T) ∧ ∀ p ∈ X.pn ++ pins, p.1 ≠ T
structure Top (X : Cx) : Prop where
  ex : X.ex = []
  stk : X.stack = X.env :: X.outer
  fr : X.env.frame = some X.env.locals
def PassesS (X : Cx) (G : St → XK) : Prop := ∀ (pins : List (Addr × Obj)) (σ : St) (H : Hp) (s : Shared) (e : Value) (s' : Shared), Inv X pins σ H s → CXe X.prog X.w X.stack H s (G σ) e s' → X.xe e s'
def RaisesS (X : Cx) (G : St → XK) : Prop := ∀ (pins : List (Addr × Obj)) (σ : St) (H : Hp) (s : Shared) (ea C : Addr) (d : Option Addr), Inv X pins σ H s → H ea = some (XO ea C d) → G σ (.ref C) (some ea) (upd H ea (XC ea C d)) → X.xe (.ref ea) s
abbrev G0 : St → XK := fun _ _ _ _ => False
theorem passE0 {X : Cx} : PassesS X G0 := fun _ _ _ _ _ _ _ ⟨_, _, _, _, _, _, _, _, _, _, _, z⟩ => z.elim
section
variable {X : Cx} {pins : List (Addr × Obj)} {σ : St} {H H' : Hp} {s s' : Shared} {ea C : Addr} {d : Option Addr} {h' : Heap}
theorem Inv.flew {E : XK} {e : Value} (I : Inv X pins σ H s) (c : CXe X.prog X.w X.stack H s E e s') : ∃ ea C d H', e = .ref ea ∧ Inv X pins σ H' s' ∧ H' ea = some (XC ea C d) ∧ TrI X pins H' ea s'.heap ∧ E (.ref C) (some ea) H' := by
  obtain ⟨ea, C, d, H', rfl, ho, hb, un, ok, hx, ⟨cl, d', vs, sl, T, g1, g2, g3, g4, g5⟩, q⟩ := c
  refine ⟨ea, C, d, H', rfl, I.call' ho un ok hb (fun b z => absurd z (by simp)), hx, ⟨cl, d', vs, sl, T, g1, g2, g3, Nat.le_trans I.sz g4, g5, fun z => ?_, fun x c hc z => ?_, fun p hp z => ?_⟩, q⟩
  · have lt := I.lt
    rw [← z] at lt
    exact absurd (Nat.lt_of_lt_of_le lt g4) (Nat.lt_irrefl _)
  · obtain ⟨v, o, q1, _⟩ := I.cell x c hc
    have lt := Heap.lt_size q1
    rw [z] at lt
    exact absurd (Nat.lt_of_lt_of_le lt g4) (Nat.lt_irrefl _)
  · have lt := Heap.lt_size (I.pin p hp).1
    rw [z] at lt
    exact absurd (Nat.lt_of_lt_of_le lt g4) (Nat.lt_irrefl _)
theorem Inv.noted {off : Addr → Prop} (t : Top X) (I : Inv X pins σ H s) (hx : H ea = some (XC ea C d))
    (ht : ∀ T, off T → X.s₀.heap.objs.size ≤ T ∧ H T = none ∧ T ≠ X.env.locals ∧ (∀ x c, X.env.cells.lookup x = some c → c ≠ T) ∧ ∀ p ∈ X.pn ++ pins, p.1 ≠ T) (h1 : ∀ T U, off T → off U → T = U)
    (n : PySem.W.Noted ea (.ref C) d (X.env :: X.outer |>.filterMap (·.frame)) off s.heap h') : Inv X pins σ H { s with heap := h' } ∧ TrI X pins H ea h' := by
  have fr : ∀ b, b ∈ (X.env :: X.outer).filterMap (·.frame) ↔ b = X.env.locals ∨ b ∈ X.fs := fun b => by
    rw [List.filterMap_cons, t.fr]
    exact List.mem_cons
  have frn : ∀ b, b ∈ (X.env :: X.outer).filterMap (·.frame) → H b = none := fun b hb => I.stkFree b (by rw [t.stk]; exact hb)
  obtain ⟨vs, sl, T, oT, ts, x1, x2, x3, x4, x5, x6, x7⟩ := n.exc
  have nea : ∀ b, H b = none → b ≠ ea := fun b hb z => by rw [z, hx] at hb; cases hb
  obtain ⟨ch, hch⟩ : ∃ ch : List Addr, (∀ b ∈ ch, off b) ∧ ∀ b, off b → b ∈ ch := by
    by_cases z : ∃ T, off T
    · obtain ⟨T, hT⟩ := z
      exact ⟨[T], fun b hb => by rw [List.mem_singleton.mp hb]; exact hT, fun b hb => by rw [h1 b T hb hT]; exact List.mem_singleton.mpr rfl⟩
    · exact ⟨[], fun b hb => absurd hb (by simp), fun b hb => absurd ⟨b, hb⟩ z⟩
  have I' : Inv X pins σ H { s with heap := h', gens := s.gens, drawn := s.drawn, toks := s.toks } := by
    refine I.step (ch := ch) (fun b hb => ?_) (fun b o h1 h2 h3 q hn => ?_) (fun b o h1 h2 h3 q hn => ?_) (fun _ _ _ _ q => q) (fun b o h3 q => ?_) (fun _ _ q => q) (fun _ _ _ q => q) (fun b ps q => ⟨#[], by rw [q]; simp⟩) (fun m hm => ?_) (fun b u hb => ?_) I.bare
    · obtain ⟨a1, _, a3, a4, a5⟩ := ht b (hch.1 b hb)
      exact ⟨.inr a1, a3, a4, a5⟩
    · exact n.keep b o (nea b hn) (fun z => h3 (hch.2 b z)) (fun z => ((fr b).mp z).elim h1 h2) q
    · exact n.slot b o (nea b hn) (fun z => h3 (hch.2 b z)) q
    · by_cases z : b = ea
      · rw [z]; exact ⟨_, x1⟩
      · obtain ⟨l, q1⟩ := n.slot b o z (fun z => h3 (hch.2 b z)) q
        exact ⟨_, q1⟩
    · obtain ⟨o, es, ep, ho, r⟩ := hm
      obtain ⟨l, q1⟩ := n.slot _ o (nea _ I.free) (fun z => (ht _ z).2.2.1 rfl) ho
      exact ⟨_, es, ep, q1, r⟩
    · by_cases z : b = ea
      · subst z
        rw [hx] at hb
        cases hb
        exact xc_ok x1
      · refine (I.hok b u hb).stay (fun c v hc q => n.keep c v ?_ (fun z => ?_) (fun z => ?_) q) (fun _ q => q) fun _ _ q => q
        · rcases hc with rfl | hc
          · exact z
          · intro z
            rw [z, hx] at hc
            cases hc
        · have hn := (ht c z).2.1
          rcases hc with rfl | hc
          · rw [hb] at hn; cases hn
          · rw [hc] at hn; cases hn
        · have hn := frn c z
          rcases hc with rfl | hc
          · rw [hb] at hn; cases hn
          · rw [hc] at hn; cases hn
  have lt := I.lt
  refine ⟨I', .ref C, d, vs, sl, T, x1, x2, ⟨x3, oT, ts, x5, x6, x7⟩, Nat.le_trans I.sz x4, I.hok.fresh x4, fun z => ?_, fun x c hc z => ?_, fun p hp z => ?_⟩
  · rw [← z] at lt
    exact absurd (Nat.lt_of_lt_of_le lt x4) (Nat.lt_irrefl _)
  · obtain ⟨v, o, q1, _⟩ := I.cell x c hc
    have lt := Heap.lt_size q1
    rw [z] at lt
    exact absurd (Nat.lt_of_lt_of_le lt x4) (Nat.lt_irrefl _)
  · have lt := Heap.lt_size (I.pin p hp).1
    rw [z] at lt
    exact absurd (Nat.lt_of_lt_of_le lt x4) (Nat.lt_irrefl _)
theorem note_flew {Q : Unit → Shared → Prop} {E : Value → Shared → Prop} (t : Top X) (I : Inv X pins σ H s) (hx : H ea = some (XC ea C d)) (tr : TrI X pins H ea s.heap)
    (k : ∀ s', Inv X pins σ H s' → TrI X pins H ea s'.heap → Q () s') :
    wpAny (model X.prog X.w) X.A (noteFrame (.ref ea) X.env) (fun _ s1 => wpAny (model X.prog X.w) X.A (setFlight (.ref ea) none) Q E s1) E s := by
  obtain ⟨cl, d', vs, sl, T, g1, g2, g3, g4⟩ := tr
  obtain ⟨vs', sl', q⟩ := x_get I.hok (.inr hx)
  rw [g1] at q
  cases q
  refine PySem.W.note_fly (bh := X.base) (off := fun b => b = T) (outer := X.outer) (by rw [← t.stk]; exact I.ok.frames) (by rw [← t.stk]; exact I.stack) t.fr g1 (.inr ⟨T, g2, g3, rfl⟩) fun h' n => ?_
  obtain ⟨a, b⟩ := I.noted (off := fun b => b = T) t hx (fun U z => (show U = T from z) ▸ g4) (fun _ _ p q => p.trans q.symm) n
  exact k _ a b
theorem note_made {Q : Unit → Shared → Prop} {E : Value → Shared → Prop} (t : Top X) (I : Inv X pins σ H s) (hx : H ea = some (XO ea C d))
    (k : ∀ s', Inv X pins σ (upd H ea (XC ea C d)) s' → TrI X pins (upd H ea (XC ea C d)) ea s'.heap → Q () s') :
    wpAny (model X.prog X.w) X.A (noteFrame (.ref ea) X.env) (fun _ s1 => wpAny (model X.prog X.w) X.A (setFlight (.ref ea) none) Q E s1) E s := by
  obtain ⟨t0, g1⟩ := xo_get I.hok hx
  have I1 : Inv X pins σ (upd H ea (XC ea C d)) { s with heap := s.heap, toks := s.toks } := I.write (x := ea) (e := ea) (by rw [hx]; exact True.intro) (.inl rfl) (fun _ _ _ q => q) ⟨_, g1⟩ (xc_ok g1)
  refine PySem.W.note_fly (bh := X.base) (off := fun _ => False) (outer := X.outer) (by rw [← t.stk]; exact I.ok.frames) (by rw [← t.stk]; exact I.stack) t.fr g1 (.inl rfl) fun h' n => ?_
  obtain ⟨a, b⟩ := I1.noted t upd_same (fun _ z => z.elim) (fun _ _ z => z.elim) n
  exact k _ a b
theorem TrI.tr (t : TrI X pins H ea h') : TrX X.s₀.heap.objs.size H ea h' := let ⟨cl, d, vs, sl, T, a, b, c, e, f, _⟩ := t; ⟨cl, d, vs, sl, T, a, b, c, e, f⟩
end
section
variable {P : Program} {w : World} {K : PySem.W.Frag} {mg : Str → Option Value} {base : Heap} {N ps : List Str} {qual x : Str} {scope : Scope} {f : Addr} {cd : Value} {A : Around} {outer : List Env} {s : Shared} {H : Hp} {E : XK} {k : Nat}
abbrev cxE (P : Program) (w : World) (K : PySem.W.Frag) (mg : Str → Option Value) (base : Heap) (N : List Str) (qual : Str) (scope : Scope) (f : Addr) (cd : Value) (A : Around) (outer : List Env) (s : Shared) (H : Hp) (E : XK) : Cx :=
  cxOf (CXe P w) P w K mg base N qual scope f cd A outer s H E
theorem top_def : Top (cxE P w K mg base N qual scope f cd A outer s H E) := ⟨rfl, rfl, rfl⟩
theorem own_def : PassesOwn (model P w) (cxE P w K mg base N qual scope f cd A outer s H E).A (cxE P w K mg base N qual scope f cd A outer s H E).env (cxE P w K mg base N qual scope f cd A outer s H E).xe := PassesOwn.leaving
theorem pass_def : PassesS (cxE P w K mg base N qual scope f cd A outer s H E) (fun _ => E) := by
  intro pins σ H1 s1 e s2 I c
  obtain ⟨ea, C, d, H2, rfl, I2, hx, tr, q⟩ := I.flew c
  show wpAny _ _ (leaving _ _) _ _ _
  unfold leaving
  refine wpAny_bind (note_flew top_def I2 hx tr fun s3 I3 t3 => ?_)
  exact ⟨ea, C, d, H2, rfl, I3.os, I3.bare, I3.base, I3.hok, hx, t3.tr, q⟩
theorem raise_def : RaisesS (cxE P w K mg base N qual scope f cd A outer s H E) (fun _ => E) := by
  intro pins σ H1 s1 ea C d I hx q
  show wpAny _ _ (leaving _ _) _ _ _
  unfold leaving
  refine wpAny_bind (note_made top_def I hx fun s3 I3 t3 => ?_)
  exact ⟨ea, C, d, _, rfl, I3.os, I3.bare, I3.base, I3.hok, upd_same, t3.tr, q⟩
theorem Fun.okE {st : Stmt} {fd : FuncData} {sp : Sp} (F : Fun K x qual st f fd) (S : FnScope N ps (defScope st)) (len : ∀ vs H Q E, sp vs H Q E → vs.length = ps.length)
    (hbody : ∀ (cdv : Value) (A : Around) (outer : List Env) (s : Shared) (H : Hp) (vs : List V) (Q : VK) (E : XK), Room k (A.deeper (envOfC qual (defScope st) s.heap.objs.size f cdv)) → sp vs H Q E →
      ∃ t, PSs (cxE P w K mg base N qual (defScope st) f cdv A outer s H E) (defBody st) t ∧ t { nx := fun _ H' => Q .non H', rt := Q } (start N vs) H) : FnOk P w K mg base (CXe P w) (k + 1) f fd ps sp := by
  obtain ⟨oc, od, kV, doc, pm, an, cdv, ct, osl, rfl, lk, hcd⟩ := F.ex
  exact fn_of lk hcd S len fun A outer s H vs Q E hr hsp => hbody cdv A outer s H vs Q E hr hsp
theorem FnOk.lift {CX : CXT} {fd : FuncData} {sp : Sp} (F : FnOk P w K mg base CX0 k f fd ps sp) : FnOk P w K mg base CX k f fd ps sp :=
  ⟨F.len, fun A outer s H args us vs Q E hr e0 hb r h => codeAny_mono (F.run A outer s H args us vs Q E hr e0 hb r h) fun r s' q => match r, q with
    | .ok (.ret _), q => q
    | .ok .next, q => q
    | .ok .brk, q => q
    | .ok .cont, q => q
    | .error _, q => False.elim q⟩
structure DfE (P : Program) (w : World) (K : PySem.W.Frag) (mg : Str → Option Value) (base : Heap) (k : Nat) (x : Str) (ps : List Str) (sp : Sp) : Prop where
  ex : ∃ f fd, FnOk P w K mg base (CXe P w) k f fd ps sp ∧ Binds K fd ps [] ∧ PySem.W.keepIn K (.ref f) = true ∧ mg x = some (.ref f)
structure MtE (P : Program) (w : World) (K : PySem.W.Frag) (mg : Str → Option Value) (base : Heap) (k : Nat) (m : Str) (C : Addr) (ps : List Str) (sp : Sp) : Prop where
  ex : ∃ f fd, Meth K C m f ∧ FnOk P w K mg base (CXe P w) k f fd ps sp ∧ Binds K fd ps []
theorem MtD.e {m : Str} {C : Addr} {sp : Sp} (D : MtD P w K mg base k m C ps sp) : MtE P w K mg base k m C ps sp := let ⟨f, fd, a, b, c⟩ := D.ex; ⟨f, fd, a, b.lift, c⟩
theorem Dfn.e {sp : Sp} (D : Dfn P w K mg base k x ps sp) : DfE P w K mg base k x ps sp := let ⟨f, fd, a, b, c⟩ := D.ex; ⟨f, fd, a.lift, b, c⟩
end
def tCallE (sp : Sp) (G : St → XK) (t : TA) : TE := fun σ H Q => t σ H fun vs H1 => sp vs H1 Q (G σ)
def tMethE (P : Program) (w : World) (K : PySem.W.Frag) (mg : Str → Option Value) (base : Heap) (k : Nat) (m : Str) (G : St → XK) (ta : TE) (t : TA) : TE := fun σ H Q => ta σ H fun x H1 => ∃ a C dx fs ps sp, x = .ref a ∧ H1 a = some (.ins C dx fs) ∧ fs.lookup m = none ∧ Cls K C ∧ MtE P w K mg base k m C ps sp ∧
  t σ H1 fun vs H2 => sp (x :: vs) H2 Q (G σ)
section
variable {X : Cx} {k : Nat} {ps : List Str} {sp : Sp} {G : St → XK} {x m : Str} {p pos apos : Pos} {e o : Expr} {es : List Expr} {ta : TE} {t : TA}
theorem run_fnE {pins : List (Addr × Obj)} {σ : St} {H : Hp} {s : Shared} {Q : VK} {us : List Value} {vs : List V} {f : Addr} {fd : FuncData} (F : FnOk X.prog X.w X.K X.mg X.base (CXe X.prog X.w) k f fd ps sp) (hr : Room k X.A) (hb : Binds X.K fd ps []) (hx : PassesS X G)
    (I : Inv X pins σ H s) (r : Vals vs us) (h : sp vs H Q (G σ)) : wpAny (model X.prog X.w) X.A (call (.ref f) us) (EP X pins σ Q) X.xe s := by
  have hl : us.length = ps.length := by rw [← r.length]; exact F.len _ _ _ _ h
  have hb2 := hb s us I.kIn (by rw [List.append_nil]; exact hl)
  rw [List.append_nil] at hb2
  refine wpAny_call (codeAny_mono (F.run X.A X.stack s H ⟨us, []⟩ us vs Q (G σ) hr I.env0 hb2 r h) fun r s' hq => ?_)
  cases r with
  | error e => exact hx pins σ H s e s' I hq
  | ok fl =>
    cases fl with
    | ret u => exact I.after hq
    | next => exact False.elim hq
    | brk => exact False.elim hq
    | cont => exact False.elim hq
theorem pe_methE {pl : Sem Bool} (k : Nat) (hx : PassesS X G) (hr : Room k X.A) (he : PE X o ta) (ha : PA X (e :: es) t)
    (hst : starEach (e :: es) X.env = (false, eval e X.env) :: starEach es X.env := by rfl) (hpl : (backTo pos (starEach es X.env)).any (·.1) = false := by rfl)
    (ht : eval (.Call (.Attribute o m apos) (e :: es) [] pos) X.env = (do
      let ov ← eval o X.env
      standAt apos.atName
      let (f, first) ← holding [ov] (getMethod ov m pl)
      callWith pos f first (backTo pos (starEach (e :: es) X.env)) (backToKw pos (keywordEach [] X.env))) := by rfl) :
    PE X (.Call (.Attribute o m apos) (e :: es) [] pos) (tMethE X.prog X.w X.K X.mg X.base k m G ta t) := by
  intro pins s σ H Q I h
  refine PySem.W.methodCall_KW (pl := pl) (thn (he pins s σ H _ I h) fun u s1 ⟨x, H1, I1, rx, a, C, dx, fs, ps, sp, ex, ea, l, c, D, q⟩ => ?_) ht
  subst ex
  obtain rfl : u = Value.ref a := rx
  obtain ⟨f, fd, hm, F, b⟩ := D.ex
  refine getmeth_ok I1 ea c hm l ?_
  refine PySem.W.callWith_K (first := [.ref a]) (h₀ := X.base) I.ok.mod.kin hm.kp (thn (ha pos pins s1 σ H1 _ I1 q) fun us s2 ⟨vs, H2, I2, r, q2⟩ => ⟨I2.kIn, ?_⟩) hst hpl
  exact run_fnE (us := .ref a :: us) (vs := .ref a :: vs) F hr b hx I2 (.cons rfl r) q2
end
end L2
namespace PySem.W
open PySem PyProof.Rows PySem.Spec PySem.Calls
def mroHas (K : Frag) (C : Addr) (c : Value) : Bool := match K.lookup C with
  | some ⟨_, _, .cls cd, _⟩ => cd.mro.contains c
  | _ => false
theorem exc_mro {K : Frag} {h : Heap} {C : Addr} (X : K.In h) (q : excMk K C = true) : ∃ tlm, ExcAt h C tlm ∧ OwnTail h veMro tlm ∧ ∀ c, mroHas K C c = (Value.ref C :: tlm).contains c := by
  obtain ⟨tlm, hE, T⟩ := excMk_obj X q
  refine ⟨tlm, hE, T, fun c => ?_⟩
  unfold mroHas
  cases hk : K.lookup C with
  | none =>
    unfold excMk at q
    rw [hk] at q
    cases q
  | some o =>
    obtain ⟨N, nm, q, bs, hdct, sn, sub, ab, col, dd, q0, q1, q2, q3, q5, hCl⟩ := hE
    have z := X _ _ hk
    rw [hCl] at z
    cases z
    rfl
section
variable {M : Model} {A : Around} {E : Value → Shared → Prop} {env : Env} {K : Frag}
theorem exc_match {h : Heap} {g : Array GenState} {d : Drawn} {t : Nat} {os : OsState} {e C D : Addr} {oe : Obj} {Q : Bool → Shared → Prop} (X : K.In h) (qC : excMk K C = true) (qD : excMk K D = true) (he : h.get? e = some oe) (hc : oe.cls = .ref C)
    (hq : Q (mroHas K C (.ref D)) ⟨h, g, d, t, os⟩) : wpAny M A (excMatches (.ref e) (.ref D)) Q E ⟨h, g, d, t, os⟩ := by
  obtain ⟨tl, ⟨N, nm, q, bs, hdct, sn, sub, ab, col, dd, q0, q1, q2, q3, q5, hC⟩, _, mh⟩ := exc_mro X qC
  obtain ⟨tl', ⟨N', nm', q', bs', hdct', sn', sub', ab', col', dd', q0', q1', q2', q3', q5', hD⟩, T, _⟩ := exc_mro X qD
  have hB : (Value.ref D :: tl').contains (.type "BaseException") = true := by
    rw [List.contains_cons, T.hasType (show veMro.contains (.type "BaseException") = true from by decide +kernel), Bool.or_true]
  rw [mh] at hq
  have f := tc_notTuple
  unfold excMatches
  repeat (first | (with_reducible refine wpAny_loadPart_at he ?_; rw [hc]) | with_reducible refine wpAny_loadPart_at hD ?_ | (with_reducible refine wpAny_isSubtype_exc hD ?_; rw [hB]) | with_reducible refine wpAny_isSubtype_exc hC ?_ | wp_step)
  all_goals (cases hb : (Value.ref C :: tl).contains (.ref D) <;> (rw [hb] at hq; wp_walk; exact hq))
theorem raise_X {s : Shared} {x : Sem Value} {Q : Flow → Shared → Prop} (hh : A.handled = none)
    (h : wpAny M A x (fun v s1 => ∃ e C d t0, v = .ref e ∧ K.In s1.heap ∧ excMk K C = true ∧ s1.heap.get? e = some ⟨.ref C, d, .fields #[.ref t0, .none, .none, .none, .bool false, .none], #[]⟩ ∧ E (.ref e) s1) E s) :
    wpAny M A (raiseStmt env (some x) none) Q E s := by  -- raised here
  unfold raiseStmt
  refine wpAny_bind (wpAny_mono h (fun v s1 h1 => ?_) fun _ _ x => x)
  obtain ⟨e, C, d, t0, rfl, X, qC, he, hE⟩ := h1
  obtain ⟨tl, ⟨N, nm, q, bs, hdct, sn, sub, ab, col, dd, q0, q1, q2, q3, q5, hC⟩, T, _⟩ := exc_mro X qC
  have hB : (Value.ref C :: tl).contains (.type "BaseException") = true := by
    rw [List.contains_cons, T.hasType (show veMro.contains (.type "BaseException") = true from by decide +kernel), Bool.or_true]
  obtain ⟨hp, g, d', tk, os⟩ := s1
  repeat (first | with_reducible refine wpAny_loadPart_at he ?_ | with_reducible refine wpAny_loadPart_at hC ?_ | (with_reducible refine wpAny_isSubtype_exc hC ?_; rw [hB]) | wp_step)
  exact (wpAny_raiseNew_none hh hE)
end
end PySem.W
namespace L2
open PySem PyProof.Rows PySem.Spec PySem.Calls
def tRaise (K : PySem.W.Frag) (G : St → XK) (te : TE) : TS := fun _ σ H => te σ H fun v H1 => ∃ ea C d, v = .ref ea ∧ H1 ea = some (XO ea C d) ∧ PySem.W.excMk K C = true ∧ G σ (.ref C) (some ea) (upd H1 ea (XC ea C d))
abbrev Cx.caught (X : Cx) (ea : Addr) : Cx := { X with A := X.A.mark (some (.ref ea)), calm := false, xe := fun _ _ => False }
abbrev Cx.inTry (X : Cx) (ps : List (Addr × Obj)) (xe : Value → Shared → Prop) : Cx := { X with pn := X.pn ++ ps, xe := xe }
section
variable {X : Cx} {pins : List (Addr × Obj)} {σ : St} {H : Hp} {s : Shared} {ea : Addr}
theorem ps_raise {G : St → XK} {e : Expr} {te : TE} {pos : Pos} (hR : RaisesS X G) (hc : X.calm = true) (he : PE X e te) : PS X (.Raise (some e) none pos) (tRaise X.K G te) := by
  intro pins s σ H D I h
  show wpAny _ _ (do standAt pos; raiseStmt X.env (some (do let v ← eval e X.env; standAt pos; pure v)) none) _ _ s
  refine wpAny_bind (wpAny_standAt (PySem.W.raise_X (K := X.K) (I.ok.hd hc) (wpAny_bind (thn (he pins s σ H _ I h) fun v s1 ⟨x, H1, I1, rx, ea, C, d, ex, hx, mk, q⟩ => wpAny_bind (wpAny_standAt (wpAny_pure ?_))))))
  subst ex
  obtain rfl : v = Value.ref ea := rx
  obtain ⟨t0, g1⟩ := xo_get I1.hok hx
  exact ⟨ea, C, d, t0, rfl, I1.kIn, mk, g1, hR pins σ H1 s1 ea C d I1 hx q⟩
theorem Cx.Ok.caught (ok : X.Ok) : (X.caught ea).Ok :=
  ⟨ok.mod, ok.kind, ok.glob, ok.blt, ok.above, ok.inj, ok.has, ok.cab, (fun z => nomatch z), ok.frames, ok.stk, ok.exf, ok.bs, ok.bsz, ok.noex, ok.exfs, ok.funs, ok.frf⟩
theorem Inv.caught (I : Inv X pins σ H s) : Inv (X.caught ea) pins σ H s := ⟨I.ok.caught, I.os, I.bare, I.base, I.loc, I.cell, I.free, I.freeC, I.pin, I.hok, I.len⟩
theorem Cx.Ok.inTry {ps : List (Addr × Obj)} {xe : Value → Shared → Prop} (ok : X.Ok) : (X.inTry ps xe).Ok :=
  ⟨ok.mod, ok.kind, ok.glob, ok.blt, ok.above, ok.inj, ok.has, ok.cab, ok.hd, ok.frames, ok.stk, ok.exf, ok.bs, ok.bsz, ok.noex, ok.exfs, ok.funs, ok.frf⟩
theorem Inv.inTry {xe : Value → Shared → Prop} (I : Inv X pins σ H s) : Inv (X.inTry pins xe) [] σ H s := ⟨I.ok.inTry, I.os, I.bare, I.base, I.loc, I.cell, I.free, I.freeC, fun p hp => I.pin p (by rw [← List.append_nil (X.pn ++ pins)]; exact hp), I.hok, I.len⟩
end
abbrev TH := Ends → St → Hp → Addr → Addr → Prop
def PH (X : Cx) (hs : List ExceptHandler) (t : TH) : Prop := ∀ (pins : List (Addr × Obj)) (s : Shared) (σ : St) (H : Hp) (D : Ends) (ea C : Addr) (d : Option Addr), Inv X pins σ H s → H ea = some (XC ea C d) → TrI X pins H ea s.heap → t D σ H C ea →
  wpAny (model X.prog X.w) X.A (handleBy (.ref ea) X.env hs) (SP X pins D) X.xe s
def tNoH : TH := fun _ _ _ _ _ => False
def Ends.less (D : Ends) (i : Nat) : Ends := { nx := fun σ H => D.nx (σ.set i none) H, rt := D.rt, bk := fun σ H => D.bk (σ.set i none) H, ct := fun σ H => D.ct (σ.set i none) H }
def tAs (K : PySem.W.Frag) (B : Addr) (i : Nat) (ts : TS) (tr : TH) : TH := fun D σ H C ea => PySem.W.excMk K C = true ∧ PySem.W.excMk K B = true ∧ ∃ b, PySem.W.mroHas K C (.ref B) = b ∧ if b = true then ts (D.less i) (σ.set i (some (.ref ea))) H else tr D σ H C ea
def tTry (tb : (St → XK) → TS) (th : TH) : TS := fun D σ H => tb (fun σ' c oa H' => ∃ C ea, c = .ref C ∧ oa = some ea ∧ th D σ' H' C ea) D σ H
section
variable {X : Cx}
end
end L2
namespace L2
open PySem PyProof.Rows PySem.Spec PySem.Calls
def XG (H : Hp) (e C : Addr) (fs : List (Str × V)) : Prop := ∃ dx, IsX H e C (some dx) ∧ H dx = some (XD dx fs) ∧ dx ≠ e
theorem XF.g {H : Hp} {e C : Addr} {fs : List (Str × V)} (x : XF H e C fs) : XG H e C fs := let ⟨d, a, b, c⟩ := x; ⟨d, .inl a, b, c⟩
theorem XG.keep {H H' : Hp} {e C : Addr} {fs : List (Str × V)} (x : XG H e C fs) (k : Same H H') : XG H' e C fs := by
  obtain ⟨d, a, b, c⟩ := x
  rcases a with a | a
  · exact ⟨d, .inl (k _ _ a), k _ _ b, c⟩
  · exact ⟨d, .inr (k _ _ a), k _ _ b, c⟩
theorem XF.raised {H : Hp} {e C : Addr} {fs : List (Str × V)} (x : XF H e C fs) : ∃ dx, H e = some (XO e C (some dx)) ∧ XG (L2.upd H e (XC e C (some dx))) e C fs :=
  let ⟨d, a, b, c⟩ := x
  ⟨d, a, d, .inr upd_same, by rw [upd_ne c]; exact b, c⟩
def rIsO (K : PySem.W.Frag) : List V → Hp → VK → Prop := fun xs H Q => ∃ x c t b, xs = [x, c] ∧ TyOf K H x t ∧ (∀ u, RelV c u → u = clV c) ∧ PySem.W.kitOne K t (clV c) = some b ∧ Q (.bl b) H
def rIsG (K : PySem.W.Frag) : List V → Hp → VK → Prop := fun xs H Q => ∃ a C fs c b, xs = [.ref a, c] ∧ XG H a C fs ∧ ClsI K C ∧ (∀ u, RelV c u → u = clV c) ∧ PySem.W.kitOne K (.ref C) (clV c) = some b ∧ Q (.bl b) H
def rIsGT (K : PySem.W.Frag) : List V → Hp → VK → Prop := fun xs H Q => ∃ a C fs tp cs b, xs = [.ref a, .ref tp] ∧ XG H a C fs ∧ ClsI K C ∧ H tp = some (.tup cs) ∧ (∀ c ∈ cs, ∀ u, RelV c u → u = clV c) ∧ PySem.W.kitAny K (.ref C) (cs.map clV) = some b ∧ Q (.bl b) H
def tFldG (K : PySem.W.Frag) (ta : TE) (f : Str) : TE := fun σ H Q => ta σ H fun x H1 => ∃ a C fs v, x = .ref a ∧ XG H1 a C fs ∧ ClsX K C ∧ NoAttr K C f ∧ fs.lookup f = some v ∧ Q v H1
section
variable {X : Cx} {e o : Expr} {es : List Expr} {f x : Str} {p pos apos : Pos} {ta : TE} {t : TA} {k : Nat} {ps : List Str} {sp : Sp}
structure InO (K : PySem.W.Frag) (B f : Addr) : Prop where
  sp : PySem.W.specialIn K (.ref B) "__getattribute__" = some (some (.builtin "type.__getattribute__"))
  rd : PySem.W.readsIn K B (.type "type") = true
  fc : PySem.W.findCls K (.ref B) (.type "type") "__init__" = some (.val (.ref f))
structure InD (P : Program) (w : World) (K : PySem.W.Frag) (mg : Str → Option Value) (base : Heap) (k : Nat) (x : Str) (B : Addr) (ps : List Str) (sp : Sp) : Prop where
  ex : ∃ f fd, InO K B f ∧ FnOk P w K mg base CX0 k f fd ps sp ∧ Binds K fd ps [] ∧ PySem.W.keepIn K (.ref f) = true ∧ mg x = some (.ref B)
theorem pe_makeD0 {C : Addr} (D : MkD X.prog X.w X.K X.mg X.base k x C ps sp) (hr : Room (k + 1) X.A) (hg : Gl X x) (hdb : (x == ("__debug__" : Str)) = false := by decide) : PE X (.Call (.Name x p) [] [] pos) (tMake C sp [] E0 tNil) := by
  obtain ⟨f, fd, M, F, b, m⟩ := D.ex
  exact pe_make0 M F hr hg m b .nil pass0 hdb
end
section
variable {P : Program} {w : World} {K : PySem.W.Frag} {mg : Str → Option Value} {base : Heap} {j k : Nat} {x m : Str} {C : Addr} {ps : List Str} {sp : Sp}
theorem MtE.mono (D : MtE P w K mg base j m C ps sp) (h : j ≤ k) : MtE P w K mg base k m C ps sp := let ⟨f, fd, a, b, c⟩ := D.ex; ⟨f, fd, a, b.mono h, c⟩
theorem DfE.mono (D : DfE P w K mg base j x ps sp) (h : j ≤ k) : DfE P w K mg base k x ps sp := let ⟨f, fd, a, b⟩ := D.ex; ⟨f, fd, a.mono h, b⟩
end
end L2
namespace L2
open PySem PyProof.Rows PySem.Spec PySem.Calls
structure OwnTy (K : PySem.W.Frag) (C : Addr) : Prop where
  ha : PySem.W.findIn K (.ref C) "__class__" = some (some (.builtin "object.__class__"))
  hn : PySem.W.specialIn K (.builtin "object.__class__") "__get__" = some (some (.builtin "getset_descriptor.__get__"))
  tk : PySem.W.takesIn K (.builtin "object.__class__") = some true
  hm : PySem.W.mroIn K C (.type "object") = some true
theorem OwnTy.ty {K : PySem.W.Frag} {C a dx : Addr} {H : Hp} {fs : List (Str × V)} (o : OwnTy K C) (cl : Cls K C) (e : H a = some (.ins C dx fs)) : TyOf K H (.ref a) (.ref C) := .ins e cl o.ha o.hn o.tk o.hm
end L2
namespace L2
open PySem PyProof.Rows PySem.Spec PySem.Calls
section
variable {X : Cx} {P : Program} {w : World} {K : PySem.W.Frag} {mg : Str → Option Value} {base : Heap} {G : St → XK} {m : Str} {pos apos : Pos} {e o : Expr} {es : List Expr} {ta : TE} {t : TA}
end
end L2
namespace L2
open PySem PyProof.Rows PySem.Spec PySem.Calls
section
variable {X : Cx} {K : PySem.W.Frag} {e : Expr} {f : Str} {pos : Pos} {ta : TE}
end
end L2
namespace L2
open PySem PySem.Spec PyProof.Rows
def Its (lo d : Int) (n : Nat) : It := ⟨fun i _ => i < n, fun i H x H' => H' = H ∧ x = .int (lo + i * d), fun i _ => n ≤ i⟩
section
variable {X : Cx} {tg : Expr}
def iRng3 (ta : TA) : TI := fun σ H R => ta σ H fun vs H1 => ∃ i j d : Int, vs = [.int i, .int j, .int d] ∧ (-(2 ^ 60) ≤ i ∧ i < 2 ^ 60 ∧ -(2 ^ 60) ≤ j ∧ j < 2 ^ 60 ∧ 0 < d ∧ d < 2 ^ 29) ∧ R (Its i d (if i < j then (j - i - 1) / d + 1 else 0).toNat) H1
end
end L2
namespace L2
open PySem PySem.Spec PyProof.Rows
def New (H H' : Hp) (G : Hp → Prop) : Prop := ∃ S : Addr → Prop, (∀ b, S b → H b = none ∧ ∃ o, H' b = some o) ∧ ∀ H3, (∀ b, S b → H3 b = H' b) → G H3
theorem compB_mk {J : It} {tc : TT} {te : TE} {σf : Option V → St} {H1 : Hp} {Q : VK} {xs : List V} (S : Seq J H1 xs) (G : V → V → Hp → Prop) (hz : xs.length < sizeLine)
    (hc : ∀ x ∈ xs, ∀ (H' : Hp) (R : Bool → Hp → Prop), Same H1 H' → R true H' → tc (σf (some x)) H' R)
    (he : ∀ x ∈ xs, ∀ (H' : Hp) (R : VK), Same H1 H' → (∀ y H'', Same H' H'' → New H' H'' (G x y) → R y H'') → te (σf (some x)) H' R)
    (q : ∀ D H' ys, Same H1 H' → H1 D = none → H' D = some (.lst ys) → ys.length = xs.length → (∀ (i : Nat) x y, xs[i]? = some x → ys[i]? = some y → G x y H') → Q (.ref D) H') : CompB J tc te σf H1 Q := by
  intro D hD
  refine ⟨fun i m ys H2 => m = xs.length - i ∧ i ≤ xs.length ∧ Same H1 H2 ∧ H2 D = some (.lst ys) ∧ ys.length = i ∧ ∀ (k : Nat) x y, xs[k]? = some x → ys[k]? = some y → ∃ Z : Addr → Prop, (∀ b, Z b → b ≠ D ∧ ∃ o, H2 b = some o) ∧ ∀ H3, (∀ b, Z b → H3 b = H2 b) → G x y H3,
    ⟨xs.length, rfl, Nat.zero_le _, same_new hD _, upd_same, rfl, fun k x y _ e => by simp at e⟩, ?_⟩
  rintro i m ys H2 ⟨rfl, hi, sm, hD2, hl, hg⟩
  refine ⟨hD2, ?_⟩
  by_cases hlt : i < xs.length
  · refine .inr ⟨S.go i H2 sm hlt, by omega, fun x H3 y => ?_⟩
    obtain ⟨e, hx⟩ := S.yld i H2 x H3 sm hlt y
    subst e
    have mem : x ∈ xs := List.mem_of_getElem? hx
    refine hc x mem _ _ sm (iteT (he x mem _ _ sm fun yv H5 s5 ny => ⟨s5 _ _ hD2, xs.length - (i + 1), by omega, rfl, hlt, same_on hD (sm.trans s5) _, upd_same, by rw [List.length_append, hl]; rfl, fun k x' y' ex ey => ?_⟩))
    by_cases hk : k < i
    · rw [List.getElem?_append_left (by omega)] at ey
      obtain ⟨Z, z1, z2⟩ := hg k x' y' ex ey
      refine ⟨Z, fun b hb => ?_, fun H6 h6 => z2 H6 fun b hb => ?_⟩
      · obtain ⟨nb, o, ho⟩ := z1 b hb
        exact ⟨nb, o, by rw [upd_ne nb]; exact s5 _ _ ho⟩
      · obtain ⟨nb, o, ho⟩ := z1 b hb
        rw [h6 b hb, upd_ne nb, s5 _ _ ho, ho]
    · have ek : k = i := by
        have := (List.getElem?_eq_some_iff.mp ey).1
        rw [List.length_append, hl] at this
        have : k < i + 1 := this
        omega
      subst ek
      rw [List.getElem?_append_right (by omega), hl, Nat.sub_self] at ey
      obtain rfl : yv = y' := Option.some.inj ey
      obtain rfl : x = x' := Option.some.inj (hx.symm.trans ex)
      obtain ⟨Z, z1, z2⟩ := ny
      have nD : ∀ b, Z b → b ≠ D := fun b hb e => by
        have := (z1 b hb).1
        rw [e, hD2] at this
        cases this
      refine ⟨Z, fun b hb => ?_, fun H6 h6 => z2 H6 fun b hb => ?_⟩
      · obtain ⟨_, o, ho⟩ := z1 b hb
        exact ⟨nD b hb, o, by rw [upd_ne (nD b hb)]; exact ho⟩
      · rw [h6 b hb, upd_ne (nD b hb)]
  · have e : i = xs.length := by omega
    refine .inl ⟨by rw [e]; exact S.stop H2 sm, q D H2 ys sm hD hD2 (by omega) fun k x y ex ey => ?_⟩
    obtain ⟨Z, _, z2⟩ := hg k x y ex ey
    exact z2 H2 fun _ _ => rfl
end L2
namespace L2
open PySem PySem.Spec PyProof.Rows
def ofVal : Value → V
  | .bool b => .bl b
  | .int i _ => .int i
  | .str x _ => .str x
  | .bytes b _ => .byt b
  | .float b _ => .flt b
  | .ref a => .ref a
  | .type n => .ty n
  | _ => .non
theorem ofVal_rel {v : V} {u : Value} (r : RelV v u) : ofVal u = v := by
  cases v with
  | non => cases (show u = Value.none from r); rfl
  | bl b => cases (show u = Value.bool b from r); rfl
  | int i => obtain ⟨t, q⟩ := (show ∃ t, u = Value.int i t from r); cases q; rfl
  | str x => obtain ⟨t, q⟩ := (show ∃ t, u = Value.str x t from r); cases q; rfl
  | byt b => obtain ⟨t, q⟩ := (show ∃ t, u = Value.bytes b t from r); cases q; rfl
  | flt b => obtain ⟨t, q⟩ := (show ∃ t, u = Value.float b t from r); cases q; rfl
  | ref a => cases (show u = Value.ref a from r); rfl
  | ty n => cases (show u = Value.type n from r); rfl
def rIndex : V → List V → Hp → VK → Prop := fun x vs H Q => ∃ l xs y j, x = .ref l ∧ vs = [y] ∧ H l = some (.lst xs) ∧ xs.all flatV = true ∧ flatV y = true ∧ xs.length ≤ 1000 ∧ j < xs.length ∧ eqV (xs.getD j .non) y = true ∧ (∀ m, m < j → eqV (xs.getD m .non) y = false) ∧ Q (.int (j : Nat)) H
end L2
namespace L2
open PySem PyProof.Rows PySem.Spec PySem.Calls
def rDq (K : PySem.W.Frag) (n : Nat) (b : Bool) : R2 := fun x y H Q => ∃ a c xs ys, x = .ref a ∧ y = .ref c ∧ ((SqL K H a xs ∧ SqL K H c ys) ∨ (SqT K H a xs ∧ SqT K H c ys)) ∧ xs.length = ys.length ∧ (∀ j, j < xs.length → Deq K H n (xs.getD j .non) (ys.getD j .non)) ∧ Q (.bl b) H
theorem in1_units {A : Around} {n : Nat} (h : A.units + (n + 1) < cLine) : A.in1.units + n < cLine := by
  have : A.in1.units = A.units + 1 := by first | rfl | exact Around.units_in1 _
  omega
end L2
namespace L2
open PySem PyProof.Rows PySem.Spec PySem.Calls
theorem hu_n {A : Around} {k : Nat} (hr : Room k A) (n : Nat) (h : n ≤ 60) : A.units + (n + 1) < cLine := Nat.lt_of_le_of_lt (Nat.add_le_add_left (by omega : n + 1 ≤ 64) _) hr.units
end L2
namespace L2
open PySem PyProof.Rows PySem.Spec PySem.Calls
def inSt2 (frees : List (Str × Nat)) (σ : St) (x y : Option V) : St := x :: y :: frees.map fun p => (σ[p.2]?).join
def CompB2 (K : PySem.W.Frag) (J : It) (tc : TT) (te : TE) (σf : Option V → Option V → St) (H1 : Hp) (Q : VK) : Prop := ∀ D, H1 D = none →
  ∃ W : Nat → Nat → List V → Hp → Prop, (∃ m, W 0 m [] (upd H1 D (.lst []))) ∧ ∀ i m ys H2, W i m ys H2 → H2 D = some (.lst ys) ∧
    ((J.stop i H2 ∧ Q (.ref D) H2) ∨ (J.go i H2 ∧ ys.length < sizeLine ∧ ∀ z H3, J.yld i H2 z H3 → ∃ a x x2, z = .ref a ∧ SqT K H3 a [x, x2] ∧ tc (σf (some x) (some x2)) H3 fun b H4 =>
      if b = true then te (σf (some x) (some x2)) H4 fun y H5 => H5 D = some (.lst ys) ∧ ∃ m', m' < m ∧ W (i + 1) m' (ys ++ [y]) (upd H5 D (.lst (ys ++ [y]))) else ∃ m', m' < m ∧ W (i + 1) m' ys H4))
section
variable {X : Cx} {elt iter : Expr} {x x2 : Str} {px px2 tp pos : Pos} {kk : Nat} {ifs : List Expr} {scope : Scope} {frees : List (Str × Nat)} {tc : TT} {te : TE}
structure CompOk2 (X : Cx) (scope : Scope) (x x2 : Str) (frees : List (Str × Nat)) : Prop where
  cell : ∀ y ∈ scope.names, y.2 ≠ .cell
  kind : scope.kind = .function
  own : scope.names.lookup x = some .local
  own2 : scope.names.lookup x2 = some .local
  names : ∀ y ∈ scope.names, y.2 = .local → scope.names.lookup y.1 = some .local
  fr : FreesOk X scope frees
  nd : (x :: x2 :: frees.map (·.1)).Nodup
  cl : ∀ p ∈ scope.names, p.2 = .free → (X.env.cells.lookup p.1).isSome = true
  calm : X.calm = true
def tComp2 (K : PySem.W.Frag) (frees : List (Str × Nat)) (tc : TT) (te : TE) (wi : TI) : TE := fun σ H Q => wi σ H fun J H1 => CompB2 K J tc te (inSt2 frees σ) H1 Q
end
end L2
namespace L2
open PySem PySem.Spec PyProof.Rows
def rngV (i : Int) (n : Nat) : List V := (List.range n).map fun k => V.int (i + (k : Nat))
theorem vals_of : ∀ {xs : List V} {us : List Value}, xs.length = us.length → (∀ (k : Nat) x u, xs[k]? = some x → us[k]? = some u → RelV x u) → Vals xs us
  | [], [], _, _ => .nil
  | x :: xs, u :: us, e, h => .cons (h 0 x u rfl rfl) (vals_of (Nat.succ.inj e) fun k y w h1 h2 => h (k + 1) y w h1 h2)
  | [], _ :: _, e, _ => nomatch e
  | _ :: _, [], e, _ => nomatch e
theorem rng_vals {i : Int} : ∀ {n : Nat} {acc : Array Value}, ItemsOf (fun k v => ∃ t, v = .int (i + (k : Nat) * 1) t) acc n → Vals (rngV i n) acc.toList := by
  intro n acc h
  refine vals_of (by unfold rngV; rw [List.length_map, List.length_range, Array.length_toList, h.1]) fun k x u hx hu => ?_
  have hu' : acc[k]? = some u := by simpa using hu
  obtain ⟨t, rfl⟩ := h.2 k u hu'
  unfold rngV at hx
  rw [List.getElem?_map] at hx
  obtain ⟨m, em, rfl⟩ := Option.map_eq_some_iff.mp hx
  have : m = k := by
    obtain ⟨_, e⟩ := List.getElem?_eq_some_iff.mp em
    rw [List.getElem_range] at e
    exact e.symm
  subst this
  exact ⟨t, by rw [Int.mul_one]⟩
section
variable {X : Cx}
def tListRange (ta : TA) : TE := fun σ H Q => ta σ H fun vs H1 => ∃ i j : Int, vs = [.int i, .int j] ∧ (-(2 ^ 62) ≤ i ∧ i < 2 ^ 62 ∧ -(2 ^ 62) ≤ j ∧ j < 2 ^ 62) ∧ (j - i).toNat ≤ sizeLine ∧ (j - i).toNat ≤ 2 ^ 24 ∧ ∀ l, H1 l = none → Q (.ref l) (upd H1 l (.lst (rngV i (j - i).toNat)))
end
end L2
namespace L2
open PySem PySem.Spec PyProof.Rows
def rListOf (K : PySem.W.Frag) : List V → Hp → VK → Prop := fun xs H Q => ∃ p ys, xs = [.ref p] ∧ (SqL K H p ys ∨ SqT K H p ys) ∧ ∀ l, H l = none → Q (.ref l) (upd H l (.lst ys))
end L2
namespace PySem
open Sem (wp)
theorem list_keys_miss : typeLookup (.type "list") "keys" = pure none := am_miss_of_fast (by decide +kernel)
theorem noKeys_list {prog : Program} {w : World} {A : Around} {E : Value → Shared → Prop} {s : Shared} {a : Addr} {xs : Array Value} {n : Nat} {Q : Option Value → Shared → Prop}
    (hx : s.heap.get? a = some { cls := .type "list", dict := none, data := .seq xs n }) (hA : A.handled = none)
    (h : ∀ h' tk, (∀ b ob, s.heap.get? b = some ob → h'.get? b = some ob) → Q none { s with heap := h', toks := tk }) :
    wpAny (model prog w) A (getAttr? (.ref a) "keys") Q E s := by
  obtain ⟨hp, g, d, tk, os⟩ := s
  have hT : ∀ tk', (⟨hp, g, d, tk', os⟩ : Shared).TypeIs (.ref a) "list" := fun _ => ⟨_, hx, rfl⟩
  have g1 := sub_AttributeError
  have g3 := F.slot_list_getattribute.lookup
  have g4 := F.slot_list_getattribute.bind (.ref a)
  have g5 := am_list_getattr_none
  unfold getAttr? getAttrBy? getAttrBy
  repeat (any_goals (first | assumption | exact hT _ | ((with_reducible show wpAny _ _ (call (Value.builtin "list.__getattribute__") _ _) _ _ _); refine call_meets F.slot_list_getattribute (hT _) am_entry_list_getattribute (F.args_list_getattribute_2 _ _) (meets_getattribute_miss_list a xs n _ "keys" _ list_keys_miss (by decide +kernel) (by size_fits)) ⟨hx, hA, fun h' tk' e hx => ?_⟩) | wp_step))
  obtain ⟨t', u', he⟩ := hx.there
  show wpAny (model prog w) A (getattributeRaised _ _ _ _ _ _ _) _ _ _
  have hTe : ∀ tk', (⟨h', g, d, tk', os⟩ : Shared).TypeIs (.ref e) "AttributeError" := fun _ => ⟨_, he, rfl⟩
  unfold getattributeRaised
  repeat (any_goals (first | assumption | exact hTe _ | wp_step))
  exact h _ _ hx.keeps
end PySem
namespace PySem
open Sem (wp)
theorem entry_pairs_loop : entryFor table "dict.update.loop" = some Builtin.«dict.update.loop» := entryFor_of_tree (by kernel_rfl)
theorem plain_pairs_loop : plainId "dict.update.loop" = true := by decide +kernel
section
variable {prog : Program} {w : World} {K : Type} [DecidableEq K] {knd : KeyKind prog w K} {A : Around} {R : Result → Shared → Prop}
def putAll (ps : List (K × Value)) : List (K × Value) := ps.foldl (fun acc p => stored acc p.1 p.2) []
theorem stored_few (kvs : List (K × Value)) (k : K) (v : Value) : (stored kvs k v).length ≤ kvs.length + 1 := by
  unfold stored
  split
  · rw [List.length_map]; exact Nat.le_succ _
  · rw [List.length_append]; exact Nat.le_refl _
theorem putAll_snoc (ps : List (K × Value)) (p : K × Value) : putAll (ps ++ [p]) = stored (putAll ps) p.1 p.2 := by
  unfold putAll
  rw [List.foldl_append]
  rfl
theorem foldl_few : ∀ (ps acc : List (K × Value)), (ps.foldl (fun acc p => stored acc p.1 p.2) acc).length ≤ acc.length + ps.length
  | [], _ => Nat.le_refl _
  | p :: r, acc => by
    have h1 := foldl_few r (stored acc p.1 p.2)
    have h2 := stored_few acc p.1 p.2
    rw [List.foldl_cons, List.length_cons]
    omega
theorem pairs_loop {h₀ : Heap} {l it D : Addr} {items : Array Value} {ps : List (K × Value)} (hA : A.handled = none) (hl : h₀.IsList l items) (nit : h₀.get? it = none) (nD : h₀.get? D = none) (ne : it ≠ D)
    (hn : items.size = ps.length) (hi : ∀ (i : Nat) p, ps[i]? = some p → ∃ t key, items[i]? = some (.ref t) ∧ knd.is p.1 key = true ∧ h₀.IsTuple t #[key, p.2]) (hz : ps.length ≤ sizeLine) :
    ∀ (k i : Nat) (s : Shared) (tk : Tok), ps.length - i = k → i ≤ ps.length → s.heap.IsListIter it l i → (∀ b o, h₀.get? b = some o → s.heap.get? b = some o) → s.heap.DictOf knd D (putAll (ps.take i)) →
      (∀ h' tk', (∀ b o, b ≠ it → b ≠ D → s.heap.get? b = some o → h'.get? b = some o) → h'.DictOf knd D (putAll ps) → R (.ok (.ret .none)) { s with heap := h', toks := tk' }) →
      codeAny (model prog w) A (.builtin "dict.update.loop" ⟨[.ref D, .ref it, .int i tk, .none], []⟩) R s := by
  intro k
  induction k with
  | zero =>
    intro i s tk hk hi' hit kp hD hR
    have e : i = ps.length := by omega
    subst e
    refine codeAny_builtin entry_pairs_loop ?_
    rw [Around.under_plainId plain_pairs_loop _]
    show wpAny _ A.in1 (pyNext (.ref it) >>= _) _ _ s
    refine wpAny_bind (wpAny_pyNext_list_end (i := ps.length) (items := items) hA hit ?_ ?_ fun h' hx => ?_)
    · exact let ⟨o, ho, r⟩ := hl; ⟨o, kp _ _ ho, r⟩
    · exact Array.getElem?_eq_none (by omega)
    · show wpAny _ A.in1 (Builtin.Dict.addKeywords D [] >>= fun _ => ret Value.none) _ _ _
      refine wpAny_bind (wpAny_pure (wpAny_pure (hR h' s.toks (fun b o nb _ e => hx b o nb e) ?_)))
      rw [List.take_length] at hD
      exact hD.extBut hx (Ne.symm ne)
  | succ k ih =>
    intro i s tk hk hi' hit kp hD hR
    obtain ⟨p, hp⟩ : ∃ p, ps[i]? = some p := ⟨_, List.getElem?_eq_getElem (by omega)⟩
    obtain ⟨t, key, ht, hkey, htup⟩ := hi i p hp
    refine codeAny_builtin entry_pairs_loop ?_
    rw [Around.under_plainId plain_pairs_loop _]
    show wpAny _ A.in1 (pyNext (.ref it) >>= _) _ _ s
    refine wpAny_bind (wpAny_pyNext_list_item (i := i) (items := items) hit (let ⟨o, ho, r⟩ := hl; ⟨o, kp _ _ ho, r⟩) ht fun h' hit' hs => ?_)
    have kp' : ∀ b o, h₀.get? b = some o → h'.get? b = some o := fun b o e => (hs.2 b (fun z => by rw [z, nit] at e; cases e)).trans (kp b o e)
    obtain ⟨ot, hot, hct, nt, hdt⟩ := htup
    have hot' := kp' _ _ hot
    have hT : (⟨h', s.gens, s.drawn, s.toks, s.os⟩ : Shared).TypeIs (.ref t) "tuple" := ⟨_, hot', hct⟩
    have tk1 : ps.take (i + 1) = ps.take i ++ [p] := by rw [List.take_add_one, hp]; rfl
    have pz : (putAll (ps.take i)).length ≤ sizeLine := by
      have h1 := foldl_few (ps.take i) []
      rw [List.length_take] at h1
      unfold putAll
      simp only [List.length_nil] at h1
      omega
    show wpAny _ A.in1 (holding [Value.ref t] _ >>= _) _ _ _
    refine wpAny_bind (wpAny_holding ?_)
    refine wpAny_bind (wpAny_tryCatch ?_)
    unfold Builtin.Dict.pairItems
    refine wpAny_bind (wpAny_typeOf hT ?_)
    rw [if_pos (by decide)]
    refine wpAny_bind (wpAny_seqItems hot' hdt (wpAny_pure ?_))
    show wpAny _ A.in1 (holding [key, p.2] (dictSet D key p.2)) _ _ _
    refine wpAny_holding ?_
    have hD' : Heap.DictOf knd h' D (putAll (ps.take i)) := hD.sameBut hs (Ne.symm ne)
    refine wpAny_dictSet_pairs (s := ⟨h', s.gens, s.drawn, s.toks, s.os⟩) (hsz := pz) hkey hD' fun h2 hD2 hs2 => ?_
    rw [← putAll_snoc, ← tk1] at hD2
    refine wpAny_pure ⟨plainId_quiet plain_pairs_loop _, ?_⟩
    have hit2 : h2.IsListIter it l (i + 1) := let ⟨o, ho, r⟩ := hit'; ⟨o, (hs2.2 it ne).trans ho, r⟩
    refine ih (i + 1) ⟨h2, s.gens, s.drawn, s.toks + 1, s.os⟩ 0 (by omega) (by omega) hit2 (fun b o e => (hs2.2 b (fun z => by rw [z, nD] at e; cases e)).trans (kp' b o e)) hD2 fun h3 tk3 k3 hD3 => ?_
    exact hR h3 tk3 (fun b o n1 n2 e => k3 b o n1 n2 ((hs2.2 b n2).trans ((hs.2 b n1).trans e))) hD3
theorem dict_of_pairs {E : Value → Shared → Prop} {s : Shared} {l : Addr} {items : Array Value} {n : Nat} {ps : List (K × Value)} {Q : Value → Shared → Prop} (hA : A.handled = none) (hx : s.heap.get? l = some { cls := .type "list", dict := none, data := .seq items n })
    (hn : items.size = ps.length) (hi : ∀ (i : Nat) p, ps[i]? = some p → ∃ t key, items[i]? = some (.ref t) ∧ knd.is p.1 key = true ∧ s.heap.IsTuple t #[key, p.2]) (hz : ps.length ≤ sizeLine)
    (h : ∀ h' tk, (∀ b o, s.heap.get? b = some o → h'.get? b = some o) → h'.DictOf knd s.heap.objs.size (putAll ps) → Q (.ref s.heap.objs.size) { s with heap := h', toks := tk }) :
    wpAny (model prog w) A (call (.type "dict") [.ref l]) Q E s := by
  refine callType_codes (Q₁ := fun obj s₁ => obj = .ref s.heap.objs.size ∧ s₁ = { s with heap := s.heap.push { cls := .type "dict", data := .dict #[] } }) F.kt_called_dict (F.kt_typeCall_dict_1 _) F.entry_dict_init (kt_code_dict_new _ ⟨rfl, rfl⟩) ?_
  rintro obj s₁ ⟨rfl, rfl⟩
  have hnew : (s.heap.push { cls := .type "dict", data := .dict #[] }).DictOf knd s.heap.objs.size [] := Heap.DictOf.new s.heap
  have hx' : (s.heap.push { cls := .type "dict", data := .dict #[] }).get? l = some { cls := .type "list", dict := none, data := .seq items n } := Heap.get?_push_of_some _ hx
  refine ⟨hnew.typeIs, F.args_dict_init_2 _ _, ?_⟩
  unfold Builtin.«dict.__init__»
  refine wpAny_bind ?_
  unfold Builtin.Dict.selfAndRest
  refine wpAny_bind (wpAny_notOrdered_dict hnew.typeIs ?_)
  show wpAny _ _ (pure (s.heap.objs.size, [Value.ref l])) _ _ _
  refine wpAny_pure ?_
  show wpAny _ _ (Builtin.Dict.updateFrom "dict.__init__" s.heap.objs.size (.ref l) [] .none) _ _ _
  unfold Builtin.Dict.updateFrom
  refine wpAny_bind (wpAny_typeOf (T := "list") ⟨_, hx', rfl⟩ ?_)
  rw [if_pos (by decide)]
  refine wpAny_bind (noKeys_list hx' hA fun h1 tk1 k1 => ?_)
  simp only [Option.isNone_none, if_true]
  refine wpAny_bind (wpAny_rule (wpAny_bind (wpAny_pyIter_list (items := items) ⟨_, k1 _ _ hx', rfl, n, rfl⟩ ?_)))
  have hsz : s.heap.objs.size < h1.objs.size := by
    obtain ⟨o, _, _, ho, _⟩ := hnew
    exact Heap.lt_size (k1 _ _ ho)
  refine wpAny_pure ⟨plainId_quiet plain_pairs_loop _, ?_⟩
  have keep : ∀ b o, s.heap.get? b = some o → (h1.push { cls := .type "list_iterator", data := .fields #[.ref l, .int 0 0] }).get? b = some o := fun b o e => Heap.get?_push_of_some _ (k1 _ _ (Heap.get?_push_of_some _ e))
  refine pairs_loop (A := A.in1) (R := wants (fun r s₂ => r = Value.none ∧ Q (Value.ref s.heap.objs.size) s₂) E) (h₀ := s.heap) (l := l) (items := items) (ps := ps) hA ⟨_, hx, rfl, n, rfl⟩ (Heap.get?_none_of_le (Nat.le_of_lt hsz)) (Heap.get?_none_of_le (Nat.le_refl _)) (Ne.symm (Nat.ne_of_lt hsz)) hn hi hz ps.length 0 ⟨h1.push { cls := .type "list_iterator", data := .fields #[.ref l, .int 0 0] }, s.gens, s.drawn, tk1, s.os⟩ 0 (Nat.sub_zero _) (Nat.zero_le _) ⟨_, Heap.get?_push_size _ rfl, rfl, rfl⟩ keep ?_ fun h' tk' k' hD' => ?_
  · obtain ⟨o, es, ep, ho, r⟩ := hnew
    exact ⟨o, es, ep, Heap.get?_push_of_some _ (k1 _ _ ho), r⟩
  · refine ⟨rfl, h h' tk' (fun b o e => k' b o ?_ ?_ (keep b o e)) hD'⟩
    · intro z
      exact absurd (Heap.lt_size e) (by rw [z]; exact Nat.not_lt.mpr (Nat.le_of_lt hsz))
    · intro z
      exact absurd (Heap.lt_size e) (by rw [z]; exact Nat.lt_irrefl _)
end
end PySem
namespace L2
open PySem PySem.Spec PyProof.Rows
theorem kv_mk : ∀ {kvs : List (Key × V)} {us : List Value}, (kvs.map (·.2)).length = us.length → (∀ (i : Nat) q u, kvs[i]? = some q → us[i]? = some u → RelV q.2 u) → ∃ vs : List (Key × Value), KV kvs vs ∧ vs.map (·.1) = kvs.map (·.1) ∧ vs.map (·.2) = us
  | [], [], _, _ => ⟨[], .nil, rfl, rfl⟩
  | q :: r, u :: us, e, h => by
    obtain ⟨vs, h1, h2, h3⟩ := kv_mk (kvs := r) (us := us) (Nat.succ.inj e) fun i q u e1 e2 => h (i + 1) q u e1 e2
    exact ⟨(q.1, u) :: vs, .cons ⟨rfl, h 0 q u rfl rfl⟩ h1, by rw [List.map_cons, List.map_cons, h2], by rw [List.map_cons, h3]⟩
  | [], _ :: _, e, _ => nomatch e
  | _ :: _, [], e, _ => nomatch e
def rDictPairs (K : PySem.W.Frag) : List V → Hp → VK → Prop := fun xs H Q => ∃ p ts kvs, xs = [.ref p] ∧ H p = some (.lst ts) ∧ ts.length = kvs.length ∧ (∀ (i : Nat) y (q : Key × V), ts[i]? = some y → kvs[i]? = some q → ∃ t, y = .ref t ∧ SqT K H t [kV q.1, q.2]) ∧ (kvs.map (·.1)).Nodup ∧
  ∀ d, H d = none → Q (.ref d) (upd H d (.dK kvs))
theorem call_dict_pairs {X : Cx} (hc : X.calm = true) : CallR X (.type "dict") (rDictPairs X.K) := by
  intro pins s σ H xs us Q I r h
  obtain ⟨p, ts, kvs, rfl, hp, lt, ht, nd, q⟩ := h
  obtain ⟨u, rfl, rx⟩ := vals1 r
  cases rx
  obtain ⟨hz, its, n, rv, e⟩ := Rd.ok (u := .lst ts) (.inl hp) I.hok
  have li := rv.length
  have at1 : ∀ (i : Nat) q, kvs[i]? = some q → ∃ t key w', its[i]? = some (.ref t) ∧ RelV (kV q.1) key ∧ RelV q.2 w' ∧ s.heap.IsTuple t #[key, w'] := fun i q eq => by
    have hi : i < kvs.length := (List.getElem?_eq_some_iff.mp eq).1
    obtain ⟨y, ey⟩ : ∃ y, ts[i]? = some y := ⟨_, List.getElem?_eq_getElem (by omega)⟩
    obtain ⟨t, rfl, hq⟩ := ht i y q ey eq
    obtain ⟨u, eu, ru⟩ := Vals.get rv ey
    cases ru
    obtain ⟨jt, rj, tj, _⟩ := I.tuple hq
    cases rj with
    | cons r1 rr =>
      cases rr with
      | cons r2 rr =>
        cases rr
        exact ⟨t, _, _, eu, r1, r2, tj⟩
  obtain ⟨ws, lw, gw⟩ : ∃ ws : List Value, ws.length = kvs.length ∧ ∀ (i : Nat) q u, kvs[i]? = some q → ws[i]? = some u → RelV q.2 u ∧ ∃ t key, its[i]? = some (.ref t) ∧ RelV (kV q.1) key ∧ s.heap.IsTuple t #[key, u] := by
    have ch : ∀ i : Fin kvs.length, ∃ w', RelV (kvs[i]).2 w' ∧ ∃ t key, its[i.1]? = some (.ref t) ∧ RelV (kV (kvs[i]).1) key ∧ s.heap.IsTuple t #[key, w'] := fun i => by
      obtain ⟨t, key, w', h1, h2, h3, h4⟩ := at1 i.1 kvs[i] (List.getElem?_eq_getElem i.2)
      exact ⟨w', h3, t, key, h1, h2, h4⟩
    refine ⟨List.ofFn fun i => Classical.choose (ch i), List.length_ofFn, fun i q u e1 e2 => ?_⟩
    obtain ⟨hi, rfl⟩ := List.getElem?_eq_some_iff.mp e1
    rw [List.getElem?_ofFn, dif_pos hi] at e2
    obtain rfl := Option.some.inj e2
    exact Classical.choose_spec (ch ⟨i, hi⟩)
  obtain ⟨vs, kv, k1, k2⟩ := kv_mk (kvs := kvs) (us := ws) (by rw [List.length_map, lw]) fun i q u e1 e2 => (gw i q u e1 e2).1
  have lv : vs.length = kvs.length := by rw [← List.length_map (f := (·.1)), k1, List.length_map]
  refine dict_of_pairs (knd := mixKind X.prog X.w) (ps := vs) (I.ok.hd hc) e (by rw [List.size_toArray]; omega) (fun i p ep => ?_) (by omega) fun h' tk keep hd => ?_
  · have hi : i < vs.length := (List.getElem?_eq_some_iff.mp ep).1
    have e1 : kvs[i]? = some kvs[i] := List.getElem?_eq_getElem (by omega)
    have e2 : ws[i]? = some p.2 := by rw [← k2, List.getElem?_map, ep]; rfl
    have e3 : kvs[i].1 = p.1 := by
      have h1 : (vs.map (·.1))[i]? = some p.1 := by rw [List.getElem?_map, ep]; rfl
      rw [k1, List.getElem?_map, e1] at h1
      exact Option.some.inj h1
    obtain ⟨_, t, key, h1, h2, h3⟩ := gw i _ _ e1 e2
    refine ⟨t, key, by rw [List.getElem?_toArray]; exact h1, ?_, h3⟩
    rw [← e3]
    exact kV_is h2
  · rw [show putAll vs = vs from merged_nil_of_nodup vs (by rw [k1]; exact nd)] at hd
    refine ⟨.ref s.heap.objs.size, _, I.laid (t' := tk) keep (Nat.le_refl _) (dk_new (by omega) (beq_eq_false_iff_ne.mpr (Ne.symm (Nat.ne_of_lt I.big))) kv hd), rfl, q _ (I.hok.fresh (Nat.le_refl _))⟩
def rDictOf : List V → Hp → VK → Prop := fun xs H Q => ∃ a kvs, xs = [.ref a] ∧ Rd H a (.dK kvs) ∧ ∀ d, H d = none → Q (.ref d) (upd H d (.dK kvs))
theorem bt_dict : bootBuiltins "dict" = some (.type "dict") := by decide +kernel
end L2
namespace L2
open PySem PyProof.Rows PySem.Spec PySem.Calls
section
variable {X : Cx}
def rGetL : V → V → Hp → VK → Prop := fun o i H Q => ∃ p xs k, o = .ref p ∧ i = .int k ∧ H p = some (.lst xs) ∧ 0 ≤ k ∧ k < ((xs.length : Nat) : Int) ∧ ∀ v, xs[k.toNat]? = some v → Q v H
def rEqT (K : PySem.W.Frag) (neg : Bool) : R2 := fun x y H Q => ∃ p q xs ys, x = .ref p ∧ y = .ref q ∧ SqT K H p xs ∧ SqT K H q ys ∧ xs.length = ys.length ∧ xs.all flatV = true ∧ ys.all flatV = true ∧ Q (.bl (if neg then !eqVs xs ys else eqVs xs ys)) H
end
end L2
namespace L2
open PySem PySem.Spec PyProof.Rows
section
variable {X : Cx}
def tPl (K : PySem.W.Frag) (B : Addr) (ts : TS) (tr : TH) : TH := fun D σ H C ea => PySem.W.excMk K C = true ∧ PySem.W.excMk K B = true ∧ ∃ b, PySem.W.mroHas K C (.ref B) = b ∧ if b = true then ts D σ H else tr D σ H C ea
end
end L2
namespace L2
open PySem PyProof.Rows PySem.Spec PySem.Calls
section
variable {X : Cx}
def rNeS (K : PySem.W.Frag) : R2 := fun x y H Q => (∃ a i xs, x = .ref a ∧ y = .str i ∧ (SqL K H a xs ∨ SqT K H a xs) ∧ Q (.bl true) H) ∨ rNe x y H Q
end
end L2
namespace L2
open PySem PySem.Spec PyProof.Rows
end L2
namespace L2
open PySem PySem.Spec PyProof.Rows
section
variable {X : Cx}
def rListDict : List V → Hp → VK → Prop := fun xs H Q => ∃ p kvs, xs = [.ref p] ∧ H p = some (.dK kvs) ∧ ∀ l, H l = none → Q (.ref l) (upd H l (.lst (kvs.map fun q => kV q.1)))
theorem call_list_dict (hc : X.calm = true) : CallR X (.type "list") rListDict := by
  intro pins s σ H xs us Q I r h
  obtain ⟨p, kvs, rfl, hp, q⟩ := h
  obtain ⟨u, rfl, rx⟩ := vals1 r
  cases rx
  obtain ⟨z, hd, vs, rk, o, es, ep, e', xd, dt, ko, pr, nd⟩ := I.hok p _ hp
  have hl := KV.length rk
  refine PySem.W.kdl_call (PySem.W.kdl_dict (knd := mixKind X.prog X.w) (kvs := vs) (ep := ep) hd) (I.ok.hd hc) ⟨o, es, e', xd, dt, ko, pr, nd⟩ (by omega) (fun h' tk acc' c' kp e it => ?_)
  refine ⟨.ref s.heap.objs.size, _, I.laid (t' := tk) kp (Nat.le_refl _) (show ObjOk X.prog X.w _ h' _ (.lst (kvs.map fun q => kV q.1)) from ⟨by rw [List.length_map]; exact z, acc'.toList, c', vals_of ?_ fun k x u hx hu => ?_, e⟩), rfl, q _ (I.hok.fresh (Nat.le_refl _))⟩
  · have h1 : acc'.toList.length = vs.length := it.1
    rw [List.length_map, h1]
    exact hl
  · have hu' : acc'[k]? = some u := by simpa using hu
    obtain ⟨k', x', e1, e2⟩ := it.2 k u hu'
    rw [List.getElem?_map] at hx
    obtain ⟨y, ey, rfl⟩ := Option.map_eq_some_iff.mp hx
    have q1 : (kvs.map (·.1))[k]? = (vs.map (·.1))[k]? := by rw [KV.keys rk]
    rw [List.getElem?_map, List.getElem?_map, ey, e1] at q1
    have q2 : y.1 = k' := Option.some.inj q1
    show RelV (kV y.1) u
    rw [q2]
    exact rel_key e2
end
end L2
namespace L2
open PySem PySem.Spec PyProof.Rows
theorem strs_are : ∀ {ss : List Str} {us : List Value}, Vals (ss.map V.str) us → StrsAre us ss
  | [], _, h => by cases h; exact .nil
  | s :: ss, _, h => by
    cases h with
    | cons a b =>
      obtain ⟨t, rfl⟩ := a
      exact .cons s t (strs_are b)
theorem are_strs : ∀ {us : List Value} {ss : List Str}, StrsAre us ss → Vals (ss.map V.str) us
  | _, _, .nil => .nil
  | _, _, .cons y t h => .cons ⟨t, rfl⟩ (are_strs h)
theorem rising_le : ∀ {p : Str} {l : List Str}, risingS p l = true → ∀ x ∈ l, ¬ x.cps.toList < p.cps.toList
  | p, [], _, x, hx => absurd hx List.not_mem_nil
  | p, y :: l, h, x, hx => by
    unfold risingS at h
    rw [Bool.and_eq_true, ltCps_eq, Bool.not_eq_true', decide_eq_false_iff_not] at h
    rcases List.mem_cons.mp hx with z | z
    · rw [z]; exact h.1
    · have h2 := rising_le h.2 x z
      have a : p.cps.toList ≤ y.cps.toList := List.not_lt.mp h.1
      have b : y.cps.toList ≤ x.cps.toList := List.not_lt.mp h2
      exact List.not_lt.mpr (List.le_trans a b)
theorem rising_tail {p : Str} {l : List Str} (h : risingS p l = true) : sortedS l = true := by
  cases l with
  | nil => rfl
  | cons y l =>
    unfold risingS at h
    rw [Bool.and_eq_true] at h
    exact h.2
theorem sorted_uniq : ∀ {a b : List Str}, a.Perm b → sortedS a = true → sortedS b = true → a = b
  | [], b, p, _, _ => (List.Perm.nil_eq p).symm ▸ rfl
  | x :: a, b, p, ha, hb => by
    cases b with
    | nil => have le := p.length_eq; cases le
    | cons y b =>
      have ha' : risingS x a = true := ha
      have hb' : risingS y b = true := hb
      have e : x = y := by
        have hx : x ∈ y :: b := p.mem_iff.mp List.mem_cons_self
        have hy : y ∈ x :: a := p.mem_iff.mpr List.mem_cons_self
        rcases List.mem_cons.mp hx with z | z
        · exact z
        · rcases List.mem_cons.mp hy with w | w
          · exact w.symm
          · have h1 := List.not_lt.mp (rising_le hb' x z)
            have h2 := List.not_lt.mp (rising_le ha' y w)
            have h3 : x.cps.toList = y.cps.toList := List.le_antisymm h2 h1
            exact Blk.sg_inj h3
      subst e
      rw [sorted_uniq (List.Perm.cons_inv p) (rising_tail ha') (rising_tail hb')]
section
variable {X : Cx}
def rSortedL (K : PySem.W.Frag) : List V → Hp → VK → Prop := fun xs H Q => ∃ p ss, xs = [.ref p] ∧ SqL K H p (ss.map V.str) ∧ ss.length < 64 ∧ ∀ l ss', H l = none → List.Perm ss' ss → sortedS ss' = true → Q (.ref l) (upd H l (.lst (ss'.map V.str)))
end
end L2
namespace L2
open PySem PySem.Calls PyProof.Rows PyProof.V PySem.Spec PySem.W
theorem coll {prog : Program} {w : World} {A : Around} {E : Value → Shared → Prop} {s : Shared} {T : String} {r d : Addr} {n : Nat} {P : Nat → Value → Prop} {OK : Heap → Prop} {R : List Value → Shared → Prop} (K : KdlSrc prog w T r d n P OK) (hh : A.handled = none) (hok : OK s.heap) (hn : n ≤ sizeLine)
    (g : ∀ (h₁ : Heap) (k : Nat) (its : Array Value), s.heap.objs.size < h₁.objs.size → (∀ b o, s.heap.get? b = some o → h₁.get? b = some o) → ItemsOf P its n → R its.toList { s with heap := h₁, toks := k }) : wpAny (model prog w) A (collect (.ref r)) R E s := by
  obtain ⟨lr, ld⟩ := K.there _ hok
  have fin : ∀ (h₁ : Heap) (k : Nat) (its : Array Value) (c : Nat), (∀ b o, s.heap.get? b = some o → h₁.get? b = some o) → h₁.get? s.heap.objs.size = some { cls := .type "list", data := .seq its c } → ItemsOf P its n → wpAny (model prog w) A (load s.heap.objs.size >>= fun o => match o.data with | .seq items _ => pure items.toList | _ => unsupported "internal:collect") R E { s with heap := h₁, toks := k } := fun h₁ k its c kp hS it => wpAny_bind (wpAny_load hS (wpAny_pure (g h₁ k its (Heap.lt_size hS) kp it)))
  unfold collect
  refine wpAny_bind (wpAny_runValue (codeAny_builtin entry_proto_collect' ?_)); rw [Around.under_plainId PySem.F.plain_proto_collect _]
  show wpAny _ A.in1 (newList [] >>= fun nl => again (.builtin "list.__iadd__" ⟨[nl, .ref r], []⟩)) _ _ s
  refine wpAny_bind (wpAny_newObj_type (wpAny_pure ⟨plainId_quiet PySem.F.plain_list_iadd _, codeAny_builtin entry_list_iadd' ?_⟩)); rw [Around.under_plainId PySem.F.plain_list_iadd _]
  have e0 : (s.heap.push { cls := .type "list", data := .seq ([] : List Value).toArray }).get? s.heap.objs.size = some { cls := .type "list", data := .seq #[] } := Heap.get?_push_size (o := { cls := .type "list", data := .seq ([] : List Value).toArray }) _ rfl
  have key := kdl_extend (A := A) (s := { s with heap := s.heap.push { cls := .type "list", data := .seq ([] : List Value).toArray } }) (R := fun (q : Result) (s₂ : Shared) => ∃ (h₁ : Heap) (k : Nat) (its : Array Value) (c : Nat), q = .ok (.ret (.ref s.heap.objs.size)) ∧ s₂ = { s with heap := h₁, toks := k } ∧ (∀ b o, s.heap.get? b = some o → h₁.get? b = some o) ∧ h₁.get? s.heap.objs.size = some { cls := .type "list", data := .seq its c } ∧ ItemsOf P its n) K hh (K.keep _ _ hok fun b _ o e => Heap.get?_push_of_some _ e) s.heap.objs.size (Nat.ne_of_gt lr) (Nat.ne_of_gt ld) (.ref s.heap.objs.size) 0 e0 (fun h₁ k its c kp hS it => ⟨h₁, k, its, c, rfl, rfl, fun b o e => kp b o (Nat.ne_of_lt (Heap.lt_size e)) (Heap.get?_push_of_some _ e), hS, it⟩) hn
  refine wpAny_mono key (fun end' s₂ x => ?_) fun e s₂ x => ?_
  · cases end' with
    | done f =>
      obtain ⟨h₁, k, its, c, e, rfl, kp, hS, it⟩ := x
      cases e; exact fin h₁ k its c kp hS it
    | again c₁ =>
      refine ⟨x.1, codeAny_mono x.2 fun q s₃ y => ?_⟩
      obtain ⟨h₁, k, its, c, rfl, rfl, kp, hS, it⟩ := y
      exact fin h₁ k its c kp hS it
  · obtain ⟨_, _, _, _, e₁, _⟩ := x
    cases e₁
end L2
namespace L2
open PySem PySem.Spec PyProof.Rows
section
variable {X : Cx}
def rCount : V → List V → Hp → VK → Prop := fun x vs H Q => ∃ l xs y, x = .ref l ∧ vs = [y] ∧ H l = some (.lst xs) ∧ xs.all flatV = true ∧ flatV y = true ∧ Q (.int ((xs.countP fun z => eqV z y : Nat) : Int)) H
theorem mt_count : MtR X "list.count" rCount := by
  intro pins s σ H x vs v us Q I rx rv h
  obtain ⟨l, xs, y, rfl, rfl, hH, fx, fy, q⟩ := h
  cases rx
  obtain ⟨u, rfl, ru⟩ := vals1 rv
  obtain ⟨z, its, n, r, hl, e⟩ := I.lstM hH
  have ec : List.countP (fun w => eqV (ofVal w) y) its.toArray.toList = xs.countP fun z => eqV z y := by
    have all : ∀ {xs : List V} {its : List Value}, Vals xs its → List.countP (fun w => eqV (ofVal w) y) its = xs.countP fun z => eqV z y := by
      intro xs its r
      induction r with
      | nil => rfl
      | cons a b ih => rw [List.countP_cons, List.countP_cons, ih, ofVal_rel a]
    exact all r
  refine call_meets F.slot_list_count ⟨_, e, rfl⟩ F.entry_list_count (F.args_list_count_2 _ _) (SeqAt.list_countAt l its.toArray n none #[] u fun w => eqV (ofVal w) y) ⟨e, fun w hw => ?_, ⟨.int ((xs.countP fun z => eqV z y : Nat) : Int), H, I.tok _, ⟨_, by rw [ec]⟩, q⟩⟩
  obtain ⟨m, hm, rfl⟩ := Array.getElem_of_mem hw
  have ra := vals_at r m hm
  have := eqAt_V (A := X.A.in1) (s := s) ra ru (flat_at fx m) fy
  rwa [← ofVal_rel ra] at this
def rSortedD : List V → Hp → VK → Prop := fun xs H Q => ∃ p kvs ss, xs = [.ref p] ∧ H p = some (.dK kvs) ∧ kvs.map (fun q => kV q.1) = ss.map V.str ∧ ss.length < 64 ∧ ∀ l ss', H l = none → List.Perm ss' ss → sortedS ss' = true → Q (.ref l) (upd H l (.lst (ss'.map V.str)))
theorem call_sorted_d (hc : X.calm = true) : CallR X (.builtin "sorted") rSortedD := by
  intro pins s σ H xs us Q I r h
  obtain ⟨p, kvs, ss, rfl, hp, ek, h64, q⟩ := h
  obtain ⟨u, rfl, rx⟩ := vals1 r
  cases rx
  obtain ⟨z, hd, vs, rk, o, es, ep, e', xd, dt, ko, pr, nd⟩ := I.hok p _ hp
  have hl := KV.length rk
  have hs : kvs.length = ss.length := by
    have := congrArg List.length ek
    rwa [List.length_map, List.length_map] at this
  refine Calls.call_function_entry kind_sorted plain_sorted entry_sorted (args_sorted1 _) ?_; unfold Builtin.«sorted»
  refine wpAny_bind (m := checkCount "sorted" 1 1 _) (wpAny_pure ?_); show wpAny _ _ (collect (.ref p) >>= _) _ _ _
  refine wpAny_bind (coll (PySem.W.kdl_dict (knd := mixKind X.prog X.w) (kvs := vs) (ep := ep) hd) (I.ok.hd hc) ⟨o, es, e', xd, dt, ko, pr, nd⟩ (by omega) fun h1 tk acc sz1 kp it => ?_)
  have ln : acc.toList.length = ss.length := by
    have : acc.toList.length = vs.length := it.1
    omega
  have rv : Vals (ss.map V.str) acc.toList := vals_of (by rw [List.length_map]; exact ln.symm) fun k x u hx hu => by
    have hu' : acc[k]? = some u := by simpa using hu
    obtain ⟨k', x', e1, e2⟩ := it.2 k u hu'
    rw [← ek, List.getElem?_map] at hx
    obtain ⟨y, ey, rfl⟩ := Option.map_eq_some_iff.mp hx
    have q1 : (kvs.map (·.1))[k]? = (vs.map (·.1))[k]? := by rw [KV.keys rk]
    rw [List.getElem?_map, List.getElem?_map, ey, e1] at q1
    have q2 : y.1 = k' := Option.some.inj q1
    show RelV (kV y.1) u
    rw [q2]
    exact rel_key e2
  have hS := strs_are rv
  refine wpAny_bind (wpAny_newList ?_ (by rw [ln]; exact Nat.le_of_lt (small1000 (by omega))))
  have hoL : (h1.push (seqObj "list" acc.toList.toArray 0)).get? h1.objs.size = some (seqObj "list" acc.toList.toArray 0) := Heap.get?_push_size _ rfl
  refine wpAny_bind (wpAny_holding (wpAny_call_entry slot_list_sort ⟨_, hoL, rfl⟩ entry_list_sort (list_sort_treeK strKind_oneLt hoL hS.keysOf (fun v₁ v₂ rest e => keyKind_strs (by rw [← e]; exact hS)) (by omega) fun st' a1 a2 => ⟨_, rfl, ?_⟩) (args_list_sort _)))
  obtain ⟨ss', b1, b2, b3⟩ := sorted_out_str hS a1 a2
  refine wpAny_pure ⟨_, rfl, ?_⟩; obtain ⟨c, he⟩ := sortedHeap_at (n := 0) hoL (vs := acc.toList) (out := (arrOf st').map (·.2))
  have sz : s.heap.objs.size ≤ h1.objs.size := Nat.le_of_lt sz1
  refine ⟨.ref h1.objs.size, _, I.laid (t' := tk) (fun b o e => ?_) sz (show ObjOk X.prog X.w _ _ _ (.lst (ss'.map V.str)) from ⟨by rw [List.length_map, b2.length_eq]; exact Nat.le_of_lt (small1000 (by omega)), _, c, are_strs b1, he⟩), rfl, q _ ss' (I.hok.fresh sz) b2 b3⟩
  have hb := kp b o e
  rw [sortedHeap_old (Nat.ne_of_lt (Heap.lt_size hb)) (by rw [size_push']; exact Nat.lt_succ_of_lt (Heap.lt_size hb))]
  exact (Heap.get?_push_of_some _ hb :)
end
end L2
namespace L2
open PySem PySem.Spec PyProof.Rows
section
variable {X : Cx}
def rSIndex : V → List V → Hp → VK → Prop := fun x vs H Q => ∃ z y i rest, x = .str z ∧ vs = [.str y] ∧ Builtin.Str.occurrences z y 0 z.length 1 = i :: rest ∧ Q (.int ((i : Nat) : Int)) H
end
end L2
theorem L2.bt_sorted : PySem.bootBuiltins "sorted" = some (.builtin "sorted") := PyProof.Rows.boot_sorted
namespace L2
open PySem PyProof.Rows PySem.Spec PySem.Calls
section
variable {X : Cx}
def rSetD : V → List V → Hp → VK → Prop := fun x vs H Q => ∃ d kvs k y, x = .ref d ∧ vs = [kV k, y] ∧ H d = some (.dK kvs) ∧ kvs.length < 1000 ∧ (∀ u, valV kvs k = some u → Q u H) ∧ (valV kvs k = none → Q y (upd H d (.dK (kvs ++ [(k, y)]))))
theorem mt_setdefault : MtR X "dict.setdefault" rSetD := by
  intro pins s σ H x vs v us Q I rx rv h
  obtain ⟨d, kvs, k, y, rfl, rfl, hd, hz, q1, q2⟩ := h
  cases rx
  obtain ⟨u, w', rfl, r1, r2⟩ := vals2 rv
  obtain ⟨z1, m1, vs1, k1, d1⟩ := dk_of I.hok hd
  have l1 := k1.length
  have hv := k1.val k
  refine call_meetsIn PySem.F.slot_dict_setdefault d1.typeIs PySem.F.entry_dict_setdefault (PySem.F.args_dict_setdefault_3 _ _ _) (kt_meets_setdefault (mixKind X.prog X.w) d (kV_is r1) m1 w')
    ⟨vs1, d1, (by rw [← l1, sizeLine_eq]; omega), (fun v' hv' => ?_), (fun hn h' hm hs => ?_)⟩
  · rw [hv'] at hv
    cases e : valV kvs k with
    | none => rw [e] at hv; exact hv.elim
    | some y' =>
      rw [e] at hv
      exact ⟨y', H, I.tok _, hv, q1 y' e⟩
  · rw [hn] at hv
    cases e : valV kvs k with
    | some y' => rw [e] at hv; exact hv.elim
    | none =>
      have kp := k1.put k r2
      rw [putK_new y e] at kp
      refine ⟨y, _, ?_, r2, q2 e⟩
      exact d_write I (by rw [hd]; exact True.intro) hs (let ⟨o, _, _, hq, _⟩ := hm; ⟨o, hq⟩) (dk_new (by rw [List.length_append, sizeLine_eq]; show kvs.length + 1 ≤ _; omega) m1 kp hm)
def hasD (kb : List (Key × V)) (p : Key × V) : Bool := match valV kb p.1 with
  | some y => eqV p.2 y
  | none => false
def eqD (ka kb : List (Key × V)) : Bool := ka.length == kb.length && ka.all (hasD kb)
def rEqDk (neg : Bool) : R2 := fun x y H Q => ∃ a b ka kb, x = .ref a ∧ y = .ref b ∧ H a = some (.dK ka) ∧ H b = some (.dK kb) ∧ (∀ p ∈ ka, flatV p.2 = true) ∧ (∀ p ∈ kb, flatV p.2 = true) ∧ Q (.bl (if neg then !eqD ka kb else eqD ka kb)) H
def pickV (xs : List V) (lo hi st : Option Int) : List V := (sliceRange (sliceBounds lo hi st xs.length).1 (sliceBounds lo hi st xs.length).2.1 (sliceBounds lo hi st xs.length).2.2).filterMap (xs[·]?)
def tSl3 (K : PySem.W.Frag) (te : TE) (tl th ts : TO) : TE := fun σ H Q => te σ H fun x H1 => tl σ H1 fun l H2 => th σ H2 fun u H3 => ts σ H3 fun c H4 => ∃ a xs, x = .ref a ∧ SqL K H4 a xs ∧ c ≠ some 0 ∧ ∀ p, H4 p = none → Q (.ref p) (upd H4 p (.lst (pickV xs l u c)))
def thirds (n : Nat) : List Nat := (List.range n).filter fun k => k % 3 == 1
end
end L2
namespace L2
open PySem PyProof.Rows PySem.Spec PySem.Calls
def KW (v d : Addr) : HO := .ext fun h => PySem.W.KdlKeysView h v d
def VW (v d : Addr) : HO := .ext fun h => h.IsValuesView v d
section
variable {X : Cx}
def rKeys : V → List V → Hp → VK → Prop := fun x vs H Q => ∃ d kvs, x = .ref d ∧ vs = [] ∧ H d = some (.dK kvs) ∧ ∀ v, H v = none → Q (.ref v) (upd H v (KW v d))
def rListKeys : List V → Hp → VK → Prop := fun xs H Q => ∃ v d kvs, xs = [.ref v] ∧ H v = some (KW v d) ∧ H d = some (.dK kvs) ∧ ∀ l, H l = none → Q (.ref l) (upd H l (.lst (kvs.map fun q => kV q.1)))
def rValues : V → List V → Hp → VK → Prop := fun x vs H Q => ∃ d kvs, x = .ref d ∧ vs = [] ∧ H d = some (.dK kvs) ∧ ∀ v, H v = none → Q (.ref v) (upd H v (VW v d))
def rListVals : List V → Hp → VK → Prop := fun xs H Q => ∃ v d kvs, xs = [.ref v] ∧ H v = some (VW v d) ∧ H d = some (.dK kvs) ∧ ∀ l, H l = none → Q (.ref l) (upd H l (.lst (kvs.map fun q => q.2)))
end
end L2
namespace L2
open PySem PyProof.Rows PySem.Spec PySem.Calls
def IW (v d : Addr) : HO := .ext fun h => h.IsItemsView v d
def Itm (d : Addr) (o : Obj) (kvs : List (Key × V)) : It :=
  ⟨fun i H => H d = some (.frz o (.dK kvs)) ∧ i < kvs.length, fun i H x H' => ∃ p k v, x = .ref p ∧ H p = none ∧ H' = upd H p (.tup [kV k, v]) ∧ kvs[i]? = some (k, v), fun i H => H d = some (.frz o (.dK kvs)) ∧ kvs.length = i⟩
section
variable {X : Cx} {elts : List Expr} {x1 : Nat} {tpos : Pos}
def rItems : V → List V → Hp → VK → Prop := fun x vs H Q => ∃ d o kvs, x = .ref d ∧ vs = [] ∧ H d = some (.frz o (.dK kvs)) ∧ ∀ v, H v = none → Q (.ref v) (upd H v (IW v d))
def iItems (tl : TE) : TI := fun σ H R => tl σ H fun x H1 => ∃ v d o kvs, x = .ref v ∧ H1 v = some (IW v d) ∧ H1 d = some (.frz o (.dK kvs)) ∧ R (Itm d o kvs) H1
end
end L2
namespace L2
open PySem PyProof.Rows PySem.Spec PySem.Calls
def DeqD (H : Hp) (x y : V) : Prop := (x = y ∧ flatV x = true) ∨ ∃ a b ka kb, x = .ref a ∧ y = .ref b ∧ H a = some (.dK ka) ∧ H b = some (.dK kb) ∧ (∀ p ∈ ka, flatV p.2 = true) ∧ (∀ p ∈ kb, flatV p.2 = true) ∧ eqD ka kb = true
def rTd (K : PySem.W.Frag) : R2 := fun x y H Q => ∃ a c xs ys, x = .ref a ∧ y = .ref c ∧ SqT K H a xs ∧ SqT K H c ys ∧ xs.length = ys.length ∧ (∀ j, j < xs.length → DeqD H (xs.getD j .non) (ys.getD j .non)) ∧ Q (.bl true) H
end L2
namespace L2
open PySem PyProof.Rows PySem.Spec PySem.Calls
section
variable {X : Cx}
def tItems0 (to : TE) : TE := fun σ H Q => to σ H fun x H1 => rItems x [] H1 Q
end
end L2
namespace L2
open PySem PyProof.Rows PySem.Spec PySem.Calls
def DeqB (K : PySem.W.Frag) (H : Hp) : Nat → V → V → Bool → Prop
  | 0, x, y, b => flatV x = true ∧ flatV y = true ∧ b = eqV x y
  | n + 1, x, y, b => (flatV x = true ∧ flatV y = true ∧ b = eqV x y) ∨ ∃ a c xs ys, x = .ref a ∧ y = .ref c ∧ (a = c → b = true) ∧ ((SqL K H a xs ∧ SqL K H c ys) ∨ (SqT K H a xs ∧ SqT K H c ys)) ∧ xs.length = ys.length ∧ ∃ e : Nat → Bool, (∀ j, j < xs.length → DeqB K H n (xs.getD j .non) (ys.getD j .non) (e j)) ∧ b = (List.range xs.length).all e
def rDb (K : PySem.W.Frag) (n : Nat) (neg : Bool) : R2 := fun x y H Q => ∃ a c xs ys, x = .ref a ∧ y = .ref c ∧ ((SqL K H a xs ∧ SqL K H c ys ∧ xs.length ≠ ys.length ∧ Q (.bl neg) H) ∨
  (((SqL K H a xs ∧ SqL K H c ys) ∨ (SqT K H a xs ∧ SqT K H c ys)) ∧ xs.length = ys.length ∧ ∃ e : Nat → Bool, (∀ j, j < xs.length → DeqB K H n (xs.getD j .non) (ys.getD j .non) (e j)) ∧ Q (.bl (if neg then !(List.range xs.length).all e else (List.range xs.length).all e)) H))
def rNeLd (K : PySem.W.Frag) : R2 := fun x y H Q => ∃ a c xs ys, x = .ref a ∧ y = .ref c ∧ SqL K H a xs ∧ SqL K H c ys ∧ xs.length = ys.length ∧ (∀ j, j < xs.length → Deq K H 2 (xs.getD j .non) (ys.getD j .non) ∨ DeqD H (xs.getD j .non) (ys.getD j .non)) ∧ Q (.bl false) H
end L2
namespace L2
open PySem PyProof.Rows PySem.Spec PySem.Calls
def cxLam (P : Program) (w : World) (K : PySem.W.Frag) (mg : Str → Option Value) (base : Heap) (x y : Str) (qual : Str) (scope : Scope) (f : Addr) (cd : Value) (cl : List (Str × Addr)) (A : Around) (outer : List Env) (s : Shared) (H : Hp) : Cx where
  prog := P
  w := w
  K := K
  mg := mg
  base := base
  A := A.deeper (PySem.W.envX qual scope s.heap.objs.size f cd cl)
  N := [x, y]
  s₀ := s
  H₀ := H
  env := PySem.W.envX qual scope s.heap.objs.size f cd cl
  outer := outer
  stack := PySem.W.envX qual scope s.heap.objs.size f cd cl :: outer
  ex := []
  fn := fun z => z == x
  calm := true
  pn := []
  xe := fun _ _ => False
structure LamScope (x y : Str) (scope : Scope) : Prop where
  kind : scope.kind = .function
  co : scope.isCoroutine = false
  gen : scope.isGenerator = false
  lx : scope.names.lookup x = some .local
  ly : scope.names.lookup y = some .free
  nocell : ∀ z ∈ scope.names, z.2 ≠ .cell
  one : ∀ z, scope.names.lookup z = some .free → z = y
  ne : x ≠ y
theorem lam_start {P : Program} {w : World} {K : PySem.W.Frag} {mg : Str → Option Value} {base : Heap} {x y qual : Str} {scope : Scope} {f c : Addr} {cd : Value} {A : Around} {outer : List Env} {s : Shared} {H : Hp} {h₁ : Heap} {tk : Nat} {u uy : Value} {v vy : V}
    (S : LamScope x y scope) (hd : A.handled = none) (e0 : Env0 P w K mg base A outer s H) (ru : RelV v u) (ruy : RelV vy uy) (hc : s.heap.IsCell c (some uy)) (hcH : H c = none)
    (hns : h₁.Ns s.heap.objs.size (fun z => [(x, u)].reverse.lookup z)) (hk : ∀ b o, s.heap.get? b = some o → h₁.get? b = some o) :
    Inv (cxLam P w K mg base x y qual scope f cd [(y, c)] A outer s H) [] [some v, some vy] H { s with heap := h₁, toks := tk } := by
  have noA : ∀ b : Addr, b ∉ (cxLam P w K mg base x y qual scope f cd [(y, c)] A outer s H).ex := fun b z => absurd (show b ∈ ([] : List Addr) from z) (by simp)
  have hcl : ∀ z d, (cxLam P w K mg base x y qual scope f cd [(y, c)] A outer s H).env.cells.lookup z = some d → z = y ∧ d = c := fun z d h => by
    have h' : List.lookup z [(y, c)] = some d := h
    rw [List.lookup_cons] at h'
    by_cases e : z = y
    · rw [beq_iff_eq.mpr e] at h'
      exact ⟨e, (Option.some.inj h').symm⟩
    · rw [beq_eq_false_iff_ne.mpr e] at h'
      cases h'
  have hly : List.lookup y [(y, c)] = some c := by rw [List.lookup_cons, beq_self_eq_true]
  obtain ⟨oc, hoc, hdc⟩ := id hc
  have hc1 : h₁.IsCell c (some uy) := ⟨oc, hk _ _ hoc, hdc⟩
  refine ⟨⟨e0.mod, S.kind, rfl, rfl, Nat.le_refl _, fun a b d h1 h2 => (hcl a d h1).1.trans (hcl b d h2).1.symm, fun z hz => ?_, fun z d hf hz => ?_, fun _ => hd, Around.frames_deeper e0.frames, .inr ⟨rfl, rfl⟩, fun b z => absurd z (noA b), e0.bs, e0.bsz, fun b _ _ => noA b, fun b z => absurd z (noA b), e0.funs, e0.frf⟩,
    rfl, e0.bare, Un.kept hk, ⟨_, hns, fun i z r h1 h2 h3 => ?_⟩, fun z d h => ?_, e0.hok.fresh (Nat.le_refl _), fun z d h => ?_, fun p hp => absurd (show p ∈ ([] : List (Addr × Obj)) from hp) (by simp), e0.hok.kept hk, rfl⟩
  · have hz : scope.names.lookup z = some .cell ∨ scope.names.lookup z = some .free := hz
    rcases hz with hz | hz
    · exact absurd rfl (S.nocell _ (PySem.mem_of_lookup hz))
    · rw [S.one z hz]; exact ⟨c, hly⟩
  · have e := (hcl z d hz).1
    have hf' : (z == x) = true := hf
    exact absurd ((beq_iff_eq.mp hf').symm.trans e) S.ne
  · match i, h1, h2 with
    | 0, h1, h2 =>
      obtain rfl : x = z := Option.some.inj h1
      obtain rfl : v = r := Option.some.inj (Option.some.inj h2)
      exact ⟨u, ru, .inl ⟨S.lx, by show List.lookup x [(x, u)] = some u; rw [List.lookup_cons, beq_self_eq_true]⟩⟩
    | 1, h1, h2 =>
      obtain rfl : y = z := Option.some.inj h1
      obtain rfl : vy = r := Option.some.inj (Option.some.inj h2)
      exact ⟨uy, ruy, .inr ⟨.inr S.ly, c, hly, hc1⟩⟩
  · rw [(hcl z d h).2]; exact ⟨_, hc1⟩
  · rw [(hcl z d h).2]; exact hcH
theorem lam_run {P : Program} {w : World} {K : PySem.W.Frag} {mg : Str → Option Value} {base : Heap} {x y qual : Str} {params : Arguments} {body : Expr} {scope : Scope} {f c c' : Addr} {pm ctv : Value} {A : Around} {outer : List Env} {s : Shared} {H : Hp} {u uy : Value} {v vy : V} {t : TE} {Q : VK}
    (S : LamScope x y scope) (hd : A.handled = none) (hdep : A.depth < recursionLimit) (e0 : Env0 P w K mg base A outer s H) (ru : RelV v u) (ruy : RelV vy uy) (hc : s.heap.IsCell c (some uy)) (hcH : H c = none)
    (hf : s.heap.get? f = some (PySem.W.kla_obj "<lambda>" qual params body scope [(y, c)] pm c' ctv)) (hcd : s.heap.CodeRec (.ref c') qual)
    (hbind : bindArgs (PySem.W.kla_fn "<lambda>" qual params body scope [(y, c)] pm (.ref c') ctv) ⟨[u], []⟩ = pure [(x, u)])
    (hb : PE (cxLam P w K mg base x y qual scope f (.ref c') [(y, c)] A outer s H) body t) (hq : t [some v, some vy] H Q) :
    codeAny (model P w) A (.call (.ref f) ⟨[u], []⟩) (fun r s' => match r with | .ok (.ret z) => CE outer P w H s Q z s' | _ => False) s := by
  have lim : s.heap.NoLimit := e0.mod.nolimit.keeps fun b o e => (e0.bs b o e).1
  refine PySem.W.kla_callFunE hdep hf rfl S.co S.gen rfl hcd ?_
  rw [hbind]
  refine wpAny_pure (wpAny_newFunctionEnv S.nocell (fun z hz => ?_) (fun h₁ hns hsb => ⟨lim.fresh _ hsb, ?_⟩) S.kind)
  · rw [List.mem_singleton.mp hz]; exact S.lx
  show codeAny _ _ (.expr body (PySem.W.envX qual scope s.heap.objs.size f (.ref c') [(y, c)])) _ _
  have hk : ∀ b o, s.heap.get? b = some o → h₁.get? b = some o := fun b o e => hsb.extBut b o (Nat.ne_of_lt (Heap.lt_size e)) (Heap.get?_push_of_some _ e)
  have I := lam_start (qual := qual) (f := f) (cd := .ref c') (tk := s.toks + 1) S hd e0 ru ruy hc hcH hns hk
  refine PySem.W.kla_codeExpr (wpAny_mono (hb [] _ _ H Q I hq) (fun z s' h => ?_) fun e s' h => (show False from h).elim)
  obtain ⟨vv, H', J, rv, q⟩ := h
  exact ⟨vv, H', J.os, J.bare, J.base, J.hok, rv, q⟩
end L2
namespace L2
open PySem PyProof.Rows PySem.Spec PySem.Calls
def lexB (e lt : Nat → Bool) : List Nat → Bool
  | [] => false
  | j :: r => if e j then lexB e lt r else lt j
theorem tuple_ltIn {P : Program} {w : World} (l b : Addr) (xs ys : Array Value) (n m : Nat) (dd de : Option Addr) (sl sm : Array (Option Value)) (e lt : Nat → Bool) (hs : xs.size = ys.size) :
    MeetsIn P w (Builtin.«tuple.__lt__» ⟨[.ref l, .ref b], []⟩)
      (fun A R s => s.heap.get? l = some { cls := .type "tuple", dict := dd, data := .seq xs n, slots := sl } ∧ s.heap.get? b = some { cls := .type "tuple", dict := de, data := .seq ys m, slots := sm } ∧
        (∀ j (h1 : j < xs.size) (h2 : j < ys.size), SeqAt.EqAt A.in1 s xs[j] ys[j] (e j)) ∧
        (∀ j (h1 : j < xs.size) (h2 : j < ys.size) (E : Value → Shared → Prop) (Q : Value → Shared → Prop), Q (.bool (lt j)) s → wpAny (model P w) A.in1 (richCompare .Lt xs[j] ys[j]) Q E s) ∧
        R (.ok (.ret (.bool (lexB e lt (List.range xs.size))))) s) :=
  .of_wp fun A R s h => by
    obtain ⟨hp, g, d, tk, os⟩ := s; obtain ⟨hl, hb, he, hlt, h⟩ := h
    have f2 := AutoSeq1.sub_tuple_tuple
    have hZ : (xs.toList.zip ys.toList).length = xs.size := by simp [hs]
    wp_walk using wpAny_loadPart' hl, wpAny_loadPart' hb, wpAny_forIn_list _ (fun rest b s' => b.1 = none ∧ s' = ⟨hp, g, d, tk, os⟩ ∧ ∃ i, rest = (xs.toList.zip ys.toList).drop i ∧
      R (.ok (.ret (.bool (lexB e lt ((List.range xs.size).drop i))))) ⟨hp, g, d, tk, os⟩) _
    case turn =>
      rintro ⟨y, x⟩ rest b s' ⟨hb', rfl, i, hz, hR⟩
      have hlti : i < (xs.toList.zip ys.toList).length := by
        rcases Nat.lt_or_ge i (xs.toList.zip ys.toList).length with h' | h'
        · exact h'
        · rw [List.drop_of_length_le h'] at hz; cases hz
      have h1 : i < xs.size := hZ ▸ hlti
      have h2 : i < ys.size := hs ▸ h1
      rw [List.drop_eq_getElem_cons hlti] at hz
      injection hz with hyx hrest
      have hy : y = xs[i] := by have := congrArg Prod.fst hyx; simpa using this
      have hx : x = ys[i] := by have := congrArg Prod.snd hyx; simpa using this
      subst hy hx
      have hd : (List.range xs.size).drop i = i :: (List.range xs.size).drop (i + 1) := by simp [List.drop_eq_getElem_cons, h1]
      rw [hd] at hR
      refine wpAny_bind (he i h1 h2 P w _ _ ?_)
      cases hy : e i with
      | true =>
        have hR' : R (.ok (.ret (.bool (lexB e lt ((List.range xs.size).drop (i + 1)))))) ⟨hp, g, d, tk, os⟩ := by
          unfold lexB at hR
          rw [hy, if_pos rfl] at hR
          exact hR
        wp_walk
        exact ⟨rfl, rfl, i + 1, hrest, hR'⟩
      | false =>
        have hR' : R (.ok (.ret (.bool (lt i)))) ⟨hp, g, d, tk, os⟩ := by
          unfold lexB at hR
          rw [hy, if_neg (by decide)] at hR
          exact hR
        wp_walk using hlt i h1 h2
        exact ⟨_, rfl, hR'⟩
    case fin =>
      rintro ⟨b1, b2⟩ s' ⟨hb', rfl, i, hz, hR⟩
      simp only at hb'
      subst hb'
      have hge : xs.size ≤ i := by
        rcases Nat.lt_or_ge i (xs.toList.zip ys.toList).length with h' | h'
        · rw [List.drop_eq_getElem_cons h'] at hz; cases hz
        · exact hZ ▸ h'
      rw [List.drop_of_length_le (by simpa using hge)] at hR
      wp_walk
      exact ⟨_, rfl, by simpa [Builtin.Tuple.tupleCompareSizes, hs, lexB] using hR⟩
    case h =>
      exact ⟨rfl, rfl, 0, rfl, by simpa using h⟩
def ltV (x y : V) : Bool := match x, y with
  | .int i, .int j => decide (i < j)
  | .str i, .str j => decide (i.cps.toList < j.cps.toList)
  | _, _ => false
def OrdV (x y : V) : Prop := (∃ i j, x = .int i ∧ y = .int j) ∨ ∃ i j, x = .str i ∧ y = .str j
def lexV (xs ys : List V) : Bool := lexB (fun j => eqV (xs.getD j .non) (ys.getD j .non)) (fun j => ltV (xs.getD j .non) (ys.getD j .non)) (List.range xs.length)
theorem lt_flat {P : Program} {w : World} {A : Around} {s : Shared} {x y : V} {u v : Value} (o : OrdV x y) (rx : RelV x u) (ry : RelV y v) {E Q : Value → Shared → Prop} (q : Q (.bool (ltV x y)) s) : wpAny (model P w) A (richCompare .Lt u v) Q E s := by
  rcases o with ⟨i, j, rfl, rfl⟩ | ⟨i, j, rfl, rfl⟩
  · obtain ⟨t, rfl⟩ := rx
    obtain ⟨t', rfl⟩ := ry
    exact lt_int q
  · obtain ⟨t, rfl⟩ := rx
    obtain ⟨t', rfl⟩ := ry
    exact lt_str q
theorem lt_tupV {X : Cx} {pins : List (Addr × Obj)} {σ : St} {H : Hp} {s : Shared} (I : Inv X pins σ H s) {A : Around} (hu : A.units < cLine) {p q : Addr} {xs ys : List V} (hp : SqT X.K H p xs) (hq : SqT X.K H q ys) (hl : xs.length = ys.length) (fx : xs.all flatV = true) (fy : ys.all flatV = true)
    (ho : ∀ j, j < xs.length → OrdV (xs.getD j .non) (ys.getD j .non)) {E Q : Value → Shared → Prop} (k : Q (.bool (lexV xs ys)) s) : wpAny (model X.prog X.w) A (richCompare .Lt (.ref p) (.ref q)) Q E s := by
  obtain ⟨its, r1, l1, _⟩ := I.tuple hp
  obtain ⟨jts, r2, l2, _⟩ := I.tuple hq
  have e1 := r1.length
  have e2 := r2.length
  obtain ⟨⟨c1, dd, da, sl⟩, ho1, hc, n, hd⟩ := id l1
  obtain ⟨⟨c2, de, db, sm⟩, ho2, hc2, m, hd2⟩ := id l2
  obtain rfl := hc
  obtain rfl := hd
  obtain rfl := hc2
  obtain rfl := hd2
  refine wpAny_richCompare_same_room (op := .Lt) ⟨_, ho1, rfl⟩ ⟨_, ho2, rfl⟩ PySem.F.slot_tuple_lt (call_meetsIn PySem.F.slot_tuple_lt ⟨_, ho1, rfl⟩ PySem.F.entry_tuple_lt (PySem.F.args_tuple_lt_2 _ _) (tuple_ltIn p q its.toArray jts.toArray n m dd de sl sm (fun j => eqV (xs.getD j .non) (ys.getD j .non)) (fun j => ltV (xs.getD j .non) (ys.getD j .non)) (by simp; omega)) ⟨ho1, ho2, fun j q1 q2 => eqAt_V (vals_at r1 j q1) (vals_at r2 j q2) (flat_at fx j) (flat_at fy j), fun j q1 q2 E Q' hq' => lt_flat (ho j (by simp at q1; omega)) (vals_at r1 j q1) (vals_at r2 j q2) hq', ?_⟩) hu
  rw [show its.toArray.size = xs.length by simp; omega]
  exact ⟨(fun z => nomatch z), k⟩
end L2
namespace L2
open PySem PyProof.Rows PySem.Spec PySem.Calls
section
variable {X : Cx} {pins : List (Addr × Obj)} {σ : St}
theorem pin_swap {H : Hp} {s : Shared} {p q : Addr × Obj} (J : Inv X (pins ++ [p, q]) σ H s) : Inv X (pins ++ [q, p]) σ H s := J.pins_of fun r hr => J.pin r (List.mem_append_right _ (by
  rcases List.mem_append.mp hr with hr | hr
  · exact List.mem_append_left _ hr
  · refine List.mem_append_right _ ?_
    rcases List.mem_cons.mp hr with rfl | hr
    · exact .tail _ (.head _)
    · rw [List.mem_singleton.mp hr]; exact .head _))
theorem pin_less {H : Hp} {s : Shared} {l : List (Addr × Obj)} (J : Inv X (pins ++ l) σ H s) : Inv X pins σ H s := J.pins_of fun r hr => J.pin r (List.mem_append_right _ (List.mem_append_left _ hr))
theorem pin_turn {H : Hp} {s : Shared} {S I : Addr} {so io so' : Obj} {h' : Heap} {t' : Nat} (J : Inv X (pins ++ [(S, so), (I, io)]) σ H s) (k : ∀ b o, b ≠ S → s.heap.get? b = some o → h'.get? b = some o) (e : h'.get? S = some so') (nc : ∀ v, so'.data ≠ .cell v)
    (h1 : X.s₀.heap.objs.size ≤ S) (h2 : ∀ x c, X.env.cells.lookup x = some c → c ≠ S) (h3 : ∀ p ∈ X.pn ++ pins, p.1 ≠ S) (hIS : I ≠ S) : Inv X (pins ++ [(S, so'), (I, io)]) σ H { s with heap := h', toks := t' } := by
  have pS := J.pin (S, so) (List.mem_append_right _ (List.mem_append_right _ (.head _)))
  have pI := J.pin (I, io) (List.mem_append_right _ (List.mem_append_right _ (.tail _ (.head _))))
  have J2 := (pin_less J).turned (t' := t') k pS.2.1 pS.2.2.1 (.inr h1) h2 h3
  refine J2.pins_of fun r hr => ?_
  rcases List.mem_append.mp hr with hr | hr
  · exact J2.pin r (List.mem_append_right _ hr)
  · rcases List.mem_cons.mp hr with rfl | hr
    · exact ⟨e, pS.2.1, pS.2.2.1, pS.2.2.2.1, nc⟩
    · rw [List.mem_singleton.mp hr]
      exact ⟨k _ _ hIS pI.1, pI.2⟩
structure OwnA (X : Cx) (pins : List (Addr × Obj)) (S : Addr) : Prop where
  h1 : X.s₀.heap.objs.size ≤ S
  h2 : ∀ x c, X.env.cells.lookup x = some c → c ≠ S
  h3 : ∀ p ∈ X.pn ++ pins, p.1 ≠ S
theorem min_loop {l q S I : Addr} {xs : List V} {E : Value → Shared → Prop} {R : Result → Shared → Prop} {H0 : Hp} (key : Nat → List V) (hA : X.A.handled = none) (hu : X.A.units + 1 < cLine) (kl : ∀ i j, i < xs.length → j < xs.length → (key i).length = (key j).length ∧ (key i).all flatV = true ∧ ∀ n, n < (key i).length → OrdV ((key i).getD n .non) ((key j).getD n .non))
    (hl : ∀ pins H s, Inv X pins σ H s → Same H0 H → ∃ its : List Value, Vals xs its ∧ s.heap.IsList l its.toArray) (hlI : l ≠ I) (hSI : S ≠ I) (oS : OwnA X pins S) (oI : OwnA X pins I)
    (turn : ∀ (i : Nat) (x : V) (v : Value), xs[i]? = some x → RelV x v → ∀ (ex : List (Addr × Obj)) (H : Hp) (s : Shared), Inv X (pins ++ ex) σ H s → Same H0 H →
      wpAny (model X.prog X.w) X.A.in1 (call (.ref q) [v]) (fun z s' => ∃ p H', z = .ref p ∧ Same H H' ∧ H' p = some (.tup (key i)) ∧ Inv X (pins ++ ex) σ H' s') (fun _ _ => False) s)
    (hR : ∀ x v H s, xs[argBest (fun i j => lexV (key i) (key j)) (xs.length - 1)]? = some x → RelV x v → Same H0 H → Inv X pins σ H s → R (.ok (.ret v)) s) :
    ∀ (r j : Nat) (H : Hp) (s : Shared) (vb : Value) (kb : Addr) (c : Nat) (oI' : Obj) (xb : V), xs.length - (j + 1) = r → j + 1 ≤ xs.length → Same H0 H →
      Inv X (pins ++ [(S, seqObj "list" #[vb, .ref kb] c), (I, oI')]) σ H s → s.heap.IsListIter I l (j + 1) → xs[argBest (fun i j => lexV (key i) (key j)) j]? = some xb → RelV xb vb → H kb = some (.tup (key (argBest (fun i j => lexV (key i) (key j)) j))) →
      codeAny (model X.prog X.w) X.A (.builtin "min.loop" ⟨[.ref I, .ref q, .ref S], []⟩) R s := by
  have hname : (toString "min" ++ toString ".loop" : String) = "min.loop" := by decide
  intro r
  induction r with
  | zero =>
    intro j H s vb kb c oI' xb hr hj sm J hit hvb rvb hkb
    obtain ⟨its, rv, hli⟩ := hl _ _ _ J sm
    have hlen := rv.length
    have W := Walks.list (prog := X.prog) (w := X.w) (A := X.A.in1) hA I l hlI its.toArray
    have hsz : its.toArray.size = xs.length := by rw [List.size_toArray]; exact hlen.symm
    have pS := J.pin (S, seqObj "list" #[vb, .ref kb] c) (List.mem_append_right _ (List.mem_append_right _ (.head _)))
    refine codeAny_builtin PySem.F.entry_min_loop ?_
    rw [Around.under_plainId PySem.F.plain_min_loop _]
    show wpAny _ X.A.in1 (seqItems? (.ref S) >>= _) _ _ _
    refine wpAny_bind (wpAny_seqItems pS.1 rfl ?_)
    show wpAny _ X.A.in1 (tryCatch (pyNext (.ref I)) _ >>= _) _ _ _
    have hin : j + 1 = xs.length := by omega
    refine wpAny_bind (wpAny_tryCatch (W.done _ _ _ ⟨by rw [hsz, ← hin]; exact hit, hli⟩ fun h' tk' hk' => ?_))
    have JS : Inv X (pins ++ [(S, seqObj "list" #[vb, .ref kb] c)]) σ H s := J.pins_of fun p hp => J.pin p (List.mem_append_right _ (by
      rcases List.mem_append.mp hp with hp | hp
      · exact List.mem_append_left _ hp
      · rw [List.mem_singleton.mp hp]; exact List.mem_append_right _ (.head _)))
    have pI := J.pin (I, oI') (List.mem_append_right _ (List.mem_append_right _ (.tail _ (.head _))))
    have J1 := JS.turned (t' := tk') (h' := h') (it := I) (fun b o nb e => hk' b o (by simpa using nb) e) pI.2.1 pI.2.2.1 (.inr oI.h1) oI.h2 (fun p hp => by
      rcases List.mem_append.mp hp with hp | hp
      · exact oI.h3 p (List.mem_append_left _ hp)
      · rcases List.mem_append.mp hp with hp | hp
        · exact oI.h3 p (List.mem_append_right _ hp)
        · rw [List.mem_singleton.mp hp]; exact hSI)
    have pS1 := J1.pin (S, seqObj "list" #[vb, .ref kb] c) (List.mem_append_right _ (List.mem_append_right _ (.head _)))
    show wpAny _ X.A.in1 (updateSeq S (fun _ => #[]) >>= _) _ _ _
    refine wpAny_bind ?_
    refine wpAny_updateSeq pS1.1 rfl (wpAny_bind (wpAny_letGo (wpAny_pure ?_)))
    have s1 := Heap.SameBut.update h' S (Obj.mapSeq fun _ => (#[] : Array Value))
    have J2 := (pin_less J1).turned (t' := tk') (it := S) (h' := h'.update S (Obj.mapSeq fun _ => (#[] : Array Value))) (fun b o nb e => (s1.2 b nb).trans e) pS1.2.1 pS1.2.2.1 (.inr oS.h1) oS.h2 oS.h3
    exact hR xb vb H _ (by rw [show xs.length - 1 = j by omega]; exact hvb) rvb sm J2
  | succ r ih =>
    intro j H s vb kb c oI' xb hr hj sm J hit hvb rvb hkb
    obtain ⟨its, rv, hli⟩ := hl _ _ _ J sm
    have hlen := rv.length
    have W := Walks.list (prog := X.prog) (w := X.w) (A := X.A.in1) hA I l hlI its.toArray
    have hsz : its.toArray.size = xs.length := by rw [List.size_toArray]; exact hlen.symm
    have hlt : j + 1 < xs.length := by omega
    have pS := J.pin (S, seqObj "list" #[vb, .ref kb] c) (List.mem_append_right _ (List.mem_append_right _ (.head _)))
    refine codeAny_builtin PySem.F.entry_min_loop ?_
    rw [Around.under_plainId PySem.F.plain_min_loop _]
    show wpAny _ X.A.in1 (seqItems? (.ref S) >>= _) _ _ _
    refine wpAny_bind (wpAny_seqItems pS.1 rfl ?_)
    show wpAny _ X.A.in1 (tryCatch (pyNext (.ref I)) _ >>= _) _ _ _
    refine wpAny_bind (wpAny_tryCatch (W.item (j + 1) _ _ _ (by rw [hsz]; exact hlt) ⟨hit, hli⟩ fun v h' tk' hP hst' hk' => ?_))
    have hv0 : its[j + 1]? = some v := by simpa using hP
    obtain ⟨x, hv⟩ : ∃ x, xs[j + 1]? = some x := ⟨_, List.getElem?_eq_getElem hlt⟩
    have rx : RelV x v := by
      obtain ⟨u, hu', ru⟩ := rv.get hv
      rw [hv0] at hu'
      rw [Option.some.inj hu']
      exact ru
    obtain ⟨oI2, hoI2, hoc, hod⟩ := id hst'.1
    have J1 := pin_swap (pin_turn (t' := tk') (h' := h') (so' := oI2) (pin_swap J) (fun b o nb e => hk' b o (by simpa using nb) e) hoI2 (fun z => by rw [hod]; intro z; cases z) oI.h1 oI.h2 oI.h3 hSI)
    show wpAny _ X.A.in1 (tryCatch (holding [v] (call (.ref q) [v])) _ >>= _) _ _ _
    refine wpAny_bind (wpAny_tryCatch (wpAny_holding (wpAny_mono (turn (j + 1) x v hv rx _ _ _ J1 sm) (fun z s'' he => ?_) fun _ _ hF => hF.elim)))
    obtain ⟨p, H2, rfl, s2, hp2, J2⟩ := he
    have pS2 := J2.pin (S, seqObj "list" #[vb, .ref kb] c) (List.mem_append_right _ (List.mem_append_right _ (.head _)))
    have pI2 := J2.pin (I, oI2) (List.mem_append_right _ (List.mem_append_right _ (.tail _ (.head _))))
    have hit2 : s''.heap.IsListIter I l (j + 1 + 1) := ⟨oI2, pI2.1, hoc, hod⟩
    have hkb2 := s2 _ _ hkb
    have bl : argBest (fun i j => lexV (key i) (key j)) j < xs.length := (List.getElem?_eq_some_iff.mp hvb).1
    obtain ⟨k1, k2, k3⟩ := kl (j + 1) _ hlt bl
    obtain ⟨_, k4, _⟩ := kl _ (j + 1) bl hlt
    show wpAny _ X.A.in1 (tryCatch (holding [v, .ref p] (richCompare .Lt (.ref p) (.ref kb) >>= _)) _ >>= _) _ _ _
    refine wpAny_bind (wpAny_tryCatch (wpAny_holding (wpAny_bind (lt_tupV J2 (in1_units (n := 0) (by omega)) (SqT.of hp2) (SqT.of hkb2) k1 k2 k4 k3 ?_))))
    refine wpAny_bind (wpAny_holding (wpAny_truthy_bool ?_))
    refine wpAny_bind (wpAny_letGo (wpAny_pure ?_))
    cases hb : lexV (key (j + 1)) (key (argBest (fun i j => lexV (key i) (key j)) j)) with
    | true =>
      have eb : argBest (fun i j => lexV (key i) (key j)) (j + 1) = j + 1 := by
        show (if lexV (key (j + 1)) (key (argBest (fun i j => lexV (key i) (key j)) j)) then j + 1 else argBest (fun i j => lexV (key i) (key j)) j) = j + 1
        rw [hb, if_pos rfl]
      have s1 := Heap.SameBut.update s''.heap S (Obj.mapSeq fun _ => #[v, .ref p])
      obtain ⟨c2, hc2⟩ : ∃ c2, (s''.heap.update S (Obj.mapSeq fun _ => #[v, .ref p])).get? S = some (seqObj "list" #[v, .ref p] c2) := ⟨_, get?_update_seq pS2.1 fun _ => #[v, .ref p]⟩
      simp only [if_true]
      refine wpAny_bind ?_
      refine wpAny_updateSeq pS2.1 rfl (wpAny_bind (wpAny_letGo ?_))
      rw [hname]
      have J3 := pin_turn (t' := s''.toks) (so' := seqObj "list" #[v, .ref p] c2) J2 (fun b o nb e => (s1.2 b nb).trans e) hc2 (fun z => by intro z; cases z) oS.h1 oS.h2 oS.h3 (Ne.symm hSI)
      refine wpAny_pure ⟨plainId_quiet PySem.F.plain_min_loop _, ih (j + 1) H2 _ v p c2 oI2 x (by omega) hlt (sm.trans s2) J3 ⟨oI2, (s1.2 I (Ne.symm hSI)).trans pI2.1, hoc, hod⟩ (by rw [eb]; exact hv) rx (by rw [eb]; exact hp2)⟩
    | false =>
      have eb : argBest (fun i j => lexV (key i) (key j)) (j + 1) = argBest (fun i j => lexV (key i) (key j)) j := by
        show (if lexV (key (j + 1)) (key (argBest (fun i j => lexV (key i) (key j)) j)) then j + 1 else argBest (fun i j => lexV (key i) (key j)) j) = _
        rw [hb, if_neg (by decide)]
      simp only [Bool.false_eq_true, if_false]
      refine wpAny_bind (wpAny_letGo ?_)
      rw [hname]
      exact wpAny_pure ⟨plainId_quiet PySem.F.plain_min_loop _, ih (j + 1) H2 _ vb kb c oI2 xb (by omega) hlt (sm.trans s2) J2 hit2 (by rw [eb]; exact hvb) rvb (by rw [eb]; exact hkb2)⟩
theorem min_key {l q : Addr} {xs : List V} {E : Value → Shared → Prop} {Q : Value → Shared → Prop} {H0 : Hp} {s : Shared} (key : Nat → List V) (hA : X.A.handled = none) (hu : X.A.units + 1 < cLine) (kl : ∀ i j, i < xs.length → j < xs.length → (key i).length = (key j).length ∧ (key i).all flatV = true ∧ ∀ n, n < (key i).length → OrdV ((key i).getD n .non) ((key j).getD n .non))
    (I0 : Inv X pins σ H0 s) (hl : ∀ pins H s, Inv X pins σ H s → Same H0 H → ∃ its : List Value, Vals xs its ∧ s.heap.IsList l its.toArray) (hne : 0 < xs.length)
    (turn : ∀ (i : Nat) (x : V) (v : Value), xs[i]? = some x → RelV x v → ∀ (ex : List (Addr × Obj)) (H : Hp) (s : Shared), Inv X (pins ++ ex) σ H s → Same H0 H →
      wpAny (model X.prog X.w) X.A.in1 (call (.ref q) [v]) (fun z s' => ∃ p H', z = .ref p ∧ Same H H' ∧ H' p = some (.tup (key i)) ∧ Inv X (pins ++ ex) σ H' s') (fun _ _ => False) s)
    (hQ : ∀ x v H s, xs[argBest (fun i j => lexV (key i) (key j)) (xs.length - 1)]? = some x → RelV x v → Same H0 H → Inv X pins σ H s → Q v s) :
    wpAny (model X.prog X.w) X.A (call (.builtin "min") [.ref l] [(Str.ofString "key", .ref q)]) Q E s := by
  have hname : (toString "min" ++ toString ".loop" : String) = "min.loop" := by decide
  obtain ⟨its, rv, hls⟩ := hl _ _ _ I0 (Same.refl _)
  have hlen := rv.length
  obtain ⟨ol, hol, _⟩ := id hls
  have hll : l < s.heap.objs.size := Heap.lt_size hol
  refine kmk_tree PySem.F.kind_min PySem.F.plain_min PySem.F.entry_min (kmk_min_key _ _) ?_
  show wpAny _ X.A.in1 (Builtin.Builtins.bindParams "min" ["key", "default"] 0 ⟨[], [(Str.ofString "key", .ref q)]⟩ >>= _) _ _ s
  refine wpAny_bind (wpAny_of_eq (show Builtin.Builtins.bindParams "min" ["key", "default"] 0 ⟨[], [(Str.ofString "key", .ref q)]⟩ = pure [some (.ref q), none] from rfl) ?_)
  refine wpAny_bind (wpAny_pure ?_)
  refine wpAny_bind (wpAny_pyIter_list hls ?_)
  refine wpAny_bind (wpAny_newList ?_ (Nat.zero_le _))
  rw [hname]
  have hS : (s.heap.push { cls := .type "list_iterator", data := .fields #[.ref l, .int 0 0] }).objs.size = s.heap.objs.size + 1 := size_push' ..
  have hlI : l ≠ s.heap.objs.size := Nat.ne_of_lt hll
  have hSI : (s.heap.push { cls := .type "list_iterator", data := .fields #[.ref l, .int 0 0] }).objs.size ≠ s.heap.objs.size := by rw [hS]; exact Nat.ne_of_gt (Nat.lt_succ_self _)
  refine wpAny_pure ⟨plainId_quiet PySem.F.plain_min_loop _, ?_⟩
  have kp : ∀ b o, s.heap.get? b = some o → ((s.heap.push { cls := .type "list_iterator", data := .fields #[.ref l, .int 0 0] }).push (seqObj "list" #[] 0)).get? b = some o := fun b o e => Heap.get?_push_of_some _ (Heap.get?_push_of_some _ e)
  have gI : ((s.heap.push { cls := .type "list_iterator", data := .fields #[.ref l, .int 0 0] }).push (seqObj "list" #[] 0)).get? s.heap.objs.size = some { cls := .type "list_iterator", data := .fields #[.ref l, .int 0 0] } :=
    Heap.get?_push_of_some _ (Heap.get?_push_size _ rfl)
  have gS : ((s.heap.push { cls := .type "list_iterator", data := .fields #[.ref l, .int 0 0] }).push (seqObj "list" #[] 0)).get? (s.heap.push { cls := .type "list_iterator", data := .fields #[.ref l, .int 0 0] }).objs.size = some (seqObj "list" #[] 0) := Heap.get?_push_size _ rfl
  have J0 := I0.kept (t' := s.toks) kp
  have fI := I0.fpOk (b := s.heap.objs.size) (Nat.le_refl _) (I0.hok.fresh (Nat.le_refl _))
  have fS := I0.fpOk (b := (s.heap.push { cls := .type "list_iterator", data := .fields #[.ref l, .int 0 0] }).objs.size) (by rw [hS]; omega) (I0.hok.fresh (by rw [hS]; omega))
  have oI : OwnA X pins s.heap.objs.size := ⟨I0.sz, fI.2.2.2.2.1, fI.2.2.2.2.2⟩
  have oS : OwnA X pins (s.heap.push { cls := .type "list_iterator", data := .fields #[.ref l, .int 0 0] }).objs.size := ⟨Nat.le_trans I0.sz (by rw [hS]; omega), fS.2.2.2.2.1, fS.2.2.2.2.2⟩
  generalize (s.heap.push { cls := .type "list_iterator", data := .fields #[.ref l, .int 0 0] }).objs.size = S at *
  generalize hI : s.heap.objs.size = I at *
  have J1 : Inv X (pins ++ [(S, seqObj "list" #[] 0), (I, { cls := .type "list_iterator", data := .fields #[.ref l, .int 0 0] })]) σ H0 _ := J0.pins_of fun p hp => by
    rcases List.mem_append.mp hp with hp | hp
    · exact J0.pin p (List.mem_append_right _ hp)
    · rcases List.mem_cons.mp hp with rfl | hp
      · exact ⟨gS, fS.1, fS.2.1, fS.2.2.1, fun v z => by cases z⟩
      · rw [List.mem_singleton.mp hp]
        exact ⟨gI, fI.1, fI.2.1, fI.2.2.1, fun v z => by cases z⟩
  have W := Walks.list (prog := X.prog) (w := X.w) (A := X.A.in1) hA I l hlI its.toArray
  have hsz : its.toArray.size = xs.length := by rw [List.size_toArray]; exact hlen.symm
  obtain ⟨ol', hol', hls'⟩ := id hls
  have hls0 : Heap.IsList _ l its.toArray := ⟨ol', kp _ _ hol', hls'⟩
  refine codeAny_builtin PySem.F.entry_min_loop ?_
  rw [Around.under_plainId PySem.F.plain_min_loop _]
  show wpAny _ X.A.in1 (seqItems? (.ref _) >>= _) _ _ _
  refine wpAny_bind (wpAny_seqItems gS rfl ?_)
  show wpAny _ X.A.in1 (tryCatch (pyNext (.ref I)) _ >>= _) _ _ _
  refine wpAny_bind (wpAny_tryCatch (W.item 0 _ _ _ (by rw [hsz]; exact hne) ⟨⟨_, gI, rfl, rfl⟩, hls0⟩ fun v h' tk' hP hst' hk' => ?_))
  have hv0 : its[0]? = some v := by simpa using hP
  obtain ⟨x, hv⟩ : ∃ x, xs[0]? = some x := ⟨_, List.getElem?_eq_getElem hne⟩
  have rx : RelV x v := by
    obtain ⟨u, hu', ru⟩ := rv.get hv
    rw [hv0] at hu'
    rw [Option.some.inj hu']
    exact ru
  obtain ⟨oI2, hoI2, hoc, hod⟩ := id hst'.1
  have J2 := pin_swap (pin_turn (t' := tk') (h' := h') (so' := oI2) (pin_swap J1) (fun b o nb e => hk' b o (by simpa using nb) e) hoI2 (fun z => by rw [hod]; intro z; cases z) oI.h1 oI.h2 oI.h3 hSI)
  show wpAny _ X.A.in1 (tryCatch (holding [v] (call (.ref q) [v])) _ >>= _) _ _ _
  refine wpAny_bind (wpAny_tryCatch (wpAny_holding (wpAny_mono (turn 0 x v hv rx _ _ _ J2 (Same.refl _)) (fun z s'' he => ?_) fun _ _ hF => hF.elim)))
  obtain ⟨p, H2, rfl, s2, hp2, J3⟩ := he
  have pS3 := J3.pin (S, seqObj "list" #[] 0) (List.mem_append_right _ (List.mem_append_right _ (.head _)))
  have pI3 := J3.pin (I, oI2) (List.mem_append_right _ (List.mem_append_right _ (.tail _ (.head _))))
  have s1 := Heap.SameBut.update s''.heap S (Obj.mapSeq fun _ => #[v, .ref p])
  obtain ⟨c2, hc2⟩ : ∃ c2, (s''.heap.update S (Obj.mapSeq fun _ => #[v, .ref p])).get? S = some (seqObj "list" #[v, .ref p] c2) := ⟨_, get?_update_seq pS3.1 fun _ => #[v, .ref p]⟩
  show wpAny _ X.A.in1 (updateSeq S (fun _ => #[v, .ref p]) >>= _) _ _ _
  refine wpAny_bind ?_
  refine wpAny_updateSeq pS3.1 rfl ?_
  rw [hname]
  have J4 := pin_turn (t' := s''.toks) (so' := seqObj "list" #[v, .ref p] c2) J3 (fun b o nb e => (s1.2 b nb).trans e) hc2 (fun z => by intro z; cases z) oS.h1 oS.h2 oS.h3 (Ne.symm hSI)
  exact wpAny_pure ⟨plainId_quiet PySem.F.plain_min_loop _, min_loop (E := E) key hA hu kl hl hlI hSI oS oI turn hQ _ 0 H2 _ v p c2 oI2 x rfl hne s2 J4 ⟨oI2, (s1.2 I (Ne.symm hSI)).trans pI3.1, hoc, hod⟩ hv rx hp2⟩
end
end L2
namespace L2
open PySem PyProof.Rows PySem.Spec PySem.Calls
def CD (c : Addr) (qual : Str) : HO := .ext fun h => h.CodeRec (.ref c) qual
def FN (f : Addr) (o : Obj) : HO := .ext fun h => h.get? f = some o
theorem cd_ok {P : Program} {w : World} {H : Hp} {h : Heap} {c : Addr} {qual : Str} (e : h.CodeRec (.ref c) qual) : ObjOk P w H h c (CD c qual) := by
  refine ⟨e, ?_, fun h1 h2 e1 k => ?_⟩
  · obtain ⟨c', oc, vs, tq, hc, hoc, _⟩ := e
    cases hc
    exact ⟨oc, hoc⟩
  · obtain ⟨c', oc, vs, tq, hc, hoc, hd, hq⟩ := e1
    cases hc
    exact ⟨c, oc, vs, tq, rfl, k _ hoc, hd, hq⟩
theorem fn_ok {P : Program} {w : World} {H : Hp} {h : Heap} {f : Addr} {o : Obj} (e : h.get? f = some o) : ObjOk P w H h f (FN f o) := ⟨e, ⟨o, e⟩, fun _ _ e1 k => k _ e1⟩
def tab1 (pos : Pos) (c : Addr) : Array Value := #[rawInt pos.line, rawInt pos.col, .ref c]
def TabAt (H : Hp) (P : Addr) (pos : Pos) (qual : Str) (c : Addr) : Prop := H P = some (.tbl (tab1 pos c)) ∧ H c = some (CD c qual)
def TabOk (H : Hp) (P : Addr) (pos : Pos) (qual : Str) : Prop := H P = some (.tbl #[]) ∨ ∃ c, TabAt H P pos qual c
def SameP (P : Addr) (H H' : Hp) : Prop := ∀ b o, b ≠ P → H b = some o → H' b = some o
theorem SameP.refl (P : Addr) (H : Hp) : SameP P H H := fun _ _ _ e => e
theorem SameP.trans {P : Addr} {H H1 H2 : Hp} (a : SameP P H H1) (b : SameP P H1 H2) : SameP P H H2 := fun x o n e => b x o n (a x o n e)
theorem Same.p {P : Addr} {H H' : Hp} (a : Same H H') : SameP P H H' := fun b o _ e => a b o e
theorem TabAt.same {H H' : Hp} {P : Addr} {pos : Pos} {qual : Str} {c : Addr} (t : TabAt H P pos qual c) (s : Same H H') : TabAt H' P pos qual c := ⟨s _ _ t.1, s _ _ t.2⟩
theorem TabOk.same {H H' : Hp} {P : Addr} {pos : Pos} {qual : Str} (t : TabOk H P pos qual) (s : Same H H') : TabOk H' P pos qual := t.imp (s _ _) fun ⟨c, z⟩ => ⟨c, z.same s⟩
def BMain (base : Heap) (mg : Str → Option Value) : Prop := ∃ bm ob, mg "__builtins__" = some (.ref bm) ∧ bm ≠ builtinsNs ∧ base.get? bm = some ob ∧ ob.cls = .type "module" ∧ ob.dict = some builtinsNs ∧ ob.data = .plain
section
variable {X : Cx} {pins : List (Addr × Obj)} {σ : St} {H : Hp} {s : Shared}
theorem Inv.bat {P : Addr} {ps : Array Value} (I : Inv X pins σ H s) (B : BMain X.base X.mg) (hP : s.heap.get? P = some (PySem.W.tabObj ps)) : s.heap.BuiltinsAt X.mg P := by
  obtain ⟨bm, ob, h1, h2, h3, h4, h5, h6⟩ := B
  have e := I.bk _ _ h3
  refine ⟨bm, ob, h1, h2, fun z => ?_, fun z => ?_, e, h4, h5, h6⟩
  · obtain ⟨o, es, ep, ho, hd, _⟩ := I.mod.glob.keeps I.bk
    rw [z, ho] at e; cases e; rw [hd] at h6; cases h6
  · rw [z, hP] at e; cases e; cases h4
theorem Inv.gP {P : Addr} {ps : Array Value} (I : Inv X pins σ H s) (hP : s.heap.get? P = some (PySem.W.tabObj ps)) : mainGlobals ≠ P := fun z => by
  obtain ⟨o, es, ep, ho, hd, _⟩ := I.mod.glob.keeps I.bk
  rw [z, hP] at ho; cases ho; cases hd
theorem Inv.grown {P c : Addr} {ps ps' : Array Value} {qual : Str} {h' : Heap} {tk : Nat} (I : Inv X pins σ H s) (hH : H P = some (.tbl ps)) (hx : Heap.ExtBut P s.heap h') (hc : s.heap.objs.size ≤ c) (hrec : h'.CodeRec (.ref c) qual) (hP : h'.get? P = some (PySem.W.tabObj (ps ++ ps'))) :
    Inv X pins σ (upd (upd H P (.tbl (ps ++ ps'))) c (CD c qual)) { s with heap := h', toks := tk } := by
  have nc : H c = none := I.hok.fresh hc
  have cP : c ≠ P := fun z => by rw [z, hH] at nc; cases nc
  have ne : ∀ b, H b = none → b ≠ P := fun b n z => by rw [z, hH] at n; cases n
  have HH : ∀ b, b ≠ P → b ≠ c → upd (upd H P (.tbl (ps ++ ps'))) c (CD c qual) b = H b := fun b n1 n2 => by rw [upd_ne n2, upd_ne n1]
  have some_ne : ∀ b u, H b = some u → b ≠ c := fun b u e z => by rw [z, nc] at e; cases e
  refine I.un (t' := tk) ⟨fun b o e n _ _ => hx b o (ne b n) e, fun b o e n _ _ => ⟨o.slots, hx b o (ne b n) e⟩, fun b o e n _ => by rw [HH b (ne b n) (fun z => Nat.not_lt.mpr hc (by rw [← z]; exact Heap.lt_size e))]; exact n, fun b o e _ => ?_, fun b xs e => ?_, fun b o u e => ?_, fun b qs e => ?_⟩ (fun b u e => ?_)
  · by_cases z : b = P
    · exact ⟨_, z ▸ hP⟩
    · exact ⟨o, hx b o z e⟩
  · rw [HH b (ne_of e hH (by intro z; cases z)) (some_ne b _ e)]; exact e
  · rw [HH b (ne_of e hH (by intro z; cases z)) (some_ne b _ e)]; exact e
  · by_cases z : b = P
    · subst z
      rw [hH] at e
      injection e with e
      injection e with e
      subst e
      exact ⟨ps', by rw [upd_ne (Ne.symm cP), upd_same]⟩
    · exact ⟨#[], by rw [HH b z (some_ne b _ e), e]; simp⟩
  · by_cases z : b = c
    · subst z
      rw [upd_same] at e
      obtain rfl := Option.some.inj e
      exact cd_ok hrec
    · rw [upd_ne z] at e
      by_cases z2 : b = P
      · subst z2
        rw [upd_same] at e
        obtain rfl := Option.some.inj e
        exact hP
      · rw [upd_ne z2] at e
        refine (I.hok b u e).stay (fun d v hd q => hx d v ?_ q) (fun d q => ?_) (fun d xs q => ?_)
        · rcases hd with rfl | hd
          · exact z2
          · exact ne_of hd hH (by intro z; cases z)
        · rw [HH d (ne_of q hH (by intro z; cases z)) (some_ne d _ q)]; exact q
        · rw [HH d (ne_of q hH (by intro z; cases z)) (some_ne d _ q)]; exact q
def LamO (qual : Str) (params : Arguments) (body : Expr) (scope : Scope) (clos : List (Str × Addr)) (c : Addr) (o : Obj) : Prop := ∃ pm ctv, o = PySem.W.kla_obj "<lambda>" qual params body scope clos pm c ctv
theorem pe_lam {params : Arguments} {body : Expr} {scope : Scope} {pos : Pos} {c₀ P : Addr} {clos : List (Str × Addr)} {Q : VK} (I : Inv X pins σ H s) (B : BMain X.base X.mg) (hcode : X.env.code = .ref c₀) (C : PySem.W.codeHdIn X.K c₀ P = true) (hcl : closureFor scope X.env = pure clos) (hdef : defaultsOf params X.env = ([], []))
    (ht : TabOk H P pos (X.env.qual ++ "<lambda>")) (q : ∀ f o c H', SameP P H H' → H f = none → TabAt H' P pos (X.env.qual ++ "<lambda>") c → H' f = some (FN f o) → LamO (X.env.qual ++ "<lambda>") params body scope clos c o → Q (.ref f) H') :
    wpAny (model X.prog X.w) X.A (eval (.Lambda params body scope pos) X.env) (EP X pins σ Q) X.xe s := by
  have CH := PySem.W.codeHd_of_K I.kIn C
  have G := I.mod.glob.keeps I.bk
  refine PySem.W.kla_eval hdef ?_
  rcases ht with ht | ⟨c, ht, hc⟩
  · have hP : s.heap.get? P = some (PySem.W.tabObj #[]) := I.hok P _ ht
    refine PySem.W.kla_makeFunction (mg := X.mg) hcl I.ok.glob G hcode CH hP trivial rfl (I.gP hP) (I.bat B hP) fun c' ctv h' tk hx hge hlt hrec htb => ?_
    have J := I.grown (tk := tk) ht hx hge hrec (ps' := #[rawInt pos.line, rawInt pos.col, .ref c']) htb
    have nf : upd (upd H P (.tbl (#[] ++ #[rawInt pos.line, rawInt pos.col, .ref c']))) c' (CD c' (X.env.qual ++ "<lambda>")) h'.objs.size = none := J.hok.fresh (Nat.le_refl _)
    have nf0 : H h'.objs.size = none := I.hok.fresh (Nat.le_trans hge (Nat.le_of_lt hlt))
    have nc : H c' = none := I.hok.fresh hge
    have cP : c' ≠ P := fun z => by rw [z, ht] at nc; cases nc
    have fc : h'.objs.size ≠ c' := Nat.ne_of_gt hlt
    have fP : h'.objs.size ≠ P := fun z => by rw [z, ht] at nf0; cases nf0
    refine ⟨.ref h'.objs.size, _, J.laid (t' := tk) (a := h'.objs.size) (o := FN h'.objs.size (PySem.W.kla_obj "<lambda>" (X.env.qual ++ "<lambda>") params body scope clos ((X.mg "__name__").getD .none) c' ctv)) (fun b o e => Heap.get?_push_of_some _ e) (Nat.le_refl _) (fn_ok (Heap.get?_push_size _ rfl)), rfl, ?_⟩
    refine q _ _ c' _ (fun b o nb e => ?_) nf0 ⟨?_, ?_⟩ upd_same ⟨_, _, rfl⟩
    · have n1 : b ≠ h'.objs.size := fun z => by rw [z, nf0] at e; cases e
      have n2 : b ≠ c' := fun z => by rw [z, nc] at e; cases e
      rw [upd_ne n1, upd_ne n2, upd_ne nb]; exact e
    · rw [upd_ne (Ne.symm fP), upd_ne (Ne.symm cP), upd_same]; rfl
    · rw [upd_ne (Ne.symm fc), upd_same]
  · have hP : s.heap.get? P = some (PySem.W.tabObj (tab1 pos c)) := I.hok P _ ht
    have hrec : s.heap.CodeRec (.ref c) (X.env.qual ++ "<lambda>") := (I.hok c _ hc).1
    refine PySem.W.kla_makeFunctionHit (mg := X.mg) (cv := .ref c) hcl I.ok.glob G hcode CH hP trivial (by show (if _ then _ else _) = _; simp [rawInt]) (I.bat B hP) fun ctv h' tk hk hsz => ?_
    have J := I.kept (t' := tk) hk
    have nf : H h'.objs.size = none := I.hok.fresh hsz
    refine ⟨.ref h'.objs.size, _, J.laid (t' := tk) (a := h'.objs.size) (o := FN h'.objs.size (PySem.W.kla_obj "<lambda>" (X.env.qual ++ "<lambda>") params body scope clos ((X.mg "__name__").getD .none) c ctv)) (fun b o e => Heap.get?_push_of_some _ e) (Nat.le_refl _) (fn_ok (Heap.get?_push_size _ rfl)), rfl, ?_⟩
    have ss := same_new nf (FN h'.objs.size (PySem.W.kla_obj "<lambda>" (X.env.qual ++ "<lambda>") params body scope clos ((X.mg "__name__").getD .none) c ctv))
    exact q _ _ c _ ss.p nf ⟨ss _ _ ht, ss _ _ hc⟩ upd_same ⟨_, _, rfl⟩
end
end L2
namespace L2
open PySem PyProof.Rows PySem.Spec PySem.Calls
theorem cw_bltkw {M : Model} {A : Around} {E : Value → Shared → Prop} {s : Shared} {pos : Pos} {T : String} {args : List (Bool × Sem Value)} {kws : List (Option Str × Sem Value)} {Q : Value → Shared → Prop} (hp : (args.any (·.1) || kws.any (·.1.isNone)) = false)
    (h : wpAny M A (evalArgs (.builtin T) true args kws) (fun a s1 => wpAny M A (call (.builtin T) a.pos a.kw) Q E s1) E s) : wpAny M A (callWith pos (.builtin T) [] args kws) Q E s := by
  unfold callWith
  refine wpAny_bind (wpAny_holding (wpAny_mono h (fun a s1 h1 => wpAny_bind (wpAny_standAt ?_)) fun _ _ x => x))
  simp only [hp]
  refine wpAny_bind (wpAny_pure ?_)
  exact wpAny_bind (wpAny_mono h1 (fun r s2 hr => wpAny_bind (wpAny_holding (wpAny_point (wpAny_pure hr)))) fun _ _ x => x)
theorem SqL.sameP {K : PySem.W.Frag} {H H' : Hp} {P l : Addr} {xs : List V} {ps : Array Value} (h : SqL K H l xs) (hP : H P = some (.tbl ps)) (s : SameP P H H') : SqL K H' l xs := by
  rcases h with (h | ⟨o, h⟩) | h
  · exact .inl (.inl (s _ _ (ne_of h hP (by intro z; cases z)) h))
  · exact .inl (.inr ⟨o, s _ _ (ne_of h hP (by intro z; cases z)) h⟩)
  · exact .inr h
theorem SqL.same' {K : PySem.W.Frag} {H H' : Hp} {l : Addr} {xs : List V} (h : SqL K H l xs) (s : Same H H') : SqL K H' l xs := by
  rcases h with (h | ⟨o, h⟩) | h
  · exact .inl (.inl (s _ _ h))
  · exact .inl (.inr ⟨o, s _ _ h⟩)
  · exact .inr h
theorem TabOk.is {H : Hp} {P : Addr} {pos : Pos} {qual : Str} (t : TabOk H P pos qual) : ∃ ps, H P = some (.tbl ps) := by
  rcases t with t | ⟨c, t, _⟩
  · exact ⟨_, t⟩
  · exact ⟨_, t⟩
section
variable {X : Cx}
def tLam (P : Addr) (pos : Pos) (qual : Str) (params : Arguments) (body : Expr) (scope : Scope) (clos : List (Str × Addr)) : TE := fun _ H Q => TabOk H P pos qual ∧ ∀ f o c H', SameP P H H' → H f = none → TabAt H' P pos qual c → H' f = some (FN f o) → LamO qual params body scope clos c o → Q (.ref f) H'
theorem pe_lamE {params : Arguments} {body : Expr} {scope : Scope} {pos : Pos} {c₀ P : Addr} {clos : List (Str × Addr)} (B : BMain X.base X.mg) (hcode : X.env.code = .ref c₀) (C : PySem.W.codeHdIn X.K c₀ P = true) (hcl : closureFor scope X.env = pure clos) (hdef : defaultsOf params X.env = ([], []) := by rfl) :
    PE X (.Lambda params body scope pos) (tLam P pos (X.env.qual ++ "<lambda>") params body scope clos) := fun pins s σ H Q I h => pe_lam I B hcode C hcl hdef h.1 h.2
def tMinLam (K : PySem.W.Frag) (ta : TA) (P : Addr) (pos : Pos) (qual : Str) (tb : TE) (iy : Nat) : TE := fun σ H Q => ta σ H fun vs H1 => ∃ (l : Addr) (xs : List V) (vy : V) (key : Nat → List V), vs = [.ref l] ∧ SqL K H1 l xs ∧ 0 < xs.length ∧ σ[iy]? = some (some vy) ∧ TabOk H1 P pos qual ∧
  (∀ i j, i < xs.length → j < xs.length → (key i).length = (key j).length ∧ (key i).all flatV = true ∧ ∀ n, n < (key i).length → OrdV ((key i).getD n .non) ((key j).getD n .non)) ∧
  (∀ H2, SameP P H1 H2 → ∀ (i : Nat) x, xs[i]? = some x → tb [some x, some vy] H2 fun v H4 => ∃ p, v = .ref p ∧ Same H2 H4 ∧ H4 p = some (.tup (key i))) ∧
  ∀ H' v, SameP P H1 H' → TabOk H' P pos qual → xs[argBest (fun i j => lexV (key i) (key j)) (xs.length - 1)]? = some v → Q v H'
theorem pe_minlam {a : Expr} {ta : TA} {params : Arguments} {body : Expr} {scope : Scope} {p pos lpos kpos : Pos} {c₀ P c : Addr} {x y : Str} {iy : Nat} {tb : TE} (hr : Room 1 X.A) (hg : Gl X "min") (hm : X.mg "min" = none) (ha : PA X [a] ta) (S : LamScope x y scope) (hN : X.N[iy]? = some y) (hk : X.env.kindOf y = some .cell)
    (B : BMain X.base X.mg) (hcode : X.env.code = .ref c₀) (C : PySem.W.codeHdIn X.K c₀ P = true) (hcl : closureFor scope X.env = pure [(y, c)]) (hcy : X.env.cells.lookup y = some c)
    (hbind : ∀ pm c' ctv u, bindArgs (PySem.W.kla_fn "<lambda>" (X.env.qual ++ "<lambda>") params body scope [(y, c)] pm (.ref c') ctv) ⟨[u], []⟩ = pure [(x, u)])
    (hb : ∀ (f : Addr) (cd : Value) (A : Around) (outer : List Env) (s : Shared) (H : Hp), PE (cxLam X.prog X.w X.K X.mg X.base x y (X.env.qual ++ "<lambda>") scope f cd [(y, c)] A outer s H) body tb)
    (hs : starEach [a] X.env = [(false, eval a X.env)] := by rfl) (hdef : defaultsOf params X.env = ([], []) := by rfl)
    (hall : (backToKw pos (keywordEach [⟨some "key", .Lambda params body scope lpos, kpos⟩] X.env)).all (·.1.isSome) = true := by rfl) (hks : (backToKw pos (keywordEach [⟨some "key", .Lambda params body scope lpos, kpos⟩] X.env)).filterMap (·.1) = [("key" : Str)] := by rfl)
    (hpl : ((backTo pos (starEach [a] X.env)).any (·.1) || (backToKw pos (keywordEach [⟨some "key", .Lambda params body scope lpos, kpos⟩] X.env)).any (·.1.isNone)) = false := by rfl) :
    PE X (.Call (.Name "min" p) [a] [⟨some "key", .Lambda params body scope lpos, kpos⟩] pos) (tMinLam X.K ta P lpos (X.env.qual ++ "<lambda>") tb iy) := by
  intro pins s σ H Q I h
  refine wpAny_Call_Name_kw (ld_blt I hg hm bt_min ?_)
  refine cw_bltkw hpl (evalArgs_kw2 hall (thn (ha pos pins s σ H _ I h) fun us s1 ⟨vs, H1, I1, r1, q1⟩ => ?_) hs)
  obtain ⟨l, xs, vy, key, rfl, hl, hne, hy, ht, kl, hbody, hq⟩ := q1
  obtain ⟨u, rfl, ru⟩ := vals1 r1
  cases ru
  have K1 : PK X [⟨some "key", .Lambda params body scope lpos, kpos⟩] _ := pk_cons (pe_lamE B hcode C hcl hdef) pk_nil
  obtain ⟨ps, hP⟩ := ht.is
  refine thn (K1 pos pins s1 σ H1 (fun zs H2 => ∃ f o c', zs = [V.ref f] ∧ SameP P H1 H2 ∧ TabAt H2 P lpos (X.env.qual ++ "<lambda>") c' ∧ H2 f = some (FN f o) ∧ LamO (X.env.qual ++ "<lambda>") params body scope [(y, c)] c' o) I1 ⟨ht, fun f o c' H' sP nf tA hf hO => ⟨f, o, c', rfl, sP, tA, hf, hO⟩⟩) fun ws s2 ⟨zs, H2, I2, r2, q2⟩ => ?_
  obtain ⟨f, o, c', rfl, sP, tA, hf, hO⟩ := q2
  obtain ⟨u2, rfl, ru2⟩ := vals1 r2
  cases ru2
  rw [hks]
  obtain ⟨pm, ctv, rfl⟩ := hO
  refine min_key (H0 := H2) key hr.hd (by have := hr.un; omega) kl I2 (fun pins' H3 s3 J s23 => ?_) hne (fun i xv v hx rx ex H3 s3 J s23 => ?_) (fun xv v H3 s3 hx rx s23 J => ?_)
  · obtain ⟨its, rv, pl, _⟩ := J.list ((hl.sameP hP sP).same' s23)
    exact ⟨its, rv, pl.isList⟩
  · obtain ⟨m, hns, hloc⟩ := J.loc
    obtain ⟨uy, ruy, look⟩ := hloc iy y vy hN hy (.inr (.inl hk))
    obtain ⟨_, cc, hcc, hcell⟩ : (X.env.kindOf y = some .cell ∨ X.env.kindOf y = some .free) ∧ ∃ c, X.env.cells.lookup y = some c ∧ s3.heap.IsCell c (some uy) := by
      rcases look with ⟨z, _⟩ | z
      · rw [hk] at z; cases z
      · exact z
    rw [hcy] at hcc
    obtain rfl := Option.some.inj hcc
    have e0 := J.env0
    have e1 : Env0 X.prog X.w X.K X.mg X.base X.A.in1 X.stack s3 H3 := ⟨e0.frames, e0.mod, e0.bs, e0.bsz, e0.funs, e0.frf, e0.hok, e0.bare⟩
    have hf3 : s3.heap.get? f = some _ := (J.hok f _ (s23 _ _ hf)).1
    have hcd : s3.heap.CodeRec (.ref c') (X.env.qual ++ "<lambda>") := (J.hok c' _ (s23 _ _ tA.2)).1
    have run := lam_run (u := v) S (show X.A.in1.handled = none from hr.hd) (show X.A.in1.depth < recursionLimit by have := hr.dp; show X.A.depth < _; omega) e1 rx ruy hcell (J.freeC y c hcy) hf3 hcd (hbind pm c' ctv v) (hb f (.ref c') X.A.in1 X.stack s3 H3) (hbody H3 (sP.trans s23.p) i xv hx)
    refine wpAny_call (codeAny_mono run fun r s' hr' => ?_)
    cases r with
    | error e => exact hr'.elim
    | ok fl =>
      cases fl with
      | next => exact hr'.elim
      | brk => exact hr'.elim
      | cont => exact hr'.elim
      | ret z =>
        obtain ⟨vv, H4, J4, rv, p', rfl, s34, hp4⟩ := J.after hr'
        cases rv
        exact ⟨p', H4, rfl, s34, hp4, J4⟩
  · exact ⟨xv, H3, J, rx, hq H3 xv (sP.trans s23.p) (.inr ⟨c', tA.same s23⟩) hx⟩
end
end L2
namespace L2
open PySem PySem.Spec PyProof.Rows
theorem law_callT {P : Program} {w : World} {K : PySem.W.Frag} {mg mb : Str → Option Value} {CX : CXT} {k : Nat} {fa a : Addr} {fd : FuncData} {x : Str} {sp : Sp} {s₁ : Shared} {vs : List Value} {ns : List Int} {ts : List (Addr × Addr)}
    (KX : K.In s₁.heap) (hns : s₁.heap.Ns mainGlobals mg) (hb : s₁.heap.Ns builtinsNs mb) (hbb : ∀ x : Str, x ≠ "__name__" → mb x = bootBuiltins x) (hlim : s₁.heap.NoLimit) (hbm : BMain s₁.heap mg) (hg : s₁.gens = #[])
    (hT : ∀ t ∈ ts, s₁.heap.get? t.2 = some (PySem.W.tabObj #[])) (hC : ∀ t ∈ ts, PySem.W.codeHdIn K t.1 t.2 = true) (hKt : ∀ t ∈ ts, K.lookup t.2 = none)
    (ha : s₁.heap.get? a = some { cls := .type "list", data := .seq vs.toArray }) (hi : IntsAre vs ns) (hl : ns.length ≤ sizeLine) (hr : Room k callerA)
    (F : ∀ base : Heap, K.In base → base.Ns mainGlobals mg → BMain base mg → FnOk P w K mg base CX k fa fd [x] sp) (hbind : ∀ (s : Shared) (u : Value), BindsTo s fd ⟨[u], []⟩ [(x, u)])
    (hsp : ∀ H : Hp, (∀ t ∈ ts, H t.2 = some (.tbl #[])) → SqL K H a (ns.map V.int) → sp [.ref a] H (fun v _ => v = .bl true) fun _ _ _ => False)
    (hCX : ∀ H e s', CX [] H s₁ (fun _ _ _ => False) e s' → False) :
    codeAny (model P w) callerA (.call (.ref fa) ⟨[.ref a], []⟩) (fun r s' => r = .ok (.ret (.bool true)) ∧ OldK s₁.heap s'.heap ∧ s'.os = s₁.os ∧ AllBare s'.gens) s₁ := by
  have rv := vals_ints hi
  have lenV := hi.length
  have core : ∀ H : Hp, (∀ b, H b = none ∨ (∃ o xs, H b = some (.frz o (.lst xs))) ∨ ((∃ t ∈ ts, t.2 = b) ∧ H b = some (.tbl #[]))) → (∀ t ∈ ts, H t.2 = some (.tbl #[])) → SqL K H a (ns.map V.int) → HOk P w H s₁.heap → (∀ b, H b ≠ none → b = a ∨ ∃ t ∈ ts, t.2 = b) → (H a ≠ none → K.lookup a = none) →
      codeAny (model P w) callerA (.call (.ref fa) ⟨[.ref a], []⟩) (fun r s' => r = .ok (.ret (.bool true)) ∧ OldK s₁.heap s'.heap ∧ s'.os = s₁.os ∧ AllBare s'.gens) s₁ := by
    intro H hO hOt hS hok hA hK
    have base_of : ∀ {b : Addr} {o : Obj}, s₁.heap.get? b = some o → H b = none → (hidT s₁.heap H).get? b = some o := fun e n => hidT_get e n
    have trk : ∀ {b : Addr} {o : Obj}, s₁.heap.get? b = some o → o.cls ≠ .type "list" → o.cls ≠ .none → H b = none := fun {b o} e n1 n2 => by
      cases q : H b with
      | none => rfl
      | some u =>
        rcases hA b (by rw [q]; simp) with e' | ⟨t, ht, e'⟩
        · subst e'
          rw [ha] at e; cases e
          exact absurd rfl n1
        · subst e'
          rw [hT t ht] at e; cases e
          exact absurd rfl n2
    have noA : ∀ {b : Addr} {o : Obj} {es : Array DictEntry} {ep : Nat}, s₁.heap.get? b = some o → o.data = .dict es ep → H b = none := fun {b o es ep} e d => by
      cases q : H b with
      | none => rfl
      | some u =>
        rcases hA b (by rw [q]; simp) with e' | ⟨t, ht, e'⟩
        · subst e'
          rw [ha] at e; cases e
          have d' : Data.seq vs.toArray _ = Data.dict es ep := d
          cases d'
        · subst e'
          rw [hT t ht] at e; cases e
          have d' : Data.fields _ = Data.dict es ep := d
          cases d'
    have nsK : ∀ {b : Addr} {m : Str → Option Value}, s₁.heap.Ns b m → (hidT s₁.heap H).Ns b m := fun {b m} ⟨o, es, ep, e, d, r⟩ => ⟨o, es, ep, base_of e (noA e d), d, r⟩
    have hKb : K.In (hidT s₁.heap H) := fun b o e => base_of (KX b o e) (by
      cases q : H b with
      | none => rfl
      | some u =>
        rcases hA b (by rw [q]; simp) with e' | ⟨t, ht, e'⟩
        · subst e'
          rw [hK (by rw [q]; simp)] at e; cases e
        · subst e'
          rw [hKt t ht] at e; cases e)
    have hM : Mod K mg (hidT s₁.heap H) := ⟨hKb, nsK hns, ⟨mb, nsK hb, hbb⟩, let ⟨mc, h1, h2⟩ := hlim; ⟨mc, nsK h1, h2⟩⟩
    have hB : BMain (hidT s₁.heap H) mg := by
      obtain ⟨bm, ob, h1, h2, h3, h4, h5⟩ := hbm
      exact ⟨bm, ob, h1, h2, base_of h3 (trk h3 (by rw [h4]; decide) (by rw [h4]; intro z; cases z)), h4, h5⟩
    have e0 : Env0 P w K mg (hidT s₁.heap H) callerA [] s₁ H := ⟨rfl, hM, fun b o e => of_hidT e, Nat.le_of_eq (hidT_size _ _), trivial, fun b hb => absurd (show b ∈ ([] : List Addr) from hb) (by simp), hok, .of_eq hg⟩
    refine codeAny_mono ((F _ hKb (nsK hns) hB).run callerA [] s₁ H ⟨[.ref a], []⟩ [.ref a] [.ref a] _ _ hr e0 (hbind s₁ (.ref a)) (.cons rfl .nil) (hsp H hOt hS)) fun r s' h => ?_
    cases r with
    | error e => exact (hCX H e s' h).elim
    | ok fl =>
      cases fl with
      | next => exact False.elim h
      | brk => exact False.elim h
      | cont => exact False.elim h
      | ret u =>
        obtain ⟨v, H', os, bare, un, hok', r', q⟩ := h
        have q' : v = .bl true := q
        subst q'
        obtain rfl : u = Value.bool true := r'
        have kp : ∀ b o, s₁.heap.get? b = some o → asItWas s₁.heap s'.heap b o := fun b o e => by
          cases q : H b with
          | none => exact .inl (un.keep b o e q (by intro z; exact absurd (show b ∈ ([] : List Addr) from z) (by simp)) (by simp))
          | some u =>
            rcases hO b with z | ⟨ob, xs, z⟩ | ⟨⟨t, ht, e'⟩, z⟩
            · rw [q] at z; cases z
            · have z2 := un.frzs b ob _ z
              obtain ⟨e1, _⟩ := hok b _ z
              obtain ⟨e2, _⟩ := hok' b _ z2
              rw [e] at e1; cases e1
              exact .inl e2
            · subst e'
              obtain ⟨more, z2⟩ := un.tbls _ _ z
              have e2 : s'.heap.get? t.2 = some { cls := .none, data := .fields (#[] ++ more) } := hok' t.2 _ z2
              rw [hT t ht] at e; cases e
              have CH := PySem.W.codeHd_of_K KX (hC t ht)
              exact .inr (.inl ⟨(CH.tab (hT t ht)).isCodeTable, rfl, #[], more, rfl, e2⟩)
        exact ⟨rfl, ⟨kp, fun b o e => un.there b o e (by simp)⟩, os, bare⟩
  have aT : ∀ t ∈ ts, t.2 ≠ a := fun t ht z => by
    have e := hT t ht
    rw [z, ha] at e; cases e
  have dT : ∀ b, Decidable (∃ t ∈ ts, t.2 = b) := fun b => by infer_instance
  cases hk : K.lookup a with
  | some o =>
    have e := KX a o hk
    rw [ha] at e
    cases e
    refine core (fun b => if ∃ t ∈ ts, t.2 = b then some (.tbl #[]) else none) (fun b => ?_) (fun t ht => if_pos ⟨t, ht, rfl⟩) (.inr ⟨_, vs.toArray, _, hk, rfl, rfl, rfl, by rw [List.size_toArray, lenV]; exact hl, by simpa using rv⟩) (fun b u z => ?_) (fun b z => ?_) fun z => absurd (if_neg (fun ⟨t, ht, e⟩ => aT t ht e)) z
    · by_cases hb : ∃ t ∈ ts, t.2 = b
      · exact .inr (.inr ⟨hb, if_pos hb⟩)
      · exact .inl (if_neg hb)
    · by_cases hb : ∃ t ∈ ts, t.2 = b
      · have z' := (if_pos hb).symm.trans z
        cases z'
        obtain ⟨t, ht, rfl⟩ := hb
        exact hT t ht
      · have z' := (if_neg hb).symm.trans z
        cases z'
    · by_cases hb : ∃ t ∈ ts, t.2 = b
      · exact .inr hb
      · exact absurd (if_neg hb) z
  | none =>
    refine core (fun b => if b = a then some (.frz { cls := .type "list", data := .seq vs.toArray } (.lst (ns.map V.int))) else if ∃ t ∈ ts, t.2 = b then some (.tbl #[]) else none) (fun b => ?_) (fun t ht => (if_neg (aT t ht)).trans (if_pos ⟨t, ht, rfl⟩)) (.inl (.inr ⟨{ cls := .type "list", data := .seq vs.toArray }, if_pos rfl⟩)) (fun b u z => ?_) (fun b z => ?_) fun _ => hk
    · by_cases hb : b = a
      · exact .inr (.inl ⟨_, _, if_pos hb⟩)
      · by_cases hb2 : ∃ t ∈ ts, t.2 = b
        · exact .inr (.inr ⟨hb2, (if_neg hb).trans (if_pos hb2)⟩)
        · exact .inl ((if_neg hb).trans (if_neg hb2))
    · by_cases hb : b = a
      · have z' := (if_pos hb).symm.trans z
        cases z'
        subst hb
        exact ⟨ha, by rw [List.length_map]; exact hl, vs, _, rv, ha⟩
      · have z' := (if_neg hb).symm.trans z
        by_cases hb2 : ∃ t ∈ ts, t.2 = b
        · have z'' := (if_pos hb2).symm.trans z'
          cases z''
          obtain ⟨t, ht, rfl⟩ := hb2
          exact hT t ht
        · have z'' := (if_neg hb2).symm.trans z'
          cases z''
    · by_cases hb : b = a
      · exact .inl hb
      · by_cases hb2 : ∃ t ∈ ts, t.2 = b
        · exact .inr hb2
        · exact absurd ((if_neg hb).trans (if_neg hb2)) z
theorem walk_of1 {l : PySem.W.OpenLaw} {n k : Nat} {q : Program} {loose : List Str} {XP : (Str → Option Value) → Heap → Prop} {YP : World → Heap → Prop} {d : DefRec} {K : Params → PySem.W.Frag} {CX : World → CXT} {sp : World → Sp} {x : Str} {tP : Addr}
    (hn : l.most = some n) (hn2 : n ≤ sizeLine) (hdf : d.params.defaults = []) (hr : Room k callerA)
    (hY : ∀ (w : World) (h : Heap), YP w h → (K w.params).In h) (hT : ∀ (w : World) (h : Heap), YP w h → h.get? tP = some (PySem.W.tabObj #[])) (hKt : ∀ (w : World), (K w.params).lookup tP = none)
    (F : ∀ (w : World) (mg : Str → Option Value) (fa : Addr) (h : Heap), (K w.params).In h → h.Ns mainGlobals mg → mg d.name = some (.ref fa) →
      ∃ fd : FuncData, (∀ (s : Shared) (u : Value), BindsTo s fd ⟨[u], []⟩ [(x, u)]) ∧ (∃ c, PySem.W.codeHdIn (K w.params) c tP = true) ∧
        ∀ base : Heap, (K w.params).In base → base.Ns mainGlobals mg → BMain base mg → FnOk l.prog w (K w.params) mg base (CX w) k fa fd [x] (sp w))
    (hsp : ∀ (w : World) (H : Hp) (a : Addr) (ns : List Int), ns.length ≤ n → H tP = some (.tbl #[]) → SqL (K w.params) H a (ns.map V.int) → sp w [.ref a] H (fun v _ => v = .bl true) fun _ _ _ => False)
    (hCX : ∀ (w : World) (H : Hp) (s : Shared) (e : Value) (s' : Shared), CX w [] H s (fun _ _ _ => False) e s' → False) :
    PySem.W.WalkO q loose XP YP l.row.toRowW d [] (fun f vs => PySem.call f vs) := by
  refine Att.attach_call hn hdf fun w s₀ s₁ mg mb fa o pm cd doc a vs ns G Y ho hd hcd hmg hobj hints hlen hg => ?_
  have KX := hY w _ Y
  obtain ⟨fd, hb, ⟨c, hc⟩, hF⟩ := F w mg fa _ KX G.T.g hmg
  have one : ∀ {p : Addr × Addr → Prop}, p (c, tP) → ∀ t ∈ [(c, tP)], p t := fun h t ht => by rw [List.mem_singleton.mp ht]; exact h
  exact law_callT (ts := [(c, tP)]) KX G.T.g G.T.b G.T.builtins G.T.nolimit G.T.bmain hg (one (hT w _ Y)) (one hc) (one (hKt w)) hobj hints (Nat.le_trans hlen hn2) hr hF hb (fun H hO hS => hsp w H a ns hlen (hO (c, tP) (.head _)) hS) fun H e s' => hCX w H s₁ e s'
section
variable {P : Program} {w : World} {K : PySem.W.Frag} {mg : Str → Option Value} {base : Heap}
theorem Fun.okL {x qual : Str} {st : Stmt} {f c₀ : Addr} {fd : FuncData} {N ps : List Str} {k : Nat} {sp : Sp} (F : Fun K x qual st f fd) (hL : fd.code = .ref c₀) (S : FnScope N ps (defScope st)) (len : ∀ vs H Q E, sp vs H Q E → vs.length = ps.length)
    (hbody : ∀ (A : Around) (outer : List Env) (s : Shared) (H : Hp) (vs : List V) (Q : VK) (E : XK), Room k (A.deeper (envOfC qual (defScope st) s.heap.objs.size f (.ref c₀))) → sp vs H Q E →
      ∃ t, PSs (cxOf CX0 P w K mg base N qual (defScope st) f (.ref c₀) A outer s H E).nox (defBody st) t ∧ t { nx := fun _ H' => Q .non H', rt := Q } (start N vs) H) : FnOk P w K mg base CX0 (k + 1) f fd ps sp := by
  obtain ⟨oc, od, kV, doc, pm, an, cdv, ct, osl, rfl, lk, hcd⟩ := F.ex
  obtain rfl : cdv = .ref c₀ := hL
  refine fn_of lk hcd S len fun A outer s H vs Q E hr hsp => ?_
  obtain ⟨t, h, q⟩ := hbody A outer s H vs Q E hr hsp
  exact ⟨t, h.nox, q⟩
end
theorem LamScope.mk2 {x y : Str} {scope : Scope} (hn : scope.names = [(x, .local), (y, .free)] ∨ scope.names = [(y, .free), (x, .local)]) (ne : x ≠ y) (kind : scope.kind = .function) (co : scope.isCoroutine = false) (gen : scope.isGenerator = false) : LamScope x y scope := by
  have l1 : (x == y) = false := beq_eq_false_iff_ne.mpr ne
  have l2 : (y == x) = false := beq_eq_false_iff_ne.mpr (Ne.symm ne)
  refine ⟨kind, co, gen, ?_, ?_, fun z hz => ?_, fun z hz => ?_, ne⟩
  · rcases hn with h | h <;> rw [h]
    · rw [List.lookup_cons, beq_self_eq_true]
    · rw [List.lookup_cons, l1, List.lookup_cons, beq_self_eq_true]
  · rcases hn with h | h <;> rw [h]
    · rw [List.lookup_cons, l2, List.lookup_cons, beq_self_eq_true]
    · rw [List.lookup_cons, beq_self_eq_true]
  · rcases hn with h | h <;> rw [h] at hz
    · rcases List.mem_cons.mp hz with rfl | hz
      · intro z; cases z
      · rw [List.mem_singleton.mp hz]; intro z; cases z
    · rcases List.mem_cons.mp hz with rfl | hz
      · intro z; cases z
      · rw [List.mem_singleton.mp hz]; intro z; cases z
  · have m := PySem.mem_of_lookup hz
    rcases hn with h | h <;> rw [h] at m
    · rcases List.mem_cons.mp m with e | m
      · injection e with _ e; cases e
      · injection List.mem_singleton.mp m
    · rcases List.mem_cons.mp m with e | m
      · injection e
      · injection List.mem_singleton.mp m with _ e; cases e
section
variable {X : Cx}
def tListRange1 (ta : TA) : TE := fun σ H Q => ta σ H fun vs H1 => ∃ j : Int, vs = [.int j] ∧ (-(2 ^ 62) ≤ j ∧ j < 2 ^ 62) ∧ j.toNat ≤ sizeLine ∧ j.toNat ≤ 2 ^ 24 ∧ ∀ l, H1 l = none → Q (.ref l) (upd H1 l (.lst (rngV 0 j.toNat)))
theorem pe_listRange1 {b : Expr} {ta : TA} {p p2 pos pos2 : Pos} (hc : X.calm = true) (hl : Gl X "list") (hlm : X.mg "list" = none) (hg : Gl X "range") (hm : X.mg "range" = none) (ha : PA X [b] ta)
    (hs2 : starEach [b] X.env = [(false, eval b X.env)] := by rfl) (hb : bootBuiltins "list" = some (.type "list") := by decide +kernel)
    (ho : starEach [Expr.Call (.Name "range" p2) [b] [] pos2] X.env = [(false, eval (.Call (.Name "range" p2) [b] [] pos2) X.env)] := by rfl) :
    PE X (.Call (.Name "list" p) [.Call (.Name "range" p2) [b] [] pos2] [] pos) (tListRange1 ta) := by
  intro pins s σ H Q I h
  refine wpAny_Call_Name_kw (ld_blt I hl hlm hb ?_)
  refine PyProof.Rows.callWith_type1 ?_ (by rw [ho]; rfl) rfl
  rw [ho]
  refine Calls.spliced_cons ?_
  refine Call_ (ld_blt I hg hm boot_range (PyProof.Rows.callWith_type1 (thn (ha pos2 pins s σ H _ I h) fun us s1 ⟨vs, H1, I1, r1, q1⟩ => ?_) (by rw [hs2]; rfl) rfl))
  obtain ⟨j, e, ⟨q3, q4⟩, z1, z2, q⟩ := q1
  subst e
  cases r1 with
  | cons r rr =>
    cases rr
    obtain ⟨t', rfl⟩ := r
    refine call_range_1 ?_
    refine Calls.spliced_nil ?_
    have hn : Builtin.Range.rangeSize 0 j 1 = ((j.toNat : Nat) : Int) := by rw [rangeSize_one]; split <;> omega
    refine call_list_range (I1.ok.hd hc) (IsRange.new ..) (small_one (by decide) (by decide) q3 q4) hn z2 fun h' tk acc' c' hk hS' hacc => ?_
    have kp : ∀ b o, s1.heap.get? b = some o → h'.get? b = some o := fun b o e => hk b o (Heap.get?_push_of_some _ e)
    refine ⟨.ref _, _, I1.laid (t' := tk) kp ?_ ?_, rfl, q _ (I1.hok.fresh ?_)⟩
    · rw [Heap.size_push]; exact Nat.le_succ _
    · refine ⟨(by unfold rngV; rw [List.length_map, List.length_range]; exact z1), acc'.toList, c', rng_vals hacc, ?_⟩
      exact hS'
    · rw [Heap.size_push]; exact Nat.le_succ _
end
end L2
namespace L2
open PySem PySem.Spec PyProof.Rows
theorem bt_any : bootBuiltins "any" = some (.builtin "any") := by decide +kernel
section
variable {X : Cx}
theorem any_at (bs : List Bool) : ((List.range bs.length).any fun i => (bs[i]?).getD false) = bs.any id := by
  rw [Bool.eq_iff_iff, List.any_eq_true, List.any_eq_true]
  constructor
  · rintro ⟨i, hi, q⟩
    have hi' := List.mem_range.mp hi
    rw [List.getElem?_eq_getElem hi'] at q
    exact ⟨_, List.getElem_mem hi', q⟩
  · rintro ⟨b, hb, q⟩
    obtain ⟨i, hi, e⟩ := List.getElem_of_mem hb
    refine ⟨i, List.mem_range.mpr hi, ?_⟩
    rw [List.getElem?_eq_getElem hi, e]
    exact q
theorem call_any (hc : X.calm = true) : CallR X (.builtin "any") (fun xs H Q => ∃ (p : Addr) (bs : List Bool), xs = [.ref p] ∧ SqL X.K H p (bs.map V.bl) ∧ Q (.bl (bs.any id)) H) := by
  intro pins s σ H xs us Q I r h
  obtain ⟨p, bs, rfl, hq, q⟩ := h
  obtain ⟨u, rfl, rx⟩ := vals1 r
  cases rx
  obtain ⟨its, rv, pl, hz⟩ := I.list hq
  have hl := pl.isList
  have hlen := rv.length
  have hlt : p < s.heap.objs.size := by obtain ⟨_, e, _⟩ := hl; exact Heap.lt_size e
  refine call_any_walk (wpAny_pyIter_list hl ?_)
  refine ⟨s.heap.objs.size, [s.heap.objs.size, p], [s.heap.objs.size], its.toArray.size, _, _, fun i => (bs[i]?).getD false, rfl, Walks.list (A := X.A.in1) (I.ok.hd hc) _ p (Nat.ne_of_lt hlt) its.toArray,
    ⟨⟨_, Heap.get?_push_size _ rfl, rfl, rfl⟩, hl.push _⟩, fun i v s' Q' E' hP hQ => ?_, fun h' tk hk => ?_⟩
  · have hv : its[i]? = some v := by simpa using hP
    have hi : i < its.length := (List.getElem?_eq_some_iff.mp hv).1
    have hb : i < bs.length := by rw [List.length_map] at hlen; omega
    obtain ⟨u2, e1, e2⟩ := rv.get (i := i) (x := V.bl bs[i]) (by rw [List.getElem?_map, List.getElem?_eq_getElem hb]; rfl)
    rw [hv] at e1
    cases e1
    cases (show v = Value.bool bs[i] from e2)
    dsimp only at hQ
    rw [List.getElem?_eq_getElem hb] at hQ
    exact wpAny_truthy_bool hQ
  · have e : ((List.range its.toArray.size).any fun i => (bs[i]?).getD false) = bs.any id := by
      rw [List.size_toArray, ← hlen, List.length_map]
      exact any_at bs
    rw [e]
    refine ⟨.bl _, H, I.kept (t' := tk) (fun b x e => ?_), rfl, q⟩
    exact hk b x (fun hm => by rw [List.mem_singleton.mp hm] at e; exact Nat.lt_irrefl _ (Heap.lt_size e)) (Heap.get?_push_of_some _ e)
end
end L2
namespace L2
open PySem PySem.Spec PyProof.Rows
theorem eqG_str (a b : Str) (t u : Tok) : MeetsSeq.EqGives (.str a t) (.str b u) (decide (a = b)) := fun _ _ _ _ _ _ h => wpAny_eqBool_str h
def rRemoveS : V → List V → Hp → VK → Prop := fun x vs H Q => ∃ (l : Addr) (ss : List Str) (z : Str) (j : Nat), x = .ref l ∧ vs = [.str z] ∧ H l = some (.lst (ss.map V.str)) ∧ ss.length ≤ 1000 ∧ ss[j]? = some z ∧ (∀ m, m < j → ss[m]? ≠ some z) ∧ Q .non (upd H l (.lst ((ss.eraseIdx j).map V.str)))
def strOf : Value → Str
  | .str x _ => x
  | _ => ⟨#[]⟩
theorem erase_map {α β : Type} (f : α → β) : ∀ (l : List α) (j : Nat), (l.map f).eraseIdx j = (l.eraseIdx j).map f
  | [], _ => rfl
  | _ :: _, 0 => rfl
  | a :: r, j + 1 => by
    show f a :: (r.map f).eraseIdx j = f a :: (r.eraseIdx j).map f
    rw [erase_map f r j]
theorem mt_remove {X : Cx} : MtM X "list.remove" rRemoveS := by
  intro pins s σ H x vs v us Q I rx rv h
  obtain ⟨l, ss, z, j, rfl, rfl, hH, hz, hj, hno, q⟩ := h
  cases rx
  obtain ⟨u, rfl, ru⟩ := rv.one
  obtain ⟨t, rfl⟩ := ru
  obtain ⟨zz, its, n, r, hl, e⟩ := I.lstM hH
  have lj := (List.getElem?_eq_some_iff.mp hj).1
  have at_ : ∀ m (hm : m < its.toArray.size), ∃ y t, ss[m]? = some y ∧ its.toArray[m] = .str y t := fun m hm => by
    have lm : m < ss.length := by simp at hm; rw [List.length_map] at hl; omega
    obtain ⟨w, hw, rw'⟩ := r.get (i := m) (x := V.str ss[m]) (by rw [List.getElem?_map, List.getElem?_eq_getElem lm]; rfl)
    obtain ⟨t, rfl⟩ := rw'
    refine ⟨_, t, List.getElem?_eq_getElem lm, ?_⟩
    have := (List.getElem?_eq_some_iff.mp hw).2
    simpa using this
  have hj2 : j < its.toArray.size := by simp; rw [List.length_map] at hl; omega
  refine call_meets F.slot_list_remove ⟨_, e, rfl⟩ F.entry_list_remove (F.args_list_remove_2 _ _)
    (MeetsSeq.list_remove l its.toArray n (.str z t) (fun w => decide (strOf w = z)) (fun y hy => ?_) j hj2 ?_ (fun m hm hlt => ?_) (by rw [List.size_toArray, ← hl, List.length_map]; exact small hz)) ⟨e, ?_⟩
  · obtain ⟨m, hm, rfl⟩ := Array.getElem_of_mem hy
    obtain ⟨y, t', _, e2⟩ := at_ m hm
    rw [e2]
    exact eqG_str _ _ _ _
  · obtain ⟨y, t', e1, e2⟩ := at_ j hj2
    rw [e2]
    rw [hj] at e1
    obtain rfl := Option.some.inj e1
    exact decide_eq_true rfl
  · obtain ⟨y, t', e1, e2⟩ := at_ m hm
    rw [e2]
    refine decide_eq_false fun z' => hno m hlt ?_
    rw [e1]
    exact congrArg some z'
  · refine ⟨.non, _, I.lset (its' := its.eraseIdx j) hH e ?_ ?_ ?_, rfl, q⟩
    · show its.toArray.eraseIdxIfInBounds j = (its.eraseIdx j).toArray
      rw [List.eraseIdxIfInBounds_toArray]
    · have := r.eraseIdx j
      rwa [show (ss.map V.str).eraseIdx j = (ss.eraseIdx j).map V.str from erase_map V.str ss j] at this
    · rw [List.length_map]
      have := len_erase (ss.map V.str) j
      rw [erase_map, List.length_map, List.length_map] at this
      exact small (by omega)
end L2
namespace L2
open PySem PyProof.Rows PySem.Spec PySem.Calls
theorem arg_max (is : List Int) : ∀ k, k < is.length → argBest (fun a b => decide (is.getD b 0 < is.getD a 0)) k ≤ k ∧ ∀ j, j ≤ k → is.getD j 0 ≤ is.getD (argBest (fun a b => decide (is.getD b 0 < is.getD a 0)) k) 0
  | 0, _ => ⟨Nat.le_refl _, fun j hj => by rw [Nat.le_zero.mp hj]; exact Int.le_refl _⟩
  | k + 1, hk => by
    obtain ⟨h1, h2⟩ := arg_max is k (by omega)
    show (if decide (is.getD (argBest _ k) 0 < is.getD (k + 1) 0) = true then k + 1 else argBest _ k) ≤ k + 1 ∧ ∀ j, j ≤ k + 1 → is.getD j 0 ≤ is.getD (if decide (is.getD (argBest _ k) 0 < is.getD (k + 1) 0) = true then k + 1 else argBest _ k) 0
    by_cases c : is.getD (argBest (fun a b => decide (is.getD b 0 < is.getD a 0)) k) 0 < is.getD (k + 1) 0
    · rw [if_pos (decide_eq_true c)]
      refine ⟨Nat.le_refl _, fun j hj => ?_⟩
      by_cases e : j = k + 1
      · rw [e]; exact Int.le_refl _
      · have := h2 j (by omega)
        omega
    · rw [if_neg (by rw [decide_eq_false c]; decide)]
      refine ⟨by omega, fun j hj => ?_⟩
      by_cases e : j = k + 1
      · rw [e]; omega
      · exact h2 j (by omega)
section
variable {X : Cx}
theorem call_max_ints (hc : X.calm = true) : CallR X (.builtin "max") (fun xs H Q => ∃ (p : Addr) (is : List Int), xs = [.ref p] ∧ SqL X.K H p (is.map V.int) ∧ 0 < is.length ∧ ∀ m ∈ is, (∀ k ∈ is, k ≤ m) → Q (.int m) H) := by
  intro pins s σ H xs us Q I r h
  obtain ⟨p, is, rfl, hq, l0, q⟩ := h
  obtain ⟨u, rfl, rx⟩ := vals1 r
  cases rx
  obtain ⟨its, rv, pl, hz⟩ := I.list hq
  have hl := pl.isList
  have hlen := rv.length
  rw [List.length_map] at hlen
  have hlt : p < s.heap.objs.size := by obtain ⟨_, e, _⟩ := hl; exact Heap.lt_size e
  have at' : ∀ (a : Nat) (v : Value), its.toArray[a]? = some v → ∃ tt, v = .int (is.getD a 0) tt := fun a v e => by
    have e' : its[a]? = some v := by simpa using e
    have la : a < is.length := by
      have := (List.getElem?_eq_some_iff.mp e').1
      omega
    obtain ⟨w', ew, rw'⟩ := rv.get (show (is.map V.int)[a]? = some (V.int is[a]) by rw [List.getElem?_map, List.getElem?_eq_getElem la]; rfl)
    rw [ew] at e'
    obtain rfl := Option.some.inj e'
    obtain ⟨tt, et⟩ := rw'
    exact ⟨tt, by rw [et, List.getD_eq_getElem?_getD, List.getElem?_eq_getElem la]; rfl⟩
  refine call_max_walk (wpAny_pyIter_list hl ?_)
  refine ⟨s.heap.objs.size, [s.heap.objs.size, p], [s.heap.objs.size], _, _, _, fun a b => decide (is.getD b 0 < is.getD a 0), rfl, Walks.list (A := X.A.in1) (I.ok.hd hc) _ p (Nat.ne_of_lt hlt) _, ?_, fun b hb => ?_, by rw [List.size_toArray, ← hlen]; exact l0, ?_, fun v h' tk hP hk => ?_⟩
  · exact ⟨⟨_, Heap.get?_push_size _ rfl, rfl, rfl⟩, hl.push _⟩
  · rcases List.mem_cons.mp hb with rfl | hb
    · show _ < (s.heap.push _).objs.size
      rw [Heap.size_push]
      exact Nat.lt_succ_self _
    · rw [List.mem_singleton.mp hb]
      show _ < (s.heap.push _).objs.size
      rw [Heap.size_push]
      exact Nat.lt_succ_of_lt hlt
  · intro a b va vb s' Q' E' h1 h2 q'
    obtain ⟨t1, rfl⟩ := at' a va h1
    obtain ⟨t2, rfl⟩ := at' b vb h2
    exact gt_int q'
  · rw [List.size_toArray, ← hlen] at hP
    obtain ⟨b1, b2⟩ := arg_max is (is.length - 1) (by omega)
    obtain ⟨tt, rfl⟩ := at' _ v hP
    generalize argBest (fun a b => decide (is.getD b 0 < is.getD a 0)) (is.length - 1) = bi at b1 b2 hP ⊢
    have lb : bi < is.length := by omega
    refine ⟨.int (is.getD bi 0), H, I.kept (t' := tk) (fun b x e => ?_), ⟨tt, rfl⟩, q _ ?_ fun k hk' => ?_⟩
    · exact hk b x (fun hm => by rw [List.mem_singleton.mp hm] at e; exact Nat.lt_irrefl _ (Heap.lt_size e)) (Heap.get?_push_of_some _ e)
    · rw [List.getD_eq_getElem?_getD, List.getElem?_eq_getElem lb]
      exact List.getElem_mem lb
    · obtain ⟨j, hj⟩ := List.mem_iff_getElem?.mp hk'
      have lj := (List.getElem?_eq_some_iff.mp hj).1
      have := b2 j (by omega)
      rw [List.getD_eq_getElem?_getD, hj] at this
      exact this
theorem bt_abs : bootBuiltins "abs" = some (.builtin "abs") := by decide +kernel
end
end L2
namespace My
open PySem L2
def fig : List Nat := List.range' 48 10
def isnum (z : Str) : Bool := decide ((1 : Int) ≤ (z.length : Nat)) && decide (((z.length : Nat) : Int) ≤ 9) && (z.cps.toList.all fun c => decide (c ∈ fig)) && (decide (z = ⟨#[48]⟩) || !decide (z.cps.toList.headD 0 = 48))
def val (z : Str) : Int := ((NumText.digitsVal z.cps.toList : Nat) : Int)
def wr (z : Str) : V := if isnum z = true then .int (val z) else .non
def inNum (z : Str) (lo hi : Int) : V := if (isnum z && decide (lo ≤ val z) && decide (val z ≤ hi)) = true then .int (val z) else .non
def low : List Nat := List.range' 97 26
def good (z : Str) : Bool := decide ((1 : Int) ≤ (z.length : Nat)) && decide (((z.length : Nat) : Int) ≤ 12) && decide (z.cps.toList.headD 0 ∈ low) && z.cps.toList.all fun c => decide (c ∈ low ++ fig)
def lay (z : Str) : Bool := decide (z = Str.ofString "both") || (Txt.startswith z (Str.ofString "up:") && decide (¬ inNum (Txt.slice z (some 3) none) 2 16 = V.non))
def goods : List V := (((List.range 15).map fun i => V.int (2 + ((i : Nat) : Int))).filter fun _ => true).map fun v => match v with | .int n => V.str (Str.ofString "up:" ++ Str.ofString (toString n)) | _ => .non
def goodTexts : List Str := (List.range 15).map fun i => Str.ofString "up:" ++ Str.ofString (toString (2 + ((i : Nat) : Int)))
theorem in_strs (z : Str) : ∀ as : List Str, inV (.str z) (as.map V.str) = decide (z ∈ as)
  | [] => rfl
  | y :: r => by
    have ih := in_strs z r
    unfold inV at ih ⊢
    rw [List.map_cons, List.any_cons, ih]
    show ((y == z) || decide (z ∈ r)) = _
    by_cases e : y = z
    · subst e
      simp
    · have e' : ¬ z = y := fun q => e q.symm
      simp [e, e']
end My
namespace My
open PySem L2
open Blk (sg sg_inj sg_app)
def Jc (c : Nat) : List (List Nat) → List Nat
  | [] => []
  | [x] => x
  | x :: y :: r => x ++ c :: Jc c (y :: r)
def Cc (c : Nat) : List Nat → List (List Nat)
  | [] => [[]]
  | d :: r => if d = c then [] :: Cc c r else match Cc c r with
    | [] => [[d]]
    | p :: ps => (d :: p) :: ps
def tn (n : Int) : Str := Str.ofString (toString n)
end My
namespace My
open PySem L2
open Blk (sg sg_inj sg_app)
inductive VO where
  | v (x : V) | pair (a b : Int)
  deriving DecidableEq
def non : VO := .v .non
abbrev cX : Str := Str.ofString "x"
abbrev cCol : Str := Str.ofString "colour:"
abbrev cPap : Str := Str.ofString "paper:"
abbrev cCov : Str := Str.ofString "cover:"
abbrev cAft : Str := Str.ofString "after:"
abbrev cSta : Str := Str.ofString "staple"
abbrev cLay : Str := Str.ofString "layout"
abbrev cOne : Str := Str.ofString "one"
abbrev cPla : Str := Str.ofString "plain"
abbrev cDash : Str := Str.ofString "-"
abbrev cBlank : Str := Str.ofString " "
def rst (z p : Str) : Str := Txt.slice z (some ((p.length : Nat) : Int)) none
def readCol (span : Str) (pages : Int) : VO := match Txt.split span cDash with
  | [a, b] => (match inNum a 1 pages with
    | .int f => (match inNum b f pages with
      | .int l => .pair f l
      | _ => non)
    | _ => non)
  | _ => non
def three : List Str := [cPap, cCov, cAft]
def four : List Str := [cX, cCol, cPap, cCov]
def valueOf (z : Str) (pages : Int) : VO :=
  if z = cSta then .v (.bl true) else if lay z = true then .v (.str z) else if Txt.startswith z cX = true then .v (inNum (rst z cX) 1 99) else if Txt.startswith z cCol = true then readCol (rst z cCol) pages
  else match three.find? (fun p => Txt.startswith z p && good (rst z p)) with
    | some p => .v (.str (rst z p))
    | none => non
def sortOf (z : Str) : Str := if lay z = true then cLay else (four.find? fun p => Txt.startswith z p).getD z
def readTail (pages : Int) : List Str → Nat → List (Str × VO) → Except Nat (List (Str × VO))
  | [], _, t => .ok t
  | w :: r, p, t => if valueOf w pages = non ∨ sortOf w ∈ t.map (·.1) then .error p else readTail pages r (p + 1) (t ++ [(sortOf w, valueOf w pages)])
def toldV (t : List (Str × VO)) (k : Str) : Option VO := (t.find? fun p => decide (p.1 = k)).map (·.2)
structure JF where
  name : Str
  asker : Str
  pages : Int
  copies : VO
  layout : VO
  paper : VO
  cover : VO
  colour : VO
  staple : VO
  after : List VO
def readHead (ws : List Str) : Except Nat Int :=
  if good (ws.getD 0 cBlank) = false then .error 0 else if ws.length < 2 then .error ws.length else if good (ws.getD 1 cBlank) = false then .error 1 else if ws.length < 3 then .error ws.length else
  match inNum (ws.getD 2 cBlank) 1 999 with
  | .int n => .ok n
  | _ => .error 2
def toldJob (ws : List Str) (pages : Int) (t : List (Str × VO)) : JF :=
  { name := ws.getD 0 cBlank, asker := ws.getD 1 cBlank, pages := pages, copies := (toldV t cX).getD (.v (.int 1)), layout := (toldV t cLay).getD (.v (.str cOne)), paper := (toldV t cPap).getD (.v (.str cPla)), cover := (toldV t cCov).getD non, colour := (toldV t cCol).getD non,
    staple := (toldV t cSta).getD (.v (.bl false)), after := (t.filter fun p => Txt.startswith p.1 cAft).map (·.2) }
def readJ (z : Str) : Except Nat JF := match readHead (Txt.split z cBlank) with
  | .error p => .error p
  | .ok n => match readTail n ((Txt.split z cBlank).drop 3) 3 [] with
    | .error p => .error p
    | .ok t => .ok (toldJob (Txt.split z cBlank) n t)
structure Jb where
  name : Str
  asker : Str
  pages : Int
  copies : Int
  layout : Str
  paper : Str
  cover : Option Str
  colour : Option (Int × Int)
  staple : Bool
  after : List Str
structure Jb.Ok (j : Jb) : Prop where
  name : good j.name = true
  asker : good j.asker = true
  p0 : 1 ≤ j.pages
  p1 : j.pages ≤ 999
  c0 : 1 ≤ j.copies
  c1 : j.copies ≤ 99
  lay : j.layout ∈ cOne :: Str.ofString "both" :: goodTexts
  paper : good j.paper = true
  cover : ∀ z, j.cover = some z → good z = true
  colour : ∀ a b, j.colour = some (a, b) → 1 ≤ a ∧ a ≤ b ∧ b ≤ j.pages
  after : ∀ z ∈ j.after, good z = true
  nd : j.after.Nodup
  few : j.after.length ≤ 3
def Jb.jf (j : Jb) : JF := { name := j.name, asker := j.asker, pages := j.pages, copies := .v (.int j.copies), layout := .v (.str j.layout), paper := .v (.str j.paper), cover := (match j.cover with | some z => .v (.str z) | none => non), colour := (match j.colour with | some (a, b) => .pair a b | none => non), staple := .v (.bl j.staple), after := j.after.map fun z => .v (.str z) }
def Jb.ents (j : Jb) (told : Bool) : List (Bool × Str × Str × VO) :=
  [(!decide (j.copies = 1) || told, cX ++ tn j.copies, cX, .v (.int j.copies)), (!decide (j.layout = cOne), j.layout, cLay, .v (.str j.layout)),
   (j.colour.isSome, cCol ++ tn (j.colour.getD (1, 1)).1 ++ cDash ++ tn (j.colour.getD (1, 1)).2, cCol, .pair (j.colour.getD (1, 1)).1 (j.colour.getD (1, 1)).2),
   (!decide (j.paper = cPla) || told, cPap ++ j.paper, cPap, .v (.str j.paper)), (j.cover.isSome, cCov ++ j.cover.getD cPla, cCov, .v (.str (j.cover.getD cPla))), (j.staple, cSta, cSta, .v (.bl true))]
def Jb.words (j : Jb) (told : Bool) : List Str := ((j.ents told).filter (·.1)).map (·.2.1)
def Jb.afts (j : Jb) : List Str := j.after.map fun n => cAft ++ n
end My
namespace My
open PySem L2
open Blk (sg sg_inj sg_app)
def sorts : List Str := [cX, cLay, cCol, cPap, cCov, cSta]
def told (pages : Int) (M : List Str) : List (Str × VO) := M.map fun w => (sortOf w, valueOf w pages)
structure Mix (ws as M : List Str) : Prop where
  perm : M.Perm (ws ++ as)
  afts : (M.filter fun w => Txt.startswith w cAft) = as
def Jb.head (j : Jb) : List Str := [j.name, j.asker, tn j.pages]
end My
namespace My
open PySem L2
open Blk (sg sg_inj sg_app)
def HoldsV (H : Hp) (x : V) : VO → Prop
  | .v y => x = y
  | .pair a b => ∃ p, x = .ref p ∧ H p = some (.tup [.int a, .int b])
theorem HoldsV.same {H H' : Hp} {x : V} {o : VO} (h : HoldsV H x o) (e : Same H H') : HoldsV H' x o := by
  cases o with
  | v y => exact h
  | pair a b => obtain ⟨p, h1, h2⟩ := h; exact ⟨p, h1, e _ _ h2⟩
theorem HoldsV.upd {H : Hp} {x : V} {o : VO} {D : Addr} {kvs : List (Key × V)} {u : HO} (h : HoldsV H x o) (hD : H D = some (.dK kvs)) : HoldsV (L2.upd H D u) x o := by
  cases o with
  | v y => exact h
  | pair a b =>
    obtain ⟨p, h1, h2⟩ := h
    exact ⟨p, h1, by rw [upd_ne (ne_of h2 hD (by intro z; cases z))]; exact h2⟩
def TR (H : Hp) (q : Key × V) (p : Str × VO) : Prop := q.1 = Sum.inr p.1 ∧ HoldsV H q.2 p.2
structure Told (H : Hp) (D : Addr) (kvs : List (Key × V)) (t : List (Str × VO)) : Prop where
  at_ : H D = some (.dK kvs)
  rel : Paired (TR H) kvs t
  nd : (t.map (·.1)).Nodup
theorem Told.look {H : Hp} {D : Addr} {kvs : List (Key × V)} {t : List (Str × VO)} (T : Told H D kvs t) (k : Str) : match valV kvs (Sum.inr k : Key), toldV t k with | some x, some o => HoldsV H x o | none, none => True | _, _ => False := by
  have key : ∀ {kvs : List (Key × V)} {t : List (Str × VO)}, Paired (TR H) kvs t → match valV kvs (Sum.inr k : Key), toldV t k with | some x, some o => HoldsV H x o | none, none => True | _, _ => False := by
    intro kvs t r
    induction r with
    | nil => trivial
    | @cons q p kvs t h r ih =>
      obtain ⟨h1, h2⟩ := h
      by_cases e : p.1 = k
      · rw [valV_pos (by rw [h1, e])]
        unfold toldV
        rw [List.find?_cons_of_pos (h := by exact decide_eq_true e)]
        exact h2
      · rw [valV_neg (by rw [h1]; intro z; injection z with z; exact e z)]
        unfold toldV
        rw [List.find?_cons_of_neg (h := by rw [decide_eq_false e]; decide)]
        exact ih
  exact key T.rel
theorem Told.has {H : Hp} {D : Addr} {kvs : List (Key × V)} {t : List (Str × VO)} (T : Told H D kvs t) (k : Str) : (valV kvs (Sum.inr k : Key)).isSome = decide (k ∈ t.map (·.1)) := by
  have q := T.look k
  cases e2 : toldV t k with
  | none =>
    have nm : k ∉ t.map (·.1) := fun m => by
      obtain ⟨p, hp, rfl⟩ := List.mem_map.mp m
      unfold toldV at e2
      rw [Option.map_eq_none_iff] at e2
      have := List.find?_eq_none.mp e2 p hp
      exact this (decide_eq_true rfl)
    rw [decide_eq_false nm]
    cases e1 : valV kvs (Sum.inr k : Key) with
    | none => rfl
    | some x => rw [e1, e2] at q; exact q.elim
  | some o =>
    have m : k ∈ t.map (·.1) := by
      unfold toldV at e2
      obtain ⟨p, hp, _⟩ := Option.map_eq_some_iff.mp e2
      exact List.mem_map.mpr ⟨p, List.mem_of_find?_eq_some hp, by have q := List.find?_some hp; exact of_decide_eq_true q⟩
    rw [decide_eq_true m]
    cases e1 : valV kvs (Sum.inr k : Key) with
    | none => rw [e1, e2] at q; exact q.elim
    | some x => rfl
theorem Told.same {H H' : Hp} {D : Addr} {kvs : List (Key × V)} {t : List (Str × VO)} (T : Told H D kvs t) (e : Same H H') : Told H' D kvs t := ⟨e _ _ T.at_, Paired.mapP T.rel fun _ _ h => ⟨h.1, h.2.same e⟩, T.nd⟩
theorem paired_snoc {α β : Type} {R : α → β → Prop} : ∀ {xs : List α} {ys : List β} {x : α} {y : β}, Paired R xs ys → R x y → Paired R (xs ++ [x]) (ys ++ [y])
  | _, _, _, _, .nil, h => .cons h .nil
  | _, _, _, _, .cons a b, h => .cons a (paired_snoc b h)
theorem Told.put {H : Hp} {D : Addr} {kvs : List (Key × V)} {t : List (Str × VO)} (T : Told H D kvs t) {k : Str} {x : V} {o : VO} (hx : HoldsV H x o) (hn : valV kvs (Sum.inr k : Key) = none) :
    Told (upd H D (.dK (putK kvs (Sum.inr k) x))) D (kvs ++ [(Sum.inr k, x)]) (t ++ [(k, o)]) := by
  have hk : k ∉ t.map (·.1) := fun m => by
    have q := T.has k
    rw [hn, decide_eq_true m] at q
    cases q
  refine ⟨?_, ?_, by rw [List.map_append]; exact nd_snoc T.nd hk⟩
  · rw [upd_same, putK_new x hn]
  · exact paired_snoc (Paired.mapP T.rel fun _ _ h => ⟨h.1, h.2.upd T.at_⟩) ⟨rfl, hx.upd T.at_⟩
theorem Told.keys {H : Hp} {kvs : List (Key × V)} {t : List (Str × VO)} (r : Paired (TR H) kvs t) : kvs.map (·.1) = (t.map (·.1)).map Sum.inr := by
  induction r with
  | nil => rfl
  | cons h r ih => rw [List.map_cons, List.map_cons, List.map_cons, ih, h.1]
def luV (kvs : List (Key × V)) : V → V
  | .str s => (valV kvs (Sum.inr s : Key)).getD .non
  | _ => .non
def afterP : V → Bool
  | .str x => Txt.startswith x cAft
  | _ => false
theorem Told.after {H : Hp} {D : Addr} {kvs : List (Key × V)} {t : List (Str × VO)} (T : Told H D kvs t) (g : V → V) (hg : ∀ q ∈ kvs, g (kV q.1) = q.2) :
    Paired (fun a o => HoldsV H a o) (((kvs.map fun p => kV p.1).filter afterP).map g) ((t.filter fun p => Txt.startswith p.1 cAft).map (·.2)) := by
  rw [List.filter_map, List.map_map]
  have e : (kvs.filter (afterP ∘ fun p => kV p.1)).map (g ∘ fun p => kV p.1) = (kvs.filter (afterP ∘ fun p => kV p.1)).map (·.2) := List.map_congr_left fun q hq => hg q (List.mem_filter.mp hq).1
  rw [e]
  clear e hg
  have key : ∀ {kvs : List (Key × V)} {t : List (Str × VO)}, Paired (TR H) kvs t → Paired (fun a o => HoldsV H a o) ((kvs.filter (afterP ∘ fun p => kV p.1)).map (·.2)) ((t.filter fun p => Txt.startswith p.1 cAft).map (·.2)) := by
    intro kvs t r
    induction r with
    | nil => exact .nil
    | @cons q p kvs t h r ih =>
      obtain ⟨h1, h2⟩ := h
      have e1 : (afterP ∘ fun p : Key × V => kV p.1) q = Txt.startswith p.1 cAft := by
        show afterP (kV q.1) = _
        rw [h1]
        rfl
      cases hs : Txt.startswith p.1 cAft with
      | true =>
        rw [List.filter_cons_of_pos (by rw [e1, hs]), List.filter_cons_of_pos (by exact hs)]
        exact .cons h2 ih
      | false =>
        rw [List.filter_cons_of_neg (by rw [e1, hs]; decide), List.filter_cons_of_neg (by rw [hs]; decide)]
        exact ih
  exact key T.rel
theorem Told.nodup {H : Hp} {D : Addr} {kvs : List (Key × V)} {t : List (Str × VO)} (T : Told H D kvs t) : (kvs.map (·.1)).Nodup := by
  rw [Told.keys T.rel]
  exact List.Pairwise.map _ (fun a b h e => h (by injection e)) T.nd
theorem Told.len {H : Hp} {D : Addr} {kvs : List (Key × V)} {t : List (Str × VO)} (T : Told H D kvs t) : kvs.length = t.length := Paired.length T.rel
def jobF (a b c d e f g h i j : V) : List (Str × V) := [("name", a), ("asker", b), ("pages", c), ("copies", d), ("layout", e), ("paper", f), ("cover", g), ("colour", h), ("staple", i), ("after", j)]
structure JobAt (C : Addr) (H : Hp) (x : Addr) (f : JF) : Prop where
  ex : ∃ (dx pa : Addr) (d e p g h i : V) (as : List V), H x = some (.ins C dx (jobF (.str f.name) (.str f.asker) (.int f.pages) d e p g h i (.ref pa))) ∧ HoldsV H d f.copies ∧ HoldsV H e f.layout ∧ HoldsV H p f.paper ∧ HoldsV H g f.cover ∧ HoldsV H h f.colour ∧ HoldsV H i f.staple ∧
    H pa = some (.tup as) ∧ Paired (fun a o => HoldsV H a o) as f.after
theorem JobAt.same {C : Addr} {H H' : Hp} {x : Addr} {f : JF} (J : JobAt C H x f) (e : Same H H') : JobAt C H' x f := by
  obtain ⟨dx, pa, v1, v2, v3, v4, v5, v6, as, h0, h1, h2, h3, h4, h5, h6, h7, h8⟩ := J.ex
  exact ⟨dx, pa, v1, v2, v3, v4, v5, v6, as, e _ _ h0, h1.same e, h2.same e, h3.same e, h4.same e, h5.same e, h6.same e, e _ _ h7, Paired.mapP h8 fun _ _ h => h.same e⟩
end My
namespace My
open PySem L2
open Blk (sg sg_inj sg_app)
def nmC (f r : Nat) (size place l : Nat) : List Nat := (f :: List.replicate (size - 1) r).set place l
def nm (f r : Nat) (size place l : Nat) : Str := ⟨(nmC f r size place l).toArray⟩
def ltr (s : Nat) (j : Nat) : Nat := 97 + (s + 5 * j) % 26
def nms (f r size place s : Nat) (m : Nat) : List Str := (List.range m).map fun j => nm f r size place (ltr s j)
structure NamesOk (ns : List Str) (m : Nat) : Prop where
  len : ns.length = m
  good : ∀ z ∈ ns, good z = true
  nd : ns.Nodup
def six : List Str := [Str.ofString "x2", Str.ofString "staple", Str.ofString "both", Str.ofString "up2", Str.ofString "plain", Str.ofString "after"]
def one (c : Nat) : Str := ⟨#[c]⟩
def optV : Option Str → V
  | some z => .str z
  | none => .non
structure Due (H : Hp) (t : Addr) (j : Jb) : Prop where
  ex : ∃ (vc : V) (pa : Addr), H t = some (.tup [.str j.name, .str j.asker, .int j.pages, .int j.copies, .str j.layout, .str j.paper, optV j.cover, vc, .bl j.staple, .ref pa]) ∧ HoldsV H vc j.jf.colour ∧ H pa = some (.tup (j.after.map V.str))
theorem Due.same {H H' : Hp} {t : Addr} {j : Jb} (D : Due H t j) (e : Same H H') : Due H' t j := by
  obtain ⟨vc, pa, h1, h2, h3⟩ := D.ex
  exact ⟨vc, pa, e _ _ h1, h2.same e, e _ _ h3⟩
end My
namespace My
open PySem L2
open Blk (sg sg_inj sg_app)
theorem ins_perm {α : Type} (M : List α) (i : Nat) (y : α) : (M.take i ++ y :: M.drop i).Perm (M ++ [y]) := by
  have a : (M.take i ++ y :: M.drop i).Perm (y :: (M.take i ++ M.drop i)) := List.perm_middle
  rw [List.take_append_drop] at a
  exact a.trans (List.perm_append_singleton y M).symm
structure Mid (ws as : List Str) (A : Nat) (M : List Str) : Prop where
  perm : M.Perm (ws ++ as)
  le : A ≤ M.length
  pre : ((M.take A).filter fun w => Txt.startswith w cAft) = as
  post : ((M.drop A).filter fun w => Txt.startswith w cAft) = []
theorem Mid.start {ws M : List Str} (p : M.Perm ws) (h : ∀ w ∈ ws, Txt.startswith w cAft = false) : Mid ws [] 0 M := by
  refine ⟨by rw [List.append_nil]; exact p, Nat.zero_le _, by simp, ?_⟩
  rw [List.drop_zero]
  exact List.filter_eq_nil_iff.mpr fun w hw => by rw [h w (p.mem_iff.mp hw)]; decide
theorem Mid.put {ws as M : List Str} {A B : Nat} {y : Str} (m : Mid ws as A M) (h1 : A ≤ B) (h2 : B ≤ M.length) (hy : Txt.startswith y cAft = true) : Mid ws (as ++ [y]) (B + 1) (M.take B ++ y :: M.drop B) := by
  have hl : (M.take B).length = B := by rw [List.length_take]; omega
  refine ⟨?_, ?_, ?_, ?_⟩
  · exact (ins_perm M B y).trans (by rw [← List.append_assoc]; exact m.perm.append_right [y])
  · rw [List.length_append, List.length_cons, hl, List.length_drop]
    omega
  · have e : (M.take B ++ y :: M.drop B).take (B + 1) = M.take B ++ [y] := by
      rw [List.take_append, hl, List.take_of_length_le (by omega), show B + 1 - B = 1 by omega]
      rfl
    rw [e, List.filter_append]
    have e2 : ((M.take B).filter fun w => Txt.startswith w cAft) = as := by
      have e3 : M.take B = M.take A ++ (M.drop A).take (B - A) := by
        rw [← List.take_append_drop A (M.take B), List.take_take, Nat.min_eq_left h1, List.drop_take]
      rw [e3, List.filter_append, m.pre]
      have e4 : (((M.drop A).take (B - A)).filter fun w => Txt.startswith w cAft) = [] := by
        refine List.filter_eq_nil_iff.mpr fun w hw => ?_
        exact List.filter_eq_nil_iff.mp m.post w (List.mem_of_mem_take hw)
      rw [e4, List.append_nil]
    rw [e2]
    simp [hy]
  · have e : (M.take B ++ y :: M.drop B).drop (B + 1) = M.drop B := by
      rw [List.drop_append, hl, List.drop_of_length_le (by omega), show B + 1 - B = 1 by omega]
      rfl
    rw [e]
    refine List.filter_eq_nil_iff.mpr fun w hw => ?_
    have : w ∈ M.drop A := by
      have e3 : M.drop B = (M.drop A).drop (B - A) := by rw [List.drop_drop]; congr 1; omega
      rw [e3] at hw
      exact List.mem_of_mem_drop hw
    exact List.filter_eq_nil_iff.mp m.post w this
theorem Mid.done {ws as M : List Str} {A : Nat} (m : Mid ws as A M) : Mix ws as M := by
  refine ⟨m.perm, ?_⟩
  rw [← List.take_append_drop A M, List.filter_append, m.pre, m.post, List.append_nil]
end My
namespace My
open PySem L2
def top (i : Nat) : Stmt := PySem.Challenge.pw_spoolhall_k44_whole_shares.main.body.getD i (.Pass ⟨0, 0, 0, 0⟩)
abbrev s_Unknown_init : Stmt := inClass (top 3) 0
abbrev s_Twice_init : Stmt := inClass (top 4) 0
abbrev s_grown : Stmt := top 7
abbrev s_lifted : Stmt := top 8
abbrev s_first_of : Stmt := top 9
abbrev s_as_keys : Stmt := top 15
abbrev s_Line_init : Stmt := inClass (top 16) 0
abbrev s_Line_add_asker : Stmt := inClass (top 16) 1
abbrev s_Line_lay : Stmt := inClass (top 16) 2
abbrev s_Line_waiting : Stmt := inClass (top 16) 3
abbrev s_Line_level : Stmt := inClass (top 16) 4
abbrev s_Line_mark : Stmt := inClass (top 16) 5
abbrev s_Line_take : Stmt := inClass (top 16) 7
abbrev s_Line_pull : Stmt := inClass (top 16) 8
abbrev s_Line_must_know : Stmt := inClass (top 16) 10
abbrev s_Line_must_wait : Stmt := inClass (top 16) 11
abbrev s_Line_has_waiting : Stmt := inClass (top 16) 12
abbrev s_Line_chosen : Stmt := inClass (top 16) 13
abbrev s_Line_firsts_of : Stmt := inClass (top 16) 14
abbrev s_Line_level_behind : Stmt := inClass (top 16) 15
abbrev s_Line_charge : Stmt := inClass (top 16) 16
abbrev s_Line_note_taken : Stmt := inClass (top 16) 17
abbrev s_Line_why_ahead : Stmt := inClass (top 16) 18
abbrev s__law_cell_at : Stmt := top 18
abbrev s__law_mix : Stmt := top 19
abbrev s__law_has : Stmt := top 20
abbrev s__law_take : Stmt := top 21
abbrev s__law_lay : Stmt := top 22
abbrev s__law_done : Stmt := top 23
abbrev s__law_both_fair : Stmt := top 24
abbrev s__law_not_passed : Stmt := top 25
abbrev s__law_fair : Stmt := top 26
abbrev s_law : Stmt := top 27
structure Txt (K : PySem.W.Frag) (mg : Str → Option Value) (cLine cUnknown cTwice cHallError tP_first_of : Addr) : Prop where
  len : mg "len" = none
  range : mg "range" = none
  str : mg "str" = none
  list : mg "list" = none
  min : mg "min" = none
  max : mg "max" = none
  dict : mg "dict" = none
  sorted : mg "sorted" = none
  any : mg "any" = none
  abs : mg "abs" = none
  ValueError : mg "ValueError" = none
  COMMON : GI mg "COMMON" (2520)
  UNABLE : GS mg "UNABLE" (Str.ofString "unable")
  OWN : GS mg "OWN" (Str.ofString "own")
  RANK : GS mg "RANK" (Str.ofString "rank")
  SHARE : GS mg "SHARE" (Str.ofString "share")
  cl_Line : Cls K cLine
  mg_Line : mg "Line" = some (.ref cLine)
  n_Line_ranks : NoAttr K cLine "ranks"
  n_Line_shares : NoAttr K cLine "shares"
  n_Line_levels : NoAttr K cLine "levels"
  n_Line_marks : NoAttr K cLine "marks"
  n_Line_owners : NoAttr K cLine "owners"
  n_Line_costs : NoAttr K cLine "costs"
  n_Line_notes : NoAttr K cLine "notes"
  n_Line_queue : NoAttr K cLine "queue"
  x_Unknown : XCl K cUnknown ["name"]
  mg_Unknown : mg "Unknown" = some (.ref cUnknown)
  x_Twice : XCl K cTwice ["name"]
  mg_Twice : mg "Twice" = some (.ref cTwice)
  in_HallError : InX K cHallError
  mg_HallError : mg "HallError" = some (.ref cHallError)
  kit : kitTab K [cUnknown, cTwice] cHallError = true
end My
seal L2.PE L2.PS L2.PSs L2.PT L2.PW L2.PA L2.PI L2.PG L2.PGs L2.PSet L2.PIfs L2.PO L2.PK L2.CallR L2.OpR L2.IxR L2.SlR L2.UnR
namespace My
open PySem L2
open Blk (sg sg_inj sg_app)
section
variable {P : Program} {w : World} {K : PySem.W.Frag} {mg : Str → Option Value} {base : Heap}
theorem int_of {ns : List Int} {j : Nat} {v : V} (h : (ns.map V.int)[j]? = some v) : ∃ z, v = V.int z := by
  rw [List.getElem?_map] at h
  cases e : ns[j]? with
  | none => rw [e] at h; cases h
  | some z => rw [e] at h; exact ⟨z, (Option.some.inj h).symm⟩
structure Scr (K : PySem.W.Frag) (H : Hp) (a : Addr) : Prop where
  ex : ∃ ns : List Int, SqL K H a (ns.map V.int) ∧ ns.length ≤ 63
theorem Scr.same {K : PySem.W.Frag} {H H' : Hp} {a : Addr} (s : Scr K H a) (e : Same H H') : Scr K H' a := by
  obtain ⟨ns, h, l⟩ := s.ex
  exact ⟨ns, e.seq h, l⟩
end
end My
namespace My
open PySem L2
open Blk (sg sg_inj sg_app)
section
variable {P : Program} {w : World} {K : PySem.W.Frag} {mg : Str → Option Value} {base : Heap}
def KeptBut (x : Addr) (H H' : Hp) : Prop := ∀ b o, b ≠ x → H b = some o → H' b = some o
def sp_one (C : Addr) (f : Str) : Sp := fun vs H Q _ => ∃ (x : Addr) (y : V), vs = [.ref x, y] ∧ H x = some (XO x C none) ∧ ∀ H', KeptBut x H H' → XF H' x C [(f, y)] → Q .non H'
theorem kept_set {H : Hp} {x dx : Addr} {o u : HO} (hd : H dx = none) : KeptBut x H (upd (upd H dx o) x u) := fun b v hb e => by
  rw [upd_ne hb, upd_ne (ne_of_none e hd)]; exact e
theorem xf_set {H : Hp} {x dx C : Addr} {fs : List (Str × V)} (hx : dx ≠ x) : XF (upd (upd H dx (XD dx fs)) x (XO x C (some dx))) x C fs := ⟨dx, upd_same, by rw [upd_ne hx, upd_same], hx⟩
theorem same_made {H H' : Hp} {x : Addr} {o : HO} (hx : H x = none) (k : KeptBut x (upd H x o) H') : Same H H' := fun b v e => by
  have hb : b ≠ x := ne_of_none e hx
  exact k b v hb (by rw [upd_ne hb]; exact e)
theorem raise_one {K : PySem.W.Frag} {C : Addr} {f : Str} {y : V} {H : Hp} {E : XK} (mk : PySem.W.excMk K C = true) (h : ∀ ea H', Same H H' → H ea = none → XG H' ea C [(f, y)] → E (.ref C) (some ea) H') :
    ∀ x, H x = none → sp_one C f (.ref x :: [y]) (upd H x (XO x C none)) (fun v H2 => v = .non ∧ ∃ ea C' d, V.ref x = .ref ea ∧ H2 ea = some (XO ea C' d) ∧ PySem.W.excMk K C' = true ∧ E (.ref C') (some ea) (upd H2 ea (XC ea C' d))) E0 := by
  intro x nx
  refine ⟨x, y, rfl, upd_same, fun H' kb xf => ⟨rfl, ?_⟩⟩
  obtain ⟨dx, a, g⟩ := xf.raised
  exact ⟨x, C, some dx, rfl, a, mk, h x _ (same_on nx (same_made nx kb) _) nx g⟩
theorem iteYes {c A B : Prop} [Decidable c] (hc : c) (h : A) : if decide c = true then A else B := by
  rw [if_pos (decide_eq_true hc)]
  exact h
theorem iteNo {c A B : Prop} [Decidable c] (hc : ¬ c) (h : B) : if decide c = true then A else B := by
  rw [if_neg (by rw [decide_eq_false hc]; decide)]
  exact h
end
end My
namespace My
open PySem L2
open Blk (sg sg_inj sg_app)
section
variable {P : Program} {w : World} {K : PySem.W.Frag} {mg : Str → Option Value} {base : Heap}
theorem sc_Unknown_init : FnScope ["self", "name"] ["self", "name"] (defScope s_Unknown_init) := ⟨rfl, rfl, rfl, by decide +kernel, rfl, by decide +kernel, by decide +kernel⟩
theorem ok_Unknown_init {fa cLine cUnknown cTwice cHallError tP_first_of : Addr} {fd : FuncData} (F : Fun K "__init__" "Unknown.__init__" s_Unknown_init fa fd) (T : Txt K mg cLine cUnknown cTwice cHallError tP_first_of)  :
    FnOk P w K mg base CX0 1 fa fd ["self", "name"] (sp_one cUnknown "name") := by
  refine F.ok sc_Unknown_init (fun vs H Q E h => ?_) (fun cdv A outer s H vs Q E hr h => ?_)
  · obtain ⟨x, y, rfl, _⟩ := h
    rfl
  obtain ⟨x, y, rfl, hx, q⟩ := h
  refine ⟨_, (pss_cons (ps_expr (pe_initX T.in_HallError rfl T.mg_HallError (pa_cons (pv 0) (pa_cons (pv 1) pa_nil))))
  (pss_one (ps_fldX (pv 0) (pv 1) rfl))), ?_⟩
  refine ⟨_, rfl, _, rfl, x, _, none, [y], rfl, (by simp), hx, T.x_Unknown.m, ?_⟩
  refine ⟨_, rfl, _, rfl, .inl ⟨x, _, rfl, hx, T.x_Unknown.i.c, T.x_Unknown.n _ (.head _), fun dx nd ne => ?_⟩⟩
  exact q _ (kept_set nd) (xf_set ne)
theorem sc_Twice_init : FnScope ["self", "name"] ["self", "name"] (defScope s_Twice_init) := ⟨rfl, rfl, rfl, by decide +kernel, rfl, by decide +kernel, by decide +kernel⟩
theorem ok_Twice_init {fa cLine cUnknown cTwice cHallError tP_first_of : Addr} {fd : FuncData} (F : Fun K "__init__" "Twice.__init__" s_Twice_init fa fd) (T : Txt K mg cLine cUnknown cTwice cHallError tP_first_of)  :
    FnOk P w K mg base CX0 1 fa fd ["self", "name"] (sp_one cTwice "name") := by
  refine F.ok sc_Twice_init (fun vs H Q E h => ?_) (fun cdv A outer s H vs Q E hr h => ?_)
  · obtain ⟨x, y, rfl, _⟩ := h
    rfl
  obtain ⟨x, y, rfl, hx, q⟩ := h
  refine ⟨_, (pss_cons (ps_expr (pe_initX T.in_HallError rfl T.mg_HallError (pa_cons (pv 0) (pa_cons (pv 1) pa_nil))))
  (pss_one (ps_fldX (pv 0) (pv 1) rfl))), ?_⟩
  refine ⟨_, rfl, _, rfl, x, _, none, [y], rfl, (by simp), hx, T.x_Twice.m, ?_⟩
  refine ⟨_, rfl, _, rfl, .inl ⟨x, _, rfl, hx, T.x_Twice.i.c, T.x_Twice.n _ (.head _), fun dx nd ne => ?_⟩⟩
  exact q _ (kept_set nd) (xf_set ne)
end
end My
namespace My
open PySem L2
open Blk (sg sg_inj sg_app)
section
variable {P : Program} {w : World} {K : PySem.W.Frag} {mg : Str → Option Value} {base : Heap}
section DG
variable {κ α : Type} [DecidableEq κ]
def dG (g : κ → Key) (f : α → V) (l : List (κ × α)) : List (Key × V) := l.map fun p => (g p.1, f p.2)
def lkG (l : List (κ × α)) (k : κ) : Option α := match l with
  | [] => none
  | p :: r => if p.1 = k then some p.2 else lkG r k
theorem lkG_cons {p : κ × α} {r : List (κ × α)} {k : κ} : lkG (p :: r) k = if p.1 = k then some p.2 else lkG r k := rfl
theorem val_dG {g : κ → Key} {f : α → V} (hg : ∀ a b, g a = g b → a = b) : ∀ {l : List (κ × α)} {k : κ}, valV (dG g f l) (g k) = (lkG l k).map f
  | [], _ => rfl
  | p :: r, k => by
    rw [lkG_cons]
    by_cases c : p.1 = k
    · rw [if_pos c]
      exact valV_pos (congrArg g c)
    · rw [if_neg c]
      exact (valV_neg (fun z => c (hg _ _ z))).trans (val_dG hg)
theorem lkG_none : ∀ {l : List (κ × α)} {k : κ}, lkG l k = none ↔ ¬ k ∈ l.map (·.1)
  | [], k => ⟨fun _ h => (by cases h), fun _ => rfl⟩
  | p :: r, k => by
    rw [lkG_cons, List.map_cons, List.mem_cons]
    by_cases c : p.1 = k
    · rw [if_pos c]
      exact ⟨fun z => (by cases z), fun z => absurd (Or.inl c.symm) z⟩
    · rw [if_neg c, lkG_none]
      exact ⟨fun z w => w.elim (fun e => c e.symm) z, fun z w => z (.inr w)⟩
theorem lkG_some {l : List (κ × α)} {k : κ} (h : k ∈ l.map (·.1)) : ∃ v, lkG l k = some v := by
  cases e : lkG l k with
  | some v => exact ⟨v, rfl⟩
  | none => exact absurd h (lkG_none.mp e)
theorem lkG_mem : ∀ {l : List (κ × α)} {k : κ} {v : α}, lkG l k = some v → (k, v) ∈ l
  | [], _, _, h => by cases h
  | p :: r, k, v, h => by
    rw [lkG_cons] at h
    by_cases c : p.1 = k
    · rw [if_pos c] at h
      obtain rfl := Option.some.inj h
      rw [← c]
      exact List.mem_cons_self
    · rw [if_neg c] at h
      exact List.mem_cons_of_mem _ (lkG_mem h)
theorem lkG_key {l : List (κ × α)} {k : κ} {v : α} (h : lkG l k = some v) : k ∈ l.map (·.1) := List.mem_map_of_mem (f := fun p : κ × α => p.1) (lkG_mem h)
theorem lkG_nd : ∀ {l : List (κ × α)} {p : κ × α}, (l.map (·.1)).Nodup → p ∈ l → lkG l p.1 = some p.2
  | [], _, _, h => by cases h
  | q :: r, p, nd, h => by
    rw [List.map_cons, List.nodup_cons] at nd
    rw [lkG_cons]
    rcases List.mem_cons.mp h with rfl | h
    · rw [if_pos rfl]
    · rw [if_neg (fun z => nd.1 (by rw [z]; exact List.mem_map_of_mem h))]
      exact lkG_nd nd.2 h
def upG (l : List (κ × α)) (k : κ) (v : α) : List (κ × α) := if k ∈ l.map (·.1) then l.map (fun p => if p.1 = k then (p.1, v) else p) else l ++ [(k, v)]
theorem dG_up {g : κ → Key} {f : α → V} (hg : ∀ a b, g a = g b → a = b) {l : List (κ × α)} {k : κ} {v : α} : putK (dG g f l) (g k) (f v) = dG g f (upG l k v) := by
  unfold upG putK dG
  have e : (l.map fun p => (g p.1, f p.2)).any (fun p => decide (p.1 = g k)) = decide (k ∈ l.map (·.1)) := by
    rw [List.any_map]
    by_cases c : k ∈ l.map (·.1)
    · rw [decide_eq_true c]
      obtain ⟨p, hp, ep⟩ := List.mem_map.mp c
      exact List.any_eq_true.mpr ⟨p, hp, decide_eq_true (by show g p.1 = g k; rw [ep])⟩
    · rw [decide_eq_false c]
      refine List.any_eq_false.mpr fun p hp z => c ?_
      have := hg _ _ (of_decide_eq_true z)
      rw [← this]
      exact List.mem_map_of_mem hp
  rw [e]
  by_cases c : k ∈ l.map (·.1)
  · rw [if_pos c, if_pos (decide_eq_true c), List.map_map, List.map_map]
    refine List.map_congr_left fun p _ => ?_
    show (if g p.1 = g k then (g p.1, f v) else (g p.1, f p.2)) = (g (if p.1 = k then (p.1, v) else p).1, f (if p.1 = k then (p.1, v) else p).2)
    by_cases c2 : p.1 = k
    · rw [if_pos c2, if_pos (congrArg g c2)]
    · rw [if_neg c2, if_neg (fun z => c2 (hg _ _ z))]
  · rw [if_neg c, if_neg (fun z => c (of_decide_eq_true z)), List.map_append]
    rfl
theorem upG_keys {l : List (κ × α)} {k : κ} {v : α} : (upG l k v).map (·.1) = if k ∈ l.map (·.1) then l.map (·.1) else l.map (·.1) ++ [k] := by
  unfold upG
  by_cases c : k ∈ l.map (·.1)
  · rw [if_pos c, if_pos c, List.map_map]
    refine List.map_congr_left fun p _ => ?_
    show (if p.1 = k then (p.1, v) else p).1 = p.1
    split <;> rfl
  · rw [if_neg c, if_neg c, List.map_append]
    rfl
theorem upG_nd {l : List (κ × α)} {k : κ} {v : α} (h : (l.map (·.1)).Nodup) : ((upG l k v).map (·.1)).Nodup := by
  rw [upG_keys]
  split
  · exact h
  · rename_i c
    refine List.nodup_append.mpr ⟨h, by simp, fun a ha b hb z => ?_⟩
    rw [List.mem_singleton.mp hb] at z
    exact c (by rw [z] at ha; exact ha)
theorem upG_len {l : List (κ × α)} {k : κ} {v : α} : (upG l k v).length ≤ l.length + 1 := by
  unfold upG
  split
  · rw [List.length_map]; omega
  · rw [List.length_append]; exact Nat.le_refl _
theorem lkG_map {l : List (κ × α)} {k k' : κ} {v : α} : lkG (l.map fun p => if p.1 = k then (p.1, v) else p) k' = if k' = k ∧ k ∈ l.map (·.1) then some v else lkG l k' := by
  induction l with
  | nil => rw [if_neg (fun z => by cases z.2)]; rfl
  | cons p r ih =>
    rw [List.map_cons, lkG_cons, lkG_cons, ih, List.map_cons]
    by_cases c1 : p.1 = k
    · rw [if_pos c1]
      by_cases c2 : k' = k
      · show (if p.1 = k' then some v else _) = _
        rw [if_pos (c1.trans c2.symm), if_pos ⟨c2, by rw [c1]; exact List.mem_cons_self⟩]
      · show (if p.1 = k' then some v else _) = _
        rw [if_neg (fun z => c2 (z.symm.trans c1)), if_neg (fun z => c2 z.1), if_neg (fun z => c2 z.1), if_neg (fun z => c2 (z.symm.trans c1))]
    · rw [if_neg c1]
      by_cases c2 : p.1 = k'
      · have : ¬ k' = k := fun z => c1 (c2.trans z)
        rw [if_pos c2, if_neg (fun z => this z.1), if_pos c2]
      · rw [if_neg c2, if_neg c2]
        by_cases c3 : k' = k ∧ k ∈ r.map (·.1)
        · rw [if_pos c3, if_pos ⟨c3.1, List.mem_cons_of_mem _ c3.2⟩]
        · rw [if_neg c3, if_neg (fun z => c3 ⟨z.1, (List.mem_cons.mp z.2).elim (fun e => absurd e.symm c1) id⟩)]
theorem lkG_app {l : List (κ × α)} {k k' : κ} {v : α} (h : ¬ k ∈ l.map (·.1)) : lkG (l ++ [(k, v)]) k' = if k' = k then some v else lkG l k' := by
  induction l with
  | nil =>
    rw [List.nil_append, lkG_cons]
    by_cases c : k' = k
    · rw [if_pos c, if_pos c.symm]
    · rw [if_neg c, if_neg (Ne.symm c)]
  | cons p r ih =>
    rw [List.map_cons, List.mem_cons] at h
    rw [List.cons_append, lkG_cons, lkG_cons, ih (fun z => h (.inr z))]
    by_cases c : p.1 = k'
    · rw [if_pos c, if_pos c, if_neg (fun z => h (.inl (z.symm.trans c.symm)))]
    · rw [if_neg c, if_neg c]
theorem lkG_up {l : List (κ × α)} {k k' : κ} {v : α} : lkG (upG l k v) k' = if k' = k then some v else lkG l k' := by
  unfold upG
  by_cases c : k ∈ l.map (·.1)
  · rw [if_pos c, lkG_map]
    by_cases e : k' = k
    · rw [if_pos ⟨e, c⟩, if_pos e]
    · rw [if_neg (fun z => e z.1), if_neg e]
  · rw [if_neg c, lkG_app c]
theorem upG_new {l : List (κ × α)} {k : κ} {v : α} (h : ¬ k ∈ l.map (·.1)) : upG l k v = l ++ [(k, v)] := by
  unfold upG
  rw [if_neg h]
end DG
theorem inr_inj (a b : Str) (h : (Sum.inr a : Key) = Sum.inr b) : a = b := by injection h
theorem inl_inj (a b : Int) (h : (Sum.inl a : Key) = Sum.inl b) : a = b := by injection h
theorem dget_dG {κ α : Type} [DecidableEq κ] {g : κ → Key} {f : α → V} (hg : ∀ a b, g a = g b → a = b) {H : Hp} {a : Addr} {l : List (κ × α)} (h : H a = some (.dK (dG g f l))) (k : κ) : DGet H a (kV (g k)) ((lkG l k).map f) := by
  have := DGet.k (k := g k) h
  rw [val_dG hg] at this
  exact this
theorem dG_len {κ α : Type} [DecidableEq κ] {g : κ → Key} {f : α → V} {l : List (κ × α)} : (dG g f l).length = l.length := List.length_map _
theorem dput_dG {κ α : Type} [DecidableEq κ] {g : κ → Key} {f : α → V} (hg : ∀ a b, g a = g b → a = b) {H : Hp} {a : Addr} {l : List (κ × α)} (h : H a = some (.dK (dG g f l))) (hl : l.length ≤ 1000) (k : κ) (v : α) : DPut H a (kV (g k)) (f v) (upd H a (.dK (dG g f (upG l k v)))) := by
  have := DPut.k (k := g k) (v := f v) h (by rw [dG_len]; exact small1000 hl)
  rw [dG_up hg] at this
  exact this
end
end My
namespace My
open PySem L2
open Blk (sg sg_inj sg_app)
section
variable {P : Program} {w : World} {K : PySem.W.Frag} {mg : Str → Option Value} {base : Heap}
def sp_grown (_K : PySem.W.Frag) : Sp := fun vs H Q _ => ∃ l c s : Int, vs = [.int l, .int c, .int s] ∧ 0 < s ∧ s ≤ 1000 ∧ Q (.int (l + c * (2520 / s))) H
theorem sc_grown : FnScope ["level", "cost", "share"] ["level", "cost", "share"] (defScope s_grown) := ⟨rfl, rfl, rfl, by decide +kernel, rfl, by decide +kernel, by decide +kernel⟩
theorem ok_grown {fa cLine cUnknown cTwice cHallError tP_first_of : Addr} {fd : FuncData} (F : Fun K "grown" "grown" s_grown fa fd) (T : Txt K mg cLine cUnknown cTwice cHallError tP_first_of)  :
    FnOk P w K mg base CX0 1 fa fd ["level", "cost", "share"] (sp_grown K) := by
  refine F.ok sc_grown (fun vs H Q E h => ?_) (fun cdv A outer s H vs Q E hr h => ?_)
  · obtain ⟨l, c, s, rfl, _⟩ := h
    rfl
  obtain ⟨l, c, s, rfl, s0, s1, q⟩ := h
  refine ⟨_, (pss_one (ps_ret (pe_op op_add (pv 0) (pe_op op_mul (pv 1) (pe_op op_fdiv (pe_gi T.COMMON rfl) (pv 2)))))), ?_⟩
  have a := Int.ediv_nonneg (show (0 : Int) ≤ 2520 by decide) (Int.le_of_lt s0)
  have b := Int.ediv_le_self s (show (0 : Int) ≤ 2520 by decide)
  exact ⟨_, rfl, _, rfl, _, rfl, _, _, rfl, rfl, ⟨by omega, by omega⟩, _, _, rfl, rfl, .inr ⟨by omega, by omega⟩, _, _, rfl, rfl, q⟩
def sp_lifted (_K : PySem.W.Frag) : Sp := fun vs H Q _ => ∃ l m : Int, vs = [.int l, .int m] ∧ Q (.int (max l m)) H
theorem sc_lifted : FnScope ["level", "mark"] ["level", "mark"] (defScope s_lifted) := ⟨rfl, rfl, rfl, by decide +kernel, rfl, by decide +kernel, by decide +kernel⟩
theorem ok_lifted {fa cLine cUnknown cTwice cHallError tP_first_of : Addr} {fd : FuncData} (F : Fun K "lifted" "lifted" s_lifted fa fd) (T : Txt K mg cLine cUnknown cTwice cHallError tP_first_of)  :
    FnOk P w K mg base CX0 1 fa fd ["level", "mark"] (sp_lifted K) := by
  refine F.ok sc_lifted (fun vs H Q E h => ?_) (fun cdv A outer s H vs Q E hr h => ?_)
  · obtain ⟨l, m, rfl, _⟩ := h
    rfl
  obtain ⟨l, m, rfl, q⟩ := h
  refine ⟨_, (pss_one (ps_ret (pe_callB (call_max2 rfl) rfl T.max bt_max (pa_cons (pv 0) (pa_cons (pv 1) pa_nil))))), ?_⟩
  refine ⟨_, rfl, _, rfl, _, _, rfl, ?_⟩
  rw [show (if m > l then m else l) = max l m by rw [Int.max_def]; split <;> split <;> omega]
  exact q
abbrev LRow := Addr × Int × Int × Str
def lrV (r : LRow) : List V := [.int r.2.1, .int r.2.2.1, .str r.2.2.2]
def lrK (r : LRow) : List V := [.int (-r.2.1), .int r.2.2.1, .str r.2.2.2]
structure LRowsAt (H : Hp) (a : Addr) (rs : List LRow) : Prop where
  l : H a = some (.lst (rs.map fun r => .ref r.1))
  t : ∀ r ∈ rs, H r.1 = some (.tup (lrV r))
def lmPos : Pos := match defBody s_first_of with
  | [_, .Return (some (.Call _ _ [⟨_, .Lambda _ _ _ p, _⟩] _)) _] => p
  | _ => ⟨0, 0, 0, 0⟩
abbrev lmQual : Str := (Str.ofString "first_of" ++ ".<locals>.") ++ "<lambda>"
abbrev LTab (H : Hp) (tP : Addr) : Prop := TabOk H tP lmPos lmQual
def rowD (rs : List LRow) (i : Nat) : LRow := rs.getD i (0, 0, 0, Str.ofString "")
def sp_first_of (tP : Addr) : Sp := fun vs H Q _ => ∃ (a : Addr) (rs : List LRow), vs = [.ref a] ∧ LRowsAt H a rs ∧ 0 < rs.length ∧ rs.length ≤ 300 ∧ LTab H tP ∧ ∀ (H' : Hp), SameP tP H H' → LTab H' tP → Q (.int ((argBest (fun i j => lexV (lrK (rowD rs i)) (lrK (rowD rs j))) (rs.length - 1) : Nat) : Int)) H'
theorem sc_first_of : FnScope ["rows", "places"] ["rows"] (defScope s_first_of) := ⟨rfl, rfl, rfl, by decide +kernel, rfl, by decide +kernel, by decide +kernel⟩
theorem ok_first_of {fa cL cLine cUnknown cTwice cHallError tP_first_of : Addr} {fd : FuncData} (F : Fun K "first_of" "first_of" s_first_of fa fd) (T : Txt K mg cLine cUnknown cTwice cHallError tP_first_of) (hL : fd.code = .ref cL) (hC : PySem.W.codeHdIn K cL tP_first_of = true) (BM : BMain base mg)  :
    FnOk P w K mg base CX0 2 fa fd ["rows"] (sp_first_of tP_first_of) := by
  refine F.okL hL sc_first_of (fun vs H Q E h => ?_) (fun A outer s H vs Q E hr h => ?_)
  · obtain ⟨a, rs, rfl, _⟩ := h
    rfl
  obtain ⟨a, rs, rfl, R, l0, l1, ht, q⟩ := h
  refine ⟨_, (pss_cons (ps_set (i := 1) sc_first_of.nd rfl (by first | exact Or.inl rfl | exact Or.inr rfl) (pe_listRange1 rfl rfl T.list rfl T.range (pa_cons (pe_callB call_len_seq rfl T.len PySem.boot_len (pa_cons (pv 0) pa_nil)) pa_nil)))
  (pss_one (ps_ret (pe_minlam (x := "place") (y := "rows") (iy := 0) hr rfl T.min (pa_cons (pv 1) pa_nil) (LamScope.mk2 (by first | exact .inl rfl | exact .inr rfl) (by decide +kernel) rfl rfl rfl) rfl rfl BM rfl hC rfl rfl (fun _ _ _ _ => rfl) (fun _ _ _ _ _ _ => by exact (pe_tup (pa_cons (pe_un un_neg (pe_ixK (K := K) (r := rIxT) rfl ix_tup (pe_ixK (K := K) (r := rIxLA) rfl ix_listA (pv 1) (pv 0) (fun _ _ => rfl)) pe_int (fun _ _ => rfl))) (pa_cons (pe_ixK (K := K) (r := rIxT) rfl ix_tup (pe_ixK (K := K) (r := rIxLA) rfl ix_listA (pv 1) (pv 0) (fun _ _ => rfl)) pe_int (fun _ _ => rfl)) (pa_cons (pe_ixK (K := K) (r := rIxT) rfl ix_tup (pe_ixK (K := K) (r := rIxLA) rfl ix_listA (pv 1) (pv 0) (fun _ _ => rfl)) pe_int (fun _ _ => rfl)) pa_nil))))))))), ?_⟩
  obtain ⟨tps, htp⟩ := ht.is
  have ll : (rs.map fun r => V.ref r.1).length = rs.length := List.length_map _
  refine ⟨_, rfl, a, _, rfl, .inl (SqL.of R.l), _, rfl, ⟨by omega, by omega⟩, small (by omega), by omega, fun l nl => ?_⟩
  have s1 := same_new nl (.lst (rngV 0 ((rs.map fun r => V.ref r.1).length : Int).toNat))
  have hl1 : upd H l (.lst (rngV 0 ((rs.map fun r => V.ref r.1).length : Int).toNat)) l = some (.lst (rngV 0 ((rs.map fun r => V.ref r.1).length : Int).toNat)) := upd_same
  generalize upd H l (.lst (rngV 0 ((rs.map fun r => V.ref r.1).length : Int).toNat)) = H1 at s1 hl1 ⊢
  have lr : (rngV 0 ((rs.map fun r => V.ref r.1).length : Int).toNat).length = rs.length := by unfold rngV; rw [List.length_map, List.length_range]; omega
  have at' : ∀ (i : Nat) x, (rngV 0 ((rs.map fun r => V.ref r.1).length : Int).toNat)[i]? = some x → x = .int (i : Int) ∧ i < rs.length := fun i x h => by
    have li := (List.getElem?_eq_some_iff.mp h).1
    rw [lr] at li
    unfold rngV at h
    rw [List.getElem?_map, List.getElem?_range (by omega)] at h
    refine ⟨?_, li⟩
    rw [← Option.some.inj h]
    show V.int (0 + (i : Int)) = V.int (i : Int)
    rw [Int.zero_add]
  refine ⟨_, rfl, l, _, .ref a, fun i => lrK (rowD rs i), rfl, SqL.of hl1, by rw [lr]; exact l0, rfl, ht.same s1, fun i j _ _ => ⟨rfl, rfl, fun n hn => ?_⟩, fun H2 s2 i x hx => ?_, fun H' v s2 t2 hv => ?_⟩
  · match n, hn with
    | 0, _ => exact .inl ⟨_, _, rfl, rfl⟩
    | 1, _ => exact .inl ⟨_, _, rfl, rfl⟩
    | 2, _ => exact .inr ⟨_, _, rfl, rfl⟩
  · obtain ⟨rfl, li⟩ := at' i x hx
    have k2 : ∀ b o, H b = some o → o ≠ .tbl tps → H2 b = some o := fun b o e n => s2 _ _ (ne_of e htp n) (s1 _ _ e)
    have hR2 := k2 _ _ R.l (by intro z; cases z)
    obtain ⟨r, er⟩ : ∃ r, rs[i]? = some r := ⟨_, List.getElem?_eq_getElem li⟩
    have hr2 := k2 _ _ (R.t r (List.mem_of_getElem? er)) (by intro z; cases z)
    have ev : (rs.map fun r => V.ref r.1)[i]? = some (.ref r.1) := by rw [List.getElem?_map, er]; rfl
    have one : ∀ v, (rs.map fun r => V.ref r.1)[((i : Nat) : Int).toNat]? = some v → v = .ref r.1 := fun v hv => by
      rw [Int.toNat_natCast, ev] at hv
      exact (Option.some.inj hv).symm
    have er' : rowD rs i = r := by unfold rowD; rw [List.getD_eq_getElem?_getD, er]; rfl
    refine ⟨_, rfl, _, rfl, a, _, _, rfl, rfl, SqL.of hR2, by omega, by omega, fun v hv => ?_⟩
    obtain rfl := one v hv
    refine ⟨r.1, _, 0, _, rfl, rfl, SqT.of hr2, rfl, _, rfl, _, rfl, _, rfl, a, _, _, rfl, rfl, SqL.of hR2, by omega, by omega, fun v hv => ?_⟩
    obtain rfl := one v hv
    refine ⟨r.1, _, 1, _, rfl, rfl, SqT.of hr2, rfl, _, rfl, _, rfl, a, _, _, rfl, rfl, SqL.of hR2, by omega, by omega, fun v hv => ?_⟩
    obtain rfl := one v hv
    refine ⟨r.1, _, 2, _, rfl, rfl, SqT.of hr2, rfl, small (by show 3 ≤ 1000; decide), fun p np => ?_⟩
    exact ⟨p, rfl, same_new np _, by show _ = some (HO.tup (lrK (rowD rs i))); rw [er']; exact upd_same⟩
  · obtain ⟨rfl, _⟩ := at' _ v hv
    rw [lr]
    exact q H' (s1.p.trans s2) t2
end
end My
namespace My
open PySem L2
open Blk (sg sg_inj sg_app)
section
variable {P : Program} {w : World} {K : PySem.W.Frag} {mg : Str → Option Value} {base : Heap}
abbrev Note := Addr × Str × Int × Str
structure LA where
  x : Addr
  dx : Addr
  ra : Addr
  sh : Addr
  lv : Addr
  ma : Addr
  ow : Addr
  co : Addr
  no : Addr
  qu : Addr
structure LD where
  ra : List (Str × Int)
  sh : List (Str × Int)
  lv : List (Str × Int)
  ma : List (Int × Int)
  ow : List (Str × Str)
  co : List (Str × Int)
  no : List (Str × Addr × List Note)
  qu : List (Str × Unit)
def LA.ds (L : LA) : List Addr := [L.ra, L.sh, L.lv, L.ma, L.ow, L.co, L.no, L.qu]
def lnF (L : LA) : List (Str × V) := [("ranks", .ref L.ra), ("shares", .ref L.sh), ("levels", .ref L.lv), ("marks", .ref L.ma), ("owners", .ref L.ow), ("costs", .ref L.co), ("notes", .ref L.no), ("queue", .ref L.qu)]
def noV (n : Addr × List Note) : V := .ref n.1
def quV (_ : Unit) : V := .bl true
def ntV (t : Note) : List V := [.str t.2.1, .int t.2.2.1, .str t.2.2.2]
structure LnAt (cL : Addr) (H : Hp) (L : LA) (D : LD) : Prop where
  o : H L.x = some (.ins cL L.dx (lnF L))
  ra : H L.ra = some (.dK (dG Sum.inr V.int D.ra))
  sh : H L.sh = some (.dK (dG Sum.inr V.int D.sh))
  lv : H L.lv = some (.dK (dG Sum.inr V.int D.lv))
  ma : H L.ma = some (.dK (dG Sum.inl V.int D.ma))
  ow : H L.ow = some (.dK (dG Sum.inr V.str D.ow))
  co : H L.co = some (.dK (dG Sum.inr V.int D.co))
  no : H L.no = some (.dK (dG Sum.inr noV D.no))
  qu : H L.qu = some (.dK (dG Sum.inr quV D.qu))
  nl : ∀ n ∈ D.no, H n.2.1 = some (.lst (n.2.2.map fun t => V.ref t.1))
  nt : ∀ n ∈ D.no, ∀ t ∈ n.2.2, H t.1 = some (.tup (ntV t))
  nd : L.ds.Nodup
  nn : (D.no.map (·.2.1)).Nodup
theorem LnAt.same {cL : Addr} {H H' : Hp} {L : LA} {D : LD} (A : LnAt cL H L D) (s : Same H H') : LnAt cL H' L D := ⟨s _ _ A.o, s _ _ A.ra, s _ _ A.sh, s _ _ A.lv, s _ _ A.ma, s _ _ A.ow, s _ _ A.co, s _ _ A.no, s _ _ A.qu, fun n h => s _ _ (A.nl n h), fun n h t ht => s _ _ (A.nt n h t ht), A.nd, A.nn⟩
theorem ne8 {α : Type} {l : List α} {a b : α} {i j : Nat} (nd : l.Nodup) (hi : l[i]? = some a) (hj : l[j]? = some b) (ne : i ≠ j) : a ≠ b := fun z => by
  obtain ⟨li, ei⟩ := List.getElem?_eq_some_iff.mp hi
  obtain ⟨lj, ej⟩ := List.getElem?_eq_some_iff.mp hj
  have p := List.pairwise_iff_getElem.mp (List.nodup_iff_pairwise_ne.mp nd)
  rcases Nat.lt_or_gt_of_ne ne with h | h
  · exact p i j li lj h (by rw [ei, ej, z])
  · exact p j i lj li h (by rw [ei, ej, z])
def LF (L : LA) (D : LD) (b : Addr) : Prop := b ∈ L.ds ∨ ∃ n ∈ D.no, b = n.2.1
theorem LnAt.set_ra {cL : Addr} {H : Hp} {L : LA} {D : LD} (A : LnAt cL H L D) (v : List (Str × Int)) : LnAt cL (upd H L.ra (.dK (dG Sum.inr V.int v))) L { D with ra := v } := by
  have k : ∀ b o, b ≠ L.ra → H b = some o → upd H L.ra (.dK (dG Sum.inr V.int v)) b = some o := fun b o nb e => by rw [upd_ne nb]; exact e
  exact ⟨k _ _ (ne_of A.o A.ra (by intro z; cases z)) A.o, upd_same, k _ _ (ne8 A.nd (i := 1) (j := 0) rfl rfl (by decide)) A.sh, k _ _ (ne8 A.nd (i := 2) (j := 0) rfl rfl (by decide)) A.lv, k _ _ (ne8 A.nd (i := 3) (j := 0) rfl rfl (by decide)) A.ma, k _ _ (ne8 A.nd (i := 4) (j := 0) rfl rfl (by decide)) A.ow, k _ _ (ne8 A.nd (i := 5) (j := 0) rfl rfl (by decide)) A.co, k _ _ (ne8 A.nd (i := 6) (j := 0) rfl rfl (by decide)) A.no, k _ _ (ne8 A.nd (i := 7) (j := 0) rfl rfl (by decide)) A.qu, fun n h => k _ _ (ne_of (A.nl n h) A.ra (by intro z; cases z)) (A.nl n h), fun n h t ht => k _ _ (ne_of (A.nt n h t ht) A.ra (by intro z; cases z)) (A.nt n h t ht), A.nd, A.nn⟩
theorem LnAt.set_sh {cL : Addr} {H : Hp} {L : LA} {D : LD} (A : LnAt cL H L D) (v : List (Str × Int)) : LnAt cL (upd H L.sh (.dK (dG Sum.inr V.int v))) L { D with sh := v } := by
  have k : ∀ b o, b ≠ L.sh → H b = some o → upd H L.sh (.dK (dG Sum.inr V.int v)) b = some o := fun b o nb e => by rw [upd_ne nb]; exact e
  exact ⟨k _ _ (ne_of A.o A.sh (by intro z; cases z)) A.o, k _ _ (ne8 A.nd (i := 0) (j := 1) rfl rfl (by decide)) A.ra, upd_same, k _ _ (ne8 A.nd (i := 2) (j := 1) rfl rfl (by decide)) A.lv, k _ _ (ne8 A.nd (i := 3) (j := 1) rfl rfl (by decide)) A.ma, k _ _ (ne8 A.nd (i := 4) (j := 1) rfl rfl (by decide)) A.ow, k _ _ (ne8 A.nd (i := 5) (j := 1) rfl rfl (by decide)) A.co, k _ _ (ne8 A.nd (i := 6) (j := 1) rfl rfl (by decide)) A.no, k _ _ (ne8 A.nd (i := 7) (j := 1) rfl rfl (by decide)) A.qu, fun n h => k _ _ (ne_of (A.nl n h) A.sh (by intro z; cases z)) (A.nl n h), fun n h t ht => k _ _ (ne_of (A.nt n h t ht) A.sh (by intro z; cases z)) (A.nt n h t ht), A.nd, A.nn⟩
theorem LnAt.set_lv {cL : Addr} {H : Hp} {L : LA} {D : LD} (A : LnAt cL H L D) (v : List (Str × Int)) : LnAt cL (upd H L.lv (.dK (dG Sum.inr V.int v))) L { D with lv := v } := by
  have k : ∀ b o, b ≠ L.lv → H b = some o → upd H L.lv (.dK (dG Sum.inr V.int v)) b = some o := fun b o nb e => by rw [upd_ne nb]; exact e
  exact ⟨k _ _ (ne_of A.o A.lv (by intro z; cases z)) A.o, k _ _ (ne8 A.nd (i := 0) (j := 2) rfl rfl (by decide)) A.ra, k _ _ (ne8 A.nd (i := 1) (j := 2) rfl rfl (by decide)) A.sh, upd_same, k _ _ (ne8 A.nd (i := 3) (j := 2) rfl rfl (by decide)) A.ma, k _ _ (ne8 A.nd (i := 4) (j := 2) rfl rfl (by decide)) A.ow, k _ _ (ne8 A.nd (i := 5) (j := 2) rfl rfl (by decide)) A.co, k _ _ (ne8 A.nd (i := 6) (j := 2) rfl rfl (by decide)) A.no, k _ _ (ne8 A.nd (i := 7) (j := 2) rfl rfl (by decide)) A.qu, fun n h => k _ _ (ne_of (A.nl n h) A.lv (by intro z; cases z)) (A.nl n h), fun n h t ht => k _ _ (ne_of (A.nt n h t ht) A.lv (by intro z; cases z)) (A.nt n h t ht), A.nd, A.nn⟩
theorem LnAt.set_ma {cL : Addr} {H : Hp} {L : LA} {D : LD} (A : LnAt cL H L D) (v : List (Int × Int)) : LnAt cL (upd H L.ma (.dK (dG Sum.inl V.int v))) L { D with ma := v } := by
  have k : ∀ b o, b ≠ L.ma → H b = some o → upd H L.ma (.dK (dG Sum.inl V.int v)) b = some o := fun b o nb e => by rw [upd_ne nb]; exact e
  exact ⟨k _ _ (ne_of A.o A.ma (by intro z; cases z)) A.o, k _ _ (ne8 A.nd (i := 0) (j := 3) rfl rfl (by decide)) A.ra, k _ _ (ne8 A.nd (i := 1) (j := 3) rfl rfl (by decide)) A.sh, k _ _ (ne8 A.nd (i := 2) (j := 3) rfl rfl (by decide)) A.lv, upd_same, k _ _ (ne8 A.nd (i := 4) (j := 3) rfl rfl (by decide)) A.ow, k _ _ (ne8 A.nd (i := 5) (j := 3) rfl rfl (by decide)) A.co, k _ _ (ne8 A.nd (i := 6) (j := 3) rfl rfl (by decide)) A.no, k _ _ (ne8 A.nd (i := 7) (j := 3) rfl rfl (by decide)) A.qu, fun n h => k _ _ (ne_of (A.nl n h) A.ma (by intro z; cases z)) (A.nl n h), fun n h t ht => k _ _ (ne_of (A.nt n h t ht) A.ma (by intro z; cases z)) (A.nt n h t ht), A.nd, A.nn⟩
theorem LnAt.set_ow {cL : Addr} {H : Hp} {L : LA} {D : LD} (A : LnAt cL H L D) (v : List (Str × Str)) : LnAt cL (upd H L.ow (.dK (dG Sum.inr V.str v))) L { D with ow := v } := by
  have k : ∀ b o, b ≠ L.ow → H b = some o → upd H L.ow (.dK (dG Sum.inr V.str v)) b = some o := fun b o nb e => by rw [upd_ne nb]; exact e
  exact ⟨k _ _ (ne_of A.o A.ow (by intro z; cases z)) A.o, k _ _ (ne8 A.nd (i := 0) (j := 4) rfl rfl (by decide)) A.ra, k _ _ (ne8 A.nd (i := 1) (j := 4) rfl rfl (by decide)) A.sh, k _ _ (ne8 A.nd (i := 2) (j := 4) rfl rfl (by decide)) A.lv, k _ _ (ne8 A.nd (i := 3) (j := 4) rfl rfl (by decide)) A.ma, upd_same, k _ _ (ne8 A.nd (i := 5) (j := 4) rfl rfl (by decide)) A.co, k _ _ (ne8 A.nd (i := 6) (j := 4) rfl rfl (by decide)) A.no, k _ _ (ne8 A.nd (i := 7) (j := 4) rfl rfl (by decide)) A.qu, fun n h => k _ _ (ne_of (A.nl n h) A.ow (by intro z; cases z)) (A.nl n h), fun n h t ht => k _ _ (ne_of (A.nt n h t ht) A.ow (by intro z; cases z)) (A.nt n h t ht), A.nd, A.nn⟩
theorem LnAt.set_co {cL : Addr} {H : Hp} {L : LA} {D : LD} (A : LnAt cL H L D) (v : List (Str × Int)) : LnAt cL (upd H L.co (.dK (dG Sum.inr V.int v))) L { D with co := v } := by
  have k : ∀ b o, b ≠ L.co → H b = some o → upd H L.co (.dK (dG Sum.inr V.int v)) b = some o := fun b o nb e => by rw [upd_ne nb]; exact e
  exact ⟨k _ _ (ne_of A.o A.co (by intro z; cases z)) A.o, k _ _ (ne8 A.nd (i := 0) (j := 5) rfl rfl (by decide)) A.ra, k _ _ (ne8 A.nd (i := 1) (j := 5) rfl rfl (by decide)) A.sh, k _ _ (ne8 A.nd (i := 2) (j := 5) rfl rfl (by decide)) A.lv, k _ _ (ne8 A.nd (i := 3) (j := 5) rfl rfl (by decide)) A.ma, k _ _ (ne8 A.nd (i := 4) (j := 5) rfl rfl (by decide)) A.ow, upd_same, k _ _ (ne8 A.nd (i := 6) (j := 5) rfl rfl (by decide)) A.no, k _ _ (ne8 A.nd (i := 7) (j := 5) rfl rfl (by decide)) A.qu, fun n h => k _ _ (ne_of (A.nl n h) A.co (by intro z; cases z)) (A.nl n h), fun n h t ht => k _ _ (ne_of (A.nt n h t ht) A.co (by intro z; cases z)) (A.nt n h t ht), A.nd, A.nn⟩
theorem LnAt.set_qu {cL : Addr} {H : Hp} {L : LA} {D : LD} (A : LnAt cL H L D) (v : List (Str × Unit)) : LnAt cL (upd H L.qu (.dK (dG Sum.inr quV v))) L { D with qu := v } := by
  have k : ∀ b o, b ≠ L.qu → H b = some o → upd H L.qu (.dK (dG Sum.inr quV v)) b = some o := fun b o nb e => by rw [upd_ne nb]; exact e
  exact ⟨k _ _ (ne_of A.o A.qu (by intro z; cases z)) A.o, k _ _ (ne8 A.nd (i := 0) (j := 7) rfl rfl (by decide)) A.ra, k _ _ (ne8 A.nd (i := 1) (j := 7) rfl rfl (by decide)) A.sh, k _ _ (ne8 A.nd (i := 2) (j := 7) rfl rfl (by decide)) A.lv, k _ _ (ne8 A.nd (i := 3) (j := 7) rfl rfl (by decide)) A.ma, k _ _ (ne8 A.nd (i := 4) (j := 7) rfl rfl (by decide)) A.ow, k _ _ (ne8 A.nd (i := 5) (j := 7) rfl rfl (by decide)) A.co, k _ _ (ne8 A.nd (i := 6) (j := 7) rfl rfl (by decide)) A.no, upd_same, fun n h => k _ _ (ne_of (A.nl n h) A.qu (by intro z; cases z)) (A.nl n h), fun n h t ht => k _ _ (ne_of (A.nt n h t ht) A.qu (by intro z; cases z)) (A.nt n h t ht), A.nd, A.nn⟩
theorem LnAt.mem {cL : Addr} {H : Hp} {L : LA} {D : LD} (_ : LnAt cL H L D) : True := trivial
def OffL (L : LA) (D : LD) (H H' : Hp) : Prop := ∀ b o, ¬ LF L D b → H b = some o → H' b = some o
theorem OffL.refl (L : LA) (D : LD) (H : Hp) : OffL L D H H := fun _ _ _ e => e
theorem Same.offL {L : LA} {D : LD} {H H' : Hp} (s : Same H H') : OffL L D H H' := fun b o _ e => s b o e
theorem lf_ra (L : LA) (D : LD) : LF L D L.ra := .inl (List.mem_of_getElem? (i := 0) rfl)
theorem lf_sh (L : LA) (D : LD) : LF L D L.sh := .inl (List.mem_of_getElem? (i := 1) rfl)
theorem lf_lv (L : LA) (D : LD) : LF L D L.lv := .inl (List.mem_of_getElem? (i := 2) rfl)
theorem lf_ma (L : LA) (D : LD) : LF L D L.ma := .inl (List.mem_of_getElem? (i := 3) rfl)
theorem lf_ow (L : LA) (D : LD) : LF L D L.ow := .inl (List.mem_of_getElem? (i := 4) rfl)
theorem lf_co (L : LA) (D : LD) : LF L D L.co := .inl (List.mem_of_getElem? (i := 5) rfl)
theorem lf_no (L : LA) (D : LD) : LF L D L.no := .inl (List.mem_of_getElem? (i := 6) rfl)
theorem lf_qu (L : LA) (D : LD) : LF L D L.qu := .inl (List.mem_of_getElem? (i := 7) rfl)
theorem putF_add {f : Str} {v : V} : ∀ {fs : List (Str × V)}, ¬ f ∈ fs.map (·.1) → putF f v fs = fs ++ [(f, v)]
  | [], _ => rfl
  | (g, u) :: r, h => by
    have h1 : ¬ g = f := fun e => h (by rw [← e]; exact List.mem_cons_self)
    show (if g = f then _ else (g, u) :: putF f v r) = _
    rw [if_neg h1, putF_add fun m => h (List.mem_cons_of_mem _ m)]
    rfl
structure IniL (cL x dx : Addr) (H0 H : Hp) (fs : List (Str × Addr)) : Prop where
  o : H x = some (.ins cL dx (fs.map fun p => (p.1, V.ref p.2)))
  d : ∀ p ∈ fs, H p.2 = some (.dK []) ∧ H0 p.2 = none
  nd : (fs.map (·.2)).Nodup
  k : ∀ b o, b ≠ x → H0 b = some o → H b = some o
theorem IniL.next {cL x dx : Addr} {H0 H : Hp} {fs : List (Str × Addr)} (I : IniL cL x dx H0 H fs) {f : Str} {d : Addr} (nd : H d = none) (nf : ¬ f ∈ fs.map (·.1)) : IniL cL x dx H0 (upd (upd H d (.dK [])) x (.ins cL dx (putF f (.ref d) (fs.map fun p => (p.1, V.ref p.2))))) (fs ++ [(f, d)]) := by
  have nx : x ≠ d := ne_of_none I.o nd
  have h0 : H0 d = none := by
    cases e : H0 d with
    | none => rfl
    | some u =>
      have := I.k d u (Ne.symm nx) e
      rw [nd] at this
      cases this
  rw [putF_add (by rw [List.map_map]; exact nf)]
  refine ⟨by rw [upd_same, List.map_append]; rfl, fun p hp => ?_, ?_, fun b o nb e => by rw [upd_ne nb, upd_ne (ne_of_none (I.k b o nb e) nd)]; exact I.k b o nb e⟩
  · rcases List.mem_append.mp hp with hp | hp
    · have e := (I.d p hp).1
      rw [upd_ne (ne_of e I.o (by intro z; cases z)), upd_ne (ne_of_none e nd)]
      exact ⟨e, (I.d p hp).2⟩
    · rw [List.mem_singleton.mp hp]
      refine ⟨?_, h0⟩
      show upd (upd H d _) x _ d = _
      rw [upd_ne (Ne.symm nx), upd_same]
  · rw [List.map_append]
    refine List.nodup_append.mpr ⟨I.nd, by simp, fun a ha b hb z => ?_⟩
    obtain ⟨p, hp, rfl⟩ := List.mem_map.mp ha
    rw [List.map_cons, List.map_nil, List.mem_singleton] at hb
    have e := (I.d p hp).1
    rw [z, hb, nd] at e
    cases e
def sp_Ln_init (cL : Addr) : Sp := fun vs H Q _ => ∃ x dx, vs = [.ref x] ∧ H x = some (.ins cL dx []) ∧ ∀ (L : LA) H', L.x = x → L.dx = dx → (∀ b o, b ≠ x → H b = some o → H' b = some o) → (∀ b ∈ L.ds, H b = none) → LnAt cL H' L ⟨[], [], [], [], [], [], [], []⟩ → Q .non H'
theorem sc_Line_init : FnScope ["self"] ["self"] (defScope s_Line_init) := ⟨rfl, rfl, rfl, by decide +kernel, rfl, by decide +kernel, by decide +kernel⟩
theorem ok_Line_init {fa cLine cUnknown cTwice cHallError tP_first_of : Addr} {fd : FuncData} (F : Fun K "__init__" "Line.__init__" s_Line_init fa fd) (T : Txt K mg cLine cUnknown cTwice cHallError tP_first_of)  :
    FnOk P w K mg base CX0 1 fa fd ["self"] (sp_Ln_init cLine) := by
  refine F.ok sc_Line_init (fun vs H Q E h => ?_) (fun cdv A outer s H vs Q E hr h => ?_)
  · obtain ⟨x, dx, rfl, _⟩ := h
    rfl
  obtain ⟨x, dx, rfl, hx, q⟩ := h
  refine ⟨_, (pss_cons (ps_fld (pv 0) pe_dnewK rfl)
  (pss_cons (ps_fld (pv 0) pe_dnewK rfl)
  (pss_cons (ps_fld (pv 0) pe_dnewK rfl)
  (pss_cons (ps_fld (pv 0) pe_dnewK rfl)
  (pss_cons (ps_fld (pv 0) pe_dnewK rfl)
  (pss_cons (ps_fld (pv 0) pe_dnewK rfl)
  (pss_cons (ps_fld (pv 0) pe_dnewK rfl)
  (pss_one (ps_fld (pv 0) pe_dnewK rfl))))))))), ?_⟩
  have I0 : IniL cLine x dx H H [] := ⟨hx, fun p h => (by cases h), List.nodup_nil, fun _ _ _ e => e⟩
  refine fun d1 n1 => ⟨_, rfl, x, cLine, dx, _, rfl, (by rw [upd_ne (ne_of_none I0.o n1)]; exact I0.o), T.cl_Line, T.n_Line_ranks, (by show 0 < 1000; decide), ?_⟩
  have I1 := I0.next n1 (f := "ranks") (by show ¬ ("ranks" : Str) ∈ ([] : List Str); decide +kernel)
  generalize upd (upd _ d1 _) x _ = H1 at I1 ⊢
  refine fun d2 n2 => ⟨_, rfl, x, cLine, dx, _, rfl, (by rw [upd_ne (ne_of_none I1.o n2)]; exact I1.o), T.cl_Line, T.n_Line_shares, (by show 1 < 1000; decide), ?_⟩
  have I2 := I1.next n2 (f := "shares") (by show ¬ ("shares" : Str) ∈ (["ranks"] : List Str); decide +kernel)
  generalize upd (upd _ d2 _) x _ = H2 at I2 ⊢
  refine fun d3 n3 => ⟨_, rfl, x, cLine, dx, _, rfl, (by rw [upd_ne (ne_of_none I2.o n3)]; exact I2.o), T.cl_Line, T.n_Line_levels, (by show 2 < 1000; decide), ?_⟩
  have I3 := I2.next n3 (f := "levels") (by show ¬ ("levels" : Str) ∈ (["ranks", "shares"] : List Str); decide +kernel)
  generalize upd (upd _ d3 _) x _ = H3 at I3 ⊢
  refine fun d4 n4 => ⟨_, rfl, x, cLine, dx, _, rfl, (by rw [upd_ne (ne_of_none I3.o n4)]; exact I3.o), T.cl_Line, T.n_Line_marks, (by show 3 < 1000; decide), ?_⟩
  have I4 := I3.next n4 (f := "marks") (by show ¬ ("marks" : Str) ∈ (["ranks", "shares", "levels"] : List Str); decide +kernel)
  generalize upd (upd _ d4 _) x _ = H4 at I4 ⊢
  refine fun d5 n5 => ⟨_, rfl, x, cLine, dx, _, rfl, (by rw [upd_ne (ne_of_none I4.o n5)]; exact I4.o), T.cl_Line, T.n_Line_owners, (by show 4 < 1000; decide), ?_⟩
  have I5 := I4.next n5 (f := "owners") (by show ¬ ("owners" : Str) ∈ (["ranks", "shares", "levels", "marks"] : List Str); decide +kernel)
  generalize upd (upd _ d5 _) x _ = H5 at I5 ⊢
  refine fun d6 n6 => ⟨_, rfl, x, cLine, dx, _, rfl, (by rw [upd_ne (ne_of_none I5.o n6)]; exact I5.o), T.cl_Line, T.n_Line_costs, (by show 5 < 1000; decide), ?_⟩
  have I6 := I5.next n6 (f := "costs") (by show ¬ ("costs" : Str) ∈ (["ranks", "shares", "levels", "marks", "owners"] : List Str); decide +kernel)
  generalize upd (upd _ d6 _) x _ = H6 at I6 ⊢
  refine fun d7 n7 => ⟨_, rfl, x, cLine, dx, _, rfl, (by rw [upd_ne (ne_of_none I6.o n7)]; exact I6.o), T.cl_Line, T.n_Line_notes, (by show 6 < 1000; decide), ?_⟩
  have I7 := I6.next n7 (f := "notes") (by show ¬ ("notes" : Str) ∈ (["ranks", "shares", "levels", "marks", "owners", "costs"] : List Str); decide +kernel)
  generalize upd (upd _ d7 _) x _ = H7 at I7 ⊢
  refine fun d8 n8 => ⟨_, rfl, x, cLine, dx, _, rfl, (by rw [upd_ne (ne_of_none I7.o n8)]; exact I7.o), T.cl_Line, T.n_Line_queue, (by show 7 < 1000; decide), ?_⟩
  have I8 := I7.next n8 (f := "queue") (by show ¬ ("queue" : Str) ∈ (["ranks", "shares", "levels", "marks", "owners", "costs", "notes"] : List Str); decide +kernel)
  generalize upd (upd _ d8 _) x _ = H8 at I8 ⊢
  have g : ∀ {i : Nat} {p : Str × Addr}, ([("ranks", d1), ("shares", d2), ("levels", d3), ("marks", d4), ("owners", d5), ("costs", d6), ("notes", d7), ("queue", d8)] : List (Str × Addr))[i]? = some p → H8 p.2 = some (.dK []) ∧ H p.2 = none := fun h => I8.d _ (List.mem_of_getElem? h)
  refine q ⟨x, dx, d1, d2, d3, d4, d5, d6, d7, d8⟩ H8 rfl rfl I8.k (fun b hb => ?_) ⟨I8.o, (g (i := 0) rfl).1, (g (i := 1) rfl).1, (g (i := 2) rfl).1, (g (i := 3) rfl).1, (g (i := 4) rfl).1, (g (i := 5) rfl).1, (g (i := 6) rfl).1, (g (i := 7) rfl).1, fun n h => (by cases h), fun n h => (by cases h), I8.nd, List.nodup_nil⟩
  obtain ⟨p, hp, rfl⟩ := List.mem_map.mp (show b ∈ ([("ranks", d1), ("shares", d2), ("levels", d3), ("marks", d4), ("owners", d5), ("costs", d6), ("notes", d7), ("queue", d8)] : List (Str × Addr)).map (·.2) from hb)
  exact (I8.d p hp).2
end
end My
namespace My
open PySem L2
open Blk (sg sg_inj sg_app)
section
variable {P : Program} {w : World} {K : PySem.W.Frag} {mg : Str → Option Value} {base : Heap}
structure LD.Z (D : LD) : Prop where
  ra : D.ra.length ≤ 1000
  sh : D.sh.length ≤ 1000
  lv : D.lv.length ≤ 1000
  ma : D.ma.length ≤ 1000
  ow : D.ow.length ≤ 1000
  co : D.co.length ≤ 1000
  no : D.no.length ≤ 1000
  qu : D.qu.length ≤ 1000
  nn : ∀ n ∈ D.no, n.2.2.length ≤ 1000
theorem OffL.set {L : LA} {D : LD} {H H' : Hp} (h : OffL L D H H') {a : Addr} (f : LF L D a) (o : HO) : OffL L D H (upd H' a o) := fun b u nb e => by
  rw [upd_ne (fun z => nb (by rw [z]; exact f))]
  exact h b u nb e
def OutL (cU : Addr) (n : Str) (H : Hp) (E : XK) : Prop := ∀ ea H', Same H H' → H ea = none → XG H' ea cU [("name", .str n)] → E (.ref cU) (some ea) H'
def kys {κ α : Type} (l : List (κ × α)) : List κ := l.map (·.1)
def sp_Ln_must_know (cL cU : Addr) : Sp := fun vs H Q E => ∃ (L : LA) (D : LD) (n : Str), vs = [.ref L.x, .str n] ∧ LnAt cL H L D ∧ (n ∈ kys D.ra → Q .non H) ∧ (¬ n ∈ kys D.ra → OutL cU n H E)
theorem sc_Line_must_know : FnScope ["self", "asker"] ["self", "asker"] (defScope s_Line_must_know) := ⟨rfl, rfl, rfl, by decide +kernel, rfl, by decide +kernel, by decide +kernel⟩
theorem ok_Line_must_know {fa cLine cUnknown cTwice cHallError tP_first_of : Addr} {fd : FuncData} (F : Fun K "must_know" "Line.must_know" s_Line_must_know fa fd) (T : Txt K mg cLine cUnknown cTwice cHallError tP_first_of) (X_Unknown : MkXD P w K mg base 1 "Unknown" cUnknown ["self", "name"] (sp_one cUnknown "name")) :
    FnOk P w K mg base (CXe P w) 3 fa fd ["self", "asker"] (sp_Ln_must_know cLine cUnknown) := by
  refine F.okE sc_Line_must_know (fun vs H Q E h => ?_) (fun cdv A outer s H vs Q E hr h => ?_)
  · obtain ⟨L, D, n, rfl, _⟩ := h
    rfl
  obtain ⟨L, D, n, rfl, N, q1, q2⟩ := h
  have hu := hu_n hr 0 (by decide)
  refine ⟨_, (pss_one (ps_if (pt_cmp (pc_dnotin hu (pv 1) (pe_fld (pv 0) rfl))) (pss_one (ps_raise raise_def rfl (pe_makeXD X_Unknown (hr.mono (by decide)) rfl (pa_cons (pv 1) pa_nil)))) pss_nil)), ?_⟩
  refine ⟨_, rfl, _, rfl, L.x, cLine, L.dx, _, _, rfl, N.o, T.cl_Line, T.n_Line_ranks, rfl, L.ra, _, rfl, dget_dG inr_inj N.ra n, _, rfl, ?_⟩
  cases e : lkG D.ra n with
  | some v => exact iteF (q1 (lkG_key e))
  | none => exact iteT ⟨_, rfl, raise_one T.x_Unknown.m fun ea H' sm ne g => q2 (lkG_none.mp e) ea H' sm ne g⟩
def sp_Ln_must_wait (cL cU : Addr) : Sp := fun vs H Q E => ∃ (L : LA) (D : LD) (a : Addr) (ns : List Str), vs = [.ref L.x, .ref a] ∧ LnAt cL H L D ∧ H a = some (.lst (ns.map V.str)) ∧ ((∀ n ∈ ns, n ∈ kys D.qu) → Q .non H) ∧ (∀ pre n post, ns = pre ++ n :: post → (∀ m ∈ pre, m ∈ kys D.qu) → ¬ n ∈ kys D.qu → OutL cU n H E)
theorem take_split {α : Type} {l : List α} {i : Nat} {a : α} (h : l[i]? = some a) : l = l.take i ++ a :: l.drop (i + 1) := by
  obtain ⟨li, e⟩ := List.getElem?_eq_some_iff.mp h
  rw [← e, List.getElem_cons_drop, List.take_append_drop]
theorem sc_Line_must_wait : FnScope ["self", "names", "name"] ["self", "names"] (defScope s_Line_must_wait) := ⟨rfl, rfl, rfl, by decide +kernel, rfl, by decide +kernel, by decide +kernel⟩
theorem ok_Line_must_wait {fa cLine cUnknown cTwice cHallError tP_first_of : Addr} {fd : FuncData} (F : Fun K "must_wait" "Line.must_wait" s_Line_must_wait fa fd) (T : Txt K mg cLine cUnknown cTwice cHallError tP_first_of) (X_Unknown : MkXD P w K mg base 1 "Unknown" cUnknown ["self", "name"] (sp_one cUnknown "name")) :
    FnOk P w K mg base (CXe P w) 3 fa fd ["self", "names"] (sp_Ln_must_wait cLine cUnknown) := by
  refine F.okE sc_Line_must_wait (fun vs H Q E h => ?_) (fun cdv A outer s H vs Q E hr h => ?_)
  · obtain ⟨L, D, a, ns, rfl, _⟩ := h
    rfl
  obtain ⟨L, D, a, ns, rfl, N, ha, q1, q2⟩ := h
  have hu := hu_n hr 0 (by decide)
  refine ⟨_, (pss_one (ps_for own_def rfl (pi_list (pv 1)) (pg_name (i := 2) sc_Line_must_wait.nd rfl (by first | exact Or.inl rfl | exact Or.inr rfl))
  (pss_one (ps_if (pt_cmp (pc_dnotin hu (pv 2) (pe_fld (pv 0) rfl))) (pss_one (ps_raise raise_def rfl (pe_makeXD X_Unknown (hr.mono (by decide)) rfl (pa_cons (pv 2) pa_nil)))) pss_nil)))), ?_⟩
  refine ⟨_, rfl, a, rfl, ⟨_, SqL.of ha⟩, for_list (K := K) (a := a) (xs := ns.map V.str) (fun i σ H' => H' = H ∧ (∀ m ∈ ns.take i, m ∈ kys D.qu) ∧ ∃ v, σ = [some (.ref L.x), some (.ref a), v]) ⟨rfl, fun m hm => (by cases hm), _, rfl⟩ (fun i σ H' _ z => by rw [z.1]; exact SqL.of ha) (fun i y σ H' hy z => ?_) (fun σ H' z => ?_)⟩
  · obtain ⟨rfl, kn, v, rfl⟩ := z
    rw [List.getElem?_map] at hy
    obtain ⟨n, en, rfl⟩ := Option.map_eq_some_iff.mp hy
    refine ⟨_, rfl, _, rfl, L.x, cLine, L.dx, _, _, rfl, N.o, T.cl_Line, T.n_Line_queue, rfl, L.qu, _, rfl, dget_dG inr_inj N.qu n, _, rfl, ?_⟩
    cases e : lkG D.qu n with
    | some v =>
      refine iteF ⟨rfl, fun m hm => ?_, _, rfl⟩
      rw [List.take_add_one, en] at hm
      rcases List.mem_append.mp hm with hm | hm
      · exact kn m hm
      · rw [List.mem_singleton.mp hm]
        exact lkG_key e
    | none => exact iteT ⟨_, rfl, raise_one T.x_Unknown.m fun ea H' sm ne g => q2 _ n _ (take_split en) kn (lkG_none.mp e) ea H' sm ne g⟩
  · obtain ⟨rfl, kn, v, rfl⟩ := z
    rw [List.length_map, List.take_length] at kn
    exact q1 kn
def sp_Ln_mark (cL : Addr) : Sp := fun vs H Q _ => ∃ (L : LA) (D : LD) (r : Int), vs = [.ref L.x, .int r] ∧ LnAt cL H L D ∧ Q (.int ((lkG D.ma r).getD 0)) H
theorem sc_Line_mark : FnScope ["self", "rank"] ["self", "rank"] (defScope s_Line_mark) := ⟨rfl, rfl, rfl, by decide +kernel, rfl, by decide +kernel, by decide +kernel⟩
theorem ok_Line_mark {fa cLine cUnknown cTwice cHallError tP_first_of : Addr} {fd : FuncData} (F : Fun K "mark" "Line.mark" s_Line_mark fa fd) (T : Txt K mg cLine cUnknown cTwice cHallError tP_first_of)  :
    FnOk P w K mg base CX0 1 fa fd ["self", "rank"] (sp_Ln_mark cLine) := by
  refine F.ok sc_Line_mark (fun vs H Q E h => ?_) (fun cdv A outer s H vs Q E hr h => ?_)
  · obtain ⟨L, D, r, rfl, _⟩ := h
    rfl
  obtain ⟨L, D, r, rfl, N, q⟩ := h
  have hu := hu_n hr 0 (by decide)
  refine ⟨_, (pss_one (ps_ret (pe_dget2 hu (pe_fld (pv 0) rfl) (pv 1) pe_int ⟨rfl, rfl, rfl, rfl⟩))), ?_⟩
  refine ⟨_, rfl, L.x, cLine, L.dx, _, _, rfl, N.o, T.cl_Line, T.n_Line_marks, rfl, L.ma, rfl, .inl ⟨_, .inl N.ma⟩, _, rfl, _, dget_dG inl_inj N.ma r, ?_⟩
  cases e : lkG D.ma r with
  | some v => rw [e] at q; exact q
  | none => rw [e] at q; exact q
def sp_Ln_waiting (cL : Addr) : Sp := fun vs H Q _ => ∃ (L : LA) (D : LD), vs = [.ref L.x] ∧ LnAt cL H L D ∧ ∀ a, H a = none → Q (.ref a) (upd H a (.lst ((kys D.qu).map V.str)))
def sp_Ln_level (cL cU : Addr) : Sp := fun vs H Q E => ∃ (L : LA) (D : LD) (n : Str), vs = [.ref L.x, .str n] ∧ LnAt cL H L D ∧ (n ∈ kys D.ra → ∃ v, lkG D.lv n = some v ∧ Q (.int v) H) ∧ (¬ n ∈ kys D.ra → OutL cU n H E)
def sp_Ln_level_behind (cL : Addr) : Sp := fun vs H Q _ => ∃ (L : LA) (D : LD) (n a : Str) (l c s : Int), vs = [.ref L.x, .str n, .int l] ∧ LnAt cL H L D ∧ lkG D.co n = some c ∧ lkG D.ow n = some a ∧ lkG D.sh a = some s ∧ 0 < s ∧ s ≤ 1000 ∧ Q (.int (l + c * (2520 / s))) H
theorem sc_Line_level_behind : FnScope ["self", "name", "level"] ["self", "name", "level"] (defScope s_Line_level_behind) := ⟨rfl, rfl, rfl, by decide +kernel, rfl, by decide +kernel, by decide +kernel⟩
theorem ok_Line_level_behind {fa cLine cUnknown cTwice cHallError tP_first_of : Addr} {fd : FuncData} (F : Fun K "level_behind" "Line.level_behind" s_Line_level_behind fa fd) (T : Txt K mg cLine cUnknown cTwice cHallError tP_first_of) (D_grown : Dfn P w K mg base 1 "grown" ["level", "cost", "share"] (sp_grown K)) :
    FnOk P w K mg base CX0 2 fa fd ["self", "name", "level"] (sp_Ln_level_behind cLine) := by
  refine F.ok sc_Line_level_behind (fun vs H Q E h => ?_) (fun cdv A outer s H vs Q E hr h => ?_)
  · obtain ⟨L, D, n, a, l, c, s, rfl, _⟩ := h
    rfl
  obtain ⟨L, D, n, a, l, c, s, rfl, N, ec, eo, es, s0, s1, q⟩ := h
  have hu := hu_n hr 0 (by decide)
  refine ⟨_, (pss_one (ps_ret (pe_callD D_grown (hr.mono (by decide)) rfl (pa_cons (pv 2) (pa_cons (pe_dget hu (pe_fld (pv 0) rfl) (pv 1) (fun _ _ => rfl)) (pa_cons (pe_dget hu (pe_fld (pv 0) rfl) (pe_dget hu (pe_fld (pv 0) rfl) (pv 1) (fun _ _ => rfl)) (fun _ _ => rfl)) pa_nil)))))), ?_⟩
  have gc := dget_dG inr_inj N.co n
  rw [ec] at gc
  have go := dget_dG inr_inj N.ow n
  rw [eo] at go
  have gs := dget_dG inr_inj N.sh a
  rw [es] at gs
  exact ⟨_, rfl, _, rfl, L.x, cLine, L.dx, _, _, rfl, N.o, T.cl_Line, T.n_Line_costs, rfl, _, rfl, L.co, _, rfl, gc, _, rfl, L.x, cLine, L.dx, _, _, rfl, N.o, T.cl_Line, T.n_Line_shares, rfl, _, rfl, L.x, cLine, L.dx, _, _, rfl, N.o, T.cl_Line, T.n_Line_owners, rfl, _, rfl, L.ow, _, rfl, go, L.sh, _, rfl, gs, l, c, s, rfl, s0, s1, q⟩
def sp_Ln_why_ahead (cL : Addr) : Sp := fun vs H Q _ => ∃ (L : LA) (D : LD) (n m a b : Str) (r s : Int), vs = [.ref L.x, .str n, .str m] ∧ H L.x = some (.ins cL L.dx (lnF L)) ∧ H L.ow = some (.dK (dG Sum.inr V.str D.ow)) ∧ H L.ra = some (.dK (dG Sum.inr V.int D.ra)) ∧ lkG D.ow n = some a ∧ lkG D.ow m = some b ∧ lkG D.ra a = some r ∧ lkG D.ra b = some s ∧ Q (.str (if a = b then "own" else if s < r then "rank" else "share")) H
theorem sc_Line_why_ahead : FnScope ["self", "taken", "name", "first", "second"] ["self", "taken", "name"] (defScope s_Line_why_ahead) := ⟨rfl, rfl, rfl, by decide +kernel, rfl, by decide +kernel, by decide +kernel⟩
theorem ok_Line_why_ahead {fa cLine cUnknown cTwice cHallError tP_first_of : Addr} {fd : FuncData} (F : Fun K "why_ahead" "Line.why_ahead" s_Line_why_ahead fa fd) (T : Txt K mg cLine cUnknown cTwice cHallError tP_first_of)  :
    FnOk P w K mg base CX0 1 fa fd ["self", "taken", "name"] (sp_Ln_why_ahead cLine) := by
  refine F.ok sc_Line_why_ahead (fun vs H Q E h => ?_) (fun cdv A outer s H vs Q E hr h => ?_)
  · obtain ⟨L, D, n, m, a, b, r, s, rfl, _⟩ := h
    rfl
  obtain ⟨L, D, n, m, a, b, r, s, rfl, No, Nw, Nr, ea, eb, er, es, q⟩ := h
  have hu := hu_n hr 0 (by decide)
  refine ⟨_, (pss_cons (ps_set (i := 3) sc_Line_why_ahead.nd rfl (by first | exact Or.inl rfl | exact Or.inr rfl) (pe_dget hu (pe_fld (pv 0) rfl) (pv 1) (fun _ _ => rfl)))
  (pss_cons (ps_set (i := 4) sc_Line_why_ahead.nd rfl (by first | exact Or.inl rfl | exact Or.inr rfl) (pe_dget hu (pe_fld (pv 0) rfl) (pv 2) (fun _ _ => rfl)))
  (pss_cons (ps_if (pt_cmpR op_eq (pv 3) (pv 4) (nomark _)) (pss_one (ps_ret (pe_gs T.OWN rfl))) pss_nil)
  (pss_one (ps_ret (pe_ifExp (pt_cmpR op_gt (pe_dget hu (pe_fld (pv 0) rfl) (pv 3) (fun _ _ => rfl)) (pe_dget hu (pe_fld (pv 0) rfl) (pv 4) (fun _ _ => rfl)) (nomark _)) (pe_gs T.RANK rfl) (pe_gs T.SHARE rfl))))))), ?_⟩
  have ga := dget_dG inr_inj Nw n
  rw [ea] at ga
  have gb := dget_dG inr_inj Nw m
  rw [eb] at gb
  have gr := dget_dG inr_inj Nr a
  rw [er] at gr
  have gs := dget_dG inr_inj Nr b
  rw [es] at gs
  refine ⟨_, rfl, L.x, cLine, L.dx, _, _, rfl, No, T.cl_Line, T.n_Line_owners, rfl, _, rfl, L.ow, _, rfl, ga, ?_⟩
  refine ⟨_, rfl, L.x, cLine, L.dx, _, _, rfl, No, T.cl_Line, T.n_Line_owners, rfl, _, rfl, L.ow, _, rfl, gb, ?_⟩
  refine ⟨_, rfl, _, rfl, rfl, _, rfl, ?_⟩
  by_cases c : a = b
  · subst c
    rw [if_pos rfl] at q
    exact iteYes rfl q
  rw [if_neg c] at q
  refine iteNo (fun z => c (by injection z)) ⟨_, rfl, L.x, cLine, L.dx, _, _, rfl, No, T.cl_Line, T.n_Line_ranks, rfl, _, rfl, L.ra, _, rfl, gr, _, rfl, L.x, cLine, L.dx, _, _, rfl, No, T.cl_Line, T.n_Line_ranks, rfl, _, rfl, L.ra, _, rfl, gs, _, _, rfl, rfl, _, rfl, ?_⟩
  by_cases c2 : s < r
  · rw [if_pos c2] at q
    exact iteYes c2 q
  · rw [if_neg c2] at q
    exact iteNo c2 q
def hasW (D : LD) (a : Str) : Bool := (kys D.qu).any fun n => decide ((lkG D.ow n).getD "" = a)
def sp_Ln_has_waiting (cL : Addr) : Sp := fun vs H Q _ => ∃ (L : LA) (D : LD) (a : Str), vs = [.ref L.x, .str a] ∧ LnAt cL H L D ∧ D.qu.length ≤ 1000 ∧ (∀ n ∈ kys D.qu, n ∈ kys D.ow) ∧ ∀ H', Same H H' → Q (.bl (hasW D a)) H'
theorem sc_Line_has_waiting : FnScope ["self", "asker"] ["self", "asker"] (defScope s_Line_has_waiting) := ⟨rfl, rfl, rfl, by decide +kernel, rfl, by decide +kernel, by decide +kernel⟩
theorem ok_Line_has_waiting {fa cLine cUnknown cTwice cHallError tP_first_of : Addr} {fd : FuncData} (F : Fun K "has_waiting" "Line.has_waiting" s_Line_has_waiting fa fd) (T : Txt K mg cLine cUnknown cTwice cHallError tP_first_of)  :
    FnOk P w K mg base CX0 1 fa fd ["self", "asker"] (sp_Ln_has_waiting cLine) := by
  refine F.ok sc_Line_has_waiting (fun vs H Q E h => ?_) (fun cdv A outer s H vs Q E hr h => ?_)
  · obtain ⟨L, D, a, rfl, _⟩ := h
    rfl
  obtain ⟨L, D, a, rfl, N, l1, qo, q⟩ := h
  have hu := hu_n hr 0 (by decide)
  refine ⟨_, (pss_one (ps_ret (pe_frz (pe_callB (call_any rfl) rfl T.any bt_any (pa_cons (pe_comp (frees := [("asker", 1), ("self", 0)]) ⟨by decide +kernel, rfl, rfl, by decide +kernel, ⟨⟨rfl, rfl, rfl, by decide +kernel⟩, ⟨⟨rfl, rfl, rfl, by decide +kernel⟩, trivial⟩⟩, by decide +kernel, cellsFor_at rfl, rfl⟩ rfl (pi_dict (pe_fld (pv 0) rfl)) (fun _ _ _ _ => pifs_nil) (fun _ _ _ _ => by exact (pe_cmpR op_eq (pe_dget hu (pe_fldK (K := K) rfl (pv 2) rfl) (pv 0) (fun _ _ => rfl)) (pv 1) (nomark _)))) pa_nil))))), ?_⟩
  refine ⟨L.qu, _, N.qu, fun o => ?_⟩
  have k1 : ∀ b u, b ≠ L.qu → H b = some u → upd H L.qu (.frz o (.dK (dG Sum.inr quV D.qu))) b = some u := fun b u nb e => by rw [upd_ne nb]; exact e
  have hx1 := k1 _ _ (ne_of N.o N.qu (by intro z; cases z)) N.o
  have ho1 := k1 _ _ (ne8 N.nd (i := 4) (j := 7) rfl rfl (by decide)) N.ow
  have hq1 : upd H L.qu (.frz o (.dK (dG Sum.inr quV D.qu))) L.qu = some (.frz o (.dK (dG Sum.inr quV D.qu))) := upd_same
  generalize upd H L.qu (.frz o (.dK (dG Sum.inr quV D.qu))) = H1 at k1 hx1 ho1 hq1 ⊢
  have ek : (dG Sum.inr quV D.qu).map (fun p => kV p.1) = (kys D.qu).map V.str := by
    unfold dG kys
    rw [List.map_map, List.map_map]
    rfl
  refine ⟨_, rfl, L.x, cLine, L.dx, _, _, rfl, hx1, T.cl_Line, T.n_Line_queue, rfl, L.qu, o, _, rfl, hq1, ?_⟩
  refine compB_seq (seq_dict hq1) (fun _ => true) (fun v => match v with | .str n => .bl (decide (V.str ((lkG D.ow n).getD "") = V.str a)) | _ => .non) (by rw [List.length_map, dG_len]; exact small1000 l1) (fun x _ H' R _ rr => rr) (fun v hv H' R s2 _ rr => ?_) (fun C H' s2 nC hC => ?_)
  · rw [ek] at hv
    obtain ⟨n, hn, rfl⟩ := List.mem_map.mp hv
    obtain ⟨w', ew⟩ := lkG_some (qo n hn)
    have g := dget_dG inr_inj (s2 _ _ ho1) n
    rw [ew] at g
    have rr' : R (.bl (decide (V.str w' = V.str a))) H' := by
      have := rr
      simp only [ew, Option.getD_some] at this
      exact this
    exact ⟨_, rfl, L.x, cLine, L.dx, _, _, rfl, (s2 _ _ hx1), T.cl_Line, T.n_Line_owners, rfl, _, rfl, L.ow, _, rfl, g, _, rfl, rfl, rr'⟩
  · rw [List.filter_eq_self.mpr (fun _ _ => rfl), ek, List.map_map] at hC
    have eb : ((kys D.qu).map fun n => decide (V.str ((lkG D.ow n).getD "") = V.str a)).any id = hasW D a := by
      unfold hasW
      rw [List.any_map]
      refine congrArg (fun p => (kys D.qu).any p) (funext fun n => ?_)
      show decide (V.str ((lkG D.ow n).getD "") = V.str a) = _
      by_cases c : (lkG D.ow n).getD "" = a
      · rw [decide_eq_true c, decide_eq_true (congrArg V.str c)]
      · rw [decide_eq_false c, decide_eq_false (fun z => c (by injection z))]
    refine ⟨C, (kys D.qu).map fun n => decide (V.str ((lkG D.ow n).getD "") = V.str a), rfl, SqL.of (by rw [hC, List.map_map]; rfl), s2 _ _ hq1, ?_⟩
    rw [eb]
    refine q _ fun b u e => ?_
    by_cases c : b = L.qu
    · subst c
      rw [upd_same, ← N.qu]
      exact e
    · rw [upd_ne c]
      exact s2 _ _ (k1 _ _ c e)
def sp_as_keys (_ : PySem.W.Frag) : Sp := fun vs H Q _ => ∃ (a : Addr) (ns : List Str), vs = [.ref a] ∧ H a = some (.lst (ns.map V.str)) ∧ ns.Nodup ∧ ns.length ≤ 1000 ∧ ∀ d H', Same H H' → H d = none → H' d = some (.dK (dG Sum.inr quV (ns.map fun n => (n, ())))) → Q (.ref d) H'
theorem sc_as_keys : FnScope ["names"] ["names"] (defScope s_as_keys) := ⟨rfl, rfl, rfl, by decide +kernel, rfl, by decide +kernel, by decide +kernel⟩
theorem ok_as_keys {fa cLine cUnknown cTwice cHallError tP_first_of : Addr} {fd : FuncData} (F : Fun K "as_keys" "as_keys" s_as_keys fa fd) (T : Txt K mg cLine cUnknown cTwice cHallError tP_first_of)  :
    FnOk P w K mg base CX0 1 fa fd ["names"] (sp_as_keys K) := by
  refine F.ok sc_as_keys (fun vs H Q E h => ?_) (fun cdv A outer s H vs Q E hr h => ?_)
  · obtain ⟨a, ns, rfl, _⟩ := h
    rfl
  obtain ⟨a, ns, rfl, ha, nd, l1, q⟩ := h
  have hu := hu_n hr 0 (by decide)
  refine ⟨_, (pss_one (ps_ret (pe_callTy (call_dict_pairs rfl) rfl T.dict bt_dict (pa_cons (pe_comp (frees := []) ⟨by decide +kernel, rfl, rfl, by decide +kernel, trivial, by decide +kernel, cellsFor_at rfl, rfl⟩ rfl (pi_list (pv 0)) (fun _ _ _ _ => pifs_nil) (fun _ _ _ _ => by exact (pe_tup (pa_cons (pv 0) (pa_cons pe_bl pa_nil))))) pa_nil)))), ?_⟩
  have z2 : 2 ≤ sizeLine := small (by decide)
  refine ⟨_, rfl, a, rfl, ⟨_, SqL.of ha⟩, ?_⟩
  refine compB_mk (seq_list (K := K) (SqL.of ha)) (fun n y H' => ∃ t, y = .ref t ∧ H' t = some (.tup [n, .bl true])) (by rw [List.length_map]; exact small1000 l1) (fun x _ H' R _ rr => rr) (fun n _ H' R _ rr => ⟨_, rfl, z2, fun t nt => rr _ _ (same_new nt _) ⟨fun z => z = t, fun b hb => by subst hb; exact ⟨nt, _, upd_same⟩, fun H3 h3 => ⟨t, rfl, by rw [h3 t rfl]; exact upd_same⟩⟩⟩) (fun C H2 ys s2 nC hC ly gy => ?_)
  refine ⟨C, ys, dG Sum.inr quV (ns.map fun n => (n, ())), rfl, hC, by rw [ly, dG_len, List.length_map, List.length_map], fun i y kv e1 e2 => ?_, ?_, fun m nm => ?_⟩
  · unfold dG at e2
    rw [List.map_map, List.getElem?_map] at e2
    obtain ⟨n, en, rfl⟩ := Option.map_eq_some_iff.mp e2
    obtain ⟨t, rfl, ht⟩ := gy i (.str n) y (by rw [List.getElem?_map, en]; rfl) e1
    exact ⟨t, rfl, SqT.of ht⟩
  · unfold dG
    rw [List.map_map, List.map_map]
    exact List.Pairwise.map _ (fun x y (hxy : x ≠ y) z => hxy (by injection z)) nd
  · exact q m _ (s2.trans (same_new nm _)) (by
      cases e : H m with
      | none => rfl
      | some u => rw [s2 _ _ e] at nm; cases nm) upd_same
def sp_Ln_add_asker (cL cT : Addr) : Sp := fun vs H Q E => ∃ (L : LA) (D : LD) (n : Str) (r s : Int), vs = [.ref L.x, .str n, .int r, .int s] ∧ LnAt cL H L D ∧ D.Z ∧ (n ∈ kys D.ra → OutL cT n H E) ∧ (¬ n ∈ kys D.ra → ∀ H', OffL L D H H' → LnAt cL H' L { D with ra := upG D.ra n r, sh := upG D.sh n s, lv := upG D.lv n 0 } → Q .non H')
theorem sc_Line_add_asker : FnScope ["self", "name", "rank", "share"] ["self", "name", "rank", "share"] (defScope s_Line_add_asker) := ⟨rfl, rfl, rfl, by decide +kernel, rfl, by decide +kernel, by decide +kernel⟩
theorem ok_Line_add_asker {fa cLine cUnknown cTwice cHallError tP_first_of : Addr} {fd : FuncData} (F : Fun K "add_asker" "Line.add_asker" s_Line_add_asker fa fd) (T : Txt K mg cLine cUnknown cTwice cHallError tP_first_of) (X_Twice : MkXD P w K mg base 1 "Twice" cTwice ["self", "name"] (sp_one cTwice "name")) :
    FnOk P w K mg base (CXe P w) 3 fa fd ["self", "name", "rank", "share"] (sp_Ln_add_asker cLine cTwice) := by
  refine F.okE sc_Line_add_asker (fun vs H Q E h => ?_) (fun cdv A outer s H vs Q E hr h => ?_)
  · obtain ⟨L, D, n, r, s, rfl, _⟩ := h
    rfl
  obtain ⟨L, D, n, r, s, rfl, N, Z, q1, q2⟩ := h
  have hu := hu_n hr 0 (by decide)
  refine ⟨_, (pss_cons (ps_if (pt_cmp (pc_din hu (pv 1) (pe_fld (pv 0) rfl))) (pss_one (ps_raise raise_def rfl (pe_makeXD X_Twice (hr.mono (by decide)) rfl (pa_cons (pv 1) pa_nil)))) pss_nil)
  (pss_cons (ps_dput hu (pe_fld (pv 0) rfl) (pv 1) (pv 2) rfl)
  (pss_cons (ps_dput hu (pe_fld (pv 0) rfl) (pv 1) (pv 3) rfl)
  (pss_one (ps_dput hu (pe_fld (pv 0) rfl) (pv 1) pe_int rfl))))), ?_⟩
  refine ⟨_, rfl, _, rfl, L.x, cLine, L.dx, _, _, rfl, N.o, T.cl_Line, T.n_Line_ranks, rfl, L.ra, _, rfl, dget_dG inr_inj N.ra n, _, rfl, ?_⟩
  cases e : lkG D.ra n with
  | some v => exact iteT ⟨_, rfl, raise_one T.x_Twice.m fun ea H' sm ne g => q1 (lkG_key e) ea H' sm ne g⟩
  | none =>
    have N1 := N.set_ra (upG D.ra n r)
    have N2 := N1.set_sh (upG D.sh n s)
    have N3 := N2.set_lv (upG D.lv n 0)
    refine iteF ⟨_, rfl, _, rfl, L.x, cLine, L.dx, _, _, rfl, N.o, T.cl_Line, T.n_Line_ranks, rfl, _, rfl, L.ra, _, rfl, dput_dG inr_inj N.ra Z.ra n r, ?_⟩
    refine ⟨_, rfl, _, rfl, L.x, cLine, L.dx, _, _, rfl, N1.o, T.cl_Line, T.n_Line_shares, rfl, _, rfl, L.sh, _, rfl, dput_dG inr_inj N1.sh Z.sh n s, ?_⟩
    refine ⟨_, rfl, L.x, cLine, L.dx, _, _, rfl, N2.o, T.cl_Line, T.n_Line_levels, rfl, _, rfl, L.lv, _, rfl, dput_dG inr_inj N2.lv Z.lv n 0, ?_⟩
    exact q2 (lkG_none.mp e) _ ((((OffL.refl L D H).set (lf_ra L D) _).set (lf_sh L D) _).set (lf_lv L D) _) N3
theorem LnAt.new_no {cL : Addr} {H : Hp} {L : LA} {D : LD} (N : LnAt cL H L D) {t : Addr} (nt : H t = none) {n : Str} (nn : ¬ n ∈ kys D.no) : LnAt cL (upd (upd H t (.lst [])) L.no (.dK (dG Sum.inr noV (upG D.no n (t, []))))) L { D with no := upG D.no n (t, []) } := by
  have N1 := N.same (same_new nt (.lst []))
  have ht : upd H t (.lst []) t = some (.lst []) := upd_same
  have kt : ∀ p ∈ D.no, p.2.1 ≠ t := fun p hp => ne_of_none (N.nl p hp) nt
  generalize upd H t (.lst []) = H1 at N1 ht ⊢
  have k : ∀ b o, b ≠ L.no → H1 b = some o → upd H1 L.no (.dK (dG Sum.inr noV (upG D.no n (t, [])))) b = some o := fun b o nb e => by rw [upd_ne nb]; exact e
  have eu : upG D.no n (t, []) = D.no ++ [(n, (t, []))] := upG_new nn
  refine ⟨k _ _ (ne_of N1.o N1.no (by intro z; cases z)) N1.o, k _ _ (ne8 N.nd (i := 0) (j := 6) rfl rfl (by decide)) N1.ra, k _ _ (ne8 N.nd (i := 1) (j := 6) rfl rfl (by decide)) N1.sh, k _ _ (ne8 N.nd (i := 2) (j := 6) rfl rfl (by decide)) N1.lv, k _ _ (ne8 N.nd (i := 3) (j := 6) rfl rfl (by decide)) N1.ma, k _ _ (ne8 N.nd (i := 4) (j := 6) rfl rfl (by decide)) N1.ow, k _ _ (ne8 N.nd (i := 5) (j := 6) rfl rfl (by decide)) N1.co, upd_same, k _ _ (ne8 N.nd (i := 7) (j := 6) rfl rfl (by decide)) N1.qu, fun p hp => ?_, fun p hp u hu => ?_, N.nd, ?_⟩
  · replace hp : p ∈ upG D.no n (t, []) := hp
    rw [eu] at hp
    rcases List.mem_append.mp hp with hp | hp
    · exact k _ _ (ne_of (N1.nl p hp) N1.no (by intro z; cases z)) (N1.nl p hp)
    · rw [List.mem_singleton.mp hp]
      exact k _ _ (ne_of ht N1.no (by intro z; cases z)) ht
  · replace hp : p ∈ upG D.no n (t, []) := hp
    rw [eu] at hp
    rcases List.mem_append.mp hp with hp | hp
    · exact k _ _ (ne_of (N1.nt p hp u hu) N1.no (by intro z; cases z)) (N1.nt p hp u hu)
    · rw [List.mem_singleton.mp hp] at hu
      cases hu
  · show ((upG D.no n (t, [])).map (·.2.1)).Nodup
    rw [eu, List.map_append]
    refine List.nodup_append.mpr ⟨N.nn, by simp, fun a ha b hb z => ?_⟩
    obtain ⟨p, hp, rfl⟩ := List.mem_map.mp ha
    rw [List.map_cons, List.map_nil, List.mem_singleton] at hb
    exact kt p hp (z.trans hb)
def laidLv (D : LD) (a : Str) (l r : Int) : List (Str × Int) := if hasW D a = true then D.lv else upG D.lv a (max l ((lkG D.ma r).getD 0))
def sp_Ln_lay (cL cU cT : Addr) : Sp := fun vs H Q E => ∃ (L : LA) (D : LD) (n a : Str) (c l r : Int), vs = [.ref L.x, .str n, .str a, .int c] ∧ LnAt cL H L D ∧ D.Z ∧ (∀ n ∈ kys D.qu, n ∈ kys D.ow) ∧ (¬ a ∈ kys D.ra → OutL cU a H E) ∧ (a ∈ kys D.ra → n ∈ kys D.ow → OutL cT n H E) ∧
  (a ∈ kys D.ra → ¬ n ∈ kys D.ow → lkG D.lv a = some l ∧ lkG D.ra a = some r ∧ ¬ n ∈ kys D.no ∧ ∀ H' t, OffL L D H H' → H t = none → LnAt cL H' L { D with lv := laidLv D a l r, ow := upG D.ow n a, co := upG D.co n c, no := upG D.no n (t, []), qu := upG D.qu n () } → Q .non H')
theorem sc_Line_lay : FnScope ["self", "name", "asker", "cost"] ["self", "name", "asker", "cost"] (defScope s_Line_lay) := ⟨rfl, rfl, rfl, by decide +kernel, rfl, by decide +kernel, by decide +kernel⟩
theorem ok_Line_lay {fa cLine cUnknown cTwice cHallError tP_first_of : Addr} {fd : FuncData} (F : Fun K "lay" "Line.lay" s_Line_lay fa fd) (T : Txt K mg cLine cUnknown cTwice cHallError tP_first_of) (X_Twice : MkXD P w K mg base 1 "Twice" cTwice ["self", "name"] (sp_one cTwice "name")) (D_lifted : Dfn P w K mg base 1 "lifted" ["level", "mark"] (sp_lifted K)) (D_Line_must_know : MtE P w K mg base 3 "must_know" cLine ["self", "asker"] (sp_Ln_must_know cLine cUnknown)) (D_Line_has_waiting : MtE P w K mg base 1 "has_waiting" cLine ["self", "asker"] (sp_Ln_has_waiting cLine)) (D_Line_mark : MtE P w K mg base 1 "mark" cLine ["self", "rank"] (sp_Ln_mark cLine)) :
    FnOk P w K mg base (CXe P w) 4 fa fd ["self", "name", "asker", "cost"] (sp_Ln_lay cLine cUnknown cTwice) := by
  refine F.okE sc_Line_lay (fun vs H Q E h => ?_) (fun cdv A outer s H vs Q E hr h => ?_)
  · obtain ⟨L, D, n, a, c, l, r, rfl, _⟩ := h
    rfl
  obtain ⟨L, D, n, a, c, l, r, rfl, N, Z, qo, q1, q2, q3⟩ := h
  have hu := hu_n hr 0 (by decide)
  refine ⟨_, (pss_cons (ps_expr (pe_methE 3 pass_def (hr.mono (by decide)) (pv 0) (pa_cons (pv 2) pa_nil)))
  (pss_cons (ps_if (pt_cmp (pc_din hu (pv 1) (pe_fld (pv 0) rfl))) (pss_one (ps_raise raise_def rfl (pe_makeXD X_Twice (hr.mono (by decide)) rfl (pa_cons (pv 1) pa_nil)))) pss_nil)
  (pss_cons (ps_if (pt_not (pt_truth (pe_methE 1 pass_def (hr.mono (by decide)) (pv 0) (pa_cons (pv 2) pa_nil)) (fun _ => rfl))) (pss_one (ps_dput hu (pe_fld (pv 0) rfl) (pv 2) (pe_callD D_lifted (hr.mono (by decide)) rfl (pa_cons (pe_dget hu (pe_fld (pv 0) rfl) (pv 2) (fun _ _ => rfl)) (pa_cons (pe_methE 1 pass_def (hr.mono (by decide)) (pv 0) (pa_cons (pe_dget hu (pe_fld (pv 0) rfl) (pv 2) (fun _ _ => rfl)) pa_nil)) pa_nil))) rfl)) pss_nil)
  (pss_cons (ps_dput hu (pe_fld (pv 0) rfl) (pv 1) (pv 2) rfl)
  (pss_cons (ps_dput hu (pe_fld (pv 0) rfl) (pv 1) (pv 3) rfl)
  (pss_cons (ps_dput hu (pe_fld (pv 0) rfl) (pv 1) (pe_lst pa_nil) rfl)
  (pss_one (ps_dput hu (pe_fld (pv 0) rfl) (pv 1) pe_bl rfl)))))))), ?_⟩
  refine ⟨_, rfl, L.x, _, L.dx, _, _, _, rfl, N.o, rfl, T.cl_Line, D_Line_must_know, _, rfl, L, D, a, rfl, N, fun ha => ?_, q1⟩
  refine ⟨_, rfl, _, rfl, L.x, cLine, L.dx, _, _, rfl, N.o, T.cl_Line, T.n_Line_owners, rfl, L.ow, _, rfl, dget_dG inr_inj N.ow n, _, rfl, ?_⟩
  cases e : lkG D.ow n with
  | some v => exact iteT ⟨_, rfl, raise_one T.x_Twice.m fun ea H' sm ne g => q2 ha (lkG_key e) ea H' sm ne g⟩
  | none =>
    have hn := lkG_none.mp e
    obtain ⟨el, er, nno, q⟩ := q3 ha hn
    refine iteF ⟨_, rfl, L.x, _, L.dx, _, _, _, rfl, N.o, rfl, T.cl_Line, D_Line_has_waiting, _, rfl, L, D, a, rfl, N, Z.qu, qo, fun H1 s1 => ⟨_, rfl, ?_⟩⟩
    have N1 := N.same s1
    have w1 : ∀ t, H1 t = none → H t = none := fun t ht => by
      cases e : H t with
      | none => rfl
      | some u => rw [s1 _ _ e] at ht; cases ht
    cases hw : hasW D a with
    | true =>
      have N2 : LnAt cLine H1 L { D with lv := laidLv D a l r } := by unfold laidLv; rw [if_pos hw]; exact N1
      have o2 : OffL L D H H1 := Same.offL s1
      have w2 := w1
      generalize H1 = H2 at N2 o2 w2 ⊢
      refine iteF ?_
      have N3 := N2.set_ow (upG D.ow n a)
      have N4 := N3.set_co (upG D.co n c)
      refine ⟨_, rfl, _, rfl, L.x, cLine, L.dx, _, _, rfl, N2.o, T.cl_Line, T.n_Line_owners, rfl, _, rfl, L.ow, _, rfl, dput_dG inr_inj N2.ow Z.ow n a, ?_⟩
      refine ⟨_, rfl, _, rfl, L.x, cLine, L.dx, _, _, rfl, N3.o, T.cl_Line, T.n_Line_costs, rfl, _, rfl, L.co, _, rfl, dput_dG inr_inj N3.co Z.co n c, ?_⟩
      have o4 := (o2.set (lf_ow L D) (.dK (dG Sum.inr V.str (upG D.ow n a)))).set (lf_co L D) (.dK (dG Sum.inr V.int (upG D.co n c)))
      have w4 : ∀ t, upd (upd H2 L.ow (.dK (dG Sum.inr V.str (upG D.ow n a)))) L.co (.dK (dG Sum.inr V.int (upG D.co n c))) t = none → H t = none := fun t ht => by
        by_cases c1 : t = L.co
        · rw [c1, upd_same] at ht
          cases ht
        rw [upd_ne c1] at ht
        by_cases c2 : t = L.ow
        · rw [c2, upd_same] at ht
          cases ht
        rw [upd_ne c2] at ht
        exact w2 t ht
      generalize upd (upd H2 L.ow (.dK (dG Sum.inr V.str (upG D.ow n a)))) L.co (.dK (dG Sum.inr V.int (upG D.co n c))) = H4 at o4 w4 N4 ⊢
      refine ⟨small (Nat.zero_le _), fun t nt => ⟨_, rfl, L.x, cLine, L.dx, _, _, rfl, (N4.same (same_new nt (.lst []))).o, T.cl_Line, T.n_Line_notes, rfl, _, rfl, L.no, _, rfl, dput_dG inr_inj (N4.same (same_new nt (.lst []))).no Z.no n (t, []), ?_⟩⟩
      have N5 := N4.new_no nt nno
      refine ⟨_, rfl, L.x, cLine, L.dx, _, _, rfl, N5.o, T.cl_Line, T.n_Line_queue, rfl, _, rfl, L.qu, _, rfl, dput_dG inr_inj N5.qu Z.qu n (), ?_⟩
      refine q _ t ?_ (w4 t nt) (N5.set_qu (upG D.qu n ()))
      refine OffL.set (OffL.set ?_ (lf_no L D) _) (lf_qu L D) _
      exact fun b u nb e => by rw [upd_ne (ne_of_none (o4 b u nb e) nt)]; exact o4 b u nb e
    | false =>
      have N2 : LnAt cLine (upd H1 L.lv (.dK (dG Sum.inr V.int (laidLv D a l r)))) L { D with lv := laidLv D a l r } := N1.set_lv _
      have ev : laidLv D a l r = upG D.lv a (max l ((lkG D.ma r).getD 0)) := by unfold laidLv; rw [if_neg (by rw [hw]; decide)]
      have gl := dget_dG inr_inj N1.lv a
      rw [el] at gl
      have gr := dget_dG inr_inj N1.ra a
      rw [er] at gr
      have o2 : OffL L D H (upd H1 L.lv (.dK (dG Sum.inr V.int (laidLv D a l r)))) := (Same.offL s1).set (lf_lv L D) _
      have w2 : ∀ t, upd H1 L.lv (.dK (dG Sum.inr V.int (laidLv D a l r))) t = none → H t = none := fun t ht => by
        by_cases c1 : t = L.lv
        · rw [c1, upd_same] at ht
          cases ht
        rw [upd_ne c1] at ht
        exact w1 t ht
      have dp := dput_dG inr_inj N1.lv Z.lv a (max l ((lkG D.ma r).getD 0))
      rw [← ev] at dp
      refine iteT ⟨_, rfl, L.x, cLine, L.dx, _, _, rfl, N1.o, T.cl_Line, T.n_Line_levels, rfl, _, rfl, L.lv, _, rfl, gl, ?_⟩
      refine ⟨_, rfl, L.x, _, L.dx, _, _, _, rfl, N1.o, rfl, T.cl_Line, D_Line_mark, _, rfl, L.x, cLine, L.dx, _, _, rfl, N1.o, T.cl_Line, T.n_Line_ranks, rfl, _, rfl, L.ra, _, rfl, gr, L, D, r, rfl, N1, _, _, rfl, ?_⟩
      refine ⟨_, rfl, L.x, cLine, L.dx, _, _, rfl, N1.o, T.cl_Line, T.n_Line_levels, rfl, _, rfl, L.lv, _, rfl, dp, ?_⟩
      generalize upd H1 L.lv (.dK (dG Sum.inr V.int (laidLv D a l r))) = H2 at N2 o2 w2 ⊢
      have N3 := N2.set_ow (upG D.ow n a)
      have N4 := N3.set_co (upG D.co n c)
      refine ⟨_, rfl, _, rfl, L.x, cLine, L.dx, _, _, rfl, N2.o, T.cl_Line, T.n_Line_owners, rfl, _, rfl, L.ow, _, rfl, dput_dG inr_inj N2.ow Z.ow n a, ?_⟩
      refine ⟨_, rfl, _, rfl, L.x, cLine, L.dx, _, _, rfl, N3.o, T.cl_Line, T.n_Line_costs, rfl, _, rfl, L.co, _, rfl, dput_dG inr_inj N3.co Z.co n c, ?_⟩
      have o4 := (o2.set (lf_ow L D) (.dK (dG Sum.inr V.str (upG D.ow n a)))).set (lf_co L D) (.dK (dG Sum.inr V.int (upG D.co n c)))
      have w4 : ∀ t, upd (upd H2 L.ow (.dK (dG Sum.inr V.str (upG D.ow n a)))) L.co (.dK (dG Sum.inr V.int (upG D.co n c))) t = none → H t = none := fun t ht => by
        by_cases c1 : t = L.co
        · rw [c1, upd_same] at ht
          cases ht
        rw [upd_ne c1] at ht
        by_cases c2 : t = L.ow
        · rw [c2, upd_same] at ht
          cases ht
        rw [upd_ne c2] at ht
        exact w2 t ht
      generalize upd (upd H2 L.ow (.dK (dG Sum.inr V.str (upG D.ow n a)))) L.co (.dK (dG Sum.inr V.int (upG D.co n c))) = H4 at o4 w4 N4 ⊢
      refine ⟨small (Nat.zero_le _), fun t nt => ⟨_, rfl, L.x, cLine, L.dx, _, _, rfl, (N4.same (same_new nt (.lst []))).o, T.cl_Line, T.n_Line_notes, rfl, _, rfl, L.no, _, rfl, dput_dG inr_inj (N4.same (same_new nt (.lst []))).no Z.no n (t, []), ?_⟩⟩
      have N5 := N4.new_no nt nno
      refine ⟨_, rfl, L.x, cLine, L.dx, _, _, rfl, N5.o, T.cl_Line, T.n_Line_queue, rfl, _, rfl, L.qu, _, rfl, dput_dG inr_inj N5.qu Z.qu n (), ?_⟩
      refine q _ t ?_ (w4 t nt) (N5.set_qu (upG D.qu n ()))
      refine OffL.set (OffL.set ?_ (lf_no L D) _) (lf_qu L D) _
      exact fun b u nb e => by rw [upd_ne (ne_of_none (o4 b u nb e) nt)]; exact o4 b u nb e
end
end My
namespace My
open PySem L2
open Blk (sg sg_inj sg_app)
section
variable {P : Program} {w : World} {K : PySem.W.Frag} {mg : Str → Option Value} {base : Heap}
theorem for_seqB {J : It} {B : Hp} {xs : List V} (S : Seq J B xs) {g : TG} {tb : TS} {D : Ends} {σ : St} {H : Hp} (Pv : Nat → St → Hp → Prop) (h0 : Pv 0 σ H) (hk : ∀ i σ H, Pv i σ H → Same B H)
    (hs : ∀ i x σ H, xs[i]? = some x → Pv i σ H → g x σ H fun σ2 H2 => tb { D with nx := Pv (i + 1), ct := Pv (i + 1), bk := D.nx } σ2 H2) (hd : ∀ σ H, Pv xs.length σ H → D.nx σ H) :
    ∃ W : Nat → Nat → St → Hp → Prop, (∃ m, W 0 m σ H) ∧ ∀ i m σ H, W i m σ H →
      (J.stop i H ∧ D.nx σ H) ∨ (J.go i H ∧ ∃ N : St → Hp → Prop, (∀ σ' H', N σ' H' → ∃ m', m' < m ∧ W (i + 1) m' σ' H') ∧ ∀ x H', J.yld i H x H' → g x σ H' fun σ2 H2 => tb { D with nx := N, ct := N, bk := D.nx } σ2 H2) := by
  refine ⟨fun i m σ H => m = xs.length - i ∧ i ≤ xs.length ∧ Pv i σ H, ⟨xs.length, by simp, Nat.zero_le _, h0⟩, ?_⟩
  rintro i m σ H ⟨rfl, hi, p⟩
  have q := hk i σ H p
  by_cases hlt : i < xs.length
  · refine .inr ⟨S.go i H q hlt, Pv (i + 1), fun σ' H' p' => ⟨xs.length - (i + 1), by omega, rfl, hlt, p'⟩, fun x H' y => ?_⟩
    obtain ⟨e, hx⟩ := S.yld i H x H' q hlt y
    subst e
    exact hs i x σ H' hx p
  · have e : i = xs.length := by omega
    subst e
    exact .inl ⟨S.stop H q, hd σ H p⟩
theorem same_one {H : Hp} {d : Addr} {o : HO} (h : H d = some o) : Same (upd (fun _ => none) d o) H := fun b u e => by
  by_cases c : b = d
  · subst c
    rw [upd_same] at e
    rw [h, e]
  · rw [upd_ne c] at e
    cases e
theorem same_back {H H' : Hp} {d : Addr} {u : HO} (hd : H d = some u) (k : ∀ b o, b ≠ d → H b = some o → H' b = some o) : Same H (upd H' d u) := fun b o e => by
  by_cases c : b = d
  · subst c
    rw [upd_same, ← hd]
    exact e
  · rw [upd_ne c]
    exact k b o c e
theorem none_same {H H' : Hp} {t : Addr} (s : Same H H') (h : H' t = none) : H t = none := by
  cases e : H t with
  | none => rfl
  | some u => rw [s _ _ e] at h; cases h
theorem dG_kV {α : Type} {f : α → V} {l : List (Str × α)} : (dG Sum.inr f l).map (fun p => kV p.1) = (kys l).map V.str := by
  unfold dG kys
  rw [List.map_map, List.map_map]
  rfl
def ownD (D : LD) (n : Str) : Str := (lkG D.ow n).getD ""
def fstep (D : LD) (able : List Str) (l : List (Str × Str)) (n : Str) : List (Str × Str) := if n ∈ able then (if ownD D n ∈ kys l then l else l ++ [(ownD D n, n)]) else l
def firstsL (D : LD) (able : List Str) : List (Str × Str) := (kys D.qu).foldl (fstep D able) []
theorem fstep_len {D : LD} {able : List Str} {l : List (Str × Str)} {n : Str} : (fstep D able l n).length ≤ l.length + 1 := by
  unfold fstep
  split
  · split
    · exact Nat.le_succ _
    · rw [List.length_append]; exact Nat.le_refl _
  · exact Nat.le_succ _
theorem ffold_len {D : LD} {able : List Str} : ∀ (ns : List Str) (l : List (Str × Str)), (ns.foldl (fstep D able) l).length ≤ l.length + ns.length
  | [], l => Nat.le_refl _
  | n :: r, l => by
    have a := ffold_len (D := D) (able := able) r (fstep D able l n)
    have b := fstep_len (D := D) (able := able) (l := l) (n := n)
    rw [List.foldl_cons, List.length_cons]
    omega
def sp_Ln_firsts_of (cL : Addr) : Sp := fun vs H Q _ => ∃ (L : LA) (D : LD) (a : Addr) (able : List Str), vs = [.ref L.x, .ref a] ∧ LnAt cL H L D ∧ D.Z ∧ H a = some (.lst (able.map V.str)) ∧ able.Nodup ∧ able.length ≤ 1000 ∧ (∀ n ∈ kys D.qu, n ∈ kys D.ow) ∧ ∀ d H', Same H H' → H d = none → H' d = some (.dK (dG Sum.inr V.str (firstsL D able))) → Q (.ref d) H'
theorem sc_Line_firsts_of : FnScope ["self", "able", "told", "firsts", "name"] ["self", "able"] (defScope s_Line_firsts_of) := ⟨rfl, rfl, rfl, by decide +kernel, rfl, by decide +kernel, by decide +kernel⟩
theorem ok_Line_firsts_of {fa cLine cUnknown cTwice cHallError tP_first_of : Addr} {fd : FuncData} (F : Fun K "firsts_of" "Line.firsts_of" s_Line_firsts_of fa fd) (T : Txt K mg cLine cUnknown cTwice cHallError tP_first_of) (D_as_keys : Dfn P w K mg base 1 "as_keys" ["names"] (sp_as_keys K)) :
    FnOk P w K mg base CX0 2 fa fd ["self", "able"] (sp_Ln_firsts_of cLine) := by
  refine F.ok sc_Line_firsts_of (fun vs H Q E h => ?_) (fun cdv A outer s H vs Q E hr h => ?_)
  · obtain ⟨L, D, a, able, rfl, _⟩ := h
    rfl
  obtain ⟨L, D, a, able, rfl, N, Z, ha, nd, l1, qo, q⟩ := h
  have hu := hu_n hr 0 (by decide)
  refine ⟨_, (pss_cons (ps_set (i := 2) sc_Line_firsts_of.nd rfl (by first | exact Or.inl rfl | exact Or.inr rfl) (pe_callD D_as_keys (hr.mono (by decide)) rfl (pa_cons (pv 1) pa_nil)))
  (pss_cons (ps_set (i := 3) sc_Line_firsts_of.nd rfl (by first | exact Or.inl rfl | exact Or.inr rfl) pe_dnewK)
  (pss_cons (ps_frz (ps_for PassesOwn.never rfl (pi_dict (pe_fld (pv 0) rfl)) (pg_name (i := 4) sc_Line_firsts_of.nd rfl (by first | exact Or.inl rfl | exact Or.inr rfl))
  (pss_one (ps_if (pt_cmp (pc_din hu (pv 4) (pv 2))) (pss_one (ps_expr (pe_bm PySem.F.plainAttrs_dict PySem.F.slot_dict_setdefault PySem.F.type_dict_setdefault mt_setdefault (pv 3) (pa_cons (pe_dget hu (pe_fld (pv 0) rfl) (pv 4) (fun _ _ => rfl)) (pa_cons (pv 4) pa_nil))))) pss_nil))))
  (pss_one (ps_ret (pv 3)))))), ?_⟩
  refine ⟨_, rfl, a, able, rfl, ha, nd, l1, fun td H1 s1 ntd htd => fun fd nfd => ?_⟩
  have s2 := s1.trans (same_new nfd (.dK []))
  have htd2 := same_new nfd (.dK []) _ _ htd
  have hfd2 : upd H1 fd (.dK []) fd = some (.dK []) := upd_same
  have n0 := none_same s1 nfd
  generalize upd H1 fd (.dK []) = H2 at s2 htd2 hfd2 ⊢
  have N2 := N.same s2
  refine ⟨L.qu, _, N2.qu, fun o => ?_⟩
  have k3 : ∀ b u, b ≠ L.qu → H2 b = some u → upd H2 L.qu (.frz o (.dK (dG Sum.inr quV D.qu))) b = some u := fun b u nb e => by rw [upd_ne nb]; exact e
  have hq3 : upd H2 L.qu (.frz o (.dK (dG Sum.inr quV D.qu))) L.qu = some (.frz o (.dK (dG Sum.inr quV D.qu))) := upd_same
  have fq : fd ≠ L.qu := Ne.symm (ne_of_none N.qu n0)
  have fx : L.x ≠ fd := ne_of_none N.o n0
  have fo : L.ow ≠ fd := ne_of_none N.ow n0
  have ft : td ≠ fd := ne_of_none htd nfd
  have tq : td ≠ L.qu := Ne.symm (ne_of_none N.qu ntd)
  have hx3 := k3 _ _ (ne_of N2.o N2.qu (by intro z; cases z)) N2.o
  have ho3 := k3 _ _ (ne8 N.nd (i := 4) (j := 7) rfl rfl (by decide)) N2.ow
  have ht3 := k3 _ _ tq htd2
  have hf3 := k3 _ _ fq hfd2
  generalize upd H2 L.qu (.frz o (.dK (dG Sum.inr quV D.qu))) = H3 at k3 hq3 hx3 ho3 ht3 hf3 ⊢
  refine ⟨_, rfl, L.x, cLine, L.dx, _, _, rfl, hx3, T.cl_Line, T.n_Line_queue, rfl, L.qu, o, _, rfl, hq3, ?_⟩
  refine for_seqB (seq_dict (H1 := upd (fun _ => none) L.qu (.frz o (.dK (dG Sum.inr quV D.qu)))) upd_same) (fun i σ G => (∃ v4, σ = [some (.ref L.x), some (.ref a), some (.ref td), some (.ref fd), v4]) ∧ G fd = some (.dK (dG Sum.inr V.str (((kys D.qu).take i).foldl (fstep D able) []))) ∧ ∀ b u, b ≠ fd → H3 b = some u → G b = some u) ⟨⟨_, rfl⟩, hf3, fun b u _ e => e⟩ (fun i σ G z => ?_) (fun i y σ G hy z => ?_) (fun σ G z => ?_)
  · exact same_one (z.2.2 _ _ (Ne.symm fq) hq3)
  · obtain ⟨⟨v4, rfl⟩, hf, kp⟩ := z
    rw [dG_kV, List.getElem?_map] at hy
    obtain ⟨n, en, rfl⟩ := Option.map_eq_some_iff.mp hy
    have et : (kys D.qu).take (i + 1) = (kys D.qu).take i ++ [n] := by rw [List.take_add_one, en]; rfl
    have li : i < D.qu.length := by have := (List.getElem?_eq_some_iff.mp en).1; unfold kys at this; rw [List.length_map] at this; exact this
    have ll : (((kys D.qu).take i).foldl (fstep D able) []).length < 1000 := by
      have a1 := ffold_len (D := D) (able := able) ((kys D.qu).take i) []
      have a2 : ((kys D.qu).take i).length ≤ i := by rw [List.length_take]; exact Nat.min_le_left _ _
      have a3 := Z.qu
      rw [List.length_nil] at a1
      omega
    have nx : ∀ (v4 : Option V) (G' : Hp) (l : List (Str × Str)), G' fd = some (.dK (dG Sum.inr V.str l)) → l = fstep D able (((kys D.qu).take i).foldl (fstep D able) []) n → (∀ b u, b ≠ fd → G b = some u → G' b = some u) → ((∃ v4, [some (V.ref L.x), some (.ref a), some (.ref td), some (.ref fd), some (.str n)] = [some (V.ref L.x), some (.ref a), some (.ref td), some (.ref fd), v4]) ∧ G' fd = some (.dK (dG Sum.inr V.str (((kys D.qu).take (i + 1)).foldl (fstep D able) []))) ∧ ∀ b u, b ≠ fd → H3 b = some u → G' b = some u) := fun v4 G' l e1 e2 kk => ⟨⟨_, rfl⟩, by rw [et, List.foldl_append]; show G' fd = some (HO.dK (dG Sum.inr V.str (fstep D able _ n))); rw [e1, e2], fun b u nb e => kk b u nb (kp b u nb e)⟩
    generalize hF : ((kys D.qu).take i).foldl (fstep D able) [] = F0 at hf ll nx
    refine ⟨_, rfl, _, rfl, td, _, rfl, dget_dG inr_inj (kp _ _ ft ht3) n, _, rfl, ?_⟩
    cases et2 : lkG (able.map fun n => (n, ())) n with
    | none =>
      have na : ¬ n ∈ able := fun z => lkG_none.mp et2 (by rw [List.map_map]; exact List.mem_map.mpr ⟨n, z, rfl⟩)
      exact iteF (nx none G F0 hf (by unfold fstep; rw [if_neg na]) fun b u _ e => e)
    | some u0 =>
      have na : n ∈ able := by
        have := lkG_key et2
        rw [List.map_map] at this
        obtain ⟨m, hm, e⟩ := List.mem_map.mp this
        rw [← e]
        exact hm
      obtain ⟨w', ew⟩ := lkG_some (qo n (List.mem_of_getElem? en))
      have g := dget_dG inr_inj (kp _ _ fo ho3) n
      rw [ew] at g
      have eo : ownD D n = w' := by unfold ownD; rw [ew]; rfl
      refine iteT ⟨_, rfl, .inr (.inr (.inl ⟨rfl, .inl ⟨_, hf⟩⟩)), _, rfl, L.x, cLine, L.dx, _, _, rfl, (kp _ _ fx hx3), T.cl_Line, T.n_Line_owners, rfl, _, rfl, L.ow, _, rfl, g, _, rfl, fd, _, Sum.inr w', _, rfl, rfl, hf, by rw [dG_len]; exact ll, fun u eu => ?_, fun eu => ?_⟩
      · rw [val_dG inr_inj] at eu
        cases ef : lkG F0 w' with
        | none => rw [ef] at eu; cases eu
        | some z =>
          exact nx none G F0 hf (by unfold fstep; rw [if_pos na, eo, if_pos (show w' ∈ kys F0 from lkG_key ef)]) fun b u _ e => e
      · rw [val_dG inr_inj] at eu
        cases ef : lkG F0 w' with
        | some z => rw [ef] at eu; cases eu
        | none =>
          exact nx none _ (F0 ++ [(w', n)]) (by rw [upd_same]; unfold dG; rw [List.map_append]; rfl) (by unfold fstep; rw [if_pos na, eo, if_neg (show ¬ w' ∈ kys F0 from lkG_none.mp ef)]) fun b u nb e => by rw [upd_ne nb]; exact e
  · obtain ⟨⟨v4, rfl⟩, hf, kp⟩ := z
    rw [dG_kV, List.length_map, List.take_length] at hf
    refine ⟨kp _ _ (Ne.symm fq) hq3, _, rfl, q fd _ (same_back N.qu fun b o nb e => ?_) n0 (by rw [upd_ne fq]; exact hf)⟩
    exact kp b o (ne_of_none e n0) (k3 b o nb (s2 b o e))
def rowL (D : LD) (lv : List (Str × Int)) (p : Str × Str) : LRow := (0, (lkG D.ra p.1).getD 0, (lkG lv p.1).getD 0, p.1)
def bestI (D : LD) (able : List Str) (lv : List (Str × Int)) : Nat := argBest (fun i j => lexV (lrK (rowD ((firstsL D able).map (rowL D lv)) i)) (lrK (rowD ((firstsL D able).map (rowL D lv)) j))) ((firstsL D able).length - 1)
def chosenL (D : LD) (able : List Str) (lv : List (Str × Int)) : Str := ((firstsL D able).getD (bestI D able lv) ("", "")).2
theorem fold_ok {D : LD} {able : List Str} : ∀ (ns : List Str) (l : List (Str × Str)), (∀ p ∈ l, p.2 ∈ able ∧ p.1 = ownD D p.2) → (kys l).Nodup → (∀ p ∈ ns.foldl (fstep D able) l, (p.2 ∈ able ∧ p.1 = ownD D p.2) ∧ (p ∈ l ∨ p.2 ∈ ns)) ∧ (kys (ns.foldl (fstep D able) l)).Nodup
  | [], l, h, nd => ⟨fun p hp => ⟨h p hp, .inl hp⟩, nd⟩
  | n :: r, l, h, nd => by
    rw [List.foldl_cons]
    have st : (∀ p ∈ fstep D able l n, (p.2 ∈ able ∧ p.1 = ownD D p.2) ∧ (p ∈ l ∨ p.2 = n)) ∧ (kys (fstep D able l n)).Nodup := by
      unfold fstep
      by_cases c : n ∈ able
      · rw [if_pos c]
        by_cases c2 : ownD D n ∈ kys l
        · rw [if_pos c2]
          exact ⟨fun p hp => ⟨h p hp, .inl hp⟩, nd⟩
        · rw [if_neg c2]
          refine ⟨fun p hp => ?_, ?_⟩
          · rcases List.mem_append.mp hp with hp | hp
            · exact ⟨h p hp, .inl hp⟩
            · rw [List.mem_singleton.mp hp]
              exact ⟨⟨c, rfl⟩, .inr rfl⟩
          · unfold kys
            rw [List.map_append]
            refine List.nodup_append.mpr ⟨nd, by simp, fun a ha b hb z => c2 ?_⟩
            rw [List.map_cons, List.map_nil, List.mem_singleton] at hb
            rw [show ownD D n = a from (z.trans hb).symm]
            exact ha
      · rw [if_neg c]
        exact ⟨fun p hp => ⟨h p hp, .inl hp⟩, nd⟩
    have ih := fold_ok r (fstep D able l n) (fun p hp => (st.1 p hp).1) st.2
    refine ⟨fun p hp => ⟨(ih.1 p hp).1, ?_⟩, ih.2⟩
    rcases (ih.1 p hp).2 with h1 | h1
    · rcases (st.1 p h1).2 with h2 | h2
      · exact .inl h2
      · exact .inr (by rw [h2]; exact List.mem_cons_self)
    · exact .inr (List.mem_cons_of_mem _ h1)
theorem firsts_ok (D : LD) (able : List Str) : (∀ p ∈ firstsL D able, p.2 ∈ able ∧ p.1 = ownD D p.2 ∧ p.2 ∈ kys D.qu) ∧ (kys (firstsL D able)).Nodup := by
  have := fold_ok (D := D) (able := able) (kys D.qu) [] (fun p hp => (by cases hp)) List.nodup_nil
  exact ⟨fun p hp => ⟨(this.1 p hp).1.1, (this.1 p hp).1.2, (this.1 p hp).2.elim (fun z => by cases z) id⟩, this.2⟩
theorem rows_of {H : Hp} {g : Str × Str → LRow} : ∀ {ys : List V} {ps : List (Str × Str)}, ys.length = ps.length → (∀ (i : Nat) y p, ys[i]? = some y → ps[i]? = some p → ∃ t, y = .ref t ∧ H t = some (.tup (lrV (g p)))) → ∃ rs : List LRow, ys = rs.map (fun r => V.ref r.1) ∧ (∀ r ∈ rs, H r.1 = some (.tup (lrV r))) ∧ rs.map (·.2) = ps.map (fun p => (g p).2)
  | [], [], _, _ => ⟨[], rfl, fun r h => (by cases h), rfl⟩
  | [], _ :: _, h, _ => by cases h
  | _ :: _, [], h, _ => by cases h
  | y :: ys, p :: ps, h, k => by
    obtain ⟨t, rfl, ht⟩ := k 0 y p rfl rfl
    obtain ⟨rs, e1, e2, e3⟩ := rows_of (ys := ys) (ps := ps) (by simpa using h) fun i y p ey ep => k (i + 1) y p ey ep
    refine ⟨(t, (g p).2) :: rs, by rw [List.map_cons, ← e1], fun r hr => ?_, by rw [List.map_cons, List.map_cons, e3]⟩
    rcases List.mem_cons.mp hr with rfl | hr
    · exact ht
    · exact e2 r hr
theorem row_eq {rs qs : List LRow} (h : rs.map (·.2) = qs.map (·.2)) (i : Nat) : lrK (rowD rs i) = lrK (rowD qs i) := by
  have e : (rowD rs i).2 = (rowD qs i).2 := by
    unfold rowD
    rw [List.getD_eq_getElem?_getD, List.getD_eq_getElem?_getD]
    have := congrArg (fun l : List (Int × Int × Str) => l[i]?) h
    simp only [List.getElem?_map] at this
    cases e1 : rs[i]? with
    | none =>
      rw [e1] at this
      cases e2 : qs[i]? with
      | none => rfl
      | some v => rw [e2] at this; cases this
    | some u =>
      rw [e1] at this
      cases e2 : qs[i]? with
      | none => rw [e2] at this; cases this
      | some v => rw [e2] at this; exact Option.some.inj this
  unfold lrK
  rw [e]
theorem arg_le (f : Nat → Nat → Bool) : ∀ k, argBest f k ≤ k
  | 0 => Nat.le_refl _
  | k + 1 => by
    have ih := arg_le f k
    show (if f (k + 1) (argBest f k) then k + 1 else argBest f k) ≤ k + 1
    split
    · exact Nat.le_refl _
    · exact Nat.le_succ_of_le ih
theorem best_lt {D : LD} {able : List Str} {lv : List (Str × Int)} (l0 : 0 < (firstsL D able).length) : bestI D able lv < (firstsL D able).length := by
  have := arg_le (fun i j => lexV (lrK (rowD ((firstsL D able).map (rowL D lv)) i)) (lrK (rowD ((firstsL D able).map (rowL D lv)) j))) ((firstsL D able).length - 1)
  unfold bestI
  omega
theorem chosen_at {D : LD} {able : List Str} {lv : List (Str × Int)} (l0 : 0 < (firstsL D able).length) : ∃ p, (firstsL D able)[bestI D able lv]? = some p ∧ p ∈ firstsL D able ∧ chosenL D able lv = p.2 := by
  have h := List.getElem?_eq_getElem (best_lt (lv := lv) l0)
  refine ⟨_, h, List.mem_of_getElem? h, ?_⟩
  unfold chosenL
  rw [List.getD_eq_getElem?_getD, h]
  rfl
def sp_Ln_chosen (cL tP : Addr) : Sp := fun vs H Q _ => ∃ (L : LA) (D : LD) (a lva : Addr) (able : List Str) (lv : List (Str × Int)), vs = [.ref L.x, .ref a, .ref lva] ∧ LnAt cL H L D ∧ D.Z ∧ H a = some (.lst (able.map V.str)) ∧ able.Nodup ∧ able.length ≤ 1000 ∧ (∀ n ∈ kys D.qu, n ∈ kys D.ow) ∧ H lva = some (.dK (dG Sum.inr V.int lv)) ∧ (∀ p ∈ D.ow, p.2 ∈ kys D.ra ∧ p.2 ∈ kys lv) ∧ 0 < (firstsL D able).length ∧ (firstsL D able).length ≤ 300 ∧ LTab H tP ∧ ∀ H', SameP tP H H' → LTab H' tP → Q (.str (chosenL D able lv)) H'
theorem sc_Line_chosen : FnScope ["self", "able", "levels", "firsts", "askers", "rows"] ["self", "able", "levels"] (defScope s_Line_chosen) := ⟨rfl, rfl, rfl, by decide +kernel, rfl, by decide +kernel, by decide +kernel⟩
theorem ok_Line_chosen {fa cLine cUnknown cTwice cHallError tP_first_of : Addr} {fd : FuncData} (F : Fun K "chosen" "Line.chosen" s_Line_chosen fa fd) (T : Txt K mg cLine cUnknown cTwice cHallError tP_first_of) (D_first_of : Dfn P w K mg base 2 "first_of" ["rows"] (sp_first_of tP_first_of)) (D_Line_firsts_of : MtE P w K mg base 2 "firsts_of" cLine ["self", "able"] (sp_Ln_firsts_of cLine)) :
    FnOk P w K mg base CX0 3 fa fd ["self", "able", "levels"] (sp_Ln_chosen cLine tP_first_of) := by
  refine F.ok sc_Line_chosen (fun vs H Q E h => ?_) (fun cdv A outer s H vs Q E hr h => ?_)
  · obtain ⟨L, D, a, lva, able, lv, rfl, _⟩ := h
    rfl
  obtain ⟨L, D, a, lva, able, lv, rfl, N, Z, ha, nd, l1, qo, hlv, ok, l0, l3, ht, q⟩ := h
  have hu := hu_n hr 0 (by decide)
  refine ⟨_, (pss_cons (ps_set (i := 3) sc_Line_chosen.nd rfl (by first | exact Or.inl rfl | exact Or.inr rfl) (pe_methE 2 passE0 (hr.mono (by decide)) (pv 0) (pa_cons (pv 1) pa_nil)))
  (pss_cons (ps_set (i := 4) sc_Line_chosen.nd rfl (by first | exact Or.inl rfl | exact Or.inr rfl) (pe_callTy (call_list_dict rfl) rfl T.list bt_list (pa_cons (pv 3) pa_nil)))
  (pss_cons (ps_comp (i := 5) (frees := [("levels", 2), ("self", 0)]) ⟨by decide +kernel, rfl, rfl, by decide +kernel, ⟨⟨rfl, rfl, rfl, by decide +kernel⟩, ⟨⟨rfl, rfl, rfl, by decide +kernel⟩, trivial⟩⟩, by decide +kernel, cellsFor_at rfl, rfl⟩ sc_Line_chosen.nd rfl rfl rfl (pi_list (pv 4)) (fun _ _ _ _ => pifs_nil) (fun _ _ _ _ => by exact (pe_tup (pa_cons (pe_dget hu (pe_fldK (K := K) rfl (pv 2) rfl) (pv 0) (fun _ _ => rfl)) (pa_cons (pe_dget hu (pv 1) (pv 0) (fun _ _ => rfl)) (pa_cons (pv 0) pa_nil))))))
  (pss_one (ps_ret (pe_dget hu (pv 3) (pe_ix ix_listA (pv 4) (pe_callD D_first_of (hr.mono (by decide)) rfl (pa_cons (pv 5) pa_nil)) (fun _ _ => rfl)) (fun _ _ => rfl))))))), ?_⟩
  obtain ⟨fo, fnd⟩ := firsts_ok D able
  refine ⟨_, rfl, L.x, _, L.dx, _, _, _, rfl, N.o, rfl, T.cl_Line, D_Line_firsts_of, _, rfl, L, D, a, able, rfl, N, Z, ha, nd, l1, qo, fun d H1 s1 nd1 hd1 => ?_⟩
  refine ⟨_, rfl, d, _, rfl, hd1, fun b nb => ?_⟩
  rw [dG_kV]
  have s2 := s1.trans (same_new nb (.lst ((kys (firstsL D able)).map V.str)))
  have hd2 := same_new nb (.lst ((kys (firstsL D able)).map V.str)) _ _ hd1
  have hb2 : upd H1 b (.lst ((kys (firstsL D able)).map V.str)) b = some (.lst ((kys (firstsL D able)).map V.str)) := upd_same
  generalize upd H1 b (.lst ((kys (firstsL D able)).map V.str)) = H2 at s2 hd2 hb2 ⊢
  refine ⟨_, rfl, b, rfl, ⟨_, SqL.of hb2⟩, ?_⟩
  have N2 := N.same s2
  refine compB_mk (seq_list (K := K) (SqL.of hb2)) (fun x y H' => ∃ t k, x = .str k ∧ y = .ref t ∧ H' t = some (.tup (lrV (rowL D lv (k, ""))))) (by unfold kys; rw [List.length_map, List.length_map]; exact small1000 (by omega)) (fun x _ H' R _ rr => rr) (fun x hx H' R s3 rr => ?_) (fun C H3 ys s3 nC hC ly gy => ?_)
  · obtain ⟨k, hk, rfl⟩ := List.mem_map.mp hx
    obtain ⟨p, hp, rfl⟩ := List.mem_map.mp hk
    obtain ⟨pa, po, pq⟩ := fo p hp
    obtain ⟨w', ew⟩ := lkG_some (qo _ pq)
    have eo : p.1 = w' := by rw [po]; unfold ownD; rw [ew]; rfl
    obtain ⟨k1, k2⟩ := ok _ (lkG_mem ew)
    obtain ⟨r, er⟩ := lkG_some k1
    obtain ⟨l, el⟩ := lkG_some k2
    rw [show ((p.2, w') : Str × Str).2 = p.1 from eo.symm] at er el
    have gr := dget_dG inr_inj (s3 _ _ N2.ra) p.1
    rw [er] at gr
    have gl := dget_dG inr_inj (s3 _ _ (s2 _ _ hlv)) p.1
    rw [el] at gl
    refine ⟨_, rfl, L.x, cLine, L.dx, _, _, rfl, s3 _ _ N2.o, T.cl_Line, T.n_Line_ranks, rfl, _, rfl, L.ra, _, rfl, gr, _, rfl, _, rfl, lva, _, rfl, gl, _, rfl, small (by show 3 ≤ 1000; decide), fun t nt => rr _ _ (same_new nt _) ⟨fun z => z = t, fun b hb => by subst hb; exact ⟨nt, _, upd_same⟩, fun H3 h3 => ⟨t, p.1, rfl, rfl, ?_⟩⟩⟩
    rw [h3 t rfl]
    refine upd_same.trans ?_
    unfold lrV rowL
    rw [er, el]
    rfl
  · have ly' : ys.length = (firstsL D able).length := by rw [ly, List.length_map]; unfold kys; rw [List.length_map]
    obtain ⟨rs, rfl, hrs, ers⟩ := rows_of (H := H3) (g := rowL D lv) ly' (fun i y p ey ep => by
      obtain ⟨t, k, e, rfl, h⟩ := gy i (.str p.1) y (by unfold kys; rw [List.map_map, List.getElem?_map, ep]; rfl) ey
      have : k = p.1 := by injection e with e; exact e.symm
      rw [this] at h
      exact ⟨t, rfl, h⟩)
    have lrs : rs.length = (firstsL D able).length := by rw [List.length_map] at ly'; exact ly'
    have ht3 := ht.same (s2.trans s3)
    obtain ⟨tps, htp⟩ := ht3.is
    refine ⟨_, rfl, _, rfl, _, rfl, C, rs, rfl, ⟨hC, hrs⟩, by omega, by omega, ht3, fun H4 s4 t4 => ?_⟩
    have ebest : argBest (fun i j => lexV (lrK (rowD rs i)) (lrK (rowD rs j))) (rs.length - 1) = bestI D able lv := by
      unfold bestI
      rw [lrs]
      have : rs.map (·.2) = ((firstsL D able).map (rowL D lv)).map (·.2) := by rw [ers, List.map_map]; rfl
      simp only [row_eq this]
    rw [ebest]
    obtain ⟨p, ep, hp, ec⟩ := chosen_at (lv := lv) l0
    have k4 : ∀ c o, H3 c = some o → o ≠ .tbl tps → H4 c = some o := fun c o e n => s4 _ _ (ne_of e htp n) e
    have hb4 := k4 _ _ (s3 _ _ hb2) (by intro z; cases z)
    have hd4 := k4 _ _ (s3 _ _ hd2) (by intro z; cases z)
    have bl := best_lt (lv := lv) l0
    have ll : ((kys (firstsL D able)).map V.str).length = (firstsL D able).length := by unfold kys; rw [List.length_map, List.length_map]
    refine ⟨b, _, _, rfl, rfl, SqL.of hb4, by omega, by omega, fun v hv => ?_⟩
    rw [Int.toNat_natCast] at hv
    unfold kys at hv
    rw [List.map_map, List.getElem?_map, ep] at hv
    obtain rfl := (Option.some.inj hv).symm
    have g := dget_dG inr_inj hd4 p.1
    rw [lkG_nd (p := p) fnd hp] at g
    refine ⟨d, _, rfl, g, ?_⟩
    rw [ec] at q
    exact q H4 ((s2.trans s3).p.trans s4) t4
def chLv (D : LD) (n : Str) (a : Str) (l c s : Int) : List (Str × Int) := upG D.lv a (l + c * (2520 / s))
def sp_Ln_charge (cL : Addr) : Sp := fun vs H Q _ => ∃ (L : LA) (D : LD) (n a : Str) (r l c s : Int), vs = [.ref L.x, .str n] ∧ LnAt cL H L D ∧ D.Z ∧ lkG D.ow n = some a ∧ lkG D.ra a = some r ∧ lkG D.lv a = some l ∧ lkG D.co n = some c ∧ lkG D.sh a = some s ∧ 0 < s ∧ s ≤ 1000 ∧ ∀ H', OffL L D H H' → (∀ t, H' t = none → H t = none) → LnAt cL H' L { D with ma := upG D.ma r (max ((lkG D.ma r).getD 0) l), lv := chLv D n a l c s } → Q .non H'
theorem sc_Line_charge : FnScope ["self", "name", "asker", "rank"] ["self", "name"] (defScope s_Line_charge) := ⟨rfl, rfl, rfl, by decide +kernel, rfl, by decide +kernel, by decide +kernel⟩
theorem ok_Line_charge {fa cLine cUnknown cTwice cHallError tP_first_of : Addr} {fd : FuncData} (F : Fun K "charge" "Line.charge" s_Line_charge fa fd) (T : Txt K mg cLine cUnknown cTwice cHallError tP_first_of) (D_lifted : Dfn P w K mg base 1 "lifted" ["level", "mark"] (sp_lifted K)) (D_Line_mark : MtE P w K mg base 1 "mark" cLine ["self", "rank"] (sp_Ln_mark cLine)) (D_Line_level_behind : MtE P w K mg base 2 "level_behind" cLine ["self", "name", "level"] (sp_Ln_level_behind cLine)) :
    FnOk P w K mg base CX0 3 fa fd ["self", "name"] (sp_Ln_charge cLine) := by
  refine F.ok sc_Line_charge (fun vs H Q E h => ?_) (fun cdv A outer s H vs Q E hr h => ?_)
  · obtain ⟨L, D, n, a, r, l, c, s, rfl, _⟩ := h
    rfl
  obtain ⟨L, D, n, a, r, l, c, s, rfl, N, Z, eo, er, el, ec, es, s0, s1, q⟩ := h
  have hu := hu_n hr 0 (by decide)
  refine ⟨_, (pss_cons (ps_set (i := 2) sc_Line_charge.nd rfl (by first | exact Or.inl rfl | exact Or.inr rfl) (pe_dget hu (pe_fld (pv 0) rfl) (pv 1) (fun _ _ => rfl)))
  (pss_cons (ps_set (i := 3) sc_Line_charge.nd rfl (by first | exact Or.inl rfl | exact Or.inr rfl) (pe_dget hu (pe_fld (pv 0) rfl) (pv 2) (fun _ _ => rfl)))
  (pss_cons (ps_dput hu (pe_fld (pv 0) rfl) (pv 3) (pe_callD D_lifted (hr.mono (by decide)) rfl (pa_cons (pe_methE 1 passE0 (hr.mono (by decide)) (pv 0) (pa_cons (pv 3) pa_nil)) (pa_cons (pe_dget hu (pe_fld (pv 0) rfl) (pv 2) (fun _ _ => rfl)) pa_nil))) rfl)
  (pss_one (ps_dput hu (pe_fld (pv 0) rfl) (pv 2) (pe_methE 2 passE0 (hr.mono (by decide)) (pv 0) (pa_cons (pv 1) (pa_cons (pe_dget hu (pe_fld (pv 0) rfl) (pv 2) (fun _ _ => rfl)) pa_nil))) rfl))))), ?_⟩
  have go := dget_dG inr_inj N.ow n
  rw [eo] at go
  have gr := dget_dG inr_inj N.ra a
  rw [er] at gr
  have gl := dget_dG inr_inj N.lv a
  rw [el] at gl
  have N1 := N.set_ma (upG D.ma r (max ((lkG D.ma r).getD 0) l))
  have gl1 := dget_dG inr_inj N1.lv a
  rw [el] at gl1
  have N2 := N1.set_lv (chLv D n a l c s)
  refine ⟨_, rfl, L.x, cLine, L.dx, _, _, rfl, N.o, T.cl_Line, T.n_Line_owners, rfl, _, rfl, L.ow, _, rfl, go, ?_⟩
  refine ⟨_, rfl, L.x, cLine, L.dx, _, _, rfl, N.o, T.cl_Line, T.n_Line_ranks, rfl, _, rfl, L.ra, _, rfl, gr, ?_⟩
  refine ⟨_, rfl, L.x, _, L.dx, _, _, _, rfl, N.o, rfl, T.cl_Line, D_Line_mark, _, rfl, L, D, r, rfl, N, _, rfl, L.x, cLine, L.dx, _, _, rfl, N.o, T.cl_Line, T.n_Line_levels, rfl, _, rfl, L.lv, _, rfl, gl, _, _, rfl, ?_⟩
  refine ⟨_, rfl, L.x, cLine, L.dx, _, _, rfl, N.o, T.cl_Line, T.n_Line_marks, rfl, _, rfl, L.ma, _, rfl, dput_dG inl_inj N.ma Z.ma r _, ?_⟩
  refine ⟨_, rfl, L.x, _, L.dx, _, _, _, rfl, N1.o, rfl, T.cl_Line, D_Line_level_behind, _, rfl, _, rfl, L.x, cLine, L.dx, _, _, rfl, N1.o, T.cl_Line, T.n_Line_levels, rfl, _, rfl, L.lv, _, rfl, gl1, L, _, n, a, l, c, s, rfl, N1, ec, eo, es, s0, s1, ?_⟩
  refine ⟨_, rfl, L.x, cLine, L.dx, _, _, rfl, N1.o, T.cl_Line, T.n_Line_levels, rfl, _, rfl, L.lv, _, rfl, dput_dG inr_inj N1.lv Z.lv a _, ?_⟩
  refine q _ (((OffL.refl L D H).set (lf_ma L D) _).set (lf_lv L D) _) (fun t ht => ?_) N2
  by_cases c1 : t = L.lv
  · rw [c1, upd_same] at ht
    cases ht
  rw [upd_ne c1] at ht
  by_cases c2 : t = L.ma
  · rw [c2, upd_same] at ht
    cases ht
  rw [upd_ne c2] at ht
  exact ht
abbrev Con := Str × Addr × List (Str × Int × Str)
def conN (l : List (Str × Addr × List Note)) : List Con := l.map fun p => (p.1, p.2.1, p.2.2.map (·.2))
def addN (m : Str) (t : Note) (p : Str × Addr × List Note) : Str × Addr × List Note := if p.1 = m then (p.1, p.2.1, p.2.2 ++ [t]) else p
theorem addN_fst {m : Str} {t : Note} (p : Str × Addr × List Note) : (addN m t p).1 = p.1 ∧ (addN m t p).2.1 = p.2.1 := by
  unfold addN
  split <;> exact ⟨rfl, rfl⟩
theorem addN_dG {m : Str} {t : Note} (l : List (Str × Addr × List Note)) : dG Sum.inr noV (l.map (addN m t)) = dG Sum.inr noV l := by
  unfold dG
  rw [List.map_map]
  refine List.map_congr_left fun p _ => ?_
  show (Sum.inr (addN m t p).1, noV (addN m t p).2) = (Sum.inr p.1, noV p.2)
  unfold noV
  rw [(addN_fst p).1, (addN_fst p).2]
theorem addN_ad {m : Str} {t : Note} (l : List (Str × Addr × List Note)) : (l.map (addN m t)).map (·.2.1) = l.map (·.2.1) := by
  rw [List.map_map]
  exact List.map_congr_left fun p _ => (addN_fst p).2
theorem addN_ky {m : Str} {t : Note} (l : List (Str × Addr × List Note)) : kys (l.map (addN m t)) = kys l := by
  unfold kys
  rw [List.map_map]
  exact List.map_congr_left fun p _ => (addN_fst p).1
theorem LnAt.add_note {cL : Addr} {H : Hp} {L : LA} {D : LD} (N : LnAt cL H L D) {t : Note} (nt : H t.1 = none) {m : Str} {e : Addr × List Note} (hm : (m, e) ∈ D.no) (kn : (kys D.no).Nodup) : LnAt cL (upd (upd H t.1 (.tup (ntV t))) e.1 (.lst (e.2.map (fun t => V.ref t.1) ++ [V.ref t.1]))) L { D with no := D.no.map (addN m t) } := by
  have N1 := N.same (same_new nt (.tup (ntV t)))
  have ht : upd H t.1 (.tup (ntV t)) t.1 = some (.tup (ntV t)) := upd_same
  generalize upd H t.1 (.tup (ntV t)) = H1 at N1 ht ⊢
  have hl := N1.nl (m, e) hm
  have k : ∀ b o, b ≠ e.1 → H1 b = some o → upd H1 e.1 (.lst (e.2.map (fun t => V.ref t.1) ++ [V.ref t.1])) b = some o := fun b o nb e => by rw [upd_ne nb]; exact e
  have kd : ∀ {b : Addr} {kvs : List (Key × V)}, H1 b = some (.dK kvs) → upd H1 e.1 (.lst (e.2.map (fun t => V.ref t.1) ++ [V.ref t.1])) b = some (.dK kvs) := fun h => k _ _ (ne_of h hl (by intro z; cases z)) h
  refine ⟨k _ _ (ne_of N1.o hl (by intro z; cases z)) N1.o, kd N1.ra, kd N1.sh, kd N1.lv, kd N1.ma, kd N1.ow, kd N1.co, by rw [addN_dG]; exact kd N1.no, kd N1.qu, fun p hp => ?_, fun p hp u hu => ?_, N.nd, by rw [addN_ad]; exact N.nn⟩
  · obtain ⟨q, hq, rfl⟩ := List.mem_map.mp hp
    by_cases c : q.1 = m
    · have eq : q.2 = e := by
        have h1 := lkG_nd (p := q) kn hq
        have h2 := lkG_nd (p := (m, e)) kn hm
        rw [c] at h1
        rw [h1] at h2
        exact Option.some.inj h2
      unfold addN
      rw [if_pos c, eq]
      show upd H1 e.1 _ e.1 = _
      rw [upd_same, List.map_append]
      rfl
    · unfold addN
      rw [if_neg c]
      refine k _ _ (fun z => c ?_) (N1.nl q hq)
      obtain ⟨i, hi⟩ := List.mem_iff_getElem?.mp hq
      obtain ⟨j, hj⟩ := List.mem_iff_getElem?.mp hm
      by_cases ij : i = j
      · subst ij
        rw [hi] at hj
        rw [Option.some.inj hj]
      · exact absurd z (ne8 N.nn (i := i) (j := j) (by rw [List.getElem?_map, hi]; rfl) (by rw [List.getElem?_map, hj]; rfl) ij)
  · obtain ⟨q, hq, rfl⟩ := List.mem_map.mp hp
    have tu : ∀ u, H1 u = some (.tup (ntV t)) → True := fun _ _ => trivial
    unfold addN at hu
    by_cases c : q.1 = m
    · rw [if_pos c] at hu
      rcases List.mem_append.mp hu with hu | hu
      · exact k _ _ (ne_of (N1.nt q hq u hu) hl (by intro z; cases z)) (N1.nt q hq u hu)
      · rw [List.mem_singleton.mp hu]
        exact k _ _ (ne_of ht hl (by intro z; cases z)) ht
    · rw [if_neg c] at hu
      exact k _ _ (ne_of (N1.nt q hq u hu) hl (by intro z; cases z)) (N1.nt q hq u hu)
def whyL (D : LD) (n : Str) (able : List Str) (m : Str) : Str := if m ∈ able then (if ownD D n = ownD D m then "own" else if (lkG D.ra (ownD D m)).getD 0 < (lkG D.ra (ownD D n)).getD 0 then "rank" else "share") else "unable"
def conAdd (D : LD) (n : Str) (c : Int) (able : List Str) (done : List Str) (l : List Con) : List Con := l.map fun p => if p.1 ∈ done then (p.1, p.2.1, p.2.2 ++ [(n, c, whyL D n able p.1)]) else p
theorem upd_comm {H : Hp} {a b : Addr} {x y : HO} (n : a ≠ b) : upd (upd H a x) b y = upd (upd H b y) a x := by
  funext c
  by_cases c1 : c = a
  · rw [c1, upd_ne n, upd_same, upd_same]
  · by_cases c2 : c = b
    · rw [c2, upd_same, upd_ne (Ne.symm n), upd_same]
    · rw [upd_ne c2, upd_ne c1, upd_ne c1, upd_ne c2]
theorem con_step {D : LD} {n : Str} {c : Int} {able done : List Str} {l : List Con} {no : List (Str × Addr × List Note)} {m : Str} {t : Addr} (h : conN no = conAdd D n c able done l) (nm : ¬ m ∈ done) : conN (no.map (addN m (t, n, c, whyL D n able m))) = conAdd D n c able (done ++ [m]) l := by
  have e1 : conN (no.map (addN m (t, n, c, whyL D n able m))) = (conN no).map fun p => if p.1 = m then (p.1, p.2.1, p.2.2 ++ [(n, c, whyL D n able m)]) else p := by
    unfold conN
    rw [List.map_map, List.map_map]
    refine List.map_congr_left fun p _ => ?_
    show ((addN m _ p).1, (addN m _ p).2.1, (addN m _ p).2.2.map (·.2)) = if p.1 = m then (p.1, p.2.1, p.2.2.map (·.2) ++ [(n, c, whyL D n able m)]) else (p.1, p.2.1, p.2.2.map (·.2))
    unfold addN
    by_cases c1 : p.1 = m
    · rw [if_pos c1, if_pos c1, List.map_append]
      rfl
    · rw [if_neg c1, if_neg c1]
  rw [e1, h]
  unfold conAdd
  rw [List.map_map]
  refine List.map_congr_left fun p _ => ?_
  show (if (if p.1 ∈ done then (p.1, p.2.1, p.2.2 ++ [(n, c, whyL D n able p.1)]) else p).1 = m then _ else _) = _
  by_cases c1 : p.1 ∈ done
  · have c2 : ¬ p.1 = m := fun z => nm (by rw [← z]; exact c1)
    rw [if_pos c1, if_neg c2, if_pos (List.mem_append_left _ c1)]
  · rw [if_neg c1]
    by_cases c2 : p.1 = m
    · rw [if_pos c2, if_pos (List.mem_append_right _ (by rw [c2]; exact List.mem_singleton_self m))]
      simp [c2, nm]
    · rw [if_neg c2, if_neg (fun z => (List.mem_append.mp z).elim c1 fun z => c2 (List.mem_singleton.mp z))]
theorem con_len {D : LD} {n : Str} {c : Int} {able done : List Str} {no l : List (Str × Addr × List Note)} {m : Str} {e : Addr × List Note} (h : conN no = conAdd D n c able done (conN l)) (nm : ¬ m ∈ done) (hm : (m, e) ∈ no) : ∃ p ∈ l, p.1 = m ∧ p.2.1 = e.1 ∧ e.2.length = p.2.2.length := by
  have h1 : ((m, e.1, e.2.map (·.2)) : Con) ∈ conN no := List.mem_map.mpr ⟨(m, e), hm, rfl⟩
  rw [h] at h1
  obtain ⟨p, hp, ep⟩ := List.mem_map.mp h1
  obtain ⟨q, hq, rfl⟩ := List.mem_map.mp hp
  by_cases c1 : q.1 ∈ done
  · rw [if_pos c1] at ep
    have : q.1 = m := congrArg (·.1) ep
    exact absurd (by rw [← this]; exact c1) nm
  · rw [if_neg c1] at ep
    have e1 : q.1 = m := congrArg (·.1) ep
    have e2 : q.2.1 = e.1 := congrArg (·.2.1) ep
    have e3 : q.2.2.map (·.2) = e.2.map (·.2) := congrArg (·.2.2) ep
    refine ⟨q, hq, e1, e2, ?_⟩
    have := congrArg List.length e3
    rw [List.length_map, List.length_map] at this
    exact this.symm
def sp_Ln_note_taken (cL : Addr) : Sp := fun vs H Q _ => ∃ (L : LA) (D : LD) (n : Str) (a : Addr) (able : List Str) (c : Int), vs = [.ref L.x, .str n, .ref a] ∧ LnAt cL H L D ∧ (∀ p ∈ D.no, p.2.2.length ≤ 1000) ∧ H a = some (.lst (able.map V.str)) ∧ able.Nodup ∧ able.length ≤ 1000 ∧ (∀ n ∈ kys D.qu, n ∈ kys D.ow ∧ n ∈ kys D.no) ∧ (∀ p ∈ D.ow, p.2 ∈ kys D.ra) ∧ (kys D.qu).Nodup ∧ (kys D.no).Nodup ∧ n ∈ kys D.ow ∧ lkG D.co n = some c ∧ ∀ H' no', OffL L D H H' → (∀ t, H' t = none → H t = none) → conN no' = conAdd D n c able (kys D.qu) (conN D.no) → LnAt cL H' L { D with no := no' } → Q .non H'
theorem sc_Line_note_taken : FnScope ["self", "taken", "able", "told", "name", "why"] ["self", "taken", "able"] (defScope s_Line_note_taken) := ⟨rfl, rfl, rfl, by decide +kernel, rfl, by decide +kernel, by decide +kernel⟩
theorem ok_Line_note_taken {fa cLine cUnknown cTwice cHallError tP_first_of : Addr} {fd : FuncData} (F : Fun K "note_taken" "Line.note_taken" s_Line_note_taken fa fd) (T : Txt K mg cLine cUnknown cTwice cHallError tP_first_of) (D_as_keys : Dfn P w K mg base 1 "as_keys" ["names"] (sp_as_keys K)) (D_Line_why_ahead : MtE P w K mg base 1 "why_ahead" cLine ["self", "taken", "name"] (sp_Ln_why_ahead cLine)) :
    FnOk P w K mg base CX0 2 fa fd ["self", "taken", "able"] (sp_Ln_note_taken cLine) := by
  refine F.ok sc_Line_note_taken (fun vs H Q E h => ?_) (fun cdv A outer s H vs Q E hr h => ?_)
  · obtain ⟨L, D, n, a, able, c, rfl, _⟩ := h
    rfl
  obtain ⟨L, D, n, a, able, c, rfl, N, Z, ha, nd, l1, qo, ok, qn, kn, hn, ec, q⟩ := h
  have hu := hu_n hr 0 (by decide)
  refine ⟨_, (pss_cons (ps_set (i := 3) sc_Line_note_taken.nd rfl (by first | exact Or.inl rfl | exact Or.inr rfl) (pe_callD D_as_keys (hr.mono (by decide)) rfl (pa_cons (pv 2) pa_nil)))
  (pss_one (ps_frz (ps_for PassesOwn.never rfl (pi_dict (pe_fld (pv 0) rfl)) (pg_name (i := 4) sc_Line_note_taken.nd rfl (by first | exact Or.inl rfl | exact Or.inr rfl))
  (pss_cons (ps_set (i := 5) sc_Line_note_taken.nd rfl (by first | exact Or.inl rfl | exact Or.inr rfl) (pe_ifExp (pt_cmp (pc_din hu (pv 4) (pv 3))) (pe_methE 1 passE0 (hr.mono (by decide)) (pv 0) (pa_cons (pv 1) (pa_cons (pv 4) pa_nil))) (pe_gs T.UNABLE rfl)))
  (pss_one (ps_expr (pe_bm PySem.F.plainAttrs_list PySem.F.slot_list_append PySem.F.type_list_append mt_append (pe_dget hu (pe_fld (pv 0) rfl) (pv 4) (fun _ _ => rfl)) (pa_cons (pe_tup (pa_cons (pv 1) (pa_cons (pe_dget hu (pe_fld (pv 0) rfl) (pv 1) (fun _ _ => rfl)) (pa_cons (pv 5) pa_nil)))) pa_nil))))))))), ?_⟩
  refine ⟨_, rfl, a, able, rfl, ha, nd, l1, fun td H1 s1 ntd htd => ?_⟩
  have N1 := N.same s1
  refine ⟨L.qu, _, N1.qu, fun o => ?_⟩
  have tq : td ≠ L.qu := Ne.symm (ne_of_none N.qu ntd)
  have k2 : ∀ b u, b ≠ L.qu → H1 b = some u → upd H1 L.qu (.frz o (.dK (dG Sum.inr quV D.qu))) b = some u := fun b u nb e => by rw [upd_ne nb]; exact e
  have hx2 := k2 _ _ (ne_of N1.o N1.qu (by intro z; cases z)) N1.o
  have hq2 : upd H1 L.qu (.frz o (.dK (dG Sum.inr quV D.qu))) L.qu = some (.frz o (.dK (dG Sum.inr quV D.qu))) := upd_same
  have ht2 := k2 _ _ tq htd
  have eb2 : upd (upd H1 L.qu (.frz o (.dK (dG Sum.inr quV D.qu)))) L.qu (.dK (dG Sum.inr quV D.qu)) = H1 := by
    funext b
    by_cases c1 : b = L.qu
    · rw [c1, upd_same, N1.qu]
    · rw [upd_ne c1, upd_ne c1]
  generalize upd H1 L.qu (.frz o (.dK (dG Sum.inr quV D.qu))) = H2 at k2 hx2 hq2 ht2 eb2 ⊢
  have c0 : conAdd D n c able [] (conN D.no) = conN D.no := by
    unfold conAdd
    refine (List.map_congr_left fun p _ => ?_).trans (List.map_id _)
    rw [if_neg (by intro z; cases z)]
    rfl
  refine ⟨_, rfl, L.x, cLine, L.dx, _, _, rfl, hx2, T.cl_Line, T.n_Line_queue, rfl, L.qu, o, _, rfl, hq2, ?_⟩
  refine for_seqB (seq_dict (H1 := upd (fun _ => none) L.qu (.frz o (.dK (dG Sum.inr quV D.qu)))) upd_same) (fun i σ G => (∃ v4 v5, σ = [some (.ref L.x), some (.str n), some (.ref a), some (.ref td), v4, v5]) ∧ G L.qu = some (.frz o (.dK (dG Sum.inr quV D.qu))) ∧ G td = some (.dK (dG Sum.inr quV (able.map fun n => (n, ())))) ∧ ∃ no', LnAt cLine (upd G L.qu (.dK (dG Sum.inr quV D.qu))) L { D with no := no' } ∧ conN no' = conAdd D n c able ((kys D.qu).take i) (conN D.no) ∧ kys no' = kys D.no ∧ no'.map (·.2.1) = D.no.map (·.2.1) ∧ OffL L D H (upd G L.qu (.dK (dG Sum.inr quV D.qu))) ∧ ∀ t, upd G L.qu (.dK (dG Sum.inr quV D.qu)) t = none → H t = none) ⟨⟨_, _, rfl⟩, hq2, ht2, D.no, by rw [eb2]; exact N1, by rw [List.take_zero, c0], rfl, rfl, by rw [eb2]; exact Same.offL s1, by rw [eb2]; exact fun t h => none_same s1 h⟩ (fun i σ G z => same_one z.2.1) (fun i y σ G hy z => ?_) (fun σ G z => ?_)
  · obtain ⟨⟨v4, v5, rfl⟩, fq, ft, no', M, cn, ky, ad, off, nw⟩ := z
    rw [dG_kV, List.getElem?_map] at hy
    obtain ⟨m, em, rfl⟩ := Option.map_eq_some_iff.mp hy
    have hmq := List.mem_of_getElem? em
    have et : (kys D.qu).take (i + 1) = (kys D.qu).take i ++ [m] := by rw [List.take_add_one, em]; rfl
    have nm : ¬ m ∈ (kys D.qu).take i := fun z => by
      obtain ⟨j, hj⟩ := List.mem_iff_getElem?.mp z
      have jl : j < i := by
        have := (List.getElem?_eq_some_iff.mp hj).1
        rw [List.length_take] at this
        omega
      rw [List.getElem?_take_of_lt jl] at hj
      exact ne8 qn hj em (by omega) rfl
    have gG : ∀ b u, b ≠ L.qu → upd G L.qu (.dK (dG Sum.inr quV D.qu)) b = some u → G b = some u := fun b u nb e => by rw [upd_ne nb] at e; exact e
    have Go := gG _ _ (ne_of N.o N.qu (by intro z; cases z)) M.o
    have Gw := gG _ _ (ne8 N.nd (i := 4) (j := 7) rfl rfl (by decide)) M.ow
    have Gr := gG _ _ (ne8 N.nd (i := 0) (j := 7) rfl rfl (by decide)) M.ra
    have gc := dget_dG inr_inj (gG _ _ (ne8 N.nd (i := 5) (j := 7) rfl rfl (by decide)) M.co) n
    rw [ec] at gc
    obtain ⟨e, ee⟩ := lkG_some (show m ∈ no'.map (·.1) from by have := (qo m hmq).2; rw [← ky] at this; exact this)
    have hme := lkG_mem ee
    have gn := dget_dG inr_inj (gG _ _ (ne8 N.nd (i := 6) (j := 7) rfl rfl (by decide)) M.no) m
    rw [ee] at gn
    have hl0 := M.nl (m, e) hme
    have laq : e.1 ≠ L.qu := fun z => by rw [z, upd_same] at hl0; cases hl0
    have hl := gG _ _ laq hl0
    obtain ⟨p, hp, ep1, ep2, ep3⟩ := con_len cn nm hme
    have le : e.2.length ≤ 1000 := by rw [ep3]; exact Z p hp
    have laD : ∃ p ∈ D.no, e.1 = p.2.1 := ⟨p, hp, ep2.symm⟩
    obtain ⟨ow, eow⟩ := lkG_some hn
    obtain ⟨om, eom⟩ := lkG_some (qo m hmq).1
    obtain ⟨r1, er1⟩ := lkG_some (ok _ (lkG_mem eow))
    obtain ⟨r2, er2⟩ := lkG_some (ok _ (lkG_mem eom))
    refine ⟨_, rfl, _, rfl, td, _, rfl, dget_dG inr_inj ft m, _, rfl, ?_⟩
    cases et2 : lkG (able.map fun n => (n, ())) m with
    | none =>
      have na : ¬ m ∈ able := fun z => lkG_none.mp et2 (by rw [List.map_map]; exact List.mem_map.mpr ⟨m, z, rfl⟩)
      have ew : whyL D n able m = "unable" := by unfold whyL; rw [if_neg na]
      refine iteF ?_
      rw [← ew]
      refine ⟨_, rfl, L.x, cLine, L.dx, _, _, rfl, Go, T.cl_Line, T.n_Line_notes, rfl, _, rfl, L.no, _, rfl, gn, .inl ⟨rfl, _, SqL.of hl⟩, _, rfl, _, rfl, L.x, cLine, L.dx, _, _, rfl, Go, T.cl_Line, T.n_Line_costs, rfl, _, rfl, L.co, _, rfl, gc, _, rfl, small (by show 3 ≤ 1000; decide), fun t nt => ?_⟩
      have ntq : t ≠ L.qu := Ne.symm (ne_of_none fq nt)
      have nta : e.1 ≠ t := ne_of_none hl nt
      have ht0 : (upd G L.qu (.dK (dG Sum.inr quV D.qu))) t = none := by rw [upd_ne ntq]; exact nt
      have N4 := M.add_note (t := (t, n, c, whyL D n able m)) ht0 hme (by rw [ky]; exact kn)
      have ceq : upd (upd (upd G t (.tup (ntV (t, n, c, whyL D n able m)))) e.1 (.lst (e.2.map (fun t => V.ref t.1) ++ [V.ref t]))) L.qu (.dK (dG Sum.inr quV D.qu)) = upd (upd (upd G L.qu (.dK (dG Sum.inr quV D.qu))) t (.tup (ntV (t, n, c, whyL D n able m)))) e.1 (.lst (e.2.map (fun t => V.ref t.1) ++ [V.ref t])) := by
        rw [upd_comm laq, upd_comm ntq]
      refine ⟨e.1, _, _, rfl, rfl, (by rw [upd_ne nta]; exact hl), ?_, ?_⟩
      · rw [List.length_map]
        exact small1000 le
      refine ⟨⟨_, _, rfl⟩, ?_, ?_, no'.map (addN m (t, n, c, whyL D n able m)), ?_, ?_, ?_, ?_, ?_, ?_⟩
      · rw [upd_ne (Ne.symm laq), upd_ne (Ne.symm ntq)]
        exact fq
      · rw [upd_ne (ne_of ft hl (by intro z; cases z)), upd_ne (ne_of_none ft nt)]
        exact ft
      · show LnAt cLine (upd (upd (upd G t (.tup (ntV (t, n, c, whyL D n able m)))) e.1 (.lst (e.2.map (fun t => V.ref t.1) ++ [V.ref t]))) L.qu (.dK (dG Sum.inr quV D.qu))) L _
        rw [ceq]
        exact N4
      · rw [et]
        exact con_step cn nm
      · rw [addN_ky]
        exact ky
      · rw [addN_ad]
        exact ad
      · show OffL L D H (upd (upd (upd G t (.tup (ntV (t, n, c, whyL D n able m)))) e.1 (.lst (e.2.map (fun t => V.ref t.1) ++ [V.ref t]))) L.qu (.dK (dG Sum.inr quV D.qu)))
        rw [ceq]
        refine OffL.set (fun b u nb eb => ?_) (.inr laD) _
        rw [upd_ne (ne_of_none (off b u nb eb) ht0)]
        exact off b u nb eb
      · show ∀ w, (upd (upd (upd G t (.tup (ntV (t, n, c, whyL D n able m)))) e.1 (.lst (e.2.map (fun t => V.ref t.1) ++ [V.ref t]))) L.qu (.dK (dG Sum.inr quV D.qu))) w = none → H w = none
        rw [ceq]
        intro w hw
        by_cases c1 : w = e.1
        · rw [c1, upd_same] at hw
          cases hw
        rw [upd_ne c1] at hw
        by_cases c2 : w = t
        · rw [c2, upd_same] at hw
          cases hw
        rw [upd_ne c2] at hw
        exact nw w hw
    | some u0 =>
      have na : m ∈ able := by
        have := lkG_key et2
        rw [List.map_map] at this
        obtain ⟨m', hm, e⟩ := List.mem_map.mp this
        rw [← e]
        exact hm
      have ew : (if ow = om then Str.ofString "own" else if r2 < r1 then "rank" else "share") = whyL D n able m := by
        unfold whyL ownD
        rw [if_pos na, eow, eom]
        show _ = if ow = om then Str.ofString "own" else if (lkG D.ra om).getD 0 < (lkG D.ra ow).getD 0 then "rank" else "share"
        rw [er1, er2]
        rfl
      refine iteT ⟨_, rfl, L.x, _, L.dx, _, _, _, rfl, Go, rfl, T.cl_Line, D_Line_why_ahead, _, rfl, _, rfl, L, D, n, m, ow, om, r1, r2, rfl, Go, Gw, Gr, eow, eom, er1, er2, ?_⟩
      rw [ew]
      refine ⟨_, rfl, L.x, cLine, L.dx, _, _, rfl, Go, T.cl_Line, T.n_Line_notes, rfl, _, rfl, L.no, _, rfl, gn, .inl ⟨rfl, _, SqL.of hl⟩, _, rfl, _, rfl, L.x, cLine, L.dx, _, _, rfl, Go, T.cl_Line, T.n_Line_costs, rfl, _, rfl, L.co, _, rfl, gc, _, rfl, small (by show 3 ≤ 1000; decide), fun t nt => ?_⟩
      have ntq : t ≠ L.qu := Ne.symm (ne_of_none fq nt)
      have nta : e.1 ≠ t := ne_of_none hl nt
      have ht0 : (upd G L.qu (.dK (dG Sum.inr quV D.qu))) t = none := by rw [upd_ne ntq]; exact nt
      have N4 := M.add_note (t := (t, n, c, whyL D n able m)) ht0 hme (by rw [ky]; exact kn)
      have ceq : upd (upd (upd G t (.tup (ntV (t, n, c, whyL D n able m)))) e.1 (.lst (e.2.map (fun t => V.ref t.1) ++ [V.ref t]))) L.qu (.dK (dG Sum.inr quV D.qu)) = upd (upd (upd G L.qu (.dK (dG Sum.inr quV D.qu))) t (.tup (ntV (t, n, c, whyL D n able m)))) e.1 (.lst (e.2.map (fun t => V.ref t.1) ++ [V.ref t])) := by
        rw [upd_comm laq, upd_comm ntq]
      refine ⟨e.1, _, _, rfl, rfl, (by rw [upd_ne nta]; exact hl), ?_, ?_⟩
      · rw [List.length_map]
        exact small1000 le
      refine ⟨⟨_, _, rfl⟩, ?_, ?_, no'.map (addN m (t, n, c, whyL D n able m)), ?_, ?_, ?_, ?_, ?_, ?_⟩
      · rw [upd_ne (Ne.symm laq), upd_ne (Ne.symm ntq)]
        exact fq
      · rw [upd_ne (ne_of ft hl (by intro z; cases z)), upd_ne (ne_of_none ft nt)]
        exact ft
      · show LnAt cLine (upd (upd (upd G t (.tup (ntV (t, n, c, whyL D n able m)))) e.1 (.lst (e.2.map (fun t => V.ref t.1) ++ [V.ref t]))) L.qu (.dK (dG Sum.inr quV D.qu))) L _
        rw [ceq]
        exact N4
      · rw [et]
        exact con_step cn nm
      · rw [addN_ky]
        exact ky
      · rw [addN_ad]
        exact ad
      · show OffL L D H (upd (upd (upd G t (.tup (ntV (t, n, c, whyL D n able m)))) e.1 (.lst (e.2.map (fun t => V.ref t.1) ++ [V.ref t]))) L.qu (.dK (dG Sum.inr quV D.qu)))
        rw [ceq]
        refine OffL.set (fun b u nb eb => ?_) (.inr laD) _
        rw [upd_ne (ne_of_none (off b u nb eb) ht0)]
        exact off b u nb eb
      · show ∀ w, (upd (upd (upd G t (.tup (ntV (t, n, c, whyL D n able m)))) e.1 (.lst (e.2.map (fun t => V.ref t.1) ++ [V.ref t]))) L.qu (.dK (dG Sum.inr quV D.qu))) w = none → H w = none
        rw [ceq]
        intro w hw
        by_cases c1 : w = e.1
        · rw [c1, upd_same] at hw
          cases hw
        rw [upd_ne c1] at hw
        by_cases c2 : w = t
        · rw [c2, upd_same] at hw
          cases hw
        rw [upd_ne c2] at hw
        exact nw w hw
  · obtain ⟨⟨v4, v5, rfl⟩, fq, ft, no', M, cn, ky, ad, off, nw⟩ := z
    rw [dG_kV, List.length_map, List.take_length] at cn
    exact ⟨fq, q _ no' off nw cn M⟩
end
end My
namespace My
open PySem L2
open Blk (sg sg_inj sg_app)
section
variable {P : Program} {w : World} {K : PySem.W.Frag} {mg : Str → Option Value} {base : Heap}
def dropG (l : List (Str × Unit)) (n : Str) : List (Str × Unit) := l.filter fun p => !decide (p.1 = n)
theorem dG_drop {l : List (Str × Unit)} {n : Str} : dropK (dG Sum.inr quV l) (Sum.inr n) = dG Sum.inr quV (dropG l n) := by
  unfold dropK dropG dG
  rw [List.filter_map]
  refine congrArg _ (List.filter_congr fun p _ => ?_)
  show decide ((Sum.inr p.1 : Key) ≠ Sum.inr n) = !decide (p.1 = n)
  by_cases c : p.1 = n
  · rw [c]
    simp
  · rw [decide_eq_false c, decide_eq_true (show (Sum.inr p.1 : Key) ≠ Sum.inr n from fun z => c (by injection z))]
    rfl
theorem dropG_mem {l : List (Str × Unit)} {n m : Str} : m ∈ kys (dropG l n) ↔ m ∈ kys l ∧ m ≠ n := by
  unfold kys dropG
  constructor
  · intro h
    obtain ⟨p, hp, rfl⟩ := List.mem_map.mp h
    obtain ⟨h1, h2⟩ := List.mem_filter.mp hp
    exact ⟨List.mem_map_of_mem h1, fun z => by rw [decide_eq_true z] at h2; cases h2⟩
  · rintro ⟨h1, h2⟩
    obtain ⟨p, hp, rfl⟩ := List.mem_map.mp h1
    exact List.mem_map_of_mem (List.mem_filter.mpr ⟨hp, by rw [decide_eq_false h2]; rfl⟩)
theorem dropG_nd {l : List (Str × Unit)} {n : Str} (h : (kys l).Nodup) : (kys (dropG l n)).Nodup := List.Sublist.nodup (List.Sublist.map _ List.filter_sublist) h
theorem dropG_kys {l : List (Str × Unit)} {n : Str} : kys (dropG l n) = (kys l).filter fun m => !decide (m = n) := by
  unfold kys dropG
  rw [List.filter_map]
  rfl
theorem lf_kind {cL : Addr} {H : Hp} {L : LA} {D : LD} (N : LnAt cL H L D) {b : Addr} (h : LF L D b) : (∃ kvs, H b = some (.dK kvs)) ∨ ∃ xs, H b = some (.lst xs) := by
  rcases h with h | ⟨n, hn, rfl⟩
  · unfold LA.ds at h
    simp only [List.mem_cons, List.not_mem_nil, or_false] at h
    rcases h with rfl | rfl | rfl | rfl | rfl | rfl | rfl | rfl
    · exact .inl ⟨_, N.ra⟩
    · exact .inl ⟨_, N.sh⟩
    · exact .inl ⟨_, N.lv⟩
    · exact .inl ⟨_, N.ma⟩
    · exact .inl ⟨_, N.ow⟩
    · exact .inl ⟨_, N.co⟩
    · exact .inl ⟨_, N.no⟩
    · exact .inl ⟨_, N.qu⟩
  · exact .inr ⟨_, N.nl n hn⟩
theorem lf_not {cL : Addr} {H : Hp} {L : LA} {D : LD} (N : LnAt cL H L D) {b : Addr} {o : HO} (e : H b = some o) (h1 : ∀ kvs, o ≠ .dK kvs) (h2 : ∀ xs, o ≠ .lst xs) : ¬ LF L D b := fun h => by
  rcases lf_kind N h with ⟨k, ek⟩ | ⟨k, ek⟩
  · rw [e] at ek
    exact h1 k (Option.some.inj ek)
  · rw [e] at ek
    exact h2 k (Option.some.inj ek)
theorem tab_off {cL tP : Addr} {H H' : Hp} {L : LA} {D : LD} (N : LnAt cL H L D) (t : LTab H tP) (s : OffL L D H H') : LTab H' tP := by
  rcases t with t | ⟨c, t1, t2⟩
  · exact .inl (s _ _ (lf_not N t (by intro k z; cases z) (by intro k z; cases z)) t)
  · exact .inr ⟨c, s _ _ (lf_not N t1 (by intro k z; cases z) (by intro k z; cases z)) t1, s _ _ (lf_not N t2 (by intro k z; cases z) (by intro k z; cases z)) t2⟩
theorem LnAt.sameP {cL tP : Addr} {H H' : Hp} {L : LA} {D : LD} {ps : Array Value} (A : LnAt cL H L D) (ht : H tP = some (.tbl ps)) (s : SameP tP H H') : LnAt cL H' L D := by
  have k : ∀ {b o}, H b = some o → o ≠ .tbl ps → H' b = some o := fun e n => s _ _ (ne_of e ht n) e
  have kd : ∀ {b kvs}, H b = some (HO.dK kvs) → H' b = some (.dK kvs) := fun e => k e (by intro z; cases z)
  exact ⟨k A.o (by intro z; cases z), kd A.ra, kd A.sh, kd A.lv, kd A.ma, kd A.ow, kd A.co, kd A.no, kd A.qu, fun n h => k (A.nl n h) (by intro z; cases z), fun n h t ht => k (A.nt n h t ht) (by intro z; cases z), A.nd, A.nn⟩
theorem fold_has {D : LD} {able : List Str} : ∀ (ns : List Str) (l : List (Str × Str)), (∀ k ∈ kys l, k ∈ kys (ns.foldl (fstep D able) l)) ∧ ∀ n ∈ ns, n ∈ able → ownD D n ∈ kys (ns.foldl (fstep D able) l)
  | [], l => ⟨fun _ h => h, fun n h => (by cases h)⟩
  | m :: r, l => by
    have ih := fold_has (D := D) (able := able) r (fstep D able l m)
    have mono : ∀ k ∈ kys l, k ∈ kys (fstep D able l m) := fun k hk => by
      unfold fstep
      split
      · split
        · exact hk
        · unfold kys
          rw [List.map_append]
          exact List.mem_append_left _ hk
      · exact hk
    refine ⟨fun k hk => ih.1 k (mono k hk), fun n hn ha => ?_⟩
    rcases List.mem_cons.mp hn with rfl | hn
    · refine ih.1 _ ?_
      unfold fstep
      rw [if_pos ha]
      by_cases c : ownD D n ∈ kys l
      · rw [if_pos c]; exact c
      · rw [if_neg c]
        unfold kys
        rw [List.map_append]
        exact List.mem_append_right _ List.mem_cons_self
    · exact ih.2 n hn ha
theorem firsts_has {D : LD} {able : List Str} {n : Str} (hq : n ∈ kys D.qu) (ha : n ∈ able) : ownD D n ∈ kys (firstsL D able) := (fold_has (kys D.qu) []).2 n hq ha
theorem firsts_le (D : LD) (able : List Str) : (firstsL D able).length ≤ D.qu.length := by
  have := ffold_len (D := D) (able := able) (kys D.qu) []
  unfold kys at this
  rw [List.length_map, List.length_nil, Nat.zero_add] at this
  exact this
def sp_Ln_pull (cL cU : Addr) : Sp := fun vs H Q E => ∃ (L : LA) (D : LD) (n : Str), vs = [.ref L.x, .str n] ∧ LnAt cL H L D ∧ (n ∈ kys D.qu → ∀ H', OffL L D H H' → (∀ t, H' t = none → H t = none) → LnAt cL H' L { D with qu := dropG D.qu n } → Q .non H') ∧ (¬ n ∈ kys D.qu → OutL cU n H E)
theorem sc_Line_pull : FnScope ["self", "name"] ["self", "name"] (defScope s_Line_pull) := ⟨rfl, rfl, rfl, by decide +kernel, rfl, by decide +kernel, by decide +kernel⟩
theorem ok_Line_pull {fa cLine cUnknown cTwice cHallError tP_first_of : Addr} {fd : FuncData} (F : Fun K "pull" "Line.pull" s_Line_pull fa fd) (T : Txt K mg cLine cUnknown cTwice cHallError tP_first_of) (D_Line_must_wait : MtE P w K mg base 3 "must_wait" cLine ["self", "names"] (sp_Ln_must_wait cLine cUnknown)) :
    FnOk P w K mg base (CXe P w) 4 fa fd ["self", "name"] (sp_Ln_pull cLine cUnknown) := by
  refine F.okE sc_Line_pull (fun vs H Q E h => ?_) (fun cdv A outer s H vs Q E hr h => ?_)
  · obtain ⟨L, D, n, rfl, _⟩ := h
    rfl
  obtain ⟨L, D, n, rfl, N, q1, q2⟩ := h
  have hu := hu_n hr 0 (by decide)
  refine ⟨_, (pss_cons (ps_expr (pe_methE 3 pass_def (hr.mono (by decide)) (pv 0) (pa_cons (pe_lst (pa_cons (pv 1) pa_nil)) pa_nil)))
  (pss_one (ps_expr (pe_dpop1 (pe_fld (pv 0) rfl) (pv 1) ⟨rfl, rfl, rfl, rfl⟩)))), ?_⟩
  refine ⟨_, rfl, L.x, _, L.dx, _, _, _, rfl, N.o, rfl, T.cl_Line, D_Line_must_wait, _, rfl, small (by show 1 ≤ 1000; decide), fun p np => ?_⟩
  have N1 := N.same (same_new np (.lst [V.str n]))
  refine ⟨L, D, p, [n], rfl, N1, upd_same, fun hq => ?_, fun pre m post e _ hm => ?_⟩
  · have hn := hq n List.mem_cons_self
    obtain ⟨u, eu⟩ := lkG_some hn
    refine ⟨_, rfl, L.x, cLine, L.dx, _, _, rfl, N1.o, T.cl_Line, T.n_Line_queue, rfl, L.qu, rfl, .inl ⟨_, .inl N1.qu⟩, _, rfl, _, Sum.inr n, quV u, N1.qu, rfl, by rw [val_dG inr_inj, eu]; rfl, ?_⟩
    rw [dG_drop]
    refine q1 hn _ (OffL.set (Same.offL (same_new np _)) (lf_qu L D) _) (fun t ht => ?_) (N1.set_qu (dropG D.qu n))
    by_cases c1 : t = L.qu
    · rw [c1, upd_same] at ht
      cases ht
    rw [upd_ne c1] at ht
    exact none_same (same_new np _) ht
  · have em : m = n := by
      cases pre with
      | nil => exact (List.cons.inj e).1.symm
      | cons z r =>
        have := congrArg List.length e
        simp at this
    subst em
    intro ea H' sm ne g
    exact q2 hm ea H' ((same_new np _).trans sm) (none_same (same_new np _) ne) g
theorem none_sameP {tP : Addr} {H H' : Hp} (s : SameP tP H H') (h : LTab H' tP) {t : Addr} (n : H' t = none) : H t = none := by
  cases e : H t with
  | none => rfl
  | some u =>
    by_cases c : t = tP
    · subst c
      rcases h with h | ⟨c, h, _⟩
      · rw [h] at n; cases n
      · rw [h] at n; cases n
    · rw [s _ _ c e] at n
      cases n
def takD (D : LD) (n a : Str) (r l c s : Int) (no : List (Str × Addr × List Note)) : LD := { D with qu := dropG D.qu n, ma := upG D.ma r (max ((lkG D.ma r).getD 0) l), lv := chLv D n a l c s, no := no }
structure LD.Ok (D : LD) : Prop where
  qo : ∀ n ∈ kys D.qu, n ∈ kys D.ow
  oc : kys D.co = kys D.ow
  on : kys D.no = kys D.ow
  sk : kys D.sh = kys D.ra
  lk : kys D.lv = kys D.ra
  oa : ∀ p ∈ D.ow, p.2 ∈ kys D.ra
  ss : ∀ p ∈ D.sh, 0 < p.2 ∧ p.2 ≤ 1000
  qn : (kys D.qu).Nodup
  wn : (kys D.ow).Nodup
def sp_Ln_take (cL tP cU : Addr) : Sp := fun vs H Q E => ∃ (L : LA) (D : LD) (a : Addr) (able : List Str), vs = [.ref L.x, .ref a] ∧ LnAt cL H L D ∧ D.Z ∧ D.Ok ∧ H a = some (.lst (able.map V.str)) ∧ ¬ LF L D a ∧ D.qu.length ≤ 300 ∧ able.length ≤ 1000 ∧ LTab H tP ∧
  (∀ pre n post, able = pre ++ n :: post → (∀ m ∈ pre, m ∈ kys D.qu) → ¬ n ∈ kys D.qu → OutL cU n H E) ∧
  ((∀ n ∈ able, n ∈ kys D.qu) → able = [] → Q .non H) ∧
  ((∀ n ∈ able, n ∈ kys D.qu) → able ≠ [] → able.Nodup ∧ ∀ (b : Str) (r l c s : Int) (H' : Hp) no', lkG D.ow (chosenL D able D.lv) = some b → lkG D.ra b = some r → lkG D.lv b = some l → lkG D.co (chosenL D able D.lv) = some c → lkG D.sh b = some s → 0 < s → (∀ x o, x ≠ tP → ¬ LF L D x → H x = some o → H' x = some o) → (∀ t, H' t = none → H t = none) → LTab H' tP → conN no' = conAdd D (chosenL D able D.lv) c able (kys (dropG D.qu (chosenL D able D.lv))) (conN D.no) → LnAt cL H' L (takD D (chosenL D able D.lv) b r l c s no') → Q (.str (chosenL D able D.lv)) H')
theorem sc_Line_take : FnScope ["self", "able", "taken"] ["self", "able"] (defScope s_Line_take) := ⟨rfl, rfl, rfl, by decide +kernel, rfl, by decide +kernel, by decide +kernel⟩
theorem ok_Line_take {fa cLine cUnknown cTwice cHallError tP_first_of : Addr} {fd : FuncData} (F : Fun K "take" "Line.take" s_Line_take fa fd) (T : Txt K mg cLine cUnknown cTwice cHallError tP_first_of) (D_Line_must_wait : MtE P w K mg base 3 "must_wait" cLine ["self", "names"] (sp_Ln_must_wait cLine cUnknown)) (D_Line_chosen : MtE P w K mg base 3 "chosen" cLine ["self", "able", "levels"] (sp_Ln_chosen cLine tP_first_of)) (D_Line_charge : MtE P w K mg base 3 "charge" cLine ["self", "name"] (sp_Ln_charge cLine)) (D_Line_note_taken : MtE P w K mg base 2 "note_taken" cLine ["self", "taken", "able"] (sp_Ln_note_taken cLine)) :
    FnOk P w K mg base (CXe P w) 4 fa fd ["self", "able"] (sp_Ln_take cLine tP_first_of cUnknown) := by
  refine F.okE sc_Line_take (fun vs H Q E h => ?_) (fun cdv A outer s H vs Q E hr h => ?_)
  · obtain ⟨L, D, a, able, rfl, _⟩ := h
    rfl
  obtain ⟨L, D, a, able, rfl, N, Z, O, ha, nla, l0, l1, ht, q0, q1, q2⟩ := h
  have hu := hu_n hr 0 (by decide)
  refine ⟨_, (pss_cons (ps_expr (pe_methE 3 pass_def (hr.mono (by decide)) (pv 0) (pa_cons (pv 1) pa_nil)))
  (pss_cons (ps_if (pt_not (pt_truth (pv 1) (fun _ => rfl))) (pss_one (ps_ret pe_non)) pss_nil)
  (pss_cons (ps_set (i := 2) sc_Line_take.nd rfl (by first | exact Or.inl rfl | exact Or.inr rfl) (pe_methE 3 pass_def (hr.mono (by decide)) (pv 0) (pa_cons (pv 1) (pa_cons (pe_fld (pv 0) rfl) pa_nil))))
  (pss_cons (ps_expr (pe_dpop1 (pe_fld (pv 0) rfl) (pv 2) ⟨rfl, rfl, rfl, rfl⟩))
  (pss_cons (ps_expr (pe_methE 3 pass_def (hr.mono (by decide)) (pv 0) (pa_cons (pv 2) pa_nil)))
  (pss_cons (ps_expr (pe_methE 2 pass_def (hr.mono (by decide)) (pv 0) (pa_cons (pv 2) (pa_cons (pv 1) pa_nil))))
  (pss_one (ps_ret (pv 2))))))))), ?_⟩
  refine ⟨_, rfl, L.x, _, L.dx, _, _, _, rfl, N.o, rfl, T.cl_Line, D_Line_must_wait, _, rfl, L, D, a, able, rfl, N, ha, fun hq => ?_, q0⟩
  by_cases em : able = []
  · refine ⟨_, rfl, false, .inl ⟨_, SqL.of ha, by rw [em]; rfl⟩, iteT (q1 hq em)⟩
  obtain ⟨and, q⟩ := q2 hq em
  refine ⟨_, rfl, true, .inl ⟨_, SqL.of ha, by cases able with | nil => exact absurd rfl em | cons => rfl⟩, iteF ?_⟩
  obtain ⟨n0, hn0⟩ : ∃ n, n ∈ able := List.exists_mem_of_ne_nil _ em
  have pos : 0 < (firstsL D able).length := by
    have h1 := firsts_has (hq n0 hn0) hn0
    cases e : firstsL D able with
    | nil => rw [e] at h1; cases h1
    | cons => exact Nat.succ_pos _
  have le3 : (firstsL D able).length ≤ 300 := Nat.le_trans (firsts_le D able) l0
  obtain ⟨tps, htp⟩ := ht.is
  refine ⟨_, rfl, L.x, _, L.dx, _, _, _, rfl, N.o, rfl, T.cl_Line, D_Line_chosen, _, rfl, _, rfl, L.x, cLine, L.dx, _, _, rfl, N.o, T.cl_Line, T.n_Line_levels, rfl, L, D, a, L.lv, able, D.lv, rfl, N, Z, ha, and, l1, O.qo, N.lv, fun p hp => ⟨O.oa p hp, by rw [O.lk]; exact O.oa p hp⟩, pos, le3, ht, fun H1 s1 t1 => ?_⟩
  have N1 := N.sameP htp s1
  obtain ⟨p, ep, hp, ech⟩ := chosen_at (lv := D.lv) pos
  obtain ⟨pa, po, pq⟩ := (firsts_ok D able).1 p hp
  rw [← ech] at pa po pq
  generalize chosenL D able D.lv = n at q pa po pq ⊢
  obtain ⟨u, eu⟩ := lkG_some pq
  obtain ⟨b, eb⟩ := lkG_some (O.qo n pq)
  have hb := O.oa _ (lkG_mem eb)
  obtain ⟨r, er⟩ := lkG_some hb
  obtain ⟨l, el⟩ := lkG_some (show b ∈ D.lv.map (·.1) by have := O.lk; unfold kys at this; rw [this]; exact hb)
  obtain ⟨s, es⟩ := lkG_some (show b ∈ D.sh.map (·.1) by have := O.sk; unfold kys at this; rw [this]; exact hb)
  obtain ⟨c, ec⟩ := lkG_some (show n ∈ D.co.map (·.1) by have := O.oc; unfold kys at this; rw [this]; exact O.qo n pq)
  obtain ⟨s0, sl⟩ := O.ss _ (lkG_mem es)
  refine ⟨_, rfl, L.x, cLine, L.dx, _, _, rfl, N1.o, T.cl_Line, T.n_Line_queue, rfl, L.qu, rfl, .inl ⟨_, .inl N1.qu⟩, _, rfl, _, Sum.inr n, quV u, N1.qu, rfl, by rw [val_dG inr_inj, eu]; rfl, ?_⟩
  rw [dG_drop]
  have N2 := N1.set_qu (dropG D.qu n)
  have o2 : OffL L D H1 (upd H1 L.qu (.dK (dG Sum.inr quV (dropG D.qu n)))) := (OffL.refl L D H1).set (lf_qu L D) _
  have w2 : ∀ t, upd H1 L.qu (.dK (dG Sum.inr quV (dropG D.qu n))) t = none → H1 t = none := fun t h => by
    by_cases c1 : t = L.qu
    · rw [c1, upd_same] at h
      cases h
    rw [upd_ne c1] at h
    exact h
  generalize upd H1 L.qu (.dK (dG Sum.inr quV (dropG D.qu n))) = H2 at N2 o2 w2 ⊢
  have Z2 : LD.Z { D with qu := dropG D.qu n } := ⟨Z.ra, Z.sh, Z.lv, Z.ma, Z.ow, Z.co, Z.no, Nat.le_trans (List.length_filter_le _ _) Z.qu, Z.nn⟩
  refine ⟨_, rfl, L.x, _, L.dx, _, _, _, rfl, N2.o, rfl, T.cl_Line, D_Line_charge, _, rfl, L, { D with qu := dropG D.qu n }, n, b, r, l, c, s, rfl, N2, Z2, eb, er, el, ec, es, s0, sl, fun H3 o3 w3 N3 => ?_⟩
  have ha1 : H1 a = some (.lst (able.map V.str)) := s1 _ _ (ne_of ha htp (by intro z; cases z)) ha
  have ha3 := o3 _ _ nla (o2 _ _ nla ha1)
  refine ⟨_, rfl, L.x, _, L.dx, _, _, _, rfl, N3.o, rfl, T.cl_Line, D_Line_note_taken, _, rfl, _, rfl, L, { D with qu := dropG D.qu n, ma := upG D.ma r (max ((lkG D.ma r).getD 0) l), lv := chLv D n b l c s }, n, a, able, c, rfl, N3, Z.nn, ha3, and, l1, fun m hm => ?_, O.oa, dropG_nd O.qn, by rw [show kys D.no = kys D.ow from O.on]; exact O.wn, O.qo n pq, ec, fun H4 no' o4 w4 cn N4 => ?_⟩
  · have h1 := O.qo m (dropG_mem.mp hm).1
    exact ⟨h1, by show m ∈ kys D.no; rw [O.on]; exact h1⟩
  have off : OffL L D H1 H4 := fun x o nx e => o4 _ _ nx (o3 _ _ nx (o2 _ _ nx e))
  exact ⟨_, rfl, q b r l c s H4 no' eb er el ec es s0 (fun x o nt nx e => off x o nx (s1 _ _ nt e)) (fun t h => none_sameP s1 t1 (w2 t (w3 t (w4 t h)))) (tab_off N1 t1 off) cn N4⟩
end
end My
namespace My
open PySem L2
open Blk (sg sg_inj sg_app)
section
variable {P : Program} {w : World} {K : PySem.W.Frag} {mg : Str → Option Value} {base : Heap}
theorem LD.Ok.owner {D : LD} (O : D.Ok) {n : Str} (h : n ∈ kys D.ow) : ∃ c, lkG D.ow n = some (ownD D n) ∧ lkG D.co n = some c ∧ ownD D n ∈ kys D.ra := by
  obtain ⟨a, ea⟩ := lkG_some h
  obtain ⟨c, ec⟩ := lkG_some (show n ∈ D.co.map (·.1) by have := O.oc; unfold kys at this; rw [this]; exact h)
  have : ownD D n = a := by unfold ownD; rw [ea]; rfl
  rw [this]
  exact ⟨c, ea, ec, O.oa _ (lkG_mem ea)⟩
theorem LD.Ok.has {D : LD} (O : D.Ok) {a : Str} (h : a ∈ kys D.ra) : ∃ r l s, lkG D.ra a = some r ∧ lkG D.lv a = some l ∧ lkG D.sh a = some s ∧ 0 < s ∧ s ≤ 1000 := by
  obtain ⟨r, er⟩ := lkG_some h
  obtain ⟨l, el⟩ := lkG_some (show a ∈ D.lv.map (·.1) by have := O.lk; unfold kys at this; rw [this]; exact h)
  obtain ⟨s, es⟩ := lkG_some (show a ∈ D.sh.map (·.1) by have := O.sk; unfold kys at this; rw [this]; exact h)
  exact ⟨r, l, s, er, el, es, O.ss _ (lkG_mem es)⟩
theorem flat_strs (l : List Str) : (l.map V.str).all flatV = true := by
  rw [List.all_map]
  exact List.all_eq_true.mpr fun _ _ => rfl
theorem erase_nd {n : Str} : ∀ {l : List Str} {j : Nat}, l.Nodup → l[j]? = some n → l.eraseIdx j = l.filter fun m => !decide (m = n)
  | [], _, _, h => by cases h
  | a :: r, 0, nd, h => by
    obtain rfl := Option.some.inj h
    rw [List.nodup_cons] at nd
    rw [List.filter_cons, decide_eq_true rfl]
    show r = _
    rw [if_neg (by decide)]
    exact (List.filter_eq_self.mpr fun m hm => by rw [decide_eq_false (fun z => nd.1 (by rw [← z]; exact hm))]; rfl).symm
  | a :: r, j + 1, nd, h => by
    rw [List.nodup_cons] at nd
    rw [List.getElem?_cons_succ] at h
    have ne : a ≠ n := fun z => nd.1 (by rw [z]; exact List.mem_of_getElem? h)
    rw [List.filter_cons, decide_eq_false ne]
    show a :: r.eraseIdx j = _
    rw [if_pos (by decide), erase_nd nd.2 h]
def AbleOf (D : LD) (able : List Str) : Prop := able.Nodup ∧ (∀ n ∈ able, n ∈ kys D.qu) ∧ able.length ≤ D.qu.length
theorem seq_cut {a rest : TS} {D : Ends} {σ : St} {H : Hp} (P : St → Hp → Prop) (h1 : ∀ R : St → Hp → Prop, (∀ σ H, P σ H → R σ H) → a { D with nx := R } σ H) (h2 : ∀ σ H, P σ H → rest D σ H) : tSeq a rest D σ H := h1 _ h2
theorem upG_kin {κ α : Type} [DecidableEq κ] {l : List (κ × α)} {k : κ} {v : α} (h : k ∈ kys l) : kys (upG l k v) = kys l := by
  unfold kys at *
  rw [upG_keys, if_pos h]
theorem upG_kout {κ α : Type} [DecidableEq κ] {l : List (κ × α)} {k : κ} {v : α} (h : ¬ k ∈ kys l) : kys (upG l k v) = kys l ++ [k] := by
  unfold kys at *
  rw [upG_keys, if_neg h]
theorem upG_mem {κ α : Type} [DecidableEq κ] {l : List (κ × α)} {k : κ} {v : α} {p : κ × α} (h : p ∈ upG l k v) : p ∈ l ∨ p = (k, v) := by
  unfold upG at h
  split at h
  · obtain ⟨q, hq, e⟩ := List.mem_map.mp h
    by_cases c : q.1 = k
    · rw [if_pos c] at e
      exact .inr (by rw [← e, c])
    · rw [if_neg c] at e
      exact .inl (by rw [← e]; exact hq)
  · rcases List.mem_append.mp h with h | h
    · exact .inl h
    · exact .inr (List.mem_singleton.mp h)
theorem laid_kys {D : LD} {a : Str} {l r : Int} (h : a ∈ kys D.lv) : kys (laidLv D a l r) = kys D.lv := by
  unfold laidLv
  split
  · rfl
  · exact upG_kin h
def layD (D : LD) (n a : Str) (c l r : Int) (t : Addr) : LD := { D with lv := laidLv D a l r, ow := upG D.ow n a, co := upG D.co n c, no := upG D.no n (t, []), qu := upG D.qu n () }
theorem LD.Ok.lay {D : LD} (O : D.Ok) {n a : Str} {c l r : Int} {t : Addr} (ha : a ∈ kys D.ra) (hn : ¬ n ∈ kys D.ow) : (layD D n a c l r t).Ok := by
  have hq : ¬ n ∈ kys D.qu := fun z => hn (O.qo n z)
  have hlv : a ∈ kys D.lv := by rw [O.lk]; exact ha
  refine ⟨fun m hm => ?_, ?_, ?_, O.sk, ?_, fun p hp => ?_, O.ss, ?_, ?_⟩
  · replace hm : m ∈ kys (upG D.qu n ()) := hm
    show m ∈ kys (upG D.ow n a)
    rw [upG_kout hq] at hm
    rw [upG_kout hn]
    rcases List.mem_append.mp hm with hm | hm
    · exact List.mem_append_left _ (O.qo m hm)
    · exact List.mem_append_right _ hm
  · show kys (upG D.co n c) = kys (upG D.ow n a)
    rw [upG_kout (by rw [O.oc]; exact hn), upG_kout hn, O.oc]
  · show kys (upG D.no n (t, [])) = kys (upG D.ow n a)
    rw [upG_kout (by rw [O.on]; exact hn), upG_kout hn, O.on]
  · show kys (laidLv D a l r) = kys D.ra
    rw [laid_kys hlv, O.lk]
  · rcases upG_mem hp with hp | rfl
    · exact O.oa p hp
    · exact ha
  · exact upG_nd O.qn
  · exact upG_nd O.wn
theorem LD.Ok.pull {D : LD} (O : D.Ok) {n : Str} : LD.Ok { D with qu := dropG D.qu n } := ⟨fun m hm => O.qo m (dropG_mem.mp hm).1, O.oc, O.on, O.sk, O.lk, O.oa, O.ss, dropG_nd O.qn, O.wn⟩
theorem con_kys {D : LD} {n : Str} {c : Int} {able done : List Str} {no l : List (Str × Addr × List Note)} (h : conN no = conAdd D n c able done (conN l)) : kys no = kys l ∧ no.map (·.2.1) = l.map (·.2.1) ∧ ∀ k, (∀ p ∈ l, p.2.2.length ≤ k) → ∀ p ∈ no, p.2.2.length ≤ k + 1 := by
  have g : ∀ {β : Type} (f : Str → Addr → β), no.map (fun p => f p.1 p.2.1) = l.map (fun p => f p.1 p.2.1) := fun f => by
    have := congrArg (List.map fun p : Con => f p.1 p.2.1) h
    unfold conN conAdd at this
    rw [List.map_map, List.map_map, List.map_map] at this
    refine this.trans ?_
    refine List.map_congr_left fun p _ => ?_
    by_cases c : p.1 ∈ done
    · simp only [Function.comp_def, if_pos c]
    · simp only [Function.comp_def, if_neg c]
  refine ⟨g fun a _ => a, g fun _ a => a, fun k hk p hp => ?_⟩
  have h1 : ((p.1, p.2.1, p.2.2.map (·.2)) : Con) ∈ conN no := List.mem_map.mpr ⟨p, hp, rfl⟩
  rw [h] at h1
  obtain ⟨q, hq, e⟩ := List.mem_map.mp h1
  obtain ⟨q', hq', rfl⟩ := List.mem_map.mp hq
  have e3 := congrArg (fun c : Con => c.2.2.length) e
  have b := hk q' hq'
  by_cases c : q'.1 ∈ done
  · simp only [if_pos c, List.length_append, List.length_map, List.length_cons, List.length_nil] at e3
    omega
  · simp only [if_neg c, List.length_map] at e3
    omega
theorem LD.Ok.take {D : LD} (O : D.Ok) {n a : Str} {r l c s : Int} {no : List (Str × Addr × List Note)} (hl : a ∈ kys D.lv) (kn : kys no = kys D.no) : (takD D n a r l c s no).Ok := by
  refine ⟨fun m hm => O.qo m (dropG_mem.mp hm).1, O.oc, kn.trans O.on, O.sk, ?_, O.oa, O.ss, dropG_nd O.qn, O.wn⟩
  show kys (upG D.lv a _) = kys D.ra
  rw [upG_kin hl, O.lk]
def jn (j : Nat) : Str := Str.ofString "j" ++ Str.ofString (toString (j : Int))
theorem len_kys {α β : Type} {l : List (Str × α)} {m : List (Str × β)} (h : kys l = kys m) : l.length = m.length := by
  have := congrArg List.length h
  unfold kys at this
  rw [List.length_map, List.length_map] at this
  exact this
theorem ins_rise {x : Str} : ∀ {r : List Str} {p : Str}, PyProof.Rows.risingS p r = true → PySem.Spec.ltCps x.cps.toList p.cps.toList = false → ∃ ss, List.Perm ss (x :: r) ∧ PyProof.Rows.risingS p ss = true
  | [], p, _, h => ⟨[x], List.Perm.refl _, by unfold PyProof.Rows.risingS; rw [h]; rfl⟩
  | y :: r, p, hr, h => by
    unfold PyProof.Rows.risingS at hr
    rw [Bool.and_eq_true] at hr
    cases c : PySem.Spec.ltCps x.cps.toList y.cps.toList with
    | true =>
      refine ⟨x :: y :: r, List.Perm.refl _, ?_⟩
      unfold PyProof.Rows.risingS PyProof.Rows.risingS
      rw [Bool.and_eq_true, Bool.and_eq_true, h]
      refine ⟨rfl, ?_, hr.2⟩
      rw [PyProof.Rows.ltCps_eq, decide_eq_true_iff] at c
      rw [PyProof.Rows.ltCps_eq, Bool.not_eq_true', decide_eq_false_iff_not]
      exact fun z => List.lt_irrefl _ (List.lt_trans c z)
    | false =>
      obtain ⟨ss, pm, rs⟩ := ins_rise hr.2 c
      refine ⟨y :: ss, (List.Perm.cons y pm).trans (List.Perm.swap x y r), ?_⟩
      unfold PyProof.Rows.risingS
      rw [Bool.and_eq_true]
      exact ⟨hr.1, rs⟩
theorem sort_ex : ∀ l : List Str, ∃ ss, List.Perm ss l ∧ PyProof.Rows.sortedS ss = true
  | [] => ⟨[], List.Perm.refl _, rfl⟩
  | x :: l => by
    obtain ⟨ss, pm, sr⟩ := sort_ex l
    cases ss with
    | nil => exact ⟨[x], List.Perm.cons x pm, rfl⟩
    | cons y r =>
      cases c : PySem.Spec.ltCps x.cps.toList y.cps.toList with
      | true =>
        refine ⟨x :: y :: r, List.Perm.cons x pm, ?_⟩
        show PyProof.Rows.risingS x (y :: r) = true
        unfold PyProof.Rows.risingS
        rw [Bool.and_eq_true]
        refine ⟨?_, sr⟩
        rw [PyProof.Rows.ltCps_eq, decide_eq_true_iff] at c
        rw [PyProof.Rows.ltCps_eq, Bool.not_eq_true', decide_eq_false_iff_not]
        exact fun z => List.lt_irrefl _ (List.lt_trans c z)
      | false =>
        obtain ⟨ss, pm2, rs⟩ := ins_rise (show PyProof.Rows.risingS y r = true from sr) c
        exact ⟨y :: ss, ((List.Perm.cons y pm2).trans (List.Perm.swap x y r)).trans (List.Perm.cons x pm), rs⟩
theorem cut_to13 (xs : List V) (k : Nat) : cutV xs none (some (k : Int)) = xs.take k := by
  unfold cutV
  rw [HT.sIx_nat, HT.sIx_none]
  by_cases h : k ≤ xs.length
  · rw [Nat.min_eq_left h]
    rfl
  · rw [Nat.min_eq_right (by omega), List.drop_zero, Nat.sub_zero, List.take_of_length_le (Nat.le_refl _), List.take_of_length_le (by omega)]
theorem LnAt.but {cL : Addr} {H H' : Hp} {L : LA} {D : LD} {h : Addr} {xs : List V} (N : LnAt cL H L D) (hh : H h = some (.lst xs)) (nh : ¬ LF L D h) (k : ∀ b o, b ≠ h → H b = some o → H' b = some o) : LnAt cL H' L D := by
  have kf : ∀ {b u}, LF L D b → H b = some u → H' b = some u := fun hb e => k _ _ (fun z => nh (by rw [← z]; exact hb)) e
  exact ⟨k _ _ (ne_of N.o hh (by intro z; cases z)) N.o, kf (lf_ra L D) N.ra, kf (lf_sh L D) N.sh, kf (lf_lv L D) N.lv, kf (lf_ma L D) N.ma, kf (lf_ow L D) N.ow, kf (lf_co L D) N.co, kf (lf_no L D) N.no, kf (lf_qu L D) N.qu, fun n h' => kf (.inr ⟨n, h', rfl⟩) (N.nl n h'), fun n h' t ht => k _ _ (ne_of (N.nt n h' t ht) hh (by intro z; cases z)) (N.nt n h' t ht), N.nd, N.nn⟩
end
end My
namespace My
open PySem L2
open Blk (sg sg_inj sg_app)
section
variable {P : Program} {w : World} {K : PySem.W.Frag} {mg : Str → Option Value} {base : Heap}
def lvF (D : LD) (x : Str) : Int := (lkG D.lv x).getD 0
def mkF (D : LD) (r : Int) : Int := (lkG D.ma r).getD 0
def raF (D : LD) (x : Str) : Int := (lkG D.ra x).getD 0
def gF (D : LD) (x : Str) : Int := 2520 / (lkG D.sh x).getD 1
def BD (D : LD) (most : Int) : Prop := ∀ x ∈ kys D.ra, lvF D x ≤ mkF D (raF D x) + most * gF D x ∧ (hasW D x = true → mkF D (raF D x) ≤ lvF D x)
structure Link (D D' : LD) : Prop where
  up : ∀ x ∈ kys D.ra, lvF D x ≤ lvF D' x
  eq : ∀ x, hasW D x = true → lvF D' x = lvF D x
  has : ∀ x, hasW D x = true → hasW D' x = true
  ra : D'.ra = D.ra
  sh : D'.sh = D.sh
theorem Link.refl (D : LD) : Link D D := ⟨fun _ _ => Int.le_refl _, fun _ _ => rfl, fun _ h => h, rfl, rfl⟩
theorem Link.trans {A B C : LD} (h : Link A B) (k : Link B C) : Link A C :=
  ⟨fun x hx => Int.le_trans (h.up x hx) (k.up x (by rw [h.ra]; exact hx)), fun x hx => (k.eq x (h.has x hx)).trans (h.eq x hx), fun x hx => k.has x (h.has x hx), k.ra.trans h.ra, k.sh.trans h.sh⟩
structure Tr where
  mine : Str
  pr : Int
  D0 : LD
  D1 : LD
structure Took (e : Tr) (most : Int) : Prop where
  b0 : BD e.D0 most
  b1 : BD e.D1 most
  ra : e.D1.ra = e.D0.ra
  sh : e.D1.sh = e.D0.sh
  has : hasW e.D0 e.mine = true
  low : ∀ x ∈ kys e.D0.ra, hasW e.D0 x = true → raF e.D0 x = raF e.D0 e.mine → lvF e.D0 e.mine ≤ lvF e.D0 x
  lv : ∀ x, lvF e.D1 x = lvF e.D0 x + (if x = e.mine then e.pr * gF e.D0 x else 0)
  p0 : 0 ≤ e.pr
  p1 : e.pr ≤ most
structure Chn (ts : List Tr) (D : LD) (most : Int) : Prop where
  t : ∀ e ∈ ts, Took e most ∧ e.D0.ra = D.ra ∧ e.D0.sh = D.sh
  l : ∀ (i : Nat) e f, ts[i]? = some e → ts[i + 1]? = some f → Link e.D1 f.D0
  e : ∀ (i : Nat) e, i + 1 = ts.length → ts[i]? = some e → Link e.D1 D
theorem Chn.link {ts : List Tr} {D D' : LD} {most : Int} (C : Chn ts D most) (h : Link D D') : Chn ts D' most :=
  ⟨fun e he => ⟨(C.t e he).1, (C.t e he).2.1.trans h.ra.symm, (C.t e he).2.2.trans h.sh.symm⟩, C.l, fun i e hi he => (C.e i e hi he).trans h⟩
theorem Chn.snoc {ts : List Tr} {D : LD} {most : Int} (C : Chn ts D most) {e : Tr} (h : Took e most) (e0 : e.D0 = D) : Chn (ts ++ [e]) e.D1 most := by
  subst e0
  refine ⟨fun f hf => ?_, fun i f g hf hg => ?_, fun i f hi hf => ?_⟩
  · rcases List.mem_append.mp hf with hf | hf
    · exact ⟨(C.t f hf).1, (C.t f hf).2.1.trans h.ra.symm, (C.t f hf).2.2.trans h.sh.symm⟩
    · rw [List.mem_singleton.mp hf]
      exact ⟨h, h.ra.symm, h.sh.symm⟩
  · have l1 := (List.getElem?_eq_some_iff.mp hg).1
    rw [List.length_append] at l1
    have l2 : i + 1 < ts.length + 1 := l1
    rw [List.getElem?_append_left (by omega)] at hf
    by_cases c : i + 1 < ts.length
    · rw [List.getElem?_append_left c] at hg
      exact C.l i f g hf hg
    · rw [List.getElem?_append_right (by omega), show i + 1 - ts.length = 0 by omega] at hg
      obtain rfl := Option.some.inj hg
      exact C.e i f (by omega) hf
  · rw [List.length_append] at hi
    have l2 : i + 1 = ts.length + 1 := hi
    rw [List.getElem?_append_right (by omega), show i - ts.length = 0 by omega] at hf
    obtain rfl := Option.some.inj hf
    exact Link.refl _
theorem apart_b {D : LD} {most : Int} (b : BD D most) {x y : Str} (hx : x ∈ kys D.ra) (hy : y ∈ kys D.ra) (wx : hasW D x = true) (wy : hasW D y = true) (r : raF D x = raF D y) : lvF D x - lvF D y ≤ most * gF D x ∧ lvF D y - lvF D x ≤ most * gF D y := by
  obtain ⟨a1, a2⟩ := b x hx
  obtain ⟨c1, c2⟩ := b y hy
  have a3 := a2 wx
  have c3 := c2 wy
  rw [r] at a1 a3
  constructor <;> omega
theorem g_mul {v : Int} (h0 : 0 < v) (h1 : v ≤ 10) : v * (2520 / v) = 2520 := by
  have : v = 1 ∨ v = 2 ∨ v = 3 ∨ v = 4 ∨ v = 5 ∨ v = 6 ∨ v = 7 ∨ v = 8 ∨ v = 9 ∨ v = 10 := by omega
  rcases this with rfl | rfl | rfl | rfl | rfl | rfl | rfl | rfl | rfl | rfl <;> decide
theorem le_of_2520 {a b : Int} (h : a * 2520 ≤ b * 2520) : a ≤ b := Int.le_of_mul_le_mul_right h (by decide)
theorem fair_b {p q v w gv gw most : Int} (hv : v * gv = 2520) (hw : w * gw = 2520) (v0 : 0 ≤ v) (w0 : 0 ≤ w) (h : p * gv - q * gw ≤ most * gv + most * gw) : p * w - q * v ≤ most * (v + w) := by
  refine le_of_2520 ?_
  have h1 := Int.mul_le_mul_of_nonneg_left (Int.mul_le_mul_of_nonneg_left h v0) w0
  have e1 : w * (v * (p * gv - q * gw)) = (p * w - q * v) * 2520 := by
    have a1 : w * (v * (p * gv - q * gw)) = p * w * (v * gv) - q * v * (w * gw) := by
      rw [Int.mul_sub, Int.mul_sub]
      have x1 : w * (v * (p * gv)) = p * w * (v * gv) := by ac_rfl
      have x2 : w * (v * (q * gw)) = q * v * (w * gw) := by ac_rfl
      rw [x1, x2]
    rw [a1, hv, hw, ← Int.sub_mul]
  have e2 : w * (v * (most * gv + most * gw)) = most * (v + w) * 2520 := by
    have x0 : w * (v * (most * gv + most * gw)) = w * (v * (most * gv)) + w * (v * (most * gw)) := by rw [Int.mul_add, Int.mul_add]
    have x1 : w * (v * (most * gv)) = most * w * (v * gv) := by ac_rfl
    have x2 : w * (v * (most * gw)) = most * v * (w * gw) := by ac_rfl
    rw [x0, x1, x2, hv, hw, ← Int.add_mul, ← Int.mul_add, Int.add_comm w v]
  rw [e1, e2] at h1
  exact h1
theorem fair_q {q v w gv gw most : Int} (hv : v * gv = 2520) (hw : w * gw = 2520) (v0 : 0 ≤ v) (w0 : 0 ≤ w) (h : q * gw ≤ most * gv + most * gw) : q * v ≤ most * (v + w) := by
  have := fair_b (p := 0) (q := -q) hv hw v0 w0 (most := most) (by rw [Int.zero_mul, Int.neg_mul]; omega)
  rw [Int.zero_mul, Int.neg_mul] at this
  omega
end
end My
namespace My
open PySem L2
open Blk (sg sg_inj sg_app)
section
variable {P : Program} {w : World} {K : PySem.W.Frag} {mg : Str → Option Value} {base : Heap}
def sp__law_cell_at (K : PySem.W.Frag) : Sp := fun vs H Q _ => ∃ (a : Addr) (k : Int) (ns : List Int), vs = [.ref a, .int k] ∧ SqL K H a (ns.map V.int) ∧ 0 ≤ k ∧ Q (.int (ns.getD k.toNat 0)) H
theorem sc__law_cell_at : FnScope ["_law_script", "_law_k"] ["_law_script", "_law_k"] (defScope s__law_cell_at) := ⟨rfl, rfl, rfl, by decide +kernel, rfl, by decide +kernel, by decide +kernel⟩
theorem ok__law_cell_at {fa cLine cUnknown cTwice cHallError tP_first_of : Addr} {fd : FuncData} (F : Fun K "_law_cell_at" "_law_cell_at" s__law_cell_at fa fd) (T : Txt K mg cLine cUnknown cTwice cHallError tP_first_of)  :
    FnOk P w K mg base CX0 1 fa fd ["_law_script", "_law_k"] (sp__law_cell_at K) := by
  refine F.ok sc__law_cell_at (fun vs H Q E h => ?_) (fun cdv A outer s H vs Q E hr h => ?_)
  · obtain ⟨a, k, ns, rfl, _⟩ := h
    rfl
  obtain ⟨a, k, ns, rfl, hS, k0, q⟩ := h
  refine ⟨_, (pss_cons (ps_if (pt_cmpR op_lt (pv 1) (pe_callB call_len_seq rfl T.len PySem.boot_len (pa_cons (pv 0) pa_nil)) (nomark _)) (pss_one (ps_ret (pe_ix ix_listA (pv 0) (pv 1) (fun _ _ => rfl)))) pss_nil)
  (pss_one (ps_ret pe_int))), ?_⟩
  refine ⟨_, rfl, _, rfl, a, _, rfl, .inl hS, _, _, rfl, rfl, _, rfl, ?_⟩
  refine ite2 (fun c => ?_) (fun c => ?_)
  · refine ⟨_, rfl, _, rfl, a, _, _, rfl, rfl, hS, k0, of_decide_eq_true c, fun v hv => ?_⟩
    rw [List.getElem?_map] at hv
    obtain ⟨z, ez, rfl⟩ := Option.map_eq_some_iff.mp hv
    rw [List.getD_eq_getElem?_getD, ez] at q
    exact q
  · have c' : ¬ k < ((ns.map V.int).length : Int) := fun z => c (decide_eq_true z)
    rw [List.length_map] at c'
    rw [List.getD_eq_getElem?_getD, List.getElem?_eq_none (by omega)] at q
    exact q
def mixV (c k m : Int) : Int := ((c % 1000003 + 1) * (k * k + 48271)) % (([65537, 64007, 62003] : List Int).getD (k % 3).toNat 1) % m
theorem mix_lo {c k m : Int} (h : 0 < m) : 0 ≤ mixV c k m := Int.emod_nonneg _ (by omega)
theorem mix_hi {c k m : Int} (h : 0 < m) : mixV c k m < m := Int.emod_lt_of_pos _ h
def sp__law_mix (K : PySem.W.Frag) : Sp := fun vs H Q _ => ∃ c k m : Int, vs = [.int c, .int k, .int m] ∧ 0 ≤ k ∧ k ≤ 10000 ∧ 0 < m ∧ ∀ H', Same H H' → Q (.int (mixV c k m)) H'
theorem sc__law_mix : FnScope ["_law_cell", "_law_k", "_law_many"] ["_law_cell", "_law_k", "_law_many"] (defScope s__law_mix) := ⟨rfl, rfl, rfl, by decide +kernel, rfl, by decide +kernel, by decide +kernel⟩
theorem ok__law_mix {fa cLine cUnknown cTwice cHallError tP_first_of : Addr} {fd : FuncData} (F : Fun K "_law_mix" "_law_mix" s__law_mix fa fd) (T : Txt K mg cLine cUnknown cTwice cHallError tP_first_of)  :
    FnOk P w K mg base CX0 1 fa fd ["_law_cell", "_law_k", "_law_many"] (sp__law_mix K) := by
  refine F.ok sc__law_mix (fun vs H Q E h => ?_) (fun cdv A outer s H vs Q E hr h => ?_)
  · obtain ⟨c, k, m, rfl, _⟩ := h
    rfl
  obtain ⟨c, k, m, rfl, k0, k1, m0, q⟩ := h
  have z3 : 3 ≤ sizeLine := small (by decide)
  refine ⟨_, (pss_one (ps_ret (pe_op op_mod (pe_op op_mod (pe_op op_mul (pe_op op_add (pe_op op_mod (pv 0) pe_int) pe_int) (pe_op op_add (pe_op op_mul (pv 1) (pv 1)) pe_int)) (pe_ix ix_listA (pe_lst (pa_cons pe_int (pa_cons pe_int (pa_cons pe_int pa_nil)))) (pe_op op_mod (pv 1) pe_int) (fun _ _ => rfl))) (pv 2)))), ?_⟩
  have b0 := Int.emod_nonneg c (show (1000003 : Int) ≠ 0 by decide)
  have b1 := Int.emod_lt_of_pos c (show (0 : Int) < 1000003 by decide)
  have d0 := Int.emod_nonneg k (show (3 : Int) ≠ 0 by decide)
  have d1 := Int.emod_lt_of_pos k (show (0 : Int) < 3 by decide)
  refine ⟨_, rfl, _, _, rfl, rfl, (by show (0 : Int) < 1000003; decide), _, _, rfl, rfl, _, rfl, _, rfl, _, _, rfl, rfl, .inr ⟨by omega, by omega⟩, _, _, rfl, rfl, _, _, rfl, rfl, .inl ⟨by omega, by omega⟩, z3, fun p np => ?_⟩
  have s1 := same_new np (.lst [V.int 65537, V.int 64007, V.int 62003])
  have h1 : upd H p (.lst [V.int 65537, V.int 64007, V.int 62003]) p = some (.lst (([65537, 64007, 62003] : List Int).map V.int)) := upd_same
  generalize upd H p (.lst [V.int 65537, V.int 64007, V.int 62003]) = H1 at s1 h1 ⊢
  refine ⟨_, rfl, _, _, rfl, rfl, (by show (0 : Int) < 3; decide), p, _, _, rfl, rfl, SqL.of h1, d0, (by show k % 3 < 3; exact d1), fun v hv => ?_⟩
  rw [List.getElem?_map] at hv
  obtain ⟨d, ed, rfl⟩ := Option.map_eq_some_iff.mp hv
  have hd : 0 < d := by
    have hm := List.mem_of_getElem? ed
    simp only [List.mem_cons, List.not_mem_nil, or_false] at hm
    rcases hm with rfl | rfl | rfl <;> decide
  have eg : ([65537, 64007, 62003] : List Int).getD (k % 3).toNat 1 = d := by rw [List.getD_eq_getElem?_getD, ed]; rfl
  refine ⟨_, _, rfl, rfl, hd, _, rfl, _, _, rfl, rfl, m0, ?_⟩
  have := q H1 s1
  unfold mixV at this
  rw [eg] at this
  exact this
end
end My
namespace My
open PySem L2
open Blk (sg sg_inj sg_app)
section
variable {P : Program} {w : World} {K : PySem.W.Frag} {mg : Str → Option Value} {base : Heap}
structure MC where
  m : Addr
  rk : Addr
  sh : Addr
  jb : Addr
  wt : Addr
  tk : Addr
def MC.cs (M : MC) : List Addr := [M.m, M.rk, M.sh, M.jb, M.wt, M.tk]
def mD (M : MC) (most : Int) : List (Key × V) := [(Sum.inr "ranks", .ref M.rk), (Sum.inr "shares", .ref M.sh), (Sum.inr "jobs", .ref M.jb), (Sum.inr "waiting", .ref M.wt), (Sum.inr "takes", .ref M.tk), (Sum.inr "most", .int most)]
structure Tk where
  t : Addr
  ah : Addr
  bh : Addr
  mine : Str
  pr : Int
  fa : List Bool
  fb : List Bool
def tkV (u : Tk) : List V := [.str u.mine, .int u.pr, .ref u.ah, .ref u.bh]
structure LC (H : Hp) (M : MC) (most : Int) (D : LD) (jbs : List (Str × Addr)) (tks : List Tk) : Prop where
  o : H M.m = some (.dK (mD M most))
  rk : H M.rk = some (.dK (dG Sum.inr V.int D.ra))
  sh : H M.sh = some (.dK (dG Sum.inr V.int D.sh))
  jb : H M.jb = some (.dK (dG Sum.inr V.ref jbs))
  wt : H M.wt = some (.lst ((kys D.qu).map V.str))
  tk : H M.tk = some (.lst (tks.map fun u => V.ref u.t))
  nd : M.cs.Nodup
  kJ : kys jbs = kys D.ow
  tJ : ∀ p ∈ jbs, ∃ a c, lkG D.ow p.1 = some a ∧ lkG D.co p.1 = some c ∧ H p.2 = some (.tup [.str a, .int c])
  tt : ∀ u ∈ tks, H u.t = some (.tup (tkV u)) ∧ H u.ah = some (.lst (u.fa.map V.bl)) ∧ H u.bh = some (.lst (u.fb.map V.bl))
  na : ∀ u ∈ tks, ¬ u.ah ∈ M.cs ∧ ¬ u.bh ∈ M.cs
def FL (tks : List Tk) (b : Addr) : Prop := ∃ u ∈ tks, b = u.ah ∨ b = u.bh
theorem LC.fr {H H' : Hp} {M : MC} {most : Int} {D : LD} {jbs : List (Str × Addr)} {tks : List Tk} (A : LC H M most D jbs tks) (kf : ∀ {b u}, (b ∈ M.cs ∨ FL tks b) → (∀ ps, u ≠ .tbl ps) → H b = some u → H' b = some u) (kt : ∀ {b xs}, H b = some (.tup xs) → H' b = some (.tup xs)) : LC H' M most D jbs tks :=
  ⟨kf (.inl (List.mem_of_getElem? (i := 0) rfl)) (by intro p z; cases z) A.o, kf (.inl (List.mem_of_getElem? (i := 1) rfl)) (by intro p z; cases z) A.rk, kf (.inl (List.mem_of_getElem? (i := 2) rfl)) (by intro p z; cases z) A.sh, kf (.inl (List.mem_of_getElem? (i := 3) rfl)) (by intro p z; cases z) A.jb, kf (.inl (List.mem_of_getElem? (i := 4) rfl)) (by intro p z; cases z) A.wt, kf (.inl (List.mem_of_getElem? (i := 5) rfl)) (by intro p z; cases z) A.tk, A.nd, A.kJ, fun p h => let ⟨r, t, e1, e2, e3⟩ := A.tJ p h; ⟨r, t, e1, e2, kt e3⟩, fun u hu => let ⟨a, b, c⟩ := A.tt u hu; ⟨kt a, kf (.inr ⟨u, hu, .inl rfl⟩) (by intro p z; cases z) b, kf (.inr ⟨u, hu, .inr rfl⟩) (by intro p z; cases z) c⟩, A.na⟩
theorem LC.same {H H' : Hp} {M : MC} {most : Int} {D : LD} {jbs : List (Str × Addr)} {tks : List Tk} (A : LC H M most D jbs tks) (s : Same H H') : LC H' M most D jbs tks := A.fr (fun _ _ e => s _ _ e) (fun e => s _ _ e)
theorem LC.ch {H : Hp} {M : MC} {most : Int} {D D' : LD} {jbs : List (Str × Addr)} {tks : List Tk} (A : LC H M most D jbs tks) (h1 : D'.ra = D.ra) (h5 : D'.sh = D.sh) (h2 : D'.qu = D.qu) (h3 : D'.ow = D.ow) (h4 : D'.co = D.co) : LC H M most D' jbs tks :=
  ⟨A.o, by rw [h1]; exact A.rk, by rw [h5]; exact A.sh, A.jb, by rw [h2]; exact A.wt, A.tk, A.nd, by rw [h3]; exact A.kJ, by rw [h3, h4]; exact A.tJ, A.tt, A.na⟩
theorem LC.get {H : Hp} {M : MC} {most : Int} {D : LD} {jbs : List (Str × Addr)} {tks : List Tk} (A : LC H M most D jbs tks) : DGet H M.m (.str "ranks") (some (.ref M.rk)) ∧ DGet H M.m (.str "shares") (some (.ref M.sh)) ∧ DGet H M.m (.str "jobs") (some (.ref M.jb)) ∧ DGet H M.m (.str "waiting") (some (.ref M.wt)) ∧ DGet H M.m (.str "takes") (some (.ref M.tk)) ∧ DGet H M.m (.str "most") (some (.int most)) := by
  refine ⟨?_, ?_, ?_, ?_, ?_, ?_⟩
  · have := DGet.k (k := Sum.inr "ranks") A.o; exact this
  · have := DGet.k (k := Sum.inr "shares") A.o; exact this
  · have := DGet.k (k := Sum.inr "jobs") A.o; exact this
  · have := DGet.k (k := Sum.inr "waiting") A.o; exact this
  · have := DGet.k (k := Sum.inr "takes") A.o; exact this
  · have := DGet.k (k := Sum.inr "most") A.o; exact this
theorem LC.job {H : Hp} {M : MC} {most : Int} {D : LD} {jbs : List (Str × Addr)} {tks : List Tk} (A : LC H M most D jbs tks) {n a : Str} {c : Int} (er : lkG D.ow n = some a) (es : lkG D.co n = some c) : ∃ t, DGet H M.jb (.str n) (some (.ref t)) ∧ H t = some (.tup [.str a, .int c]) := by
  have h1 : n ∈ kys jbs := by rw [A.kJ]; exact lkG_key er
  obtain ⟨t, et⟩ := lkG_some h1
  obtain ⟨r', s', e1, e2, e3⟩ := A.tJ _ (lkG_mem et)
  rw [show ((n, t) : Str × Addr).1 = n from rfl, er] at e1
  rw [show ((n, t) : Str × Addr).1 = n from rfl, es] at e2
  have g := dget_dG inr_inj A.jb n
  rw [et] at g
  refine ⟨t, g, ?_⟩
  rw [e3, ← Option.some.inj e1, ← Option.some.inj e2]
theorem LC.put {H : Hp} {M : MC} {most : Int} {D : LD} {jbs : List (Str × Addr)} {tks : List Tk} (A : LC H M most D jbs tks) {i : Nat} {a : Addr} (hi : M.cs[i]? = some a) (o : HO) (ne : ∀ xs, o ≠ .tup xs) (oo : ∃ u, H a = some u ∧ ∀ xs, u ≠ .tup xs) : (∀ (j : Nat) b u, j ≠ i → M.cs[j]? = some b → H b = some u → upd H a o b = some u) ∧ (∀ {b xs}, H b = some (.tup xs) → upd H a o b = some (.tup xs)) ∧ (∀ b u, FL tks b → H b = some u → upd H a o b = some u) := by
  obtain ⟨u0, e0, n0⟩ := oo
  refine ⟨fun j b u nj hj e => by rw [upd_ne (ne8 A.nd hj hi nj)]; exact e, fun e => by rw [upd_ne (ne_of e e0 (fun z => n0 _ z.symm))]; exact e, fun b u fb e => ?_⟩
  obtain ⟨w, hw, hb⟩ := fb
  have : b ≠ a := fun z => by
    have m := List.mem_of_getElem? hi
    rw [← z] at m
    rcases hb with rfl | rfl
    · exact (A.na w hw).1 m
    · exact (A.na w hw).2 m
  rw [upd_ne this]
  exact e
theorem LC.set_wt {H : Hp} {M : MC} {most : Int} {D : LD} {jbs : List (Str × Addr)} {tks : List Tk} (A : LC H M most D jbs tks) (v : List (Str × Unit)) : LC (upd H M.wt (.lst ((kys v).map V.str))) M most { D with qu := v } jbs tks := by
  obtain ⟨k, kt, kf⟩ := A.put (i := 4) rfl (.lst ((kys v).map V.str)) (by intro xs z; cases z) ⟨_, A.wt, by intro xs z; cases z⟩
  exact ⟨k 0 _ _ (by decide) rfl A.o, k 1 _ _ (by decide) rfl A.rk, k 2 _ _ (by decide) rfl A.sh, k 3 _ _ (by decide) rfl A.jb, upd_same, k 5 _ _ (by decide) rfl A.tk, A.nd, A.kJ, fun p h => let ⟨r, t, e1, e2, e3⟩ := A.tJ p h; ⟨r, t, e1, e2, kt e3⟩, fun u hu => let ⟨a, b, c⟩ := A.tt u hu; ⟨kt a, kf _ _ ⟨u, hu, .inl rfl⟩ b, kf _ _ ⟨u, hu, .inr rfl⟩ c⟩, A.na⟩
theorem LC.set_rk {H : Hp} {M : MC} {most : Int} {D : LD} {jbs : List (Str × Addr)} {tks : List Tk} (A : LC H M most D jbs tks) (v : List (Str × Int)) : LC (upd H M.rk (.dK (dG Sum.inr V.int v))) M most { D with ra := v } jbs tks := by
  obtain ⟨k, kt, kf⟩ := A.put (i := 1) rfl (.dK (dG Sum.inr V.int v)) (by intro xs z; cases z) ⟨_, A.rk, by intro xs z; cases z⟩
  exact ⟨k 0 _ _ (by decide) rfl A.o, upd_same, k 2 _ _ (by decide) rfl A.sh, k 3 _ _ (by decide) rfl A.jb, k 4 _ _ (by decide) rfl A.wt, k 5 _ _ (by decide) rfl A.tk, A.nd, A.kJ, fun p h => let ⟨r, t, e1, e2, e3⟩ := A.tJ p h; ⟨r, t, e1, e2, kt e3⟩, fun u hu => let ⟨a, b, c⟩ := A.tt u hu; ⟨kt a, kf _ _ ⟨u, hu, .inl rfl⟩ b, kf _ _ ⟨u, hu, .inr rfl⟩ c⟩, A.na⟩
theorem LC.set_sh {H : Hp} {M : MC} {most : Int} {D : LD} {jbs : List (Str × Addr)} {tks : List Tk} (A : LC H M most D jbs tks) (v : List (Str × Int)) : LC (upd H M.sh (.dK (dG Sum.inr V.int v))) M most { D with sh := v } jbs tks := by
  obtain ⟨k, kt, kf⟩ := A.put (i := 2) rfl (.dK (dG Sum.inr V.int v)) (by intro xs z; cases z) ⟨_, A.sh, by intro xs z; cases z⟩
  exact ⟨k 0 _ _ (by decide) rfl A.o, k 1 _ _ (by decide) rfl A.rk, upd_same, k 3 _ _ (by decide) rfl A.jb, k 4 _ _ (by decide) rfl A.wt, k 5 _ _ (by decide) rfl A.tk, A.nd, A.kJ, fun p h => let ⟨r, t, e1, e2, e3⟩ := A.tJ p h; ⟨r, t, e1, e2, kt e3⟩, fun u hu => let ⟨a, b, c⟩ := A.tt u hu; ⟨kt a, kf _ _ ⟨u, hu, .inl rfl⟩ b, kf _ _ ⟨u, hu, .inr rfl⟩ c⟩, A.na⟩
theorem LC.new_jb {H : Hp} {M : MC} {most : Int} {D : LD} {jbs : List (Str × Addr)} {tks : List Tk} (A : LC H M most D jbs tks) {t : Addr} (nt : H t = none) {n a : Str} {c : Int} (nn : ¬ n ∈ kys D.ow) : LC (upd (upd H t (.tup [.str a, .int c])) M.jb (.dK (dG Sum.inr V.ref (upG jbs n t)))) M most { D with ow := upG D.ow n a, co := upG D.co n c } (upG jbs n t) tks := by
  have A1 := A.same (same_new nt (.tup [.str a, .int c]))
  have ht : upd H t (.tup [.str a, .int c]) t = some (.tup [.str a, .int c]) := upd_same
  generalize upd H t (.tup [.str a, .int c]) = H1 at A1 ht ⊢
  obtain ⟨k, kt, kf⟩ := A1.put (i := 3) rfl (.dK (dG Sum.inr V.ref (upG jbs n t))) (by intro xs z; cases z) ⟨_, A1.jb, by intro xs z; cases z⟩
  have nj : ¬ n ∈ kys jbs := by rw [A.kJ]; exact nn
  refine ⟨k 0 _ _ (by decide) rfl A1.o, k 1 _ _ (by decide) rfl A1.rk, k 2 _ _ (by decide) rfl A1.sh, upd_same, k 4 _ _ (by decide) rfl A1.wt, k 5 _ _ (by decide) rfl A1.tk, A.nd, ?_, fun p hp => ?_, fun u hu => let ⟨a, b, c⟩ := A1.tt u hu; ⟨kt a, kf _ _ ⟨u, hu, .inl rfl⟩ b, kf _ _ ⟨u, hu, .inr rfl⟩ c⟩, A.na⟩
  · show kys (upG jbs n t) = kys (upG D.ow n a)
    have e := A.kJ
    unfold kys at e ⊢
    rw [upG_new nj, upG_new nn, List.map_append, List.map_append, e]
    rfl
  · rw [upG_new nj] at hp
    rcases List.mem_append.mp hp with hp | hp
    · obtain ⟨a', c', e1, e2, e3⟩ := A1.tJ p hp
      have ne : p.1 ≠ n := fun z => nj (by rw [← z]; exact List.mem_map_of_mem hp)
      exact ⟨a', c', by show lkG (upG D.ow n a) p.1 = _; rw [lkG_up, if_neg ne]; exact e1, by show lkG (upG D.co n c) p.1 = _; rw [lkG_up, if_neg ne]; exact e2, kt e3⟩
    · rw [List.mem_singleton.mp hp]
      exact ⟨a, c, by show lkG (upG D.ow n a) n = _; rw [lkG_up, if_pos rfl], by show lkG (upG D.co n c) n = _; rw [lkG_up, if_pos rfl], kt ht⟩
theorem LC.new_tk {H : Hp} {M : MC} {most : Int} {D : LD} {jbs : List (Str × Addr)} {tks : List Tk} (A : LC H M most D jbs tks) {u : Tk} (nt : H u.t = none) (ha : H u.ah = some (.lst (u.fa.map V.bl))) (hb : H u.bh = some (.lst (u.fb.map V.bl))) (na : ¬ u.ah ∈ M.cs) (nb : ¬ u.bh ∈ M.cs) : LC (upd (upd H u.t (.tup (tkV u))) M.tk (.lst (tks.map (fun u => V.ref u.t) ++ [.ref u.t]))) M most D jbs (tks ++ [u]) := by
  have A1 := A.same (same_new nt (.tup (tkV u)))
  have ht : upd H u.t (.tup (tkV u)) u.t = some (.tup (tkV u)) := upd_same
  have ha1 := same_new nt (.tup (tkV u)) _ _ ha
  have hb1 := same_new nt (.tup (tkV u)) _ _ hb
  generalize upd H u.t (.tup (tkV u)) = H1 at A1 ht ha1 hb1 ⊢
  obtain ⟨k, kt, kf⟩ := A1.put (i := 5) rfl (.lst (tks.map (fun u => V.ref u.t) ++ [.ref u.t])) (by intro xs z; cases z) ⟨_, A1.tk, by intro xs z; cases z⟩
  have mt : M.tk ∈ M.cs := List.mem_of_getElem? (i := 5) rfl
  refine ⟨k 0 _ _ (by decide) rfl A1.o, k 1 _ _ (by decide) rfl A1.rk, k 2 _ _ (by decide) rfl A1.sh, k 3 _ _ (by decide) rfl A1.jb, k 4 _ _ (by decide) rfl A1.wt, by rw [upd_same, List.map_append]; rfl, A.nd, A.kJ, fun p h => let ⟨r, t, e1, e2, e3⟩ := A1.tJ p h; ⟨r, t, e1, e2, kt e3⟩, fun w hw => ?_, fun w hw => ?_⟩
  · rcases List.mem_append.mp hw with hw | hw
    · obtain ⟨a, b, c⟩ := A1.tt w hw
      exact ⟨kt a, kf _ _ ⟨w, hw, .inl rfl⟩ b, kf _ _ ⟨w, hw, .inr rfl⟩ c⟩
    · rw [List.mem_singleton.mp hw]
      exact ⟨kt ht, by rw [upd_ne (fun z => na (by rw [z]; exact mt))]; exact ha1, by rw [upd_ne (fun z => nb (by rw [z]; exact mt))]; exact hb1⟩
  · rcases List.mem_append.mp hw with hw | hw
    · exact A.na w hw
    · rw [List.mem_singleton.mp hw]
      exact ⟨na, nb⟩
theorem mc_kind {H : Hp} {M : MC} {most : Int} {D : LD} {jbs : List (Str × Addr)} {tks : List Tk} (A : LC H M most D jbs tks) {b : Addr} (h : b ∈ M.cs ∨ FL tks b) : (∃ kvs, H b = some (.dK kvs)) ∨ ∃ xs, H b = some (.lst xs) := by
  rcases h with h | ⟨u, hu, h⟩
  · unfold MC.cs at h
    simp only [List.mem_cons, List.not_mem_nil, or_false] at h
    rcases h with rfl | rfl | rfl | rfl | rfl | rfl
    · exact .inl ⟨_, A.o⟩
    · exact .inl ⟨_, A.rk⟩
    · exact .inl ⟨_, A.sh⟩
    · exact .inl ⟨_, A.jb⟩
    · exact .inr ⟨_, A.wt⟩
    · exact .inr ⟨_, A.tk⟩
  · rcases h with rfl | rfl
    · exact .inr ⟨_, (A.tt u hu).2.1⟩
    · exact .inr ⟨_, (A.tt u hu).2.2⟩
theorem mc_not {H : Hp} {M : MC} {most : Int} {D : LD} {jbs : List (Str × Addr)} {tks : List Tk} (A : LC H M most D jbs tks) {b : Addr} {o : HO} (e : H b = some o) (h1 : ∀ kvs, o ≠ .dK kvs) (h2 : ∀ xs, o ≠ .lst xs) : ¬ b ∈ M.cs := fun h => by
  rcases mc_kind A (.inl h) with ⟨k, ek⟩ | ⟨k, ek⟩
  · rw [e] at ek
    exact h1 k (Option.some.inj ek)
  · rw [e] at ek
    exact h2 k (Option.some.inj ek)
theorem mc_none {H : Hp} {M : MC} {most : Int} {D : LD} {jbs : List (Str × Addr)} {tks : List Tk} (A : LC H M most D jbs tks) {b : Addr} (e : H b = none) : ¬ (b ∈ M.cs ∨ FL tks b) := fun h => by
  rcases mc_kind A h with ⟨k, ek⟩ | ⟨k, ek⟩ <;> (rw [e] at ek; cases ek)
def OffM (M : MC) (H H' : Hp) : Prop := ∀ b o, ¬ b ∈ M.cs → H b = some o → H' b = some o
theorem OffM.of {M : MC} {H H' : Hp} (s : Same H H') : OffM M H H' := fun b o _ e => s b o e
theorem OffM.set {M : MC} {H H' : Hp} (h : OffM M H H') {a : Addr} (f : a ∈ M.cs) (o : HO) : OffM M H (upd H' a o) := fun b u nb e => by
  rw [upd_ne (fun z => nb (by rw [z]; exact f))]
  exact h b u nb e
theorem OffM.new {M : MC} {H H' : Hp} (h : OffM M H H') {a : Addr} (f : H' a = none) (o : HO) : OffM M H (upd H' a o) := fun b u nb e => by
  rw [upd_ne (ne_of_none (h b u nb e) f)]
  exact h b u nb e
theorem LnAt.fr {cL : Addr} {H H' : Hp} {L : LA} {D : LD} (N : LnAt cL H L D) (kx : ∀ {b c d f}, H b = some (.ins c d f) → H' b = some (.ins c d f)) (kf : ∀ {b u}, LF L D b → H b = some u → H' b = some u) (kt : ∀ {b xs}, H b = some (.tup xs) → H' b = some (.tup xs)) : LnAt cL H' L D :=
  ⟨kx N.o, kf (lf_ra L D) N.ra, kf (lf_sh L D) N.sh, kf (lf_lv L D) N.lv, kf (lf_ma L D) N.ma, kf (lf_ow L D) N.ow, kf (lf_co L D) N.co, kf (lf_no L D) N.no, kf (lf_qu L D) N.qu, fun n h => kf (.inr ⟨n, h, rfl⟩) (N.nl n h), fun n h t ht => kt (N.nt n h t ht), N.nd, N.nn⟩
theorem LnAt.offM {cL : Addr} {H H' : Hp} {L : LA} {D D0 : LD} {M : MC} {most : Int} {jbs : List (Str × Addr)} {tks : List Tk} (N : LnAt cL H L D) (A : LC H M most D0 jbs tks) (ap : ∀ b ∈ M.cs, ¬ LF L D b) (o : OffM M H H') : LnAt cL H' L D :=
  N.fr (fun e => o _ _ (mc_not A e (by intro k z; cases z) (by intro k z; cases z)) e) (fun hb e => o _ _ (fun z => ap _ z hb) e) (fun e => o _ _ (mc_not A e (by intro k z; cases z) (by intro k z; cases z)) e)
theorem LC.keep {cL : Addr} {H H' : Hp} {L : LA} {D D0 : LD} {M : MC} {most : Int} {jbs : List (Str × Addr)} {tks : List Tk} (A : LC H M most D jbs tks) (N : LnAt cL H L D0) (ap : ∀ b, (b ∈ M.cs ∨ FL tks b) → ¬ LF L D0 b) (k : ∀ b o, ¬ LF L D0 b → (∀ ps, o ≠ .tbl ps) → H b = some o → H' b = some o) : LC H' M most D jbs tks :=
  A.fr (fun hb nt e => k _ _ (ap _ hb) nt e) (fun e => k _ _ (lf_not N e (by intro k z; cases z) (by intro k z; cases z)) (by intro p z; cases z) e)
theorem tab_offM {tP : Addr} {H H' : Hp} {D : LD} {M : MC} {most : Int} {jbs : List (Str × Addr)} {tks : List Tk} (A : LC H M most D jbs tks) (t : LTab H tP) (s : OffM M H H') : LTab H' tP := by
  rcases t with t | ⟨c, t1, t2⟩
  · exact .inl (s _ _ (mc_not A t (by intro k z; cases z) (by intro k z; cases z)) t)
  · exact .inr ⟨c, s _ _ (mc_not A t1 (by intro k z; cases z) (by intro k z; cases z)) t1, s _ _ (mc_not A t2 (by intro k z; cases z) (by intro k z; cases z)) t2⟩
theorem lf_none {cL : Addr} {H : Hp} {L : LA} {D : LD} (N : LnAt cL H L D) {b : Addr} (e : H b = none) : ¬ LF L D b := fun h => by
  rcases lf_kind N h with ⟨k, ek⟩ | ⟨k, ek⟩ <;> (rw [e] at ek; cases ek)
theorem lf_ad {L : LA} {D D' : LD} (h : D'.no.map (·.2.1) = D.no.map (·.2.1)) {b : Addr} (z : LF L D' b) : LF L D b := by
  rcases z with z | ⟨n, hn, rfl⟩
  · exact .inl z
  · have : n.2.1 ∈ D'.no.map (·.2.1) := List.mem_map_of_mem (f := fun p : Str × Addr × List Note => p.2.1) hn
    rw [h] at this
    obtain ⟨n', hn', e⟩ := List.mem_map.mp this
    exact .inr ⟨n', hn', e.symm⟩
end
end My
namespace My
open PySem L2
open Blk (sg sg_inj sg_app)
section
variable {P : Program} {w : World} {K : PySem.W.Frag} {mg : Str → Option Value} {base : Heap}
def Bef (r r' : LRow) : Prop := r'.2.1 < r.2.1 ∨ (r.2.1 = r'.2.1 ∧ (r.2.2.1 < r'.2.2.1 ∨ (r.2.2.1 = r'.2.2.1 ∧ r.2.2.2.cps.toList < r'.2.2.2.cps.toList)))
theorem lex_bef {r r' : LRow} : lexV (lrK r) (lrK r') = true ↔ Bef r r' := by
  have h : lexV (lrK r) (lrK r') = if (-r.2.1 == -r'.2.1) = true then (if (r.2.2.1 == r'.2.2.1) = true then (if (r.2.2.2 == r'.2.2.2) = true then false else decide (r.2.2.2.cps.toList < r'.2.2.2.cps.toList)) else decide (r.2.2.1 < r'.2.2.1)) else decide (-r.2.1 < -r'.2.1) := rfl
  rw [h]
  unfold Bef
  by_cases c1 : r.2.1 = r'.2.1
  · rw [if_pos (beq_iff_eq.mpr (by omega))]
    by_cases c2 : r.2.2.1 = r'.2.2.1
    · rw [if_pos (beq_iff_eq.mpr c2)]
      by_cases c3 : r.2.2.2 = r'.2.2.2
      · rw [if_pos (beq_iff_eq.mpr c3)]
        constructor
        · intro z; cases z
        · rintro (z | ⟨_, z | ⟨_, z⟩⟩)
          · omega
          · omega
          · rw [c3] at z; exact absurd z (List.lt_irrefl _)
      · rw [if_neg (fun z => c3 (beq_iff_eq.mp z)), decide_eq_true_iff]
        constructor
        · intro z; exact .inr ⟨c1, .inr ⟨c2, z⟩⟩
        · rintro (z | ⟨_, z | ⟨_, z⟩⟩)
          · omega
          · omega
          · exact z
    · rw [if_neg (fun z => c2 (beq_iff_eq.mp z)), decide_eq_true_iff]
      constructor
      · intro z; exact .inr ⟨c1, .inl z⟩
      · rintro (z | ⟨_, z | ⟨z, _⟩⟩)
        · omega
        · exact z
        · exact absurd z c2
  · rw [if_neg (fun z => c1 (by have := beq_iff_eq.mp z; omega)), decide_eq_true_iff]
    constructor
    · intro z; exact .inl (by omega)
    · rintro (z | ⟨z, _⟩)
      · omega
      · exact absurd z c1
theorem Bef.trans {a b c : LRow} (h1 : Bef a b) (h2 : Bef b c) : Bef a c := by
  unfold Bef at *
  rcases h1 with h1 | ⟨e1, h1⟩
  · rcases h2 with h2 | ⟨e2, _⟩
    · exact .inl (by omega)
    · exact .inl (by omega)
  · rcases h2 with h2 | ⟨e2, h2⟩
    · exact .inl (by omega)
    · refine .inr ⟨by omega, ?_⟩
      rcases h1 with h1 | ⟨e3, h1⟩
      · rcases h2 with h2 | ⟨e4, _⟩
        · exact .inl (by omega)
        · exact .inl (by omega)
      · rcases h2 with h2 | ⟨e4, h2⟩
        · exact .inl (by omega)
        · exact .inr ⟨by omega, List.lt_trans h1 h2⟩
theorem Bef.tri {a b : LRow} (ne : a.2.2.2 ≠ b.2.2.2) (h : ¬ Bef a b) : Bef b a := by
  unfold Bef at *
  rcases Int.lt_trichotomy a.2.1 b.2.1 with z | z | z
  · exact .inl z
  · refine .inr ⟨z.symm, ?_⟩
    rcases Int.lt_trichotomy a.2.2.1 b.2.2.1 with y | y | y
    · exact absurd (.inr ⟨z, .inl y⟩) h
    · refine .inr ⟨y.symm, ?_⟩
      by_cases c : b.2.2.2.cps.toList < a.2.2.2.cps.toList
      · exact c
      · have c' : ¬ a.2.2.2.cps.toList < b.2.2.2.cps.toList := fun w => h (.inr ⟨z, .inr ⟨y, w⟩⟩)
        exact absurd (Blk.sg_inj (List.le_antisymm (List.not_lt.mp c) (List.not_lt.mp c'))) ne
    · exact .inl y
  · exact absurd (.inl z) h
theorem arg_best {rs : List LRow} (nd : ∀ i j, i < rs.length → j < rs.length → i ≠ j → (rowD rs i).2.2.2 ≠ (rowD rs j).2.2.2) : ∀ k, k < rs.length → argBest (fun i j => lexV (lrK (rowD rs i)) (lrK (rowD rs j))) k ≤ k ∧ ∀ j, j ≤ k → j ≠ argBest (fun i j => lexV (lrK (rowD rs i)) (lrK (rowD rs j))) k → Bef (rowD rs (argBest (fun i j => lexV (lrK (rowD rs i)) (lrK (rowD rs j))) k)) (rowD rs j)
  | 0, _ => ⟨Nat.le_refl _, fun j hj nj => absurd (show j = 0 by omega) nj⟩
  | k + 1, hk => by
    obtain ⟨h1, h2⟩ := arg_best nd k (by omega)
    generalize hb : argBest (fun i j => lexV (lrK (rowD rs i)) (lrK (rowD rs j))) k = b at h1 h2
    have step : argBest (fun i j => lexV (lrK (rowD rs i)) (lrK (rowD rs j))) (k + 1) = if lexV (lrK (rowD rs (k + 1))) (lrK (rowD rs b)) then k + 1 else b := by rw [← hb]; rfl
    rw [step]
    by_cases c : lexV (lrK (rowD rs (k + 1))) (lrK (rowD rs b)) = true
    · rw [if_pos c]
      have c' := lex_bef.mp c
      refine ⟨Nat.le_refl _, fun j hj nj => ?_⟩
      by_cases e : j = b
      · rw [e]; exact c'
      · exact c'.trans (h2 j (by omega) e)
    · rw [if_neg c]
      have c' : ¬ Bef (rowD rs (k + 1)) (rowD rs b) := fun z => c (lex_bef.mpr z)
      refine ⟨by omega, fun j hj nj => ?_⟩
      by_cases e : j = k + 1
      · rw [e]; exact Bef.tri (nd (k + 1) b hk (by omega) (by omega)) c'
      · exact h2 j (by omega) nj
def rwK (D : LD) (k : Str) : LRow := rowL D D.lv (k, "")
theorem hasW_mem {D : LD} {a : Str} : decide (a ∈ (kys D.qu).map (ownD D)) = hasW D a := by
  unfold hasW
  rw [Bool.eq_iff_iff, decide_eq_true_iff, List.any_eq_true]
  constructor
  · intro h
    obtain ⟨n, hn, e⟩ := List.mem_map.mp h
    exact ⟨n, hn, decide_eq_true e⟩
  · rintro ⟨n, hn, e⟩
    exact List.mem_map.mpr ⟨n, hn, of_decide_eq_true e⟩
end
end My
namespace My
open PySem L2
open Blk (sg sg_inj sg_app)
section
variable {P : Program} {w : World} {K : PySem.W.Frag} {mg : Str → Option Value} {base : Heap}
theorem chosen_bef {D : LD} {able : List Str} {p : Str × Str} (ep : (firstsL D able)[bestI D able D.lv]? = some p) {k : Str} (hk : k ∈ kys (firstsL D able)) (ne : k ≠ p.1) : Bef (rwK D p.1) (rwK D k) := by
  have nd := (firsts_ok D able).2
  obtain ⟨j, hj⟩ := List.mem_iff_getElem?.mp hk
  have pos : 0 < (firstsL D able).length := by
    have := (List.getElem?_eq_some_iff.mp ep).1
    omega
  have ll : ((firstsL D able).map (rowL D D.lv)).length = (firstsL D able).length := List.length_map _
  have atK : ∀ i p, (firstsL D able)[i]? = some p → rowD ((firstsL D able).map (rowL D D.lv)) i = rwK D p.1 := fun i p e => by
    unfold rowD
    rw [List.getD_eq_getElem?_getD, List.getElem?_map, e]
    rfl
  have un : ∀ i j, i < ((firstsL D able).map (rowL D D.lv)).length → j < ((firstsL D able).map (rowL D D.lv)).length → i ≠ j → (rowD ((firstsL D able).map (rowL D D.lv)) i).2.2.2 ≠ (rowD ((firstsL D able).map (rowL D D.lv)) j).2.2.2 := fun i j hi hj ij z => by
    rw [ll] at hi hj
    rw [atK i _ (List.getElem?_eq_getElem hi), atK j _ (List.getElem?_eq_getElem hj)] at z
    exact ne8 nd (i := i) (j := j) (by unfold kys; rw [List.getElem?_map, List.getElem?_eq_getElem hi]; rfl) (by unfold kys; rw [List.getElem?_map, List.getElem?_eq_getElem hj]; rfl) ij z
  have ab := (arg_best un ((firstsL D able).length - 1) (by rw [ll]; omega)).2
  obtain ⟨q, eq, eqk⟩ : ∃ q, (firstsL D able)[j]? = some q ∧ q.1 = k := by
    unfold kys at hj
    rw [List.getElem?_map] at hj
    obtain ⟨q, eq, e⟩ := Option.map_eq_some_iff.mp hj
    exact ⟨q, eq, e⟩
  have lj := (List.getElem?_eq_some_iff.mp eq).1
  have jb : j ≠ bestI D able D.lv := fun z => by
    rw [z, ep] at eq
    exact ne (eqk.symm.trans (congrArg (·.1) (Option.some.inj eq)).symm)
  have h1 := ab j (by omega) jb
  rw [atK j q eq, eqk] at h1
  have h1' : Bef (rowD ((firstsL D able).map (rowL D D.lv)) (bestI D able D.lv)) (rwK D k) := h1
  rw [atK _ p ep] at h1'
  exact h1'
theorem hasW_iff {D : LD} {a : Str} : hasW D a = true ↔ ∃ n ∈ kys D.qu, ownD D n = a := by
  rw [← hasW_mem, decide_eq_true_iff]
  exact List.mem_map
theorem own_lay {D : LD} {n a : Str} {c l r : Int} {t : Addr} (m : Str) : ownD (layD D n a c l r t) m = if m = n then a else ownD D m := by
  unfold ownD
  show (lkG (upG D.ow n a) m).getD "" = _
  rw [lkG_up]
  split <;> rfl
theorem has_lay {D : LD} {n a : Str} {c l r : Int} {t : Addr} (hn : ¬ n ∈ kys D.qu) (x : Str) : hasW (layD D n a c l r t) x = true ↔ (hasW D x = true ∨ x = a) := by
  rw [hasW_iff, hasW_iff]
  have ek : kys (layD D n a c l r t).qu = kys D.qu ++ [n] := upG_kout hn
  rw [ek]
  constructor
  · rintro ⟨m, hm, e⟩
    rw [own_lay] at e
    rcases List.mem_append.mp hm with hm | hm
    · rw [if_neg (fun z => hn (by rw [← z]; exact hm))] at e
      exact .inl ⟨m, hm, e⟩
    · rw [if_pos (List.mem_singleton.mp hm)] at e
      exact .inr e.symm
  · rintro (⟨m, hm, e⟩ | e)
    · exact ⟨m, List.mem_append_left _ hm, by rw [own_lay, if_neg (fun z => hn (by rw [← z]; exact hm))]; exact e⟩
    · exact ⟨n, List.mem_append_right _ (List.mem_singleton_self n), by rw [own_lay, if_pos rfl]; exact e.symm⟩
theorem g_nn {D : LD} (h : ∀ p ∈ D.sh, 0 < p.2 ∧ p.2 ≤ 10) (x : Str) : 0 ≤ gF D x := by
  unfold gF
  cases e : lkG D.sh x with
  | none => show (0 : Int) ≤ 2520 / 1; decide
  | some v => exact Int.ediv_nonneg (by decide) (Int.le_of_lt (h _ (lkG_mem e)).1)
theorem lv_lay {D : LD} {n a : Str} {c l r : Int} {t : Addr} (el : lkG D.lv a = some l) (x : Str) : lvF (layD D n a c l r t) x = if x = a ∧ ¬ hasW D a = true then max l (mkF D r) else lvF D x := by
  unfold lvF mkF
  show (lkG (laidLv D a l r) x).getD 0 = _
  unfold laidLv
  by_cases h : hasW D a = true
  · rw [if_pos h, if_neg (fun z => z.2 h)]
  · rw [if_neg h, lkG_up]
    by_cases e : x = a
    · rw [if_pos e, if_pos ⟨e, h⟩]; rfl
    · rw [if_neg e, if_neg (fun z => e z.1)]
theorem Link.lay {D : LD} {n a : Str} {c l r : Int} {t : Addr} (el : lkG D.lv a = some l) (hn : ¬ n ∈ kys D.qu) : Link D (layD D n a c l r t) := by
  have ll : lvF D a = l := by unfold lvF; rw [el]; rfl
  refine ⟨fun x _ => ?_, fun x hx => ?_, fun x hx => (has_lay hn x).mpr (.inl hx), rfl, rfl⟩
  · rw [lv_lay el]
    split
    · next h => rw [h.1, ll]; exact Int.le_max_left _ _
    · exact Int.le_refl _
  · rw [lv_lay el, if_neg (fun z => z.2 (by rw [← z.1]; exact hx))]
theorem BD.lay {D : LD} {most : Int} {n a : Str} {c l r : Int} {t : Addr} (b : BD D most) (m0 : 0 ≤ most) (sb : ∀ p ∈ D.sh, 0 < p.2 ∧ p.2 ≤ 10) (el : lkG D.lv a = some l) (er : lkG D.ra a = some r) (hn : ¬ n ∈ kys D.qu) : BD (layD D n a c l r t) most := by
  have ll : lvF D a = l := by unfold lvF; rw [el]; rfl
  have rr : raF D a = r := by unfold raF; rw [er]; rfl
  intro x hx
  obtain ⟨b1, b2⟩ := b x hx
  have gn := Int.mul_nonneg m0 (g_nn sb x)
  show lvF (layD D n a c l r t) x ≤ mkF D (raF D x) + most * gF D x ∧ (hasW (layD D n a c l r t) x = true → mkF D (raF D x) ≤ lvF (layD D n a c l r t) x)
  rw [lv_lay el]
  by_cases h : x = a ∧ ¬ hasW D a = true
  · rw [if_pos h]
    obtain ⟨rfl, hw⟩ := h
    rw [ll, rr] at b1
    rw [rr]
    exact ⟨by rw [Int.max_def]; split <;> omega, fun _ => Int.le_max_right _ _⟩
  · rw [if_neg h]
    refine ⟨b1, fun hw => b2 ?_⟩
    rcases (has_lay hn x).mp hw with hw | e
    · exact hw
    · exact Classical.byContradiction fun z => h ⟨e, by rw [← e]; exact z⟩
def sp__law_has (_ : PySem.W.Frag) : Sp := fun vs H Q _ => ∃ (M : MC) (most : Int) (D : LD) (jbs : List (Str × Addr)) (tks : List Tk) (a : Str), vs = [.ref M.m, .str a] ∧ LC H M most D jbs tks ∧ D.Ok ∧ D.qu.length ≤ 900 ∧ ∀ H', Same H H' → Q (.bl (hasW D a)) H'
theorem sc__law_has : FnScope ["_law_m", "_law_asker"] ["_law_m", "_law_asker"] (defScope s__law_has) := ⟨rfl, rfl, rfl, by decide +kernel, rfl, by decide +kernel, by decide +kernel⟩
theorem ok__law_has {fa cLine cUnknown cTwice cHallError tP_first_of : Addr} {fd : FuncData} (F : Fun K "_law_has" "_law_has" s__law_has fa fd) (T : Txt K mg cLine cUnknown cTwice cHallError tP_first_of)  :
    FnOk P w K mg base CX0 1 fa fd ["_law_m", "_law_asker"] (sp__law_has K) := by
  refine F.ok sc__law_has (fun vs H Q E h => ?_) (fun cdv A outer s H vs Q E hr h => ?_)
  · obtain ⟨M, most, D, jbs, tks, a, rfl, _⟩ := h
    rfl
  obtain ⟨M, most, D, jbs, tks, a, rfl, A, O, lq, q⟩ := h
  have hu := hu_n hr 0 (by decide)
  refine ⟨_, (pss_one (ps_ret (pe_cmpR op_in_seq (pv 1) (pe_comp (frees := [("_law_m", 0)]) ⟨by decide +kernel, rfl, rfl, by decide +kernel, ⟨⟨rfl, rfl, rfl, by decide +kernel⟩, trivial⟩, by decide +kernel, cellsFor_at rfl, rfl⟩ rfl (pi_list (pe_dget hu (pv 0) pe_str (fun _ _ => rfl))) (fun _ _ _ _ => pifs_nil) (fun _ _ _ _ => by exact (pe_ixK (K := K) (r := rIxT) rfl ix_tup (pe_dget hu (pe_dget hu (pv 1) pe_str (fun _ _ => rfl)) (pv 0) (fun _ _ => rfl)) pe_int (fun _ _ => rfl)))) rfl))), ?_⟩
  refine ⟨_, rfl, _, rfl, M.m, _, rfl, A.get.2.2.2.1, M.wt, rfl, ⟨_, SqL.of A.wt⟩, ?_⟩
  refine compB_seq (seq_list (K := K) (SqL.of A.wt)) (fun _ => true) (fun v => match v with | .str n => .str (ownD D n) | _ => .non) (by unfold kys; rw [List.length_map, List.length_map]; exact small1000 (by omega)) (fun x _ H' R _ rr => rr) (fun v hv H' R s2 _ rr => ?_) (fun C H1 s1 nC hC => ?_)
  · obtain ⟨m, hm, rfl⟩ := List.mem_map.mp hv
    obtain ⟨c', eo, ec, _⟩ := O.owner (O.qo m hm)
    have A' := A.same s2
    obtain ⟨t', gt', ht'⟩ := A'.job eo ec
    exact ⟨_, rfl, M.m, _, rfl, A'.get.2.2.1, _, rfl, M.jb, _, rfl, gt', t', _, 0, _, rfl, rfl, SqT.of ht', rfl, rr⟩
  · rw [List.filter_eq_self.mpr (fun _ _ => rfl), List.map_map] at hC
    have hC' : H1 C = some (.lst (((kys D.qu).map (ownD D)).map V.str)) := by rw [hC, List.map_map]; rfl
    refine ⟨C, _, rfl, .inl (SqL.of hC'), rfl, flat_strs _, ?_⟩
    have e : V.bl (inV (.str a) (((kys D.qu).map (ownD D)).map V.str)) = .bl (hasW D a) := by rw [in_strs, hasW_mem]
    show Q (V.bl (inV (.str a) (((kys D.qu).map (ownD D)).map V.str))) H1
    rw [e]
    exact q H1 s1
end
end My
namespace My
open PySem L2
open Blk (sg sg_inj sg_app)
section
variable {P : Program} {w : World} {K : PySem.W.Frag} {mg : Str → Option Value} {base : Heap}
theorem jn_nd : ((List.range 100).map jn).Nodup := by decide +kernel
theorem jn_not {k : Nat} (h : k < 100) : ¬ jn k ∈ (List.range k).map jn := fun z => by
  obtain ⟨j, hj, e⟩ := List.mem_map.mp z
  have lj := List.mem_range.mp hj
  exact ne8 jn_nd (i := j) (j := k) (by rw [List.getElem?_map, List.getElem?_range (by omega)]; rfl) (by rw [List.getElem?_map, List.getElem?_range h]; rfl) (by omega) e
theorem jn_small : ∀ j : Nat, j < 100 → ((j : Int)).natAbs.log2 < 1920 ∧ (Str.ofString "j").length + (Str.ofString (toString (j : Int))).length ≤ 1000 := by decide +kernel
structure LS (cL tP : Addr) (H : Hp) (L : LA) (M : MC) (most : Int) (D : LD) (jbs : List (Str × Addr)) (tks : List Tk) (trs : List Tr) (ss : List Str) (n k : Nat) : Prop where
  N : LnAt cL H L D
  A : LC H M most D jbs tks
  O : D.Ok
  tab : LTab H tP
  ap : ∀ b, (b ∈ M.cs ∨ FL tks b) → ¬ LF L D b
  pm : List.Perm ss (kys D.ra)
  sr : PyProof.Rows.sortedS ss = true
  s0 : 0 < ss.length
  s6 : ss.length ≤ 6
  sb : ∀ p ∈ D.sh, 0 < p.2 ∧ p.2 ≤ 10
  cb : ∀ p ∈ D.co, 0 ≤ p.2 ∧ p.2 ≤ most
  m0 : 1 ≤ most
  bd : BD D most
  ch : Chn trs D most
  mt : (trs.map fun e => (e.mine, e.pr, ss.map (hasW e.D0), ss.map (hasW e.D1))) = tks.map fun u => (u.mine, u.pr, u.fa, u.fb)
  jk : kys D.ow = (List.range D.ow.length).map jn
  zo : D.ow.length ≤ k
  zq : D.qu.length ≤ k
  zm : D.ma.length ≤ n
  zn : ∀ p ∈ D.no, p.2.2.length ≤ n
  zt : tks.length ≤ n
theorem LS.same {cL tP : Addr} {H H' : Hp} {L : LA} {M : MC} {most : Int} {D : LD} {jbs : List (Str × Addr)} {tks : List Tk} {trs : List Tr} {ss : List Str} {n k : Nat} (S : LS cL tP H L M most D jbs tks trs ss n k) (s : Same H H') : LS cL tP H' L M most D jbs tks trs ss n k := ⟨S.N.same s, S.A.same s, S.O, S.tab.same s, S.ap, S.pm, S.sr, S.s0, S.s6, S.sb, S.cb, S.m0, S.bd, S.ch, S.mt, S.jk, S.zo, S.zq, S.zm, S.zn, S.zt⟩
theorem LS.up {cL tP : Addr} {H : Hp} {L : LA} {M : MC} {most : Int} {D : LD} {jbs : List (Str × Addr)} {tks : List Tk} {trs : List Tr} {ss : List Str} {n k n' k' : Nat} (S : LS cL tP H L M most D jbs tks trs ss n k) (h1 : n ≤ n') (h2 : k ≤ k') : LS cL tP H L M most D jbs tks trs ss n' k' := ⟨S.N, S.A, S.O, S.tab, S.ap, S.pm, S.sr, S.s0, S.s6, S.sb, S.cb, S.m0, S.bd, S.ch, S.mt, S.jk, Nat.le_trans S.zo h2, Nat.le_trans S.zq h2, Nat.le_trans S.zm h1, fun p hp => Nat.le_trans (S.zn p hp) h1, Nat.le_trans S.zt h1⟩
theorem LS.Z {cL tP : Addr} {H : Hp} {L : LA} {M : MC} {most : Int} {D : LD} {jbs : List (Str × Addr)} {tks : List Tk} {trs : List Tr} {ss : List Str} {n k : Nat} (S : LS cL tP H L M most D jbs tks trs ss n k) (h : n ≤ 200) (h' : k ≤ 200) : D.Z := by
  have l1 : D.ra.length = ss.length := by
    have := S.pm.length_eq
    unfold kys at this
    rw [List.length_map] at this
    exact this.symm
  have l2 := S.s6
  have e1 := len_kys S.O.sk
  have e2 := len_kys S.O.lk
  have e3 := len_kys S.O.oc
  have e4 := len_kys S.O.on
  have z1 := S.zo
  have z2 := S.zq
  have z3 := S.zm
  exact ⟨by omega, by omega, by omega, by omega, by omega, by omega, by omega, by omega, fun p hp => by have := S.zn p hp; omega⟩
def Deed (tP : Addr) (L : LA) (M : MC) (D D' : LD) (H H' : Hp) : Prop := (∀ b o, b ≠ tP → ¬ b ∈ M.cs → ¬ LF L D b → H b = some o → H' b = some o) ∧ ∀ b o, LF L D' b → H b = some o → LF L D b
theorem Deed.trans {tP : Addr} {L : LA} {M : MC} {D D' D'' : LD} {H H' H'' : Hp} {cL : Addr} {most : Int} {jbs : List (Str × Addr)} {tks : List Tk} (h : Deed tP L M D D' H H') (k : Deed tP L M D' D'' H' H'') (tab : LTab H' tP) (A : LC H' M most D' jbs tks) (N : LnAt cL H' L D') (A0 : ∀ b o, b ∈ M.cs → H b = some o → b ∈ M.cs) : Deed tP L M D D'' H H'' := by
  obtain ⟨tps, htp⟩ := tab.is
  refine ⟨fun b o n1 n2 n3 e => k.1 b o n1 n2 (fun z => n3 (h.2 b o z e)) (h.1 b o n1 n2 n3 e), fun b o hb e => ?_⟩
  refine Classical.byContradiction fun n3 => ?_
  by_cases c1 : b = tP
  · rw [c1] at hb
    exact n3 (h.2 b o (by rw [c1]; exact k.2 tP _ hb htp) e)
  · by_cases c2 : b ∈ M.cs
    · rcases mc_kind A (.inl c2) with ⟨kv, ek⟩ | ⟨kv, ek⟩
      · exact n3 (h.2 b o (k.2 b _ hb ek) e)
      · exact n3 (h.2 b o (k.2 b _ hb ek) e)
    · exact n3 (h.2 b o (k.2 b o hb (h.1 b o c1 c2 n3 e)) e)
theorem pick3 {x y z : Int} {v : V} {j : Nat} {P : Int → Prop} (h : [V.int x, V.int y, V.int z][j]? = some v) (hx : P x) (hy : P y) (hz : P z) : ∃ d : Int, v = .int d ∧ P d := by
  have hm := List.mem_of_getElem? h
  simp only [List.mem_cons, List.not_mem_nil, or_false] at hm
  rcases hm with rfl | rfl | rfl
  · exact ⟨_, rfl, hx⟩
  · exact ⟨_, rfl, hy⟩
  · exact ⟨_, rfl, hz⟩
def sp__law_lay (_ : PySem.W.Frag) (cL tP : Addr) : Sp := fun vs H Q _ => ∃ (L : LA) (M : MC) (most : Int) (D : LD) (jbs : List (Str × Addr)) (tks : List Tk) (trs : List Tr) (ss : List Str) (n k : Nat) (c : Int) (kk : Nat), vs = [.ref L.x, .ref M.m, .int c, .int (kk : Int)] ∧ LS cL tP H L M most D jbs tks trs ss n k ∧ n ≤ 60 ∧ k ≤ 95 ∧ kk ≤ 300 ∧ ∀ D' jbs' H', LS cL tP H' L M most D' jbs' tks trs ss n (k + 1) → Deed tP L M D D' H H' → Q .non H'
theorem sc__law_lay : FnScope ["_law_line", "_law_m", "_law_cell", "_law_k", "_law_askers", "_law_asker", "_law_price", "_law_name"] ["_law_line", "_law_m", "_law_cell", "_law_k"] (defScope s__law_lay) := ⟨rfl, rfl, rfl, by decide +kernel, rfl, by decide +kernel, by decide +kernel⟩
theorem ok__law_lay {fa cLine cUnknown cTwice cHallError tP_first_of : Addr} {fd : FuncData} (F : Fun K "_law_lay" "_law_lay" s__law_lay fa fd) (T : Txt K mg cLine cUnknown cTwice cHallError tP_first_of) (D__law_mix : Dfn P w K mg base 1 "_law_mix" ["_law_cell", "_law_k", "_law_many"] (sp__law_mix K)) (D_Line_lay : MtE P w K mg base 4 "lay" cLine ["self", "name", "asker", "cost"] (sp_Ln_lay cLine cUnknown cTwice)) :
    FnOk P w K mg base CX0 5 fa fd ["_law_line", "_law_m", "_law_cell", "_law_k"] (sp__law_lay K cLine tP_first_of) := by
  refine F.ok sc__law_lay (fun vs H Q E h => ?_) (fun cdv A outer s H vs Q E hr h => ?_)
  · obtain ⟨L, M, most, D, jbs, tks, trs, ss, n, k, c, kk, rfl, _⟩ := h
    rfl
  obtain ⟨L, M, most, D, jbs, tks, trs, ss, n, k, c, kk, rfl, S, n6, k9, kk3, q⟩ := h
  have hu := hu_n hr 0 (by decide)
  have hu0 := hr.units0
  refine ⟨_, (pss_cons (ps_set (i := 4) sc__law_lay.nd rfl (by first | exact Or.inl rfl | exact Or.inr rfl) (pe_callB (call_sorted_d rfl) rfl T.sorted bt_sorted (pa_cons (pe_dget hu (pv 1) pe_str (fun _ _ => rfl)) pa_nil)))
  (pss_cons (ps_set (i := 5) sc__law_lay.nd rfl (by first | exact Or.inl rfl | exact Or.inr rfl) (pe_ix ix_listA (pv 4) (pe_callD D__law_mix (hr.mono (by decide)) rfl (pa_cons (pv 2) (pa_cons (pe_op op_add (pv 3) pe_int) (pa_cons (pe_callB call_len_seq rfl T.len PySem.boot_len (pa_cons (pv 4) pa_nil)) pa_nil)))) (fun _ _ => rfl)))
  (pss_cons (ps_set (i := 6) sc__law_lay.nd rfl (by first | exact Or.inl rfl | exact Or.inr rfl) (pe_op op_add pe_int (pe_op op_mod (pe_callD D__law_mix (hr.mono (by decide)) rfl (pa_cons (pv 2) (pa_cons (pe_op op_add (pv 3) pe_int) (pa_cons pe_int pa_nil)))) (pe_dget hu (pv 1) pe_str (fun _ _ => rfl)))))
  (pss_cons (ps_if (pt_cmpR op_gt (pe_dget hu (pv 1) pe_str (fun _ _ => rfl)) pe_int (nomark _)) (pss_one (ps_set (i := 6) sc__law_lay.nd rfl (by first | exact Or.inl rfl | exact Or.inr rfl) (pe_ix ix_listA (pe_lst (pa_cons (pe_op op_add pe_int (pe_op op_mod (pv 2) (pe_dget hu (pv 1) pe_str (fun _ _ => rfl)))) (pa_cons (pe_dget hu (pv 1) pe_str (fun _ _ => rfl)) (pa_cons pe_int pa_nil)))) (pe_callD D__law_mix (hr.mono (by decide)) rfl (pa_cons (pv 2) (pa_cons (pe_op op_add (pv 3) pe_int) (pa_cons pe_int pa_nil)))) (fun _ _ => rfl)))) pss_nil)
  (pss_cons (ps_set (i := 7) sc__law_lay.nd rfl (by first | exact Or.inl rfl | exact Or.inr rfl) (pe_op op_add_str pe_str (pe_callTy call_str_int rfl T.str bt_str (pa_cons (pe_callB call_lenD rfl T.len PySem.boot_len (pa_cons (pe_dget hu (pv 1) pe_str (fun _ _ => rfl)) pa_nil)) pa_nil))))
  (pss_cons (ps_expr (pe_methE 4 passE0 (hr.mono (by decide)) (pv 0) (pa_cons (pv 7) (pa_cons (pv 5) (pa_cons (pv 6) pa_nil)))))
  (pss_cons (ps_dput hu (pe_dget hu (pv 1) pe_str (fun _ _ => rfl)) (pv 7) (pe_tup (pa_cons (pv 5) (pa_cons (pv 6) pa_nil))) rfl)
  (pss_one (ps_expr (pe_bm PySem.F.plainAttrs_list PySem.F.slot_list_append PySem.F.type_list_append mt_append (pe_dget hu (pv 1) pe_str (fun _ _ => rfl)) (pa_cons (pv 7) pa_nil))))))))))), ?_⟩
  have la : (kys D.ra).length < 64 := by
    rw [← S.pm.length_eq]
    have := S.s6
    omega
  have Z := S.Z (by omega) (by omega)
  have m0 := S.m0
  refine ⟨_, rfl, M.m, _, rfl, S.A.get.1, M.rk, _, kys D.ra, rfl, S.A.rk, dG_kV, la, fun l ss' nl pm' sr' => ?_⟩
  obtain rfl : ss' = ss := sorted_uniq (pm'.trans S.pm.symm) sr' S.sr
  have s1 := same_new nl (.lst (ss'.map V.str))
  have hl : upd H l (.lst (ss'.map V.str)) l = some (.lst (ss'.map V.str)) := upd_same
  generalize upd H l (.lst (ss'.map V.str)) = H1 at s1 hl ⊢
  have lpos : 0 < ((ss'.map V.str).length : Int) := by rw [List.length_map]; have := S.s0; omega
  refine ⟨_, rfl, _, rfl, _, rfl, _, _, rfl, rfl, _, rfl, l, _, rfl, .inl (SqL.of hl), c, _, _, rfl, by omega, by omega, lpos, fun H2 s2 => ?_⟩
  refine ⟨l, _, _, rfl, rfl, SqL.of (s2 _ _ hl), mix_lo lpos, mix_hi lpos, fun v hv => ?_⟩
  rw [List.getElem?_map] at hv
  obtain ⟨a, ea, rfl⟩ := Option.map_eq_some_iff.mp hv
  have har : a ∈ kys D.ra := S.pm.mem_iff.mp (List.mem_of_getElem? ea)
  obtain ⟨r, lw, sv, er, el, es, _⟩ := S.O.has har
  have S2 := S.same (s1.trans s2)
  refine ⟨_, rfl, _, rfl, _, _, rfl, rfl, c, _, _, rfl, by omega, by omega, by decide, fun H3 s3 => ?_⟩
  have S3 := S2.same s3
  have x0 := Int.emod_nonneg (mixV c ((kk : Int) + 31) 5) (show most ≠ 0 by omega)
  have x1 := Int.emod_lt_of_pos (mixV c ((kk : Int) + 31) 5) (show 0 < most by omega)
  refine ⟨_, rfl, M.m, _, rfl, S3.A.get.2.2.2.2.2, _, _, rfl, rfl, (by show 0 < most; omega), _, _, rfl, rfl, ?_⟩
  generalize hp1 : 1 + mixV c ((kk : Int) + 31) 5 % most = pr1
  dsimp only [gName]
  rw [hp1]
  refine seq_cut (fun σ G => Same H3 G ∧ ∃ pr : Int, (1 ≤ pr ∧ pr ≤ most) ∧ σ = [some (.ref L.x), some (.ref M.m), some (.int c), some (.int (kk : Int)), some (.ref l), some (.str a), some (.int pr), none]) (fun R hR => ?_) (fun σ G z => ?_)
  · refine ⟨_, rfl, M.m, _, rfl, S3.A.get.2.2.2.2.2, _, _, rfl, rfl, _, rfl, ite2 (fun _ => ?_) (fun _ => hR _ _ ⟨Same.refl _, pr1, ⟨by omega, by omega⟩, rfl⟩)⟩
    refine ⟨_, rfl, _, rfl, M.m, _, rfl, S3.A.get.2.2.2.2.2, _, _, rfl, rfl, (by show 0 < most; omega), _, _, rfl, rfl, _, rfl, M.m, _, rfl, S3.A.get.2.2.2.2.2, small (by show 3 ≤ 1000; decide), fun p np => ?_⟩
    have t1 := same_new np (.lst [V.int (1 + c % most), .int most, .int 1])
    have hp : upd H3 p (.lst [V.int (1 + c % most), .int most, .int 1]) p = some (.lst [V.int (1 + c % most), .int most, .int 1]) := upd_same
    generalize upd H3 p (.lst [V.int (1 + c % most), .int most, .int 1]) = G1 at t1 hp ⊢
    refine ⟨_, rfl, _, rfl, _, _, rfl, rfl, c, _, _, rfl, by omega, by omega, by decide, fun G2 t2 => ?_⟩
    refine ⟨p, _, _, rfl, rfl, SqL.of (t2 _ _ hp), mix_lo (by decide), mix_hi (by decide), fun v hv => ?_⟩
    have y0 := Int.emod_nonneg c (show most ≠ 0 by omega)
    have y1 := Int.emod_lt_of_pos c (show 0 < most by omega)
    obtain ⟨pr, rfl, hpr⟩ := pick3 (P := fun d => 1 ≤ d ∧ d ≤ most) hv ⟨by omega, by omega⟩ ⟨by omega, by omega⟩ ⟨by omega, by omega⟩
    exact hR _ _ ⟨t1.trans t2, pr, hpr, rfl⟩
  obtain ⟨sG, pr, ⟨pr1', pr2'⟩, rfl⟩ := z
  have S4 := S3.same sG
  have low := len_kys S.A.kJ
  have zo := S.zo
  have js := jn_small D.ow.length (by omega)
  have ed : ((dG Sum.inr V.ref jbs).length : Int) = (D.ow.length : Int) := by rw [dG_len, low]
  refine ⟨_, rfl, M.m, _, rfl, S4.A.get.2.2.1, M.jb, _, rfl, S4.A.jb, _, rfl, by rw [ed]; exact js.1, _, _, rfl, rfl, small (by rw [ed]; exact js.2), ?_⟩
  rw [ed]
  have enm : Str.ofString "j" ++ Str.ofString (toString (D.ow.length : Int)) = jn D.ow.length := rfl
  rw [enm]
  have hn : ¬ jn D.ow.length ∈ kys D.ow := by rw [S.jk]; exact jn_not (by omega)
  generalize hnm : jn D.ow.length = nm at hn ⊢
  have hqn : ¬ nm ∈ kys D.qu := fun z => hn (S.O.qo nm z)
  refine ⟨_, rfl, L.x, _, L.dx, _, _, _, rfl, S4.N.o, rfl, T.cl_Line, D_Line_lay, _, rfl, _, rfl, _, rfl, L, D, nm, a, pr, lw, r, rfl, S4.N, Z, S.O.qo, fun h => absurd har h, fun _ h => absurd h hn, fun _ _ => ⟨el, er, by rw [S.O.on]; exact hn, fun H9 t o9 nt N9 => ?_⟩⟩
  have lfx : ∀ b, LF L (layD D nm a pr lw r t) b → LF L D b ∨ b = t := fun b hb => by
    rcases hb with hb | ⟨e, he, rfl⟩
    · exact .inl (.inl hb)
    · rcases upG_mem he with he | rfl
      · exact .inl (.inr ⟨e, he, rfl⟩)
      · exact .inr rfl
  have A9 := S4.A.keep S4.N S.ap (fun b o nb _ e => o9 b o nb e)
  have ap9 : ∀ b, (b ∈ M.cs ∨ FL tks b) → ¬ LF L (layD D nm a pr lw r t) b := fun b hb hf => by
    rcases lfx b hf with h | rfl
    · exact S.ap b hb h
    · exact mc_none S4.A nt hb
  have tab9 := tab_off S4.N S4.tab o9
  have lj : jbs.length ≤ 1000 := by rw [low]; omega
  refine ⟨_, rfl, _, rfl, small (by show 2 ≤ 1000; decide), fun t' nt' => ⟨_, rfl, M.m, _, rfl, (A9.same (same_new nt' _)).get.2.2.1, _, rfl, M.jb, _, rfl, dput_dG inr_inj (A9.same (same_new nt' _)).jb lj nm t', ?_⟩⟩
  have A10 := A9.new_jb (a := a) (c := pr) nt' hn
  have o10 : OffM M H9 (upd (upd H9 t' (.tup [.str a, .int pr])) M.jb (.dK (dG Sum.inr V.ref (upG jbs nm t')))) := (OffM.new (OffM.of (Same.refl _)) nt' _).set (List.mem_of_getElem? (i := 3) rfl) _
  generalize upd (upd H9 t' (.tup [.str a, .int pr])) M.jb (.dK (dG Sum.inr V.ref (upG jbs nm t'))) = H10 at A10 o10 ⊢
  refine ⟨_, rfl, M.m, _, rfl, A10.get.2.2.2.1, .inl ⟨rfl, _, SqL.of A10.wt⟩, _, rfl, M.wt, _, _, rfl, rfl, A10.wt, by unfold kys; rw [List.length_map, List.length_map]; exact small1000 Z.qu, ?_⟩
  have A11 := A10.set_wt (upG D.qu nm ())
  have ek : (kys (upG D.qu nm ())).map V.str = (kys D.qu).map V.str ++ [.str nm] := by
    unfold kys
    rw [upG_new hqn, List.map_append, List.map_append]
    rfl
  rw [ek] at A11
  have o11 := o10.set (show M.wt ∈ M.cs from List.mem_of_getElem? (i := 4) rfl) (.lst ((kys D.qu).map V.str ++ [.str nm]))
  generalize upd H10 M.wt (.lst ((kys D.qu).map V.str ++ [.str nm])) = H11 at A11 o11 ⊢
  have sF := (s1.trans s2).trans (s3.trans sG)
  have zq := S.zq
  refine q (layD D nm a pr lw r t) (upG jbs nm t') H11 ⟨N9.offM A9 (fun b hb => ap9 b (.inl hb)) o11, A11.ch rfl rfl rfl rfl rfl, S.O.lay har hn, tab_offM A9 tab9 o11, ap9, S.pm, S.sr, S.s0, S.s6, S.sb, fun p hp => ?_, S.m0, S.bd.lay (by omega) S.sb el er hqn, S.ch.link (Link.lay el hqn), S.mt, ?_, ?_, ?_, S.zm, fun e he => ?_, S.zt⟩ ⟨fun b o n1 n2 n3 e => o11 b o n2 (o9 b o n3 (sF b o e)), fun b o hb e => ?_⟩
  · rcases upG_mem hp with hp | rfl
    · exact S.cb p hp
    · exact ⟨by show (0 : Int) ≤ pr; omega, pr2'⟩
  · show kys (upG D.ow nm a) = (List.range (upG D.ow nm a).length).map jn
    have e1 : (upG D.ow nm a).length = D.ow.length + 1 := by rw [upG_new hn, List.length_append]; rfl
    rw [upG_kout hn, e1, List.range_succ, List.map_append, ← S.jk, ← hnm]
    rfl
  · show (upG D.ow nm a).length ≤ k + 1
    exact Nat.le_trans upG_len (Nat.succ_le_succ S.zo)
  · show (upG D.qu nm ()).length ≤ k + 1
    exact Nat.le_trans upG_len (Nat.succ_le_succ S.zq)
  · rcases upG_mem he with he | rfl
    · exact S.zn e he
    · exact Nat.zero_le _
  · rcases lfx b hb with h | rfl
    · exact h
    · rw [sF _ _ e] at nt
      cases nt
end
end My
namespace My
open PySem L2
open Blk (sg sg_inj sg_app)
section
variable {P : Program} {w : World} {K : PySem.W.Frag} {mg : Str → Option Value} {base : Heap}
theorem new_tr2 {H H' : Hp} {G : Hp → Prop} (h : ∀ H', G H') : New H H' G := ⟨fun _ => False, fun _ z => z.elim, fun H3 _ => h H3⟩
theorem has_tak {D : LD} {t b : Str} {r l c s : Int} {no' : List (Str × Addr × List Note)} {x : Str} (h : hasW (takD D t b r l c s no') x = true) : hasW D x = true := by
  obtain ⟨n, hn, e⟩ := hasW_iff.mp h
  exact hasW_iff.mpr ⟨n, (dropG_mem.mp hn).1, e⟩
theorem took_of {D : LD} {most : Int} {t b : Str} {r l c s : Int} {no' : List (Str × Addr × List Note)} (bd : BD D most) (m0 : 0 ≤ most) (sb : ∀ p ∈ D.sh, 0 < p.2 ∧ p.2 ≤ 10) (er : lkG D.ra b = some r) (el : lkG D.lv b = some l) (es : lkG D.sh b = some s) (hw : hasW D b = true) (low : ∀ x ∈ kys D.ra, hasW D x = true → raF D x = raF D b → lvF D b ≤ lvF D x) (c0 : 0 ≤ c) (c1 : c ≤ most) : Took ⟨b, c, D, takD D t b r l c s no'⟩ most := by
  have ll : lvF D b = l := by unfold lvF; rw [el]; rfl
  have rr : raF D b = r := by unfold raF; rw [er]; rfl
  have gg : gF D b = 2520 / s := by unfold gF; rw [es]; rfl
  have lv1 : ∀ x, lvF (takD D t b r l c s no') x = lvF D x + (if x = b then c * gF D x else 0) := fun x => by
    unfold lvF
    show (lkG (chLv D t b l c s) x).getD 0 = _
    unfold chLv
    rw [lkG_up]
    by_cases e : x = b
    · rw [if_pos e, if_pos e, e, el, gg]; rfl
    · rw [if_neg e, if_neg e, Int.add_zero]
  have mk1 : ∀ r', mkF (takD D t b r l c s no') r' = if r' = r then max (mkF D r) l else mkF D r' := fun r' => by
    unfold mkF
    show (lkG (upG D.ma r (max ((lkG D.ma r).getD 0) l)) r').getD 0 = _
    rw [lkG_up]
    by_cases e : r' = r
    · rw [if_pos e, if_pos e]; rfl
    · rw [if_neg e, if_neg e]
  have hb := lkG_key er
  refine ⟨bd, fun x hx => ?_, rfl, rfl, hw, low, lv1, c0, c1⟩
  obtain ⟨b1, b2⟩ := bd x hx
  have gn := g_nn sb x
  have q1 := Int.mul_nonneg m0 gn
  have q2 := Int.mul_nonneg c0 gn
  have q3 := Int.mul_le_mul_of_nonneg_right c1 gn
  show lvF (takD D t b r l c s no') x ≤ mkF (takD D t b r l c s no') (raF D x) + most * gF D x ∧ (hasW (takD D t b r l c s no') x = true → mkF (takD D t b r l c s no') (raF D x) ≤ lvF (takD D t b r l c s no') x)
  rw [lv1, mk1]
  by_cases e : x = b
  · subst e
    rw [if_pos rfl, if_pos rr]
    have b3 := b2 hw
    rw [ll, rr] at b1 b3
    rw [ll]
    rw [Int.max_def]
    constructor
    · split <;> omega
    · intro _; split <;> omega
  · rw [if_neg e, Int.add_zero]
    by_cases e2 : raF D x = r
    · rw [if_pos e2]
      rw [e2] at b1 b2
      refine ⟨by rw [Int.max_def]; split <;> omega, fun h => ?_⟩
      have h0 := has_tak h
      have h1 := b2 h0
      have h2 := low x hx h0 (e2.trans rr.symm)
      rw [ll] at h2
      rw [Int.max_def]
      split <;> omega
    · rw [if_neg e2]
      exact ⟨b1, fun h => b2 (has_tak h)⟩
theorem flags_of {ys : List V} {ss : List Str} {f : Str → Bool} {H : Hp} (ly : ys.length = (ss.map V.str).length) (gy : ∀ (i : Nat) x y, (ss.map V.str)[i]? = some x → ys[i]? = some y → ∃ a, x = .str a ∧ y = .bl (f a)) : ys = (ss.map f).map V.bl := by
  rw [List.length_map] at ly
  refine List.ext_getElem? fun i => ?_
  rw [List.map_map, List.getElem?_map]
  cases e : ys[i]? with
  | none =>
    have := List.getElem?_eq_none_iff.mp e
    rw [ly] at this
    rw [List.getElem?_eq_none_iff.mpr this]
    rfl
  | some y =>
    have li := (List.getElem?_eq_some_iff.mp e).1
    rw [ly] at li
    obtain ⟨a, e1, e2⟩ := gy i _ y (by rw [List.getElem?_map, List.getElem?_eq_getElem li]; rfl) e
    have ea : ss[i] = a := by injection e1
    rw [List.getElem?_eq_getElem li, e2, ← ea]
    rfl
def sp__law_take (_ : PySem.W.Frag) (cL tP : Addr) : Sp := fun vs H Q _ => ∃ (L : LA) (M : MC) (most : Int) (D : LD) (jbs : List (Str × Addr)) (tks : List Tk) (trs : List Tr) (ss : List Str) (n k : Nat) (c : Int) (kk : Nat), vs = [.ref L.x, .ref M.m, .int c, .int (kk : Int)] ∧ LS cL tP H L M most D jbs tks trs ss n k ∧ n ≤ 60 ∧ k ≤ 95 ∧ kk ≤ 300 ∧ 0 < D.qu.length ∧ ∀ D' tks' trs' H', LS cL tP H' L M most D' jbs tks' trs' ss (n + 1) k → Deed tP L M D D' H H' → Q (.bl true) H'
theorem sc__law_take : FnScope ["_law_line", "_law_m", "_law_cell", "_law_k", "_law_able", "_law_askers", "_law_ahead", "_law_taken", "_law_mine", "_law_behind"] ["_law_line", "_law_m", "_law_cell", "_law_k"] (defScope s__law_take) := ⟨rfl, rfl, rfl, by decide +kernel, rfl, by decide +kernel, by decide +kernel⟩
theorem ok__law_take {fa cLine cUnknown cTwice cHallError tP_first_of : Addr} {fd : FuncData} (F : Fun K "_law_take" "_law_take" s__law_take fa fd) (T : Txt K mg cLine cUnknown cTwice cHallError tP_first_of) (D__law_mix : Dfn P w K mg base 1 "_law_mix" ["_law_cell", "_law_k", "_law_many"] (sp__law_mix K)) (D__law_has : Dfn P w K mg base 1 "_law_has" ["_law_m", "_law_asker"] (sp__law_has K)) (D_Line_take : MtE P w K mg base 4 "take" cLine ["self", "able"] (sp_Ln_take cLine tP_first_of cUnknown)) :
    FnOk P w K mg base CX0 5 fa fd ["_law_line", "_law_m", "_law_cell", "_law_k"] (sp__law_take K cLine tP_first_of) := by
  refine F.ok sc__law_take (fun vs H Q E h => ?_) (fun cdv A outer s H vs Q E hr h => ?_)
  · obtain ⟨L, M, most, D, jbs, tks, trs, ss, n, k, c, kk, rfl, _⟩ := h
    rfl
  obtain ⟨L, M, most, D, jbs, tks, trs, ss, n, k, c, kk, rfl, S, n6, k9, kk3, q0, q⟩ := h
  have hu := hu_n hr 0 (by decide)
  have hu0 := hr.units0
  refine ⟨_, (pss_cons (ps_set (i := 4) sc__law_take.nd rfl (by first | exact Or.inl rfl | exact Or.inr rfl) (pe_callTy call_list_of rfl T.list bt_list (pa_cons (pe_dget hu (pv 1) pe_str (fun _ _ => rfl)) pa_nil)))
  (pss_cons (ps_if (pt_cmpR op_eq (pe_callD D__law_mix (hr.mono (by decide)) rfl (pa_cons (pv 2) (pa_cons (pe_op op_add (pv 3) pe_int) (pa_cons pe_int pa_nil)))) pe_int (nomark _)) (pss_one (ps_expr (pe_bm0 PySem.F.plainAttrs_list PySem.F.slot_list_reverse PySem.F.type_list_reverse mt_reverse (pv 4)))) pss_nil)
  (pss_cons (ps_set (i := 5) sc__law_take.nd rfl (by first | exact Or.inl rfl | exact Or.inr rfl) (pe_callB (call_sorted_d rfl) rfl T.sorted bt_sorted (pa_cons (pe_dget hu (pv 1) pe_str (fun _ _ => rfl)) pa_nil)))
  (pss_cons (ps_comp (i := 6) (frees := [("_law_m", 1)]) ⟨by decide +kernel, rfl, rfl, by decide +kernel, ⟨⟨rfl, rfl, rfl, by decide +kernel⟩, trivial⟩, by decide +kernel, cellsFor_at rfl, rfl⟩ sc__law_take.nd rfl rfl rfl (pi_list (pv 5)) (fun _ _ _ _ => pifs_nil) (fun _ _ _ _ => by exact (pe_callD D__law_has (hr.mono (by decide)) rfl (pa_cons (pv 1) (pa_cons (pv 0) pa_nil)))))
  (pss_cons (ps_set (i := 7) sc__law_take.nd rfl (by first | exact Or.inl rfl | exact Or.inr rfl) (pe_methE 4 passE0 (hr.mono (by decide)) (pv 0) (pa_cons (pv 4) pa_nil)))
  (pss_cons (ps_if (pt_cmpR (op_eq_list hu0) (pv 4) (pe_lst pa_nil) (nomark _)) (pss_one (ps_ret (pe_cmpR op_isN (pv 7) pe_non (nomark _)))) pss_nil)
  (pss_cons (ps_if (pt_cmpR op_notIn_seq (pv 7) (pv 4) rfl) (pss_one (ps_ret pe_bl)) pss_nil)
  (pss_cons (ps_set (i := 8) sc__law_take.nd rfl (by first | exact Or.inl rfl | exact Or.inr rfl) (pe_ix ix_tup (pe_dget hu (pe_dget hu (pv 1) pe_str (fun _ _ => rfl)) (pv 7) (fun _ _ => rfl)) pe_int (fun _ _ => rfl)))
  (pss_cons (ps_if (pt_cmpR op_lt (pe_dget hu (pe_dget hu (pv 1) pe_str (fun _ _ => rfl)) (pv 8) (fun _ _ => rfl)) (pe_callB (call_max_ints rfl) rfl T.max bt_max (pa_cons (pe_comp (frees := [("_law_m", 1)]) ⟨by decide +kernel, rfl, rfl, by decide +kernel, ⟨⟨rfl, rfl, rfl, by decide +kernel⟩, trivial⟩, by decide +kernel, cellsFor_at rfl, rfl⟩ rfl (pi_list (pv 4)) (fun _ _ _ _ => pifs_nil) (fun _ _ _ _ => by exact (pe_dget hu (pe_dget hu (pv 1) pe_str (fun _ _ => rfl)) (pe_ixK (K := K) (r := rIxT) rfl ix_tup (pe_dget hu (pe_dget hu (pv 1) pe_str (fun _ _ => rfl)) (pv 0) (fun _ _ => rfl)) pe_int (fun _ _ => rfl)) (fun _ _ => rfl)))) pa_nil)) (nomark _)) (pss_one (ps_ret pe_bl)) pss_nil)
  (pss_cons (ps_expr (pe_bm PySem.F.plainAttrs_list PySem.F.slot_list_remove PySem.F.type_list_remove mt_remove (pe_dget hu (pv 1) pe_str (fun _ _ => rfl)) (pa_cons (pv 7) pa_nil)))
  (pss_cons (ps_comp (i := 9) (frees := [("_law_m", 1)]) ⟨by decide +kernel, rfl, rfl, by decide +kernel, ⟨⟨rfl, rfl, rfl, by decide +kernel⟩, trivial⟩, by decide +kernel, cellsFor_at rfl, rfl⟩ sc__law_take.nd rfl rfl rfl (pi_list (pv 5)) (fun _ _ _ _ => pifs_nil) (fun _ _ _ _ => by exact (pe_callD D__law_has (hr.mono (by decide)) rfl (pa_cons (pv 1) (pa_cons (pv 0) pa_nil)))))
  (pss_cons (ps_expr (pe_bm PySem.F.plainAttrs_list PySem.F.slot_list_append PySem.F.type_list_append mt_append (pe_dget hu (pv 1) pe_str (fun _ _ => rfl)) (pa_cons (pe_tup (pa_cons (pv 8) (pa_cons (pe_ix ix_tup (pe_dget hu (pe_dget hu (pv 1) pe_str (fun _ _ => rfl)) (pv 7) (fun _ _ => rfl)) pe_int (fun _ _ => rfl)) (pa_cons (pv 6) (pa_cons (pv 9) pa_nil))))) pa_nil)))
  (pss_one (ps_ret pe_bl)))))))))))))), ?_⟩
  have la : (kys D.ra).length < 64 := by
    rw [← S.pm.length_eq]
    have := S.s6
    omega
  have Z := S.Z (by omega) (by omega)
  have m0 := S.m0
  have zq := S.zq
  have lk : (kys D.qu).length = D.qu.length := by unfold kys; rw [List.length_map]
  refine ⟨_, rfl, M.m, _, rfl, S.A.get.2.2.2.1, M.wt, _, rfl, .inl (SqL.of S.A.wt), fun ab nab => ?_⟩
  have s1 := same_new nab (.lst ((kys D.qu).map V.str))
  have hab : upd H ab (.lst ((kys D.qu).map V.str)) ab = some (.lst ((kys D.qu).map V.str)) := upd_same
  generalize upd H ab (.lst ((kys D.qu).map V.str)) = H1 at s1 hab ⊢
  dsimp only [gName]
  refine seq_cut (fun σ G => ∃ W : List Str, σ = [some (.ref L.x), some (.ref M.m), some (.int c), some (.int (kk : Int)), some (.ref ab), none, none, none, none, none] ∧ Same H G ∧ G ab = some (.lst (W.map V.str)) ∧ W.Perm (kys D.qu)) (fun R hR => ?_) (fun σ G z => ?_)
  · refine ⟨_, rfl, _, rfl, _, _, rfl, rfl, c, _, _, rfl, by omega, by omega, by decide, fun G1 t1 => ⟨rfl, _, rfl, ite2 (fun _ => ?_) (fun _ => ?_)⟩⟩
    · have h2 := t1 _ _ hab
      exact ⟨_, rfl, .inl ⟨rfl, _, SqL.of h2⟩, ab, _, rfl, rfl, h2, hR _ _ ⟨(kys D.qu).reverse, rfl, same_on nab (s1.trans t1) _, by rw [upd_same, List.map_reverse], List.reverse_perm _⟩⟩
    · exact hR _ _ ⟨kys D.qu, rfl, s1.trans t1, t1 _ _ hab, List.Perm.refl _⟩
  obtain ⟨W, rfl, sG, hab, wp⟩ := z
  clear s1
  have wl : W.length = D.qu.length := wp.length_eq.trans lk
  have wn : W.Nodup := wp.nodup_iff.mpr S.O.qn
  have wq : ∀ m ∈ W, m ∈ kys D.qu := fun m hm => wp.mem_iff.mp hm
  have ne : W ≠ [] := fun z => by rw [z] at wl; simp at wl; omega
  have S1 := S.same sG
  have abL : ¬ LF L D ab := lf_none S.N nab
  refine ⟨_, rfl, M.m, _, rfl, S1.A.get.1, M.rk, _, kys D.ra, rfl, S1.A.rk, dG_kV, la, fun l ss' nl pm' sr' => ?_⟩
  obtain rfl : ss' = ss := sorted_uniq (pm'.trans S.pm.symm) sr' S.sr
  have s2 := same_new nl (.lst (ss'.map V.str))
  have hl : upd G l (.lst (ss'.map V.str)) l = some (.lst (ss'.map V.str)) := upd_same
  have lL : ¬ LF L D l := lf_none S1.N nl
  generalize upd G l (.lst (ss'.map V.str)) = G2 at s2 hl ⊢
  have S2 := S1.same s2
  have hab2 := s2 _ _ hab
  refine ⟨_, rfl, l, rfl, ⟨_, SqL.of hl⟩, ?_⟩
  have s6 := S.s6
  refine compB_mk (seq_list (K := K) (SqL.of hl)) (fun x y _ => ∃ a, x = .str a ∧ y = .bl (hasW D a)) (by rw [List.length_map]; exact small1000 (by omega)) (fun x _ H' R _ rr => rr) (fun x hx H' R sx rr => ?_) (fun ah G3 ys s3 nah hah ly gy => ?_)
  · obtain ⟨a, ha, rfl⟩ := List.mem_map.mp hx
    exact ⟨_, rfl, _, rfl, M, most, D, jbs, tks, a, rfl, S2.A.same sx, S.O, by omega, fun H'' s'' => rr _ H'' s'' (new_tr2 fun _ => ⟨a, rfl, rfl⟩)⟩
  have ey := flags_of (f := hasW D) (H := G3) ly gy
  subst ey
  have S3 := S2.same s3
  have hab3 := s3 _ _ hab2
  have hl3 := s3 _ _ hl
  have ahL : ¬ LF L D ah := lf_none S2.N nah
  have ahM := mc_none S2.A nah
  have strange : ∀ (E : XK) (G : Hp) pre nm post, W = pre ++ nm :: post → (∀ m ∈ pre, m ∈ kys D.qu) → ¬ nm ∈ kys D.qu → OutL cUnknown nm G E := fun E G pre nm post e _ hn => absurd (wq nm (by rw [e]; exact List.mem_append_right _ List.mem_cons_self)) hn
  refine ⟨_, rfl, L.x, _, L.dx, _, _, _, rfl, S3.N.o, rfl, T.cl_Line, D_Line_take, _, rfl, L, D, ab, W, rfl, S3.N, Z, S.O, hab3, abL, by omega, by omega, S3.tab, strange _ _, fun _ em => absurd em ne, fun _ _ => ⟨wn, fun b r lw cc sv G4 no' eo er el ec es sv0 fr nw tab4 cn N4 => ?_⟩⟩
  obtain ⟨n0, hn0⟩ : ∃ n, n ∈ W := List.exists_mem_of_ne_nil _ ne
  have pos : 0 < (firstsL D W).length := by
    have h1 := firsts_has (wq n0 hn0) hn0
    cases e : firstsL D W with
    | nil => rw [e] at h1; cases h1
    | cons => exact Nat.succ_pos _
  obtain ⟨p, ep, hp, ech⟩ := chosen_at (lv := D.lv) pos
  obtain ⟨pa, po, pq⟩ := (firsts_ok D W).1 p hp
  have bf : ∀ x, hasW D x = true → x ≠ p.1 → Bef (rwK D p.1) (rwK D x) := fun x hx nx => by
    obtain ⟨m, hm, e⟩ := hasW_iff.mp hx
    have := firsts_has hm (wp.mem_iff.mpr hm)
    rw [e] at this
    exact chosen_bef ep this nx
  rw [← ech] at pa po pq
  have pb : p.1 = b := by
    rw [po]
    unfold ownD
    rw [eo]
    rfl
  rw [pb] at bf
  generalize chosenL D W D.lv = t at pa po pq eo ec cn N4 ⊢
  have hwb : hasW D b = true := hasW_iff.mpr ⟨t, pq, by rw [← po, pb]⟩
  have rle : ∀ x, hasW D x = true → raF D x ≤ raF D b := fun x hx => by
    by_cases e : x = b
    · rw [e]; exact Int.le_refl _
    · rcases bf x hx e with h | ⟨h, _⟩
      · exact Int.le_of_lt h
      · exact Int.le_of_eq h.symm
  have low : ∀ x ∈ kys D.ra, hasW D x = true → raF D x = raF D b → lvF D b ≤ lvF D x := fun x _ hx e => by
    by_cases e' : x = b
    · rw [e']; exact Int.le_refl _
    · rcases bf x hx e' with h | ⟨_, h | ⟨h, _⟩⟩
      · have h' : raF D x < raF D b := h
        omega
      · exact Int.le_of_lt h
      · exact Int.le_of_eq h
  obtain ⟨tps, htp⟩ := S3.tab.is
  have kl : ∀ {x xs}, ¬ LF L D x → G3 x = some (.lst xs) → G4 x = some (.lst xs) := fun nx e => fr _ _ (ne_of e htp (by intro z; cases z)) nx e
  have hab4 := kl abL hab3
  have hl4 := kl lL hl3
  have hah4 := kl ahL hah
  have A4 : LC G4 M most D jbs tks := S3.A.keep S3.N S.ap (fun x o nb nt e => fr x o (ne_of e htp (nt _)) nb e)
  obtain ⟨ck1, ck2, ck3⟩ := con_kys cn
  have lfx : ∀ x, LF L (takD D t b r lw cc sv no') x → LF L D x := fun x hx => lf_ad ck2 hx
  have TK := took_of (t := t) (no' := no') S.bd (by omega) S.sb er el es hwb low (S.cb _ (lkG_mem ec)).1 (S.cb _ (lkG_mem ec)).2
  refine ⟨_, rfl, small (Nat.zero_le _), fun ee nee => ⟨ab, ee, W.map V.str, [], rfl, rfl, SqL.of (same_new nee _ _ _ hab4), SqL.of upd_same, flat_strs _, rfl, false, (by cases W with | nil => exact absurd rfl ne | cons => rfl), iteF ?_⟩⟩
  have s5 := same_new nee (.lst [])
  generalize upd G4 ee (.lst []) = G5 at s5 ⊢
  refine ⟨_, rfl, _, rfl, ab, _, rfl, .inl (SqL.of (s5 _ _ hab4)), rfl, flat_strs _, !decide (t ∈ W), (by show V.bl (!inV _ _) = _; rw [in_strs]), ?_⟩
  rw [decide_eq_true pa]
  refine iteF ?_
  have A5 := A4.same s5
  obtain ⟨tj, gt, ht⟩ := A5.job eo ec
  refine ⟨_, rfl, M.m, _, rfl, A5.get.2.2.1, _, rfl, M.jb, _, rfl, gt, tj, _, 0, _, rfl, rfl, SqT.of ht, rfl, ?_⟩
  have grk := dget_dG inr_inj A5.rk b
  rw [er] at grk
  refine ⟨_, rfl, M.m, _, rfl, A5.get.1, _, rfl, M.rk, _, rfl, grk, _, rfl, ab, rfl, ⟨_, SqL.of (s5 _ _ hab4)⟩, ?_⟩
  refine compB_seq (seq_list (K := K) (SqL.of (s5 _ _ hab4))) (fun _ => true) (fun v => match v with | .str n => .int (raF D (ownD D n)) | _ => .non) (by rw [List.length_map]; exact small1000 (by omega)) (fun x _ H' R _ rr => rr) (fun x hx H' R sx _ rr => ?_) (fun C G6 s6' nC hC => ?_)
  · obtain ⟨m, hm, rfl⟩ := List.mem_map.mp hx
    obtain ⟨c', eo', ec', hr'⟩ := S.O.owner (S.O.qo m (wq m hm))
    have A' := A5.same sx
    obtain ⟨t', gt', ht'⟩ := A'.job eo' ec'
    obtain ⟨r', er'⟩ := lkG_some hr'
    have gr' := dget_dG inr_inj A'.rk (ownD D m)
    rw [er'] at gr'
    have e : raF D (ownD D m) = r' := by unfold raF; rw [er']; rfl
    have rr' : R (.int r') H' := by rw [← e]; exact rr
    exact ⟨_, rfl, M.m, _, rfl, A'.get.1, _, rfl, M.m, _, rfl, A'.get.2.2.1, _, rfl, M.jb, _, rfl, gt', t', _, 0, _, rfl, rfl, SqT.of ht', rfl, M.rk, _, rfl, gr', rr'⟩
  have hC' : G6 C = some (.lst ((W.map fun m => raF D (ownD D m)).map V.int)) := by
    rw [hC, List.filter_eq_self.mpr (fun _ _ => rfl), List.map_map, List.map_map]
    rfl
  refine ⟨C, _, rfl, SqL.of hC', by rw [List.length_map]; omega, fun mx hmx _ => ⟨_, _, rfl, rfl, false, ?_, iteF ?_⟩⟩
  · obtain ⟨m, hm, rfl⟩ := List.mem_map.mp hmx
    have h1 := rle (ownD D m) (hasW_iff.mpr ⟨m, wq m hm, rfl⟩)
    have h2 : raF D b = r := by unfold raF; rw [er]; rfl
    show V.bl (decide (r < raF D (ownD D m))) = V.bl false
    rw [decide_eq_false (by omega)]
  have A6 := A5.same s6'
  have N6 := (N4.same s5).same s6'
  have tab6 := (tab4.same s5).same s6'
  obtain ⟨j, hj⟩ := List.mem_iff_getElem?.mp pq
  refine ⟨_, rfl, M.m, _, rfl, A6.get.2.2.2.1, .inl ⟨rfl, _, SqL.of A6.wt⟩, _, rfl, M.wt, kys D.qu, t, j, rfl, rfl, A6.wt, by omega, hj, fun m hm e => ne8 S.O.qn e hj (by omega) rfl, ?_⟩
  rw [erase_nd S.O.qn hj, ← dropG_kys]
  have A7 : LC (upd G6 M.wt (.lst ((kys (dropG D.qu t)).map V.str))) M most (takD D t b r lw cc sv no') jbs tks := (A6.set_wt (dropG D.qu t)).ch rfl rfl rfl rfl rfl
  have o7 : OffM M G6 (upd G6 M.wt (.lst ((kys (dropG D.qu t)).map V.str))) := (OffM.of (Same.refl _)).set (List.mem_of_getElem? (i := 4) rfl) _
  generalize upd G6 M.wt (.lst ((kys (dropG D.qu t)).map V.str)) = G7 at A7 o7 ⊢
  have O7 : (takD D t b r lw cc sv no').Ok := S.O.take (lkG_key el) ck1
  have s56 := s5.trans s6'
  have lM : ¬ l ∈ M.cs := fun z => mc_none S1.A nl (.inl z)
  have hl7 := o7 _ _ lM (s56 _ _ hl4)
  have hah7 := o7 _ _ (fun z => ahM (.inl z)) (s56 _ _ hah4)
  have q7 : (takD D t b r lw cc sv no').qu.length ≤ 900 := Nat.le_trans (List.length_filter_le _ _) (by omega)
  refine ⟨_, rfl, l, rfl, ⟨_, SqL.of hl7⟩, ?_⟩
  refine compB_mk (seq_list (K := K) (SqL.of hl7)) (fun x y _ => ∃ a, x = .str a ∧ y = .bl (hasW (takD D t b r lw cc sv no') a)) (by rw [List.length_map]; exact small1000 (by omega)) (fun x _ H' R _ rr => rr) (fun x hx H' R sx rr => ?_) (fun bh G8 ys s8 nbh hbh ly gy => ?_)
  · obtain ⟨a, ha, rfl⟩ := List.mem_map.mp hx
    exact ⟨_, rfl, _, rfl, M, most, _, jbs, tks, a, rfl, A7.same sx, O7, q7, fun H'' s'' => rr _ H'' s'' (new_tr2 fun _ => ⟨a, rfl, rfl⟩)⟩
  have ey := flags_of (f := hasW (takD D t b r lw cc sv no')) (H := G8) ly gy
  subst ey
  have A8 := A7.same s8
  have bhM := mc_none A7 nbh
  have N7 := N6.offM A6 (fun x hx hf => S.ap x (.inl hx) (lfx x hf)) o7
  have bhL : ¬ LF L (takD D t b r lw cc sv no') bh := lf_none N7 nbh
  obtain ⟨tj8, gt8, ht8⟩ := A8.job eo ec
  have zt := S.zt
  refine ⟨_, rfl, M.m, _, rfl, A8.get.2.2.2.2.1, .inl ⟨rfl, _, SqL.of A8.tk⟩, _, rfl, _, rfl, M.m, _, rfl, A8.get.2.2.1, _, rfl, M.jb, _, rfl, gt8, tj8, _, 1, _, rfl, rfl, SqT.of ht8, rfl, _, rfl, _, rfl, small (by show 4 ≤ 1000; decide), fun u nu => ?_⟩
  have hah8 := s8 _ _ hah7
  have A9 := A8.new_tk (u := ⟨u, ah, bh, b, cc, ss'.map (hasW D), ss'.map (hasW (takD D t b r lw cc sv no'))⟩) nu hah8 hbh (fun z => ahM (.inl z)) (fun z => bhM (.inl z))
  have hk8 : upd G8 u (.tup (tkV ⟨u, ah, bh, b, cc, ss'.map (hasW D), ss'.map (hasW (takD D t b r lw cc sv no'))⟩)) M.tk = some (.lst (tks.map fun u => V.ref u.t)) := same_new nu _ _ _ A8.tk
  refine ⟨M.tk, _, _, rfl, rfl, hk8, by rw [List.length_map]; exact small1000 (by omega), ?_⟩
  have o9 : OffM M G8 (upd (upd G8 u (.tup (tkV ⟨u, ah, bh, b, cc, ss'.map (hasW D), ss'.map (hasW (takD D t b r lw cc sv no'))⟩))) M.tk (.lst (tks.map (fun u => V.ref u.t) ++ [.ref u]))) := (OffM.new (OffM.of (Same.refl _)) nu _).set (List.mem_of_getElem? (i := 5) rfl) _
  have N9 := (N7.same s8).offM A8 (fun x hx hf => S.ap x (.inl hx) (lfx x hf)) o9
  have tab9 := tab_offM A8 ((tab_offM A6 tab6 o7).same s8) o9
  refine q (takD D t b r lw cc sv no') (tks ++ [Tk.mk u ah bh b cc (ss'.map (hasW D)) (ss'.map (hasW (takD D t b r lw cc sv no')))]) (trs ++ [Tr.mk b cc D (takD D t b r lw cc sv no')]) _ ⟨N9, A9, O7, tab9, fun x hx hf => ?_, S.pm, S.sr, S.s0, S.s6, S.sb, S.cb, S.m0, TK.b1, S.ch.snoc TK rfl, ?_, S.jk, S.zo, ?_, ?_, ck3 n S.zn, by rw [List.length_append]; exact Nat.succ_le_succ zt⟩ ⟨fun x o n1 n2 n3 e => o9 x o n2 (s8 _ _ (o7 x o n2 (s56 _ _ (fr x o n1 n3 (s3 _ _ (s2 _ _ (sG _ _ e))))))), fun x o hx _ => lfx x hx⟩
  · rcases hx with hx | ⟨w, hw, hx⟩
    · exact S.ap x (.inl hx) (lfx x hf)
    · rcases List.mem_append.mp hw with hw | hw
      · exact S.ap x (.inr ⟨w, hw, hx⟩) (lfx x hf)
      · rw [List.mem_singleton.mp hw] at hx
        rcases hx with rfl | rfl
        · exact ahL (lfx _ hf)
        · exact bhL hf
  · rw [List.map_append, List.map_append, S.mt]
    rfl
  · exact Nat.le_trans (List.length_filter_le _ _) S.zq
  · exact Nat.le_trans upG_len (Nat.succ_le_succ S.zm)
end
end My
namespace My
open PySem L2
open Blk (sg sg_inj sg_app)
section
variable {P : Program} {w : World} {K : PySem.W.Frag} {mg : Str → Option Value} {base : Heap}
theorem ifs_cut {t : TT} {A B C : TS} {D : Ends} {σ : St} {H : Hp} (P : Prop) (ht : ∀ Q : Bool → Hp → Prop, (P → Q true H) → (¬ P → Q false H) → t σ H Q) (hA : P → A { D with nx := C D } σ H) (hB : ¬ P → B { D with nx := C D } σ H) : tSeq (tIfS t A B) C D σ H := ht _ (fun p => by rw [if_pos rfl]; exact hA p) (fun p => by rw [if_neg (by decide)]; exact hB p)
theorem eqV_str (x y : Str) : eqV (.str x) (.str y) = decide (x = y) := by
  have := in_strs y [x]
  have e : inV (.str y) ([x].map V.str) = eqV (.str x) (.str y) := by
    first | rfl | (unfold inV; simp) | (show (eqV _ _ || false) = _; rw [Bool.or_false])
  rw [e] at this
  rw [this, Bool.eq_iff_iff, decide_eq_true_iff, decide_eq_true_iff, List.mem_singleton]
  exact ⟨Eq.symm, Eq.symm⟩
theorem count_two {l : List Str} {a : Str} : ∀ {W : List Str} {f : Str → Str} {n : Str}, W.Nodup → n ∈ W → f n = a → 1 < (W.map f).countP (fun z => decide (z = a)) → ∃ m ∈ W, m ≠ n ∧ f m = a := by
  intro W f n nd hn e h
  refine Classical.byContradiction fun z => ?_
  have z' : ∀ m ∈ W, m ≠ n → f m ≠ a := fun m hm nm e => z ⟨m, hm, nm, e⟩
  have : ∀ {W : List Str}, W.Nodup → (∀ m ∈ W, m ≠ n → f m ≠ a) → (W.map f).countP (fun z => decide (z = a)) ≤ 1 := by
    intro W
    induction W with
    | nil => intro _ _; exact Nat.zero_le _
    | cons m r ih =>
      intro nd h
      rw [List.nodup_cons] at nd
      rw [List.map_cons, List.countP_cons]
      by_cases c : m = n
      · subst c
        have : (r.map f).countP (fun z => decide (z = a)) = 0 := by
          rw [List.countP_eq_zero]
          intro y hy
          obtain ⟨m', hm', rfl⟩ := List.mem_map.mp hy
          rw [decide_eq_true_iff]
          exact h m' (List.mem_cons_of_mem _ hm') fun z => nd.1 (by rw [← z]; exact hm')
        rw [this]
        split <;> omega
      · have := ih nd.2 fun m' hm' => h m' (List.mem_cons_of_mem _ hm')
        rw [decide_eq_false (h m List.mem_cons_self c)]
        exact this
  have := this nd z'
  omega
theorem has_pull {D : LD} {n : Str} (h : ∃ m ∈ kys D.qu, m ≠ n ∧ ownD D m = ownD D n) (x : Str) : hasW { D with qu := dropG D.qu n } x = true ↔ hasW D x = true := by
  rw [hasW_iff, hasW_iff]
  constructor
  · rintro ⟨m, hm, e⟩
    exact ⟨m, (dropG_mem.mp hm).1, e⟩
  · rintro ⟨m, hm, e⟩
    by_cases c : m = n
    · obtain ⟨m', h1, h2, h3⟩ := h
      exact ⟨m', dropG_mem.mpr ⟨h1, h2⟩, by show ownD D m' = x; rw [h3, ← c]; exact e⟩
    · exact ⟨m, dropG_mem.mpr ⟨hm, c⟩, e⟩
def sp__law_done (_ : PySem.W.Frag) (cL tP : Addr) : Sp := fun vs H Q _ => ∃ (L : LA) (M : MC) (most : Int) (D : LD) (jbs : List (Str × Addr)) (tks : List Tk) (trs : List Tr) (ss : List Str) (n k : Nat) (c : Int) (kk : Nat), vs = [.ref L.x, .ref M.m, .int c, .int (kk : Int)] ∧ LS cL tP H L M most D jbs tks trs ss n k ∧ n ≤ 60 ∧ k ≤ 92 ∧ kk ≤ 100 ∧ ∀ D' jbs' tks' trs' H', LS cL tP H' L M most D' jbs' tks' trs' ss (n + 1) (k + 2) → Deed tP L M D D' H H' → Q (.bl true) H'
theorem sc__law_done : FnScope ["_law_line", "_law_m", "_law_cell", "_law_k", "_law_way", "_law_name"] ["_law_line", "_law_m", "_law_cell", "_law_k"] (defScope s__law_done) := ⟨rfl, rfl, rfl, by decide +kernel, rfl, by decide +kernel, by decide +kernel⟩
theorem ok__law_done {fa cLine cUnknown cTwice cHallError tP_first_of : Addr} {fd : FuncData} (F : Fun K "_law_done" "_law_done" s__law_done fa fd) (T : Txt K mg cLine cUnknown cTwice cHallError tP_first_of) (D__law_mix : Dfn P w K mg base 1 "_law_mix" ["_law_cell", "_law_k", "_law_many"] (sp__law_mix K)) (D__law_lay : Dfn P w K mg base 5 "_law_lay" ["_law_line", "_law_m", "_law_cell", "_law_k"] (sp__law_lay K cLine tP_first_of)) (D__law_take : Dfn P w K mg base 5 "_law_take" ["_law_line", "_law_m", "_law_cell", "_law_k"] (sp__law_take K cLine tP_first_of)) (D_Line_pull : MtE P w K mg base 4 "pull" cLine ["self", "name"] (sp_Ln_pull cLine cUnknown)) :
    FnOk P w K mg base CX0 6 fa fd ["_law_line", "_law_m", "_law_cell", "_law_k"] (sp__law_done K cLine tP_first_of) := by
  refine F.ok sc__law_done (fun vs H Q E h => ?_) (fun cdv A outer s H vs Q E hr h => ?_)
  · obtain ⟨L, M, most, D, jbs, tks, trs, ss, n, k, c, kk, rfl, _⟩ := h
    rfl
  obtain ⟨L, M, most, D, jbs, tks, trs, ss, n, k, c, kk, rfl, S, n6, k9, kk3, q⟩ := h
  have hu := hu_n hr 0 (by decide)
  have hu0 := hr.units0
  refine ⟨_, (pss_cons (ps_set (i := 4) sc__law_done.nd rfl (by first | exact Or.inl rfl | exact Or.inr rfl) (pe_callD D__law_mix (hr.mono (by decide)) rfl (pa_cons (pv 2) (pa_cons (pv 3) (pa_cons pe_int pa_nil)))))
  (pss_cons (ps_if (PW.pt (pw_or (pt_cmpR op_lt (pv 4) pe_int (nomark _)) (pw_or1 (pt_cmpR op_eq (pe_callB call_len_seq rfl T.len PySem.boot_len (pa_cons (pe_dget hu (pv 1) pe_str (fun _ _ => rfl)) pa_nil)) pe_int (nomark _))))) (pss_cons (ps_expr (pe_callD D__law_lay (hr.mono (by decide)) rfl (pa_cons (pv 0) (pa_cons (pv 1) (pa_cons (pv 2) (pa_cons (pv 3) pa_nil))))))
  (pss_cons (ps_if (pt_cmpR op_eq (pe_op op_mod (pv 4) pe_int) pe_int (nomark _)) (pss_one (ps_expr (pe_callD D__law_lay (hr.mono (by decide)) rfl (pa_cons (pv 0) (pa_cons (pv 1) (pa_cons (pv 2) (pa_cons (pe_op op_add (pv 3) pe_int) pa_nil))))))) pss_nil)
  (pss_one (ps_ret pe_bl)))) pss_nil)
  (pss_cons (ps_if (pt_cmpR op_lt (pv 4) pe_int (nomark _)) (pss_one (ps_ret (pe_callD D__law_take (hr.mono (by decide)) rfl (pa_cons (pv 0) (pa_cons (pv 1) (pa_cons (pv 2) (pa_cons (pv 3) pa_nil))))))) pss_nil)
  (pss_cons (ps_set (i := 5) sc__law_done.nd rfl (by first | exact Or.inl rfl | exact Or.inr rfl) (pe_ix ix_listA (pe_dget hu (pv 1) pe_str (fun _ _ => rfl)) (pe_callD D__law_mix (hr.mono (by decide)) rfl (pa_cons (pv 2) (pa_cons (pe_op op_add (pv 3) pe_int) (pa_cons (pe_callB call_len_seq rfl T.len PySem.boot_len (pa_cons (pe_dget hu (pv 1) pe_str (fun _ _ => rfl)) pa_nil)) pa_nil)))) (fun _ _ => rfl)))
  (pss_cons (ps_if (pt_cmpR op_gt (pe_bm PySem.F.plainAttrs_list PySem.F.slot_list_count PySem.F.type_list_count mt_count (pe_comp (frees := [("_law_m", 1)]) ⟨by decide +kernel, rfl, rfl, by decide +kernel, ⟨⟨rfl, rfl, rfl, by decide +kernel⟩, trivial⟩, by decide +kernel, cellsFor_at rfl, rfl⟩ rfl (pi_list (pe_dget hu (pv 1) pe_str (fun _ _ => rfl))) (fun _ _ _ _ => pifs_nil) (fun _ _ _ _ => by exact (pe_ixK (K := K) (r := rIxT) rfl ix_tup (pe_dget hu (pe_dget hu (pv 1) pe_str (fun _ _ => rfl)) (pv 0) (fun _ _ => rfl)) pe_int (fun _ _ => rfl)))) (pa_cons (pe_ix ix_tup (pe_dget hu (pe_dget hu (pv 1) pe_str (fun _ _ => rfl)) (pv 5) (fun _ _ => rfl)) pe_int (fun _ _ => rfl)) pa_nil)) pe_int (nomark _)) (pss_cons (ps_expr (pe_bm PySem.F.plainAttrs_list PySem.F.slot_list_remove PySem.F.type_list_remove mt_remove (pe_dget hu (pv 1) pe_str (fun _ _ => rfl)) (pa_cons (pv 5) pa_nil)))
  (pss_one (ps_expr (pe_methE 4 passE0 (hr.mono (by decide)) (pv 0) (pa_cons (pv 5) pa_nil))))) pss_nil)
  (pss_one (ps_ret pe_bl))))))), ?_⟩
  refine ⟨_, rfl, _, rfl, c, _, _, rfl, by omega, by omega, by decide, fun H2 s2 => ?_⟩
  have S2 := S.same s2
  generalize mixV c (kk : Int) 16 = w
  have lq : (((kys D.qu).map V.str).length : Int) = (D.qu.length : Int) := by unfold kys; rw [List.length_map, List.length_map]
  have zq := S.zq
  have pre : ∀ {D' : LD} {H' : Hp}, Deed tP_first_of L M D D' H2 H' → Deed tP_first_of L M D D' H H' := fun d => ⟨fun b o n1 n2 n3 e => d.1 b o n1 n2 n3 (s2 _ _ e), fun b o hb e => d.2 b o hb (s2 _ _ e)⟩
  dsimp only [gName]
  refine ifs_cut (w < 7 ∨ D.qu.length = 0) (fun R qt qf => ?_) (fun cc => ?_) (fun cc => ?_)
  · by_cases c1 : w < 7
    · exact ⟨_, rfl, _, _, rfl, rfl, _, rfl, iteYes c1 (qt (.inl c1))⟩
    by_cases c2 : D.qu.length = 0
    · exact ⟨_, rfl, _, _, rfl, rfl, _, rfl, iteNo c1 ⟨_, rfl, M.m, _, rfl, S2.A.get.2.2.2.1, M.wt, _, rfl, .inl (SqL.of S2.A.wt), rfl, true, (by rw [lq, c2]; rfl), qt (.inr c2)⟩⟩
    · exact ⟨_, rfl, _, _, rfl, rfl, _, rfl, iteNo c1 ⟨_, rfl, M.m, _, rfl, S2.A.get.2.2.2.1, M.wt, _, rfl, .inl (SqL.of S2.A.wt), rfl, false, (by rw [lq, decide_eq_false (fun z => c2 (by injection z with z; omega))]), qf (fun z => z.elim c1 c2)⟩⟩
  · refine ⟨_, rfl, _, rfl, _, rfl, _, rfl, L, M, most, D, jbs, tks, trs, ss, n, k, c, kk, rfl, S2, n6, by omega, by omega, fun D3 jbs3 H3 S3 d3 => ?_⟩
    refine ⟨_, rfl, _, _, rfl, rfl, (by show (0 : Int) < 2; decide), rfl, _, rfl, ite2 (fun _ => ?_) (fun _ => ?_)⟩
    · refine ⟨_, rfl, _, rfl, _, rfl, _, rfl, _, _, rfl, rfl, L, M, most, D3, jbs3, tks, trs, ss, n, k + 1, c, kk + 90, rfl, S3, n6, by omega, by omega, fun D4 jbs4 H4 S4 d4 => ?_⟩
      exact q D4 jbs4 tks trs H4 (S4.up (by omega) (by omega)) (pre (d3.trans d4 S3.tab S3.A S3.N fun b o h _ => h))
    · exact q D3 jbs3 tks trs H3 (S3.up (by omega) (by omega)) (pre d3)
  have c1 : ¬ w < 7 := fun z => cc (.inl z)
  have c2 : ¬ D.qu.length = 0 := fun z => cc (.inr z)
  have lk : (kys D.qu).length = D.qu.length := by unfold kys; rw [List.length_map]
  by_cases c3 : w < 15
  · refine ⟨_, rfl, _, _, rfl, rfl, _, rfl, iteYes c3 ?_⟩
    exact ⟨_, rfl, _, rfl, _, rfl, _, rfl, L, M, most, D, jbs, tks, trs, ss, n, k, c, kk, rfl, S2, n6, by omega, by omega, by omega, fun D' tks' trs' H' S' d' => q D' jbs tks' trs' H' (S'.up (Nat.le_refl _) (by omega)) (pre d')⟩
  refine ⟨_, rfl, _, _, rfl, rfl, _, rfl, iteNo c3 ?_⟩
  have lpos : 0 < (((kys D.qu).map V.str).length : Int) := by omega
  refine ⟨_, rfl, M.m, _, rfl, S2.A.get.2.2.2.1, _, rfl, _, rfl, _, _, rfl, rfl, _, rfl, M.m, _, rfl, S2.A.get.2.2.2.1, M.wt, _, rfl, .inl (SqL.of S2.A.wt), c, _, _, rfl, by omega, by omega, lpos, fun H3 s3 => ?_⟩
  have S3 := S2.same s3
  refine ⟨M.wt, _, _, rfl, rfl, SqL.of S3.A.wt, mix_lo lpos, mix_hi lpos, fun v hv => ?_⟩
  rw [List.getElem?_map] at hv
  obtain ⟨nm, hj, rfl⟩ := Option.map_eq_some_iff.mp hv
  have pq := List.mem_of_getElem? hj
  refine ⟨_, rfl, M.m, _, rfl, S3.A.get.2.2.2.1, M.wt, rfl, ⟨_, SqL.of S3.A.wt⟩, ?_⟩
  refine compB_seq (seq_list (K := K) (SqL.of S3.A.wt)) (fun _ => true) (fun v => match v with | .str n => .str (ownD D n) | _ => .non) (by unfold kys; rw [List.length_map, List.length_map]; exact small1000 (by omega)) (fun x _ H' R _ rr => rr) (fun v hv H' R sx _ rr => ?_) (fun C H4 s4 nC hC => ?_)
  · obtain ⟨m, hm, rfl⟩ := List.mem_map.mp hv
    obtain ⟨c', eo, ec, _⟩ := S.O.owner (S.O.qo m hm)
    have A' := S3.A.same sx
    obtain ⟨t', gt', ht'⟩ := A'.job eo ec
    exact ⟨_, rfl, M.m, _, rfl, A'.get.2.2.1, _, rfl, M.jb, _, rfl, gt', t', _, 0, _, rfl, rfl, SqT.of ht', rfl, rr⟩
  rw [List.filter_eq_self.mpr (fun _ _ => rfl), List.map_map] at hC
  have hC' : H4 C = some (.lst (((kys D.qu).map (ownD D)).map V.str)) := by rw [hC, List.map_map]; rfl
  have S4 := S3.same s4
  obtain ⟨cn, eo, ec, _⟩ := S.O.owner (S.O.qo nm pq)
  obtain ⟨t', gt', ht'⟩ := S4.A.job eo ec
  refine ⟨.inl ⟨rfl, _, SqL.of hC'⟩, _, rfl, M.m, _, rfl, S4.A.get.2.2.1, _, rfl, M.jb, _, rfl, gt', t', _, 0, _, rfl, rfl, SqT.of ht', rfl, C, _, _, rfl, rfl, hC', flat_strs _, rfl, _, _, rfl, rfl, _, rfl, ite2 (fun cd => ?_) (fun _ => ?_)⟩
  · have cd' : (1 : Int) < (((((kys D.qu).map (ownD D)).map V.str).countP fun z => eqV z (.str (ownD D nm)) : Nat) : Int) := of_decide_eq_true cd
    have ecp : ((((kys D.qu).map (ownD D)).map V.str).countP fun z => eqV z (.str (ownD D nm))) = ((kys D.qu).map (ownD D)).countP fun z => decide (z = ownD D nm) := by
      rw [List.countP_map]
      refine congrArg (fun f => List.countP f _) (funext fun z => ?_)
      exact eqV_str z (ownD D nm)
    rw [ecp] at cd'
    have two := count_two (l := []) (W := kys D.qu) (f := ownD D) (a := ownD D nm) (n := nm) S.O.qn pq rfl (by omega)
    refine ⟨_, rfl, M.m, _, rfl, S4.A.get.2.2.2.1, .inl ⟨rfl, _, SqL.of S4.A.wt⟩, _, rfl, M.wt, kys D.qu, nm, _, rfl, rfl, S4.A.wt, by omega, hj, fun m hm e => ne8 S.O.qn e hj (by omega) rfl, ?_⟩
    rw [erase_nd S.O.qn hj, ← dropG_kys]
    have A5 := S4.A.set_wt (dropG D.qu nm)
    have o5 : OffM M H4 (upd H4 M.wt (.lst ((kys (dropG D.qu nm)).map V.str))) := (OffM.of (Same.refl _)).set (List.mem_of_getElem? (i := 4) rfl) _
    generalize upd H4 M.wt (.lst ((kys (dropG D.qu nm)).map V.str)) = H5 at A5 o5 ⊢
    have N5 := S4.N.offM S4.A (fun b hb => S.ap b (.inl hb)) o5
    refine ⟨_, rfl, L.x, _, L.dx, _, _, _, rfl, N5.o, rfl, T.cl_Line, D_Line_pull, _, rfl, L, D, nm, rfl, N5, fun _ H6 o6 w6 N6 => ?_, fun h => absurd pq h⟩
    have lk6 : Link D { D with qu := dropG D.qu nm } := ⟨fun x _ => Int.le_refl _, fun x _ => rfl, fun x hx => (has_pull two x).mpr hx, rfl, rfl⟩
    refine q { D with qu := dropG D.qu nm } jbs tks trs H6 ⟨N6, A5.keep N5 S.ap (fun x o nb _ e => o6 x o nb e), S.O.pull, tab_off N5 (tab_offM S4.A S4.tab o5) o6, fun x hx hf => S.ap x hx hf, S.pm, S.sr, S.s0, S.s6, S.sb, S.cb, S.m0, fun x hx => ⟨(S.bd x hx).1, fun hw => (S.bd x hx).2 ((has_pull two x).mp hw)⟩, S.ch.link lk6, S.mt, S.jk, Nat.le_trans S.zo (by omega), Nat.le_trans (List.length_filter_le _ _) (Nat.le_trans S.zq (by omega)), Nat.le_trans S.zm (by omega), fun e he => Nat.le_succ_of_le (S.zn e he), Nat.le_succ_of_le S.zt⟩ (pre ⟨fun x o n1 n2 n3 e => o6 x o n3 (o5 x o n2 (s4 _ _ (s3 _ _ e))), fun x o h _ => h⟩)
  · exact q D jbs tks trs H4 (S4.up (by omega) (by omega)) (pre ⟨fun x o n1 n2 n3 e => s4 _ _ (s3 _ _ e), fun x o h _ => h⟩)
end
end My
namespace My
open PySem L2
open Blk (sg sg_inj sg_app)
section
variable {P : Program} {w : World} {K : PySem.W.Frag} {mg : Str → Option Value} {base : Heap}
theorem g_eq {D D' : LD} (h : D'.sh = D.sh) (x : Str) : gF D' x = gF D x := by unfold gF; rw [h]
theorem r_eq {D D' : LD} (h : D'.ra = D.ra) (x : Str) : raF D' x = raF D x := by unfold raF; rw [h]
def InvB (trs : List Tr) (D : LD) (x y : Str) (st t : Nat) (p q : Int) : Prop := (t = 0 ∧ p = 0 ∧ q = 0) ∨ ∃ e0 e, 0 < t ∧ trs[st]? = some e0 ∧ trs[st + t - 1]? = some e ∧ hasW e0.D0 x = true ∧ hasW e0.D0 y = true ∧ hasW e.D1 x = true ∧ hasW e.D1 y = true ∧ p * gF D x = lvF e.D1 x - lvF e0.D0 x ∧ q * gF D y = lvF e.D1 y - lvF e0.D0 y
theorem lv_one {D : LD} {most : Int} {e : Tr} (K : Took e most) (hs : e.D0.sh = D.sh) (x : Str) : lvF e.D1 x = lvF e.D0 x + (if e.mine = x then e.pr else 0) * gF D x := by
  rw [K.lv x, g_eq hs]
  by_cases c : x = e.mine
  · rw [if_pos c, if_pos c.symm]
  · rw [if_neg c, if_neg (fun z => c z.symm), Int.zero_mul]
theorem both_step {trs : List Tr} {D : LD} {most : Int} (C : Chn trs D most) {x y : Str} (hx : x ∈ kys D.ra) (hy : y ∈ kys D.ra) (hr : raF D x = raF D y) {st t : Nat} {p q : Int} (I : InvB trs D x y st t p q) {e : Tr} (he : trs[st + t]? = some e) (a1 : hasW e.D0 x = true) (a2 : hasW e.D0 y = true) (b1 : hasW e.D1 x = true) (b2 : hasW e.D1 y = true) : InvB trs D x y st (t + 1) (p + if e.mine = x then e.pr else 0) (q + if e.mine = y then e.pr else 0) ∧ (p + if e.mine = x then e.pr else 0) * gF D x - (q + if e.mine = y then e.pr else 0) * gF D y ≤ most * gF D x + most * gF D y ∧ (q + if e.mine = y then e.pr else 0) * gF D y - (p + if e.mine = x then e.pr else 0) * gF D x ≤ most * gF D y + most * gF D x := by
  obtain ⟨K, era, esh⟩ := C.t e (List.mem_of_getElem? he)
  have lx := lv_one K esh x
  have ly := lv_one K esh y
  have key : ∃ e0, trs[st]? = some e0 ∧ hasW e0.D0 x = true ∧ hasW e0.D0 y = true ∧ (p + if e.mine = x then e.pr else 0) * gF D x = lvF e.D1 x - lvF e0.D0 x ∧ (q + if e.mine = y then e.pr else 0) * gF D y = lvF e.D1 y - lvF e0.D0 y := by
    rcases I with ⟨rfl, rfl, rfl⟩ | ⟨e0, e1, t0, h0, h1, w1, w2, w3, w4, ep, eq⟩
    · exact ⟨e, he, a1, a2, by rw [Int.zero_add, lx]; omega, by rw [Int.zero_add, ly]; omega⟩
    · have lk := C.l (st + t - 1) e1 e h1 (by rw [show st + t - 1 + 1 = st + t by omega]; exact he)
      have ex := lk.eq x w3
      have ey := lk.eq y w4
      refine ⟨e0, h0, w1, w2, ?_, ?_⟩
      · rw [Int.add_mul, ep, lx, ex]; omega
      · rw [Int.add_mul, eq, ly, ey]; omega
  obtain ⟨e0, h0, w1, w2, ep, eq⟩ := key
  obtain ⟨K0, era0, esh0⟩ := C.t e0 (List.mem_of_getElem? h0)
  have r1 : e.D1.ra = D.ra := K.ra.trans era
  have s1 : e.D1.sh = D.sh := K.sh.trans esh
  have u0 := apart_b K0.b0 (x := x) (y := y) (by rw [era0]; exact hx) (by rw [era0]; exact hy) w1 w2 (by rw [r_eq era0, r_eq era0]; exact hr)
  have u1 := apart_b K.b1 (x := x) (y := y) (by rw [r1]; exact hx) (by rw [r1]; exact hy) b1 b2 (by rw [r_eq r1, r_eq r1]; exact hr)
  rw [g_eq esh0, g_eq esh0] at u0
  rw [g_eq s1, g_eq s1] at u1
  refine ⟨.inr ⟨e0, e, Nat.succ_pos _, h0, by rw [show st + (t + 1) - 1 = st + t by omega]; exact he, w1, w2, b1, b2, ep, eq⟩, ?_, ?_⟩
  · rw [ep, eq]; omega
  · rw [ep, eq]; omega
def InvN (trs : List Tr) (D : LD) (most : Int) (x y : Str) (st t : Nat) (q : Int) : Prop := (t = 0 ∧ q = 0) ∨ ∃ e, 0 < t ∧ trs[st + t - 1]? = some e ∧ hasW e.D1 x = true ∧ (q = 0 ∨ ∃ lf, lvF e.D1 x ≤ lf + most * gF D x ∧ lf + q * gF D y ≤ lvF e.D1 y)
theorem not_step {trs : List Tr} {D : LD} {most : Int} (C : Chn trs D most) (m0 : 0 ≤ most) {x y : Str} (hx : x ∈ kys D.ra) (hy : y ∈ kys D.ra) (hr : raF D x = raF D y) (gx : 0 ≤ gF D x) (gy : 0 ≤ gF D y) {st t : Nat} {q : Int} (I : InvN trs D most x y st t q) (qb : q * gF D y ≤ most * gF D x + most * gF D y) {e : Tr} (he : trs[st + t]? = some e) (a1 : hasW e.D0 x = true) (nm : e.mine ≠ x) (b1 : hasW e.D1 x = true) : InvN trs D most x y st (t + 1) (q + if e.mine = y then e.pr else 0) ∧ (q + if e.mine = y then e.pr else 0) * gF D y ≤ most * gF D x + most * gF D y := by
  obtain ⟨K, era, esh⟩ := C.t e (List.mem_of_getElem? he)
  have lx := lv_one K esh x
  rw [if_neg nm, Int.zero_mul, Int.add_zero] at lx
  have ly := lv_one K esh y
  have mx := Int.mul_nonneg m0 gx
  have my := Int.mul_nonneg m0 gy
  have pm := Int.mul_le_mul_of_nonneg_right K.p1 gy
  have at1 : trs[st + (t + 1) - 1]? = some e := by rw [show st + (t + 1) - 1 = st + t by omega]; exact he
  have prev : (q = 0 ∨ ∃ lf, lvF e.D0 x ≤ lf + most * gF D x ∧ lf + q * gF D y ≤ lvF e.D0 y) := by
    rcases I with ⟨_, h⟩ | ⟨e1, t0, h1, w1, h⟩
    · exact .inl h
    · rcases h with h | ⟨lf, h2, h3⟩
      · exact .inl h
      · obtain ⟨K1, era1, esh1⟩ := C.t e1 (List.mem_of_getElem? h1)
        have lk := C.l (st + t - 1) e1 e h1 (by rw [show st + t - 1 + 1 = st + t by omega]; exact he)
        have ex := lk.eq x w1
        have up := lk.up y (by rw [K1.ra, era1]; exact hy)
        exact .inr ⟨lf, by rw [ex]; exact h2, by omega⟩
  by_cases c : e.mine = y
  · rw [if_pos c] at ly ⊢
    have low := K.low x (by rw [era]; exact hx) a1 (by rw [c, r_eq era, r_eq era]; exact hr)
    rw [c] at low
    rw [Int.add_mul]
    rcases prev with rfl | ⟨lf, h2, h3⟩
    · have hb := K.b0 x (by rw [era]; exact hx)
      have hc := K.b0 y (by rw [era]; exact hy)
      have hm := hc.2 (by rw [← c]; exact K.has)
      have hn := hb.1
      rw [r_eq era, g_eq esh, hr] at hn
      rw [r_eq era] at hm
      refine ⟨.inr ⟨e, Nat.succ_pos _, at1, b1, .inr ⟨lvF e.D0 y, by rw [lx]; omega, by rw [Int.zero_add, ly]; omega⟩⟩, by rw [Int.zero_mul]; omega⟩
    · refine ⟨.inr ⟨e, Nat.succ_pos _, at1, b1, .inr ⟨lf, by rw [lx]; exact h2, by rw [Int.add_mul, ly]; omega⟩⟩, by omega⟩
  · rw [if_neg c, Int.zero_mul, Int.add_zero] at ly
    rw [if_neg c, Int.add_zero]
    refine ⟨.inr ⟨e, Nat.succ_pos _, at1, b1, ?_⟩, qb⟩
    rcases prev with h | ⟨lf, h2, h3⟩
    · exact .inl h
    · exact .inr ⟨lf, by rw [lx]; exact h2, by rw [ly]; exact h3⟩
end
end My
namespace My
open PySem L2
open Blk (sg sg_inj sg_app)
section
variable {P : Program} {w : World} {K : PySem.W.Frag} {mg : Str → Option Value} {base : Heap}
theorem cut_from44 (xs : List V) (k : Nat) (h : k ≤ xs.length) : cutV xs (some (k : Int)) none = xs.drop k := by
  unfold cutV
  rw [HT.sIx_nat, HT.sIx_none, Nat.min_eq_left h]
  exact List.take_of_length_le (by rw [List.length_drop]; exact Nat.le_refl _)
structure FA (H : Hp) (M : MC) (most : Int) (D : LD) (jbs : List (Str × Addr)) (tks : List Tk) (trs : List Tr) (ss : List Str) : Prop where
  A : LC H M most D jbs tks
  pm : List.Perm ss (kys D.ra)
  sr : PyProof.Rows.sortedS ss = true
  s6 : ss.length ≤ 6
  sk : kys D.sh = kys D.ra
  sb : ∀ p ∈ D.sh, 0 < p.2 ∧ p.2 ≤ 10
  m0 : 1 ≤ most
  ch : Chn trs D most
  mt : (trs.map fun e => (e.mine, e.pr, ss.map (hasW e.D0), ss.map (hasW e.D1))) = tks.map fun u => (u.mine, u.pr, u.fa, u.fb)
  zt : tks.length ≤ 100
theorem FA.same {H H' : Hp} {M : MC} {most : Int} {D : LD} {jbs : List (Str × Addr)} {tks : List Tk} {trs : List Tr} {ss : List Str} (F : FA H M most D jbs tks trs ss) (s : Same H H') : FA H' M most D jbs tks trs ss := ⟨F.A.same s, F.pm, F.sr, F.s6, F.sk, F.sb, F.m0, F.ch, F.mt, F.zt⟩
theorem FA.at {H : Hp} {M : MC} {most : Int} {D : LD} {jbs : List (Str × Addr)} {tks : List Tk} {trs : List Tr} {ss : List Str} (F : FA H M most D jbs tks trs ss) {i : Nat} {u : Tk} (h : tks[i]? = some u) : ∃ e, trs[i]? = some e ∧ u.mine = e.mine ∧ u.pr = e.pr ∧ u.fa = ss.map (hasW e.D0) ∧ u.fb = ss.map (hasW e.D1) := by
  have h1 : (tks.map fun u => (u.mine, u.pr, u.fa, u.fb))[i]? = some (u.mine, u.pr, u.fa, u.fb) := by rw [List.getElem?_map, h]; rfl
  rw [← F.mt, List.getElem?_map] at h1
  obtain ⟨e, he, ee⟩ := Option.map_eq_some_iff.mp h1
  injection ee with e1 e2
  injection e2 with e2 e3
  injection e3 with e3 e4
  exact ⟨e, he, e1.symm, e2.symm, e3.symm, e4.symm⟩
theorem FA.sh {H : Hp} {M : MC} {most : Int} {D : LD} {jbs : List (Str × Addr)} {tks : List Tk} {trs : List Tr} {ss : List Str} (F : FA H M most D jbs tks trs ss) {x : Str} (h : x ∈ ss) : x ∈ kys D.ra ∧ ∃ v, lkG D.sh x = some v ∧ 0 < v ∧ v ≤ 10 ∧ v * gF D x = 2520 := by
  have hx := F.pm.mem_iff.mp h
  obtain ⟨v, ev⟩ := lkG_some (show x ∈ D.sh.map (·.1) by have := hx; rw [← F.sk] at this; exact this)
  obtain ⟨v0, v1⟩ := F.sb _ (lkG_mem ev)
  exact ⟨hx, v, ev, v0, v1, by unfold gF; rw [ev]; exact g_mul v0 v1⟩
theorem pickB {ss : List Str} {f : Str → Bool} {i : Nat} {x : Str} (hx : ss[i]? = some x) {v : V} (h : ((ss.map f).map V.bl)[((i : Nat) : Int).toNat]? = some v) : v = .bl (f x) := by
  rw [Int.toNat_natCast, List.map_map, List.getElem?_map, hx] at h
  exact (Option.some.inj h).symm
theorem pickS {ss : List Str} {i : Nat} {x : Str} (hx : ss[i]? = some x) {v : V} (h : (ss.map V.str)[((i : Nat) : Int).toNat]? = some v) : v = .str x := by
  rw [Int.toNat_natCast, List.getElem?_map, hx] at h
  exact (Option.some.inj h).symm
def sp__law_both_fair (_ : PySem.W.Frag) : Sp := fun vs H Q _ => ∃ (M : MC) (most : Int) (D : LD) (jbs : List (Str × Addr)) (tks : List Tk) (trs : List Tr) (ss : List Str) (i j st : Nat) (x y : Str), vs = [.ref M.m, .int (i : Int), .int (j : Int), .int (st : Int)] ∧ FA H M most D jbs tks trs ss ∧ ss[i]? = some x ∧ ss[j]? = some y ∧ raF D x = raF D y ∧ st ≤ tks.length ∧ ∀ H', Same H H' → Q (.bl true) H'
theorem sc__law_both_fair : FnScope ["_law_m", "_law_i", "_law_j", "_law_start", "_law_askers", "_law_v", "_law_w", "_law_p", "_law_q", "_law_mine", "_law_price", "_law_ahead", "_law_behind"] ["_law_m", "_law_i", "_law_j", "_law_start"] (defScope s__law_both_fair) := ⟨rfl, rfl, rfl, by decide +kernel, rfl, by decide +kernel, by decide +kernel⟩
theorem ok__law_both_fair {fa cLine cUnknown cTwice cHallError tP_first_of : Addr} {fd : FuncData} (F : Fun K "_law_both_fair" "_law_both_fair" s__law_both_fair fa fd) (T : Txt K mg cLine cUnknown cTwice cHallError tP_first_of)  :
    FnOk P w K mg base CX0 1 fa fd ["_law_m", "_law_i", "_law_j", "_law_start"] (sp__law_both_fair K) := by
  refine F.ok sc__law_both_fair (fun vs H Q E h => ?_) (fun cdv A outer s H vs Q E hr h => ?_)
  · obtain ⟨M, most, D, jbs, tks, trs, ss, i, j, st, x, y, rfl, _⟩ := h
    rfl
  obtain ⟨M, most, D, jbs, tks, trs, ss, i, j, st, x, y, rfl, F, ex, ey, rxy, lst, q⟩ := h
  have hu := hu_n hr 0 (by decide)
  refine ⟨_, (pss_cons (ps_set (i := 4) sc__law_both_fair.nd rfl (by first | exact Or.inl rfl | exact Or.inr rfl) (pe_callB (call_sorted_d rfl) rfl T.sorted bt_sorted (pa_cons (pe_dget hu (pv 0) pe_str (fun _ _ => rfl)) pa_nil)))
  (pss_cons (ps_set (i := 5) sc__law_both_fair.nd rfl (by first | exact Or.inl rfl | exact Or.inr rfl) (pe_dget hu (pe_dget hu (pv 0) pe_str (fun _ _ => rfl)) (pe_ix ix_listA (pv 4) (pv 1) (fun _ _ => rfl)) (fun _ _ => rfl)))
  (pss_cons (ps_set (i := 6) sc__law_both_fair.nd rfl (by first | exact Or.inl rfl | exact Or.inr rfl) (pe_dget hu (pe_dget hu (pv 0) pe_str (fun _ _ => rfl)) (pe_ix ix_listA (pv 4) (pv 2) (fun _ _ => rfl)) (fun _ _ => rfl)))
  (pss_cons (ps_set (i := 7) sc__law_both_fair.nd rfl (by first | exact Or.inl rfl | exact Or.inr rfl) pe_int)
  (pss_cons (ps_set (i := 8) sc__law_both_fair.nd rfl (by first | exact Or.inl rfl | exact Or.inr rfl) pe_int)
  (pss_cons (ps_for PassesOwn.never rfl (pi_list (pe_slice sl_list (pe_dget hu (pv 0) pe_str (fun _ _ => rfl)) (po_some (pv 3)) po_none)) (pg_tup rfl (pgs_cons (pg_name (i := 9) sc__law_both_fair.nd rfl (by first | exact Or.inl rfl | exact Or.inr rfl)) (pgs_cons (pg_name (i := 10) sc__law_both_fair.nd rfl (by first | exact Or.inl rfl | exact Or.inr rfl)) (pgs_cons (pg_name (i := 11) sc__law_both_fair.nd rfl (by first | exact Or.inl rfl | exact Or.inr rfl)) (pgs_cons (pg_name (i := 12) sc__law_both_fair.nd rfl (by first | exact Or.inl rfl | exact Or.inr rfl)) pgs_nil)))))
  (pss_cons (ps_if (PW.pt (pw_or (pt_not (pt_truth (pe_ix ix_listA (pv 11) (pv 1) (fun _ _ => rfl)) (fun _ => rfl))) (pw_or (pt_not (pt_truth (pe_ix ix_listA (pv 11) (pv 2) (fun _ _ => rfl)) (fun _ => rfl))) (pw_or (pt_not (pt_truth (pe_ix ix_listA (pv 12) (pv 1) (fun _ _ => rfl)) (fun _ => rfl))) (pw_or1 (pt_not (pt_truth (pe_ix ix_listA (pv 12) (pv 2) (fun _ _ => rfl)) (fun _ => rfl)))))))) (pss_one (ps_ret pe_bl)) pss_nil)
  (pss_cons (ps_if (pt_cmpR op_eq (pv 9) (pe_ix ix_listA (pv 4) (pv 1) (fun _ _ => rfl)) (nomark _)) (pss_one (ps_set (i := 7) sc__law_both_fair.nd rfl (by first | exact Or.inl rfl | exact Or.inr rfl) (pe_op op_add (pv 7) (pv 10)))) pss_nil)
  (pss_cons (ps_if (pt_cmpR op_eq (pv 9) (pe_ix ix_listA (pv 4) (pv 2) (fun _ _ => rfl)) (nomark _)) (pss_one (ps_set (i := 8) sc__law_both_fair.nd rfl (by first | exact Or.inl rfl | exact Or.inr rfl) (pe_op op_add (pv 8) (pv 10)))) pss_nil)
  (pss_one (ps_if (pt_cmpR op_gt (pe_callB call_abs rfl T.abs bt_abs (pa_cons (pe_op op_sub (pe_op op_mul (pv 7) (pv 6)) (pe_op op_mul (pv 8) (pv 5))) pa_nil)) (pe_op op_mul (pe_dget hu (pv 0) pe_str (fun _ _ => rfl)) (pe_op op_add (pv 5) (pv 6))) (nomark _)) (pss_one (ps_ret pe_bl)) pss_nil))))))
  (pss_one (ps_ret pe_bl)))))))), ?_⟩
  have la : (kys D.ra).length < 64 := by
    rw [← F.pm.length_eq]
    have := F.s6
    omega
  have li := (List.getElem?_eq_some_iff.mp ex).1
  have lj := (List.getElem?_eq_some_iff.mp ey).1
  obtain ⟨hxr, v, ev, v0, v1, vg⟩ := F.sh (List.mem_of_getElem? ex)
  obtain ⟨hyr, w, ew, w0, w1, wg⟩ := F.sh (List.mem_of_getElem? ey)
  have m0 := F.m0
  refine ⟨_, rfl, M.m, _, rfl, F.A.get.1, M.rk, _, kys D.ra, rfl, F.A.rk, dG_kV, la, fun l ss' nl pm' sr' => ?_⟩
  obtain rfl : ss' = ss := sorted_uniq (pm'.trans F.pm.symm) sr' F.sr
  have s1 := same_new nl (.lst (ss'.map V.str))
  have hl : upd H l (.lst (ss'.map V.str)) l = some (.lst (ss'.map V.str)) := upd_same
  generalize upd H l (.lst (ss'.map V.str)) = H1 at s1 hl ⊢
  have F1 := F.same s1
  have gx := dget_dG inr_inj F1.A.sh x
  rw [ev] at gx
  have gy := dget_dG inr_inj F1.A.sh y
  rw [ew] at gy
  refine ⟨_, rfl, M.m, _, rfl, F1.A.get.2.1, _, rfl, _, rfl, l, _, _, rfl, rfl, SqL.of hl, by omega, by rw [List.length_map]; omega, fun z hz => ?_⟩
  obtain rfl := pickS ex hz
  refine ⟨M.sh, _, rfl, gx, ?_⟩
  refine ⟨_, rfl, M.m, _, rfl, F1.A.get.2.1, _, rfl, _, rfl, l, _, _, rfl, rfl, SqL.of hl, by omega, by rw [List.length_map]; omega, fun z hz => ?_⟩
  obtain rfl := pickS ey hz
  refine ⟨M.sh, _, rfl, gy, ?_⟩
  refine ⟨_, rfl, M.m, _, rfl, F1.A.get.2.2.2.2.1, _, rfl, _, rfl, M.tk, _, rfl, SqL.of F1.A.tk, fun sl nsl => ?_⟩
  rw [cut_from44 _ _ (by rw [List.length_map]; exact lst), ← List.map_drop]
  have s2 := same_new nsl (.lst ((tks.drop st).map fun u => V.ref u.t))
  have hsl : upd H1 sl (.lst ((tks.drop st).map fun u => V.ref u.t)) sl = some (.lst ((tks.drop st).map fun u => V.ref u.t)) := upd_same
  generalize upd H1 sl (.lst ((tks.drop st).map fun u => V.ref u.t)) = H2 at s2 hsl ⊢
  have F2 := F1.same s2
  have hl2 := s2 _ _ hl
  have s12 := s1.trans s2
  refine ⟨sl, rfl, ⟨_, SqL.of hsl⟩, for_list (K := K) (a := sl) (xs := (tks.drop st).map fun u => V.ref u.t) (fun t σ G => G = H2 ∧ ∃ (p r : Int) (v9 v10 v11 v12 : Option V), InvB trs D x y st t p r ∧ σ = [some (.ref M.m), some (.int (i : Int)), some (.int (j : Int)), some (.int (st : Int)), some (.ref l), some (.int v), some (.int w), some (.int p), some (.int r), v9, v10, v11, v12]) ⟨rfl, 0, 0, _, _, _, _, .inl ⟨rfl, rfl, rfl⟩, rfl⟩ (fun t σ G _ z => by rw [z.1]; exact SqL.of hsl) (fun t yv σ G hy z => ?_) (fun σ G z => ?_)⟩
  · obtain ⟨rfl, p, r, v9, v10, v11, v12, I, rfl⟩ := z
    rw [List.getElem?_map] at hy
    obtain ⟨u, eu, rfl⟩ := Option.map_eq_some_iff.mp hy
    rw [List.getElem?_drop] at eu
    obtain ⟨e, he, f1, f2, f3, f4⟩ := F.at eu
    obtain ⟨hut, hah, hbh⟩ := F2.A.tt u (List.mem_of_getElem? eu)
    rw [f3] at hah
    rw [f4] at hbh
    have hut' : G u.t = some (.tup [.str e.mine, .int e.pr, .ref u.ah, .ref u.bh]) := by rw [hut]; unfold tkV; rw [f1, f2]
    have lss : ∀ f : Str → Bool, (i : Int) < (((ss'.map f).map V.bl).length : Int) ∧ (j : Int) < (((ss'.map f).map V.bl).length : Int) := fun f => by rw [List.length_map, List.length_map]; omega
    refine ⟨u.t, _, rfl, SqT.of hut', rfl, _, _, rfl, _, _, rfl, _, _, rfl, _, _, rfl, rfl, ?_⟩
    refine ⟨_, rfl, _, rfl, u.ah, _, _, rfl, rfl, SqL.of hah, by omega, (lss _).1, fun z hz => ?_⟩
    obtain rfl := pickB ex hz
    refine ⟨_, rfl, ?_⟩
    cases a1 : hasW e.D0 x with
    | false => exact iteT (q _ s12)
    | true =>
    refine iteF ⟨_, rfl, _, rfl, u.ah, _, _, rfl, rfl, SqL.of hah, by omega, (lss _).2, fun z hz => ?_⟩
    obtain rfl := pickB ey hz
    refine ⟨_, rfl, ?_⟩
    cases a2 : hasW e.D0 y with
    | false => exact iteT (q _ s12)
    | true =>
    refine iteF ⟨_, rfl, _, rfl, u.bh, _, _, rfl, rfl, SqL.of hbh, by omega, (lss _).1, fun z hz => ?_⟩
    obtain rfl := pickB ex hz
    refine ⟨_, rfl, ?_⟩
    cases b1 : hasW e.D1 x with
    | false => exact iteT (q _ s12)
    | true =>
    refine iteF ⟨_, rfl, _, rfl, u.bh, _, _, rfl, rfl, SqL.of hbh, by omega, (lss _).2, fun z hz => ?_⟩
    obtain rfl := pickB ey hz
    refine ⟨_, rfl, ?_⟩
    cases b2 : hasW e.D1 y with
    | false => exact iteT (q _ s12)
    | true =>
    refine iteF ?_
    obtain ⟨I', k1, k2⟩ := both_step F.ch hxr hyr rxy I he a1 a2 b1 b2
    generalize hpp : (p + if e.mine = x then e.pr else 0) = p2 at I' k1 k2
    generalize hqq : (r + if e.mine = y then e.pr else 0) = r2 at I' k1 k2
    dsimp only [tNext, gName]
    refine seq_cut (fun σ G' => G' = G ∧ σ = [some (.ref M.m), some (.int (i : Int)), some (.int (j : Int)), some (.int (st : Int)), some (.ref l), some (.int v), some (.int w), some (.int p2), some (.int r), some (.str e.mine), some (.int e.pr), some (.ref u.ah), some (.ref u.bh)]) (fun R hR => ?_) (fun σ G' z => ?_)
    · refine ⟨_, rfl, _, rfl, _, rfl, l, _, _, rfl, rfl, SqL.of hl2, by omega, by rw [List.length_map]; omega, fun z hz => ?_⟩
      obtain rfl := pickS ex hz
      refine ⟨rfl, _, rfl, ?_⟩
      by_cases cm : e.mine = x
      · rw [if_pos cm] at hpp
        exact iteYes (by rw [cm]) ⟨_, rfl, _, rfl, _, _, rfl, rfl, hR _ _ ⟨rfl, by rw [← hpp] <;> rfl⟩⟩
      · rw [if_neg cm, Int.add_zero] at hpp
        exact iteNo (fun z => cm (by injection z)) (hR _ _ ⟨rfl, by rw [← hpp] <;> rfl⟩)
    obtain ⟨rfl, rfl⟩ := z
    refine seq_cut (fun σ G'' => G'' = G' ∧ σ = [some (.ref M.m), some (.int (i : Int)), some (.int (j : Int)), some (.int (st : Int)), some (.ref l), some (.int v), some (.int w), some (.int p2), some (.int r2), some (.str e.mine), some (.int e.pr), some (.ref u.ah), some (.ref u.bh)]) (fun R hR => ?_) (fun σ G'' z => ?_)
    · refine ⟨_, rfl, _, rfl, _, rfl, l, _, _, rfl, rfl, SqL.of hl2, by omega, by rw [List.length_map]; omega, fun z hz => ?_⟩
      obtain rfl := pickS ey hz
      refine ⟨rfl, _, rfl, ?_⟩
      by_cases cm : e.mine = y
      · rw [if_pos cm] at hqq
        exact iteYes (by rw [cm]) ⟨_, rfl, _, rfl, _, _, rfl, rfl, hR _ _ ⟨rfl, by rw [← hqq] <;> rfl⟩⟩
      · rw [if_neg cm, Int.add_zero] at hqq
        exact iteNo (fun z => cm (by injection z)) (hR _ _ ⟨rfl, by rw [← hqq] <;> rfl⟩)
    obtain ⟨rfl, rfl⟩ := z
    have z1 := fair_b vg wg (Int.le_of_lt v0) (Int.le_of_lt w0) k1
    have z2 := fair_b wg vg (Int.le_of_lt w0) (Int.le_of_lt v0) k2
    rw [Int.add_comm w v] at z2
    refine ⟨_, rfl, _, rfl, _, _, rfl, rfl, .inr ⟨by omega, by omega⟩, _, rfl, _, rfl, _, _, rfl, rfl, .inr ⟨by omega, by omega⟩, _, _, rfl, rfl, _, rfl, _, rfl, M.m, _, rfl, F2.A.get.2.2.2.2.2, _, rfl, _, rfl, _, _, rfl, rfl, _, _, rfl, rfl, .inr ⟨by omega, by omega⟩, _, _, rfl, rfl, false, ?_, iteF ⟨rfl, p2, r2, _, _, _, _, I', rfl⟩⟩
    show V.bl (decide (most * (v + w) < if p2 * w - r2 * v < 0 then -(p2 * w - r2 * v) else p2 * w - r2 * v)) = V.bl false
    rw [decide_eq_false]
    split <;> omega
  · exact q _ (by rw [z.1]; exact s12)
def sp__law_not_passed (_ : PySem.W.Frag) : Sp := fun vs H Q _ => ∃ (M : MC) (most : Int) (D : LD) (jbs : List (Str × Addr)) (tks : List Tk) (trs : List Tr) (ss : List Str) (i j st : Nat) (x y : Str), vs = [.ref M.m, .int (i : Int), .int (j : Int), .int (st : Int)] ∧ FA H M most D jbs tks trs ss ∧ ss[i]? = some x ∧ ss[j]? = some y ∧ raF D x = raF D y ∧ st ≤ tks.length ∧ ∀ H', Same H H' → Q (.bl true) H'
theorem sc__law_not_passed : FnScope ["_law_m", "_law_i", "_law_j", "_law_start", "_law_askers", "_law_v", "_law_w", "_law_q", "_law_mine", "_law_price", "_law_ahead", "_law_behind"] ["_law_m", "_law_i", "_law_j", "_law_start"] (defScope s__law_not_passed) := ⟨rfl, rfl, rfl, by decide +kernel, rfl, by decide +kernel, by decide +kernel⟩
theorem ok__law_not_passed {fa cLine cUnknown cTwice cHallError tP_first_of : Addr} {fd : FuncData} (F : Fun K "_law_not_passed" "_law_not_passed" s__law_not_passed fa fd) (T : Txt K mg cLine cUnknown cTwice cHallError tP_first_of)  :
    FnOk P w K mg base CX0 1 fa fd ["_law_m", "_law_i", "_law_j", "_law_start"] (sp__law_not_passed K) := by
  refine F.ok sc__law_not_passed (fun vs H Q E h => ?_) (fun cdv A outer s H vs Q E hr h => ?_)
  · obtain ⟨M, most, D, jbs, tks, trs, ss, i, j, st, x, y, rfl, _⟩ := h
    rfl
  obtain ⟨M, most, D, jbs, tks, trs, ss, i, j, st, x, y, rfl, F, ex, ey, rxy, lst, q⟩ := h
  have hu := hu_n hr 0 (by decide)
  refine ⟨_, (pss_cons (ps_set (i := 4) sc__law_not_passed.nd rfl (by first | exact Or.inl rfl | exact Or.inr rfl) (pe_callB (call_sorted_d rfl) rfl T.sorted bt_sorted (pa_cons (pe_dget hu (pv 0) pe_str (fun _ _ => rfl)) pa_nil)))
  (pss_cons (ps_set (i := 5) sc__law_not_passed.nd rfl (by first | exact Or.inl rfl | exact Or.inr rfl) (pe_dget hu (pe_dget hu (pv 0) pe_str (fun _ _ => rfl)) (pe_ix ix_listA (pv 4) (pv 1) (fun _ _ => rfl)) (fun _ _ => rfl)))
  (pss_cons (ps_set (i := 6) sc__law_not_passed.nd rfl (by first | exact Or.inl rfl | exact Or.inr rfl) (pe_dget hu (pe_dget hu (pv 0) pe_str (fun _ _ => rfl)) (pe_ix ix_listA (pv 4) (pv 2) (fun _ _ => rfl)) (fun _ _ => rfl)))
  (pss_cons (ps_set (i := 7) sc__law_not_passed.nd rfl (by first | exact Or.inl rfl | exact Or.inr rfl) pe_int)
  (pss_cons (ps_for PassesOwn.never rfl (pi_list (pe_slice sl_list (pe_dget hu (pv 0) pe_str (fun _ _ => rfl)) (po_some (pv 3)) po_none)) (pg_tup rfl (pgs_cons (pg_name (i := 8) sc__law_not_passed.nd rfl (by first | exact Or.inl rfl | exact Or.inr rfl)) (pgs_cons (pg_name (i := 9) sc__law_not_passed.nd rfl (by first | exact Or.inl rfl | exact Or.inr rfl)) (pgs_cons (pg_name (i := 10) sc__law_not_passed.nd rfl (by first | exact Or.inl rfl | exact Or.inr rfl)) (pgs_cons (pg_name (i := 11) sc__law_not_passed.nd rfl (by first | exact Or.inl rfl | exact Or.inr rfl)) pgs_nil)))))
  (pss_cons (ps_if (PW.pt (pw_or (pt_not (pt_truth (pe_ix ix_listA (pv 10) (pv 1) (fun _ _ => rfl)) (fun _ => rfl))) (pw_or (pt_cmpR op_eq (pv 8) (pe_ix ix_listA (pv 4) (pv 1) (fun _ _ => rfl)) (nomark _)) (pw_or1 (pt_not (pt_truth (pe_ix ix_listA (pv 11) (pv 1) (fun _ _ => rfl)) (fun _ => rfl))))))) (pss_one (ps_ret pe_bl)) pss_nil)
  (pss_cons (ps_if (pt_cmpR op_eq (pv 8) (pe_ix ix_listA (pv 4) (pv 2) (fun _ _ => rfl)) (nomark _)) (pss_one (ps_set (i := 7) sc__law_not_passed.nd rfl (by first | exact Or.inl rfl | exact Or.inr rfl) (pe_op op_add (pv 7) (pv 9)))) pss_nil)
  (pss_one (ps_if (pt_cmpR op_gt (pe_op op_mul (pv 7) (pv 5)) (pe_op op_mul (pe_dget hu (pv 0) pe_str (fun _ _ => rfl)) (pe_op op_add (pv 5) (pv 6))) (nomark _)) (pss_one (ps_ret pe_bl)) pss_nil)))))
  (pss_one (ps_ret pe_bl))))))), ?_⟩
  have la : (kys D.ra).length < 64 := by
    rw [← F.pm.length_eq]
    have := F.s6
    omega
  have li := (List.getElem?_eq_some_iff.mp ex).1
  have lj := (List.getElem?_eq_some_iff.mp ey).1
  obtain ⟨hxr, v, ev, v0, v1, vg⟩ := F.sh (List.mem_of_getElem? ex)
  obtain ⟨hyr, w, ew, w0, w1, wg⟩ := F.sh (List.mem_of_getElem? ey)
  have m0 := F.m0
  refine ⟨_, rfl, M.m, _, rfl, F.A.get.1, M.rk, _, kys D.ra, rfl, F.A.rk, dG_kV, la, fun l ss' nl pm' sr' => ?_⟩
  obtain rfl : ss' = ss := sorted_uniq (pm'.trans F.pm.symm) sr' F.sr
  have s1 := same_new nl (.lst (ss'.map V.str))
  have hl : upd H l (.lst (ss'.map V.str)) l = some (.lst (ss'.map V.str)) := upd_same
  generalize upd H l (.lst (ss'.map V.str)) = H1 at s1 hl ⊢
  have F1 := F.same s1
  have gx := dget_dG inr_inj F1.A.sh x
  rw [ev] at gx
  have gy := dget_dG inr_inj F1.A.sh y
  rw [ew] at gy
  refine ⟨_, rfl, M.m, _, rfl, F1.A.get.2.1, _, rfl, _, rfl, l, _, _, rfl, rfl, SqL.of hl, by omega, by rw [List.length_map]; omega, fun z hz => ?_⟩
  obtain rfl := pickS ex hz
  refine ⟨M.sh, _, rfl, gx, ?_⟩
  refine ⟨_, rfl, M.m, _, rfl, F1.A.get.2.1, _, rfl, _, rfl, l, _, _, rfl, rfl, SqL.of hl, by omega, by rw [List.length_map]; omega, fun z hz => ?_⟩
  obtain rfl := pickS ey hz
  refine ⟨M.sh, _, rfl, gy, ?_⟩
  refine ⟨_, rfl, M.m, _, rfl, F1.A.get.2.2.2.2.1, _, rfl, _, rfl, M.tk, _, rfl, SqL.of F1.A.tk, fun sl nsl => ?_⟩
  rw [cut_from44 _ _ (by rw [List.length_map]; exact lst), ← List.map_drop]
  have s2 := same_new nsl (.lst ((tks.drop st).map fun u => V.ref u.t))
  have hsl : upd H1 sl (.lst ((tks.drop st).map fun u => V.ref u.t)) sl = some (.lst ((tks.drop st).map fun u => V.ref u.t)) := upd_same
  generalize upd H1 sl (.lst ((tks.drop st).map fun u => V.ref u.t)) = H2 at s2 hsl ⊢
  have F2 := F1.same s2
  have hl2 := s2 _ _ hl
  have s12 := s1.trans s2
  have gxn : 0 ≤ gF D x := g_nn F.sb x
  have gyn : 0 ≤ gF D y := g_nn F.sb y
  have base : (0 : Int) * gF D y ≤ most * gF D x + most * gF D y := by
    rw [Int.zero_mul]
    have := Int.mul_nonneg (show 0 ≤ most by omega) gxn
    have := Int.mul_nonneg (show 0 ≤ most by omega) gyn
    omega
  refine ⟨sl, rfl, ⟨_, SqL.of hsl⟩, for_list (K := K) (a := sl) (xs := (tks.drop st).map fun u => V.ref u.t) (fun t σ G => G = H2 ∧ ∃ (r : Int) (v9 v10 v11 v12 : Option V), (InvN trs D most x y st t r ∧ r * gF D y ≤ most * gF D x + most * gF D y) ∧ σ = [some (.ref M.m), some (.int (i : Int)), some (.int (j : Int)), some (.int (st : Int)), some (.ref l), some (.int v), some (.int w), some (.int r), v9, v10, v11, v12]) ⟨rfl, 0, _, _, _, _, ⟨.inl ⟨rfl, rfl⟩, base⟩, rfl⟩ (fun t σ G _ z => by rw [z.1]; exact SqL.of hsl) (fun t yv σ G hy z => ?_) (fun σ G z => ?_)⟩
  · obtain ⟨rfl, r, v9, v10, v11, v12, ⟨I, qb⟩, rfl⟩ := z
    rw [List.getElem?_map] at hy
    obtain ⟨u, eu, rfl⟩ := Option.map_eq_some_iff.mp hy
    rw [List.getElem?_drop] at eu
    obtain ⟨e, he, f1, f2, f3, f4⟩ := F.at eu
    obtain ⟨hut, hah, hbh⟩ := F2.A.tt u (List.mem_of_getElem? eu)
    rw [f3] at hah
    rw [f4] at hbh
    have hut' : G u.t = some (.tup [.str e.mine, .int e.pr, .ref u.ah, .ref u.bh]) := by rw [hut]; unfold tkV; rw [f1, f2]
    have lss : ∀ f : Str → Bool, (i : Int) < (((ss'.map f).map V.bl).length : Int) ∧ (j : Int) < (((ss'.map f).map V.bl).length : Int) := fun f => by rw [List.length_map, List.length_map]; omega
    refine ⟨u.t, _, rfl, SqT.of hut', rfl, _, _, rfl, _, _, rfl, _, _, rfl, _, _, rfl, rfl, ?_⟩
    refine ⟨_, rfl, _, rfl, u.ah, _, _, rfl, rfl, SqL.of hah, by omega, (lss _).1, fun z hz => ?_⟩
    obtain rfl := pickB ex hz
    refine ⟨_, rfl, ?_⟩
    cases a1 : hasW e.D0 x with
    | false => exact iteT (q _ s12)
    | true =>
    refine iteF ⟨_, rfl, _, rfl, _, rfl, l, _, _, rfl, rfl, SqL.of hl2, by omega, by rw [List.length_map]; omega, fun z hz => ?_⟩
    obtain rfl := pickS ex hz
    refine ⟨rfl, _, rfl, ?_⟩
    by_cases nm : e.mine = x
    · exact iteYes (by rw [nm]) (q _ s12)
    refine iteNo (fun z => nm (by injection z)) ⟨_, rfl, _, rfl, u.bh, _, _, rfl, rfl, SqL.of hbh, by omega, (lss _).1, fun z hz => ?_⟩
    obtain rfl := pickB ex hz
    refine ⟨_, rfl, ?_⟩
    cases b1 : hasW e.D1 x with
    | false => exact iteT (q _ s12)
    | true =>
    refine iteF ?_
    obtain ⟨I', qb'⟩ := not_step F.ch (by omega) hxr hyr rxy gxn gyn I qb he a1 nm b1
    generalize hqq : (r + if e.mine = y then e.pr else 0) = r2 at I' qb'
    dsimp only [tNext, gName]
    refine seq_cut (fun σ G'' => G'' = G ∧ σ = [some (.ref M.m), some (.int (i : Int)), some (.int (j : Int)), some (.int (st : Int)), some (.ref l), some (.int v), some (.int w), some (.int r2), some (.str e.mine), some (.int e.pr), some (.ref u.ah), some (.ref u.bh)]) (fun R hR => ?_) (fun σ G'' z => ?_)
    · refine ⟨_, rfl, _, rfl, _, rfl, l, _, _, rfl, rfl, SqL.of hl2, by omega, by rw [List.length_map]; omega, fun z hz => ?_⟩
      obtain rfl := pickS ey hz
      refine ⟨rfl, _, rfl, ?_⟩
      by_cases cm : e.mine = y
      · rw [if_pos cm] at hqq
        exact iteYes (by rw [cm]) ⟨_, rfl, _, rfl, _, _, rfl, rfl, hR _ _ ⟨rfl, by rw [← hqq] <;> rfl⟩⟩
      · rw [if_neg cm, Int.add_zero] at hqq
        exact iteNo (fun z => cm (by injection z)) (hR _ _ ⟨rfl, by rw [← hqq] <;> rfl⟩)
    obtain ⟨rfl, rfl⟩ := z
    have z1 := fair_q vg wg (Int.le_of_lt v0) (Int.le_of_lt w0) qb'
    refine ⟨_, rfl, _, rfl, _, _, rfl, rfl, .inr ⟨by omega, by omega⟩, _, rfl, M.m, _, rfl, F2.A.get.2.2.2.2.2, _, rfl, _, rfl, _, _, rfl, rfl, _, _, rfl, rfl, .inr ⟨by omega, by omega⟩, _, _, rfl, rfl, false, ?_, iteF ⟨rfl, r2, _, _, _, _, ⟨I', qb'⟩, rfl⟩⟩
    show V.bl (decide (most * (v + w) < r2 * v)) = V.bl false
    rw [decide_eq_false (by omega)]
  · exact q _ (by rw [z.1]; exact s12)
end
end My
namespace My
open PySem L2
open Blk (sg sg_inj sg_app)
section
variable {P : Program} {w : World} {K : PySem.W.Frag} {mg : Str → Option Value} {base : Heap}
theorem if_cut0 {t : TT} {A B : TS} {D : Ends} {σ : St} {H : Hp} (P : Prop) (ht : ∀ Q : Bool → Hp → Prop, (P → Q true H) → (¬ P → Q false H) → t σ H Q) (hA : P → A D σ H) (hB : ¬ P → B D σ H) : tIfS t A B D σ H := ht _ (fun p => by rw [if_pos rfl]; exact hA p) (fun p => by rw [if_neg (by decide)]; exact hB p)
def sp__law_fair (_ : PySem.W.Frag) : Sp := fun vs H Q _ => ∃ (M : MC) (most : Int) (D : LD) (jbs : List (Str × Addr)) (tks : List Tk) (trs : List Tr) (ss : List Str), vs = [.ref M.m] ∧ FA H M most D jbs tks trs ss ∧ ∀ H', Q (.bl true) H'
theorem sc__law_fair : FnScope ["_law_m", "_law_askers", "_law_start", "_law_i", "_law_j"] ["_law_m"] (defScope s__law_fair) := ⟨rfl, rfl, rfl, by decide +kernel, rfl, by decide +kernel, by decide +kernel⟩
theorem ok__law_fair {fa cLine cUnknown cTwice cHallError tP_first_of : Addr} {fd : FuncData} (F : Fun K "_law_fair" "_law_fair" s__law_fair fa fd) (T : Txt K mg cLine cUnknown cTwice cHallError tP_first_of) (D__law_both_fair : Dfn P w K mg base 1 "_law_both_fair" ["_law_m", "_law_i", "_law_j", "_law_start"] (sp__law_both_fair K)) (D__law_not_passed : Dfn P w K mg base 1 "_law_not_passed" ["_law_m", "_law_i", "_law_j", "_law_start"] (sp__law_not_passed K)) :
    FnOk P w K mg base CX0 2 fa fd ["_law_m"] (sp__law_fair K) := by
  refine F.ok sc__law_fair (fun vs H Q E h => ?_) (fun cdv A outer s H vs Q E hr h => ?_)
  · obtain ⟨M, most, D, jbs, tks, trs, ss, rfl, _⟩ := h
    rfl
  obtain ⟨M, most, D, jbs, tks, trs, ss, rfl, F, q⟩ := h
  have hu := hu_n hr 0 (by decide)
  have hu0 := hr.units0
  refine ⟨_, (pss_cons (ps_set (i := 1) sc__law_fair.nd rfl (by first | exact Or.inl rfl | exact Or.inr rfl) (pe_callB (call_sorted_d rfl) rfl T.sorted bt_sorted (pa_cons (pe_dget hu (pv 0) pe_str (fun _ _ => rfl)) pa_nil)))
  (pss_cons (ps_for PassesOwn.never rfl (pi_range1 rfl T.range (pa_cons (pe_callB call_len_seq rfl T.len PySem.boot_len (pa_cons (pe_dget hu (pv 0) pe_str (fun _ _ => rfl)) pa_nil)) pa_nil)) (pg_name (i := 2) sc__law_fair.nd rfl (by first | exact Or.inl rfl | exact Or.inr rfl))
  (pss_one (ps_for PassesOwn.never rfl (pi_range1 rfl T.range (pa_cons (pe_callB call_len_seq rfl T.len PySem.boot_len (pa_cons (pv 1) pa_nil)) pa_nil)) (pg_name (i := 3) sc__law_fair.nd rfl (by first | exact Or.inl rfl | exact Or.inr rfl))
  (pss_one (ps_for PassesOwn.never rfl (pi_range1 rfl T.range (pa_cons (pe_callB call_len_seq rfl T.len PySem.boot_len (pa_cons (pv 1) pa_nil)) pa_nil)) (pg_name (i := 4) sc__law_fair.nd rfl (by first | exact Or.inl rfl | exact Or.inr rfl))
  (pss_one (ps_if (PW.pt (pw_and (pt_cmpR op_ne (pv 3) (pv 4) (nomark _)) (pw_and1 (pt_cmpR op_eq (pe_dget hu (pe_dget hu (pv 0) pe_str (fun _ _ => rfl)) (pe_ix ix_listA (pv 1) (pv 3) (fun _ _ => rfl)) (fun _ _ => rfl)) (pe_dget hu (pe_dget hu (pv 0) pe_str (fun _ _ => rfl)) (pe_ix ix_listA (pv 1) (pv 4) (fun _ _ => rfl)) (fun _ _ => rfl)) (nomark _))))) (pss_one (ps_if (PW.pt (pw_or (pt_not (pt_truth (pe_callD D__law_both_fair (hr.mono (by decide)) rfl (pa_cons (pv 0) (pa_cons (pv 3) (pa_cons (pv 4) (pa_cons (pv 2) pa_nil))))) (fun _ => rfl))) (pw_or1 (pt_not (pt_truth (pe_callD D__law_not_passed (hr.mono (by decide)) rfl (pa_cons (pv 0) (pa_cons (pv 3) (pa_cons (pv 4) (pa_cons (pv 2) pa_nil))))) (fun _ => rfl)))))) (pss_one (ps_ret pe_bl)) pss_nil)) pss_nil)))))))
  (pss_one (ps_ret pe_bl)))), ?_⟩
  have la : (kys D.ra).length < 64 := by
    rw [← F.pm.length_eq]
    have := F.s6
    omega
  refine ⟨_, rfl, M.m, _, rfl, F.A.get.1, M.rk, _, kys D.ra, rfl, F.A.rk, dG_kV, la, fun l ss' nl pm' sr' => ?_⟩
  obtain rfl : ss' = ss := sorted_uniq (pm'.trans F.pm.symm) sr' F.sr
  have s1 := same_new nl (.lst (ss'.map V.str))
  have hl : upd H l (.lst (ss'.map V.str)) l = some (.lst (ss'.map V.str)) := upd_same
  generalize upd H l (.lst (ss'.map V.str)) = H1 at s1 hl ⊢
  have F1 := F.same s1
  have s6 := F.s6
  have zt := F.zt
  have e1 : (((tks.map fun u => V.ref u.t).length : Nat) : Int).toNat = tks.length := by rw [List.length_map]; exact Int.toNat_natCast _
  have e2 : (((ss'.map V.str).length : Nat) : Int).toNat = ss'.length := by rw [List.length_map]; exact Int.toNat_natCast _
  refine ⟨_, rfl, M.m, _, rfl, F1.A.get.2.2.2.2.1, M.tk, _, rfl, .inl (SqL.of F1.A.tk), _, rfl, by omega, by rw [List.length_map]; omega, ?_⟩
  rw [e1]
  refine for_range (lo := 0) (n := tks.length) (fun t σ G => Same H1 G ∧ ∃ v2 v3 v4 : Option V, σ = [some (.ref M.m), some (.ref l), v2, v3, v4]) ⟨Same.refl _, _, _, _, rfl⟩ (fun t σ G ht z => ?_) (fun σ G z => ?_)
  · obtain ⟨sG, v2, v3, v4, rfl⟩ := z
    refine ⟨_, rfl, l, _, rfl, .inl (SqL.of (sG _ _ hl)), _, rfl, by omega, by rw [List.length_map]; omega, ?_⟩
    rw [e2]
    refine for_range (lo := 0) (n := ss'.length) (fun i σ G => Same H1 G ∧ ∃ v3 v4 : Option V, σ = [some (.ref M.m), some (.ref l), some (.int (0 + (t : Int))), v3, v4]) ⟨sG, _, _, rfl⟩ (fun i σ G hi z => ?_) (fun σ G z => ?_)
    · obtain ⟨sG, v3, v4, rfl⟩ := z
      refine ⟨_, rfl, l, _, rfl, .inl (SqL.of (sG _ _ hl)), _, rfl, by omega, by rw [List.length_map]; omega, ?_⟩
      rw [e2]
      refine for_range (lo := 0) (n := ss'.length) (fun j σ G => Same H1 G ∧ ∃ v4 : Option V, σ = [some (.ref M.m), some (.ref l), some (.int (0 + (t : Int))), some (.int (0 + (i : Int))), v4]) ⟨sG, _, rfl⟩ (fun j σ G hj z => ?_) (fun σ G z => ?_)
      · obtain ⟨sG, v4, rfl⟩ := z
        have F2 := F1.same sG
        have ex : ss'[i]? = some ss'[i] := List.getElem?_eq_getElem hi
        have ey : ss'[j]? = some ss'[j] := List.getElem?_eq_getElem hj
        generalize ss'[i] = x at ex
        generalize ss'[j] = y at ey
        obtain ⟨hx, _⟩ := F.sh (List.mem_of_getElem? ex)
        obtain ⟨hy, _⟩ := F.sh (List.mem_of_getElem? ey)
        obtain ⟨rx, erx⟩ := lkG_some hx
        obtain ⟨ry, ery⟩ := lkG_some hy
        have gx := dget_dG inr_inj F2.A.rk x
        rw [erx] at gx
        have gy := dget_dG inr_inj F2.A.rk y
        rw [ery] at gy
        have ex' : ss'[((0 : Int) + (i : Int)).toNat]? = some x := by rw [show ((0 : Int) + (i : Int)).toNat = i by omega]; exact ex
        have ey' : ss'[((0 : Int) + (j : Int)).toNat]? = some y := by rw [show ((0 : Int) + (j : Int)).toNat = j by omega]; exact ey
        have hl2 := sG _ _ hl
        dsimp only [gName]
        refine if_cut0 (i ≠ j ∧ rx = ry) (fun R qt qf => ?_) (fun cc => ?_) (fun cc => ⟨sG, _, rfl⟩)
        · by_cases c1 : i = j
          · exact ⟨_, rfl, _, rfl, rfl, false, by rw [c1, decide_eq_true rfl]; rfl, iteF (qf (fun z => z.1 c1))⟩
          refine ⟨_, rfl, _, rfl, rfl, true, by rw [decide_eq_false (fun z => c1 (by injection z with z; omega))]; rfl, iteT ?_⟩
          refine ⟨_, rfl, M.m, _, rfl, F2.A.get.1, _, rfl, _, rfl, l, _, _, rfl, rfl, SqL.of hl2, by omega, by rw [List.length_map]; omega, fun z hz => ?_⟩
          rw [List.getElem?_map, ex'] at hz
          obtain rfl := Option.some.inj hz
          refine ⟨M.rk, _, rfl, gx, ?_⟩
          refine ⟨_, rfl, M.m, _, rfl, F2.A.get.1, _, rfl, _, rfl, l, _, _, rfl, rfl, SqL.of hl2, by omega, by rw [List.length_map]; omega, fun z hz => ?_⟩
          rw [List.getElem?_map, ey'] at hz
          obtain rfl := Option.some.inj hz
          by_cases c2 : rx = ry
          · exact ⟨M.rk, _, rfl, gy, rfl, true, by rw [c2, decide_eq_true rfl], qt ⟨c1, c2⟩⟩
          · exact ⟨M.rk, _, rfl, gy, rfl, false, by rw [decide_eq_false (fun z => c2 (by injection z))], qf (fun z => c2 z.2)⟩
        obtain ⟨_, rfl⟩ := cc
        have rxy : raF D x = raF D y := by unfold raF; rw [erx, ery]
        refine ⟨_, rfl, _, rfl, _, rfl, _, rfl, M, most, D, jbs, tks, trs, ss', i, j, t, x, y, by rw [Int.zero_add, Int.zero_add, Int.zero_add]; rfl, F2, ex, ey, rxy, by omega, fun G3 s3 => ⟨_, rfl, ?_⟩⟩
        refine iteF ⟨_, rfl, _, rfl, _, rfl, _, rfl, M, most, D, jbs, tks, trs, ss', i, j, t, x, y, by rw [Int.zero_add, Int.zero_add, Int.zero_add]; rfl, F2.same s3, ex, ey, rxy, by omega, fun G4 s4 => ⟨_, rfl, iteF ⟨(sG.trans s3).trans s4, _, rfl⟩⟩⟩
      · obtain ⟨sG, v4, rfl⟩ := z
        exact ⟨sG, _, _, rfl⟩
    · obtain ⟨sG, v3, v4, rfl⟩ := z
      exact ⟨sG, _, _, _, rfl⟩
  · exact q _
end
end My
namespace My
open PySem L2
open Blk (sg sg_inj sg_app)
section
variable {P : Program} {w : World} {K : PySem.W.Frag} {mg : Str → Option Value} {base : Heap}
theorem nd_take {l : List Str} {m : Str} {i : Nat} (nd : l.Nodup) (em : l[i]? = some m) : ¬ m ∈ l.take i := fun z => by
  obtain ⟨j, hj⟩ := List.mem_iff_getElem?.mp z
  have jl : j < i := by
    have := (List.getElem?_eq_some_iff.mp hj).1
    rw [List.length_take] at this
    omega
  rw [List.getElem?_take_of_lt jl] at hj
  exact ne8 nd hj em (by omega) rfl
def an (k : Nat) : Str := Str.ofString "a" ++ Str.ofString (toString ((0 : Int) + (k : Int)))
def ans (m : Nat) : List Str := (List.range m).map an
theorem an_nd : (ans 6).Nodup := by decide +kernel
theorem an_small : ∀ j : Nat, j < 6 → ((0 : Int) + (j : Int)).natAbs.log2 < 1920 ∧ (Str.ofString "a").length + (Str.ofString (toString ((0 : Int) + (j : Int)))).length ≤ 1000 := by decide +kernel
theorem ans_nd {m : Nat} (h : m ≤ 6) : (ans m).Nodup := by
  have : ans m = (ans 6).take m := by unfold ans; rw [← List.map_take, List.take_range, Nat.min_eq_left h]
  rw [this]
  exact (List.take_sublist _ _).nodup an_nd
theorem ans_len (m : Nat) : (ans m).length = m := by unfold ans; rw [List.length_map, List.length_range]
theorem ans_at {m i : Nat} (h : i < m) : (ans m)[i]? = some (an i) := by unfold ans; rw [List.getElem?_map, List.getElem?_range h]; rfl
theorem merge44 (M : MC) (most : Int) : mergeK [] (mD M most) = mD M most := by
  have := mergeK_new (kvs := []) (more := mD M most) (ks := [Sum.inr "ranks", Sum.inr "shares", Sum.inr "jobs", Sum.inr "waiting", Sum.inr "takes", Sum.inr "most"]) rfl (by decide +kernel)
  rw [this, List.nil_append]
structure LZ (cL tP : Addr) (H : Hp) (L : LA) (M : MC) (most : Int) (D : LD) (ns : List Str) (i : Nat) : Prop where
  N : LnAt cL H L D
  A : LC H M most D [] []
  sh : ∀ p ∈ D.sh, 0 < p.2 ∧ p.2 ≤ 10
  lz : ∀ p ∈ D.lv, p.2 = 0
  tab : LTab H tP
  ap : ∀ b ∈ M.cs, ¬ LF L D b
  kr : kys D.ra = ns.take i
  ks : kys D.sh = ns.take i
  kl : kys D.lv = ns.take i
  e : D.ma = [] ∧ D.ow = [] ∧ D.co = [] ∧ D.no = [] ∧ D.qu = []
theorem LZ.done {cL tP : Addr} {H : Hp} {L : LA} {M : MC} {most : Int} {D : LD} {ns : List Str} (Z : LZ cL tP H L M most D ns ns.length) (l0 : 0 < ns.length) (l6 : ns.length ≤ 6) (m0 : 1 ≤ most) : ∃ ss, LS cL tP H L M most D [] [] [] ss 0 0 := by
  obtain ⟨ss, pm, sr⟩ := sort_ex ns
  have kr := Z.kr
  have ks := Z.ks
  have kl := Z.kl
  rw [List.take_length] at kr ks kl
  obtain ⟨e1, e2, e3, e4, e5⟩ := Z.e
  refine ⟨ss, Z.N, Z.A, ⟨?_, by rw [e3, e2]; rfl, by rw [e4, e2]; rfl, by rw [ks, kr], by rw [kl, kr], ?_, fun p hp => ⟨(Z.sh p hp).1, Int.le_trans (Z.sh p hp).2 (by decide)⟩, by rw [e5]; exact List.nodup_nil, by rw [e2]; exact List.nodup_nil⟩, Z.tab, fun b hb => ?_, by rw [kr]; exact pm, sr, by rw [pm.length_eq]; exact l0, by rw [pm.length_eq]; exact l6, Z.sh, fun p hp => ?_, m0, fun x hx => ?_, ⟨fun e he => (by cases he), fun i e f he => (by cases he), fun i e _ he => (by cases he)⟩, rfl, by rw [e2]; rfl, by rw [e2]; exact Nat.le_refl _, by rw [e5]; exact Nat.le_refl _, by rw [e1]; exact Nat.le_refl _, fun p hp => ?_, Nat.le_refl _⟩
  · intro n hn
    rw [e5] at hn
    cases hn
  · intro p hp
    rw [e2] at hp
    cases hp
  · rcases hb with hb | ⟨u, hu, _⟩
    · exact Z.ap b hb
    · cases hu
  · rw [e3] at hp
    cases hp
  · have l0 : lvF D x = 0 := by
      unfold lvF
      cases h : lkG D.lv x with
      | none => rfl
      | some v => exact Z.lz _ (lkG_mem h)
    have k0 : mkF D (raF D x) = 0 := by unfold mkF; rw [e1]; rfl
    rw [l0, k0]
    have := Int.mul_nonneg (show 0 ≤ most by omega) (g_nn Z.sh x)
    exact ⟨by omega, fun _ => Int.le_refl _⟩
  · rw [e4] at hp
    cases hp
theorem pick6 {v : V} {j : Nat} (h : [V.int 1, V.int 1, V.int 1, V.int 0, V.int 2, V.int 1][j]? = some v) : ∃ d : Int, v = .int d := by
  have hm := List.mem_of_getElem? h
  simp only [List.mem_cons, List.not_mem_nil, or_false] at hm
  rcases hm with rfl | rfl | rfl | rfl | rfl | rfl <;> exact ⟨_, rfl⟩
def sp_law (K : PySem.W.Frag) (tP : Addr) : Sp := fun vs H Q _ => ∃ a : Addr, vs = [.ref a] ∧ Scr K H a ∧ LTab H tP ∧ ∀ H', Q (.bl true) H'
theorem sc_law : FnScope ["_law_script", "_law_line", "_law_most", "_law_m", "_law_k", "_law_asker", "_law_some"] ["_law_script"] (defScope s_law) := ⟨rfl, rfl, rfl, by decide +kernel, rfl, by decide +kernel, by decide +kernel⟩
theorem ok_law {fa cLine cUnknown cTwice cHallError tP_first_of : Addr} {fd : FuncData} (F : Fun K "law" "law" s_law fa fd) (T : Txt K mg cLine cUnknown cTwice cHallError tP_first_of) (M_Line : MkD P w K mg base 1 "Line" cLine ["self"] (sp_Ln_init cLine)) (D__law_fair : Dfn P w K mg base 2 "_law_fair" ["_law_m"] (sp__law_fair K)) (D__law_cell_at : Dfn P w K mg base 1 "_law_cell_at" ["_law_script", "_law_k"] (sp__law_cell_at K)) (D__law_mix : Dfn P w K mg base 1 "_law_mix" ["_law_cell", "_law_k", "_law_many"] (sp__law_mix K)) (D__law_done : Dfn P w K mg base 6 "_law_done" ["_law_line", "_law_m", "_law_cell", "_law_k"] (sp__law_done K cLine tP_first_of)) (D_Line_add_asker : MtE P w K mg base 3 "add_asker" cLine ["self", "name", "rank", "share"] (sp_Ln_add_asker cLine cTwice)) :
    FnOk P w K mg base CX0 7 fa fd ["_law_script"] (sp_law K tP_first_of) := by
  refine F.ok sc_law (fun vs H Q E h => ?_) (fun cdv A outer s H vs Q E hr h => ?_)
  · obtain ⟨a, rfl, _⟩ := h
    rfl
  obtain ⟨a, rfl, S0, tab, q⟩ := h
  have hu := hu_n hr 0 (by decide)
  have hu1 := hu_n hr 1 (by decide)
  have hu0 := hr.units0
  refine ⟨_, (pss_cons (ps_set (i := 1) sc_law.nd rfl (by first | exact Or.inl rfl | exact Or.inr rfl) (pe_makeD0 M_Line (hr.mono (by decide)) rfl))
  (pss_cons (ps_set (i := 2) sc_law.nd rfl (by first | exact Or.inl rfl | exact Or.inr rfl) (pe_op op_add pe_int (pe_op op_mod (pe_callD D__law_cell_at (hr.mono (by decide)) rfl (pa_cons (pv 0) (pa_cons pe_int pa_nil))) pe_int)))
  (pss_cons (ps_if (pt_cmpR op_eq (pe_op op_mod (pe_op op_fdiv (pe_callD D__law_cell_at (hr.mono (by decide)) rfl (pa_cons (pv 0) (pa_cons pe_int pa_nil))) pe_int) pe_int) pe_int (nomark _)) (pss_one (ps_set (i := 2) sc_law.nd rfl (by first | exact Or.inl rfl | exact Or.inr rfl) (pe_op op_add pe_int (pe_op op_mod (pe_callD D__law_cell_at (hr.mono (by decide)) rfl (pa_cons (pv 0) (pa_cons pe_int pa_nil))) (pe_op op_pow pe_int pe_int))))) pss_nil)
  (pss_cons (ps_set (i := 3) sc_law.nd rfl (by first | exact Or.inl rfl | exact Or.inr rfl) (pe_disp (pps_cons pe_str pe_dnewK (pps_cons pe_str pe_dnewK (pps_cons pe_str pe_dnewK (pps_cons pe_str (pe_lst pa_nil) (pps_cons pe_str (pe_lst pa_nil) (pps_cons pe_str (pv 2) pps_nil)))))) rfl rfl (by decide) (by decide)))
  (pss_cons (ps_for PassesOwn.never rfl (pi_range1 rfl T.range (pa_cons (pe_op op_add pe_int (pe_op op_mod (pe_callD D__law_cell_at (hr.mono (by decide)) rfl (pa_cons (pv 0) (pa_cons pe_int pa_nil))) pe_int)) pa_nil)) (pg_name (i := 4) sc_law.nd rfl (by first | exact Or.inl rfl | exact Or.inr rfl))
  (pss_cons (ps_set (i := 5) sc_law.nd rfl (by first | exact Or.inl rfl | exact Or.inr rfl) (pe_op op_add_str pe_str (pe_callTy call_str_int rfl T.str bt_str (pa_cons (pv 4) pa_nil))))
  (pss_cons (ps_dput hu (pe_dget hu (pv 3) pe_str (fun _ _ => rfl)) (pv 5) (pe_ix ix_listA (pe_lst (pa_cons pe_int (pa_cons pe_int (pa_cons pe_int (pa_cons pe_int (pa_cons pe_int (pa_cons pe_int pa_nil))))))) (pe_callD D__law_mix (hr.mono (by decide)) rfl (pa_cons (pe_callD D__law_cell_at (hr.mono (by decide)) rfl (pa_cons (pv 0) (pa_cons pe_int pa_nil))) (pa_cons (pv 4) (pa_cons pe_int pa_nil)))) (fun _ _ => rfl)) rfl)
  (pss_cons (ps_dput hu (pe_dget hu (pv 3) pe_str (fun _ _ => rfl)) (pv 5) (pe_op op_add pe_int (pe_callD D__law_mix (hr.mono (by decide)) rfl (pa_cons (pe_callD D__law_cell_at (hr.mono (by decide)) rfl (pa_cons (pv 0) (pa_cons pe_int pa_nil))) (pa_cons (pv 4) (pa_cons pe_int pa_nil))))) rfl)
  (pss_one (ps_expr (pe_methE 3 passE0 (hr.mono (by decide)) (pv 1) (pa_cons (pv 5) (pa_cons (pe_dget hu (pe_dget hu (pv 3) pe_str (fun _ _ => rfl)) (pv 5) (fun _ _ => rfl)) (pa_cons (pe_dget hu (pe_dget hu (pv 3) pe_str (fun _ _ => rfl)) (pv 5) (fun _ _ => rfl)) pa_nil))))))))))
  (pss_cons (ps_set (i := 6) sc_law.nd rfl (by first | exact Or.inl rfl | exact Or.inr rfl) (pe_slice sl_list (pv 0) po_none (po_some pe_int)))
  (pss_cons (ps_for PassesOwn.never rfl (pi_range1 rfl T.range (pa_cons (pe_callB call_len_seq rfl T.len PySem.boot_len (pa_cons (pv 6) pa_nil)) pa_nil)) (pg_name (i := 4) sc_law.nd rfl (by first | exact Or.inl rfl | exact Or.inr rfl))
  (pss_one (ps_if (pt_not (pt_truth (pe_callD D__law_done (hr.mono (by decide)) rfl (pa_cons (pv 1) (pa_cons (pv 3) (pa_cons (pe_ix ix_listA (pv 6) (pv 4) (fun _ _ => rfl)) (pa_cons (pv 4) pa_nil))))) (fun _ => rfl))) (pss_one (ps_ret pe_bl)) pss_nil)))
  (pss_one (ps_ret (pe_callD D__law_fair (hr.mono (by decide)) rfl (pa_cons (pv 3) pa_nil))))))))))), ?_⟩
  obtain ⟨ns0, hS, h63⟩ := id S0.ex
  refine fun x dx nx ndx nxd => ⟨x, dx, rfl, upd_same, fun L H1 ex edx kp fresh N => ⟨rfl, ?_⟩⟩
  subst ex
  have s1 : Same H H1 := fun b o e => kp b o (ne_of_none e nx |> fun h => h) (by rw [upd_ne (ne_of_none e nx), upd_ne (ne_of_none e ndx)]; exact e)
  have fr0 : ∀ b ∈ L.ds, H b = none := fun b hb => by
    have h := fresh b hb
    by_cases c1 : b = L.x
    · rw [c1, upd_same] at h; cases h
    rw [upd_ne c1] at h
    by_cases c2 : b = dx
    · rw [c2, upd_same] at h; cases h
    rw [upd_ne c2] at h
    exact h
  have z0 := Int.emod_nonneg (ns0.getD (0 : Int).toNat 0) (show (5 : Int) ≠ 0 by decide)
  refine ⟨_, rfl, a, 0, ns0, rfl, s1.seq hS, by decide, _, _, rfl, rfl, (by show (0 : Int) < 5; decide), _, _, rfl, rfl, ?_⟩
  dsimp only [gName]
  refine seq_cut (fun σ G => G = H1 ∧ ∃ most : Int, 1 ≤ most ∧ σ = [some (.ref a), some (.ref L.x), some (.int most), none, none, none, none]) (fun R hR => ?_) (fun σ G z => ?_)
  · refine ⟨_, rfl, a, 0, ns0, rfl, s1.seq hS, by decide, _, _, rfl, rfl, ⟨by decide, by decide⟩, _, _, rfl, rfl, (by show (0 : Int) < 3; decide), rfl, _, rfl, ite2 (fun _ => ?_) (fun _ => hR _ _ ⟨rfl, _, by omega, rfl⟩)⟩
    have p0 : (0 : Int) < 10 ^ (50 : Int).toNat := by decide
    have p1 := Int.emod_nonneg (ns0.getD (1 : Int).toNat 0) (show (10 : Int) ^ (50 : Int).toNat ≠ 0 by decide)
    exact ⟨_, rfl, a, 1, ns0, rfl, s1.seq hS, by decide, _, _, rfl, rfl, ⟨by decide, by decide, by decide⟩, _, _, rfl, rfl, p0, _, _, rfl, rfl, hR _ _ ⟨rfl, _, by omega, rfl⟩⟩
  obtain ⟨rfl, most, m0, rfl⟩ := z
  refine fun mm nmm => fun d1 n1 => fun d2 n2 => fun d3 n3 => ⟨small (Nat.zero_le _), fun wt nwt => ⟨small (Nat.zero_le _), fun tk ntk => ⟨_, rfl, ?_⟩⟩⟩
  have g1 := same_new nmm (.dK [])
  have hm1 : upd G mm (.dK []) mm = some (.dK []) := upd_same
  generalize upd G mm (.dK []) = G1 at g1 hm1 n1 n2 nwt n3 ntk ⊢
  have g2 := same_new n1 (.dK [])
  have hd1 : upd G1 d1 (.dK []) d1 = some (.dK []) := upd_same
  generalize upd G1 d1 (.dK []) = G2 at g2 hd1 n2 nwt n3 ntk ⊢
  have g3 := same_new n2 (.dK [])
  have hd2 : upd G2 d2 (.dK []) d2 = some (.dK []) := upd_same
  generalize upd G2 d2 (.dK []) = G3 at g3 hd2 nwt n3 ntk ⊢
  have g4 := same_new n3 (.dK [])
  have hd3 : upd G3 d3 (.dK []) d3 = some (.dK []) := upd_same
  generalize upd G3 d3 (.dK []) = G4 at g4 hd3 nwt ntk ⊢
  have g5 := same_new nwt (.lst [])
  have hwt : upd G4 wt (.lst []) wt = some (.lst []) := upd_same
  generalize upd G4 wt (.lst []) = G5 at g5 hwt ntk ⊢
  have g6 := same_new ntk (.lst [])
  have htk : upd G5 tk (.lst []) tk = some (.lst []) := upd_same
  generalize upd G5 tk (.lst []) = G6 at g6 htk ⊢
  have g56 := g5.trans g6
  have g46 := g4.trans g56
  have g36 := g3.trans g46
  have g26 := g2.trans g36
  have hm6 := g26 _ _ hm1
  refine ⟨hm6, mD ⟨mm, d1, d2, d3, wt, tk⟩ most, rfl, (by show 6 ≤ 15; decide), ?_⟩
  rw [merge44]
  have w2 := none_same g1 n1
  have w3 := none_same (g1.trans g2) n2
  have w4 := none_same ((g1.trans g2).trans g3) n3
  have w5 := none_same (((g1.trans g2).trans g3).trans g4) nwt
  have w6 := none_same ((((g1.trans g2).trans g3).trans g4).trans g5) ntk
  have s36 : Same G (upd G6 mm (.dK (mD ⟨mm, d1, d2, d3, wt, tk⟩ most))) := same_on nmm (g1.trans g26) _
  have x1 : mm ≠ d1 := ne_of_none hm1 n1
  have x2 : mm ≠ d2 := ne_of_none (g2 _ _ hm1) n2
  have x3 : mm ≠ d3 := ne_of_none (g3 _ _ (g2 _ _ hm1)) n3
  have x4 : mm ≠ wt := ne_of_none (g4 _ _ (g3 _ _ (g2 _ _ hm1))) nwt
  have x5 : mm ≠ tk := ne_of_none (g5 _ _ (g4 _ _ (g3 _ _ (g2 _ _ hm1)))) ntk
  have y2 : d1 ≠ d2 := ne_of_none hd1 n2
  have y3 : d1 ≠ d3 := ne_of_none (g3 _ _ hd1) n3
  have y4 : d1 ≠ wt := ne_of_none (g4 _ _ (g3 _ _ hd1)) nwt
  have y5 : d1 ≠ tk := ne_of_none (g5 _ _ (g4 _ _ (g3 _ _ hd1))) ntk
  have v3 : d2 ≠ d3 := ne_of_none hd2 n3
  have v4 : d2 ≠ wt := ne_of_none (g4 _ _ hd2) nwt
  have v5 : d2 ≠ tk := ne_of_none (g5 _ _ (g4 _ _ hd2)) ntk
  have u4 : d3 ≠ wt := ne_of_none hd3 nwt
  have u5 : d3 ≠ tk := ne_of_none (g5 _ _ hd3) ntk
  have t5 : wt ≠ tk := ne_of_none hwt ntk
  have mfn : ∀ b ∈ MC.cs ⟨mm, d1, d2, d3, wt, tk⟩, G b = none := fun b hb => by
    unfold MC.cs at hb
    simp only [List.mem_cons, List.not_mem_nil, or_false] at hb
    rcases hb with rfl | rfl | rfl | rfl | rfl | rfl
    · exact nmm
    · exact w2
    · exact w3
    · exact w4
    · exact w5
    · exact w6
  have ap0 : ∀ b ∈ MC.cs ⟨mm, d1, d2, d3, wt, tk⟩, ¬ LF L ⟨[], [], [], [], [], [], [], []⟩ b := fun b hb => lf_none N (mfn b hb)
  have A6 : LC (upd G6 mm (.dK (mD ⟨mm, d1, d2, d3, wt, tk⟩ most))) ⟨mm, d1, d2, d3, wt, tk⟩ most ⟨[], [], [], [], [], [], [], []⟩ [] [] := by
    refine ⟨upd_same, ?_, ?_, ?_, ?_, ?_, ?_, rfl, fun p hp => (by cases hp), fun p hp => (by cases hp), fun p hp => (by cases hp)⟩
    · show upd G6 mm _ d1 = _
      rw [upd_ne (Ne.symm x1)]
      exact g36 _ _ hd1
    · show upd G6 mm _ d2 = _
      rw [upd_ne (Ne.symm x2)]
      exact g46 _ _ hd2
    · show upd G6 mm _ d3 = _
      rw [upd_ne (Ne.symm x3)]
      exact g56 _ _ hd3
    · show upd G6 mm _ wt = _
      rw [upd_ne (Ne.symm x4)]
      exact g6 _ _ hwt
    · show upd G6 mm _ tk = _
      rw [upd_ne (Ne.symm x5)]
      exact htk
    · show [mm, d1, d2, d3, wt, tk].Nodup
      simp only [List.nodup_cons, List.mem_cons, List.not_mem_nil, or_false, not_or, not_false_eq_true, List.nodup_nil, and_true]
      exact ⟨⟨x1, x2, x3, x4, x5⟩, ⟨y2, y3, y4, y5⟩, ⟨v3, v4, v5⟩, ⟨u4, u5⟩, t5⟩
  have sH6 := s1.trans s36
  generalize hm : (2 + ns0.getD (2 : Int).toNat 0 % 5).toNat = m
  have z2 := Int.emod_nonneg (ns0.getD (2 : Int).toNat 0) (show (5 : Int) ≠ 0 by decide)
  have z3 := Int.emod_lt_of_pos (ns0.getD (2 : Int).toNat 0) (show (0 : Int) < 5 by decide)
  have m6 : m ≤ 6 := by omega
  have m2 : 2 ≤ m := by omega
  have LZ0 : LZ cLine tP_first_of (upd G6 mm (.dK (mD ⟨mm, d1, d2, d3, wt, tk⟩ most))) L ⟨mm, d1, d2, d3, wt, tk⟩ most ⟨[], [], [], [], [], [], [], []⟩ (ans m) 0 := ⟨N.same s36, A6, fun p hp => (by cases hp), fun p hp => (by cases hp), tab.same sH6, ap0, rfl, rfl, rfl, rfl, rfl, rfl, rfl, rfl⟩
  have hSk : ∀ {G : Hp}, (∀ b o, b ≠ tP_first_of → H b = some o → G b = some o) → SqL K G a (ns0.map V.int) := fun {G} k => by
    obtain ⟨tps, htp⟩ := tab.is
    rcases hS with (h | ⟨o, h⟩) | h
    · exact .inl (.inl (k _ _ (ne_of h htp (by intro z; cases z)) h))
    · exact .inl (.inr ⟨o, k _ _ (ne_of h htp (by intro z; cases z)) h⟩)
    · exact .inr h
  have csH : ∀ b o, H b = some o → ¬ b ∈ MC.cs ⟨mm, d1, d2, d3, wt, tk⟩ := fun b o e z => by have := mfn b z; rw [s1 _ _ e] at this; cases this
  have dsH : ∀ b o, H b = some o → ¬ b ∈ L.ds := fun b o e z => by have := fr0 b z; rw [this] at e; cases e
  generalize upd G6 mm (.dK (mD ⟨mm, d1, d2, d3, wt, tk⟩ most)) = H6 at A6 LZ0 s36 sH6 ⊢
  generalize hM : (⟨mm, d1, d2, d3, wt, tk⟩ : MC) = M at A6 LZ0 ap0 csH
  obtain rfl : mm = M.m := by rw [← hM]
  refine ⟨_, rfl, a, 2, ns0, rfl, hSk (fun b o _ e => sH6 b o e), by decide, _, _, rfl, rfl, (by show (0 : Int) < 5; decide), _, _, rfl, rfl, _, rfl, by omega, by omega, ?_⟩
  rw [hm]
  refine for_range (lo := 0) (n := m) (fun i σ G => ∃ (D : LD) (v4 v5 : Option V), σ = [some (.ref a), some (.ref L.x), some (.int most), some (.ref M.m), v4, v5, none] ∧ LZ cLine tP_first_of G L M most D (ans m) i ∧ ∀ b o, b ≠ tP_first_of → H b = some o → G b = some o) ⟨_, _, _, rfl, LZ0, fun b o _ e => sH6 b o e⟩ (fun i σ G hi z => ?_) (fun σ G z => ?_)
  · obtain ⟨D, v4, v5, rfl, Z, fr⟩ := z
    have as := an_small i (by omega)
    refine ⟨_, rfl, _, rfl, as.1, _, _, rfl, rfl, small as.2, ?_⟩
    rw [show Str.ofString "a" ++ Str.ofString (toString ((0 : Int) + (i : Int))) = an i from rfl]
    have enm := ans_at hi
    generalize an i = nm at enm ⊢
    refine ⟨small (by show 6 ≤ 1000; decide), fun pr npr => ?_⟩
    have k1 := same_new npr (.lst [V.int 1, .int 1, .int 1, .int 0, .int 2, .int 1])
    have hpr : upd G pr (.lst [V.int 1, .int 1, .int 1, .int 0, .int 2, .int 1]) pr = some (.lst [V.int 1, .int 1, .int 1, .int 0, .int 2, .int 1]) := upd_same
    generalize upd G pr (.lst [V.int 1, .int 1, .int 1, .int 0, .int 2, .int 1]) = K1 at k1 hpr ⊢
    refine ⟨_, rfl, a, 3, ns0, rfl, hSk (fun b o n e => k1 _ _ (fr b o n e)), by decide, _, rfl, _, _, _, rfl, by omega, by omega, by decide, fun K2 k2 => ?_⟩
    refine ⟨pr, _, _, rfl, rfl, SqL.of (k2 _ _ hpr), mix_lo (by decide), mix_hi (by decide), fun v hv => ?_⟩
    obtain ⟨rank, rfl⟩ := pick6 hv
    have lra : D.ra.length ≤ 6 := by
      have := congrArg List.length Z.kr
      unfold kys at this
      rw [List.length_map, List.length_take, ans_len] at this
      omega
    have llv : D.lv.length ≤ 1000 := by have := len_kys (Z.kl.trans Z.kr.symm); omega
    have lsh : D.sh.length ≤ 1000 := by have := len_kys (Z.ks.trans Z.kr.symm); omega
    obtain ⟨e1, e2, e3, e4, e5⟩ := Z.e
    have k12 := k1.trans k2
    have N2 := Z.N.same k12
    have A2 := Z.A.same k12
    have nn : ¬ nm ∈ kys D.ra := by rw [Z.kr]; exact nd_take (ans_nd m6) enm
    refine ⟨_, rfl, M.m, _, rfl, A2.get.1, _, rfl, M.rk, _, rfl, dput_dG inr_inj A2.rk (by omega) nm rank, ?_⟩
    have A4 := A2.set_rk (upG D.ra nm rank)
    have o4 : OffM M K2 (upd K2 M.rk (.dK (dG Sum.inr V.int (upG D.ra nm rank)))) := (OffM.of (Same.refl _)).set (List.mem_of_getElem? (i := 1) rfl) _
    generalize upd K2 M.rk (.dK (dG Sum.inr V.int (upG D.ra nm rank))) = K4 at A4 o4 ⊢
    have N4 := N2.offM A2 Z.ap o4
    have tab4 := tab_offM A2 (Z.tab.same k12) o4
    have fr4 : ∀ b o, b ≠ tP_first_of → H b = some o → K4 b = some o := fun b o n e => o4 _ _ (csH b o e) (k12 _ _ (fr b o n e))
    refine ⟨_, rfl, a, 4, ns0, rfl, hSk fr4, by decide, _, rfl, _, _, _, rfl, by omega, by omega, by decide, fun K5 k5 => ⟨_, _, rfl, rfl, ?_⟩⟩
    have q2 := mix_lo (c := ns0.getD (4 : Int).toNat 0) (k := 0 + (i : Int)) (show (0 : Int) < 10 by decide)
    have q3 := mix_hi (c := ns0.getD (4 : Int).toNat 0) (k := 0 + (i : Int)) (show (0 : Int) < 10 by decide)
    generalize mixV (ns0.getD (4 : Int).toNat 0) (0 + (i : Int)) 10 = sh0 at q2 q3 ⊢
    have A5 := A4.same k5
    refine ⟨_, rfl, M.m, _, rfl, A5.get.2.1, _, rfl, M.sh, _, rfl, dput_dG inr_inj A5.sh (by omega) nm (1 + sh0), ?_⟩
    have A6' := A5.set_sh (upG D.sh nm (1 + sh0))
    have o6' : OffM M K5 (upd K5 M.sh (.dK (dG Sum.inr V.int (upG D.sh nm (1 + sh0))))) := (OffM.of (Same.refl _)).set (List.mem_of_getElem? (i := 2) rfl) _
    have N5 := (N4.same k5).offM A5 Z.ap o6'
    have tab5 := tab_offM A5 (tab4.same k5) o6'
    have fr5 : ∀ b o, b ≠ tP_first_of → H b = some o → upd K5 M.sh (.dK (dG Sum.inr V.int (upG D.sh nm (1 + sh0)))) b = some o := fun b o n e => o6' _ _ (csH b o e) (k5 _ _ (fr4 b o n e))
    generalize upd K5 M.sh (.dK (dG Sum.inr V.int (upG D.sh nm (1 + sh0)))) = K6 at A6' o6' N5 tab5 fr5 ⊢
    have gr := dget_dG inr_inj A6'.rk nm
    rw [show lkG (upG D.ra nm rank) nm = some rank by rw [lkG_up, if_pos rfl]] at gr
    have gs := dget_dG inr_inj A6'.sh nm
    rw [show lkG (upG D.sh nm (1 + sh0)) nm = some (1 + sh0) by rw [lkG_up, if_pos rfl]] at gs
    have ZZ : D.Z := ⟨by omega, by omega, by omega, by rw [e1]; exact Nat.zero_le _, by rw [e2]; exact Nat.zero_le _, by rw [e3]; exact Nat.zero_le _, by rw [e4]; exact Nat.zero_le _, by rw [e5]; exact Nat.zero_le _, fun z hz => by rw [e4] at hz; cases hz⟩
    refine ⟨_, rfl, L.x, _, L.dx, _, _, _, rfl, N5.o, rfl, T.cl_Line, D_Line_add_asker, _, rfl, _, rfl, M.m, _, rfl, A6'.get.1, _, rfl, M.rk, _, rfl, gr, _, rfl, M.m, _, rfl, A6'.get.2.1, _, rfl, M.sh, _, rfl, gs, L, D, nm, rank, 1 + sh0, rfl, N5, ZZ, fun h => absurd h nn, fun _ K7 o7 N7 => ?_⟩
    have lfd : ∀ {b} {D' : LD}, D'.no = [] → LF L D' b → b ∈ L.ds := fun h hf => by
      rcases hf with hf | ⟨e, he, _⟩
      · exact hf
      · rw [h] at he
        cases he
    have enx : (ans m).take (i + 1) = (ans m).take i ++ [nm] := by rw [List.take_add_one, enm]; rfl
    refine ⟨_, _, _, rfl, ⟨N7, (A6'.keep N5 (fun b hb => by
        rcases hb with hb | ⟨u, hu, _⟩
        · exact Z.ap b hb
        · cases hu) (fun b o nb _ e => o7 b o nb e)).ch rfl rfl rfl rfl rfl, fun z hz => ?_, fun z hz => ?_, tab_off N5 tab5 o7, fun b hb hf => Z.ap b hb (.inl (lfd e4 hf)), ?_, ?_, ?_, e1, e2, e3, e4, e5⟩, fun b o n e => o7 _ _ (fun z => dsH b o e (lfd e4 z)) (fr5 b o n e)⟩
    · rcases upG_mem hz with hz | rfl
      · exact Z.sh z hz
      · exact ⟨by show (0 : Int) < 1 + sh0; omega, by show 1 + sh0 ≤ (10 : Int); omega⟩
    · rcases upG_mem hz with hz | rfl
      · exact Z.lz z hz
      · rfl
    · show kys (upG D.ra nm rank) = _
      rw [upG_kout nn, Z.kr, enx]
    · show kys (upG D.sh nm (1 + sh0)) = _
      rw [upG_kout (by rw [Z.ks, ← Z.kr]; exact nn), Z.ks, enx]
    · show kys (upG D.lv nm 0) = _
      rw [upG_kout (by rw [Z.kl, ← Z.kr]; exact nn), Z.kl, enx]
  · obtain ⟨D, v4, v5, rfl, Z, fr⟩ := z
    obtain ⟨ss, S⟩ := LZ.done (ns := ans m) (by rw [ans_len]; exact Z) (by rw [ans_len]; omega) (by rw [ans_len]; omega) m0
    refine ⟨_, rfl, _, rfl, a, _, rfl, hSk fr, fun sp nsp => ?_⟩
    rw [show cutV (ns0.map V.int) none (some 44) = (ns0.take 44).map V.int from (cut_to13 _ 44).trans (List.map_take).symm]
    have hs2 := same_new nsp (.lst ((ns0.take 44).map V.int))
    have hsp : upd G sp (.lst ((ns0.take 44).map V.int)) sp = some (.lst ((ns0.take 44).map V.int)) := upd_same
    generalize upd G sp (.lst ((ns0.take 44).map V.int)) = G8 at hs2 hsp ⊢
    have S8 := S.same hs2
    have n1 : ¬ LF L D sp := lf_none S.N nsp
    have n2 : ¬ sp ∈ M.cs := fun z => mc_none S.A nsp (.inl z)
    have l44 : (ns0.take 44).length ≤ 44 := by rw [List.length_take]; omega
    have e44 : ((((ns0.take 44).map V.int).length : Nat) : Int).toNat = (ns0.take 44).length := by rw [List.length_map]; exact Int.toNat_natCast _
    refine ⟨_, rfl, sp, _, rfl, .inl (SqL.of hsp), _, rfl, by omega, by rw [List.length_map]; omega, ?_⟩
    rw [e44]
    refine for_range (lo := 0) (n := (ns0.take 44).length) (fun i σ G => ∃ (D : LD) (jbs : List (Str × Addr)) (tks : List Tk) (trs : List Tr) (v4 v5 : Option V), σ = [some (.ref a), some (.ref L.x), some (.int most), some (.ref M.m), v4, v5, some (.ref sp)] ∧ LS cLine tP_first_of G L M most D jbs tks trs ss i (2 * i) ∧ G sp = some (.lst ((ns0.take 44).map V.int)) ∧ ¬ LF L D sp) ⟨D, [], [], [], _, _, rfl, S8, hsp, n1⟩ (fun i σ G hi z => ?_) (fun σ G z => ?_)
    · obtain ⟨D, jbs, tks, trs, v4, v5, rfl, S, hsp, n1⟩ := z
      refine ⟨_, rfl, _, rfl, _, rfl, _, rfl, sp, _, _, rfl, rfl, SqL.of hsp, by omega, by rw [List.length_map]; omega, fun v hv => ?_⟩
      obtain ⟨c, rfl⟩ := int_of hv
      refine ⟨_, rfl, L, M, most, D, jbs, tks, trs, ss, i, 2 * i, c, i, by rw [Int.zero_add]; rfl, S, by omega, by omega, by omega, fun D' jbs' tks' trs' H' S' d' => ⟨_, rfl, iteF ?_⟩⟩
      obtain ⟨tps, htp⟩ := S.tab.is
      exact ⟨D', jbs', tks', trs', _, _, rfl, S', d'.1 _ _ (ne_of hsp htp (by intro z; cases z)) n2 n1 hsp, fun z => n1 (d'.2 _ _ z hsp)⟩
    · obtain ⟨D, jbs, tks, trs, v4, v5, rfl, S, hsp, n1⟩ := z
      exact ⟨_, rfl, M, most, D, jbs, tks, trs, ss, rfl, ⟨S.A, S.pm, S.sr, S.s6, S.O.sk, S.sb, S.m0, S.ch, S.mt, Nat.le_trans S.zt (by omega)⟩, fun H' => q _⟩
end
end My
def PySem.W.Fast.tw16462827175066982536 : Nat := 0
def PySem.W.Fast.tw11583995331406224662 : Nat := 0
def PySem.W.Fast.tw16781078493701884543 : Nat := 0
def PySem.W.Fast.tw10042683677111016563 : Nat := 0
def PySem.W.Fast.tw4358697581835005533 : Nat := 0
def PySem.W.Fast.tw12969805565823337565 : Nat := 0
def PySem.W.Fast.tw18158877263348761693 : Nat := 0
def PySem.W.Fast.tw9763138605769088175 : Nat := 0
def PySem.W.Fast.tw8202994446975237287 : Nat := 0
def PySem.W.Fast.tw15832824201091192373 : Nat := 0
namespace My
open PySem L2
theorem all_mk {l : PySem.W.OpenLaw} {w : World} {K : PySem.W.Frag} {h : Heap} {mg : Str → Option Value} {fa cLine cUnknown cTwice cHallError tP_first_of f0 f1 f2 f3 f4 f5 f6 f7 f8 f9 f10 f11 f12 f13 f14 f15 f16 f17 f18 f19 f20 f21 f22 f23 f24 f25 f26 f27 f28 f29 f30 f31 f32 : Addr} (X : K.In h) (G : h.Ns mainGlobals mg) (hfa : mg "law" = some (.ref fa))
    {od0 an0 od1 an1 od2 an2 od3 an3 od4 an4 od5 an5 od6 an6 od7 an7 od8 an8 od9 an9 od10 an10 od11 an11 od12 an12 od13 an13 od14 an14 od15 an15 od16 an16 od17 an17 od18 an18 od19 an19 od20 an20 od21 an21 od22 an22 od23 an23 od24 an24 od25 an25 od26 an26 od27 an27 od28 an28 od29 an29 od30 an30 od31 an31 od32 an32 : Option Addr} {sl0 sl1 sl2 sl3 sl4 sl5 sl6 sl7 sl8 sl9 sl10 sl11 sl12 sl13 sl14 sl15 sl16 sl17 sl18 sl19 sl20 sl21 sl22 sl23 sl24 sl25 sl26 sl27 sl28 sl29 sl30 sl31 sl32 : Array (Option Value)}
    {oc0 kV0 dc0 pm0 cd0 ct0 oc1 kV1 dc1 pm1 cd1 ct1 oc2 kV2 dc2 pm2 cd2 ct2 oc3 kV3 dc3 pm3 cd3 ct3 oc4 kV4 dc4 pm4 cd4 ct4 oc5 kV5 dc5 pm5 cd5 ct5 oc6 kV6 dc6 pm6 cd6 ct6 oc7 kV7 dc7 pm7 cd7 ct7 oc8 kV8 dc8 pm8 cd8 ct8 oc9 kV9 dc9 pm9 cd9 ct9 oc10 kV10 dc10 pm10 cd10 ct10 oc11 kV11 dc11 pm11 cd11 ct11 oc12 kV12 dc12 pm12 cd12 ct12 oc13 kV13 dc13 pm13 cd13 ct13 oc14 kV14 dc14 pm14 cd14 ct14 oc15 kV15 dc15 pm15 cd15 ct15 oc16 kV16 dc16 pm16 cd16 ct16 oc17 kV17 dc17 pm17 cd17 ct17 oc18 kV18 dc18 pm18 cd18 ct18 oc19 kV19 dc19 pm19 cd19 ct19 oc20 kV20 dc20 pm20 cd20 ct20 oc21 kV21 dc21 pm21 cd21 ct21 oc22 kV22 dc22 pm22 cd22 ct22 oc23 kV23 dc23 pm23 cd23 ct23 oc24 kV24 dc24 pm24 cd24 ct24 oc25 kV25 dc25 pm25 cd25 ct25 oc26 kV26 dc26 pm26 cd26 ct26 oc27 kV27 dc27 pm27 cd27 ct27 oc28 kV28 dc28 pm28 cd28 ct28 oc29 kV29 dc29 pm29 cd29 ct29 oc30 kV30 dc30 pm30 cd30 ct30 oc31 kV31 dc31 pm31 cd31 ct31 oc32 kV32 dc32 pm32 cd32 ct32 : Value}
    (aC_Line : PySem.W.nsIn K mainGlobals "Line" = some (some (.ref cLine)))
    (aC_Unknown : PySem.W.nsIn K mainGlobals "Unknown" = some (some (.ref cUnknown)))
    (aC_Twice : PySem.W.nsIn K mainGlobals "Twice" = some (some (.ref cTwice)))
    (aC_HallError : PySem.W.nsIn K mainGlobals "HallError" = some (some (.ref cHallError)))
    (a0 : PySem.W.findIn K (.ref cUnknown) "__init__" = some (some (.ref f0)))
    (i0 : PySem.W.isFn K (.ref f0) = true)
    (l0 : K.lookup f0 = some ⟨oc0, od0, .func (PySem.W.fnOf "__init__" "Unknown.__init__" (defArgs s_Unknown_init) (defBody s_Unknown_init) (defScope s_Unknown_init) .none kV0 dc0 pm0 an0 cd0 ct0), sl0⟩)
    (c0 : PySem.W.codeIn K cd0 "Unknown.__init__" = true)
    (k0 : PySem.W.keepIn K (.ref f0) = true)
    (a1 : PySem.W.findIn K (.ref cTwice) "__init__" = some (some (.ref f1)))
    (i1 : PySem.W.isFn K (.ref f1) = true)
    (l1 : K.lookup f1 = some ⟨oc1, od1, .func (PySem.W.fnOf "__init__" "Twice.__init__" (defArgs s_Twice_init) (defBody s_Twice_init) (defScope s_Twice_init) .none kV1 dc1 pm1 an1 cd1 ct1), sl1⟩)
    (c1 : PySem.W.codeIn K cd1 "Twice.__init__" = true)
    (k1 : PySem.W.keepIn K (.ref f1) = true)
    (a2 : PySem.W.nsIn K mainGlobals "grown" = some (some (.ref f2)))
    (l2 : K.lookup f2 = some ⟨oc2, od2, .func (PySem.W.fnOf "grown" "grown" (defArgs s_grown) (defBody s_grown) (defScope s_grown) .none kV2 dc2 pm2 an2 cd2 ct2), sl2⟩)
    (c2 : PySem.W.codeIn K cd2 "grown" = true)
    (k2 : PySem.W.keepIn K (.ref f2) = true)
    (a3 : PySem.W.nsIn K mainGlobals "lifted" = some (some (.ref f3)))
    (l3 : K.lookup f3 = some ⟨oc3, od3, .func (PySem.W.fnOf "lifted" "lifted" (defArgs s_lifted) (defBody s_lifted) (defScope s_lifted) .none kV3 dc3 pm3 an3 cd3 ct3), sl3⟩)
    (c3 : PySem.W.codeIn K cd3 "lifted" = true)
    (k3 : PySem.W.keepIn K (.ref f3) = true)
    (a4 : PySem.W.nsIn K mainGlobals "first_of" = some (some (.ref f4)))
    (l4 : K.lookup f4 = some ⟨oc4, od4, .func (PySem.W.fnOf "first_of" "first_of" (defArgs s_first_of) (defBody s_first_of) (defScope s_first_of) .none kV4 dc4 pm4 an4 cd4 ct4), sl4⟩)
    (c4 : PySem.W.codeIn K cd4 "first_of" = true)
    (k4 : PySem.W.keepIn K (.ref f4) = true)
    (a5 : PySem.W.nsIn K mainGlobals "as_keys" = some (some (.ref f5)))
    (l5 : K.lookup f5 = some ⟨oc5, od5, .func (PySem.W.fnOf "as_keys" "as_keys" (defArgs s_as_keys) (defBody s_as_keys) (defScope s_as_keys) .none kV5 dc5 pm5 an5 cd5 ct5), sl5⟩)
    (c5 : PySem.W.codeIn K cd5 "as_keys" = true)
    (k5 : PySem.W.keepIn K (.ref f5) = true)
    (a6 : PySem.W.findIn K (.ref cLine) "__init__" = some (some (.ref f6)))
    (i6 : PySem.W.isFn K (.ref f6) = true)
    (l6 : K.lookup f6 = some ⟨oc6, od6, .func (PySem.W.fnOf "__init__" "Line.__init__" (defArgs s_Line_init) (defBody s_Line_init) (defScope s_Line_init) .none kV6 dc6 pm6 an6 cd6 ct6), sl6⟩)
    (c6 : PySem.W.codeIn K cd6 "Line.__init__" = true)
    (k6 : PySem.W.keepIn K (.ref f6) = true)
    (a7 : PySem.W.findIn K (.ref cLine) "add_asker" = some (some (.ref f7)))
    (i7 : PySem.W.isFn K (.ref f7) = true)
    (l7 : K.lookup f7 = some ⟨oc7, od7, .func (PySem.W.fnOf "add_asker" "Line.add_asker" (defArgs s_Line_add_asker) (defBody s_Line_add_asker) (defScope s_Line_add_asker) .none kV7 dc7 pm7 an7 cd7 ct7), sl7⟩)
    (c7 : PySem.W.codeIn K cd7 "Line.add_asker" = true)
    (k7 : PySem.W.keepIn K (.ref f7) = true)
    (a8 : PySem.W.findIn K (.ref cLine) "lay" = some (some (.ref f8)))
    (i8 : PySem.W.isFn K (.ref f8) = true)
    (l8 : K.lookup f8 = some ⟨oc8, od8, .func (PySem.W.fnOf "lay" "Line.lay" (defArgs s_Line_lay) (defBody s_Line_lay) (defScope s_Line_lay) .none kV8 dc8 pm8 an8 cd8 ct8), sl8⟩)
    (c8 : PySem.W.codeIn K cd8 "Line.lay" = true)
    (k8 : PySem.W.keepIn K (.ref f8) = true)
    (a9 : PySem.W.findIn K (.ref cLine) "waiting" = some (some (.ref f9)))
    (i9 : PySem.W.isFn K (.ref f9) = true)
    (l9 : K.lookup f9 = some ⟨oc9, od9, .func (PySem.W.fnOf "waiting" "Line.waiting" (defArgs s_Line_waiting) (defBody s_Line_waiting) (defScope s_Line_waiting) .none kV9 dc9 pm9 an9 cd9 ct9), sl9⟩)
    (c9 : PySem.W.codeIn K cd9 "Line.waiting" = true)
    (k9 : PySem.W.keepIn K (.ref f9) = true)
    (a10 : PySem.W.findIn K (.ref cLine) "level" = some (some (.ref f10)))
    (i10 : PySem.W.isFn K (.ref f10) = true)
    (l10 : K.lookup f10 = some ⟨oc10, od10, .func (PySem.W.fnOf "level" "Line.level" (defArgs s_Line_level) (defBody s_Line_level) (defScope s_Line_level) .none kV10 dc10 pm10 an10 cd10 ct10), sl10⟩)
    (c10 : PySem.W.codeIn K cd10 "Line.level" = true)
    (k10 : PySem.W.keepIn K (.ref f10) = true)
    (a11 : PySem.W.findIn K (.ref cLine) "mark" = some (some (.ref f11)))
    (i11 : PySem.W.isFn K (.ref f11) = true)
    (l11 : K.lookup f11 = some ⟨oc11, od11, .func (PySem.W.fnOf "mark" "Line.mark" (defArgs s_Line_mark) (defBody s_Line_mark) (defScope s_Line_mark) .none kV11 dc11 pm11 an11 cd11 ct11), sl11⟩)
    (c11 : PySem.W.codeIn K cd11 "Line.mark" = true)
    (k11 : PySem.W.keepIn K (.ref f11) = true)
    (a12 : PySem.W.findIn K (.ref cLine) "take" = some (some (.ref f12)))
    (i12 : PySem.W.isFn K (.ref f12) = true)
    (l12 : K.lookup f12 = some ⟨oc12, od12, .func (PySem.W.fnOf "take" "Line.take" (defArgs s_Line_take) (defBody s_Line_take) (defScope s_Line_take) .none kV12 dc12 pm12 an12 cd12 ct12), sl12⟩)
    (c12 : PySem.W.codeIn K cd12 "Line.take" = true)
    (k12 : PySem.W.keepIn K (.ref f12) = true)
    (a13 : PySem.W.findIn K (.ref cLine) "pull" = some (some (.ref f13)))
    (i13 : PySem.W.isFn K (.ref f13) = true)
    (l13 : K.lookup f13 = some ⟨oc13, od13, .func (PySem.W.fnOf "pull" "Line.pull" (defArgs s_Line_pull) (defBody s_Line_pull) (defScope s_Line_pull) .none kV13 dc13 pm13 an13 cd13 ct13), sl13⟩)
    (c13 : PySem.W.codeIn K cd13 "Line.pull" = true)
    (k13 : PySem.W.keepIn K (.ref f13) = true)
    (a14 : PySem.W.findIn K (.ref cLine) "must_know" = some (some (.ref f14)))
    (i14 : PySem.W.isFn K (.ref f14) = true)
    (l14 : K.lookup f14 = some ⟨oc14, od14, .func (PySem.W.fnOf "must_know" "Line.must_know" (defArgs s_Line_must_know) (defBody s_Line_must_know) (defScope s_Line_must_know) .none kV14 dc14 pm14 an14 cd14 ct14), sl14⟩)
    (c14 : PySem.W.codeIn K cd14 "Line.must_know" = true)
    (k14 : PySem.W.keepIn K (.ref f14) = true)
    (a15 : PySem.W.findIn K (.ref cLine) "must_wait" = some (some (.ref f15)))
    (i15 : PySem.W.isFn K (.ref f15) = true)
    (l15 : K.lookup f15 = some ⟨oc15, od15, .func (PySem.W.fnOf "must_wait" "Line.must_wait" (defArgs s_Line_must_wait) (defBody s_Line_must_wait) (defScope s_Line_must_wait) .none kV15 dc15 pm15 an15 cd15 ct15), sl15⟩)
    (c15 : PySem.W.codeIn K cd15 "Line.must_wait" = true)
    (k15 : PySem.W.keepIn K (.ref f15) = true)
    (a16 : PySem.W.findIn K (.ref cLine) "has_waiting" = some (some (.ref f16)))
    (i16 : PySem.W.isFn K (.ref f16) = true)
    (l16 : K.lookup f16 = some ⟨oc16, od16, .func (PySem.W.fnOf "has_waiting" "Line.has_waiting" (defArgs s_Line_has_waiting) (defBody s_Line_has_waiting) (defScope s_Line_has_waiting) .none kV16 dc16 pm16 an16 cd16 ct16), sl16⟩)
    (c16 : PySem.W.codeIn K cd16 "Line.has_waiting" = true)
    (k16 : PySem.W.keepIn K (.ref f16) = true)
    (a17 : PySem.W.findIn K (.ref cLine) "chosen" = some (some (.ref f17)))
    (i17 : PySem.W.isFn K (.ref f17) = true)
    (l17 : K.lookup f17 = some ⟨oc17, od17, .func (PySem.W.fnOf "chosen" "Line.chosen" (defArgs s_Line_chosen) (defBody s_Line_chosen) (defScope s_Line_chosen) .none kV17 dc17 pm17 an17 cd17 ct17), sl17⟩)
    (c17 : PySem.W.codeIn K cd17 "Line.chosen" = true)
    (k17 : PySem.W.keepIn K (.ref f17) = true)
    (a18 : PySem.W.findIn K (.ref cLine) "firsts_of" = some (some (.ref f18)))
    (i18 : PySem.W.isFn K (.ref f18) = true)
    (l18 : K.lookup f18 = some ⟨oc18, od18, .func (PySem.W.fnOf "firsts_of" "Line.firsts_of" (defArgs s_Line_firsts_of) (defBody s_Line_firsts_of) (defScope s_Line_firsts_of) .none kV18 dc18 pm18 an18 cd18 ct18), sl18⟩)
    (c18 : PySem.W.codeIn K cd18 "Line.firsts_of" = true)
    (k18 : PySem.W.keepIn K (.ref f18) = true)
    (a19 : PySem.W.findIn K (.ref cLine) "level_behind" = some (some (.ref f19)))
    (i19 : PySem.W.isFn K (.ref f19) = true)
    (l19 : K.lookup f19 = some ⟨oc19, od19, .func (PySem.W.fnOf "level_behind" "Line.level_behind" (defArgs s_Line_level_behind) (defBody s_Line_level_behind) (defScope s_Line_level_behind) .none kV19 dc19 pm19 an19 cd19 ct19), sl19⟩)
    (c19 : PySem.W.codeIn K cd19 "Line.level_behind" = true)
    (k19 : PySem.W.keepIn K (.ref f19) = true)
    (a20 : PySem.W.findIn K (.ref cLine) "charge" = some (some (.ref f20)))
    (i20 : PySem.W.isFn K (.ref f20) = true)
    (l20 : K.lookup f20 = some ⟨oc20, od20, .func (PySem.W.fnOf "charge" "Line.charge" (defArgs s_Line_charge) (defBody s_Line_charge) (defScope s_Line_charge) .none kV20 dc20 pm20 an20 cd20 ct20), sl20⟩)
    (c20 : PySem.W.codeIn K cd20 "Line.charge" = true)
    (k20 : PySem.W.keepIn K (.ref f20) = true)
    (a21 : PySem.W.findIn K (.ref cLine) "note_taken" = some (some (.ref f21)))
    (i21 : PySem.W.isFn K (.ref f21) = true)
    (l21 : K.lookup f21 = some ⟨oc21, od21, .func (PySem.W.fnOf "note_taken" "Line.note_taken" (defArgs s_Line_note_taken) (defBody s_Line_note_taken) (defScope s_Line_note_taken) .none kV21 dc21 pm21 an21 cd21 ct21), sl21⟩)
    (c21 : PySem.W.codeIn K cd21 "Line.note_taken" = true)
    (k21 : PySem.W.keepIn K (.ref f21) = true)
    (a22 : PySem.W.findIn K (.ref cLine) "why_ahead" = some (some (.ref f22)))
    (i22 : PySem.W.isFn K (.ref f22) = true)
    (l22 : K.lookup f22 = some ⟨oc22, od22, .func (PySem.W.fnOf "why_ahead" "Line.why_ahead" (defArgs s_Line_why_ahead) (defBody s_Line_why_ahead) (defScope s_Line_why_ahead) .none kV22 dc22 pm22 an22 cd22 ct22), sl22⟩)
    (c22 : PySem.W.codeIn K cd22 "Line.why_ahead" = true)
    (k22 : PySem.W.keepIn K (.ref f22) = true)
    (a23 : PySem.W.nsIn K mainGlobals "_law_cell_at" = some (some (.ref f23)))
    (l23 : K.lookup f23 = some ⟨oc23, od23, .func (PySem.W.fnOf "_law_cell_at" "_law_cell_at" (defArgs s__law_cell_at) (defBody s__law_cell_at) (defScope s__law_cell_at) .none kV23 dc23 pm23 an23 cd23 ct23), sl23⟩)
    (c23 : PySem.W.codeIn K cd23 "_law_cell_at" = true)
    (k23 : PySem.W.keepIn K (.ref f23) = true)
    (a24 : PySem.W.nsIn K mainGlobals "_law_mix" = some (some (.ref f24)))
    (l24 : K.lookup f24 = some ⟨oc24, od24, .func (PySem.W.fnOf "_law_mix" "_law_mix" (defArgs s__law_mix) (defBody s__law_mix) (defScope s__law_mix) .none kV24 dc24 pm24 an24 cd24 ct24), sl24⟩)
    (c24 : PySem.W.codeIn K cd24 "_law_mix" = true)
    (k24 : PySem.W.keepIn K (.ref f24) = true)
    (a25 : PySem.W.nsIn K mainGlobals "_law_has" = some (some (.ref f25)))
    (l25 : K.lookup f25 = some ⟨oc25, od25, .func (PySem.W.fnOf "_law_has" "_law_has" (defArgs s__law_has) (defBody s__law_has) (defScope s__law_has) .none kV25 dc25 pm25 an25 cd25 ct25), sl25⟩)
    (c25 : PySem.W.codeIn K cd25 "_law_has" = true)
    (k25 : PySem.W.keepIn K (.ref f25) = true)
    (a26 : PySem.W.nsIn K mainGlobals "_law_take" = some (some (.ref f26)))
    (l26 : K.lookup f26 = some ⟨oc26, od26, .func (PySem.W.fnOf "_law_take" "_law_take" (defArgs s__law_take) (defBody s__law_take) (defScope s__law_take) .none kV26 dc26 pm26 an26 cd26 ct26), sl26⟩)
    (c26 : PySem.W.codeIn K cd26 "_law_take" = true)
    (k26 : PySem.W.keepIn K (.ref f26) = true)
    (a27 : PySem.W.nsIn K mainGlobals "_law_lay" = some (some (.ref f27)))
    (l27 : K.lookup f27 = some ⟨oc27, od27, .func (PySem.W.fnOf "_law_lay" "_law_lay" (defArgs s__law_lay) (defBody s__law_lay) (defScope s__law_lay) .none kV27 dc27 pm27 an27 cd27 ct27), sl27⟩)
    (c27 : PySem.W.codeIn K cd27 "_law_lay" = true)
    (k27 : PySem.W.keepIn K (.ref f27) = true)
    (a28 : PySem.W.nsIn K mainGlobals "_law_done" = some (some (.ref f28)))
    (l28 : K.lookup f28 = some ⟨oc28, od28, .func (PySem.W.fnOf "_law_done" "_law_done" (defArgs s__law_done) (defBody s__law_done) (defScope s__law_done) .none kV28 dc28 pm28 an28 cd28 ct28), sl28⟩)
    (c28 : PySem.W.codeIn K cd28 "_law_done" = true)
    (k28 : PySem.W.keepIn K (.ref f28) = true)
    (a29 : PySem.W.nsIn K mainGlobals "_law_both_fair" = some (some (.ref f29)))
    (l29 : K.lookup f29 = some ⟨oc29, od29, .func (PySem.W.fnOf "_law_both_fair" "_law_both_fair" (defArgs s__law_both_fair) (defBody s__law_both_fair) (defScope s__law_both_fair) .none kV29 dc29 pm29 an29 cd29 ct29), sl29⟩)
    (c29 : PySem.W.codeIn K cd29 "_law_both_fair" = true)
    (k29 : PySem.W.keepIn K (.ref f29) = true)
    (a30 : PySem.W.nsIn K mainGlobals "_law_not_passed" = some (some (.ref f30)))
    (l30 : K.lookup f30 = some ⟨oc30, od30, .func (PySem.W.fnOf "_law_not_passed" "_law_not_passed" (defArgs s__law_not_passed) (defBody s__law_not_passed) (defScope s__law_not_passed) .none kV30 dc30 pm30 an30 cd30 ct30), sl30⟩)
    (c30 : PySem.W.codeIn K cd30 "_law_not_passed" = true)
    (k30 : PySem.W.keepIn K (.ref f30) = true)
    (a31 : PySem.W.nsIn K mainGlobals "_law_fair" = some (some (.ref f31)))
    (l31 : K.lookup f31 = some ⟨oc31, od31, .func (PySem.W.fnOf "_law_fair" "_law_fair" (defArgs s__law_fair) (defBody s__law_fair) (defScope s__law_fair) .none kV31 dc31 pm31 an31 cd31 ct31), sl31⟩)
    (c31 : PySem.W.codeIn K cd31 "_law_fair" = true)
    (k31 : PySem.W.keepIn K (.ref f31) = true)
    (a32 : PySem.W.nsIn K mainGlobals "law" = some (some (.ref f32)))
    (l32 : K.lookup f32 = some ⟨oc32, od32, .func (PySem.W.fnOf "law" "law" (defArgs s_law) (defBody s_law) (defScope s_law) .none kV32 dc32 pm32 an32 cd32 ct32), sl32⟩)
    (c32 : PySem.W.codeIn K cd32 "law" = true)
    (k32 : PySem.W.keepIn K (.ref f32) = true)
    (pg_Line : PySem.W.plainGet K cLine Str.empty = true)
    (hd_Line : PySem.W.hasDictIn K cLine = true)
    (po_Line : PySem.W.plainOver K cLine = true)
    (sa_Line : PySem.W.findIn K (.ref cLine) "__setattr__" = some (some (.builtin "object.__setattr__")))
    (mk_Line : PySem.W.makesIn K cLine = true)
    (kc_Line : PySem.W.keepIn K (.ref cLine) = true)
    (na_Line_ranks : PySem.W.findIn K (.ref cLine) "ranks" = some none)
    (na_Line_shares : PySem.W.findIn K (.ref cLine) "shares" = some none)
    (na_Line_levels : PySem.W.findIn K (.ref cLine) "levels" = some none)
    (na_Line_marks : PySem.W.findIn K (.ref cLine) "marks" = some none)
    (na_Line_owners : PySem.W.findIn K (.ref cLine) "owners" = some none)
    (na_Line_costs : PySem.W.findIn K (.ref cLine) "costs" = some none)
    (na_Line_notes : PySem.W.findIn K (.ref cLine) "notes" = some none)
    (na_Line_queue : PySem.W.findIn K (.ref cLine) "queue" = some none)
    (xc_Unknown : xcls K cUnknown ["name"] = true)
    (xm_Unknown : PySem.W.excMk K cUnknown = true)
    (kc_Unknown : PySem.W.keepIn K (.ref cUnknown) = true)
    (xc_Twice : xcls K cTwice ["name"] = true)
    (xm_Twice : PySem.W.excMk K cTwice = true)
    (kc_Twice : PySem.W.keepIn K (.ref cTwice) = true)
    (am_Line_must_know : PySem.W.findIn K (.ref cLine) "must_know" = some (some (.ref f14)))
    (am_Line_has_waiting : PySem.W.findIn K (.ref cLine) "has_waiting" = some (some (.ref f16)))
    (am_Line_mark : PySem.W.findIn K (.ref cLine) "mark" = some (some (.ref f11)))
    (am_Line_must_wait : PySem.W.findIn K (.ref cLine) "must_wait" = some (some (.ref f15)))
    (am_Line_chosen : PySem.W.findIn K (.ref cLine) "chosen" = some (some (.ref f17)))
    (am_Line_charge : PySem.W.findIn K (.ref cLine) "charge" = some (some (.ref f20)))
    (am_Line_note_taken : PySem.W.findIn K (.ref cLine) "note_taken" = some (some (.ref f21)))
    (am_Line_firsts_of : PySem.W.findIn K (.ref cLine) "firsts_of" = some (some (.ref f18)))
    (am_Line_level_behind : PySem.W.findIn K (.ref cLine) "level_behind" = some (some (.ref f19)))
    (am_Line_why_ahead : PySem.W.findIn K (.ref cLine) "why_ahead" = some (some (.ref f22)))
    (am_Line_take : PySem.W.findIn K (.ref cLine) "take" = some (some (.ref f12)))
    (am_Line_lay : PySem.W.findIn K (.ref cLine) "lay" = some (some (.ref f8)))
    (am_Line_pull : PySem.W.findIn K (.ref cLine) "pull" = some (some (.ref f13)))
    (am_Line_add_asker : PySem.W.findIn K (.ref cLine) "add_asker" = some (some (.ref f7)))
    (xcn : PySem.W.specialIn K (.builtin "object.__class__") "__get__" = some (some (.builtin "getset_descriptor.__get__")))
    (xct : PySem.W.takesIn K (.builtin "object.__class__") = some true)
    (xb1 : PySem.W.specialIn K (.ref cHallError) "__getattribute__" = some (some (.builtin "type.__getattribute__")))
    (xb2 : PySem.W.readsIn K cHallError (.type "type") = true)
    (xb3 : PySem.W.findCls K (.ref cHallError) (.type "type") "__init__" = some (.val (.builtin "ValueError.__init__")))
    (xkt : kitTab K [cUnknown, cTwice] cHallError = true)
    {xCOMMON : Int} {tCOMMON : Tok}
    (gCOMMON : PySem.W.nsIn K mainGlobals "COMMON" = some (some (.int xCOMMON tCOMMON)))
    (eCOMMON : xCOMMON = 2520)
    {xUNABLE : Str} {tUNABLE : Tok}
    (gUNABLE : PySem.W.nsIn K mainGlobals "UNABLE" = some (some (.str xUNABLE tUNABLE)))
    (eUNABLE : xUNABLE = Str.ofString "unable")
    {xOWN : Str} {tOWN : Tok}
    (gOWN : PySem.W.nsIn K mainGlobals "OWN" = some (some (.str xOWN tOWN)))
    (eOWN : xOWN = Str.ofString "own")
    {xRANK : Str} {tRANK : Tok}
    (gRANK : PySem.W.nsIn K mainGlobals "RANK" = some (some (.str xRANK tRANK)))
    (eRANK : xRANK = Str.ofString "rank")
    {xSHARE : Str} {tSHARE : Tok}
    (gSHARE : PySem.W.nsIn K mainGlobals "SHARE" = some (some (.str xSHARE tSHARE)))
    (eSHARE : xSHARE = Str.ofString "share")
    (z_len : PySem.W.nsIn K mainGlobals "len" = some none)
    (z_range : PySem.W.nsIn K mainGlobals "range" = some none)
    (z_str : PySem.W.nsIn K mainGlobals "str" = some none)
    (z_list : PySem.W.nsIn K mainGlobals "list" = some none)
    (z_min : PySem.W.nsIn K mainGlobals "min" = some none)
    (z_max : PySem.W.nsIn K mainGlobals "max" = some none)
    (z_dict : PySem.W.nsIn K mainGlobals "dict" = some none)
    (z_sorted : PySem.W.nsIn K mainGlobals "sorted" = some none)
    (z_any : PySem.W.nsIn K mainGlobals "any" = some none)
    (z_abs : PySem.W.nsIn K mainGlobals "abs" = some none)
    (z_ValueError : PySem.W.nsIn K mainGlobals "ValueError" = some none)
    {cL_first_of : Addr}
    (hl_first_of : cd4 = .ref cL_first_of)
    (hc_first_of : PySem.W.codeHdIn K cL_first_of tP_first_of = true)
    : ∃ fd : FuncData, (∀ (s : Shared) (v : Value), BindsTo s fd ⟨[v], []⟩ [("_law_script", v)]) ∧ (∃ c, PySem.W.codeHdIn K c tP_first_of = true) ∧ ∀ base : Heap, K.In base → base.Ns mainGlobals mg → BMain base mg → FnOk l.prog w K mg base CX0 7 fa fd ["_law_script"] (sp_law K tP_first_of) := by
  have e := hfa.symm.trans (PySem.W.mg_of X G a32)
  cases e
  have F0 := fun_mk (st := s_Unknown_init) l0 c0 k0
  have F1 := fun_mk (st := s_Twice_init) l1 c1 k1
  have F2 := fun_mk (st := s_grown) l2 c2 k2
  have F3 := fun_mk (st := s_lifted) l3 c3 k3
  have F4 := fun_mk (st := s_first_of) l4 c4 k4
  have F5 := fun_mk (st := s_as_keys) l5 c5 k5
  have F6 := fun_mk (st := s_Line_init) l6 c6 k6
  have F7 := fun_mk (st := s_Line_add_asker) l7 c7 k7
  have F8 := fun_mk (st := s_Line_lay) l8 c8 k8
  have F9 := fun_mk (st := s_Line_waiting) l9 c9 k9
  have F10 := fun_mk (st := s_Line_level) l10 c10 k10
  have F11 := fun_mk (st := s_Line_mark) l11 c11 k11
  have F12 := fun_mk (st := s_Line_take) l12 c12 k12
  have F13 := fun_mk (st := s_Line_pull) l13 c13 k13
  have F14 := fun_mk (st := s_Line_must_know) l14 c14 k14
  have F15 := fun_mk (st := s_Line_must_wait) l15 c15 k15
  have F16 := fun_mk (st := s_Line_has_waiting) l16 c16 k16
  have F17 := fun_mk (st := s_Line_chosen) l17 c17 k17
  have F18 := fun_mk (st := s_Line_firsts_of) l18 c18 k18
  have F19 := fun_mk (st := s_Line_level_behind) l19 c19 k19
  have F20 := fun_mk (st := s_Line_charge) l20 c20 k20
  have F21 := fun_mk (st := s_Line_note_taken) l21 c21 k21
  have F22 := fun_mk (st := s_Line_why_ahead) l22 c22 k22
  have F23 := fun_mk (st := s__law_cell_at) l23 c23 k23
  have F24 := fun_mk (st := s__law_mix) l24 c24 k24
  have F25 := fun_mk (st := s__law_has) l25 c25 k25
  have F26 := fun_mk (st := s__law_take) l26 c26 k26
  have F27 := fun_mk (st := s__law_lay) l27 c27 k27
  have F28 := fun_mk (st := s__law_done) l28 c28 k28
  have F29 := fun_mk (st := s__law_both_fair) l29 c29 k29
  have F30 := fun_mk (st := s__law_not_passed) l30 c30 k30
  have F31 := fun_mk (st := s__law_fair) l31 c31 k31
  have F32 := fun_mk (st := s_law) l32 c32 k32
  have b0 := F0.binds (ps := ["self", "name"]) fun _ _ _ _ _ _ us hl => match us, hl with | [_, _], _ => rfl
  have b1 := F1.binds (ps := ["self", "name"]) fun _ _ _ _ _ _ us hl => match us, hl with | [_, _], _ => rfl
  have b2 := F2.binds (ps := ["level", "cost", "share"]) fun _ _ _ _ _ _ us hl => match us, hl with | [_, _, _], _ => rfl
  have b3 := F3.binds (ps := ["level", "mark"]) fun _ _ _ _ _ _ us hl => match us, hl with | [_, _], _ => rfl
  have b4 := F4.binds (ps := ["rows"]) fun _ _ _ _ _ _ us hl => match us, hl with | [_], _ => rfl
  have b5 := F5.binds (ps := ["names"]) fun _ _ _ _ _ _ us hl => match us, hl with | [_], _ => rfl
  have b6 := F6.binds (ps := ["self"]) fun _ _ _ _ _ _ us hl => match us, hl with | [_], _ => rfl
  have b7 := F7.binds (ps := ["self", "name", "rank", "share"]) fun _ _ _ _ _ _ us hl => match us, hl with | [_, _, _, _], _ => rfl
  have b8 := F8.binds (ps := ["self", "name", "asker", "cost"]) fun _ _ _ _ _ _ us hl => match us, hl with | [_, _, _, _], _ => rfl
  have b9 := F9.binds (ps := ["self"]) fun _ _ _ _ _ _ us hl => match us, hl with | [_], _ => rfl
  have b10 := F10.binds (ps := ["self", "asker"]) fun _ _ _ _ _ _ us hl => match us, hl with | [_, _], _ => rfl
  have b11 := F11.binds (ps := ["self", "rank"]) fun _ _ _ _ _ _ us hl => match us, hl with | [_, _], _ => rfl
  have b12 := F12.binds (ps := ["self", "able"]) fun _ _ _ _ _ _ us hl => match us, hl with | [_, _], _ => rfl
  have b13 := F13.binds (ps := ["self", "name"]) fun _ _ _ _ _ _ us hl => match us, hl with | [_, _], _ => rfl
  have b14 := F14.binds (ps := ["self", "asker"]) fun _ _ _ _ _ _ us hl => match us, hl with | [_, _], _ => rfl
  have b15 := F15.binds (ps := ["self", "names"]) fun _ _ _ _ _ _ us hl => match us, hl with | [_, _], _ => rfl
  have b16 := F16.binds (ps := ["self", "asker"]) fun _ _ _ _ _ _ us hl => match us, hl with | [_, _], _ => rfl
  have b17 := F17.binds (ps := ["self", "able", "levels"]) fun _ _ _ _ _ _ us hl => match us, hl with | [_, _, _], _ => rfl
  have b18 := F18.binds (ps := ["self", "able"]) fun _ _ _ _ _ _ us hl => match us, hl with | [_, _], _ => rfl
  have b19 := F19.binds (ps := ["self", "name", "level"]) fun _ _ _ _ _ _ us hl => match us, hl with | [_, _, _], _ => rfl
  have b20 := F20.binds (ps := ["self", "name"]) fun _ _ _ _ _ _ us hl => match us, hl with | [_, _], _ => rfl
  have b21 := F21.binds (ps := ["self", "taken", "able"]) fun _ _ _ _ _ _ us hl => match us, hl with | [_, _, _], _ => rfl
  have b22 := F22.binds (ps := ["self", "taken", "name"]) fun _ _ _ _ _ _ us hl => match us, hl with | [_, _, _], _ => rfl
  have b23 := F23.binds (ps := ["_law_script", "_law_k"]) fun _ _ _ _ _ _ us hl => match us, hl with | [_, _], _ => rfl
  have b24 := F24.binds (ps := ["_law_cell", "_law_k", "_law_many"]) fun _ _ _ _ _ _ us hl => match us, hl with | [_, _, _], _ => rfl
  have b25 := F25.binds (ps := ["_law_m", "_law_asker"]) fun _ _ _ _ _ _ us hl => match us, hl with | [_, _], _ => rfl
  have b26 := F26.binds (ps := ["_law_line", "_law_m", "_law_cell", "_law_k"]) fun _ _ _ _ _ _ us hl => match us, hl with | [_, _, _, _], _ => rfl
  have b27 := F27.binds (ps := ["_law_line", "_law_m", "_law_cell", "_law_k"]) fun _ _ _ _ _ _ us hl => match us, hl with | [_, _, _, _], _ => rfl
  have b28 := F28.binds (ps := ["_law_line", "_law_m", "_law_cell", "_law_k"]) fun _ _ _ _ _ _ us hl => match us, hl with | [_, _, _, _], _ => rfl
  have b29 := F29.binds (ps := ["_law_m", "_law_i", "_law_j", "_law_start"]) fun _ _ _ _ _ _ us hl => match us, hl with | [_, _, _, _], _ => rfl
  have b30 := F30.binds (ps := ["_law_m", "_law_i", "_law_j", "_law_start"]) fun _ _ _ _ _ _ us hl => match us, hl with | [_, _, _, _], _ => rfl
  have b31 := F31.binds (ps := ["_law_m"]) fun _ _ _ _ _ _ us hl => match us, hl with | [_], _ => rfl
  have b32 := F32.binds (ps := ["_law_script"]) fun _ _ _ _ _ _ us hl => match us, hl with | [_], _ => rfl
  have T : Txt K mg cLine cUnknown cTwice cHallError tP_first_of := ⟨PySem.W.mg_none_of X G z_len, PySem.W.mg_none_of X G z_range, PySem.W.mg_none_of X G z_str, PySem.W.mg_none_of X G z_list, PySem.W.mg_none_of X G z_min, PySem.W.mg_none_of X G z_max, PySem.W.mg_none_of X G z_dict, PySem.W.mg_none_of X G z_sorted, PySem.W.mg_none_of X G z_any, PySem.W.mg_none_of X G z_abs, PySem.W.mg_none_of X G z_ValueError, ⟨⟨tCOMMON, by rw [← eCOMMON]; exact PySem.W.mg_of X G gCOMMON⟩⟩, ⟨⟨tUNABLE, by rw [← eUNABLE]; exact PySem.W.mg_of X G gUNABLE⟩⟩, ⟨⟨tOWN, by rw [← eOWN]; exact PySem.W.mg_of X G gOWN⟩⟩, ⟨⟨tRANK, by rw [← eRANK]; exact PySem.W.mg_of X G gRANK⟩⟩, ⟨⟨tSHARE, by rw [← eSHARE]; exact PySem.W.mg_of X G gSHARE⟩⟩, ⟨pg_Line, hd_Line, po_Line, sa_Line⟩, PySem.W.mg_of X G aC_Line, na_Line_ranks, na_Line_shares, na_Line_levels, na_Line_marks, na_Line_owners, na_Line_costs, na_Line_notes, na_Line_queue, XCl.of xc_Unknown xm_Unknown xcn xct, PySem.W.mg_of X G aC_Unknown, XCl.of xc_Twice xm_Twice xcn xct, PySem.W.mg_of X G aC_Twice, ⟨xb1, xb2, xb3⟩, PySem.W.mg_of X G aC_HallError, xkt⟩
  refine ⟨PySem.W.fnOf "law" "law" (defArgs s_law) (defBody s_law) (defScope s_law) .none kV32 dc32 pm32 an32 cd32 ct32, fun s v => .of_eq rfl, ⟨cL_first_of, hc_first_of⟩, fun base _ _ BM => ?_⟩
  have okk6 : FnOk l.prog w K mg base CX0 1 _ _ ["self"] (sp_Ln_init cLine) := ok_Line_init F6 T
  have M_Line : MkD l.prog w K mg base 1 "Line" cLine ["self"] (sp_Ln_init cLine) := ⟨_, _, ⟨mk_Line, a6, i6, kc_Line⟩, okk6, b6, PySem.W.mg_of X G aC_Line⟩
  have D__law_both_fair : Dfn l.prog w K mg base 1 "_law_both_fair" ["_law_m", "_law_i", "_law_j", "_law_start"] (sp__law_both_fair K) := ⟨_, _, ok__law_both_fair F29 T, b29, k29, PySem.W.mg_of X G a29⟩
  have D__law_not_passed : Dfn l.prog w K mg base 1 "_law_not_passed" ["_law_m", "_law_i", "_law_j", "_law_start"] (sp__law_not_passed K) := ⟨_, _, ok__law_not_passed F30 T, b30, k30, PySem.W.mg_of X G a30⟩
  have D__law_fair : Dfn l.prog w K mg base 2 "_law_fair" ["_law_m"] (sp__law_fair K) := ⟨_, _, ok__law_fair F31 T D__law_both_fair D__law_not_passed, b31, k31, PySem.W.mg_of X G a31⟩
  have D__law_cell_at : Dfn l.prog w K mg base 1 "_law_cell_at" ["_law_script", "_law_k"] (sp__law_cell_at K) := ⟨_, _, ok__law_cell_at F23 T, b23, k23, PySem.W.mg_of X G a23⟩
  have D__law_mix : Dfn l.prog w K mg base 1 "_law_mix" ["_law_cell", "_law_k", "_law_many"] (sp__law_mix K) := ⟨_, _, ok__law_mix F24 T, b24, k24, PySem.W.mg_of X G a24⟩
  have X_Twice : MkXD l.prog w K mg base 1 "Twice" cTwice ["self", "name"] (sp_one cTwice "name") := ⟨⟨_, _, ⟨xm_Twice, a1, i1, kc_Twice⟩, ok_Twice_init F1 T, b1, PySem.W.mg_of X G aC_Twice⟩, by decide⟩
  have D_lifted : Dfn l.prog w K mg base 1 "lifted" ["level", "mark"] (sp_lifted K) := ⟨_, _, ok_lifted F3 T, b3, k3, PySem.W.mg_of X G a3⟩
  have X_Unknown : MkXD l.prog w K mg base 1 "Unknown" cUnknown ["self", "name"] (sp_one cUnknown "name") := ⟨⟨_, _, ⟨xm_Unknown, a0, i0, kc_Unknown⟩, ok_Unknown_init F0 T, b0, PySem.W.mg_of X G aC_Unknown⟩, by decide⟩
  have okk14 : FnOk l.prog w K mg base (CXe l.prog w) 3 _ _ ["self", "asker"] (sp_Ln_must_know cLine cUnknown) := ok_Line_must_know F14 T X_Unknown
  have okk16 : FnOk l.prog w K mg base CX0 1 _ _ ["self", "asker"] (sp_Ln_has_waiting cLine) := ok_Line_has_waiting F16 T
  have okk11 : FnOk l.prog w K mg base CX0 1 _ _ ["self", "rank"] (sp_Ln_mark cLine) := ok_Line_mark F11 T
  have D_Line_must_know : MtE l.prog w K mg base 3 "must_know" cLine ["self", "asker"] (sp_Ln_must_know cLine cUnknown) := ⟨_, _, ⟨am_Line_must_know, i14, k14⟩, okk14, b14⟩
  have D_Line_has_waiting : MtE l.prog w K mg base 1 "has_waiting" cLine ["self", "asker"] (sp_Ln_has_waiting cLine) := ⟨_, _, ⟨am_Line_has_waiting, i16, k16⟩, okk16.lift, b16⟩
  have D_Line_mark : MtE l.prog w K mg base 1 "mark" cLine ["self", "rank"] (sp_Ln_mark cLine) := ⟨_, _, ⟨am_Line_mark, i11, k11⟩, okk11.lift, b11⟩
  have okk8 : FnOk l.prog w K mg base (CXe l.prog w) 4 _ _ ["self", "name", "asker", "cost"] (sp_Ln_lay cLine cUnknown cTwice) := ok_Line_lay F8 T X_Twice D_lifted D_Line_must_know D_Line_has_waiting D_Line_mark
  have D_Line_lay : MtE l.prog w K mg base 4 "lay" cLine ["self", "name", "asker", "cost"] (sp_Ln_lay cLine cUnknown cTwice) := ⟨_, _, ⟨am_Line_lay, i8, k8⟩, okk8, b8⟩
  have D__law_lay : Dfn l.prog w K mg base 5 "_law_lay" ["_law_line", "_law_m", "_law_cell", "_law_k"] (sp__law_lay K cLine tP_first_of) := ⟨_, _, ok__law_lay F27 T D__law_mix D_Line_lay, b27, k27, PySem.W.mg_of X G a27⟩
  have D__law_has : Dfn l.prog w K mg base 1 "_law_has" ["_law_m", "_law_asker"] (sp__law_has K) := ⟨_, _, ok__law_has F25 T, b25, k25, PySem.W.mg_of X G a25⟩
  have okk15 : FnOk l.prog w K mg base (CXe l.prog w) 3 _ _ ["self", "names"] (sp_Ln_must_wait cLine cUnknown) := ok_Line_must_wait F15 T X_Unknown
  have D_first_of : Dfn l.prog w K mg base 2 "first_of" ["rows"] (sp_first_of tP_first_of) := ⟨_, _, ok_first_of F4 T hl_first_of hc_first_of BM, b4, k4, PySem.W.mg_of X G a4⟩
  have D_as_keys : Dfn l.prog w K mg base 1 "as_keys" ["names"] (sp_as_keys K) := ⟨_, _, ok_as_keys F5 T, b5, k5, PySem.W.mg_of X G a5⟩
  have okk18 : FnOk l.prog w K mg base CX0 2 _ _ ["self", "able"] (sp_Ln_firsts_of cLine) := ok_Line_firsts_of F18 T D_as_keys
  have D_Line_firsts_of : MtE l.prog w K mg base 2 "firsts_of" cLine ["self", "able"] (sp_Ln_firsts_of cLine) := ⟨_, _, ⟨am_Line_firsts_of, i18, k18⟩, okk18.lift, b18⟩
  have okk17 : FnOk l.prog w K mg base CX0 3 _ _ ["self", "able", "levels"] (sp_Ln_chosen cLine tP_first_of) := ok_Line_chosen F17 T D_first_of D_Line_firsts_of
  have D_grown : Dfn l.prog w K mg base 1 "grown" ["level", "cost", "share"] (sp_grown K) := ⟨_, _, ok_grown F2 T, b2, k2, PySem.W.mg_of X G a2⟩
  have okk19 : FnOk l.prog w K mg base CX0 2 _ _ ["self", "name", "level"] (sp_Ln_level_behind cLine) := ok_Line_level_behind F19 T D_grown
  have D_Line_level_behind : MtE l.prog w K mg base 2 "level_behind" cLine ["self", "name", "level"] (sp_Ln_level_behind cLine) := ⟨_, _, ⟨am_Line_level_behind, i19, k19⟩, okk19.lift, b19⟩
  have okk20 : FnOk l.prog w K mg base CX0 3 _ _ ["self", "name"] (sp_Ln_charge cLine) := ok_Line_charge F20 T D_lifted D_Line_mark D_Line_level_behind
  have okk22 : FnOk l.prog w K mg base CX0 1 _ _ ["self", "taken", "name"] (sp_Ln_why_ahead cLine) := ok_Line_why_ahead F22 T
  have D_Line_why_ahead : MtE l.prog w K mg base 1 "why_ahead" cLine ["self", "taken", "name"] (sp_Ln_why_ahead cLine) := ⟨_, _, ⟨am_Line_why_ahead, i22, k22⟩, okk22.lift, b22⟩
  have okk21 : FnOk l.prog w K mg base CX0 2 _ _ ["self", "taken", "able"] (sp_Ln_note_taken cLine) := ok_Line_note_taken F21 T D_as_keys D_Line_why_ahead
  have D_Line_must_wait : MtE l.prog w K mg base 3 "must_wait" cLine ["self", "names"] (sp_Ln_must_wait cLine cUnknown) := ⟨_, _, ⟨am_Line_must_wait, i15, k15⟩, okk15, b15⟩
  have D_Line_chosen : MtE l.prog w K mg base 3 "chosen" cLine ["self", "able", "levels"] (sp_Ln_chosen cLine tP_first_of) := ⟨_, _, ⟨am_Line_chosen, i17, k17⟩, okk17.lift, b17⟩
  have D_Line_charge : MtE l.prog w K mg base 3 "charge" cLine ["self", "name"] (sp_Ln_charge cLine) := ⟨_, _, ⟨am_Line_charge, i20, k20⟩, okk20.lift, b20⟩
  have D_Line_note_taken : MtE l.prog w K mg base 2 "note_taken" cLine ["self", "taken", "able"] (sp_Ln_note_taken cLine) := ⟨_, _, ⟨am_Line_note_taken, i21, k21⟩, okk21.lift, b21⟩
  have okk12 : FnOk l.prog w K mg base (CXe l.prog w) 4 _ _ ["self", "able"] (sp_Ln_take cLine tP_first_of cUnknown) := ok_Line_take F12 T D_Line_must_wait D_Line_chosen D_Line_charge D_Line_note_taken
  have D_Line_take : MtE l.prog w K mg base 4 "take" cLine ["self", "able"] (sp_Ln_take cLine tP_first_of cUnknown) := ⟨_, _, ⟨am_Line_take, i12, k12⟩, okk12, b12⟩
  have D__law_take : Dfn l.prog w K mg base 5 "_law_take" ["_law_line", "_law_m", "_law_cell", "_law_k"] (sp__law_take K cLine tP_first_of) := ⟨_, _, ok__law_take F26 T D__law_mix D__law_has D_Line_take, b26, k26, PySem.W.mg_of X G a26⟩
  have okk13 : FnOk l.prog w K mg base (CXe l.prog w) 4 _ _ ["self", "name"] (sp_Ln_pull cLine cUnknown) := ok_Line_pull F13 T D_Line_must_wait
  have D_Line_pull : MtE l.prog w K mg base 4 "pull" cLine ["self", "name"] (sp_Ln_pull cLine cUnknown) := ⟨_, _, ⟨am_Line_pull, i13, k13⟩, okk13, b13⟩
  have D__law_done : Dfn l.prog w K mg base 6 "_law_done" ["_law_line", "_law_m", "_law_cell", "_law_k"] (sp__law_done K cLine tP_first_of) := ⟨_, _, ok__law_done F28 T D__law_mix D__law_lay D__law_take D_Line_pull, b28, k28, PySem.W.mg_of X G a28⟩
  have okk7 : FnOk l.prog w K mg base (CXe l.prog w) 3 _ _ ["self", "name", "rank", "share"] (sp_Ln_add_asker cLine cTwice) := ok_Line_add_asker F7 T X_Twice
  have D_Line_add_asker : MtE l.prog w K mg base 3 "add_asker" cLine ["self", "name", "rank", "share"] (sp_Ln_add_asker cLine cTwice) := ⟨_, _, ⟨am_Line_add_asker, i7, k7⟩, okk7, b7⟩
  exact ok_law F32 T M_Line D__law_fair D__law_cell_at D__law_mix D__law_done D_Line_add_asker
theorem walk {l : PySem.W.OpenLaw} {q : Program} {loose : List Str} {XP : (Str → Option Value) → Heap → Prop} {YP : World → Heap → Prop} {d : DefRec} {K : Params → PySem.W.Frag} {tP_first_of : Addr} (hn : l.most = some 63) (hdf : d.params.defaults = [])
    (hY : ∀ (w : World) (h : Heap), YP w h → (K w.params).In h) (hT : ∀ (w : World) (h : Heap), YP w h → h.get? tP_first_of = some (PySem.W.tabObj #[])) (hKt : ∀ (w : World), (K w.params).lookup tP_first_of = none)
    (F : ∀ (w : World) (mg : Str → Option Value) (fa : Addr) (h : Heap), (K w.params).In h → h.Ns mainGlobals mg → mg d.name = some (.ref fa) →
      ∃ fd : FuncData, (∀ (s : Shared) (u : Value), BindsTo s fd ⟨[u], []⟩ [("_law_script", u)]) ∧ (∃ c, PySem.W.codeHdIn (K w.params) c tP_first_of = true) ∧ ∀ base : Heap, (K w.params).In base → base.Ns mainGlobals mg → BMain base mg → FnOk l.prog w (K w.params) mg base CX0 7 fa fd ["_law_script"] (sp_law (K w.params) tP_first_of)) :
    PySem.W.WalkO q loose XP YP l.row.toRowW d [] (fun f vs => PySem.call f vs) :=
  L2.walk_of1 (n := 63) (k := 7) (x := "_law_script") (tP := tP_first_of) (CX := fun _ => CX0) (sp := fun w => sp_law (K w.params) tP_first_of) hn (by decide) hdf ⟨rfl, by decide, by decide⟩ hY hT hKt F (fun _ _ a ns hl hP hS => ⟨a, rfl, ⟨⟨ns, hS, hl⟩⟩, .inl hP, fun _ => rfl⟩) fun _ _ _ _ _ z => z
end My
open PySem PySem.W PyProof.Rows
set_option maxRecDepth 100000 in
set_option maxHeartbeats 0 in
theorem PySem.Challenge.cw_spoolhall_k44_whole_shares_holds : PySem.Challenge.rw_spoolhall_k44_whole_shares.Holds := by
  w_on; o_law; k_head; (case hw => w_witness2)
  k_fill
  refine My.walk (l := PySem.Challenge.rw_spoolhall_k44_whole_shares) rfl rfl (fun w h Y => PySem.W.km_in_of Y) (fun w h Y => PySem.W.km_tabs_of Y _ (List.mem_singleton.mpr rfl)) (fun w => by kernel_rfl) ?F
  case F =>
    intro w mg fa h KX G hmg
    refine' My.all_mk KX G hmg ?aC_Line ?aC_Unknown ?aC_Twice ?aC_HallError ?a0 ?i0 ?l0 ?c0 ?k0 ?a1 ?i1 ?l1 ?c1 ?k1 ?a2 ?l2 ?c2 ?k2 ?a3 ?l3 ?c3 ?k3 ?a4 ?l4 ?c4 ?k4 ?a5 ?l5 ?c5 ?k5 ?a6 ?i6 ?l6 ?c6 ?k6 ?a7 ?i7 ?l7 ?c7 ?k7 ?a8 ?i8 ?l8 ?c8 ?k8 ?a9 ?i9 ?l9 ?c9 ?k9 ?a10 ?i10 ?l10 ?c10 ?k10 ?a11 ?i11 ?l11 ?c11 ?k11 ?a12 ?i12 ?l12 ?c12 ?k12 ?a13 ?i13 ?l13 ?c13 ?k13 ?a14 ?i14 ?l14 ?c14 ?k14 ?a15 ?i15 ?l15 ?c15 ?k15 ?a16 ?i16 ?l16 ?c16 ?k16 ?a17 ?i17 ?l17 ?c17 ?k17 ?a18 ?i18 ?l18 ?c18 ?k18 ?a19 ?i19 ?l19 ?c19 ?k19 ?a20 ?i20 ?l20 ?c20 ?k20 ?a21 ?i21 ?l21 ?c21 ?k21 ?a22 ?i22 ?l22 ?c22 ?k22 ?a23 ?l23 ?c23 ?k23 ?a24 ?l24 ?c24 ?k24 ?a25 ?l25 ?c25 ?k25 ?a26 ?l26 ?c26 ?k26 ?a27 ?l27 ?c27 ?k27 ?a28 ?l28 ?c28 ?k28 ?a29 ?l29 ?c29 ?k29 ?a30 ?l30 ?c30 ?k30 ?a31 ?l31 ?c31 ?k31 ?a32 ?l32 ?c32 ?k32 ?pg_Line ?hd_Line ?po_Line ?sa_Line ?mk_Line ?kc_Line ?na_Line_ranks ?na_Line_shares ?na_Line_levels ?na_Line_marks ?na_Line_owners ?na_Line_costs ?na_Line_notes ?na_Line_queue ?xc_Unknown ?xm_Unknown ?kc_Unknown ?xc_Twice ?xm_Twice ?kc_Twice ?am_Line_must_know ?am_Line_has_waiting ?am_Line_mark ?am_Line_must_wait ?am_Line_chosen ?am_Line_charge ?am_Line_note_taken ?am_Line_firsts_of ?am_Line_level_behind ?am_Line_why_ahead ?am_Line_take ?am_Line_lay ?am_Line_pull ?am_Line_add_asker ?xcn ?xct ?xb1 ?xb2 ?xb3 ?xkt ?gCOMMON ?eCOMMON ?gUNABLE ?eUNABLE ?gOWN ?eOWN ?gRANK ?eRANK ?gSHARE ?eSHARE ?z_len ?z_range ?z_str ?z_list ?z_min ?z_max ?z_dict ?z_sorted ?z_any ?z_abs ?z_ValueError ?hl_first_of ?hc_first_of
    (case aC_Line => k_is)
    (case aC_Unknown => k_is)
    (case aC_Twice => k_is)
    (case aC_HallError => k_is)
    (case a0 => k_is)
    (case i0 => k_is)
    (case l0 => k_is)
    (case c0 => k_is)
    (case k0 => k_is)
    (case a1 => k_is)
    (case i1 => k_is)
    (case l1 => k_is)
    (case c1 => k_is)
    (case k1 => k_is)
    (case a2 => k_is)
    (case l2 => k_is)
    (case c2 => k_is)
    (case k2 => k_is)
    (case a3 => k_is)
    (case l3 => k_is)
    (case c3 => k_is)
    (case k3 => k_is)
    (case a4 => k_is)
    (case l4 => k_is)
    (case c4 => k_is)
    (case k4 => k_is)
    (case a5 => k_is)
    (case l5 => k_is)
    (case c5 => k_is)
    (case k5 => k_is)
    (case a6 => k_is)
    (case i6 => k_is)
    (case l6 => k_is)
    (case c6 => k_is)
    (case k6 => k_is)
    (case a7 => k_is)
    (case i7 => k_is)
    (case l7 => k_is)
    (case c7 => k_is)
    (case k7 => k_is)
    (case a8 => k_is)
    (case i8 => k_is)
    (case l8 => k_is)
    (case c8 => k_is)
    (case k8 => k_is)
    (case a9 => k_is)
    (case i9 => k_is)
    (case l9 => k_is)
    (case c9 => k_is)
    (case k9 => k_is)
    (case a10 => k_is)
    (case i10 => k_is)
    (case l10 => k_is)
    (case c10 => k_is)
    (case k10 => k_is)
    (case a11 => k_is)
    (case i11 => k_is)
    (case l11 => k_is)
    (case c11 => k_is)
    (case k11 => k_is)
    (case a12 => k_is)
    (case i12 => k_is)
    (case l12 => k_is)
    (case c12 => k_is)
    (case k12 => k_is)
    (case a13 => k_is)
    (case i13 => k_is)
    (case l13 => k_is)
    (case c13 => k_is)
    (case k13 => k_is)
    (case a14 => k_is)
    (case i14 => k_is)
    (case l14 => k_is)
    (case c14 => k_is)
    (case k14 => k_is)
    (case a15 => k_is)
    (case i15 => k_is)
    (case l15 => k_is)
    (case c15 => k_is)
    (case k15 => k_is)
    (case a16 => k_is)
    (case i16 => k_is)
    (case l16 => k_is)
    (case c16 => k_is)
    (case k16 => k_is)
    (case a17 => k_is)
    (case i17 => k_is)
    (case l17 => k_is)
    (case c17 => k_is)
    (case k17 => k_is)
    (case a18 => k_is)
    (case i18 => k_is)
    (case l18 => k_is)
    (case c18 => k_is)
    (case k18 => k_is)
    (case a19 => k_is)
    (case i19 => k_is)
    (case l19 => k_is)
    (case c19 => k_is)
    (case k19 => k_is)
    (case a20 => k_is)
    (case i20 => k_is)
    (case l20 => k_is)
    (case c20 => k_is)
    (case k20 => k_is)
    (case a21 => k_is)
    (case i21 => k_is)
    (case l21 => k_is)
    (case c21 => k_is)
    (case k21 => k_is)
    (case a22 => k_is)
    (case i22 => k_is)
    (case l22 => k_is)
    (case c22 => k_is)
    (case k22 => k_is)
    (case a23 => k_is)
    (case l23 => k_is)
    (case c23 => k_is)
    (case k23 => k_is)
    (case a24 => k_is)
    (case l24 => k_is)
    (case c24 => k_is)
    (case k24 => k_is)
    (case a25 => k_is)
    (case l25 => k_is)
    (case c25 => k_is)
    (case k25 => k_is)
    (case a26 => k_is)
    (case l26 => k_is)
    (case c26 => k_is)
    (case k26 => k_is)
    (case a27 => k_is)
    (case l27 => k_is)
    (case c27 => k_is)
    (case k27 => k_is)
    (case a28 => k_is)
    (case l28 => k_is)
    (case c28 => k_is)
    (case k28 => k_is)
    (case a29 => k_is)
    (case l29 => k_is)
    (case c29 => k_is)
    (case k29 => k_is)
    (case a30 => k_is)
    (case l30 => k_is)
    (case c30 => k_is)
    (case k30 => k_is)
    (case a31 => k_is)
    (case l31 => k_is)
    (case c31 => k_is)
    (case k31 => k_is)
    (case a32 => k_is)
    (case l32 => k_is)
    (case c32 => k_is)
    (case k32 => k_is)
    (case pg_Line => k_is)
    (case hd_Line => k_is)
    (case po_Line => k_is)
    (case sa_Line => k_is)
    (case mk_Line => k_is)
    (case kc_Line => k_is)
    (case na_Line_ranks => k_is)
    (case na_Line_shares => k_is)
    (case na_Line_levels => k_is)
    (case na_Line_marks => k_is)
    (case na_Line_owners => k_is)
    (case na_Line_costs => k_is)
    (case na_Line_notes => k_is)
    (case na_Line_queue => k_is)
    (case xc_Unknown => kernel_rfl)
    (case xm_Unknown => kernel_rfl)
    (case kc_Unknown => k_is)
    (case xc_Twice => kernel_rfl)
    (case xm_Twice => kernel_rfl)
    (case kc_Twice => k_is)
    (case am_Line_must_know => k_is)
    (case am_Line_has_waiting => k_is)
    (case am_Line_mark => k_is)
    (case am_Line_must_wait => k_is)
    (case am_Line_chosen => k_is)
    (case am_Line_charge => k_is)
    (case am_Line_note_taken => k_is)
    (case am_Line_firsts_of => k_is)
    (case am_Line_level_behind => k_is)
    (case am_Line_why_ahead => k_is)
    (case am_Line_take => k_is)
    (case am_Line_lay => k_is)
    (case am_Line_pull => k_is)
    (case am_Line_add_asker => k_is)
    (case xcn => k_is)
    (case xct => k_is)
    (case xb1 => k_is)
    (case xb2 => k_is)
    (case xb3 => k_is)
    (case xkt => kernel_rfl)
    (case gCOMMON => k_is)
    (case eCOMMON => rfl)
    (case gUNABLE => k_is)
    (case eUNABLE => first | rfl | decide +kernel)
    (case gOWN => k_is)
    (case eOWN => first | rfl | decide +kernel)
    (case gRANK => k_is)
    (case eRANK => first | rfl | decide +kernel)
    (case gSHARE => k_is)
    (case eSHARE => first | rfl | decide +kernel)
    (case z_len => k_is)
    (case z_range => k_is)
    (case z_str => k_is)
    (case z_list => k_is)
    (case z_min => k_is)
    (case z_max => k_is)
    (case z_dict => k_is)
    (case z_sorted => k_is)
    (case z_any => k_is)
    (case z_abs => k_is)
    (case z_ValueError => k_is)
    (case hl_first_of => rfl)
    (case hc_first_of => kernel_rfl)
#print axioms PySem.Challenge.cw_spoolhall_k44_whole_shares_holds
