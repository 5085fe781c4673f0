import PyProof.Rows.All
import Wide.All
import OpenK.AllK
import Wide.FinOn
import Lean
import PyProof.EqAt
import PyProof.EqKinds
import PyProof.TupleCall
import PyProof.EnumMake
import PyProof.Draws
import PyProof.InstStoreFacts
import PyProof.ExcArgs
import PyProof.ExcBaseAll.ValueError
import KE.KDictLaws
import OpenK.KOwn
import PyProof.ListRange
import PyProof.AttrMissHeap
import PyProof.MinMaxWalk
import PyProof.WalksMore
import PyProof.NeKinds
import KE.KDictList
import KE.KDictSum
import KE.KEqDict
import PyProof.DictItems
import KE.KPairComp
import PyProof.EqAt
import PyProof.NeKinds
import PyProof.MeetsSeq3
import KE.KLam
import KE.KMinKey
import KE.KNestM
import PyProof.MinMaxWalk
import PyProof.Rows.CallKw2
import PySem.Challenge.RW_spoolhall_k06_lines_refused_by_place
set_option Elab.async false
set_option linter.all false
set_option maxRecDepth 100000
namespace L2
open PySem PySem.Spec PyProof.Rows
abbrev Key := Sum Int Str
def keyIs : Key → Value → Bool
  | .inl k, v => Value.isInt k v
  | .inr x, v => Value.isStrOf x v
def keyH (w : World) : Key → Int
  | .inl k => hashInt k
  | .inr x => hashStr w x
theorem keyIs_shape : ∀ {k : Key} {v : Value}, keyIs k v = true → (∃ i t, k = Sum.inl i ∧ v = Value.int i t) ∨ (∃ x t, k = Sum.inr x ∧ v = Value.str x t)
  | .inl i, v, h => by
    obtain ⟨t, e⟩ := Value.isInt_shape (k := i) (v := v) h
    exact .inl ⟨i, t, rfl, e⟩
  | .inr x, v, h => by
    obtain ⟨t, e⟩ := Value.isStrOf_shape (x := x) (v := v) h
    exact .inr ⟨x, t, rfl, e⟩
theorem keyIs_int (i : Int) (t : Tok) : keyIs (.inl i) (.int i t) = true := by simp [keyIs, Value.isInt]
theorem keyIs_str (x : Str) (t : Tok) : keyIs (.inr x) (.str x t) = true := by simp [keyIs, Value.isStrOf]
theorem key_ll (a b : Int) : decide ((Sum.inl a : Key) = Sum.inl b) = (a == b) := by
  by_cases e : a = b
  · subst e; simp
  · have h : ¬ (Sum.inl a : Key) = Sum.inl b := fun q => e (Sum.inl.inj q)
    rw [decide_eq_false h]
    exact (beq_eq_false_iff_ne.mpr e).symm
theorem key_rr (a b : Str) : decide ((Sum.inr a : Key) = Sum.inr b) = decide (a = b) := by
  by_cases e : a = b
  · subst e; simp
  · have h : ¬ (Sum.inr a : Key) = Sum.inr b := fun q => e (Sum.inr.inj q)
    rw [decide_eq_false h, decide_eq_false e]
theorem key_lr (a : Int) (b : Str) : decide ((Sum.inl a : Key) = Sum.inr b) = false := decide_eq_false (fun q => nomatch q)
theorem key_rl (a : Str) (b : Int) : decide ((Sum.inr a : Key) = Sum.inl b) = false := decide_eq_false (fun q => nomatch q)
def mixKind (prog : Program) (w : World) : PySem.KeyKind prog w Key where
  is := keyIs
  hash := keyH w
  inj := fun v a b ha hb => by
    rcases keyIs_shape ha with ⟨i, t, rfl, rfl⟩ | ⟨x, t, rfl, rfl⟩
    · rcases keyIs_shape hb with ⟨j, u, rfl, e⟩ | ⟨y, u, rfl, e⟩
      · injection e with e1 _; rw [e1]
      · exact nomatch e
    · rcases keyIs_shape hb with ⟨j, u, rfl, e⟩ | ⟨y, u, rfl, e⟩
      · exact nomatch e
      · injection e with e1 _; rw [e1]
  byValue := fun k v h => by
    rcases keyIs_shape h with ⟨i, t, rfl, rfl⟩ | ⟨x, t, rfl, rfl⟩ <;> rfl
  pyHash := fun hv h => by
    rcases keyIs_shape hv with ⟨i, t, rfl, rfl⟩ | ⟨x, t, rfl, rfl⟩
    · exact wpAny_pyHash_int h
    · exact wpAny_pyHash_str h
  eqBool := fun hu hv h => by
    rcases keyIs_shape hu with ⟨i, t, rfl, rfl⟩ | ⟨x, t, rfl, rfl⟩
    · rcases keyIs_shape hv with ⟨j, u, rfl, rfl⟩ | ⟨y, u, rfl, rfl⟩
      · rw [key_ll] at h; exact wpAny_eqBool_int h
      · rw [key_lr] at h; exact SeqAt.EqAt.int_str i t y u _ _ _ _ h
    · rcases keyIs_shape hv with ⟨j, u, rfl, rfl⟩ | ⟨y, u, rfl, rfl⟩
      · rw [key_rl] at h; exact SeqAt.EqAt.str_int x t j u _ _ _ _ h
      · rw [key_rr] at h; exact wpAny_eqBool_str h
  «strs» := fun k x t v h => by
    rcases keyIs_shape h with ⟨i, u, rfl, e⟩ | ⟨y, u, rfl, e⟩
    · exact nomatch e
    · injection e with e1 _
      subst e1
      cases v <;> rfl
theorem mixKind_int (prog : Program) (w : World) (i : Int) (t : Tok) : (mixKind prog w).is (.inl i) (.int i t) = true := keyIs_int i t
theorem mixKind_str (prog : Program) (w : World) (x : Str) (t : Tok) : (mixKind prog w).is (.inr x) (.str x t) = true := keyIs_str x t
end L2
namespace L2
open PySem PySem.Spec PyProof.Rows
inductive V where
  | non | bl (b : Bool) | int (i : Int) | str (x : Str) | byt (b : Array UInt8) | flt (b : UInt64) | ref (a : Addr) | ty (n : String)
  deriving DecidableEq
def RelV : V → Value → Prop
  | .non, u => u = Value.none
  | .bl b, u => u = Value.bool b
  | .int i, u => ∃ t, u = Value.int i t
  | .str x, u => ∃ t, u = Value.str x t
  | .byt b, u => ∃ t, u = Value.bytes b t
  | .flt b, u => ∃ t, u = Value.float b t
  | .ref a, u => u = Value.ref a
  | .ty n, u => u = Value.type n
abbrev Vals : List V → List Value → Prop := Paired RelV
theorem Vals.length {xs : List V} {us : List Value} (r : Vals xs us) : xs.length = us.length := Paired.length r
theorem Vals.get : ∀ {xs : List V} {us : List Value} {i : Nat} {x : V}, Vals xs us → xs[i]? = some x → ∃ u, us[i]? = some u ∧ RelV x u
  | _, _, _, _, .nil, e => by simp at e
  | _, _, 0, _, .cons r _, e => by simp at e; subst e; exact ⟨_, rfl, r⟩
  | _, _, i + 1, x, .cons _ t, e => by
    obtain ⟨u, h1, h2⟩ := Vals.get (i := i) (x := x) t (by simpa using e)
    exact ⟨u, by simpa using h1, h2⟩
theorem Vals.set {x : V} {u : Value} (r : RelV x u) : ∀ {xs : List V} {us : List Value} (i : Nat), Vals xs us → Vals (xs.set i x) (us.set i u)
  | _, _, _, .nil => .nil
  | _, _, 0, .cons _ t => .cons r t
  | _, _, i + 1, .cons q t => .cons q (Vals.set r i t)
theorem Vals.append : ∀ {xs ys : List V} {us ws : List Value}, Vals xs us → Vals ys ws → Vals (xs ++ ys) (us ++ ws)
  | _, _, _, _, .nil, s => s
  | _, _, _, _, .cons r t, s => .cons r (Vals.append t s)
theorem Vals.take : ∀ {xs : List V} {us : List Value} (n : Nat), Vals xs us → Vals (xs.take n) (us.take n)
  | _, _, 0, _ => .nil
  | _, _, _ + 1, .nil => .nil
  | _, _, n + 1, .cons r t => .cons r (Vals.take n t)
theorem Vals.drop : ∀ {xs : List V} {us : List Value} (n : Nat), Vals xs us → Vals (xs.drop n) (us.drop n)
  | _, _, 0, r => r
  | _, _, _ + 1, .nil => .nil
  | _, _, n + 1, .cons _ t => Vals.drop n t
def RelO : Option V → Option Value → Prop
  | some v, some u => RelV v u
  | none, none => True
  | _, _ => False
def KV {κ : Type} : List (κ × V) → List (κ × Value) → Prop := Paired fun (p : κ × V) (q : κ × Value) => p.1 = q.1 ∧ RelV p.2 q.2
def kV : Key → V
  | .inl i => .int i
  | .inr x => .str x
inductive HO where
  | lst (xs : List V)
  | tup (xs : List V)
  | dK (kvs : List (Key × V)) | dT (kvs : List (List Key × V))
  | set (S : Int → Bool) (n : Nat)
  | ins (C dx : Addr) (fs : List (Str × V))
  | own (x : Addr)
  | xd (fs : List (Str × V))
  | met (f x : Addr)
  | rng (lo hi : Int)
  | frz (o : Obj) (u : HO)
  | tbl (ps : Array Value)
  | ext (φ : Heap → Prop)
abbrev Hp := Addr → Option HO
def upd (H : Hp) (a : Addr) (o : HO) : Hp := fun b => if b = a then some o else H b
theorem upd_same {H : Hp} {a : Addr} {o : HO} : upd H a o a = some o := by unfold upd; rw [if_pos rfl]
theorem upd_ne {H : Hp} {a b : Addr} {o : HO} (h : b ≠ a) : upd H a o b = H b := by unfold upd; rw [if_neg h]
theorem upd_upd {H : Hp} {a : Addr} {o u : HO} : upd (upd H a o) a u = upd H a u := by
  funext b; unfold upd; split <;> rfl
theorem ne_of {H : Hp} {a b : Addr} {o u : HO} (h : H a = some o) (h' : H b = some u) (d : o ≠ u) : a ≠ b := by
  intro e; subst e; rw [h] at h'; exact d (Option.some.inj h')
theorem ne_of_none {H : Hp} {a b : Addr} {o : HO} (h : H a = some o) (h' : H b = none) : a ≠ b := by
  intro e; subst e; rw [h] at h'; cases h'
section
variable (P : Program) (w : World)
def ObjOk (H : Hp) (h : Heap) (a : Addr) : HO → Prop
  | .lst xs => xs.length ≤ sizeLine ∧ ∃ (its : List Value) (n : Nat), Vals xs its ∧ h.get? a = some { cls := .type "list", data := .seq its.toArray n }
  | .tup xs => xs.length ≤ sizeLine ∧ ∃ its : List Value, Vals xs its ∧ IsTup h a its.toArray
  | .dK kvs => kvs.length ≤ sizeLine ∧ (a == sysModules) = false ∧ ∃ vs, KV kvs vs ∧ h.DictOf (mixKind P w) a vs
  | .dT kvs => kvs.length ≤ sizeLine ∧ (a == sysModules) = false ∧ ∃ xs : List (List Key × Addr × Value),
      Paired (fun (p : List Key × V) (q : List Key × Addr × Value) => p.1 = q.1 ∧ H q.2.1 = some (.tup (p.1.map kV)) ∧ RelV p.2 q.2.2) kvs xs ∧
      ∃ o es ep, h.get? a = some o ∧ o.ExactDict ∧ o.data = .dict es ep ∧ es.toList = xs.map (entryOfKey (tupleKind (mixKind P w))) ∧ (xs.map (·.1)).Nodup
  | .set S n => h.SetOf (intKind P w) a S n
  | .ins C dx fs => H dx = some (.own a) ∧ fs.length ≤ 1000 ∧ dx ≠ a ∧ h.get? a = some (PySem.W.instObj C dx) ∧
      ∃ mA, h.Ns1 dx mA ∧ (∀ f, RelO (fs.lookup f) (mA f)) ∧ PySem.Within mA (fs.map (·.1))
  | .own _ => ∃ o, h.get? a = some o
  | .xd fs => ∃ mA, h.Ns1 a mA ∧ ∀ f, RelO (fs.lookup f) (mA f)
  | .rng lo hi => ∃ t u v, h.get? a = some { cls := .type "range", data := .fields #[.int lo t, .int hi u, .int 1 v] }
  | .frz o u => h.get? a = some o ∧ ObjOk H h a u
  | .tbl ps => h.get? a = some { cls := .none, data := .fields ps }
  | .met f x => h.get? a = some (PySem.W.methodObj (.ref f) (.ref x))
  | .ext φ => φ h ∧ (∃ o, h.get? a = some o) ∧ ∀ h1 h2 : Heap, φ h1 → (∀ o, h1.get? a = some o → h2.get? a = some o) → φ h2
def HOk (H : Hp) (h : Heap) : Prop := ∀ a o, H a = some o → ObjOk P w H h a o
end
section
variable {P : Program} {w : World} {H H' : Hp} {h h' : Heap} {a : Addr} {o : HO}
theorem ObjOk.lt (x : ObjOk P w H h a o) : a < h.objs.size := by
  cases o with
  | lst xs => obtain ⟨_, _, _, _, e⟩ := x; exact Heap.lt_size e
  | tup xs => obtain ⟨_, _, _, p⟩ := x; exact p.lt
  | dK kvs => obtain ⟨_, _, _, _, o, _, _, e, _⟩ := x; exact Heap.lt_size e
  | dT kvs => obtain ⟨_, _, _, _, o, _, _, e, _⟩ := x; exact Heap.lt_size e
  | set S n => obtain ⟨o, _, _, _, e, _⟩ := x; exact Heap.lt_size e
  | ins C dx fs => obtain ⟨_, _, _, e, _⟩ := x; exact Heap.lt_size e
  | own y => obtain ⟨_, e⟩ := x; exact Heap.lt_size e
  | xd fs => obtain ⟨_, ⟨_, _, _, e, _⟩, _⟩ := x; exact Heap.lt_size e
  | rng lo hi => obtain ⟨_, _, _, e⟩ := x; exact Heap.lt_size e
  | frz ob u => obtain ⟨e, _⟩ := x; exact Heap.lt_size e
  | tbl ps => exact Heap.lt_size (show h.get? a = some _ from x)
  | met f y => exact Heap.lt_size (show h.get? a = some _ from x)
  | ext φ => obtain ⟨_, ⟨_, e⟩, _⟩ := x; exact Heap.lt_size e
theorem Paired.mapP {α β : Type} {F G : α → β → Prop} : ∀ {l₁ : List α} {l₂ : List β}, Paired F l₁ l₂ → (∀ a b, F a b → G a b) → Paired G l₁ l₂
  | _, _, .nil, _ => .nil
  | _, _, .cons r t, f => .cons (f _ _ r) (Paired.mapP t f)
theorem ObjOk.stay (x : ObjOk P w H h a o) (k : ∀ b u, (b = a ∨ H b = some (.own a)) → h.get? b = some u → h'.get? b = some u)
    (ho : ∀ b, H b = some (.own a) → H' b = some (.own a)) (ht : ∀ b xs, H b = some (.tup xs) → H' b = some (.tup xs)) : ObjOk P w H' h' a o := by
  induction o with
  | lst xs => obtain ⟨z, its, n, r, e⟩ := x; exact ⟨z, its, n, r, k _ _ (.inl rfl) e⟩
  | tup xs => obtain ⟨z, its, r, ob, e, c⟩ := x; exact ⟨z, its, r, ob, k _ _ (.inl rfl) e, c⟩
  | dK kvs => obtain ⟨z, y, vs, r, ob, es, ep, e, c⟩ := x; exact ⟨z, y, vs, r, ob, es, ep, k _ _ (.inl rfl) e, c⟩
  | dT kvs =>
    obtain ⟨z, y, xs, r, ob, es, ep, e, c⟩ := x
    exact ⟨z, y, xs, Paired.mapP r fun p q z => ⟨z.1, ht _ _ z.2.1, z.2.2⟩, ob, es, ep, k _ _ (.inl rfl) e, c⟩
  | set S n => obtain ⟨ob, es, ep, t, e, c⟩ := x; exact ⟨ob, es, ep, t, k _ _ (.inl rfl) e, c⟩
  | ins C dx fs =>
    obtain ⟨d, z, ne, e, mA, ⟨od, es, ep, e2, c⟩, r⟩ := x
    exact ⟨ho _ d, z, ne, k _ _ (.inl rfl) e, mA, ⟨od, es, ep, k _ _ (.inr d) e2, c⟩, r⟩
  | own y => obtain ⟨ob, e⟩ := x; exact ⟨ob, k _ _ (.inl rfl) e⟩
  | xd fs => obtain ⟨mA, ⟨od, es, ep, e, c⟩, r⟩ := x; exact ⟨mA, ⟨od, es, ep, k _ _ (.inl rfl) e, c⟩, r⟩
  | rng lo hi => obtain ⟨t, u, v, e⟩ := x; exact ⟨t, u, v, k _ _ (.inl rfl) e⟩
  | frz ob u ih => obtain ⟨e, q⟩ := x; exact ⟨k _ _ (.inl rfl) e, ih q⟩
  | tbl ps =>
    have e : h.get? a = some { cls := .none, data := .fields ps } := x
    show h'.get? a = some { cls := .none, data := .fields ps }
    exact k a _ (.inl rfl) e
  | met f y =>
    have e : h.get? a = some (PySem.W.methodObj (.ref f) (.ref y)) := x
    show h'.get? a = some (PySem.W.methodObj (.ref f) (.ref y))
    exact k a _ (.inl rfl) e
  | ext φ => obtain ⟨p, ⟨o, e⟩, st⟩ := x; exact ⟨st _ _ p fun o q => k _ _ (.inl rfl) q, ⟨o, k _ _ (.inl rfl) e⟩, st⟩
theorem HOk.lt (x : HOk P w H h) (e : H a = some o) : a < h.objs.size := (x a o e).lt
theorem HOk.fresh (x : HOk P w H h) (e : h.objs.size ≤ a) : H a = none := by
  cases q : H a with
  | none => rfl
  | some u => exact absurd (Nat.lt_of_lt_of_le (x.lt q) e) (Nat.lt_irrefl _)
theorem HOk.kept (x : HOk P w H h) (k : ∀ b u, h.get? b = some u → h'.get? b = some u) : HOk P w H h' := fun a o e =>
  (x a o e).stay (fun b u _ q => k b u q) (fun _ q => q) fun _ _ q => q
theorem HOk.laid (x : HOk P w H h) (k : ∀ b u, h.get? b = some u → h'.get? b = some u) (hp : h.objs.size ≤ a) (new : ObjOk P w (upd H a o) h' a o) : HOk P w (upd H a o) h' := fun b u e => by
  have hn := x.fresh hp
  by_cases hb : b = a
  · subst hb; rw [upd_same] at e; cases e; exact new
  · rw [upd_ne hb] at e
    exact (x b u e).stay (fun c v _ q => k c v q) (fun c q => by rw [upd_ne (ne_of_none q hn)]; exact q) fun c xs q => by rw [upd_ne (ne_of_none q hn)]; exact q
end
def Rd (H : Hp) (a : Addr) (u : HO) : Prop := H a = some u ∨ ∃ o, H a = some (.frz o u)
theorem Rd.of {H : Hp} {a : Addr} {u : HO} (h : H a = some u) : Rd H a u := .inl h
theorem Rd.ok {P : Program} {w : World} {H : Hp} {h : Heap} {a : Addr} {u : HO} (r : Rd H a u) (x : HOk P w H h) : ObjOk P w H h a u := by
  rcases r with r | ⟨o, r⟩
  · exact x a u r
  · obtain ⟨_, q⟩ := x a _ r
    exact q
def Mut : Option HO → Prop
  | some (.lst _) => True
  | some (.dK _) => True
  | some (.dT _) => True
  | some (.set _ _) => True
  | some (.ins _ _ _) => True
  | some (.ext _) => True
  | _ => False
section
variable {P : Program} {w : World} {H : Hp} {h h' : Heap} {x e : Addr} {o' : HO}
theorem HOk.write (ok : HOk P w H h) (mu : Mut (H x)) (he : e = x ∨ H e = some (.own x)) (k : ∀ b u, b ≠ e → h.get? b = some u → h'.get? b = some u) (heo : ∃ u, h'.get? e = some u)
    (new : ObjOk P w (upd H x o') h' x o') : HOk P w (upd H x o') h' := fun b u q => by
  have nown : ∀ c y, H c = some (.own y) → c ≠ x := fun c y r z => by subst z; rw [r] at mu; exact mu
  have ntup : ∀ c xs, H c = some (.tup xs) → c ≠ x := fun c xs r z => by subst z; rw [r] at mu; exact mu
  by_cases hb : b = x
  · subst hb; rw [upd_same] at q; cases q; exact new
  · rw [upd_ne hb] at q
    by_cases hbe : b = e
    · have q' : H b = some (.own x) := by
        rcases he with z | z
        · exact absurd (hbe.trans z) hb
        · rw [hbe]; exact z
      rw [q] at q'; cases q'
      obtain ⟨v, hv⟩ := heo
      exact ⟨v, by rw [hbe]; exact hv⟩
    · refine (ok b u q).stay (fun c v hc r => k c v ?_ r) (fun c r => by rw [upd_ne (nown c b r)]; exact r) fun c xs r => by rw [upd_ne (ntup c xs r)]; exact r
      rcases hc with rfl | hc
      · exact hbe
      · rintro rfl
        rcases he with z | z
        · exact nown c b hc z
        · rw [hc] at z; cases z; exact hb rfl
end
structure Un (fs ex : List Addr) (H H' : Hp) (h h' : Heap) : Prop where
  keep : ∀ b o, h.get? b = some o → H b = none → b ∉ fs → b ∉ ex → h'.get? b = some o
  slot : ∀ b o, h.get? b = some o → H b = none → b ∈ fs → b ∉ ex → ∃ sl, h'.get? b = some { o with slots := sl }
  free : ∀ b o, h.get? b = some o → H b = none → b ∉ ex → H' b = none
  there : ∀ b o, h.get? b = some o → b ∉ ex → ∃ o', h'.get? b = some o'
  tups : ∀ b xs, H b = some (.tup xs) → H' b = some (.tup xs)
  frzs : ∀ b o u, H b = some (.frz o u) → H' b = some (.frz o u)
  tbls : ∀ b ps, H b = some (.tbl ps) → ∃ more, H' b = some (.tbl (ps ++ more))
section
variable {fs fs' ex ex' : List Addr} {H H1 H2 : Hp} {h h1 h2 h' : Heap} {a x e : Addr} {o : HO}
theorem Un.any (u : Un fs ex H H1 h h1) {b : Addr} {ob : Obj} (q : h.get? b = some ob) (n : H b = none) (hx : b ∉ ex) : ∃ sl, h1.get? b = some { ob with slots := sl } := by
  by_cases hb : b ∈ fs
  · exact u.slot b ob q n hb hx
  · exact ⟨ob.slots, u.keep b ob q n hb hx⟩
theorem Un.trans (a : Un fs ex H H1 h h1) (b : Un fs ex H1 H2 h1 h2) : Un fs ex H H2 h h2 where
  keep := fun c ob q n hc hx => b.keep c ob (a.keep c ob q n hc hx) (a.free c ob q n hx) hc hx
  slot := fun c ob q n hc hx => by
    obtain ⟨sl, e1⟩ := a.slot c ob q n hc hx
    obtain ⟨sl', e2⟩ := b.slot c _ e1 (a.free c ob q n hx) hc hx
    exact ⟨sl', e2⟩
  free := fun c ob q n hx => by
    obtain ⟨o', e1⟩ := a.there c ob q hx
    exact b.free c o' e1 (a.free c ob q n hx) hx
  there := fun c ob q hx => by
    obtain ⟨o', e1⟩ := a.there c ob q hx
    exact b.there c o' e1 hx
  tups := fun c xs q => b.tups c xs (a.tups c xs q)
  frzs := fun c ob xs q => b.frzs c ob xs (a.frzs c ob xs q)
  tbls := fun c ps q => by
    obtain ⟨m1, e1⟩ := a.tbls c ps q
    obtain ⟨m2, e2⟩ := b.tbls c _ e1
    exact ⟨m1 ++ m2, by rw [e2, Array.append_assoc]⟩
theorem Un.kept (k : ∀ b u, h.get? b = some u → h'.get? b = some u) : Un fs ex H H h h' :=
  ⟨fun b ob q _ _ _ => k b ob q, fun b ob q _ _ _ => ⟨ob.slots, k b ob q⟩, fun _ _ _ n _ => n, fun b ob q _ => ⟨ob, k b ob q⟩, fun _ _ q => q, fun _ _ _ q => q, fun _ ps q => ⟨#[], by rw [q]; simp⟩⟩
theorem Un.refl : Un fs ex H H h h := Un.kept fun _ _ q => q
theorem Un.laid (k : ∀ b u, h.get? b = some u → h'.get? b = some u) (hp : h.objs.size ≤ a) (hn : H a = none) : Un fs ex H (upd H a o) h h' where
  keep := fun b u q _ _ _ => k b u q
  slot := fun b u q _ _ _ => ⟨u.slots, k b u q⟩
  free := fun b u q n _ => by rw [upd_ne (Nat.ne_of_lt (Nat.lt_of_lt_of_le (Heap.lt_size q) hp))]; exact n
  there := fun b u q _ => ⟨u, k b u q⟩
  tups := fun b xs q => by rw [upd_ne (ne_of_none q hn)]; exact q
  frzs := fun b u xs q => by rw [upd_ne (ne_of_none q hn)]; exact q
  tbls := fun b ps q => ⟨#[], by rw [upd_ne (ne_of_none q hn), q]; simp⟩
theorem Un.write (mu : Mut (H x)) (he : e = x ∨ H e = some (.own x)) (k : ∀ b u, b ≠ e → h.get? b = some u → h'.get? b = some u) (heo : ∃ u, h'.get? e = some u) : Un fs ex H (upd H x o) h h' := by
  have hx : ∀ b, H b = none → b ≠ x := fun b n z => by subst z; rw [n] at mu; exact mu
  have hb : ∀ b, H b = none → b ≠ e := fun b n z => by
    subst z
    rcases he with r | r
    · exact hx b n r
    · rw [n] at r; cases r
  have hm : ∀ b u, H b = some u → ¬ Mut (some u) → b ≠ x := fun b u q nm z => by subst z; rw [q] at mu; exact nm mu
  refine ⟨fun b u q n _ _ => k b u (hb b n) q, fun b u q n _ _ => ⟨u.slots, k b u (hb b n) q⟩, fun b u q n _ => by rw [upd_ne (hx b n)]; exact n, fun b u q _ => ?_,
    fun b xs q => by rw [upd_ne (hm b _ q fun z => z)]; exact q, fun b u xs q => by rw [upd_ne (hm b _ q fun z => z)]; exact q, fun b ps q => ⟨#[], by rw [upd_ne (hm b _ q fun z => z), q]; simp⟩⟩
  by_cases hbe : b = e
  · subst hbe; exact heo
  · exact ⟨u, k b u hbe q⟩
theorem Un.mono (u : Un fs ex H H1 h h1) (hs : ∀ b ∈ fs, b ∈ fs') (hx : ∀ b ∈ ex, b ∈ ex') : Un fs' ex' H H1 h h1 :=
  ⟨fun b ob q n hb he => u.keep b ob q n (fun z => hb (hs b z)) fun z => he (hx b z), fun _ _ q n _ he => u.any q n fun z => he (hx _ z), fun b ob q n he => u.free b ob q n fun z => he (hx b z), fun b ob q he => u.there b ob q fun z => he (hx b z), u.tups, u.frzs, u.tbls⟩
end
def trk (h : Heap) (H : Hp) : List Addr := (List.range h.objs.size).filter fun a => (H a).isSome
def hidT (h : Heap) (H : Hp) : Heap := PySem.W.hideAll h (trk h H)
theorem hidT_size (h : Heap) (H : Hp) : (hidT h H).objs.size = h.objs.size := PySem.W.hideAll_size _ _
theorem hidT_get {h : Heap} {H : Hp} {b : Addr} {o : Obj} (e : h.get? b = some o) (n : H b = none) : (hidT h H).get? b = some o :=
  PySem.W.hideAll_get _ e fun hm => by
    have q : (H b).isSome = true := (List.mem_filter.mp hm).2
    rw [n] at q; simp at q
theorem of_hidT {h : Heap} {H : Hp} {b : Addr} {o : Obj} (e : (hidT h H).get? b = some o) : h.get? b = some o ∧ H b = none := by
  have e' : h.get? b = some o := PySem.W.of_hideAll (trk h H) e
  refine ⟨e', ?_⟩
  cases q : H b with
  | none => rfl
  | some x =>
    have hm : b ∈ trk h H := List.mem_filter.mpr ⟨List.mem_range.mpr (Heap.lt_size e'), by simp [q]⟩
    have z : (hidT h H).get? b = none := PySem.W.hideAll_none (trk h H) hm
    rw [z] at e; cases e
def allNews (g h : Heap) (L : Addr) : List (Addr × Obj) := (List.range h.objs.size).filterMap fun a => if a = L ∨ (g.get? a).isSome = true then none else (h.get? a).map fun o => (a, o)
def rest (g h : Heap) (L d : Addr) : List (Addr × Obj) := (allNews g h L).filter fun p => decide (p.1 ≠ d)
end L2
namespace L2
open PySem PySem.Spec PyProof.Rows
structure Mod (K : PySem.W.Frag) (mg : Str → Option Value) (base : Heap) : Prop where
  kin : K.In base
  glob : base.Ns mainGlobals mg
  blt : ∃ mb, base.Ns builtinsNs mb ∧ ∀ x : Str, x ≠ "__name__" → mb x = bootBuiltins x
  nolimit : base.NoLimit
/-- the context: a def's body (or a comprehension's block) running. base: fixed through the whole law; s₀, H₀: the entry; outer: the frames whose slots others may change (a def's callers); stack: all frames that run;
   ex: iterators that were made ahead of the entry and are walked here (a comprehension's); fn: the names whose cells were made at the entry (a def: all; a comprehension's block: its own); calm: not within an except suite; pn: pins that every state bears; xe: what is wanted of an exception that leaves the code -/
structure Cx where
  prog : Program
  w : World
  K : PySem.W.Frag
  mg : Str → Option Value
  base : Heap
  A : Around
  N : List Str
  s₀ : Shared
  H₀ : Hp
  env : Env
  outer : List Env
  stack : List Env
  ex : List Addr
  fn : Str → Bool
  calm : Bool
  pn : List (Addr × Obj)
  xe : Value → Shared → Prop
def frs (l : List Env) : List Addr := l.filterMap (·.frame)
abbrev Cx.fs (X : Cx) : List Addr := frs X.outer
def Vis (sc : Scope) (x : Str) : Prop := sc.names.lookup x = some .local ∨ sc.names.lookup x = some .cell ∨ sc.names.lookup x = some .free
def Loc (sc : Scope) (x : Str) : Prop := sc.names.lookup x = some .local ∨ sc.names.lookup x = some .cell
def Look (env : Env) (h : Heap) (m : Str → Option Value) (x : Str) (u : Value) : Prop :=
  (env.kindOf x = some .local ∧ m x = some u) ∨ ((env.kindOf x = some .cell ∨ env.kindOf x = some .free) ∧ ∃ c, env.cells.lookup x = some c ∧ h.IsCell c (some u))
structure Cx.Ok (X : Cx) : Prop where
  mod : Mod X.K X.mg X.base
  kind : X.env.scope.kind = .function
  glob : X.env.globals = mainGlobals
  blt : X.env.builtins = builtinsNs
  above : X.s₀.heap.objs.size ≤ X.env.locals
  inj : ∀ x y c, X.env.cells.lookup x = some c → X.env.cells.lookup y = some c → x = y
  has : ∀ x, (X.env.kindOf x = some .cell ∨ X.env.kindOf x = some .free) → ∃ c, X.env.cells.lookup x = some c
  cab : ∀ x c, X.fn x = true → X.env.cells.lookup x = some c → X.s₀.heap.objs.size ≤ c
  hd : X.calm = true → X.A.handled = none
  frames : X.A.frames = some X.stack
  stk : X.stack = X.outer ∨ (X.stack = X.env :: X.outer ∧ X.env.frame = some X.env.locals)
  exf : ∀ b ∈ X.ex, b ≠ X.env.locals ∧ ∀ x c, X.env.cells.lookup x = some c → c ≠ b
  bs : ∀ b o, X.base.get? b = some o → X.s₀.heap.get? b = some o ∧ X.H₀ b = none
  bsz : X.base.objs.size ≤ X.s₀.heap.objs.size
  noex : ∀ b o, X.base.get? b = some o → b ∉ X.ex
  exfs : ∀ b ∈ X.ex, b ∉ X.fs
  funs : X.s₀.heap.FunFrames X.base X.outer
  frf : ∀ b ∈ X.fs, X.H₀ b = none
structure Inv (X : Cx) (pins : List (Addr × Obj)) (σ : List (Option V)) (H : Hp) (s : Shared) : Prop where
  ok : X.Ok
  os : s.os = X.s₀.os
  bare : AllBare s.gens
  base : Un X.fs X.ex X.H₀ H X.s₀.heap s.heap
  loc : ∃ m, s.heap.Ns X.env.locals m ∧ ∀ (i : Nat) (x : Str) (v : V), X.N[i]? = some x → σ[i]? = some (some v) → Vis X.env.scope x → ∃ u, RelV v u ∧ Look X.env s.heap m x u
  cell : ∀ x c, X.env.cells.lookup x = some c → ∃ v, s.heap.IsCell c v
  free : H X.env.locals = none
  freeC : ∀ x c, X.env.cells.lookup x = some c → H c = none
  pin : ∀ p ∈ X.pn ++ pins, s.heap.get? p.1 = some p.2 ∧ H p.1 = none ∧ p.1 ≠ X.env.locals ∧ p.1 ∉ X.fs ∧ ∀ v, p.2.data ≠ .cell v
  hok : HOk X.prog X.w H s.heap
  len : σ.length = X.N.length
section
variable {X : Cx} {pins : List (Addr × Obj)} {σ : List (Option V)} {H H' : Hp} {s : Shared} {h' : Heap}
theorem Cx.Ok.nofr (ok : X.Ok) {b : Addr} {o : Obj} (e : X.base.get? b = some o) : b ∉ X.fs := fun hb => by
  have := (ok.funs.mem hb).1
  rw [e] at this; cases this
theorem Inv.bs (I : Inv X pins σ H s) : ∀ b o, X.base.get? b = some o → s.heap.get? b = some o ∧ H b = none := fun b o e =>
  ⟨I.base.keep b o (I.ok.bs b o e).1 (I.ok.bs b o e).2 (I.ok.nofr e) (I.ok.noex b o e), I.base.free b o (I.ok.bs b o e).1 (I.ok.bs b o e).2 (I.ok.noex b o e)⟩
theorem Inv.bk (I : Inv X pins σ H s) : ∀ b o, X.base.get? b = some o → s.heap.get? b = some o := fun b o e => (I.bs b o e).1
theorem Inv.mod (I : Inv X pins σ H s) : Mod X.K X.mg X.base := I.ok.mod
theorem Inv.kIn (I : Inv X pins σ H s) : X.K.In s.heap := I.ok.mod.kin.keeps I.bk
theorem Inv.nolimit (I : Inv X pins σ H s) : s.heap.NoLimit := I.ok.mod.nolimit.keeps I.bk
theorem Inv.fr (I : Inv X pins σ H s) : ∃ m, Fr X.base X.env.locals s.heap m :=
  let ⟨m, hn, _⟩ := I.loc
  ⟨m, hn, I.bk, Nat.le_trans I.ok.bsz I.ok.above⟩
theorem Inv.lt (I : Inv X pins σ H s) : X.env.locals < s.heap.objs.size := let ⟨_, hn, _⟩ := I.loc; hn.lt
theorem Inv.sz (I : Inv X pins σ H s) : X.s₀.heap.objs.size ≤ s.heap.objs.size := Nat.le_trans I.ok.above (Nat.le_of_lt I.lt)
theorem Inv.nofs (I : Inv X pins σ H s) {a : Addr} (h : s.heap.objs.size ≤ a) : a ∉ X.fs := fun hb => by
  obtain ⟨_, o, ho, _⟩ := I.ok.funs.mem hb
  exact absurd (Nat.lt_of_lt_of_le (Heap.lt_size ho) (Nat.le_trans I.sz h)) (Nat.lt_irrefl _)
theorem Inv.cne (I : Inv X pins σ H s) : ∀ x c, X.env.cells.lookup x = some c → c ≠ X.env.locals := fun x c e z => by
  obtain ⟨v, o, ho, hd⟩ := I.cell x c e
  obtain ⟨m, ⟨o', es, ep, ho', hd', _⟩, _⟩ := I.loc
  rw [z, ho'] at ho; cases ho; rw [hd'] at hd; cases hd
theorem Inv.funs (I : Inv X pins σ H s) : s.heap.FunFrames X.base X.outer := by
  have all : ∀ (l : List Env), (∀ b ∈ frs l, b ∈ X.fs) → X.s₀.heap.FunFrames X.base l → s.heap.FunFrames X.base l := by
    intro l
    induction l with
    | nil => intro _ _; trivial
    | cons env r ih =>
      intro hs hl
      obtain ⟨hk, ⟨L, o, hf, hn, ho, hd⟩, hr⟩ := hl
      have hL : L ∈ X.fs := hs L (by unfold frs; rw [List.filterMap_cons, hf]; exact List.mem_cons_self)
      obtain ⟨sl, e⟩ := I.base.slot L o ho (I.ok.frf L hL) hL fun z => I.ok.exfs L z hL
      exact ⟨hk, ⟨L, _, hf, hn, e, hd⟩, ih (fun b hb => hs b (by unfold frs; rw [List.filterMap_cons, hf]; exact List.mem_cons_of_mem _ hb)) hr⟩
  exact all X.outer (fun _ hb => hb) I.ok.funs
theorem Inv.stack (I : Inv X pins σ H s) : s.heap.FunFrames X.base X.stack := by
  rcases I.ok.stk with e | ⟨e, hf⟩
  · rw [e]; exact I.funs
  · rw [e]
    obtain ⟨m, hn, _⟩ := I.loc
    refine .cons (by rw [I.ok.kind]; decide) hf hn ?_ I.funs
    exact Heap.get?_none_of_le (Nat.le_trans I.ok.bsz I.ok.above)
theorem Inv.stkSub (I : Inv X pins σ H s) : ∀ b ∈ frs X.stack, b ∈ X.env.locals :: X.fs := fun b hb => by
  rcases I.ok.stk with e | ⟨e, hf⟩
  · rw [e] at hb; exact List.mem_cons_of_mem _ hb
  · rw [e] at hb
    unfold frs at hb
    rw [List.filterMap_cons, hf] at hb
    exact hb
theorem Inv.stkFree (I : Inv X pins σ H s) : ∀ b ∈ frs X.stack, H b = none := fun b hb => by
  rcases List.mem_cons.mp (I.stkSub b hb) with e | hb
  · rw [e]; exact I.free
  · obtain ⟨_, o, ho, _⟩ := I.ok.funs.mem hb
    exact I.base.free b o ho (I.ok.frf b hb) fun z => I.ok.exfs b z hb
theorem Inv.step {g' : Array GenState} {t' : Nat} {d' : Drawn} {ch : List Addr} (I : Inv X pins σ H s)
    (hch : ∀ b ∈ ch, (b ∈ X.ex ∨ X.s₀.heap.objs.size ≤ b) ∧ b ≠ X.env.locals ∧ (∀ x c, X.env.cells.lookup x = some c → c ≠ b) ∧ ∀ p ∈ X.pn ++ pins, p.1 ≠ b)
    (keep : ∀ b o, b ≠ X.env.locals → b ∉ X.fs → b ∉ ch → s.heap.get? b = some o → H b = none → h'.get? b = some o)
    (slot : ∀ b o, b ≠ X.env.locals → b ∈ X.fs → b ∉ ch → s.heap.get? b = some o → H b = none → ∃ sl, h'.get? b = some { o with slots := sl }) (free : ∀ b o, b ∉ ch → s.heap.get? b = some o → H b = none → H' b = none)
    (there : ∀ b o, b ∉ ch → s.heap.get? b = some o → ∃ o', h'.get? b = some o')
    (tups : ∀ b xs, H b = some (.tup xs) → H' b = some (.tup xs)) (frzs : ∀ b o u, H b = some (.frz o u) → H' b = some (.frz o u)) (tbls : ∀ b ps, H b = some (.tbl ps) → ∃ more, H' b = some (.tbl (ps ++ more)))
    (ns : ∀ m, s.heap.Ns X.env.locals m → h'.Ns X.env.locals m) (hok : HOk X.prog X.w H' h') (hg : AllBare g') :
    Inv X pins σ H' { s with heap := h', gens := g', drawn := d', toks := t' } := by
  have neL : ∀ b o, X.s₀.heap.get? b = some o → b ≠ X.env.locals := fun b o e => Nat.ne_of_lt (Nat.lt_of_lt_of_le (Heap.lt_size e) I.ok.above)
  have neC : ∀ b o, X.s₀.heap.get? b = some o → b ∉ X.ex → b ∉ ch := fun b o e hx hb => by
    rcases (hch b hb).1 with z | z
    · exact hx z
    · exact absurd (Nat.lt_of_lt_of_le (Heap.lt_size e) z) (Nat.lt_irrefl _)
  have cellK : ∀ x c, X.env.cells.lookup x = some c → ∀ v, s.heap.IsCell c v → h'.IsCell c v := fun x c e v ⟨o, ho, hd⟩ => by
    have nch : c ∉ ch := fun z => (hch c z).2.2.1 x c e rfl
    by_cases hc : c ∈ X.fs
    · obtain ⟨sl, q⟩ := slot c o (I.cne x c e) hc nch ho (I.freeC x c e)
      exact ⟨_, q, hd⟩
    · exact ⟨o, keep c o (I.cne x c e) hc nch ho (I.freeC x c e), hd⟩
  refine ⟨I.ok, I.os, hg, ⟨fun b o e n hb hx => ?_, fun b o e n hb hx => ?_, fun b o e n hx => ?_, fun b o e hx => ?_, fun b xs e => tups b xs (I.base.tups b xs e), fun b o xs e => frzs b o xs (I.base.frzs b o xs e), fun b ps e => ?_⟩, ?_, fun x c e => ?_, ?_, fun x c e => ?_, fun p hp => ?_, hok, I.len⟩
  · exact keep b o (neL b o e) hb (neC b o e hx) (I.base.keep b o e n hb hx) (I.base.free b o e n hx)
  · obtain ⟨sl, e1⟩ := I.base.slot b o e n hb hx
    obtain ⟨sl', e2⟩ := slot b _ (neL b o e) hb (neC b o e hx) e1 (I.base.free b o e n hx)
    exact ⟨sl', e2⟩
  · obtain ⟨o', e1⟩ := I.base.there b o e hx
    exact free b o' (neC b o e hx) e1 (I.base.free b o e n hx)
  · obtain ⟨o', e1⟩ := I.base.there b o e hx
    exact there b o' (neC b o e hx) e1
  · obtain ⟨m1, e1⟩ := I.base.tbls b ps e
    obtain ⟨m2, e2⟩ := tbls b _ e1
    exact ⟨m1 ++ m2, by rw [e2, Array.append_assoc]⟩
  · obtain ⟨m, hn, hl⟩ := I.loc
    refine ⟨m, ns m hn, fun i x v e1 e2 e3 => ?_⟩
    obtain ⟨u, r, l⟩ := hl i x v e1 e2 e3
    refine ⟨u, r, ?_⟩
    rcases l with l | ⟨k, c, e, z⟩
    · exact .inl l
    · exact .inr ⟨k, c, e, cellK x c e _ z⟩
  · obtain ⟨v, z⟩ := I.cell x c e
    exact ⟨v, cellK x c e v z⟩
  · obtain ⟨m, ⟨o, _, _, ho, _⟩, _⟩ := I.loc
    exact free _ o (fun z => (hch _ z).2.1 rfl) ho I.free
  · obtain ⟨v, o, ho, hd⟩ := I.cell x c e
    exact free c o (fun z => (hch c z).2.2.1 x c e rfl) ho (I.freeC x c e)
  · obtain ⟨e, n, ne, nf, d⟩ := I.pin p hp
    have nch : p.1 ∉ ch := fun z => (hch p.1 z).2.2.2 p hp rfl
    exact ⟨keep p.1 p.2 ne nf nch e n, free p.1 p.2 nch e n, ne, nf, d⟩
theorem Inv.un {t' : Nat} (I : Inv X pins σ H s) (u : Un X.fs [] H H' s.heap h') (hok : HOk X.prog X.w H' h') : Inv X pins σ H' { s with heap := h', toks := t' } := by
  obtain ⟨m, ⟨o, es, ep, ho, r⟩, _⟩ := id I.loc
  obtain ⟨sl, hL⟩ := u.any ho I.free (by simp)
  exact I.step (g' := s.gens) (d' := s.drawn) (ch := []) (fun _ z => nomatch z) (fun b o _ hb _ e n => u.keep b o e n hb (by simp)) (fun b o _ hb _ e n => u.slot b o e n hb (by simp)) (fun b o _ e n => u.free b o e n (by simp)) (fun b o _ e => u.there b o e (by simp)) u.tups u.frzs u.tbls (fun m' hm => by
    obtain ⟨o', es', ep', ho', r'⟩ := hm
    rw [ho] at ho'; cases ho'
    exact ⟨_, es', ep', hL, r'⟩) hok I.bare
theorem Inv.call {g' : Array GenState} {t' : Nat} {d' : Drawn} {ch : List Addr} (I : Inv X pins σ H s) (u : Un (frs X.stack) ch H H' s.heap h') (hok : HOk X.prog X.w H' h') (hg : AllBare g')
    (hch : ∀ b ∈ ch, (b ∈ X.ex ∨ X.s₀.heap.objs.size ≤ b) ∧ b ≠ X.env.locals ∧ (∀ x c, X.env.cells.lookup x = some c → c ≠ b) ∧ ∀ p ∈ X.pn ++ pins, p.1 ≠ b) :
    Inv X pins σ H' { s with heap := h', gens := g', drawn := d', toks := t' } := by
  obtain ⟨m, ⟨o, es, ep, ho, r⟩, _⟩ := id I.loc
  obtain ⟨sl, hL⟩ := u.any ho I.free fun z => (hch _ z).2.1 rfl
  exact I.step (ch := ch) hch (fun b o hL hb hc e n => u.keep b o e n (fun z => (List.mem_cons.mp (I.stkSub b z)).elim hL hb) hc) (fun b o _ _ hc e n => u.any e n hc) (fun b o hc e n => u.free b o e n hc) (fun b o hc e => u.there b o e hc) u.tups u.frzs u.tbls (fun m' hm => by
    obtain ⟨o', es', ep', ho', r'⟩ := hm
    rw [ho] at ho'; cases ho'
    exact ⟨_, es', ep', hL, r'⟩) hok hg
theorem Inv.turned {t' : Nat} {it : Addr} (I : Inv X pins σ H s) (k : ∀ b o, b ≠ it → s.heap.get? b = some o → h'.get? b = some o) (hn : H it = none) (hL : it ≠ X.env.locals)
    (h1 : it ∈ X.ex ∨ X.s₀.heap.objs.size ≤ it) (h2 : ∀ x c, X.env.cells.lookup x = some c → c ≠ it) (h3 : ∀ p ∈ X.pn ++ pins, p.1 ≠ it) : Inv X pins σ H { s with heap := h', toks := t' } := by
  have nit : ∀ b u, H b = some u → b ≠ it := fun b u e z => by rw [z, hn] at e; cases e
  refine I.step (g' := s.gens) (d' := s.drawn) (ch := [it]) (fun b hb => ?_) (fun b o _ _ hc e _ => k b o (fun z => hc (by simp [z])) e) (fun b o _ _ hc e _ => ⟨o.slots, k b o (fun z => hc (by simp [z])) e⟩) (fun _ _ _ _ n => n)
    (fun b o hc e => ⟨o, k b o (fun z => hc (by simp [z])) e⟩) (fun _ _ e => e) (fun _ _ _ e => e) (fun b ps e => ⟨#[], by rw [e]; simp⟩) (fun m hm => ?_) (fun b u e => ?_) I.bare
  · have e : b = it := by simpa using hb
    subst e
    exact ⟨h1, hL, h2, h3⟩
  · obtain ⟨o, es, ep, ho, r⟩ := hm
    exact ⟨o, es, ep, k _ o (Ne.symm hL) ho, r⟩
  · refine (I.hok b u e).stay (fun c v hc q => k c v ?_ q) (fun _ q => q) fun _ _ q => q
    rcases hc with z | z
    · rw [z]; exact nit b u e
    · exact nit c _ z
theorem Inv.tok (I : Inv X pins σ H s) (t : Nat) : Inv X pins σ H { s with toks := t } := I.un (h' := s.heap) (t' := t) Un.refl I.hok
theorem Inv.kept {t' : Nat} (I : Inv X pins σ H s) (k : ∀ b u, s.heap.get? b = some u → h'.get? b = some u) : Inv X pins σ H { s with heap := h', toks := t' } := I.un (Un.kept k) (I.hok.kept k)
theorem Inv.laid {a : Addr} {o : HO} {t' : Nat} (I : Inv X pins σ H s) (k : ∀ b u, s.heap.get? b = some u → h'.get? b = some u) (hp : s.heap.objs.size ≤ a) (new : ObjOk X.prog X.w (upd H a o) h' a o) :
    Inv X pins σ (upd H a o) { s with heap := h', toks := t' } := I.un (Un.laid k hp (I.hok.fresh hp)) (I.hok.laid k hp new)
theorem Inv.write {x e : Addr} {o : HO} {t' : Nat} (I : Inv X pins σ H s) (mu : Mut (H x)) (he : e = x ∨ H e = some (.own x)) (k : ∀ b u, b ≠ e → s.heap.get? b = some u → h'.get? b = some u) (heo : ∃ u, h'.get? e = some u)
    (new : ObjOk X.prog X.w (upd H x o) h' x o) : Inv X pins σ (upd H x o) { s with heap := h', toks := t' } := I.un (Un.write mu he k heo) (I.hok.write mu he k heo new)
theorem Inv.pins_of {pins' : List (Addr × Obj)} (I : Inv X pins σ H s) (h : ∀ p ∈ pins', s.heap.get? p.1 = some p.2 ∧ H p.1 = none ∧ p.1 ≠ X.env.locals ∧ p.1 ∉ X.fs ∧ ∀ v, p.2.data ≠ .cell v) : Inv X pins' σ H s :=
  ⟨I.ok, I.os, I.bare, I.base, I.loc, I.cell, I.free, I.freeC, fun p hp => (List.mem_append.mp hp).elim (fun z => I.pin p (List.mem_append_left _ z)) (h p), I.hok, I.len⟩
theorem nodup_ix {N : List Str} (hN : N.Nodup) {i j : Nat} {x : Str} (a : N[i]? = some x) (b : N[j]? = some x) : i = j := by
  obtain ⟨h1, e1⟩ := List.getElem?_eq_some_iff.mp a
  obtain ⟨h2, e2⟩ := List.getElem?_eq_some_iff.mp b
  exact (List.getElem_inj hN).mp (e1.trans e2.symm)
theorem store_ok2 {M : Model} {A : Around} {E : Value → Shared → Prop} {i : Nat} {x : Str} {v : V} {u : Value} {Q : Unit → Shared → Prop} (I : Inv X pins σ H s) (hN : X.N.Nodup) (hi : X.N[i]? = some x) (hx : Loc X.env.scope x) (r : RelV v u)
    (h : ∀ s', Inv X pins (σ.set i (some v)) H s' → (∃ a, Heap.SameBut a s.heap s'.heap ∧ (a = X.env.locals ∨ X.env.cells.lookup x = some a)) → Q () s') (hf : X.fn x = true ∨ X.env.scope.names.lookup x = some .local := by first | exact .inl rfl | exact .inr rfl | assumption) : wpAny M A (storeName X.env x u) Q E s := by
  obtain ⟨m, hn, hl⟩ := id I.loc
  have hcls : (X.env.scope.kind == .class || (X.env.scope.kind == .module && X.env.locals != X.env.globals)) = false := by rw [I.ok.kind]; rfl
  have hiσ : i < σ.length := by rw [I.len]; exact (List.getElem?_eq_some_iff.mp hi).1
  have cne := I.cne
  have tracked : ∀ {a : Addr} {h' : Heap}, (∃ o, s.heap.get? a = some o ∧ H a = none) → Heap.SameBut a s.heap h' → HOk X.prog X.w H h' := fun {a h'} ha hs b ob e => by
    obtain ⟨_, _, hfree⟩ := ha
    refine (I.hok b ob e).stay (fun c w' hc q => (hs.2 c ?_).trans q) (fun _ q => q) fun _ _ q => q
    rintro rfl
    rcases hc with rfl | hc
    · rw [hfree] at e; cases e
    · rw [hfree] at hc; cases hc
  rcases hx with hk | hk
  · refine wpAny_storeName_local hk hn (fun h' hn' hs => ?_) hcls
    obtain ⟨oL, _, _, hoL, _⟩ := id hn
    refine h _ ⟨I.ok, I.os, I.bare, ⟨fun b o e n hb hx => ?_, fun b o e n hb hx => ?_, I.base.free, fun b o e hx => ?_, I.base.tups, I.base.frzs, I.base.tbls⟩, ⟨_, hn', fun j y v' e1 e2 e3 => ?_⟩, fun y c e => ?_, I.free, I.freeC, fun p hp => ?_, tracked ⟨oL, hoL, I.free⟩ hs, by simpa using I.len⟩ ⟨_, hs, .inl rfl⟩
    · exact (hs.2 b (Nat.ne_of_lt (Nat.lt_of_lt_of_le (Heap.lt_size e) I.ok.above))).trans (I.base.keep b o e n hb hx)
    · obtain ⟨sl, e1⟩ := I.base.slot b o e n hb hx
      exact ⟨sl, (hs.2 b (Nat.ne_of_lt (Nat.lt_of_lt_of_le (Heap.lt_size e) I.ok.above))).trans e1⟩
    · obtain ⟨o', e1⟩ := I.base.there b o e hx
      exact ⟨o', (hs.2 b (Nat.ne_of_lt (Nat.lt_of_lt_of_le (Heap.lt_size e) I.ok.above))).trans e1⟩
    · by_cases hj : j = i
      · subst hj
        rw [hi] at e1; cases e1
        rw [List.getElem?_set_self hiσ] at e2
        cases e2
        exact ⟨u, r, .inl ⟨hk, by simp⟩⟩
      · rw [List.getElem?_set_ne (Ne.symm hj)] at e2
        obtain ⟨u', r', q⟩ := hl j y v' e1 e2 e3
        refine ⟨u', r', ?_⟩
        rcases q with ⟨k, e⟩ | ⟨k, c, e, z⟩
        · refine .inl ⟨k, ?_⟩
          have : y ≠ x := fun e => hj (nodup_ix hN e1 (e ▸ hi))
          simp [this, e]
        · exact .inr ⟨k, c, e, z.sameBut hs (cne y c e)⟩
    · obtain ⟨w', z⟩ := I.cell y c e
      exact ⟨w', z.sameBut hs (cne y c e)⟩
    · obtain ⟨e, n, ne, nf, d⟩ := I.pin p hp
      exact ⟨(hs.2 p.1 ne).trans e, n, ne, nf, d⟩
  · have hfn : X.fn x = true := by
      rcases hf with z | z
      · exact z
      · rw [z] at hk; cases hk
    obtain ⟨c, hc⟩ := I.ok.has x (.inl hk)
    obtain ⟨w', z⟩ := I.cell x c hc
    refine wpAny_storeName_cell I.ok.kind hk hc z (fun h' hc' hs => ?_)
    obtain ⟨oc, hoc, hocd⟩ := id z
    refine h { s with heap := h' } ⟨I.ok, I.os, I.bare, ⟨fun b o e n hb hx => ?_, fun b o e n hb hx => ?_, I.base.free, fun b o e hx => ?_, I.base.tups, I.base.frzs, I.base.tbls⟩, ⟨m, hn.sameBut hs (Ne.symm (cne x c hc)), fun j y v' e1 e2 e3 => ?_⟩, fun y c' e => ?_, I.free, I.freeC, fun p hp => ?_, tracked ⟨oc, hoc, I.freeC x c hc⟩ hs, by simpa using I.len⟩ ⟨c, hs, .inr hc⟩
    · exact (hs.2 b (Nat.ne_of_lt (Nat.lt_of_lt_of_le (Heap.lt_size e) (I.ok.cab x c hfn hc)))).trans (I.base.keep b o e n hb hx)
    · obtain ⟨sl, e1⟩ := I.base.slot b o e n hb hx
      exact ⟨sl, (hs.2 b (Nat.ne_of_lt (Nat.lt_of_lt_of_le (Heap.lt_size e) (I.ok.cab x c hfn hc)))).trans e1⟩
    · obtain ⟨o', e1⟩ := I.base.there b o e hx
      exact ⟨o', (hs.2 b (Nat.ne_of_lt (Nat.lt_of_lt_of_le (Heap.lt_size e) (I.ok.cab x c hfn hc)))).trans e1⟩
    · by_cases hj : j = i
      · subst hj
        rw [hi] at e1; cases e1
        rw [List.getElem?_set_self hiσ] at e2
        cases e2
        exact ⟨u, r, .inr ⟨.inl hk, c, hc, hc'⟩⟩
      · rw [List.getElem?_set_ne (Ne.symm hj)] at e2
        obtain ⟨u', r', q⟩ := hl j y v' e1 e2 e3
        refine ⟨u', r', ?_⟩
        rcases q with q | ⟨k, c', e, z'⟩
        · exact .inl q
        · refine .inr ⟨k, c', e, z'.sameBut hs ?_⟩
          rintro rfl
          exact hj (nodup_ix hN e1 (I.ok.inj _ _ _ e hc ▸ hi))
    · by_cases hcc : c' = c
      · subst hcc; exact ⟨_, hc'⟩
      · obtain ⟨w2, z2⟩ := I.cell y c' e
        exact ⟨w2, z2.sameBut hs hcc⟩
    · obtain ⟨e, n, ne, nf, d⟩ := I.pin p hp
      refine ⟨(hs.2 p.1 ?_).trans e, n, ne, nf, d⟩
      intro q
      rw [q, hoc] at e
      have q' : oc = p.2 := Option.some.inj e
      exact d w' (by rw [← q']; exact hocd)
theorem store_ok {M : Model} {A : Around} {E : Value → Shared → Prop} {i : Nat} {x : Str} {v : V} {u : Value} {Q : Unit → Shared → Prop} (I : Inv X pins σ H s) (hN : X.N.Nodup) (hi : X.N[i]? = some x) (hx : Loc X.env.scope x) (r : RelV v u)
    (h : ∀ s', Inv X pins (σ.set i (some v)) H s' → Q () s') (hf : X.fn x = true ∨ X.env.scope.names.lookup x = some .local := by first | exact .inl rfl | exact .inr rfl | assumption) : wpAny M A (storeName X.env x u) Q E s :=
  store_ok2 I hN hi hx r (fun s' I' _ => h s' I') hf
theorem Inv.call' {s' : Shared} {ch : List Addr} (I : Inv X pins σ H s) (ho : s'.os = s.os) (u : Un (frs X.stack) ch H H' s.heap s'.heap) (hok : HOk X.prog X.w H' s'.heap) (hg : AllBare s'.gens)
    (hch : ∀ b ∈ ch, (b ∈ X.ex ∨ X.s₀.heap.objs.size ≤ b) ∧ b ≠ X.env.locals ∧ (∀ x c, X.env.cells.lookup x = some c → c ≠ b) ∧ ∀ p ∈ X.pn ++ pins, p.1 ≠ b) : Inv X pins σ H' s' := by
  obtain ⟨h', g', d', t', o'⟩ := s'
  have e : o' = s.os := ho
  subst e
  exact I.call (g' := g') (t' := t') (d' := d') u hok hg hch
end
abbrev XK := Value → Option Addr → Hp → Prop
abbrev St := List (Option V)
abbrev VK := V → Hp → Prop
abbrev TE := St → Hp → VK → Prop
abbrev TT := St → Hp → (Bool → Hp → Prop) → Prop
abbrev TA := St → Hp → (List V → Hp → Prop) → Prop
structure Ends where
  nx : St → Hp → Prop
  rt : VK
  bk : St → Hp → Prop := fun _ _ => False
  ct : St → Hp → Prop := fun _ _ => False
abbrev TS := Ends → St → Hp → Prop
def EP (X : Cx) (pins : List (Addr × Obj)) (σ : St) (Q : VK) (u : Value) (s' : Shared) : Prop := ∃ v H', Inv X pins σ H' s' ∧ RelV v u ∧ Q v H'
def TP (X : Cx) (pins : List (Addr × Obj)) (σ : St) (Q : Bool → Hp → Prop) (b : Bool) (s' : Shared) : Prop := ∃ H', Inv X pins σ H' s' ∧ Q b H'
def AP (X : Cx) (pins : List (Addr × Obj)) (σ : St) (Q : List V → Hp → Prop) (us : List Value) (s' : Shared) : Prop := ∃ vs H', Inv X pins σ H' s' ∧ Vals vs us ∧ Q vs H'
def SP (X : Cx) (pins : List (Addr × Obj)) (D : Ends) (f : Flow) (s' : Shared) : Prop :=
  match f with
  | .next => ∃ σ' H', Inv X pins σ' H' s' ∧ D.nx σ' H'
  | .brk => ∃ σ' H', Inv X pins σ' H' s' ∧ D.bk σ' H'
  | .cont => ∃ σ' H', Inv X pins σ' H' s' ∧ D.ct σ' H'
  | .ret u => ∃ v σ' H', Inv X pins σ' H' s' ∧ RelV v u ∧ D.rt v H'
def PE (X : Cx) (e : Expr) (t : TE) : Prop :=
  ∀ (pins : List (Addr × Obj)) (s : Shared) (σ : St) (H : Hp) (Q : VK), Inv X pins σ H s → t σ H Q → wpAny (model X.prog X.w) X.A (eval e X.env) (EP X pins σ Q) X.xe s
def PT (X : Cx) (e : Expr) (t : TT) : Prop :=
  ∀ (pins : List (Addr × Obj)) (s : Shared) (σ : St) (H : Hp) (Q : Bool → Hp → Prop), Inv X pins σ H s → t σ H Q → wpAny (model X.prog X.w) X.A (isTrue e X.env (eval e X.env)) (TP X pins σ Q) X.xe s
def PW (X : Cx) (e : Expr) (t : TT) : Prop :=
  ∀ (whole : Sem Value) (pins : List (Addr × Obj)) (s : Shared) (σ : St) (H : Hp) (Q : Bool → Hp → Prop), Inv X pins σ H s → t σ H Q → wpAny (model X.prog X.w) X.A (isTrue e X.env whole) (TP X pins σ Q) X.xe s
theorem PW.pt {X : Cx} {e : Expr} {t : TT} (h : PW X e t) : PT X e t := h _
def PA (X : Cx) (es : List Expr) (t : TA) : Prop :=
  ∀ (pos : Pos) (pins : List (Addr × Obj)) (s : Shared) (σ : St) (H : Hp) (Q : List V → Hp → Prop), Inv X pins σ H s → t σ H Q → wpAny (model X.prog X.w) X.A (spliced (backTo pos (starEach es X.env))) (AP X pins σ Q) X.xe s
def PS (X : Cx) (st : Stmt) (t : TS) : Prop :=
  ∀ (pins : List (Addr × Obj)) (s : Shared) (σ : St) (H : Hp) (D : Ends), Inv X pins σ H s → t D σ H → wpAny (model X.prog X.w) X.A (exec st X.env) (SP X pins D) X.xe s
def PSs (X : Cx) (st : List Stmt) (t : TS) : Prop :=
  ∀ (pins : List (Addr × Obj)) (s : Shared) (σ : St) (H : Hp) (D : Ends), Inv X pins σ H s → t D σ H → wpAny (model X.prog X.w) X.A (execs st X.env) (SP X pins D) X.xe s
theorem thn {α : Type} {t : Sem α} {Q Q' : α → Shared → Prop} {M : Model} {A : Around} {E : Value → Shared → Prop} {s : Shared} (h : wpAny M A t Q E s) (hQ : ∀ a s, Q a s → Q' a s) : wpAny M A t Q' E s := wpAny_mono h hQ fun _ _ x => x
end L2
namespace L2
open PySem PySem.Spec PyProof.Rows
section
variable {X : Cx}
theorem bin {a b : Expr} {ta tb : TE} (ha : PE X a ta) (hb : PE X b tb) {pins : List (Addr × Obj)} {s : Shared} {σ : St} {H : Hp} {R : V → V → Hp → Prop} (I : Inv X pins σ H s) (h : ta σ H fun x H1 => tb σ H1 fun y H2 => R x y H2)
    {α : Type} {Q : α → Shared → Prop} {f : Value → Value → Sem α}
    (hf : ∀ v u s2 x y H2, Inv X pins σ H2 s2 → RelV x v → RelV y u → R x y H2 → wpAny (model X.prog X.w) X.A (f v u) Q X.xe s2) :
    wpAny (model X.prog X.w) X.A (eval a X.env) (fun v s₁ => wpAny (model X.prog X.w) X.A (eval b X.env) (fun u s₂ => wpAny (model X.prog X.w) X.A (f v u) Q X.xe s₂) X.xe s₁) X.xe s := by
  refine thn (ha pins s σ H _ I h) fun v s1 ⟨x, H1, I1, r1, q1⟩ => ?_
  refine thn (hb pins s1 σ H1 _ I1 q1) fun u s2 ⟨y, H2, I2, r2, q2⟩ => ?_
  exact hf v u s2 x y H2 I2 r1 r2 q2
def tVar (i : Nat) : TE := fun σ H Q => ∃ v, σ[i]? = some (some v) ∧ Q v H
def tC (v : V) : TE := fun _ H Q => Q v H
theorem pe_var {i : Nat} {x : Str} {pos : Pos} (hN : X.N[i]? = some x) (hv : Vis X.env.scope x) (hd : (x == ("__debug__" : Str)) = false := by decide) (hcd : (x == ("__classdict__" : Str)) = false := by decide) : PE X (.Name x pos) (tVar i) := by
  intro pins s σ H Q I h
  obtain ⟨v, e, h⟩ := h
  obtain ⟨m, hn, hl⟩ := I.loc
  obtain ⟨u, r, l⟩ := hl i x v hN e hv
  have fin : EP X pins σ Q u s := ⟨v, H, I, r, h⟩
  rcases l with ⟨hk, hm⟩ | ⟨hk, c, hc, hcell⟩
  · exact wpAny_Name (wpAny_loadName_local I.ok.kind hk hn hm fin) hd
  · rcases hk with hk | hk
    · exact wpAny_Name (wpAny_loadName_cell I.ok.kind hk hc hcell fin) hd
    · exact wpAny_Name (wpAny_loadName_free I.ok.kind hk hc hcell fin hcd) hd
theorem pe_int {i j pos} : PE X (.Constant (.int i) j pos) (tC (.int i)) := fun _ _ _ H _ I h => wpAny_Constant_int ⟨.int i, H, I.tok _, ⟨_, rfl⟩, h⟩
theorem pe_bl {b j pos} : PE X (.Constant (.bool b) j pos) (tC (.bl b)) := fun _ _ _ H _ I h => Constant_bool ⟨.bl b, H, I, rfl, h⟩
theorem pe_non {j pos} : PE X (.Constant .none j pos) (tC .non) := fun _ _ _ H _ I h => Constant_none ⟨.non, H, I, rfl, h⟩
theorem pe_str {x j pos} : PE X (.Constant (.str x) j pos) (tC (.str x)) := fun _ _ _ H _ I h => Calls.Constant_str ⟨.str x, H, I.tok _, ⟨_, rfl⟩, h⟩
def Gl (X : Cx) (x : Str) : Prop := X.env.kindOf x = some .globalImplicit
theorem ld_glob {E : Value → Shared → Prop} {pins : List (Addr × Obj)} {s : Shared} {σ : St} {H : Hp} {x : Str} {u : Value} {pos : Pos} {Q : Value → Shared → Prop} (I : Inv X pins σ H s) (hg : Gl X x) (hm : X.mg x = some u) (h : Q u s)
    (hd : (x == ("__debug__" : Str)) = false := by decide) : wpAny (model X.prog X.w) X.A (eval (.Name x pos) X.env) Q E s :=
  Calls.Name_function_global I.ok.kind hg (Calls.loadGlobal_global (by rw [I.ok.glob]; exact I.mod.glob.keeps I.bk) hm h) hd
theorem ld_blt {E : Value → Shared → Prop} {pins : List (Addr × Obj)} {s : Shared} {σ : St} {H : Hp} {x : Str} {u : Value} {pos : Pos} {Q : Value → Shared → Prop} (I : Inv X pins σ H s) (hg : Gl X x) (hm : X.mg x = none) (hv : bootBuiltins x = some u) (h : Q u s)
    (hn : x ≠ "__name__" := by decide) (hd : (x == ("__debug__" : Str)) = false := by decide) : wpAny (model X.prog X.w) X.A (eval (.Name x pos) X.env) Q E s := by
  obtain ⟨mb, h1, h2⟩ := I.mod.blt
  exact Calls.Name_function_global I.ok.kind hg (Calls.loadGlobal_builtin (by rw [I.ok.glob]; exact I.mod.glob.keeps I.bk) hm (by rw [I.ok.blt]; exact h1.keeps I.bk) ((h2 x hn).trans hv) h) hd
theorem pe_glob {x : Str} {v : V} {u : Value} {pos : Pos} (hg : Gl X x) (hm : X.mg x = some u) (r : RelV v u) (hd : (x == ("__debug__" : Str)) = false := by decide) : PE X (.Name x pos) (tC v) :=
  fun _ _ _ H _ I h => ld_glob I hg hm ⟨v, H, I, r, h⟩ hd
theorem pe_bltn {x : Str} {v : V} {u : Value} {pos : Pos} (hg : Gl X x) (hm : X.mg x = none) (hv : bootBuiltins x = some u) (r : RelV v u) (hn : x ≠ "__name__" := by decide) (hd : (x == ("__debug__" : Str)) = false := by decide) : PE X (.Name x pos) (tC v) :=
  fun _ _ _ H _ I h => ld_blt I hg hm hv ⟨v, H, I, r, h⟩ hn hd
def t2I (ta tb : TE) (k : Int → Int → Hp → Prop) : St → Hp → Prop := fun σ H => ta σ H fun x H1 => tb σ H1 fun y H2 => ∃ i j, x = .int i ∧ y = .int j ∧ k i j H2
def tAdd (ta tb : TE) : TE := fun σ H Q => t2I ta tb (fun i j H2 => Q (.int (i + j)) H2) σ H
def tSub (ta tb : TE) : TE := fun σ H Q => t2I ta tb (fun i j H2 => Q (.int (i - j)) H2) σ H
def tMul (ta tb : TE) : TE := fun σ H Q => t2I ta tb (fun i j H2 => (-(2 ^ 64) < i ∧ i < 2 ^ 64) ∧ Q (.int (i * j)) H2) σ H
variable {a b : Expr} {ta tb : TE} {pos : Pos}
def PC (X : Cx) (op : CmpOp) (a b : Expr) (t : TE) : Prop :=
  ∀ (pins : List (Addr × Obj)) (s : Shared) (σ : St) (H : Hp) (Q : VK), Inv X pins σ H s → t σ H Q →
    wpAny (model X.prog X.w) X.A (eval a X.env) (fun v s₁ => wpAny (model X.prog X.w) X.A (eval b X.env) (fun u s₂ => wpAny (model X.prog X.w) X.A (compareOp op v u) (EP X pins σ Q) X.xe s₂) X.xe s₁) X.xe s
theorem nobehind (b : Expr) {op : CmpOp} (h : op ≠ .In) (h2 : op ≠ .NotIn) : behindInMarks op b = false := by
  have e1 : (op == CmpOp.In) = false := by cases op <;> first | rfl | exact absurd rfl h
  have e2 : (op == CmpOp.NotIn) = false := by cases op <;> first | rfl | exact absurd rfl h2
  cases b <;> simp [behindInMarks, e1, e2]
def tCmp (p : Int → Int → Bool) (ta tb : TE) : TE := fun σ H Q => t2I ta tb (fun i j H2 => Q (.bl (p i j)) H2) σ H
abbrev tLt : TE → TE → TE := tCmp fun i j => decide (i < j)
abbrev tLe : TE → TE → TE := tCmp fun i j => decide (i ≤ j)
abbrev tGt : TE → TE → TE := tCmp fun i j => decide (j < i)
abbrev tGe : TE → TE → TE := tCmp fun i j => decide (j ≤ i)
abbrev tEqI : TE → TE → TE := tCmp fun i j => decide (i = j)
abbrev tNeI : TE → TE → TE := tCmp fun i j => !decide (i = j)
def tIsN (ta : TE) : TE := fun σ H Q => ta σ H fun x H1 => Q (.bl (decide (x = .non))) H1
def tNotN (ta : TE) : TE := fun σ H Q => ta σ H fun x H1 => Q (.bl (!decide (x = .non))) H1
def tB (t : TE) : TT := fun σ H Q => t σ H fun x H1 => ∃ c, x = .bl c ∧ Q c H1
theorem pt_cmp {op : CmpOp} {t : TE} (h : PC X op a b t) (h1 : behindInMarks op b = false := by first | exact nobehind _ (by decide) (by decide) | rfl) : PT X (.Compare a [op] [b] pos) (tB t) := by
  intro pins s σ H Q I hw
  refine wpAny_isTrue_Compare1 (thn (h pins s σ H _ I hw) fun v s1 h1 => thn h1 fun u s2 h2 => thn h2 fun c s3 ⟨x, H1, I1, r1, q1⟩ => ?_) h1
  obtain ⟨d, rfl, q⟩ := q1
  cases r1
  exact wpAny_truthy_bool ⟨H1, I1, q⟩
variable {tA tB' : TT} {rest : List Expr}
def tAnd (t u : TT) : TT := fun σ H Q => t σ H fun c H1 => if c = true then u σ H1 Q else Q false H1
def tOr (t u : TT) : TT := fun σ H Q => t σ H fun c H1 => if c = true then Q true H1 else u σ H1 Q
def tNot (t : TT) : TT := fun σ H Q => t σ H fun c H1 => Q (!c) H1
theorem pw_and1 (ha : PT X a tA) : PW X (.BoolOp .And [a] pos) tA := by
  intro wh pins s σ H Q I h
  refine isTrue_and (thn (ha pins s σ H Q I h) fun c s1 e => ?_)
  cases c with
  | true => exact isTrue_and_nil e
  | false => exact e
theorem pw_or1 (ha : PT X a tA) : PW X (.BoolOp .Or [a] pos) tA := by
  intro wh pins s σ H Q I h
  refine isTrue_or (thn (ha pins s σ H Q I h) fun c s1 e => ?_)
  cases c with
  | false => exact isTrue_or_nil e
  | true => exact e
theorem pw_and (ha : PT X a tA) (hb : PW X (.BoolOp .And (b :: rest) pos) tB') : PW X (.BoolOp .And (a :: b :: rest) pos) (tAnd tA tB') := by
  intro wh pins s σ H Q I h
  refine isTrue_and (thn (ha pins s σ H _ I h) fun c s1 ⟨H1, I1, q1⟩ => ?_)
  cases c with
  | true => exact hb wh pins s1 σ H1 Q I1 q1
  | false => exact ⟨H1, I1, q1⟩
theorem pw_or (ha : PT X a tA) (hb : PW X (.BoolOp .Or (b :: rest) pos) tB') : PW X (.BoolOp .Or (a :: b :: rest) pos) (tOr tA tB') := by
  intro wh pins s σ H Q I h
  refine isTrue_or (thn (ha pins s σ H _ I h) fun c s1 ⟨H1, I1, q1⟩ => ?_)
  cases c with
  | true => exact ⟨H1, I1, q1⟩
  | false => exact hb wh pins s1 σ H1 Q I1 q1
theorem pt_not (ha : PT X a tA) : PT X (.UnaryOp .Not a pos) (tNot tA) := by
  intro pins s σ H Q I h
  exact isTrue_not (ha pins s σ H (fun c H1 => Q (!c) H1) I h)
def tAndV (ta tb : TE) : TE := fun σ H Q => ta σ H fun x H1 => ∃ c, x = .bl c ∧ if c = true then tb σ H1 Q else Q (.bl false) H1
def tOrV (ta tb : TE) : TE := fun σ H Q => ta σ H fun x H1 => ∃ c, x = .bl c ∧ if c = true then Q (.bl true) H1 else tb σ H1 Q
def tNotV (ta : TE) : TE := fun σ H Q => ta σ H fun x H1 => ∃ c, x = .bl c ∧ Q (.bl (!c)) H1
theorem pe_one {op} {t : TE} (h : PE X a t) : PE X (.BoolOp op [a] pos) t := fun pins s σ H Q I hw => BoolOp_one (h pins s σ H Q I hw)
theorem pe_and (ha : PE X a ta) (hb : PE X (.BoolOp .And (b :: rest) pos) tb) : PE X (.BoolOp .And (a :: b :: rest) pos) (tAndV ta tb) := by
  intro pins s σ H Q I h
  refine BoolOp_and (thn (ha pins s σ H _ I h) fun v s1 ⟨x, H1, I1, r1, q1⟩ => ?_)
  obtain ⟨c, rfl, q1⟩ := q1
  cases r1
  refine wpAny_truthy_bool ?_
  cases c with
  | true => exact hb pins s1 σ H1 Q I1 q1
  | false => exact ⟨.bl false, H1, I1, rfl, q1⟩
theorem pe_or (ha : PE X a ta) (hb : PE X (.BoolOp .Or (b :: rest) pos) tb) : PE X (.BoolOp .Or (a :: b :: rest) pos) (tOrV ta tb) := by
  intro pins s σ H Q I h
  refine BoolOp_or (thn (ha pins s σ H _ I h) fun v s1 ⟨x, H1, I1, r1, q1⟩ => ?_)
  obtain ⟨c, rfl, q1⟩ := q1
  cases r1
  refine wpAny_truthy_bool ?_
  cases c with
  | false => exact hb pins s1 σ H1 Q I1 q1
  | true => exact ⟨.bl true, H1, I1, rfl, q1⟩
theorem pe_not (ha : PE X a ta) : PE X (.UnaryOp .Not a pos) (tNotV ta) := by
  intro pins s σ H Q I h
  refine UnaryOp_ (thn (ha pins s σ H _ I h) fun v s1 ⟨x, H1, I1, r1, q1⟩ => ?_)
  obtain ⟨c, rfl, q1⟩ := q1
  cases r1
  exact not_of (wpAny_truthy_bool ⟨.bl (!c), H1, I1, rfl, q1⟩)
def tIf (t : TT) (ta tb : TE) : TE := fun σ H Q => t σ H fun c H1 => if c = true then ta σ H1 Q else tb σ H1 Q
theorem pe_ifExp {c : Expr} (hc : PT X c tA) (ha : PE X a ta) (hb : PE X b tb) : PE X (.IfExp c a b pos) (tIf tA ta tb) := by
  intro pins s σ H Q I h
  refine wpAny_IfExp (thn (hc pins s σ H _ I h) fun d s1 ⟨H1, I1, q1⟩ => ?_)
  cases d with
  | true => exact ha pins s1 σ H1 Q I1 q1
  | false => exact hb pins s1 σ H1 Q I1 q1
end
end L2
namespace L2
open PySem PySem.Spec PyProof.Rows
def SqL (K : PySem.W.Frag) (H : Hp) (a : Addr) (xs : List V) : Prop :=
  Rd H a (.lst xs) ∨
    ∃ (o : Obj) (its : Array Value) (n : Nat), K.lookup a = some o ∧ o.cls = .type "list" ∧ o.dict = none ∧ o.data = .seq its n ∧ its.size ≤ sizeLine ∧ Vals xs its.toList
def SqT (K : PySem.W.Frag) (H : Hp) (a : Addr) (xs : List V) : Prop :=
  Rd H a (.tup xs) ∨
    ∃ (o : Obj) (its : Array Value) (n : Nat), K.lookup a = some o ∧ o.cls = .type "tuple" ∧ o.data = .seq its n ∧ its.size ≤ sizeLine ∧ Vals xs its.toList
def absV : Value → Option V
  | .none => some .non
  | .bool b => some (.bl b)
  | .int i _ => some (.int i)
  | .str x _ => some (.str x)
  | .bytes b _ => some (.byt b)
  | .float b _ => some (.flt b)
  | .ref a => some (.ref a)
  | .type n => some (.ty n)
  | _ => none
theorem RelV.abs {x : V} {u : Value} (r : RelV x u) : absV u = some x := by
  cases x with
  | non => cases r; rfl
  | bl _ => cases r; rfl
  | int _ => obtain ⟨t, rfl⟩ := r; rfl
  | str _ => obtain ⟨t, rfl⟩ := r; rfl
  | byt _ => obtain ⟨t, rfl⟩ := r; rfl
  | flt _ => obtain ⟨t, rfl⟩ := r; rfl
  | ref _ => cases r; rfl
  | ty _ => cases r; rfl
theorem RelV.inj {x y : V} {u : Value} (r : RelV x u) (q : RelV y u) : x = y := Option.some.inj (r.abs.symm.trans q.abs)
theorem Vals.inj : ∀ {xs ys : List V} {us : List Value}, Vals xs us → Vals ys us → xs = ys
  | _, _, _, .nil, .nil => rfl
  | _, _, _, .cons r t, .cons r' t' => by rw [r.inj r', Vals.inj t t']
section
variable {X : Cx} {pins : List (Addr × Obj)} {σ : St} {H : Hp} {s : Shared} {a : Addr} {xs ys : List V}
theorem SqL.of {K : PySem.W.Frag} (h : H a = some (.lst xs)) : SqL K H a xs := .inl (.inl h)
theorem SqT.of {K : PySem.W.Frag} (h : H a = some (.tup xs)) : SqT K H a xs := .inl (.inl h)
theorem Inv.list (I : Inv X pins σ H s) (h : SqL X.K H a xs) : ∃ its : List Value, Vals xs its ∧ PlainL s.heap a its.toArray ∧ xs.length ≤ sizeLine := by
  rcases h with h | ⟨o, its, n, hk, hc, hd, hs, hz, r⟩
  · obtain ⟨z, its, n, r, e⟩ := h.ok I.hok
    exact ⟨its, r, ⟨_, n, e, rfl, rfl, rfl⟩, z⟩
  · refine ⟨its.toList, r, ⟨o, n, I.kIn a o hk, hc, hd, by simpa using hs⟩, ?_⟩
    have e := r.length
    simp only [Array.length_toList] at e
    omega
theorem Inv.tuple (I : Inv X pins σ H s) (h : SqT X.K H a xs) : ∃ its : List Value, Vals xs its ∧ IsTup s.heap a its.toArray ∧ xs.length ≤ sizeLine := by
  rcases h with h | ⟨o, its, n, hk, hc, hs, hz, r⟩
  · obtain ⟨z, its, r, p⟩ := h.ok I.hok
    exact ⟨its, r, p, z⟩
  · refine ⟨its.toList, r, ⟨o, I.kIn a o hk, hc, n, by simpa using hs⟩, ?_⟩
    have e := r.length
    simp only [Array.length_toList] at e
    omega
theorem Inv.list_inj (I : Inv X pins σ H s) (h : SqL X.K H a xs) (h' : SqL X.K H a ys) : xs = ys := by
  obtain ⟨its, r, ⟨o, n, e, _, _, d⟩, _⟩ := I.list h
  obtain ⟨its', r', ⟨o', n', e', _, _, d'⟩, _⟩ := I.list h'
  rw [e] at e'; cases e'
  rw [d] at d'
  injection d' with d1 _
  have : its = its' := by simpa using congrArg Array.toList d1
  subst this
  exact r.inj r'
theorem Inv.tuple_inj (I : Inv X pins σ H s) (h : SqT X.K H a xs) (h' : SqT X.K H a ys) : xs = ys := by
  obtain ⟨its, r, ⟨o, e, _, n, d⟩, _⟩ := I.tuple h
  obtain ⟨its', r', ⟨o', e', _, n', d'⟩, _⟩ := I.tuple h'
  rw [e] at e'; cases e'
  rw [d] at d'
  injection d' with d1 _
  have : its = its' := by simpa using congrArg Array.toList d1
  subst this
  exact r.inj r'
end
abbrev Cx.wish (X : Cx) (E : Value → Shared → Prop) : Cx := { X with xe := E }
abbrev Cx.nox (X : Cx) : Cx := X.wish fun _ _ => False
theorem Cx.Ok.wish {X : Cx} (ok : X.Ok) (E : Value → Shared → Prop) : (X.wish E).Ok :=
  ⟨ok.mod, ok.kind, ok.glob, ok.blt, ok.above, ok.inj, ok.has, ok.cab, ok.hd, ok.frames, ok.stk, ok.exf, ok.bs, ok.bsz, ok.noex, ok.exfs, ok.funs, ok.frf⟩
theorem Cx.Ok.unwish {X : Cx} {E : Value → Shared → Prop} (ok : (X.wish E).Ok) : X.Ok :=
  ⟨ok.mod, ok.kind, ok.glob, ok.blt, ok.above, ok.inj, ok.has, ok.cab, ok.hd, ok.frames, ok.stk, ok.exf, ok.bs, ok.bsz, ok.noex, ok.exfs, ok.funs, ok.frf⟩
section
variable {X : Cx} {pins : List (Addr × Obj)} {σ : St} {H : Hp} {s : Shared} {E : Value → Shared → Prop}
theorem Inv.wish (I : Inv X pins σ H s) (E : Value → Shared → Prop) : Inv (X.wish E) pins σ H s := ⟨I.ok.wish E, I.os, I.bare, I.base, I.loc, I.cell, I.free, I.freeC, I.pin, I.hok, I.len⟩
theorem Inv.unwish (I : Inv (X.wish E) pins σ H s) : Inv X pins σ H s := ⟨I.ok.unwish, I.os, I.bare, I.base, I.loc, I.cell, I.free, I.freeC, I.pin, I.hok, I.len⟩
theorem SP.unwish {D : Ends} {f : Flow} {s' : Shared} (h : SP (X.wish E) pins D f s') : SP X pins D f s' := by
  cases f with
  | next => obtain ⟨σ', H', I, q⟩ := h; exact ⟨σ', H', I.unwish, q⟩
  | brk => obtain ⟨σ', H', I, q⟩ := h; exact ⟨σ', H', I.unwish, q⟩
  | cont => obtain ⟨σ', H', I, q⟩ := h; exact ⟨σ', H', I.unwish, q⟩
  | ret u => obtain ⟨v, σ', H', I, r, q⟩ := h; exact ⟨v, σ', H', I.unwish, r, q⟩
theorem PE.nox {e : Expr} {t : TE} (h : PE X.nox e t) : PE X e t := fun pins s σ H Q I hw =>
  wpAny_mono (h pins s σ H Q (I.wish _) hw) (fun _ _ ⟨v, H', I', r, q⟩ => ⟨v, H', I'.unwish, r, q⟩) fun _ _ z => False.elim z
theorem PT.nox {e : Expr} {t : TT} (h : PT X.nox e t) : PT X e t := fun pins s σ H Q I hw =>
  wpAny_mono (h pins s σ H Q (I.wish _) hw) (fun _ _ ⟨H', I', q⟩ => ⟨H', I'.unwish, q⟩) fun _ _ z => False.elim z
theorem PSs.nox {st : List Stmt} {t : TS} (h : PSs X.nox st t) : PSs X st t := fun pins s σ H D I hw =>
  wpAny_mono (h pins s σ H D (I.wish _) hw) (fun _ _ q => q.unwish) fun _ _ z => False.elim z
end
section
variable {X : Cx} {st : Stmt} {rest : List Stmt} {t u : TS} {e : Expr} {te : TE} {pos : Pos}
def tNext : TS := fun D σ H => D.nx σ H
def tSeq (t u : TS) : TS := fun D σ H => t { D with nx := u D } σ H
theorem pss_nil : PSs X [] tNext := fun _ _ σ H _ I h => wpAny_execs_nil ⟨σ, H, I, h⟩
theorem pss_cons (h1 : PS X st t) (h2 : PSs X rest u) : PSs X (st :: rest) (tSeq t u) := by
  intro pins s σ H D I h
  refine wpAny_execs_cons (thn (h1 pins s σ H { D with nx := u D } I h) fun f s1 q => ?_)
  cases f with
  | next =>
    obtain ⟨σ', H', I', q⟩ := q
    exact h2 pins s1 σ' H' D I' q
  | ret v => exact q
  | brk => exact q
  | cont => exact q
theorem pss_one (h1 : PS X st t) : PSs X [st] t := by
  intro pins s σ H D I h
  refine wpAny_execs_cons (thn (h1 pins s σ H D I h) fun f s1 q => ?_)
  cases f with
  | next => exact wpAny_execs_nil q
  | ret v => exact q
  | brk => exact q
  | cont => exact q
def tBreak : TS := fun D σ H => D.bk σ H
def tCont : TS := fun D σ H => D.ct σ H
theorem Inv.quiet {pins : List (Addr × Obj)} {σ : St} {H : Hp} {s : Shared} (I : Inv X pins σ H s) : interactive X.env = false := by simp [interactive, I.ok.kind]
def tDrop (te : TE) : TS := fun D σ H => te σ H fun _ H1 => D.nx σ H1
theorem ps_expr (he : PE X e te) (hs : swapsWith e none pos.line X.env = pure false := by rfl) : PS X (.Expr e pos) (tDrop te) := by
  intro pins s σ H D I h
  exact wpAny_Expr_any (thn (he pins s σ H _ I h) fun v s1 ⟨x, H1, I1, r1, q1⟩ => ⟨σ, H1, I1, q1⟩) I.quiet hs
def tRet (te : TE) : TS := fun D σ H => te σ H D.rt
theorem ps_ret (he : PE X e te) : PS X (.Return (some e) pos) (tRet te) := by
  intro pins s σ H D I h
  exact wpAny_Return_some (thn (he pins s σ H _ I h) fun v s1 ⟨x, H1, I1, r1, q1⟩ => ⟨x, σ, H1, I1, r1, q1⟩)
def tRetN : TS := fun D _ H => D.rt .non H
def tIfS (c : TT) (t u : TS) : TS := fun D σ H => c σ H fun b H1 => if b = true then t D σ H1 else u D σ H1
theorem ps_if {c : Expr} {a b : List Stmt} {tc : TT} (hc : PT X c tc) (ha : PSs X a t) (hb : PSs X b u) : PS X (.If c a b pos) (tIfS tc t u) := by
  intro pins s σ H D I h
  refine wpAny_If (thn (hc pins s σ H _ I h) fun d s1 ⟨H1, I1, q1⟩ => ?_)
  cases d with
  | true => exact ha pins s1 σ H1 D I1 q1
  | false => exact hb pins s1 σ H1 D I1 q1
def tNever : TS := fun _ _ _ => False
end
abbrev TG := V → St → Hp → (St → Hp → Prop) → Prop
abbrev TGs := List V → St → Hp → (St → Hp → Prop) → Prop
def PG (X : Cx) (target : Expr) (t : TG) : Prop :=
  ∀ (pins : List (Addr × Obj)) (s : Shared) (σ : St) (H : Hp) (v : V) (u : Value) (Q : St → Hp → Prop), Inv X pins σ H s → RelV v u → t v σ H Q →
    wpAny (model X.prog X.w) X.A (assign target X.env u) (fun _ s' => ∃ σ' H', Inv X pins σ' H' s' ∧ Q σ' H') X.xe s
def PGs (X : Cx) (ts : List Expr) (t : TGs) : Prop :=
  ∀ (pins : List (Addr × Obj)) (s : Shared) (σ : St) (H : Hp) (vs : List V) (us : List Value) (Q : St → Hp → Prop), Inv X pins σ H s → Vals vs us → t vs σ H Q →
    wpAny (model X.prog X.w) X.A (assignInOrder ((assignEach ts X.env).map (·.2)) us) (fun _ s' => ∃ σ' H', Inv X pins σ' H' s' ∧ Q σ' H') X.xe s
abbrev TSet := V → V → V → Hp → (Hp → Prop) → Prop
def PSet (X : Cx) (t : TSet) : Prop :=
  ∀ (pins : List (Addr × Obj)) (s : Shared) (σ : St) (H : Hp) (o i v : V) (ov iv u : Value) (Q : Hp → Prop), Inv X pins σ H s → RelV o ov → RelV i iv → RelV v u → t o i v H Q →
    wpAny (model X.prog X.w) X.A (setItem ov iv u) (fun _ s' => ∃ H', Inv X pins σ H' s' ∧ Q H') X.xe s
abbrev TIp := V → V → Hp → VK → Prop
def PIp (X : Cx) (op : Operator) (t : TIp) : Prop :=
  ∀ (pins : List (Addr × Obj)) (s : Shared) (σ : St) (H : Hp) (x y : V) (v u : Value) (Q : VK), Inv X pins σ H s → RelV x v → RelV y u → t x y H Q →
    wpAny (model X.prog X.w) X.A (inplaceOp op v u) (EP X pins σ Q) X.xe s
section
variable {X : Cx} {pos : Pos}
def gName (i : Nat) : TG := fun v σ H Q => Q (σ.set i (some v)) H
theorem pg_name {i : Nat} {x : Str} (hN : X.N.Nodup) (hi : X.N[i]? = some x) (hx : Loc X.env.scope x) (hf : X.fn x = true ∨ X.env.scope.names.lookup x = some .local := by first | exact .inl rfl | exact .inr rfl | assumption) : PG X (.Name x pos) (gName i) := by
  intro pins s σ H v u Q I r h
  exact wpAny_assign_Name (store_ok I hN hi hx r (fun s' I' => ⟨_, H, I', h⟩) hf)
def gNil : TGs := fun vs σ H Q => vs = [] ∧ Q σ H
def gCons (t : TG) (u : TGs) : TGs := fun vs σ H Q => ∃ v r, vs = v :: r ∧ t v σ H fun σ' H' => u r σ' H' Q
theorem pgs_nil : PGs X [] gNil := by
  intro pins s σ H vs us Q I r h
  obtain ⟨e, h⟩ := h
  subst e
  cases r
  exact assignInOrder_nil ⟨σ, H, I, h⟩
theorem pgs_cons {e : Expr} {es : List Expr} {t : TG} {u : TGs} (h1 : PG X e t) (h2 : PGs X es u)
    (hs : (assignEach (e :: es) X.env).map (·.2) = assign e X.env :: (assignEach es X.env).map (·.2) := by rfl) : PGs X (e :: es) (gCons t u) := by
  intro pins s σ H vs us Q I r h
  obtain ⟨v, vr, e1, h⟩ := h
  subst e1
  cases r with
  | cons r rr =>
    rw [hs]
    refine assignInOrder_cons (thn (h1 pins s σ H _ _ _ I r h) fun _ s1 ⟨σ1, H1, I1, q1⟩ => ?_)
    exact h2 pins s1 σ1 H1 _ _ Q I1 rr q1
def gTup (K : PySem.W.Frag) (n : Nat) (t : TGs) : TG := fun v σ H Q => ∃ a xs, v = .ref a ∧ SqT K H a xs ∧ xs.length = n ∧ t xs σ H Q
theorem pg_tup {es : List Expr} {k : Nat} {t : TGs} {n : Nat} (hc : X.calm = true) (h : PGs X es t)
    (hn : (assignEach es X.env).length = n := by rfl) (hst : (assignEach es X.env).findIdx? (·.1) = none := by rfl) : PG X (.Tuple es k pos) (gTup X.K n t) := by
  intro pins s σ H v u Q I r hw
  obtain ⟨a, xs, e1, hq, hl, hw⟩ := hw
  subst e1
  cases r
  obtain ⟨its, rv, ht, hz⟩ := I.tuple hq
  refine assign_Tuple_tuple (I.ok.hd hc) ht (by simp [hn, ← hl, rv.length]) hst fun h' hx => ?_
  have I1 : Inv X pins σ H { s with heap := h' } := I.kept (t' := s.toks) fun b o e => hx b o (Nat.ne_of_lt (Heap.lt_size e)) e
  exact h pins _ σ H xs _ Q I1 (by simpa using rv) hw
def gSub (to ti : TE) (t : TSet) : TG := fun v σ H Q => to σ H fun o H1 => ti σ H1 fun i H2 => t o i v H2 fun H3 => Q σ H3
theorem pg_sub {o i : Expr} {to ti : TE} {t : TSet} (ho : PE X o to) (hi : PE X i ti) (hs : PSet X t)
    (ha : ∀ v, assign (.Subscript o i pos) X.env v = (do
      let ov ← holding [v] (eval o X.env)
      let iv ← holding [v, ov] (eval i X.env)
      standAt pos
      holding [v, ov, iv] (setItem ov iv v)
      release [v, ov, iv] []) := by intro _; rfl) : PG X (.Subscript o i pos) (gSub to ti t) := by
  intro pins s σ H v u Q I r h
  rw [ha]
  refine wpAny_bind (wpAny_holding (thn (ho pins s σ H _ I h) fun ov s1 ⟨x, H1, I1, r1, q1⟩ => ?_))
  refine wpAny_bind (wpAny_holding (thn (hi pins s1 σ H1 _ I1 q1) fun iv s2 ⟨y, H2, I2, r2, q2⟩ => ?_))
  refine wpAny_bind (wpAny_standAt (wpAny_bind (wpAny_holding (thn (hs pins s2 σ H2 x y v ov iv u _ I2 r1 r2 r q2) fun _ s3 ⟨H3, I3, q3⟩ => ?_))))
  exact wpAny_release ⟨σ, H3, I3, q3⟩
def tAsg (te : TE) (g : TG) : TS := fun D σ H => te σ H fun x H1 => g x σ H1 D.nx
theorem ps_asg {tg e : Expr} {te : TE} {g : TG} (he : PE X e te) (hg : PG X tg g) (hs : swapsWithSole [tg] e pos.line X.env = pure false := by rfl) (hw : swappedStores [tg] e X.env = pure none := by rfl)
    (h1 : (assignEach [tg] X.env).map (·.2) = [assign tg X.env] := by rfl) : PS X (.Assign [tg] e pos) (tAsg te g) := by
  intro pins s σ H D I h
  refine wpAny_Assign_stores (thn (he pins s σ H _ I h) fun v s1 ⟨x, H1, I1, r1, q1⟩ => ?_) hs hw
  rw [h1]
  exact thn (hg pins s1 σ H1 x v _ I1 r1 q1) fun _ s2 q => q
theorem ps_set {i : Nat} {x : Str} {e : Expr} {te : TE} {pos' : Pos} (hN : X.N.Nodup) (hi : X.N[i]? = some x) (hx : Loc X.env.scope x) (he : PE X e te) (hs : swapsWith e (some (.Name x pos')) pos.line X.env = pure false := by rfl) (hf : X.fn x = true ∨ X.env.scope.names.lookup x = some .local := by first | exact .inl rfl | exact .inr rfl | assumption) :
    PS X (.Assign [.Name x pos'] e pos) (tAsg te (gName i)) := by
  intro pins s σ H D I h
  refine wpAny_Assign_Name (thn (he pins s σ H _ I h) fun v s1 ⟨y, H1, I1, r1, q1⟩ => ?_) hs
  exact store_ok I1 hN hi hx r1 (fun s2 I2 => ⟨_, H1, I2, q1⟩) hf
def tPar (i j : Nat) (ta : TA) : TS := fun D σ H => ta σ H fun vs H1 => ∃ v w, vs = [v, w] ∧ D.nx ((σ.set i (some v)).set j (some w)) H1
def tAug (i : Nat) (te : TE) (ti : TIp) : TS := fun D σ H => ∃ x, σ[i]? = some (some x) ∧ te σ H fun y H1 => ti x y H1 fun z H2 => D.nx (σ.set i (some z)) H2
def tAugS (to ti te : TE) (tget : V → V → Hp → VK → Prop) (tip : TIp) (tset : TSet) : TS := fun D σ H => to σ H fun o H1 => ti σ H1 fun i H2 => tget o i H2 fun x H3 => te σ H3 fun y H4 => tip x y H4 fun z H5 => tset o i z H5 fun H6 => D.nx σ H6
def PGet (X : Cx) (t : V → V → Hp → VK → Prop) : Prop :=
  ∀ (pins : List (Addr × Obj)) (s : Shared) (σ : St) (H : Hp) (o i : V) (ov iv : Value) (Q : VK), Inv X pins σ H s → RelV o ov → RelV i iv → t o i H Q →
    wpAny (model X.prog X.w) X.A (getItem ov iv) (EP X pins σ Q) X.xe s
def ipI (f : Int → Int → Int) : TIp := fun x y H Q => ∃ i j, x = .int i ∧ y = .int j ∧ Q (.int (f i j)) H
end
section
variable {X : Cx} {pos : Pos}
def tWhile (c : TT) (tb : TS) : TS := fun D σ H => ∃ W : Nat → St → Hp → Prop, (∃ m, W m σ H) ∧ ∀ m σ H, W m σ H →
  c σ H fun b H1 => if b = true then ∃ N : St → Hp → Prop, (∀ σ' H', N σ' H' → ∃ m', m' < m ∧ W m' σ' H') ∧ tb { D with nx := N, ct := N, bk := D.nx } σ H1 else D.nx σ H1
end
structure It where
  go : Nat → Hp → Prop
  yld : Nat → Hp → V → Hp → Prop
  stop : Nat → Hp → Prop
def FpOk (X : Cx) (pins : List (Addr × Obj)) (H : Hp) (b : Addr) : Prop :=
  H b = none ∧ b ≠ X.env.locals ∧ b ∉ X.fs ∧ (b ∈ X.ex ∨ X.s₀.heap.objs.size ≤ b) ∧ (∀ x c, X.env.cells.lookup x = some c → c ≠ b) ∧ ∀ p ∈ X.pn ++ pins, p.1 ≠ b
theorem Inv.fpOk {X : Cx} {pins : List (Addr × Obj)} {σ : St} {H H' : Hp} {s : Shared} {b : Addr} (I : Inv X pins σ H s) (hb : s.heap.objs.size ≤ b) (hn : H' b = none) : FpOk X pins H' b := by
  refine ⟨hn, Nat.ne_of_gt (Nat.lt_of_lt_of_le I.lt hb), I.nofs hb, .inr (Nat.le_trans I.sz hb), fun x c e z => ?_, fun p hp z => ?_⟩
  · obtain ⟨v, q⟩ := I.cell x c e
    exact absurd (Nat.lt_of_lt_of_le q.lt (by rw [z]; exact hb)) (Nat.lt_irrefl _)
  · exact absurd (Nat.lt_of_lt_of_le (Heap.lt_size (I.pin p hp).1) (by rw [z]; exact hb)) (Nat.lt_irrefl _)
structure Turn (P : Program) (w : World) (K : PySem.W.Frag) (tg : Expr) (J : It) (fp : List Addr) (it : Addr) (tn : Nat → Heap → Prop) : Prop where
  mem : it ∈ fp
  obj : ∀ i h, tn i h → ∀ b ∈ fp, ∃ o, h.get? b = some o ∧ ∀ v, o.data ≠ .cell v
  keep : ∀ i h h', tn i h → (∀ b ∈ fp, ∀ o, h.get? b = some o → h'.get? b = some o) → tn i h'
  item : ∀ (X : Cx), X.prog = P → X.w = w → X.K = K → X.calm = true → ∀ (i : Nat) (pins : List (Addr × Obj)) (s : Shared) (σ : St) (H : Hp) (E : Value → Shared → Prop), Inv X pins σ H s → (∀ b ∈ fp, FpOk X pins H b) → tn i s.heap → J.go i H →
    wpAny (model P w) X.A (pyNext (.ref it)) (fun r s1 => ∃ u, r = some u ∧
      wpAny (model P w) X.A (letOwnedTupleGo tg (.ref it) u) (fun _ s2 => ∃ x H', Inv X pins σ H' s2 ∧ RelV x u ∧ J.yld i H x H' ∧ tn (i + 1) s2.heap ∧ ∀ b ∈ fp, H' b = none) E s1) E s
  done : ∀ (X : Cx), X.prog = P → X.w = w → X.K = K → X.calm = true → ∀ (i : Nat) (pins : List (Addr × Obj)) (s : Shared) (σ : St) (H : Hp) (E : Value → Shared → Prop), Inv X pins σ H s → (∀ b ∈ fp, FpOk X pins H b) → tn i s.heap → J.stop i H →
    wpAny (model P w) X.A (pyNext (.ref it)) (fun r s1 => r = none ∧ Inv X pins σ H s1) E s
  self : ∀ (A : Around) (i : Nat) (s : Shared) (Q : Value → Shared → Prop) (E : Value → Shared → Prop), tn i s.heap → Q (.ref it) s → wpAny (model P w) A (pyIter (.ref it)) Q E s
abbrev TI := St → Hp → (It → Hp → Prop) → Prop
def PIE (X : Cx) (pins : List (Addr × Obj)) (σ : St) (tg : Expr) (R : It → Hp → Prop) (itv : Value) (s2 : Shared) : Prop :=
  ∃ (it : Addr) (fp : List Addr) (tn : Nat → Heap → Prop) (J : It) (H' : Hp), itv = .ref it ∧ Inv X pins σ H' s2 ∧ Turn X.prog X.w X.K tg J fp it tn ∧ tn 0 s2.heap ∧ (∀ b ∈ fp, FpOk X pins H' b) ∧ R J H'
def PI (X : Cx) (tg iter : Expr) (wi : TI) : Prop :=
  ∀ (pins : List (Addr × Obj)) (s : Shared) (σ : St) (H : Hp) (R : It → Hp → Prop), Inv X pins σ H s → wi σ H R →
    wpAny (model X.prog X.w) X.A (eval iter X.env) (fun v s1 => wpAny (model X.prog X.w) X.A (pyIter v) (PIE X pins σ tg R) X.xe s1) X.xe s
theorem go_of {M : Model} {A : Around} {E : Value → Shared → Prop} {s : Shared} {tg : Expr} {it : Addr} {u : Value} {o : Obj} {n : String} {vs : Array Value} {Q : Unit → Shared → Prop} (ho : s.heap.get? it = some o) (hc : o.cls = .type n) (hd : o.data = .fields vs)
    (hn : ["enumerate", "zip", "dict_itemiterator", "dict_reverseitemiterator", "odict_iterator", "itertools.zip_longest", "itertools.pairwise"].contains n = false) (hQ : Q () s) : wpAny M A (letOwnedTupleGo tg (.ref it) u) Q E s := by
  unfold letOwnedTupleGo
  cases tg <;> first
    | exact wpAny_pure hQ
    | (cases u <;> first
        | exact wpAny_pure hQ
        | (refine wpAny_bind (wpAny_load ho ?_)
           rw [hc, hd]
           show wpAny M A (if (["enumerate", "zip", "dict_itemiterator", "dict_reverseitemiterator", "odict_iterator", "itertools.zip_longest", "itertools.pairwise"].contains n && vs[0]? == some (rawInt _)) = true then _ else _) Q E s
           rw [if_neg (by intro h; rw [hn, Bool.false_and] at h; cases h)]
           exact wpAny_pure hQ))
def Itl (K : PySem.W.Frag) (a : Addr) : It :=
  ⟨fun i H => ∃ xs x, SqL K H a xs ∧ xs[i]? = some x, fun i H x H' => H' = H ∧ ∀ xs, SqL K H a xs → xs[i]? = some x, fun i H => ∃ xs, SqL K H a xs ∧ xs.length ≤ i⟩
def Itt (K : PySem.W.Frag) (a : Addr) : It :=
  ⟨fun i H => ∃ xs x, SqT K H a xs ∧ xs[i]? = some x, fun i H x H' => H' = H ∧ ∀ xs, SqT K H a xs → xs[i]? = some x, fun i H => ∃ xs, SqT K H a xs ∧ xs.length ≤ i⟩
def Itr (lo : Int) (n : Nat) : It := ⟨fun i _ => i < n, fun i H x H' => H' = H ∧ x = .int (lo + i), fun i _ => n ≤ i⟩
theorem turn_list {P : Program} {w : World} {K : PySem.W.Frag} {tg : Expr} (a it : Addr) : Turn P w K tg (Itl K a) [it] it (fun i h => h.IsListIter it a i) where
  mem := by simp
  obj := fun i h st b hb => by
    have e : b = it := by simpa using hb
    subst e
    obtain ⟨o, e, c, d⟩ := st
    exact ⟨o, e, fun v z => by rw [d] at z; cases z⟩
  keep := fun i h h' st k => st.at fun o e => k it (by simp) o e
  item := by
    intro X hP hw hK hc i pins s σ H E I hf st hg
    subst hP hw hK
    obtain ⟨xs, x, hq, hx⟩ := hg
    obtain ⟨its, rv, p, hz⟩ := I.list hq
    obtain ⟨u, hu, ru⟩ := rv.get hx
    obtain ⟨f0, f1, f2, f3, f4, f5⟩ := hf it (by simp)
    refine wpAny_pyNext_list_item st p.isList (x := u) (by simpa using hu) fun h' st' sb => ?_
    have I1 : Inv X pins σ H { s with heap := h' } := I.turned (t' := s.toks) (fun b o hb e => (sb.2 b hb).trans e) f0 f1 f3 f4 f5
    obtain ⟨o, e, c, d⟩ := id st'
    exact ⟨u, rfl, go_of (s := { s with heap := h' }) e c d (by decide) ⟨x, H, I1, ru, ⟨rfl, fun ys hy => by rw [I.list_inj hy hq]; exact hx⟩, st', fun b hb => (hf b hb).1⟩⟩
  done := by
    intro X hP hw hK hc i pins s σ H E I hf st hg
    subst hP hw hK
    obtain ⟨xs, hq, hx⟩ := hg
    obtain ⟨its, rv, p, hz⟩ := I.list hq
    obtain ⟨f0, f1, f2, f3, f4, f5⟩ := hf it (by simp)
    have hl := rv.length
    exact wpAny_pyNext_list_end (I.ok.hd hc) st p.isList (by simp; omega) fun h' eb => ⟨rfl, I.turned (t' := s.toks) (fun b o hb e => eb b o hb e) f0 f1 f3 f4 f5⟩
  self := fun _ _ _ _ _ st h => wpAny_pyIter_listiter st h
theorem turn_tuple {P : Program} {w : World} {K : PySem.W.Frag} {tg : Expr} (a it : Addr) : Turn P w K tg (Itt K a) [it] it (fun i h => h.IsTupleIter it a i) where
  mem := by simp
  obj := fun i h st b hb => by
    have e : b = it := by simpa using hb
    subst e
    obtain ⟨o, e, c, d⟩ := st
    exact ⟨o, e, fun v z => by rw [d] at z; cases z⟩
  keep := fun i h h' st k => st.at fun o e => k it (by simp) o e
  item := by
    intro X hP hw hK hc i pins s σ H E I hf st hg
    subst hP hw hK
    obtain ⟨xs, x, hq, hx⟩ := hg
    obtain ⟨its, rv, p, hz⟩ := I.tuple hq
    obtain ⟨u, hu, ru⟩ := rv.get hx
    obtain ⟨f0, f1, f2, f3, f4, f5⟩ := hf it (by simp)
    refine wpAny_pyNext_tuple_item st (show s.heap.IsTuple a its.toArray from p) (x := u) (by simpa using hu) fun h' st' sb => ?_
    have I1 : Inv X pins σ H { s with heap := h' } := I.turned (t' := s.toks) (fun b o hb e => (sb.2 b hb).trans e) f0 f1 f3 f4 f5
    obtain ⟨o, e, c, d⟩ := id st'
    exact ⟨u, rfl, go_of (s := { s with heap := h' }) e c d (by decide) ⟨x, H, I1, ru, ⟨rfl, fun ys hy => by rw [I.tuple_inj hy hq]; exact hx⟩, st', fun b hb => (hf b hb).1⟩⟩
  done := by
    intro X hP hw hK hc i pins s σ H E I hf st hg
    subst hP hw hK
    obtain ⟨xs, hq, hx⟩ := hg
    obtain ⟨its, rv, p, hz⟩ := I.tuple hq
    obtain ⟨f0, f1, f2, f3, f4, f5⟩ := hf it (by simp)
    have hl := rv.length
    exact wpAny_pyNext_tuple_end (I.ok.hd hc) st (show s.heap.IsTuple a its.toArray from p) (by simp; omega) fun h' eb => ⟨rfl, I.turned (t' := s.toks) (fun b o hb e => eb b o hb e) f0 f1 f3 f4 f5⟩
  self := fun _ _ _ _ _ st h => wpAny_pyIter_tupleiter st h
theorem turn_range {P : Program} {w : World} {K : PySem.W.Frag} {tg : Expr} (it : Addr) (lo : Int) (n : Nat) : Turn P w K tg (Itr lo n) [it] it (fun i h => IsRangeIter h it (lo + (i : Nat) * 1) ((n : Int) - (i : Nat)) 1) where
  mem := by simp
  obj := fun i h st b hb => by
    have e : b = it := by simpa using hb
    subst e
    exact ⟨_, st, fun v z => by
      have z' : Data.fields _ = Data.cell v := z
      cases z'⟩
  keep := fun i h h' st k => k it (by simp) _ st
  item := by
    intro X hP hw hK hc i pins s σ H E I hf st hg
    subst hP hw hK
    obtain ⟨f0, f1, f2, f3, f4, f5⟩ := hf it (by simp)
    have W := Walks.range (prog := X.prog) (w := X.w) (I.ok.hd hc) it lo 1 n
    refine W.item i s _ _ hg st fun v h' tk hv st' kk => ?_
    obtain ⟨t, rfl⟩ := hv
    have I1 : Inv X pins σ H { s with heap := h', toks := tk } := I.turned (fun b o hb e => kk b o (by simpa using hb) e) f0 f1 f3 f4 f5
    refine ⟨_, rfl, go_of (s := { s with heap := h', toks := tk }) (n := "range_iterator") st' rfl rfl (by decide) ⟨.int (lo + i), H, I1, ⟨t, ?_⟩, ⟨rfl, rfl⟩, st', fun b hb => (hf b hb).1⟩⟩
    rw [Int.mul_one]
  done := by
    intro X hP hw hK hc i pins s σ H E I hf st hg
    subst hP hw hK
    obtain ⟨f0, f1, f2, f3, f4, f5⟩ := hf it (by simp)
    exact wpAny_pyNext_range_end (I.ok.hd hc) st (by have : n ≤ i := hg; omega) fun h' eb => ⟨rfl, I.turned (t' := s.toks) (fun b o hb e => eb b o hb e) f0 f1 f3 f4 f5⟩
  self := fun _ _ _ _ _ st h => wpAny_pyIter_rangeiter st h
end L2
namespace L2
open PySem PySem.Spec PyProof.Rows
section
variable {X : Cx} {tg : Expr}
def iList (K : PySem.W.Frag) (tl : TE) : TI := fun σ H R => tl σ H fun x H1 => ∃ a, x = .ref a ∧ (∃ xs, SqL K H1 a xs) ∧ R (Itl K a) H1
def iTup (K : PySem.W.Frag) (tl : TE) : TI := fun σ H R => tl σ H fun x H1 => ∃ a, x = .ref a ∧ (∃ xs, SqT K H1 a xs) ∧ R (Itt K a) H1
theorem pi_tup {l : Expr} {tl : TE} (hl : PE X l tl) : PI X tg l (iTup X.K tl) := by
  intro pins s σ H R I h
  refine thn (hl pins s σ H _ I h) fun v s1 ⟨x, H1, I1, r1, q1⟩ => ?_
  obtain ⟨a, e, ⟨xs, hq⟩, q⟩ := q1
  subst e
  cases r1
  obtain ⟨its, rv, p, hz⟩ := I1.tuple hq
  refine wpAny_pyIter_tuple (show s1.heap.IsTuple a its.toArray from p) ?_
  refine ⟨s1.heap.objs.size, [s1.heap.objs.size], _, _, H1, rfl, I1.kept (t' := s1.toks) fun b o e => Heap.get?_push_of_some _ e, turn_tuple a _, ⟨_, Heap.get?_push_size _ rfl, rfl, rfl⟩, fun b hb => ?_, q⟩
  have e : b = s1.heap.objs.size := by simpa using hb
  subst e
  exact I1.fpOk (Nat.le_refl _) (I1.hok.fresh (Nat.le_refl _))
theorem range_it {pins : List (Addr × Obj)} {σ : St} {H : Hp} {s : Shared} {R : It → Hp → Prop} {E : Value → Shared → Prop} {lo hi : Int} {t u v : Tok} {tk : Nat} (I : Inv X pins σ H s) (h1 : -(2 ^ 62) ≤ lo) (h2 : lo < 2 ^ 62) (h3 : -(2 ^ 62) ≤ hi) (h4 : hi < 2 ^ 62)
    (q : R (Itr lo (hi - lo).toNat) H) : wpAny (model X.prog X.w) X.A (pyIter (.ref s.heap.objs.size)) (PIE X pins σ tg R) E { s with heap := s.heap.push { cls := .type "range", data := .fields #[.int lo t, .int hi u, .int 1 v] }, toks := tk } := by
  refine wpAny_pyIter_range (IsRange.new ..) (small_one h1 h2 h3 h4) ?_
  have I1 : Inv X pins σ H { s with heap := s.heap.push { cls := .type "range", data := .fields #[.int lo t, .int hi u, .int 1 v] }, toks := tk } := I.kept fun b o e => Heap.get?_push_of_some _ e
  refine ⟨(s.heap.push { cls := .type "range", data := .fields #[.int lo t, .int hi u, .int 1 v] }).objs.size, [(s.heap.push { cls := .type "range", data := .fields #[.int lo t, .int hi u, .int 1 v] }).objs.size], _, _, H, rfl,
    I1.kept (t' := tk) fun b o e => Heap.get?_push_of_some _ e, turn_range _ lo (hi - lo).toNat, ?_, fun b hb => ?_, q⟩
  · have e1 : lo + ((0 : Nat) : Int) * 1 = lo := by simp
    have e2 : (((hi - lo).toNat : Nat) : Int) - ((0 : Nat) : Int) = Builtin.Range.rangeSize lo hi 1 := by rw [rangeSize_one]; split <;> omega
    show IsRangeIter _ _ (lo + ((0 : Nat) : Int) * 1) ((((hi - lo).toNat : Nat) : Int) - ((0 : Nat) : Int)) 1
    rw [e1, e2]
    exact Heap.get?_push_size _ rfl
  · have e : b = (s.heap.push { cls := .type "range", data := .fields #[.int lo t, .int hi u, .int 1 v] }).objs.size := by simpa using hb
    subst e
    exact I1.fpOk (Nat.le_refl _) (I1.hok.fresh (Nat.le_refl _))
def iRng1 (ta : TA) : TI := fun σ H R => ta σ H fun vs H1 => ∃ j : Int, vs = [.int j] ∧ -(2 ^ 62) ≤ j ∧ j < 2 ^ 62 ∧ R (Itr 0 j.toNat) H1
def iRng2 (ta : TA) : TI := fun σ H R => ta σ H fun vs H1 => ∃ i j : Int, vs = [.int i, .int j] ∧ (-(2 ^ 62) ≤ i ∧ i < 2 ^ 62 ∧ -(2 ^ 62) ≤ j ∧ j < 2 ^ 62) ∧ R (Itr i (j - i).toNat) H1
theorem pi_range1 {a : Expr} {ta : TA} {p pos : Pos} (hg : Gl X "range") (hm : X.mg "range" = none) (ha : PA X [a] ta) (hs : starEach [a] X.env = [(false, eval a X.env)] := by rfl) : PI X tg (.Call (.Name "range" p) [a] [] pos) (iRng1 ta) := by
  intro pins s σ H R I h
  refine Call_ (ld_blt I hg hm boot_range (PyProof.Rows.callWith_type1 (thn (ha pos pins s σ H _ I h) fun us s1 ⟨vs, H1, I1, r1, q1⟩ => ?_) hs rfl))
  obtain ⟨j, e, q1, q2, q⟩ := q1
  subst e
  cases r1 with
  | cons r rr =>
    cases rr
    obtain ⟨t, rfl⟩ := r
    exact call_range_1 (range_it I1 (by omega) (by omega) q1 q2 (by simpa using q))
theorem pi_range2 {a b : Expr} {ta : TA} {p pos : Pos} (hg : Gl X "range") (hm : X.mg "range" = none) (ha : PA X [a, b] ta) (hs : starEach [a, b] X.env = [(false, eval a X.env), (false, eval b X.env)] := by rfl) (hs2 : starEach [b] X.env = [(false, eval b X.env)] := by rfl) :
    PI X tg (.Call (.Name "range" p) [a, b] [] pos) (iRng2 ta) := by
  intro pins s σ H R I h
  refine Call_ (ld_blt I hg hm boot_range (PyProof.Rows.callWith_type1 (thn (ha pos pins s σ H _ I h) fun us s1 ⟨vs, H1, I1, r1, q1⟩ => ?_) (by rw [hs, hs2]) (by rw [hs2]; rfl)))
  obtain ⟨i, j, e, ⟨q1, q2, q3, q4⟩, q⟩ := q1
  subst e
  cases r1 with
  | cons r rr =>
    cases rr with
    | cons r' rr =>
      cases rr
      obtain ⟨t, rfl⟩ := r
      obtain ⟨t', rfl⟩ := r'
      exact call_range_2 (range_it I1 q1 q2 q3 q4 q)
def tFor (wi : TI) (g : TG) (tb : TS) : TS := fun D σ H => wi σ H fun J H1 => ∃ W : Nat → Nat → St → Hp → Prop, (∃ m, W 0 m σ H1) ∧ ∀ i m σ H, W i m σ H →
  (J.stop i H ∧ D.nx σ H) ∨ (J.go i H ∧ ∃ N : St → Hp → Prop, (∀ σ' H', N σ' H' → ∃ m', m' < m ∧ W (i + 1) m' σ' H') ∧ ∀ x H', J.yld i H x H' → g x σ H' fun σ2 H2 => tb { D with nx := N, ct := N, bk := D.nx } σ2 H2)
def pinsAt (fp : List Addr) (h : Heap) : List (Addr × Obj) := fp.filterMap fun b => (h.get? b).map fun o => (b, o)
theorem mem_pinsAt {fp : List Addr} {h : Heap} {b : Addr} {o : Obj} (hb : b ∈ fp) (e : h.get? b = some o) : (b, o) ∈ pinsAt fp h := List.mem_filterMap.mpr ⟨b, hb, by rw [e]; rfl⟩
theorem of_pinsAt {fp : List Addr} {h : Heap} {p : Addr × Obj} (hp : p ∈ pinsAt fp h) : p.1 ∈ fp ∧ h.get? p.1 = some p.2 := by
  obtain ⟨b, hb, e⟩ := List.mem_filterMap.mp hp
  cases q : h.get? b with
  | none => rw [q] at e; cases e
  | some o =>
    rw [q] at e
    have e' : (b, o) = p := Option.some.inj e
    subst e'
    exact ⟨hb, q⟩
theorem Inv.pinned {pins : List (Addr × Obj)} {σ : St} {H : Hp} {s : Shared} {fp : List Addr} (I : Inv X pins σ H s) (hf : ∀ b ∈ fp, FpOk X pins H b) (ho : ∀ b ∈ fp, ∃ o, s.heap.get? b = some o ∧ ∀ v, o.data ≠ .cell v) : Inv X (pins ++ pinsAt fp s.heap) σ H s :=
  I.pins_of fun p hp => (List.mem_append.mp hp).elim (fun z => I.pin p (List.mem_append_right _ z)) fun z => by
    obtain ⟨hb, e⟩ := of_pinsAt z
    obtain ⟨f0, f1, f2, _⟩ := hf p.1 hb
    obtain ⟨o, e', d⟩ := ho p.1 hb
    rw [e] at e'; cases e'
    exact ⟨e, f0, f1, f2, d⟩
theorem Inv.unpinned {pins pl : List (Addr × Obj)} {σ : St} {H : Hp} {s : Shared} (I : Inv X (pins ++ pl) σ H s) : Inv X pins σ H s := I.pins_of fun p hp => I.pin p (List.mem_append_right _ (List.mem_append_left _ hp))
theorem ps_for {iter : Expr} {body : List Stmt} {wi : TI} {g : TG} {tb : TS} {pos : Pos} (hp : PassesOwn (model X.prog X.w) X.A X.env X.xe) (hc : X.calm = true) (hi : PI X tg iter wi) (hg : PG X tg g) (hb : PSs X body tb)
    (hs : ∀ x, foldedSetIterable iter X.env x = pure x := by intro _; rfl) : PS X (.For tg iter body [] pos) (tFor wi g tb) := by
  intro pins s σ H D I h
  refine wpAny_For (thn (hi pins s σ H _ I h) fun v s1 h1 => thn h1 fun itv s2 h2 => ?_) hs
  obtain ⟨it, fp, tn, J, H2, e, I2, T, st2, f2, W, ⟨m0, w0⟩, turn⟩ := h2
  subst e
  -- what stays true of the iterator's objects through the loop
  have stat : ∀ {H' : Hp}, (∀ b ∈ fp, H' b = none) → ∀ b ∈ fp, FpOk X pins H' b := fun hn b hb => ⟨hn b hb, (f2 b hb).2⟩
  refine codeAny_forLoop_any (fun n s' => ∃ i σ' H', Inv X pins σ' H' s' ∧ tn i s'.heap ∧ (∀ b ∈ fp, H' b = none) ∧ W i n σ' H') ?_ m0 ⟨0, σ, H2, I2, st2, fun b hb => (f2 b hb).1, w0⟩
  rintro n s3 ⟨i, σ3, H3, I3, st3, fr3, w3⟩
  rcases turn i n σ3 H3 w3 with ⟨stop, qn⟩ | ⟨go, N, hN, step⟩
  · refine wpAny_passesOwn hp (thn (T.done X rfl rfl rfl hc i pins s3 σ3 H3 X.xe I3 (stat fr3) st3 stop) fun r s4 ⟨hr, I4⟩ => ?_)
    subst hr
    exact wpAny_execs_nil ⟨σ3, H3, I4, qn⟩
  · refine wpAny_passesOwn hp (thn (T.item X rfl rfl rfl hc i pins s3 σ3 H3 X.xe I3 (stat fr3) st3 go) fun r s4 ⟨u, hr, h4⟩ => ?_)
    subst hr
    refine wpAny_passesOwn hp (thn h4 fun _ s5 ⟨x, H5, I5, r5, y5, st5, fr5⟩ => ?_)
    have I5' := I5.pinned (stat fr5) (T.obj _ _ st5)
    refine wpAny_passesOwn hp (thn (hg _ s5 σ3 H5 x u _ I5' r5 (step x H5 y5)) fun _ s6 ⟨σ6, H6, I6, q6⟩ => ?_)
    refine wpAny_passesOwn hp (thn (hb _ s6 σ6 H6 _ I6 q6) fun f s7 q7 => ?_)
    have again : ∀ {σ7 : St} {H7 : Hp}, Inv X (pins ++ pinsAt fp s5.heap) σ7 H7 s7 → N σ7 H7 → ∃ m, m < n ∧ ∃ i σ' H', Inv X pins σ' H' s7 ∧ tn i s7.heap ∧ (∀ b ∈ fp, H' b = none) ∧ W i m σ' H' := fun {σ7 H7} I7 n7 => by
      obtain ⟨m', hm, w7⟩ := hN σ7 H7 n7
      refine ⟨m', hm, i + 1, σ7, H7, I7.unpinned, T.keep _ _ _ st5 fun b hb o e => (I7.pin (b, o) (List.mem_append_right _ (List.mem_append_right _ (mem_pinsAt hb e)))).1, fun b hb => ?_, w7⟩
      obtain ⟨o, e, d⟩ := T.obj _ _ st5 b hb
      exact (I7.pin (b, o) (List.mem_append_right _ (List.mem_append_right _ (mem_pinsAt hb e)))).2.1
    cases f with
    | next => obtain ⟨σ7, H7, I7, n7⟩ := q7; exact again I7 n7
    | cont => obtain ⟨σ7, H7, I7, n7⟩ := q7; exact again I7 n7
    | brk => obtain ⟨σ7, H7, I7, q7⟩ := q7; exact ⟨σ7, H7, I7.unpinned, q7⟩
    | ret v => obtain ⟨x7, σ7, H7, I7, r7, q7⟩ := q7; exact ⟨x7, σ7, H7, I7.unpinned, r7, q7⟩
end
theorem for_list {K : PySem.W.Frag} {a : Addr} {xs : List V} {g : TG} {tb : TS} {D : Ends} {σ : St} {H : Hp} (Pv : Nat → St → Hp → Prop) (h0 : Pv 0 σ H) (hl : ∀ i σ H, i ≤ xs.length → Pv i σ H → SqL K H a xs)
    (hs : ∀ i x σ H, xs[i]? = some x → Pv i σ H → g x σ H fun σ2 H2 => tb { D with nx := Pv (i + 1), ct := Pv (i + 1), bk := D.nx } σ2 H2) (hd : ∀ σ H, Pv xs.length σ H → D.nx σ H) :
    ∃ W : Nat → Nat → St → Hp → Prop, (∃ m, W 0 m σ H) ∧ ∀ i m σ H, W i m σ H →
      ((Itl K a).stop i H ∧ D.nx σ H) ∨ ((Itl K a).go i H ∧ ∃ N : St → Hp → Prop, (∀ σ' H', N σ' H' → ∃ m', m' < m ∧ W (i + 1) m' σ' H') ∧ ∀ x H', (Itl K a).yld i H x H' → g x σ H' fun σ2 H2 => tb { D with nx := N, ct := N, bk := D.nx } σ2 H2) := by
  refine ⟨fun i m σ H => m = xs.length - i ∧ i ≤ xs.length ∧ Pv i σ H, ⟨xs.length, by simp, Nat.zero_le _, h0⟩, ?_⟩
  rintro i m σ H ⟨rfl, hi, p⟩
  have q := hl i σ H hi p
  by_cases hlt : i < xs.length
  · refine .inr ⟨⟨xs, xs[i], q, by simp [hlt]⟩, Pv (i + 1), fun σ' H' p' => ⟨xs.length - (i + 1), by omega, rfl, hlt, p'⟩, fun x H' y => ?_⟩
    obtain ⟨e, y⟩ := y
    subst e
    exact hs i x σ _ (y xs q) p
  · have e : i = xs.length := by omega
    subst e
    exact .inl ⟨⟨xs, q, Nat.le_refl _⟩, hd σ H p⟩
theorem for_tup {K : PySem.W.Frag} {a : Addr} {xs : List V} {g : TG} {tb : TS} {D : Ends} {σ : St} {H : Hp} (Pv : Nat → St → Hp → Prop) (h0 : Pv 0 σ H) (hl : ∀ i σ H, i ≤ xs.length → Pv i σ H → SqT K H a xs)
    (hs : ∀ i x σ H, xs[i]? = some x → Pv i σ H → g x σ H fun σ2 H2 => tb { D with nx := Pv (i + 1), ct := Pv (i + 1), bk := D.nx } σ2 H2) (hd : ∀ σ H, Pv xs.length σ H → D.nx σ H) :
    ∃ W : Nat → Nat → St → Hp → Prop, (∃ m, W 0 m σ H) ∧ ∀ i m σ H, W i m σ H →
      ((Itt K a).stop i H ∧ D.nx σ H) ∨ ((Itt K a).go i H ∧ ∃ N : St → Hp → Prop, (∀ σ' H', N σ' H' → ∃ m', m' < m ∧ W (i + 1) m' σ' H') ∧ ∀ x H', (Itt K a).yld i H x H' → g x σ H' fun σ2 H2 => tb { D with nx := N, ct := N, bk := D.nx } σ2 H2) := by
  refine ⟨fun i m σ H => m = xs.length - i ∧ i ≤ xs.length ∧ Pv i σ H, ⟨xs.length, by simp, Nat.zero_le _, h0⟩, ?_⟩
  rintro i m σ H ⟨rfl, hi, p⟩
  have q := hl i σ H hi p
  by_cases hlt : i < xs.length
  · refine .inr ⟨⟨xs, xs[i], q, by simp [hlt]⟩, Pv (i + 1), fun σ' H' p' => ⟨xs.length - (i + 1), by omega, rfl, hlt, p'⟩, fun x H' y => ?_⟩
    obtain ⟨e, y⟩ := y
    subst e
    exact hs i x σ _ (y xs q) p
  · have e : i = xs.length := by omega
    subst e
    exact .inl ⟨⟨xs, q, Nat.le_refl _⟩, hd σ H p⟩
theorem for_range {lo : Int} {n : Nat} {g : TG} {tb : TS} {D : Ends} {σ : St} {H : Hp} (Pv : Nat → St → Hp → Prop) (h0 : Pv 0 σ H)
    (hs : ∀ i σ H, i < n → Pv i σ H → g (.int (lo + i)) σ H fun σ2 H2 => tb { D with nx := Pv (i + 1), ct := Pv (i + 1), bk := D.nx } σ2 H2) (hd : ∀ σ H, Pv n σ H → D.nx σ H) :
    ∃ W : Nat → Nat → St → Hp → Prop, (∃ m, W 0 m σ H) ∧ ∀ i m σ H, W i m σ H →
      ((Itr lo n).stop i H ∧ D.nx σ H) ∨ ((Itr lo n).go i H ∧ ∃ N : St → Hp → Prop, (∀ σ' H', N σ' H' → ∃ m', m' < m ∧ W (i + 1) m' σ' H') ∧ ∀ x H', (Itr lo n).yld i H x H' → g x σ H' fun σ2 H2 => tb { D with nx := N, ct := N, bk := D.nx } σ2 H2) := by
  refine ⟨fun i m σ H => m = n - i ∧ i ≤ n ∧ Pv i σ H, ⟨n, by simp, Nat.zero_le _, h0⟩, ?_⟩
  rintro i m σ H ⟨rfl, hi, p⟩
  by_cases hlt : i < n
  · refine .inr ⟨hlt, Pv (i + 1), fun σ' H' p' => ⟨n - (i + 1), by omega, rfl, hlt, p'⟩, fun x H' y => ?_⟩
    obtain ⟨e, y⟩ := y
    subst e y
    exact hs i σ _ hlt p
  · have e : i = n := by omega
    subst e
    exact .inl ⟨Nat.le_refl _, hd σ H p⟩
end L2
namespace L2
open PySem PySem.Spec PyProof.Rows
abbrev R2 := V → V → Hp → VK → Prop
def OpR (X : Cx) (f : Value → Value → Sem Value) (r : R2) : Prop :=
  ∀ (pins : List (Addr × Obj)) (s : Shared) (σ : St) (H : Hp) (x y : V) (v u : Value) (Q : VK), Inv X pins σ H s → RelV x v → RelV y u → r x y H Q →
    wpAny (model X.prog X.w) X.A (f v u) (EP X pins σ Q) X.xe s
def UnR (X : Cx) (f : Value → Sem Value) (r : V → Hp → VK → Prop) : Prop :=
  ∀ (pins : List (Addr × Obj)) (s : Shared) (σ : St) (H : Hp) (x : V) (v : Value) (Q : VK), Inv X pins σ H s → RelV x v → r x H Q →
    wpAny (model X.prog X.w) X.A (f v) (EP X pins σ Q) X.xe s
def CallR (X : Cx) (f : Value) (r : List V → Hp → VK → Prop) : Prop :=
  ∀ (pins : List (Addr × Obj)) (s : Shared) (σ : St) (H : Hp) (xs : List V) (us : List Value) (Q : VK), Inv X pins σ H s → Vals xs us → r xs H Q →
    wpAny (model X.prog X.w) X.A (call f us) (EP X pins σ Q) X.xe s
def TruR (X : Cx) (r : V → Hp → (Bool → Hp → Prop) → Prop) : Prop :=
  ∀ (pins : List (Addr × Obj)) (s : Shared) (σ : St) (H : Hp) (x : V) (v : Value) (Q : Bool → Hp → Prop), Inv X pins σ H s → RelV x v → r x H Q →
    wpAny (model X.prog X.w) X.A (truthy v) (TP X pins σ Q) X.xe s
def tOp (r : R2) (ta tb : TE) : TE := fun σ H Q => ta σ H fun x H1 => tb σ H1 fun y H2 => r x y H2 Q
def tUn (r : V → Hp → VK → Prop) (ta : TE) : TE := fun σ H Q => ta σ H fun x H1 => r x H1 Q
def rI (C : Int → Int → Prop) (g : Int → Int → V) : R2 := fun x y H Q => ∃ i j, x = .int i ∧ y = .int j ∧ C i j ∧ Q (g i j) H
def rI0 (g : Int → Int → V) : R2 := fun x y H Q => ∃ i j, x = .int i ∧ y = .int j ∧ Q (g i j) H
def rU (g : Int → V) : V → Hp → VK → Prop := fun x H Q => ∃ i, x = .int i ∧ Q (g i) H
section
variable {X : Cx} {a b c : Expr} {ta tb tc : TE} {pos : Pos}
theorem binT (ha : PE X a ta) (hb : PE X b tb) {pins : List (Addr × Obj)} {s : Shared} {σ : St} {H : Hp} {R : V → V → Hp → Prop} (I : Inv X pins σ H s)
    (h : ta σ H fun x H1 => tb σ H1 fun y H2 => R x y H2) {Q : Value → Shared → Prop} {f : Value → Value → Sem Value}
    (hf : ∀ v u s2 x y H2, Inv X pins σ H2 s2 → RelV x v → RelV y u → R x y H2 → wpAny (model X.prog X.w) X.A (f v u) Q X.xe s2) :
    wpAny (model X.prog X.w) X.A (eval a X.env) (fun v s₁ => wpAny (model X.prog X.w) X.A (eval b X.env) (fun u s₂ => wpAny (model X.prog X.w) X.A (f v u) Q X.xe s₂) X.xe s₁) X.xe s := by
  refine thn (ha pins s σ H _ I h) fun v s1 ⟨x, H1, I1, r1, q1⟩ => ?_
  refine thn (hb pins s1 σ H1 _ I1 q1) fun u s2 ⟨y, H2, I2, r2, q2⟩ => ?_
  exact hf v u s2 x y H2 I2 r1 r2 q2
theorem pe_op {op : Operator} {r : R2} (ho : OpR X (binaryOp op) r) (ha : PE X a ta) (hb : PE X b tb) : PE X (.BinOp a op b pos) (tOp r ta tb) := by
  intro pins s σ H Q I h
  exact wpAny_BinOp (binT ha hb I h fun v u s2 x y H2 I2 rx ry q => ho pins s2 σ H2 x y v u Q I2 rx ry q)
theorem pe_un {op : UnaryOp} {r : V → Hp → VK → Prop} (ho : UnR X (unaryOp op) r) (ha : PE X a ta) : PE X (.UnaryOp op a pos) (tUn r ta) := by
  intro pins s σ H Q I h
  exact UnaryOp_ (thn (ha pins s σ H _ I h) fun v s1 ⟨x, H1, I1, r1, q1⟩ => ho pins s1 σ H1 x v Q I1 r1 q1)
theorem opI {f : Value → Value → Sem Value} {C : Int → Int → Prop} {g : Int → Int → Int}
    (rule : ∀ (i j : Int) (t u : Tok) (s : Shared) (Q : Value → Shared → Prop) (E : Value → Shared → Prop), C i j → Q (.int (g i j) s.toks) { s with toks := s.toks + 1 } → wpAny (model X.prog X.w) X.A (f (.int i t) (.int j u)) Q E s) :
    OpR X f (rI C fun i j => .int (g i j)) := by
  intro pins s σ H x y v u Q I rx ry h
  obtain ⟨i, j, rfl, rfl, hc, q⟩ := h
  obtain ⟨t, rfl⟩ := rx
  obtain ⟨t', rfl⟩ := ry
  exact rule i j t t' s _ _ hc ⟨.int (g i j), H, I.tok _, ⟨_, rfl⟩, q⟩
theorem opI0 {f : Value → Value → Sem Value} {g : Int → Int → Int}
    (rule : ∀ (i j : Int) (t u : Tok) (s : Shared) (Q : Value → Shared → Prop) (E : Value → Shared → Prop), Q (.int (g i j) s.toks) { s with toks := s.toks + 1 } → wpAny (model X.prog X.w) X.A (f (.int i t) (.int j u)) Q E s) :
    OpR X f (rI0 fun i j => .int (g i j)) := by
  intro pins s σ H x y v u Q I rx ry h
  obtain ⟨i, j, rfl, rfl, q⟩ := h
  obtain ⟨t, rfl⟩ := rx
  obtain ⟨t', rfl⟩ := ry
  exact rule i j t t' s _ _ ⟨.int (g i j), H, I.tok _, ⟨_, rfl⟩, q⟩
theorem opB0 {f : Value → Value → Sem Value} {g : Int → Int → Bool}
    (rule : ∀ (i j : Int) (t u : Tok) (s : Shared) (Q : Value → Shared → Prop) (E : Value → Shared → Prop), Q (.bool (g i j)) s → wpAny (model X.prog X.w) X.A (f (.int i t) (.int j u)) Q E s) :
    OpR X f (rI0 fun i j => .bl (g i j)) := by
  intro pins s σ H x y v u Q I rx ry h
  obtain ⟨i, j, rfl, rfl, q⟩ := h
  obtain ⟨t, rfl⟩ := rx
  obtain ⟨t', rfl⟩ := ry
  exact rule i j t t' s _ _ ⟨.bl (g i j), H, I, rfl, q⟩
def CDiv (i j : Int) : Prop := 0 < j ∧ j < 1073741824
def CDivN (i j : Int) : Prop := j ≠ 0 ∧ j.natAbs < 1073741824
def CPow (i j : Int) : Prop := 0 ≤ j ∧ j ≤ 1000000 ∧ i.natAbs < 2 ^ 64
def CMul (i j : Int) : Prop := (-(2 ^ 64) < i ∧ i < 2 ^ 64) ∨ (-(2 ^ 64) < j ∧ j < 2 ^ 64)
theorem CMul.ok {i j : Int} (h : CMul i j) : IntMulOk i j := by
  rcases h with ⟨h1, h2⟩ | ⟨h1, h2⟩
  · exact .of_left (intBits_le_64 h1 h2)
  · exact .of_right (intBits_le_64 h1 h2)
theorem op_add : OpR X (binaryOp .Add) (rI0 fun i j => .int (i + j)) := opI0 fun _ _ _ _ _ _ _ q => add_int q
theorem op_sub : OpR X (binaryOp .Sub) (rI0 fun i j => .int (i - j)) := opI0 fun _ _ _ _ _ _ _ q => sub_int q
theorem op_mul : OpR X (binaryOp .Mult) (rI CMul fun i j => .int (i * j)) := opI fun _ _ _ _ _ _ _ hc q => mul_int q hc.ok
theorem op_mod : OpR X (binaryOp .Mod) (rI (fun _ j => 0 < j) fun i j => .int (i % j)) := opI fun i j _ _ _ _ _ hc q => by
  have h1 : (0 : Int) < j := hc
  exact mod_int' (by omega) (by rw [Int.fmod_eq_emod_of_nonneg i (by omega)]; exact q)
theorem unI {f : Value → Sem Value} {g : Int → Int}
    (rule : ∀ (i : Int) (t : Tok) (s : Shared) (Q : Value → Shared → Prop) (E : Value → Shared → Prop), Q (.int (g i) s.toks) { s with toks := s.toks + 1 } → wpAny (model X.prog X.w) X.A (f (.int i t)) Q E s) :
    UnR X f (rU fun i => .int (g i)) := by
  intro pins s σ H x v Q I rx h
  obtain ⟨i, rfl, q⟩ := h
  obtain ⟨t, rfl⟩ := rx
  exact rule i t s _ _ ⟨.int (g i), H, I.tok _, ⟨_, rfl⟩, q⟩
theorem un_neg : UnR X (unaryOp .USub) (rU fun i => .int (-i)) := unI fun _ _ _ _ _ q => neg_int q
end
def scal : V → V → Bool
  | .non, .non => true | .non, .int _ => true | .int _, .non => true | .non, .bl _ => true | .bl _, .non => true | .non, .str _ => true | .str _, .non => true
  | .int _, .int _ => true | .bl _, .bl _ => true | .str _, .str _ => true | .byt _, .byt _ => true
  | .int _, .str _ => true | .str _, .int _ => true | .bl _, .str _ => true | .str _, .bl _ => true
  | _, _ => false
def rEq : R2 := fun x y H Q => scal x y = true ∧ Q (.bl (decide (x = y))) H
def rNe : R2 := fun x y H Q => scal x y = true ∧ Q (.bl (!decide (x = y))) H
theorem dec_int {i j : Int} : decide (V.int i = V.int j) = (i == j) := by
  rw [Bool.eq_iff_iff]
  simp
theorem dec_bl {i j : Bool} : decide (V.bl i = V.bl j) = (i == j) := by
  rw [Bool.eq_iff_iff]
  simp
theorem dec_str {i j : Str} : decide (V.str i = V.str j) = (i == j) := by
  rw [Bool.eq_iff_iff]
  simp
theorem dec_byt {i j : Array UInt8} : decide (V.byt i = V.byt j) = (i.toList == j.toList) := by
  rw [Bool.eq_iff_iff]
  cases i
  cases j
  simp
section
variable {X : Cx} {a b c : Expr} {ta tb tc : TE} {pos : Pos}
theorem fin_bl {pins : List (Addr × Obj)} {σ : St} {H : Hp} {s : Shared} {Q : VK} {k k' : Bool} (I : Inv X pins σ H s) (q : Q (.bl k) H) (e : k = k') : EP X pins σ Q (.bool k') s := by
  subst e
  exact ⟨.bl k, H, I, rfl, q⟩
theorem op_eq : OpR X (compareOp .Eq) rEq := by
  intro pins s σ H x y v u Q I rx ry h
  obtain ⟨hs, q⟩ := h
  cases x with
  | non =>
    cases rx
    cases y with
    | non => cases ry; exact PySem.EqNone.eq_none_none (fin_bl I q (by simp))
    | bl j => cases ry; exact PySem.EqNone.eq_none_bool (fin_bl I q (by simp))
    | int j => obtain ⟨t', rfl⟩ := ry; exact PySem.EqNone.eq_none_int (fin_bl I q (by simp))
    | str j => obtain ⟨t', rfl⟩ := ry; exact PySem.EqNone.eq_none_str (fin_bl I q (by simp))
    | _ => exact absurd (show false = true from hs) Bool.false_ne_true
  | bl i =>
    cases rx
    cases y with
    | non => cases ry; exact PySem.EqNone.eq_bool_none (fin_bl I q (by simp))
    | bl j => cases ry; exact eq_bool (fin_bl I q dec_bl)
    | str j => obtain ⟨t', rfl⟩ := ry; exact PySem.EqMixed.eq_bool_str (fin_bl I q (by simp))
    | _ => exact absurd (show false = true from hs) Bool.false_ne_true
  | int i =>
    obtain ⟨t, rfl⟩ := rx
    cases y with
    | non => cases ry; exact PySem.EqNone.eq_int_none (fin_bl I q (by simp))
    | int j => obtain ⟨t', rfl⟩ := ry; exact eq_int (fin_bl I q dec_int)
    | str j => obtain ⟨t', rfl⟩ := ry; exact PySem.EqMixed.eq_int_str (fin_bl I q (by simp))
    | _ => exact absurd (show false = true from hs) Bool.false_ne_true
  | str i =>
    obtain ⟨t, rfl⟩ := rx
    cases y with
    | non => cases ry; exact PySem.EqNone.eq_str_none (fin_bl I q (by simp))
    | bl j => cases ry; exact PySem.EqMixed.eq_str_bool (fin_bl I q (by simp))
    | int j => obtain ⟨t', rfl⟩ := ry; exact PySem.EqMixed.eq_str_int (fin_bl I q (by simp))
    | str j => obtain ⟨t', rfl⟩ := ry; exact eq_str (fin_bl I q dec_str)
    | _ => exact absurd (show false = true from hs) Bool.false_ne_true
  | byt i =>
    obtain ⟨t, rfl⟩ := rx
    cases y with
    | byt j => obtain ⟨t', rfl⟩ := ry; exact PySem.W.eq_bytes (fin_bl I q dec_byt)
    | _ => exact absurd (show false = true from hs) Bool.false_ne_true
  | _ => cases y <;> exact absurd (show false = true from hs) Bool.false_ne_true
theorem op_ne : OpR X (compareOp .NotEq) rNe := by
  intro pins s σ H x y v u Q I rx ry h
  obtain ⟨hs, q⟩ := h
  cases x with
  | non =>
    cases rx
    cases y with
    | non => cases ry; exact PySem.EqNone.ne_none_none (fin_bl I q (by simp))
    | bl j => cases ry; exact PySem.EqNone.ne_none_bool (fin_bl I q (by simp))
    | int j => obtain ⟨t', rfl⟩ := ry; exact PySem.EqNone.ne_none_int (fin_bl I q (by simp))
    | str j => obtain ⟨t', rfl⟩ := ry; exact PySem.EqNone.ne_none_str (fin_bl I q (by simp))
    | _ => exact absurd (show false = true from hs) Bool.false_ne_true
  | bl i =>
    cases rx
    cases y with
    | non => cases ry; exact PySem.EqNone.ne_bool_none (fin_bl I q (by simp))
    | bl j => cases ry; exact ne_bool (fin_bl I q (congrArg not dec_bl))
    | str j => obtain ⟨t', rfl⟩ := ry; exact PySem.EqMixed.ne_bool_str (fin_bl I q (by simp))
    | _ => exact absurd (show false = true from hs) Bool.false_ne_true
  | int i =>
    obtain ⟨t, rfl⟩ := rx
    cases y with
    | non => cases ry; exact PySem.EqNone.ne_int_none (fin_bl I q (by simp))
    | int j => obtain ⟨t', rfl⟩ := ry; exact ne_int (fin_bl I q (congrArg not dec_int))
    | str j => obtain ⟨t', rfl⟩ := ry; exact PySem.EqMixed.ne_int_str (fin_bl I q (by simp))
    | _ => exact absurd (show false = true from hs) Bool.false_ne_true
  | str i =>
    obtain ⟨t, rfl⟩ := rx
    cases y with
    | non => cases ry; exact PySem.EqNone.ne_str_none (fin_bl I q (by simp))
    | bl j => cases ry; exact PySem.EqMixed.ne_str_bool (fin_bl I q (by simp))
    | int j => obtain ⟨t', rfl⟩ := ry; exact PySem.EqMixed.ne_str_int (fin_bl I q (by simp))
    | str j => obtain ⟨t', rfl⟩ := ry; exact ne_str (fin_bl I q (congrArg not dec_str))
    | _ => exact absurd (show false = true from hs) Bool.false_ne_true
  | byt i =>
    obtain ⟨t, rfl⟩ := rx
    cases y with
    | byt j => obtain ⟨t', rfl⟩ := ry; exact PySem.W.ne_bytes (fin_bl I q (congrArg not dec_byt))
    | _ => exact absurd (show false = true from hs) Bool.false_ne_true
  | _ => cases y <;> exact absurd (show false = true from hs) Bool.false_ne_true
theorem op_lt : OpR X (compareOp .Lt) (rI0 fun i j => .bl (decide (i < j))) := opB0 fun _ _ _ _ _ _ _ q => lt_int q
theorem op_le : OpR X (compareOp .LtE) (rI0 fun i j => .bl (decide (i ≤ j))) := opB0 fun _ _ _ _ _ _ _ q => le_int q
theorem op_gt : OpR X (compareOp .Gt) (rI0 fun i j => .bl (decide (j < i))) := opB0 fun _ _ _ _ _ _ _ q => gt_int q
theorem op_ge : OpR X (compareOp .GtE) (rI0 fun i j => .bl (decide (j ≤ i))) := opB0 fun _ _ _ _ _ _ _ q => ge_int q
theorem op_in_str : OpR X (compareOp .In) (fun x y H Q => ∃ i j, x = .str i ∧ y = .str j ∧ Q (.bl (!(Builtin.Str.occurrences j i 0 j.length 1).isEmpty)) H) := by
  intro pins s σ H x y v u Q I rx ry h
  obtain ⟨i, j, rfl, rfl, q⟩ := h
  obtain ⟨t, rfl⟩ := rx
  obtain ⟨t', rfl⟩ := ry
  exact in_str (fin_bl I q rfl)
theorem op_isN : OpR X (compareOp .Is) (fun x y H Q => y = .non ∧ Q (.bl (decide (x = .non))) H) := by
  intro pins s σ H x y v u Q I rx ry h
  obtain ⟨rfl, q⟩ := h
  cases ry
  refine is_none_gen (fin_bl I q ?_)
  cases x <;> first
    | (cases rx; rfl)
    | (obtain ⟨t, rfl⟩ := rx; rfl)
theorem op_notN : OpR X (compareOp .IsNot) (fun x y H Q => y = .non ∧ Q (.bl (!decide (x = .non))) H) := by
  intro pins s σ H x y v u Q I rx ry h
  obtain ⟨rfl, q⟩ := h
  cases ry
  refine isnot_none_gen (fin_bl I q ?_)
  cases x <;> first
    | (cases rx; rfl)
    | (obtain ⟨t, rfl⟩ := rx; rfl)
def isObj : HO → Bool
  | .lst _ => true
  | .ins _ _ _ => true
  | _ => false
theorem OpR.or {f : Value → Value → Sem Value} {r r' : R2} (h : OpR X f r) (h' : OpR X f r') : OpR X f (fun x y H Q => r x y H Q ∨ r' x y H Q) := by
  intro pins s σ H x y v u Q I rx ry q
  rcases q with q | q
  · exact h pins s σ H x y v u Q I rx ry q
  · exact h' pins s σ H x y v u Q I rx ry q
theorem nomark (b : Expr) {op : CmpOp} (h : op ≠ .In := by decide) (h2 : op ≠ .NotIn := by decide) : behindInMarks op b = false := by
  have e1 : (op == CmpOp.In) = false := by cases op <;> first | rfl | exact absurd rfl h
  have e2 : (op == CmpOp.NotIn) = false := by cases op <;> first | rfl | exact absurd rfl h2
  cases b <;> simp [behindInMarks, e1, e2]
theorem pe_cmpR {op : CmpOp} {r : R2} (ho : OpR X (compareOp op) r) (ha : PE X a ta) (hb : PE X b tb) (hm : behindInMarks op b = false) : PE X (.Compare a [op] [b] pos) (tOp r ta tb) := by
  intro pins s σ H Q I h
  exact wpAny_Compare1 (binT ha hb I h fun v u s2 x y H2 I2 rx ry q => ho pins s2 σ H2 x y v u Q I2 rx ry q) hm
def tTest (t : TE) : TT := fun σ H Q => t σ H fun x H' => ∃ k, x = .bl k ∧ Q k H'
theorem pt_cmpR {op : CmpOp} {r : R2} (ho : OpR X (compareOp op) r) (ha : PE X a ta) (hb : PE X b tb) (hm : behindInMarks op b = false) : PT X (.Compare a [op] [b] pos) (tTest (tOp r ta tb)) := by
  intro pins s σ H Q I h
  refine wpAny_isTrue_Compare1 (thn (ha pins s σ H _ I h) fun v s1 ⟨x, H1, I1, r1, q1⟩ => thn (hb pins s1 σ H1 _ I1 q1) fun u s2 ⟨y, H2, I2, r2, q2⟩ =>
    thn (ho pins s2 σ H2 x y v u _ I2 r1 r2 q2) fun c s3 ⟨z, H3, I3, r3, k, e, q3⟩ => ?_) hm
  subst e
  cases r3
  exact wpAny_truthy_bool ⟨H3, I3, q3⟩
def tChain (r r' : R2) (ta tb tc : TE) : TE := fun σ H Q => ta σ H fun x H1 => tb σ H1 fun y H2 => r x y H2 fun z H3 => ∃ k, z = .bl k ∧
  (if k = true then tc σ H3 fun w' H4 => r' y w' H4 Q else Q (.bl false) H3)
theorem pt_chain {op op' : CmpOp} {r r' : R2} (ho : OpR X (compareOp op) r) (ho' : OpR X (compareOp op') r') (ha : PE X a ta) (hb : PE X b tb) (hc : PE X c tc)
    (hm : lastMarks [op, op'] [b, c] = false := by with_unfolding_all rfl) : PT X (.Compare a [op, op'] [b, c] pos) (tTest (tChain r r' ta tb tc)) := by
  intro pins s σ H Q I h
  refine isTrue_chain (thn (ha pins s σ H _ I h) fun v s1 ⟨x, H1, I1, r1, q1⟩ => test_link (thn (hb pins s1 σ H1 _ I1 q1) fun u s2 ⟨y, H2, I2, r2, q2⟩ =>
    thn (ho pins s2 σ H2 x y v u _ I2 r1 r2 q2) fun d s3 ⟨z, H3, I3, r3, k, e, q3⟩ => ?_)) hm
  subst e
  cases r3
  refine wpAny_truthy_bool ?_
  cases k with
  | false =>
    obtain ⟨k', e', q'⟩ := q3
    cases e'
    exact ite_ff ⟨H3, I3, q'⟩
  | true =>
    refine ite_tt (test_last (thn (hc pins s3 σ H3 _ I3 q3) fun w' s4 ⟨z', H4, I4, r4, q4⟩ => thn (ho' pins s4 σ H4 y z' u w' _ I4 r2 r4 q4) fun d' s5 ⟨z2, H5, I5, r5, k2, e2, q5⟩ => ?_))
    subst e2
    cases r5
    exact wpAny_truthy_bool ⟨H5, I5, q5⟩
def TruV (K : PySem.W.Frag) (x : V) (H : Hp) (k : Bool) : Prop :=
  match x with
  | .non => k = false
  | .bl b => k = b
  | .int i => k = (i != 0)
  | .str y => y.length ≤ sizeLine ∧ k = ((y.length : Int) != 0)
  | .byt y => y.size ≤ sizeLine ∧ k = ((y.size : Int) != 0)
  | .ref p => (∃ xs, SqL K H p xs ∧ k = !xs.isEmpty) ∨ (∃ xs, SqT K H p xs ∧ k = !xs.isEmpty) ∨ ∃ kvs, H p = some (.dK kvs) ∧ k = !kvs.isEmpty
  | _ => False
theorem isEmpty_kv {κ : Type} {kvs : List (κ × V)} {vs : List (κ × Value)} (r : KV kvs vs) : (!vs.isEmpty) = !kvs.isEmpty := by
  cases r <;> rfl
theorem isEmpty_of {xs : List V} {its : List Value} (r : Vals xs its) : (!its.toArray.isEmpty) = !xs.isEmpty := by
  cases r <;> simp
theorem line63 : (sizeLine : Nat) < 2 ^ 63 := by rw [sizeLine_eq]; decide
theorem tru_ok : TruR X (fun x H Q => ∃ k, TruV X.K x H k ∧ Q k H) := by
  intro pins s σ H x v Q I rx h
  obtain ⟨k, e, q⟩ := h
  have hl := line63
  have hs : sizeLine = 16777216 := sizeLine_eq
  cases x with
  | non =>
    cases rx
    have e' : k = false := e
    subst e'
    exact truthy_none ⟨H, I, q⟩
  | bl b =>
    cases rx
    have e' : k = b := e
    subst e'
    exact wpAny_truthy_bool ⟨H, I, q⟩
  | int i =>
    obtain ⟨t, rfl⟩ := rx
    have e' : k = (i != 0) := e
    subst e'
    exact PySem.P.truthy_int ⟨H, I, q⟩
  | str y =>
    obtain ⟨t, rfl⟩ := rx
    obtain ⟨hy, e'⟩ : y.length ≤ sizeLine ∧ k = ((y.length : Int) != 0) := e
    subst e'
    exact PySem.P.truthy_str (by omega) ⟨H, I.tok _, q⟩
  | byt y =>
    obtain ⟨t, rfl⟩ := rx
    obtain ⟨hy, e'⟩ : y.size ≤ sizeLine ∧ k = ((y.size : Int) != 0) := e
    subst e'
    exact PySem.W.truthy_bytes (by omega) ⟨H, I.tok _, q⟩
  | ref p =>
    cases rx
    have e' : (∃ xs, SqL X.K H p xs ∧ k = !xs.isEmpty) ∨ (∃ xs, SqT X.K H p xs ∧ k = !xs.isEmpty) ∨ ∃ kvs, H p = some (.dK kvs) ∧ k = !kvs.isEmpty := e
    rcases e' with ⟨xs, hx, e'⟩ | ⟨xs, hx, e'⟩ | ⟨kvs, hx, e'⟩
    · subst e'
      obtain ⟨its, r, pl, hz⟩ := I.list hx
      have hlen := r.length
      exact wpAny_truthy_list pl.isList (by simp only [List.size_toArray]; omega) ⟨H, I.tok _, by rw [isEmpty_of r]; exact q⟩
    · subst e'
      obtain ⟨its, r, pl, hz⟩ := I.tuple hx
      have hlen := r.length
      exact truthy_tuple pl (by simp only [List.size_toArray]; omega) ⟨H, I.tok _, by rw [isEmpty_of r]; exact q⟩
    · subst e'
      obtain ⟨hz, hS, vs, r, m⟩ : kvs.length ≤ sizeLine ∧ (p == sysModules) = false ∧ ∃ vs, KV kvs vs ∧ s.heap.DictOf (mixKind X.prog X.w) p vs := I.hok p _ hx
      have hlen : kvs.length = vs.length := Paired.length r
      exact wpAny_truthy_dict hS m (by omega) ⟨H, I.tok _, by rw [isEmpty_kv r]; exact q⟩
  | _ => exact (show False from e).elim
theorem pt_truth (ha : PE X a ta) (he : ∀ whole, isTrue a X.env whole = (do let v ← whole; standAt a.pos; holding [v] (truthy v))) :
    PT X a (fun σ H Q => ta σ H fun x H' => ∃ k, TruV X.K x H' k ∧ Q k H') := by
  intro pins s σ H Q I h
  exact isTrue_plain (thn (ha pins s σ H _ I h) fun v s1 ⟨x, H1, I1, r1, q1⟩ => tru_ok pins s1 σ H1 x v Q I1 r1 q1) (he _)
theorem op_add_str : OpR X (binaryOp .Add) (fun x y H Q => ∃ i j, x = .str i ∧ y = .str j ∧ i.length + j.length ≤ sizeLine ∧ Q (.str (i ++ j)) H) := by
  intro pins s σ H x y v u Q I rx ry h
  obtain ⟨i, j, rfl, rfl, hz, q⟩ := h
  obtain ⟨t, rfl⟩ := rx
  obtain ⟨t', rfl⟩ := ry
  exact add_str (fun t' tk => ⟨.str (i ++ j), H, I.tok _, ⟨_, rfl⟩, q⟩) hz
def PlainIxT (b : Expr) : Prop := ∀ o i, subscripted b false o i = operate [o, i] (getItem o i)
theorem vals1 {x : V} {us : List Value} (r : Vals [x] us) : ∃ u, us = [u] ∧ RelV x u := by
  cases r with
  | cons r1 r2 => cases r2; exact ⟨_, rfl, r1⟩
theorem vals2 {x y : V} {us : List Value} (r : Vals [x, y] us) : ∃ u w', us = [u, w'] ∧ RelV x u ∧ RelV y w' := by
  cases r with
  | cons r1 r2 =>
    cases r2 with
    | cons r3 r4 => cases r4; exact ⟨_, _, rfl, r1, r3⟩
theorem call_min2 (hc : X.calm = true) : CallR X (.builtin "min") (fun xs H Q => ∃ i j, xs = [.int i, .int j] ∧ Q (.int (if j < i then j else i)) H) := by
  intro pins s σ H xs us Q I r h
  obtain ⟨i, j, rfl, q⟩ := h
  obtain ⟨u, w', rfl, ⟨t, rfl⟩, ⟨t', rfl⟩⟩ := vals2 r
  refine min_two_ints (I.ok.hd hc) fun h' tk k => ⟨_, H, I.kept k, ?_, q⟩
  by_cases hj : j < i
  · rw [if_pos hj, if_pos hj]; exact ⟨_, rfl⟩
  · rw [if_neg hj, if_neg hj]; exact ⟨_, rfl⟩
theorem call_str_int : CallR X (.type "str") (fun xs H Q => ∃ i, xs = [.int i] ∧ i.natAbs.log2 < 1920 ∧ Q (.str (toString i)) H) := by
  intro pins s σ H xs us Q I r h
  obtain ⟨i, rfl, hz, q⟩ := h
  obtain ⟨u, rfl, t, rfl⟩ := vals1 r
  exact PySem.P.str_of_int hz ⟨.str _, H, I.tok _, ⟨_, rfl⟩, q⟩
def LenV (K : PySem.W.Frag) (x : V) (H : Hp) (n : Nat) : Prop :=
  match x with
  | .str y => y.length ≤ sizeLine ∧ n = y.length
  | .byt y => y.size ≤ sizeLine ∧ n = y.size
  | .ref p => (∃ xs, SqL K H p xs ∧ n = xs.length) ∨ ∃ xs, SqT K H p xs ∧ n = xs.length
  | _ => False
end
end L2
namespace L2
open PySem PySem.Spec PyProof.Rows
structure ObjM (h : Heap) (x dx C : Addr) (mA : Str → Option Value) : Prop where
  obj : h.get? x = some (PySem.W.instObj C dx)
  ns : h.Ns1 dx mA
  ne : dx ≠ x
theorem lookIn_ns {h : Heap} {dx : Addr} {mA : Str → Option Value} (n : h.Ns1 dx mA) : ∃ od, h.get? dx = some od ∧ ∀ name, PySem.W.lookIn name od = some (mA name) := by
  obtain ⟨o, es, ep, ho, hd, hk, _, hm⟩ := n
  refine ⟨o, ho, fun name => ?_⟩
  have e := hm name
  unfold nsFind findBy at e
  rw [← Array.find?_toList] at e
  unfold PySem.W.lookIn
  rw [hd]
  dsimp only
  split
  · rename_i y q
    rw [q] at e
    exact congrArg some e
  · rename_i q
    rw [q] at e
    have a : es.toList.any (·.refKey) = false := by
      rw [List.any_eq_false]
      intro y hy
      obtain ⟨z, t, hkey⟩ := hk y (Array.mem_toList_iff.mp hy)
      simp [DictEntry.refKey, hkey]
    have a' : ¬ es.toList.any (·.refKey) = true := by rw [a]; exact Bool.false_ne_true
    rw [if_neg a']
    exact congrArg some e
theorem ObjM.look {h : Heap} {x dx C : Addr} {mA : Str → Option Value} (I : ObjM h x dx C mA) : ∃ od, PySem.W.InstAt h x (PySem.W.instObj C dx) C (some od) ∧ ∀ name, PySem.W.lookIn name od = some (mA name) :=
  let ⟨od, ho, hl⟩ := lookIn_ns I.ns
  ⟨od, ⟨I.obj, rfl, rfl, ho⟩, hl⟩
section
variable {prog : Program} {w : World} {A : Around} {E : Value → Shared → Prop} {s : Shared} {K : PySem.W.Frag} {x dx C f : Addr} {mA : Str → Option Value} {name : Str} {v : Value}
theorem get_map {expr : Bool} {Q : Value → Shared → Prop} (X : K.In s.heap) (I : ObjM s.heap x dx C mA) (hg : PySem.W.plainGet K C name = true) (hh : PySem.W.hasDictIn K C = true)
    (ha : PySem.W.findIn K (.ref C) name = some none) (hv : mA name = some v) (hv' : PySem.W.handedIn v = true) (h : Q v { s with toks := s.toks + 1 }) :
    wpAny (model prog w) A (getAttr (.ref x) name expr) Q E s := by
  obtain ⟨od, J, hl⟩ := I.look
  exact PySem.W.get_value X J (PySem.W.plainGet_of hg).1 (PySem.W.findObj_own hh ha rfl (by rw [hl, hv])) hv' h
theorem set_map {ns : List Str} {Q : Unit → Shared → Prop} (X : K.In s.heap) (I : ObjM s.heap x dx C mA)
    (hs : PySem.W.findIn K (.ref C) "__setattr__" = some (some (.builtin "object.__setattr__"))) (hp : PySem.W.plainOver K C = true) (ht : PySem.W.takerIn K C name = some none) (hh : PySem.W.hasDictIn K C = true)
    (hw : PySem.Within mA ns) (hsz : ns.length ≤ sizeLine)
    (h : ∀ h', ObjM h' x dx C (fun y => if y = name then some v else mA y) → Heap.SameBut dx s.heap h' → Q () { s with heap := h', toks := s.toks + 2 }) :
    wpAny (model prog w) A (setAttr (.ref x) name v) Q E s := by
  obtain ⟨od, J, hl⟩ := I.look
  refine PySem.W.set_plain X J hs (PySem.W.osa_open (s := { s with toks := s.toks + 1 }) (r := none) X J hp ht fun b => ?_)
  obtain ⟨cd, hc, hd'⟩ := PySem.W.any_some hh
  have hx : s.heap.get? x = some ⟨.ref C, some dx, .plain, #[]⟩ := I.obj
  refine wpAny_bind (wpAny_pure (wpAny_bind (wpAny_bind (wpAny_loadPart hx (wpAny_bind (PySem.W.Looks.here (s := { s with toks := s.toks + 1 }) (PySem.W.looks_clsIn X hc) ?_))))))
  rw [hd']
  refine wpAny_pure (a := some dx) (wpAny_bind (wpAny_pure (wpAny_bind ?_)))
  refine wpAny_nsSet1 (s := { s with toks := s.toks + 1 }) I.ns fun h' hn2 hs2 => ?_
  obtain ⟨oD, esD, epD, hoD, hdD, hcD⟩ := hn2.count (PySem.Within.cons name v hw)
  refine wpAny_bind (wpAny_lookBehind hoD (by rw [hdD]; exact pastItsLine_dict (Nat.le_trans hcD (by rw [List.length_cons]; omega))) ?_)
  exact wpAny_pure (h _ ⟨(hs2.2 _ (Ne.symm I.ne)).trans I.obj, hn2, I.ne⟩ hs2)
theorem make_map {R : Result → Shared → Prop} {vs : List Value} {kw : List (Str × Value)} (X : K.In s.heap) (hm : PySem.W.makesIn K C = true)
    (hi : PySem.W.findIn K (.ref C) "__init__" = some (some (.ref f))) (hf : PySem.W.typeIn K (.ref f) = some (.type "function"))
    (h : codeAny (model prog w) (A.under (.builtin "type.__call__" ⟨.ref C :: vs, kw⟩)) (.call (.ref f) ⟨.ref (s.heap.objs.size + 1) :: vs, kw⟩) (PySem.W.InitBack (s.heap.objs.size + 1) R)
      { s with heap := (s.heap.push PySem.W.emptyDict).push (PySem.W.instObj C s.heap.objs.size) }) :
    codeAny (model prog w) A (.call (.ref C) ⟨vs, kw⟩) R s := by
  obtain ⟨hh, g, d, t, os⟩ := s
  exact PySem.W.make_core (PySem.W.makes_of X hm) (PySem.W.looks_findIn X hi) (fun self => PySem.W.bind_fn X self hf) (.inl rfl) h
end
def putF (f : Str) (v : V) : List (Str × V) → List (Str × V)
  | [] => [(f, v)]
  | (g, x) :: r => if g = f then (g, v) :: r else (g, x) :: putF f v r
theorem lookup_putF (f g : Str) (v : V) : ∀ fs : List (Str × V), (putF f v fs).lookup g = if g = f then some v else fs.lookup g
  | [] => by
    show List.lookup g [(f, v)] = _
    by_cases h : g = f
    · have hb : (g == f) = true := beq_iff_eq.mpr h
      simp only [List.lookup, hb, if_pos h]
    · have hb : (g == f) = false := beq_eq_false_iff_ne.mpr h
      simp only [List.lookup, hb, if_neg h]
  | (k, x) :: r => by
    have ih := lookup_putF f g v r
    rw [show putF f v ((k, x) :: r) = (if k = f then (k, v) :: r else (k, x) :: putF f v r) from rfl]
    by_cases hk : k = f
    · rw [if_pos hk]
      by_cases h : g = k
      · have hb : (g == k) = true := beq_iff_eq.mpr h
        simp only [List.lookup, hb, if_pos (h.trans hk)]
      · have hb : (g == k) = false := beq_eq_false_iff_ne.mpr h
        simp only [List.lookup, hb, if_neg (fun e : g = f => h (e.trans hk.symm))]
    · rw [if_neg hk]
      by_cases h : g = k
      · have hb : (g == k) = true := beq_iff_eq.mpr h
        simp only [List.lookup, hb, if_neg (fun e : g = f => hk (h.symm.trans e))]
      · have hb : (g == k) = false := beq_eq_false_iff_ne.mpr h
        simp only [List.lookup, hb]
        exact ih
theorem keys_putF (f : Str) (v : V) : ∀ fs : List (Str × V), f ∈ (putF f v fs).map (·.1) ∧ ∀ g, g ∈ fs.map (·.1) → g ∈ (putF f v fs).map (·.1)
  | [] => ⟨by simp [putF], fun g h => by simp at h⟩
  | (k, x) :: r => by
    obtain ⟨i1, i2⟩ := keys_putF f v r
    rw [show putF f v ((k, x) :: r) = (if k = f then (k, v) :: r else (k, x) :: putF f v r) from rfl]
    by_cases hk : k = f
    · rw [if_pos hk]
      subst hk
      exact ⟨by simp, fun g h => by simpa using h⟩
    · rw [if_neg hk]
      refine ⟨?_, fun g h => ?_⟩
      · rw [List.map_cons]
        exact List.mem_cons_of_mem _ i1
      · rw [List.map_cons] at h ⊢
        rcases List.mem_cons.mp h with e | e
        · exact List.mem_cons.mpr (.inl e)
        · exact List.mem_cons_of_mem _ (i2 g e)
theorem length_putF (f : Str) (v : V) : ∀ fs : List (Str × V), (putF f v fs).length ≤ fs.length + 1
  | [] => by simp [putF]
  | (k, x) :: r => by
    have ih := length_putF f v r
    rw [show putF f v ((k, x) :: r) = (if k = f then (k, v) :: r else (k, x) :: putF f v r) from rfl]
    by_cases hk : k = f
    · rw [if_pos hk, List.length_cons, List.length_cons]; omega
    · rw [if_neg hk, List.length_cons, List.length_cons]; omega
theorem RelO.some_of {v : V} {o : Option Value} (r : RelO (some v) o) : ∃ u, o = some u ∧ RelV v u := by
  cases o with
  | none => exact (show False from r).elim
  | some u => exact ⟨u, rfl, r⟩
theorem handed_of {v : V} {u : Value} (r : RelV v u) : PySem.W.handedIn u = true := by
  cases v with
  | non => cases (show u = Value.none from r); rfl
  | bl b => cases (show u = Value.bool b from r); rfl
  | int i => obtain ⟨t, e⟩ := (show ∃ t, u = Value.int i t from r); cases e; rfl
  | str x => obtain ⟨t, e⟩ := (show ∃ t, u = Value.str x t from r); cases e; rfl
  | byt b => obtain ⟨t, e⟩ := (show ∃ t, u = Value.bytes b t from r); cases e; rfl
  | flt b => obtain ⟨t, e⟩ := (show ∃ t, u = Value.float b t from r); cases e; rfl
  | ref a => cases (show u = Value.ref a from r); rfl
  | ty n => cases (show u = Value.type n from r); rfl
section
variable {P : Program} {w : World} {H H' : Hp} {h h' : Heap} {a C dx : Addr} {fs fs' : List (Str × V)}
theorem ins_get (hok : HOk P w H h) (e : H a = some (.ins C dx fs)) : ∃ mA, ObjM h a dx C mA ∧ (∀ f, RelO (fs.lookup f) (mA f)) ∧ PySem.Within mA (fs.map (·.1)) ∧ fs.length ≤ 1000 ∧ H dx = some (.own a) := by
  obtain ⟨d, z, ne, ob, mA, n, r, q⟩ := (show ObjOk P w H h a (.ins C dx fs) from hok a _ e)
  exact ⟨mA, ⟨ob, n, ne⟩, r, q, z, d⟩
end
structure Cls (K : PySem.W.Frag) (C : Addr) : Prop where
  pg : PySem.W.plainGet K C Str.empty = true
  hd : PySem.W.hasDictIn K C = true
  po : PySem.W.plainOver K C = true
  sa : PySem.W.findIn K (.ref C) "__setattr__" = some (some (.builtin "object.__setattr__"))
theorem Cls.get {K : PySem.W.Frag} {C : Addr} (c : Cls K C) (f : Str) : PySem.W.plainGet K C f = true := c.pg
def NoAttr (K : PySem.W.Frag) (C : Addr) (f : Str) : Prop := PySem.W.findIn K (.ref C) f = some none
theorem NoAttr.taker {K : PySem.W.Frag} {C : Addr} {f : Str} (n : NoAttr K C f) : PySem.W.takerIn K C f = some none := by
  unfold PySem.W.takerIn
  rw [show PySem.W.findIn K (.ref C) f = some none from n]
  rfl
structure Con (K : PySem.W.Frag) (C : Addr) (f : Str) (v : V) (u : Value) : Prop where
  at_ : PySem.W.findIn K (.ref C) f = some (some u)
  rel : RelV v u
  get : PySem.W.specialIn K u "__get__" = some none
  cp : PySem.W.copiedNames.contains f = false
structure Meth (K : PySem.W.Frag) (C : Addr) (m : Str) (f : Addr) : Prop where
  at_ : PySem.W.findIn K (.ref C) m = some (some (.ref f))
  fn : PySem.W.isFn K (.ref f) = true
  kp : PySem.W.keepIn K (.ref f) = true
section
variable {X : Cx} {pins : List (Addr × Obj)} {σ : St} {H : Hp} {s : Shared} {a C dx : Addr} {fs : List (Str × V)} {f : Str} {v : V} {A : Around} {E : Value → Shared → Prop}
theorem getattr_ok {b : Bool} {Q : Value → Shared → Prop} (I : Inv X pins σ H s) (e : H a = some (.ins C dx fs)) (c : Cls X.K C) (n : NoAttr X.K C f) (l : fs.lookup f = some v)
    (h : ∀ u s', Inv X pins σ H s' → RelV v u → Q u s') : wpAny (model X.prog X.w) A (getAttr (.ref a) f b) Q E s := by
  obtain ⟨mA, O, r, _, _, _⟩ := ins_get I.hok e
  obtain ⟨u, hu, ru⟩ := RelO.some_of (v := v) (o := mA f) (by rw [← l]; exact r f)
  exact get_map I.kIn O (c.get f) c.hd n hu (handed_of ru) (h u _ (I.tok _) ru)
theorem setattr_ok {y : V} {u : Value} {Q : Unit → Shared → Prop} (I : Inv X pins σ H s) (e : H a = some (.ins C dx fs)) (c : Cls X.K C) (n : NoAttr X.K C f) (hl : fs.length < 1000) (ry : RelV y u)
    (h : ∀ s', Inv X pins σ (upd H a (.ins C dx (putF f y fs))) s' → Q () s') : wpAny (model X.prog X.w) A (setAttr (.ref a) f u) Q E s := by
  obtain ⟨mA, O, r, wi, _, ho⟩ := ins_get I.hok e
  have hz : (fs.map (·.1)).length ≤ sizeLine := by rw [List.length_map, sizeLine_eq]; omega
  refine set_map I.kIn O c.sa c.po n.taker c.hd wi hz fun h' O' sb => h _ ?_
  have hd : ∃ o, h'.get? dx = some o := let ⟨o, _, _, e', _⟩ := O'.ns; ⟨o, e'⟩
  refine I.write (x := a) (e := dx) (by rw [e]; exact True.intro) (.inr ho) (fun b q hb z => (sb.2 b hb).trans z) hd ?_
  refine ⟨by rw [upd_ne O.ne]; exact ho, ?_, O.ne, O'.obj, _, O'.ns, fun g => ?_, fun g hg => ?_⟩
  · have := length_putF f y fs; omega
  · show RelO ((putF f y fs).lookup g) (if g = f then some u else mA g)
    rw [lookup_putF]
    by_cases q : g = f
    · rw [if_pos q, if_pos q]; exact ry
    · rw [if_neg q, if_neg q]; exact r g
  · by_cases q : g = f
    · rw [q]; exact (keys_putF f y fs).1
    · refine (keys_putF f y fs).2 g (wi g fun z => hg ?_)
      show (if g = f then some u else mA g) = none
      rw [if_neg q]; exact z
theorem Inv.made (I : Inv X pins σ H s) : Inv X pins σ (upd (upd H s.heap.objs.size (.own (s.heap.objs.size + 1))) (s.heap.objs.size + 1) (.ins C s.heap.objs.size []))
    { s with heap := (s.heap.push PySem.W.emptyDict).push (PySem.W.instObj C s.heap.objs.size) } := by
  have e1 : (s.heap.push PySem.W.emptyDict).get? s.heap.objs.size = some PySem.W.emptyDict := Heap.get?_push_size s.heap rfl
  have e2 : ((s.heap.push PySem.W.emptyDict).push (PySem.W.instObj C s.heap.objs.size)).get? (s.heap.objs.size + 1) = some (PySem.W.instObj C s.heap.objs.size) := by
    have := Heap.get?_push_size (s.heap.push PySem.W.emptyDict) (o := PySem.W.instObj C s.heap.objs.size) rfl
    rwa [Heap.size_push] at this
  have e3 : (s.heap.push PySem.W.emptyDict).Ns s.heap.objs.size (fun _ => none) := ⟨PySem.W.emptyDict, #[], _, e1, rfl, (fun e he => absurd he (by simp)), fun _ => rfl⟩
  have I1 := I.laid (a := s.heap.objs.size) (o := .own (s.heap.objs.size + 1)) (h' := s.heap.push PySem.W.emptyDict) (t' := s.toks) (fun b u q => Heap.get?_push_of_some _ q) (Nat.le_refl _) ⟨_, e1⟩
  refine I1.laid (a := s.heap.objs.size + 1) (o := .ins C s.heap.objs.size []) (t' := s.toks) (fun b u q => Heap.get?_push_of_some _ q) (Nat.le_of_eq (Heap.size_push _ _)) ?_
  have ne : s.heap.objs.size ≠ s.heap.objs.size + 1 := Nat.ne_of_lt (Nat.lt_succ_self _)
  refine ⟨by rw [upd_ne ne, upd_same], Nat.zero_le _, ne, e2, fun _ => none, (Heap.Ns1.of_empty e3).at fun o q => Heap.get?_push_of_some _ q, fun _ => True.intro, fun y hy => absurd rfl hy⟩
theorem attr_of {prog : Program} {w : World} {env : Env} {e : Expr} {f : Str} {pos : Pos} {s : Shared} {Q : Value → Shared → Prop} (hb : attributeBase e f env (eval e env) = eval e env)
    (h : wpAny (model prog w) A (eval e env) (fun o s₁ => wpAny (model prog w) A (getAttr o f true) Q E s₁) E s) : wpAny (model prog w) A (eval (.Attribute e f pos) env) Q E s :=
  Attribute_any_ h (by rw [arm_eval_Attribute, hb])
end
def tFld (K : PySem.W.Frag) (ta : TE) (f : Str) : TE := fun σ H Q => ta σ H fun x H1 => ∃ a C dx fs v, x = .ref a ∧ H1 a = some (.ins C dx fs) ∧ Cls K C ∧ NoAttr K C f ∧ fs.lookup f = some v ∧ Q v H1
def tCon (K : PySem.W.Frag) (ta : TE) (f : Str) : TE := fun σ H Q => ta σ H fun x H1 => ∃ a C dx fs v u, x = .ref a ∧ H1 a = some (.ins C dx fs) ∧ Cls K C ∧ Con K C f v u ∧ fs.lookup f = none ∧ Q v H1
def sFld (K : PySem.W.Frag) (ta tv : TE) (f : Str) : TS := fun D σ H => tv σ H fun y H1 => ta σ H1 fun x H2 => ∃ a C dx fs, x = .ref a ∧ H2 a = some (.ins C dx fs) ∧ Cls K C ∧ NoAttr K C f ∧ fs.length < 1000 ∧
  D.nx σ (upd H2 a (.ins C dx (putF f y fs)))
def InOp (X : Cx) (op : Operator) (rd : V → V → Hp → VK → Prop) : Prop :=
  ∀ (pins : List (Addr × Obj)) (s : Shared) (σ : St) (H : Hp) (x y : V) (u v : Value) (Q : VK), Inv X pins σ H s → RelV x u → RelV y v → rd x y H Q → wpAny (model X.prog X.w) X.A (inplaceOp op u v) (EP X pins σ Q) X.xe s
def sFldAug (K : PySem.W.Frag) (ta tv : TE) (rd : V → V → Hp → VK → Prop) (f : Str) : TS := fun D σ H => ta σ H fun x H1 => ∃ a C dx fs v, x = .ref a ∧ H1 a = some (.ins C dx fs) ∧ Cls K C ∧ NoAttr K C f ∧ fs.lookup f = some v ∧
  tv σ H1 fun y H2 => rd v y H2 fun z H3 => ∃ dx' fs', H3 a = some (.ins C dx' fs') ∧ fs'.length < 1000 ∧ D.nx σ (upd H3 a (.ins C dx' (putF f z fs')))
section
variable {X : Cx} {o e value : Expr} {f : Str} {pos pos' tpos : Pos} {ta tv : TE}
theorem pe_fld (he : PE X e ta) (hb : attributeBase e f X.env (eval e X.env) = eval e X.env) : PE X (.Attribute e f pos) (tFld X.K ta f) := by
  intro pins s σ H Q I h
  refine attr_of hb (thn (he pins s σ H _ I h) fun u s1 ⟨x, H1, I1, rx, a, C, dx, fs, v, ex, ea, c, n, l, q⟩ => ?_)
  subst ex
  obtain rfl : u = Value.ref a := rx
  exact getattr_ok I1 ea c n l fun u' s2 I2 ru => ⟨v, H1, I2, ru, q⟩
theorem ps_fld (ha : PE X o ta) (hv : PE X value tv) (hs : swapsWith value (some (.Attribute o f pos')) pos.line X.env = pure false) : PS X (.Assign [.Attribute o f pos'] value pos) (sFld X.K ta tv f) := by
  intro pins s σ H D I h
  refine plainObj_wpAny_Assign_Attribute (thn (hv pins s σ H _ I h) fun u s1 ⟨y, H1, I1, ry, q⟩ => thn (ha pins s1 σ H1 _ I1 q) fun ov s2 ⟨x, H2, I2, rx, a, C, dx, fs, ex, ea, c, n, l, q2⟩ => ?_) hs
  subst ex
  obtain rfl : ov = Value.ref a := rx
  exact setattr_ok I2 ea c n l ry fun s3 I3 => ⟨σ, _, I3, q2⟩
def rAdd : V → V → Hp → VK → Prop := fun x y H Q => ∃ i j, x = .int i ∧ y = .int j ∧ Q (.int (i + j)) H
def rSub : V → V → Hp → VK → Prop := fun x y H Q => ∃ i j, x = .int i ∧ y = .int j ∧ Q (.int (i - j)) H
end
section
variable {X : Cx} {pins : List (Addr × Obj)} {σ : St} {H : Hp} {s : Shared} {A : Around} {E : Value → Shared → Prop} {Q : Value → Shared → Prop} {c : Value} {b : Bool}
inductive TyOf (K : PySem.W.Frag) (H : Hp) : V → Value → Prop where
  | non : TyOf K H .non (.type "NoneType")
  | bl (x : Bool) : TyOf K H (.bl x) (.type "bool")
  | int (i : Int) : TyOf K H (.int i) (.type "int")
  | str (x : Str) : TyOf K H (.str x) (.type "str")
  | flt (x : UInt64) : TyOf K H (.flt x) (.type "float")
  | lst {a : Addr} {xs : List V} (e : H a = some (.lst xs)) : TyOf K H (.ref a) (.type "list")
  | frz {a : Addr} {o : Obj} {xs : List V} (e : H a = some (.frz o (.lst xs))) : TyOf K H (.ref a) (.type "list")
  | tup {a : Addr} {xs : List V} (e : H a = some (.tup xs)) : TyOf K H (.ref a) (.type "tuple")
  | dK {a : Addr} {kvs : List (Key × V)} (e : H a = some (.dK kvs)) : TyOf K H (.ref a) (.type "dict")
  | dT {a : Addr} {kvs : List (List Key × V)} (e : H a = some (.dT kvs)) : TyOf K H (.ref a) (.type "dict")
  | ins {a C dx : Addr} {fs : List (Str × V)} (e : H a = some (.ins C dx fs)) (cl : Cls K C) (ha : PySem.W.findIn K (.ref C) "__class__" = some (some (.builtin "object.__class__")))
      (hn : PySem.W.specialIn K (.builtin "object.__class__") "__get__" = some (some (.builtin "getset_descriptor.__get__"))) (htk : PySem.W.takesIn K (.builtin "object.__class__") = some true)
      (hm : PySem.W.mroIn K C (.type "object") = some true) : TyOf K H (.ref a) (.ref C)
theorem isinst_ok {x : V} {u t : Value} (I : Inv X pins σ H s) (rx : RelV x u) (ty : TyOf X.K H x t) (e : PySem.W.kitOne X.K t c = some b) (h : ∀ tk, Q (.bool b) { s with toks := tk }) :
    wpAny (model X.prog X.w) A (call (.builtin "isinstance") [u, c]) Q E s := by
  cases ty with
  | non => cases (show u = Value.none from rx); exact PySem.W.kia_one PySem.W.kitx_none I.kIn True.intro e (fun z => nomatch z) h
  | bl y => cases (show u = Value.bool y from rx); exact PySem.W.kia_one PySem.W.kitx_bool I.kIn True.intro e (fun z => nomatch z) h
  | int i => obtain ⟨t, q⟩ := (show ∃ t, u = Value.int i t from rx); cases q; exact PySem.W.kia_one PySem.W.kitx_int I.kIn True.intro e (fun z => nomatch z) h
  | str y => obtain ⟨t, q⟩ := (show ∃ t, u = Value.str y t from rx); cases q; exact PySem.W.kia_one PySem.W.kitx_str I.kIn True.intro e (fun z => nomatch z) h
  | flt y => obtain ⟨t, q⟩ := (show ∃ t, u = Value.float y t from rx); cases q; exact PySem.W.kia_one PySem.W.kitx_float I.kIn True.intro e (fun z => nomatch z) h
  | @lst a xs ea =>
    cases (show u = Value.ref a from rx)
    obtain ⟨_, _, n, _, h1⟩ := (show ObjOk X.prog X.w H s.heap a (.lst xs) from I.hok a _ ea)
    exact PySem.W.kia_one PySem.W.kitx_list I.kIn ⟨_, h1, rfl⟩ e (fun z => nomatch z) h
  | @frz a ob xs ea =>
    cases (show u = Value.ref a from rx)
    obtain ⟨_, _, _, n, _, h1⟩ := (show ObjOk X.prog X.w H s.heap a (.frz ob (.lst xs)) from I.hok a _ ea)
    exact PySem.W.kia_one PySem.W.kitx_list I.kIn ⟨_, h1, rfl⟩ e (fun z => nomatch z) h
  | @tup a xs ea =>
    cases (show u = Value.ref a from rx)
    obtain ⟨_, _, _, p⟩ := (show ObjOk X.prog X.w H s.heap a (.tup xs) from I.hok a _ ea)
    obtain ⟨o, h1, h2, _⟩ := p
    exact PySem.W.kia_one PySem.W.kitx_tuple I.kIn ⟨o, h1, h2⟩ e (fun z => nomatch z) h
  | @dK a kvs ea =>
    cases (show u = Value.ref a from rx)
    obtain ⟨_, _, vs, _, p⟩ := (show ObjOk X.prog X.w H s.heap a (.dK kvs) from I.hok a _ ea)
    obtain ⟨o, es, ep, h1, h2, _⟩ := p
    exact PySem.W.kia_one PySem.W.kitx_dict I.kIn ⟨o, h1, h2.1⟩ e (fun z => nomatch z) h
  | @dT a kvs ea =>
    cases (show u = Value.ref a from rx)
    obtain ⟨_, _, xs, _, o, es, ep, h1, h2, _⟩ := (show ObjOk X.prog X.w H s.heap a (.dT kvs) from I.hok a _ ea)
    exact PySem.W.kia_one PySem.W.kitx_dict I.kIn ⟨o, h1, h2.1⟩ e (fun z => nomatch z) h
  | @ins a C dx fs ea cl ha hn htk hm =>
    cases (show u = Value.ref a from rx)
    obtain ⟨mA, O, _⟩ := ins_get I.hok ea
    obtain ⟨od, J, _⟩ := O.look
    exact PySem.W.kia_one (PySem.W.kitx_own (cl.get _) cl.hd ha hn htk hm) I.kIn J e (fun z => nomatch z) h
end
end L2
namespace L2
open PySem PySem.Spec PyProof.Rows
structure Room (k : Nat) (A : Around) : Prop where
  hd : A.handled = none
  dp : A.depth + 3 * k + 5 < recursionLimit
  un : A.units + 16 * k + 200 < cLine
theorem Room.mono {j k : Nat} {A : Around} (r : Room k A) (h : j ≤ k) : Room j A := ⟨r.hd, by have := r.dp; omega, by have := r.un; omega⟩
theorem Room.deeper {k : Nat} {A : Around} (r : Room (k + 1) A) (env : Env) : Room k (A.deeper env) :=
  ⟨r.hd, by have := r.dp; show A.depth + 1 + 3 * k + 5 < _; omega, by have := r.un; show A.units + 3 + 16 * k + 200 < _; omega⟩
theorem Room.in1 {k : Nat} {A : Around} (r : Room (k + 1) A) : Room k A.in1 :=
  ⟨r.hd, by have := r.dp; show A.depth + 3 * k + 5 < _; omega, by have := r.un; show A.units + 1 + 16 * k + 200 < _; omega⟩
theorem make_depth {A : Around} {C : Addr} {us : List Value} {kw : List (Str × Value)} : (A.under (.builtin "type.__call__" ⟨.ref C :: us, kw⟩)).depth = A.depth + 1 := by
  first | rfl | simp [Around.under, Code.weight, Code.isCreation, Code.isGuard, Code.isCaller, Code.frames, Code.isFrame, guardIds]
theorem make_units {A : Around} {C : Addr} {us : List Value} {kw : List (Str × Value)} : (A.under (.builtin "type.__call__" ⟨.ref C :: us, kw⟩)).units = A.units + 1 := by
  first | rfl | simp [Around.under, Code.cUnits, Code.frames, Code.isFrame]
theorem Room.make {k : Nat} {A : Around} (r : Room (k + 1) A) (C : Addr) (us : List Value) (kw : List (Str × Value)) : Room k (A.under (.builtin "type.__call__" ⟨.ref C :: us, kw⟩)) :=
  ⟨r.hd, by have := r.dp; rw [make_depth]; omega, by have := r.un; rw [make_units]; omega⟩
theorem Room.depth {k : Nat} {A : Around} (r : Room k A) : A.depth < recursionLimit := by have := r.dp; omega
theorem Room.units {k : Nat} {A : Around} (r : Room k A) : A.units + 64 < cLine := by have := r.un; omega
theorem Room.units0 {k : Nat} {A : Around} (r : Room k A) : A.units < cLine := by have := r.un; omega
def tNil : TA := fun _ H Q => Q [] H
def tCons (ta : TE) (tr : TA) : TA := fun σ H Q => ta σ H fun x H1 => tr σ H1 fun xs H2 => Q (x :: xs) H2
section
variable {X : Cx} {e : Expr} {es : List Expr} {te : TE} {t : TA} {pos : Pos}
theorem pa_nil : PA X [] tNil := fun _ _ _ _ H Q I h => Calls.spliced_nil ⟨[], H, I, .nil, h⟩
theorem pa_cons (ha : PE X e te) (hr : PA X es t) (hs : starEach (e :: es) X.env = (false, eval e X.env) :: starEach es X.env := by rfl) : PA X (e :: es) (tCons te t) := by
  intro pos pins s σ H Q I h
  rw [hs]
  show wpAny _ _ (spliced ((false, eval e X.env) :: backTo pos (starEach es X.env))) _ _ s
  refine Calls.spliced_cons (thn (ha pins s σ H _ I h) fun u s1 ⟨x, H1, I1, r1, q1⟩ => ?_)
  exact thn (hr pos pins s1 σ H1 _ I1 q1) fun us s2 ⟨xs, H2, I2, r2, q2⟩ => ⟨x :: xs, H2, I2, .cons r1 r2, q2⟩
def tTup (t : TA) : TE := fun σ H Q => t σ H fun xs H1 => xs.length ≤ sizeLine ∧ ∀ p, H1 p = none → Q (.ref p) (upd H1 p (.tup xs))
def tLst (t : TA) : TE := fun σ H Q => t σ H fun xs H1 => xs.length ≤ sizeLine ∧ ∀ p, H1 p = none → Q (.ref p) (upd H1 p (.lst xs))
theorem pe_tup {x1} (h : PA X es t) : PE X (.Tuple es x1 pos) (tTup t) := by
  intro pins s σ H Q I hq
  refine wpAny_Tuple_spliced (thn (h pos pins s σ H _ I hq) fun us s1 ⟨xs, H1, I1, r, z, q⟩ => ⟨by rw [← r.length]; exact z, ?_⟩)
  have hf : H1 s1.heap.objs.size = none := I1.hok.fresh (Nat.le_refl _)
  refine ⟨.ref s1.heap.objs.size, upd H1 s1.heap.objs.size (.tup xs), I1.laid (t' := s1.toks) (fun b u e => Heap.get?_push_of_some _ e) (Nat.le_refl _) ?_, rfl, q _ hf⟩
  exact ⟨z, us, r, ⟨_, Heap.get?_push_size _ rfl, rfl, _, rfl⟩⟩
theorem pe_lst (h : PA X es t) : PE X (.List es pos) (tLst t) := by
  intro pins s σ H Q I hq
  refine wpAny_List_spliced (thn (h pos pins s σ H _ I hq) fun us s1 ⟨xs, H1, I1, r, z, q⟩ => ⟨by rw [← r.length]; exact z, ?_⟩)
  have hf : H1 s1.heap.objs.size = none := I1.hok.fresh (Nat.le_refl _)
  refine ⟨.ref s1.heap.objs.size, upd H1 s1.heap.objs.size (.lst xs), I1.laid (t' := s1.toks) (fun b u e => Heap.get?_push_of_some _ e) (Nat.le_refl _) ?_, rfl, q _ hf⟩
  exact ⟨z, us, 0, r, Heap.get?_push_size _ rfl⟩
end
abbrev Sp := List V → Hp → VK → XK → Prop
abbrev CXT := List Env → Hp → Shared → XK → Value → Shared → Prop
structure Env0 (P : Program) (w : World) (K : PySem.W.Frag) (mg : Str → Option Value) (base : Heap) (A : Around) (outer : List Env) (s : Shared) (H : Hp) : Prop where
  frames : A.frames = some outer
  mod : Mod K mg base
  bs : ∀ b o, base.get? b = some o → s.heap.get? b = some o ∧ H b = none
  bsz : base.objs.size ≤ s.heap.objs.size
  funs : s.heap.FunFrames base outer
  frf : ∀ b ∈ frs outer, H b = none
  hok : HOk P w H s.heap
  bare : AllBare s.gens
def CE (outer : List Env) (P : Program) (w : World) (H : Hp) (s : Shared) (Q : VK) (u : Value) (s' : Shared) : Prop :=
  ∃ v H', s'.os = s.os ∧ AllBare s'.gens ∧ Un (frs outer) [] H H' s.heap s'.heap ∧ HOk P w H' s'.heap ∧ RelV v u ∧ Q v H'
def CR (CX : CXT) (outer : List Env) (P : Program) (w : World) (H : Hp) (s : Shared) (Q : VK) (E : XK) (r : Result) (s' : Shared) : Prop :=
  match r with
  | .ok (.ret u) => CE outer P w H s Q u s'
  | .ok _ => False
  | .error e => CX outer H s E e s'
structure FnOk (P : Program) (w : World) (K : PySem.W.Frag) (mg : Str → Option Value) (base : Heap) (CX : CXT) (k : Nat) (f : Addr) (fd : FuncData) (ps : List Str) (sp : Sp) : Prop where
  len : ∀ vs H Q E, sp vs H Q E → vs.length = ps.length
  run : ∀ (A : Around) (outer : List Env) (s : Shared) (H : Hp) (args : Args) (us : List Value) (vs : List V) (Q : VK) (E : XK), Room k A → Env0 P w K mg base A outer s H → BindsTo s fd args (ps.zip us) → Vals vs us → sp vs H Q E →
    codeAny (model P w) A (.call (.ref f) args) (CR CX outer P w H s Q E) s
theorem FnOk.mono {P : Program} {w : World} {K : PySem.W.Frag} {mg : Str → Option Value} {base : Heap} {CX : CXT} {j k : Nat} {f : Addr} {fd : FuncData} {ps : List Str} {sp : Sp} (F : FnOk P w K mg base CX j f fd ps sp) (h : j ≤ k) :
    FnOk P w K mg base CX k f fd ps sp := ⟨F.len, fun A outer s H args us vs Q E hr => F.run A outer s H args us vs Q E (hr.mono h)⟩
theorem FnOk.imp {P : Program} {w : World} {K : PySem.W.Frag} {mg : Str → Option Value} {base : Heap} {CX : CXT} {k : Nat} {f : Addr} {fd : FuncData} {ps : List Str} {sp sp' : Sp} (F : FnOk P w K mg base CX k f fd ps sp)
    (h : ∀ vs H Q E, sp' vs H Q E → sp vs H Q E) : FnOk P w K mg base CX k f fd ps sp' :=
  ⟨fun vs H Q E q => F.len vs H Q E (h _ _ _ _ q), fun A outer s H args us vs Q E hr he hb hv hs => F.run A outer s H args us vs Q E hr he hb hv (h _ _ _ _ hs)⟩
theorem Env0.make {P : Program} {w : World} {K : PySem.W.Frag} {mg : Str → Option Value} {base : Heap} {A : Around} {outer : List Env} {s : Shared} {H : Hp} (e : Env0 P w K mg base A outer s H) (C : Addr) (us : List Value) (kw : List (Str × Value)) :
    Env0 P w K mg base (A.under (.builtin "type.__call__" ⟨.ref C :: us, kw⟩)) outer s H := ⟨by first | exact e.frames | (simpa [Around.under, Code.envs, Code.isFrame, pushEnvs] using e.frames), e.mod, e.bs, e.bsz, e.funs, e.frf, e.hok, e.bare⟩
theorem Env0.in1 {P : Program} {w : World} {K : PySem.W.Frag} {mg : Str → Option Value} {base : Heap} {A : Around} {outer : List Env} {s : Shared} {H : Hp} (e : Env0 P w K mg base A outer s H) :
    Env0 P w K mg base A.in1 outer s H := ⟨e.frames, e.mod, e.bs, e.bsz, e.funs, e.frf, e.hok, e.bare⟩
section
variable {X : Cx} {pins : List (Addr × Obj)} {σ : St} {H : Hp} {s s' : Shared}
theorem Inv.env0 (I : Inv X pins σ H s) : Env0 X.prog X.w X.K X.mg X.base X.A X.stack s H :=
  ⟨I.ok.frames, I.ok.mod, I.bs, Nat.le_trans I.ok.bsz I.sz, I.stack, I.stkFree, I.hok, I.bare⟩
theorem Inv.after {Q : VK} {u : Value} (I : Inv X pins σ H s) (h : CE X.stack X.prog X.w H s Q u s') : EP X pins σ Q u s' := by
  obtain ⟨v, H', os, bare, un, hok, r, q⟩ := h
  obtain ⟨hh, g, d, t, os'⟩ := s'
  obtain rfl : os' = s.os := os
  exact ⟨v, H', I.call (h' := hh) (g' := g) (d' := d) (t' := t) (ch := []) un hok bare (fun b z => absurd z (by simp)), r, q⟩
end
def tCall (sp : Sp) (dvs : List V) (E : XK) (t : TA) : TE := fun σ H Q => t σ H fun vs H1 => sp (vs ++ dvs) H1 Q E
def tMeth (C : Addr) (m : Str) (sp : Sp) (dvs : List V) (E : XK) (ta : TE) (t : TA) : TE := fun σ H Q => ta σ H fun x H1 => ∃ a dx fs, x = .ref a ∧ H1 a = some (.ins C dx fs) ∧ fs.lookup m = none ∧
  t σ H1 fun vs H2 => sp (x :: (vs ++ dvs)) H2 Q E
def tMake (C : Addr) (sp : Sp) (dvs : List V) (E : XK) (t : TA) : TE := fun σ H Q => t σ H fun vs H1 => ∀ x dx, H1 x = none → H1 dx = none → dx ≠ x →
  sp (.ref x :: (vs ++ dvs)) (upd (upd H1 dx (.own x)) x (.ins C dx [])) (fun v H2 => v = .non ∧ Q (.ref x) H2) E
def Binds (K : PySem.W.Frag) (fd : FuncData) (ps : List Str) (ds : List Value) : Prop :=
  ∀ (s : Shared) (us : List Value), K.In s.heap → (us ++ ds).length = ps.length → BindsTo s fd ⟨us, []⟩ (ps.zip (us ++ ds))
theorem Binds.all {K : PySem.W.Frag} {fd : FuncData} {ps : List Str} (h : ∀ us : List Value, us.length = ps.length → bindArgs fd ⟨us, []⟩ = pure (ps.zip us)) : Binds K fd ps [] := fun s us _ hl => by
  rw [List.append_nil] at hl ⊢
  exact .of_eq (h us hl)
def Passes (CX : CXT) (X : Cx) (E : XK) : Prop := ∀ (pins : List (Addr × Obj)) (σ : St) (H : Hp) (s : Shared) (e : Value) (s' : Shared), Inv X pins σ H s → CX X.stack H s E e s' → X.xe e s'
section
variable {X : Cx} {CX : CXT} {k : Nat} {f C : Addr} {fd : FuncData} {ps : List Str} {sp : Sp} {dvs : List V} {ds : List Value} {E : XK} {x m : Str} {p pos apos : Pos} {e o : Expr} {es : List Expr} {ta : TE} {t : TA}
theorem run_fn {pins : List (Addr × Obj)} {σ : St} {H : Hp} {s : Shared} {Q : VK} {us : List Value} {vs : List V} (F : FnOk X.prog X.w X.K X.mg X.base CX k f fd ps sp) (hr : Room k X.A) (hb : Binds X.K fd ps ds) (hd : Vals dvs ds) (hx : Passes CX X E)
    (I : Inv X pins σ H s) (r : Vals vs us) (h : sp (vs ++ dvs) H Q E) : wpAny (model X.prog X.w) X.A (call (.ref f) us) (EP X pins σ Q) X.xe s := by
  have r2 : Vals (vs ++ dvs) (us ++ ds) := r.append hd
  have hl : (us ++ ds).length = ps.length := by rw [← r2.length]; exact F.len _ _ _ _ h
  refine wpAny_call (codeAny_mono (F.run X.A X.stack s H ⟨us, []⟩ (us ++ ds) (vs ++ dvs) Q E hr I.env0 (hb s us I.kIn hl) r2 h) fun r s' hq => ?_)
  cases r with
  | error e => exact hx pins σ H s e s' I hq
  | ok fl =>
    cases fl with
    | ret u => exact I.after hq
    | next => exact False.elim hq
    | brk => exact False.elim hq
    | cont => exact False.elim hq
theorem pe_call (F : FnOk X.prog X.w X.K X.mg X.base CX k f fd ps sp) (hr : Room k X.A) (hg : Gl X x) (hm : X.mg x = some (.ref f)) (hk : PySem.W.keepIn X.K (.ref f) = true) (hb : Binds X.K fd ps ds) (hd : Vals dvs ds) (hx : Passes CX X E)
    (ha : PA X (e :: es) t) (hdb : (x == ("__debug__" : Str)) = false := by decide) (he : starEach (e :: es) X.env = (false, eval e X.env) :: starEach es X.env := by rfl) (hpl : (backTo pos (starEach es X.env)).any (·.1) = false := by rfl) :
    PE X (.Call (.Name x p) (e :: es) [] pos) (tCall sp dvs E t) := by
  intro pins s σ H Q I h
  refine wpAny_Call_Name_kw (ld_glob I hg hm ?_ hdb)
  refine PySem.W.callWith_K (h₀ := X.base) I.ok.mod.kin hk (thn (ha pos pins s σ H _ I h) fun us s1 ⟨vs, H1, I1, r, q⟩ => ⟨I1.kIn, ?_⟩) he hpl
  exact run_fn F hr hb hd hx I1 r q
structure Mk (K : PySem.W.Frag) (C f : Addr) : Prop where
  makes : PySem.W.makesIn K C = true
  init : PySem.W.findIn K (.ref C) "__init__" = some (some (.ref f))
  fn : PySem.W.isFn K (.ref f) = true
  kp : PySem.W.keepIn K (.ref C) = true
theorem run_make {pins : List (Addr × Obj)} {σ : St} {H : Hp} {s : Shared} {Q : VK} {us : List Value} {vs : List V} (M : Mk X.K C f) (F : FnOk X.prog X.w X.K X.mg X.base CX k f fd ps sp) (hr : Room (k + 1) X.A) (hb : Binds X.K fd ps ds) (hd : Vals dvs ds)
    (hx : Passes CX X E) (I : Inv X pins σ H s) (r : Vals vs us)
    (h : ∀ x dx, H x = none → H dx = none → dx ≠ x → sp (.ref x :: (vs ++ dvs)) (upd (upd H dx (.own x)) x (.ins C dx [])) (fun v H2 => v = .non ∧ Q (.ref x) H2) E) :
    wpAny (model X.prog X.w) X.A (call (.ref C) us) (EP X pins σ Q) X.xe s := by
  have hq := h (s.heap.objs.size + 1) s.heap.objs.size (I.hok.fresh (Nat.le_succ _)) (I.hok.fresh (Nat.le_refl _)) (Nat.ne_of_lt (Nat.lt_succ_self _))
  have I2 := Inv.made (C := C) I
  have r2 : Vals (V.ref (s.heap.objs.size + 1) :: (vs ++ dvs)) (Value.ref (s.heap.objs.size + 1) :: (us ++ ds)) := .cons rfl (r.append hd)
  have hl : (Value.ref (s.heap.objs.size + 1) :: us ++ ds).length = ps.length := by
    have e := r2.length
    rw [F.len _ _ _ _ hq] at e
    exact e.symm
  refine wpAny_call (make_map (f := f) I.kIn M.makes M.init (beq_iff_eq.mp M.fn) (codeAny_mono (F.run _ X.stack _ _ ⟨Value.ref (s.heap.objs.size + 1) :: us, []⟩ (Value.ref (s.heap.objs.size + 1) :: (us ++ ds)) _ _ E (hr.make C us [])
    (I2.env0.make C us []) (hb _ (Value.ref (s.heap.objs.size + 1) :: us) I2.kIn hl) r2 hq) fun r s' hq' => ?_))
  cases r with
  | error e => exact hx pins σ _ _ e s' I2 hq'
  | ok fl =>
    cases fl with
    | ret u =>
      obtain ⟨v, H', I3, rv, ev, q3⟩ := I2.after hq'
      subst ev
      exact ⟨rv, ⟨V.ref (s.heap.objs.size + 1), H', I3, rfl, q3⟩⟩
    | next => exact False.elim hq'
    | brk => exact False.elim hq'
    | cont => exact False.elim hq'
theorem pe_make (M : Mk X.K C f) (F : FnOk X.prog X.w X.K X.mg X.base CX k f fd ps sp) (hr : Room (k + 1) X.A) (hg : Gl X x) (hm : X.mg x = some (.ref C)) (hb : Binds X.K fd ps ds) (hd : Vals dvs ds) (hx : Passes CX X E)
    (ha : PA X (e :: es) t) (hdb : (x == ("__debug__" : Str)) = false := by decide) (he : starEach (e :: es) X.env = (false, eval e X.env) :: starEach es X.env := by rfl) (hpl : (backTo pos (starEach es X.env)).any (·.1) = false := by rfl) :
    PE X (.Call (.Name x p) (e :: es) [] pos) (tMake C sp dvs E t) := by
  intro pins s σ H Q I h
  refine wpAny_Call_Name_kw (ld_glob I hg hm ?_ hdb)
  refine PySem.W.callWith_K (h₀ := X.base) I.ok.mod.kin M.kp (thn (ha pos pins s σ H _ I h) fun us s1 ⟨vs, H1, I1, r, q⟩ => ⟨I1.kIn, ?_⟩) he hpl
  exact run_make M F hr hb hd hx I1 r q
end
def PK (X : Cx) (kws : List Keyword) (t : TA) : Prop :=
  ∀ (pos : Pos) (pins : List (Addr × Obj)) (s : Shared) (σ : St) (H : Hp) (Q : List V → Hp → Prop), Inv X pins σ H s → t σ H Q → wpAny (model X.prog X.w) X.A (evalAll ((backToKw pos (keywordEach kws X.env)).map (·.2))) (AP X pins σ Q) X.xe s
section
variable {X : Cx} {CX : CXT} {k : Nat} {f C : Addr} {fd : FuncData} {ps ks : List Str} {sp : Sp} {E : XK} {x m : Str} {p pos apos kpos : Pos} {e o : Expr} {es : List Expr} {kws : List Keyword} {te ta : TE} {t tk : TA} {nm : Option Str}
theorem pk_nil : PK X [] tNil := fun _ _ _ _ H Q I h => wpAny_evalAll_nil ⟨[], H, I, .nil, h⟩
theorem pk_cons (ha : PE X e te) (hr : PK X kws t) : PK X (⟨nm, e, kpos⟩ :: kws) (tCons te t) := by
  intro pos pins s σ H Q I h
  show wpAny _ _ (evalAll ((do let v ← eval e X.env; standAt pos; pure v) :: (backToKw pos (keywordEach kws X.env)).map (·.2))) _ _ s
  refine wpAny_evalAll_cons (wpAny_bind (thn (ha pins s σ H _ I h) fun u s1 ⟨x, H1, I1, r1, q1⟩ => wpAny_bind (wpAny_standAt (wpAny_pure ?_))))
  exact thn (hr pos pins s1 σ H1 _ I1 q1) fun us s2 ⟨xs, H2, I2, r2, q2⟩ => ⟨x :: xs, H2, I2, .cons r1 r2, q2⟩
structure KBinds (K : PySem.W.Frag) (fd : FuncData) (ps ks : List Str) (g : List Value → List Value → List Value) (gV : List V → List V → List V) : Prop where
  to : ∀ (s : Shared) (us ws : List Value), K.In s.heap → (g us ws).length = ps.length → BindsTo s fd ⟨us, ks.zip ws⟩ (ps.zip (g us ws))
  rel : ∀ {vs : List V} {us : List Value} {zs : List V} {ws : List Value}, Vals vs us → Vals zs ws → Vals (gV vs zs) (g us ws)
def tCallK (sp : Sp) (gV : List V → List V → List V) (E : XK) (t tk : TA) : TE := fun σ H Q => t σ H fun vs H1 => tk σ H1 fun zs H2 => sp (gV vs zs) H2 Q E
variable {g : List Value → List Value → List Value} {gV : List V → List V → List V}
end
structure FnScope (N P : List Str) (sc : Scope) : Prop where
  kind : sc.kind = .function
  co : sc.isCoroutine = false
  gen : sc.isGenerator = false
  nd : N.Nodup
  pre : N.take P.length = P
  par : ∀ x ∈ P, sc.names.lookup x = some .local ∨ sc.names.lookup x = some .cell
  nofree : ∀ y ∈ sc.names, y.2 ≠ .free
theorem bindL_out {kindOf : Str → Option NameKind} {x : Str} : ∀ {binds : List (Str × Value)} {m : Str → Option Value}, (∀ v, (x, v) ∉ binds) → bindL kindOf binds m x = m x
  | [], _, _ => rfl
  | (n, v) :: r, m, h => by
    unfold bindL
    rw [bindL_out fun w hw => h w (List.mem_cons_of_mem _ hw)]
    split
    · have : x ≠ n := by rintro rfl; exact h v List.mem_cons_self
      simp [this]
    · rfl
theorem bindC_out {kindOf : Str → Option NameKind} {x : Str} : ∀ {binds : List (Str × Value)} {m : Str → Option Value}, (∀ v, (x, v) ∉ binds) → bindC kindOf binds m x = m x
  | [], _, _ => rfl
  | (n, v) :: r, m, h => by
    unfold bindC
    rw [bindC_out fun w hw => h w (List.mem_cons_of_mem _ hw)]
    split
    · rfl
    · have : x ≠ n := by rintro rfl; exact h v List.mem_cons_self
      simp [this]
theorem bindL_get {kindOf : Str → Option NameKind} {x : Str} {v : Value} : ∀ {P : List Str} {vs : List Value} {i : Nat} {m : Str → Option Value}, P.Nodup → P[i]? = some x → vs[i]? = some v → kindOf x = some .local →
    bindL kindOf (P.zip vs) m x = some v
  | [], _, _, _, _, h, _, _ => by simp at h
  | _ :: _, [], _, _, _, _, h, _ => by simp at h
  | p :: P, w :: vs, 0, m, nd, h1, h2, hk => by
    simp at h1 h2; subst h1; subst h2
    show bindL kindOf ((p, w) :: P.zip vs) m p = _
    unfold bindL
    rw [bindL_out fun v hv => (List.nodup_cons.mp nd).1 (List.of_mem_zip hv).1, if_pos hk]
    simp
  | p :: P, w :: vs, i + 1, m, nd, h1, h2, hk => by
    show bindL kindOf ((p, w) :: P.zip vs) m x = _
    unfold bindL
    exact bindL_get (i := i) (List.nodup_cons.mp nd).2 (by simpa using h1) (by simpa using h2) hk
theorem bindC_get {kindOf : Str → Option NameKind} {x : Str} {v : Value} : ∀ {P : List Str} {vs : List Value} {i : Nat} {m : Str → Option Value}, P.Nodup → P[i]? = some x → vs[i]? = some v → kindOf x ≠ some .local →
    bindC kindOf (P.zip vs) m x = some v
  | [], _, _, _, _, h, _, _ => by simp at h
  | _ :: _, [], _, _, _, _, h, _ => by simp at h
  | p :: P, w :: vs, 0, m, nd, h1, h2, hk => by
    simp at h1 h2; subst h1; subst h2
    show bindC kindOf ((p, w) :: P.zip vs) m p = _
    unfold bindC
    rw [bindC_out fun v hv => (List.nodup_cons.mp nd).1 (List.of_mem_zip hv).1, if_neg hk]
    simp
  | p :: P, w :: vs, i + 1, m, nd, h1, h2, hk => by
    show bindC kindOf ((p, w) :: P.zip vs) m x = _
    unfold bindC
    exact bindC_get (i := i) (List.nodup_cons.mp nd).2 (by simpa using h1) (by simpa using h2) hk
def start (N : List Str) (vs : List V) : St := vs.map some ++ List.replicate (N.length - vs.length) none
def cxOf (CX : CXT) (P : Program) (w : World) (K : PySem.W.Frag) (mg : Str → Option Value) (base : Heap) (N : List Str) (qual : Str) (scope : Scope) (f : Addr) (cd : Value) (A : Around) (outer : List Env) (s : Shared) (H : Hp) (E : XK) : Cx where
  prog := P
  w := w
  K := K
  mg := mg
  base := base
  A := A.deeper (envOfC qual scope s.heap.objs.size f cd)
  N := N
  s₀ := s
  H₀ := H
  env := envOfC qual scope s.heap.objs.size f cd
  outer := outer
  stack := envOfC qual scope s.heap.objs.size f cd :: outer
  ex := []
  calm := true
  fn := fun _ => true
  pn := []
  xe := fun e s' => wpAny (model P w) (A.deeper (envOfC qual scope s.heap.objs.size f cd)) (leaving (envOfC qual scope s.heap.objs.size f cd) e) (fun _ s'' => CX outer H s E e s'') (fun e' s'' => CX outer H s E e' s'') s'
theorem cell_has {sc : Scope} {n : Nat} {x : Str} (h : sc.names.lookup x = some .cell) : ∃ c, (cellsFrom n sc.names []).lookup x = some c := by
  have q := PySem.W.cellsFrom_some sc.names n [] (.inl h)
  exact Option.isSome_iff_exists.mp q
theorem inv_start {CX : CXT} {P : Program} {w : World} {K : PySem.W.Frag} {mg : Str → Option Value} {base : Heap} {N ps : List Str} {qual : Str} {scope : Scope} {f : Addr} {cd : Value} {A : Around} {outer : List Env} {s s1 : Shared} {H : Hp} {E : XK} {us : List Value} {vs : List V}
    (S : FnScope N ps scope) (hd : A.handled = none) (e0 : Env0 P w K mg base A outer s H) (hl : vs.length = ps.length) (r : Vals vs us)
    (x : InCallC s s.heap.objs.size (bindL (envOfC qual scope s.heap.objs.size f cd).kindOf (ps.zip us) fun _ => none) (cellsFrom (s.heap.objs.size + 1) scope.names []) (bindC (envOfC qual scope s.heap.objs.size f cd).kindOf (ps.zip us) fun _ => none) s1) :
    Inv (cxOf CX P w K mg base N qual scope f cd A outer s H E) [] (start N vs) H s1 := by
  have hpl : ps.length ≤ N.length := by have := congrArg List.length S.pre; rw [List.length_take] at this; omega
  obtain ⟨h1, tk, rfl, hk⟩ := x.done
  have noA : ∀ b : Addr, b ∉ (cxOf CX P w K mg base N qual scope f cd A outer s H E).ex := fun b z => absurd (show b ∈ ([] : List Addr) from z) (by simp)
  refine ⟨⟨e0.mod, S.kind, rfl, rfl, Nat.le_refl _, fun y z c h1 h2 => ?_, fun y hy => ?_, fun y c _ h => ?_, fun _ => hd, Around.frames_deeper e0.frames, .inr ⟨rfl, rfl⟩, fun b z => absurd z (noA b), e0.bs, e0.bsz, fun b _ _ => noA b, fun b z => absurd z (noA b), e0.funs, e0.frf⟩,
    rfl, e0.bare, Un.kept hk, ⟨_, x.toInCall.ns, fun i y v h1 h2 h3 => ?_⟩, fun y c h => ⟨_, x.cell y c h⟩, e0.hok.fresh (Nat.le_refl _), fun y c h => ?_, fun p hp => absurd (show p ∈ ([] : List (Addr × Obj)) from hp) (by simp), e0.hok.kept hk, ?_⟩
  · exact name_of_addr x.apart (PySem.mem_of_lookup h1) (PySem.mem_of_lookup h2)
  · have hy : scope.names.lookup y = some .cell ∨ scope.names.lookup y = some .free := hy
    rcases hy with hy | hy
    · exact cell_has hy
    · exact absurd rfl (S.nofree _ (PySem.mem_of_lookup hy))
  · exact Nat.le_of_lt (x.above y c (PySem.mem_of_lookup h))
  · have hi : i < vs.length := by
      unfold start at h2
      by_cases hi : i < vs.length
      · exact hi
      · rw [List.getElem?_append_right (by simpa using hi)] at h2
        rw [List.getElem?_replicate] at h2
        split at h2 <;> cases h2
    have ha : vs[i]? = some v := by
      unfold start at h2
      rw [List.getElem?_append_left (by simpa using hi), List.getElem?_map] at h2
      cases e : vs[i]? with
      | none => rw [e] at h2; cases h2
      | some a => rw [e] at h2; cases h2; rfl
    obtain ⟨u, hu, rv⟩ := r.get ha
    have hp : ps[i]? = some y := by
      rw [← S.pre, List.getElem?_take_of_lt (by omega)]; exact h1
    have ndP : ps.Nodup := by rw [← S.pre]; exact S.nd.sublist (List.take_sublist _ _)
    refine ⟨u, rv, ?_⟩
    rcases S.par y (List.mem_of_getElem? hp) with k | k
    · exact .inl ⟨k, bindL_get ndP hp hu k⟩
    · obtain ⟨c, e⟩ := cell_has (n := s.heap.objs.size + 1) k
      refine .inr ⟨.inl k, c, e, ?_⟩
      have q := x.cell y c e
      rw [bindC_get ndP hp hu (by show scope.names.lookup y ≠ _; rw [k]; decide)] at q
      exact q
  · exact e0.hok.fresh (Nat.le_of_lt (x.above y c (PySem.mem_of_lookup h)))
  · unfold start
    show _ = N.length
    rw [List.length_append, List.length_map, List.length_replicate]
    omega
theorem fn_of {CX : CXT} {P : Program} {w : World} {K : PySem.W.Frag} {mg : Str → Option Value} {base : Heap} {k : Nat} {f : Addr} {name qual : Str} {params : Arguments} {body : List Stmt} {scope : Scope} {dV kV doc pm cdv ct oc : Value} {an od : Option Addr}
    {osl : Array (Option Value)} {N ps : List Str} {sp : Sp} (lk : K.lookup f = some ⟨oc, od, .func (PySem.W.fnOf name qual params body scope dV kV doc pm an cdv ct), osl⟩) (hcd : PySem.W.codeIn K cdv qual = true) (S : FnScope N ps scope)
    (len : ∀ vs H Q E, sp vs H Q E → vs.length = ps.length)
    (hbody : ∀ (A : Around) (outer : List Env) (s : Shared) (H : Hp) (vs : List V) (Q : VK) (E : XK), Room k (A.deeper (envOfC qual scope s.heap.objs.size f cdv)) → sp vs H Q E →
      ∃ t, PSs (cxOf CX P w K mg base N qual scope f cdv A outer s H E) body t ∧ t { nx := fun _ H' => Q .non H', rt := Q } (start N vs) H) :
    FnOk P w K mg base CX (k + 1) f (PySem.W.fnOf name qual params body scope dV kV doc pm an cdv ct) ps sp := by
  refine ⟨len, fun A outer s H args us vs Q E hr e0 hb r hsp => ?_⟩
  have hl := len _ _ _ _ hsp
  have KX : K.In s.heap := e0.mod.kin.keeps fun b o e => (e0.bs b o e).1
  have lim : s.heap.NoLimit := e0.mod.nolimit.keeps fun b o e => (e0.bs b o e).1
  have hkind : ∀ y ∈ ps.zip us, scope.names.lookup y.1 = some .local ∨ (scope.names.lookup y.1 = some .cell ∧ ((cellsFrom (s.heap.objs.size + 1) scope.names []).lookup y.1).isSome = true) := fun ⟨n, v⟩ hy => by
    rcases S.par n (List.of_mem_zip hy).1 with q | q
    · exact .inl q
    · exact .inr ⟨q, PySem.W.cellsFrom_some _ _ _ (.inl q)⟩
  refine codeAny_call_function hr.depth (KX _ _ lk) rfl S.co S.gen rfl (PySem.W.codeRec_of KX hcd) (hb _ _ _ _ ?_)
  refine wpAny_newFunctionEnv_cells S.kind hkind fun env he s1 x => ?_
  subst he
  refine ⟨lim.keeps x.toInCall.keep, codeAny_func ?_⟩
  obtain ⟨t, ht, hq⟩ := hbody A outer s H vs Q E (hr.deeper _) hsp
  have I : Inv (cxOf CX P w K mg base N qual scope f cdv A outer s H E) [] (start N vs) H s1 := inv_start S hr.hd e0 hl r x
  refine wpAny_mono (ht [] s1 (start N vs) H _ I hq) (fun fl s' hs => ?_) fun e s' hs => hs
  have fin : ∀ {σ' : St} {H' : Hp} {v : V} {u : Value}, Inv (cxOf CX P w K mg base N qual scope f cdv A outer s H E) [] σ' H' s' → RelV v u → Q v H' → CE outer P w H s Q u s' :=
    fun {σ' H' v u} J rv q => ⟨v, H', J.os, J.bare, J.base, J.hok, rv, q⟩
  cases fl with
  | ret u =>
    obtain ⟨v, σ', H', J, rv, q⟩ := hs
    exact fin J rv q
  | next =>
    obtain ⟨σ', H', J, q⟩ := hs
    exact fin (v := V.non) (u := Value.none) J rfl q
  | brk =>
    obtain ⟨_, _, _, q⟩ := hs
    exact False.elim q
  | cont =>
    obtain ⟨_, _, _, q⟩ := hs
    exact False.elim q
end L2
namespace L2
open PySem PySem.Spec PyProof.Rows
section
variable {X : Cx} {x : Str} {p pos : Pos} {e : Expr} {es : List Expr} {t : TA} {id T : String} {r : List V → Hp → VK → Prop}
def tCB (r : List V → Hp → VK → Prop) (t : TA) : TE := fun σ H Q => t σ H fun vs H1 => r vs H1 Q
theorem pe_callB (hc : CallR X (.builtin id) r) (hg : Gl X x) (hm : X.mg x = none) (hv : bootBuiltins x = some (.builtin id)) (ha : PA X (e :: es) t) (hn : x ≠ "__name__" := by decide) (hdb : (x == ("__debug__" : Str)) = false := by decide)
    (he : starEach (e :: es) X.env = (false, eval e X.env) :: starEach es X.env := by rfl) (hpl : (backTo pos (starEach es X.env)).any (·.1) = false := by rfl) : PE X (.Call (.Name x p) (e :: es) [] pos) (tCB r t) := by
  intro pins s σ H Q I h
  refine wpAny_Call_Name_kw (ld_blt I hg hm hv ?_ hn hdb)
  exact PyProof.Rows.callWith_builtin1 (thn (ha pos pins s σ H _ I h) fun us s1 ⟨vs, H1, I1, r1, q1⟩ => hc pins s1 σ H1 vs us Q I1 r1 q1) he hpl
theorem pe_callTy (hc : CallR X (.type T) r) (hg : Gl X x) (hm : X.mg x = none) (hv : bootBuiltins x = some (.type T)) (ha : PA X (e :: es) t) (hn : x ≠ "__name__" := by decide) (hdb : (x == ("__debug__" : Str)) = false := by decide)
    (he : starEach (e :: es) X.env = (false, eval e X.env) :: starEach es X.env := by rfl) (hpl : (backTo pos (starEach es X.env)).any (·.1) = false := by rfl) : PE X (.Call (.Name x p) (e :: es) [] pos) (tCB r t) := by
  intro pins s σ H Q I h
  refine wpAny_Call_Name_kw (ld_blt I hg hm hv ?_ hn hdb)
  exact PyProof.Rows.callWith_type1 (thn (ha pos pins s σ H _ I h) fun us s1 ⟨vs, H1, I1, r1, q1⟩ => hc pins s1 σ H1 vs us Q I1 r1 q1) he hpl
end
end L2
namespace HT
open PySem PyProof.Rows
def lexLt : List Int → List Int → Bool
  | [], [] => false
  | [], _ :: _ => true
  | _ :: _, [] => false
  | x :: xs, y :: ys => if x = y then lexLt xs ys else decide (x < y)
section
open PySem.SeqAt
open PySem.AutoSeq1 (wpAny_loadPart')
open PySem.MeetsSeq PySem.MeetsSeq2 PySem.MeetsSeq3
end
section
variable {prog : Program} {w : World} {A : Around} {E : Value → Shared → Prop} {s : Shared}
def sIx (n d : Nat) : Option Int → Nat
  | none => d
  | some v => if v < 0 then (v + (n : Int)).toNat else min v.toNat n
theorem sIx_none (n d : Nat) : sIx n d none = d := rfl
theorem sIx_nat (n d k : Nat) : sIx n d (some (k : Int)) = min k n := by
  show (if (k : Int) < 0 then ((k : Int) + (n : Int)).toNat else min (k : Int).toNat n) = min k n
  rw [if_neg (by omega), Int.toNat_natCast]
end
end HT
namespace L2
open PySem PySem.Spec PyProof.Rows
abbrev TO := St → Hp → (Option Int → Hp → Prop) → Prop
def PO (X : Cx) (e : Option Expr) (t : TO) : Prop :=
  ∀ (pins : List (Addr × Obj)) (s : Shared) (σ : St) (H : Hp) (Q : Option Int → Hp → Prop), Inv X pins σ H s → t σ H Q →
    wpAny (model X.prog X.w) X.A (evalPart e X.env) (fun u s' => ∃ o H', Inv X pins σ H' s' ∧ IsPart u o ∧ Q o H') X.xe s
def tNoPart : TO := fun _ H Q => Q none H
def tPart (t : TE) : TO := fun σ H Q => t σ H fun x H1 => ∃ i, x = .int i ∧ Q (some i) H1
section
variable {X : Cx} {e : Expr} {te : TE} {lo hi : Option Expr} {tl th : TO} {pos p2 : Pos}
theorem po_none : PO X none tNoPart := by
  intro pins s σ H Q I h
  rw [evalPart_none]
  exact wpAny_pure ⟨none, H, I, .none, h⟩
theorem po_some (h : PE X e te) : PO X (some e) (tPart te) := by
  intro pins s σ H Q I hw
  rw [evalPart_some]
  refine thn (h pins s σ H _ I hw) fun u s1 ⟨x, H1, I1, r1, q1⟩ => ?_
  obtain ⟨i, rfl, q⟩ := q1
  obtain ⟨t, rfl⟩ := r1
  exact ⟨some i, H1, I1, .int i t, q⟩
def SlR (X : Cx) (r : V → Option Int → Option Int → Hp → VK → Prop) : Prop :=
  ∀ (pins : List (Addr × Obj)) (s : Shared) (σ : St) (H : Hp) (x : V) (v vl vu : Value) (lo hi : Option Int) (sl : Addr) (Q : VK), Inv X pins σ H s → RelV x v → s.heap.IsSliceOf sl vl vu .none → IsPart vl lo → IsPart vu hi → r x lo hi H Q →
    ∃ T id, typeLookup (.type T) "__getitem__" = pure (some (.builtin id)) ∧ s.TypeIs v T ∧ wpAny (model X.prog X.w) X.A (getItem v (.ref sl)) (EP X pins σ Q) X.xe s
theorem SlR.or {r r' : V → Option Int → Option Int → Hp → VK → Prop} (h : SlR X r) (h' : SlR X r') : SlR X (fun x lo hi H Q => r x lo hi H Q ∨ r' x lo hi H Q) := by
  intro pins s σ H x v vl vu lo hi sl Q I rx hs pl pu q
  rcases q with q | q
  · exact h pins s σ H x v vl vu lo hi sl Q I rx hs pl pu q
  · exact h' pins s σ H x v vl vu lo hi sl Q I rx hs pl pu q
def tSl (r : V → Option Int → Option Int → Hp → VK → Prop) (te : TE) (tl th : TO) : TE := fun σ H Q => te σ H fun x H1 => tl σ H1 fun l H2 => th σ H2 fun u H3 => r x l u H3 Q
theorem pe_slice {r : V → Option Int → Option Int → Hp → VK → Prop} (hr : SlR X r) (he : PE X e te) (hl : PO X lo tl) (hu : PO X hi th) : PE X (.Subscript e (.Slice lo hi none p2) pos) (tSl r te tl th) := by
  intro pins s σ H Q I h
  refine Subscript_ (thn (he pins s σ H _ I h) fun v s1 ⟨x, H1, I1, r1, q1⟩ => ?_)
  refine wpAny_Slice (thn (hl pins s1 σ H1 _ I1 q1) fun vl s2 ⟨l, H2, I2, pl, q2⟩ => thn (hu pins s2 σ H2 _ I2 q2) fun vu s3 ⟨u, H3, I3, pu, q3⟩ => ?_)
  rw [evalPart_none]
  refine wpAny_pure ?_
  have I4 : Inv X pins σ H3 { s3 with heap := s3.heap.push { cls := .type "slice", data := .fields #[vl, vu, .none] } } := I3.kept (t' := s3.toks) fun b ob q => Heap.get?_push_of_some _ q
  obtain ⟨T, id, hT, ht, hg⟩ := hr pins { s3 with heap := s3.heap.push { cls := .type "slice", data := .fields #[vl, vu, .none] } } σ H3 x v vl vu l u s3.heap.objs.size Q I4 r1 (Heap.IsSliceOf.new ..) pl pu q3
  show wpAny (model X.prog X.w) X.A (subscriptTail e (.Slice lo hi none p2) v (.ref s3.heap.objs.size)) (EP X pins σ Q) X.xe { s3 with heap := s3.heap.push { cls := .type "slice", data := .fields #[vl, vu, .none] } }
  exact tail_any (ops := [.ref s3.heap.objs.size, v]) ht hT hg (by with_unfolding_all rfl)
def cutV (xs : List V) (lo hi : Option Int) : List V := (xs.drop (HT.sIx xs.length 0 lo)).take (HT.sIx xs.length xs.length hi - HT.sIx xs.length 0 lo)
theorem cutV_length (xs : List V) (lo hi : Option Int) : (cutV xs lo hi).length ≤ xs.length := by
  unfold cutV
  rw [List.length_take, List.length_drop]
  omega
def rSlT (K : PySem.W.Frag) : V → Option Int → Option Int → Hp → VK → Prop := fun x lo hi H Q => ∃ a xs, x = .ref a ∧ SqT K H a xs ∧
  ¬ (HT.sIx xs.length 0 lo = 0 ∧ HT.sIx xs.length xs.length hi = xs.length) ∧ ∀ p, H p = none → Q (.ref p) (upd H p (.tup (cutV xs lo hi)))
def rLtT (K : PySem.W.Frag) : R2 := fun x y H Q => ∃ a b ns ms, x = .ref a ∧ y = .ref b ∧ SqT K H a (ns.map V.int) ∧ SqT K H b (ms.map V.int) ∧ Q (.bl (HT.lexLt ns ms)) H
def rCatT (K : PySem.W.Frag) : R2 := fun x y H Q => ∃ a b xs ys, x = .ref a ∧ y = .ref b ∧ SqT K H a xs ∧ SqT K H b ys ∧ xs ≠ [] ∧ xs.length + ys.length ≤ sizeLine ∧
  (ys = [] → Q (.ref a) H) ∧ (ys ≠ [] → ∀ p, H p = none → Q (.ref p) (upd H p (.tup (xs ++ ys))))
end
end L2
namespace L2
open PySem PySem.Spec PyProof.Rows
def ixN (n : Nat) (i : Int) : Option Nat := if 0 ≤ i then (if i < n then some i.toNat else none) else if -(n : Int) ≤ i then some (i + n).toNat else none
def atI {α : Type} (xs : List α) (i : Int) : Option α := (ixN xs.length i).bind fun j => xs[j]?
theorem ixN_seq {n : Nat} {i : Int} {j : Nat} (h : ixN n i = some j) : seqIndex? i n = some j ∧ j < n ∧ -(n : Int) ≤ i ∧ i < n := by
  unfold ixN at h
  by_cases h0 : 0 ≤ i
  · rw [if_pos h0] at h
    by_cases h1 : i < n
    · rw [if_pos h1] at h
      have e : i.toNat = j := Option.some.inj h
      exact ⟨by rw [seqIndex_of h0 h1, e], by omega, by omega, h1⟩
    · rw [if_neg h1] at h; cases h
  · rw [if_neg h0] at h
    by_cases h1 : -(n : Int) ≤ i
    · rw [if_pos h1] at h
      have e : (i + n).toNat = j := Option.some.inj h
      exact ⟨by rw [seqIndex_neg (by omega) h1, e], by omega, h1, by omega⟩
    · rw [if_neg h1] at h; cases h
theorem atI_get {α : Type} {xs : List α} {i : Int} {v : α} (h : atI xs i = some v) : ∃ j, seqIndex? i xs.length = some j ∧ xs[j]? = some v ∧ j < xs.length ∧ -(xs.length : Int) ≤ i ∧ i < xs.length := by
  unfold atI at h
  cases e : ixN xs.length i with
  | none => rw [e] at h; cases h
  | some j =>
    rw [e] at h
    obtain ⟨h1, h2, h3, h4⟩ := ixN_seq e
    exact ⟨j, h1, h, h2, h3, h4⟩
theorem atI_nat {α : Type} {xs : List α} {j : Nat} {v : α} (h : xs[j]? = some v) : atI xs (j : Int) = some v := by
  have hj : j < xs.length := (List.getElem?_eq_some_iff.mp h).1
  have e : ixN xs.length (j : Int) = some j := by
    unfold ixN
    rw [if_pos (by omega), if_pos (by omega)]; simp
  unfold atI; rw [e]; exact h
def PlainIx (b : Expr) : Prop := ∀ o i, subscripted b false o i = operate [o, i] (getItem o i)
def IxR (X : Cx) (r : R2) : Prop :=
  ∀ (value slice : Expr) (pins : List (Addr × Obj)) (s : Shared) (σ : St) (H : Hp) (x y : V) (v u : Value) (Q : VK), Inv X pins σ H s → RelV x v → RelV y u → r x y H Q →
    subscripted slice false v u = operate [v, u] (getItem v u) → wpAny (model X.prog X.w) X.A (subscriptTail value slice v u) (EP X pins σ Q) X.xe s
def MtR (X : Cx) (id : String) (r : V → List V → Hp → VK → Prop) : Prop :=
  ∀ (pins : List (Addr × Obj)) (s : Shared) (σ : St) (H : Hp) (x : V) (xs : List V) (v : Value) (us : List Value) (Q : VK), Inv X pins σ H s → RelV x v → Vals xs us → r x xs H Q →
    wpAny (model X.prog X.w) X.A (call (.builtin id) (v :: us)) (EP X pins σ Q) X.xe s
section
variable {X : Cx} {a b : Expr} {ta tb : TE} {pos : Pos}
theorem IxR.or {r r' : R2} (h : IxR X r) (h' : IxR X r') : IxR X (fun x y H Q => r x y H Q ∨ r' x y H Q) := by
  intro value slice pins s σ H x y v u Q I rx ry q hs
  rcases q with q | q
  · exact h value slice pins s σ H x y v u Q I rx ry q hs
  · exact h' value slice pins s σ H x y v u Q I rx ry q hs
theorem MtR.or {id : String} {r r' : V → List V → Hp → VK → Prop} (h : MtR X id r) (h' : MtR X id r') : MtR X id (fun x xs H Q => r x xs H Q ∨ r' x xs H Q) := by
  intro pins s σ H x xs v us Q I rx rs q
  rcases q with q | q
  · exact h pins s σ H x xs v us Q I rx rs q
  · exact h' pins s σ H x xs v us Q I rx rs q
theorem pe_ix {r : R2} (hr : IxR X r) (ha : PE X a ta) (hb : PE X b tb) (hs : PlainIx b) : PE X (.Subscript a b pos) (tOp r ta tb) := by
  intro pins s σ H Q I h
  exact Subscript_ (binT ha hb I h fun v u s2 x y H2 I2 rx ry q => hr a b pins s2 σ H2 x y v u Q I2 rx ry q (hs _ _))
def rIxL (K : PySem.W.Frag) : R2 := fun x y H Q => ∃ p xs i v, x = .ref p ∧ y = .int i ∧ SqL K H p xs ∧ atI xs i = some v ∧ Q v H
def rIxT (K : PySem.W.Frag) : R2 := fun x y H Q => ∃ p xs i v, x = .ref p ∧ y = .int i ∧ SqT K H p xs ∧ atI xs i = some v ∧ Q v H
def rIxS : R2 := fun x y H Q => ∃ z i c, x = .str z ∧ y = .int i ∧ z.length ≤ sizeLine ∧ atI z.cps.toList i = some c ∧ Q (.str ⟨#[c]⟩) H
theorem ix_list : IxR X (rIxL X.K) := by
  intro value slice pins s σ H x y v u Q I rx ry h hs
  obtain ⟨p, xs, i, z, rfl, rfl, hq, he, q⟩ := h
  cases rx
  obtain ⟨t, rfl⟩ := ry
  obtain ⟨its, r, pl, hz⟩ := I.list hq
  obtain ⟨j, h1, h2, h3, h4, h5⟩ := atI_get he
  obtain ⟨w, ew, rw'⟩ := r.get h2
  have hl := r.length
  have hn := line63
  have fin : EP X pins σ Q w s := ⟨z, H, I, rw', q⟩
  by_cases h0 : 0 ≤ i
  · have hj : i.toNat = j := by
      rw [seqIndex_of h0 h5] at h1
      exact Option.some.inj h1
    exact item_listR pl.isList h0 (by omega) (by rw [hj]; simpa using ew) fin hs
  · have hj : (i + (its.toArray.size : Int)).toNat = j := by
      rw [seqIndex_neg (by omega) h4] at h1
      rw [List.size_toArray, ← hl]
      exact Option.some.inj h1
    exact subscriptTail_builtinR (x := w) pl.isList.typeIs slot_list_getitem.lookup
      (wpAny_getItem_list_neg (Q := fun r s' => r = w ∧ EP X pins σ Q r s') pl.isList (by omega) (by rw [List.size_toArray] <;> omega) (by omega) (by rw [hj]; simpa using ew) ⟨rfl, fin⟩) hs
theorem ix_tup : IxR X (rIxT X.K) := by
  intro value slice pins s σ H x y v u Q I rx ry h hs
  obtain ⟨p, xs, i, z, rfl, rfl, hq, he, q⟩ := h
  cases rx
  obtain ⟨t, rfl⟩ := ry
  obtain ⟨its, r, pl, hz⟩ := I.tuple hq
  obtain ⟨j, h1, h2, h3, h4, h5⟩ := atI_get he
  obtain ⟨w, ew, rw'⟩ := r.get h2
  have hl := r.length
  have hn := line63
  have fin : EP X pins σ Q w s := ⟨z, H, I, rw', q⟩
  exact subscriptTail_builtinR (x := w) pl.typeIs slot_tuple_getitem.lookup
    (getItem_tuple (j := j) (Q := fun r s' => r = w ∧ EP X pins σ Q r s') pl (by omega) (by omega) (by rw [List.size_toArray, ← hl]; exact h1) (by simpa using ew) ⟨rfl, fin⟩) hs
theorem ix_str : IxR X rIxS := by
  intro value slice pins s σ H x y v u Q I rx ry h hs
  obtain ⟨z, i, c, rfl, rfl, hz, he, q⟩ := h
  obtain ⟨t, rfl⟩ := rx
  obtain ⟨t', rfl⟩ := ry
  obtain ⟨j, h1, h2, h3, h4, h5⟩ := atI_get he
  have hl : z.cps.toList.length = z.length := by simp [Str.length]
  rw [hl] at h1 h4 h5
  have hn := line63
  exact tail_any (typeIs_str s z t) slot_str_getitem.lookup (getItem_str (c := c) (by
    have e1 : decide (i < -(2 ^ 63 : Int)) = false := decide_eq_false (by omega)
    have e2 : decide (i ≥ 2 ^ 63) = false := decide_eq_false (by omega)
    rw [e1, e2, Bool.or_false]) (by rw [h1]; simpa using h2) ⟨.str ⟨#[c]⟩, H, I.tok _, ⟨_, rfl⟩, q⟩) hs
def rIx (K : PySem.W.Frag) : R2 := fun x y H Q => rIxL K x y H Q ∨ rIxT K x y H Q ∨ rIxS x y H Q
theorem mapSeq_set (its : List Value) (n j : Nat) (u : Value) : Obj.mapSeq (·.setIfInBounds j u) { cls := .type "list", data := .seq its.toArray n } = { cls := .type "list", data := .seq (its.set j u).toArray n } := by
  simp [Obj.mapSeq]
theorem Inv.lst {pins : List (Addr × Obj)} {σ : St} {H : Hp} {s : Shared} {p : Addr} {xs : List V} (I : Inv X pins σ H s) (h : H p = some (.lst xs)) :
    ∃ (its : List Value) (n : Nat), Vals xs its ∧ s.heap.get? p = some { cls := .type "list", data := .seq its.toArray n } ∧ xs.length ≤ sizeLine := by
  obtain ⟨z, its, n, r, e⟩ := I.hok p _ h
  exact ⟨its, n, r, e, z⟩
theorem Inv.lstUpd {pins : List (Addr × Obj)} {σ : St} {H : Hp} {s : Shared} {p : Addr} {xs ys : List V} {its its' : List Value} {n n' : Nat} {f : Obj → Obj} (I : Inv X pins σ H s) (h : H p = some (.lst xs))
    (ho : s.heap.get? p = some { cls := .type "list", data := .seq its.toArray n }) (hf : f { cls := .type "list", data := .seq its.toArray n } = { cls := .type "list", data := .seq its'.toArray n' }) (r : Vals ys its') (hz : ys.length ≤ sizeLine) (t : Nat) :
    Inv X pins σ (upd H p (.lst ys)) { s with heap := s.heap.update p f, toks := t } := by
  have e : (s.heap.update p f).get? p = some { cls := .type "list", data := .seq its'.toArray n' } := by
    rw [Heap.get?_update_self f ho (by rw [hf] <;> rfl), hf]
  refine I.write (x := p) (e := p) (by rw [h]; trivial) (.inl rfl) (fun b u hb q => (Heap.get?_update_other _ _ (Ne.symm hb)).trans q) ⟨_, e⟩ ?_
  exact ⟨hz, its', n', r, e⟩
def rSetL : V → V → V → Hp → (Hp → Prop) → Prop := fun o i v H Q => ∃ p xs k j, o = .ref p ∧ i = .int k ∧ H p = some (.lst xs) ∧ ixN xs.length k = some j ∧ Q (upd H p (.lst (xs.set j v)))
theorem set_list : PSet X rSetL := by
  intro pins s σ H o i v ov iv u Q I ro ri rv h
  obtain ⟨p, xs, k, j, rfl, rfl, hp, hj, q⟩ := h
  cases ro
  obtain ⟨t, rfl⟩ := ri
  obtain ⟨its, n, r, ho, hz⟩ := I.lst hp
  obtain ⟨h1, h2, h3, h4⟩ := ixN_seq hj
  have hl := r.length
  have hn := line63
  have I' : Inv X pins σ (upd H p (.lst (xs.set j v))) { s with heap := s.heap.update p (Obj.mapSeq (·.setIfInBounds j u)) } :=
    I.lstUpd hp ho (mapSeq_set its n j u) (r.set rv j) (by rw [List.length_set]; exact hz) s.toks
  by_cases h0 : 0 ≤ k
  · have hk : k.toNat = j := by
      rw [seqIndex_of h0 h4] at h1
      exact Option.some.inj h1
    exact PySem.W.ki_setAt ho h0 (by omega) (by rw [List.size_toArray, ← hl]; exact h4) (by rw [hk]; exact ⟨_, I', q⟩)
  · have hk : (k + (its.toArray.size : Int)).toNat = j := by
      rw [seqIndex_neg (by omega) h3] at h1
      rw [List.size_toArray, ← hl]
      exact Option.some.inj h1
    exact PySem.W.ki_setBack ho (by omega) (by rw [List.size_toArray, ← hl]; exact h3) (by omega) (by rw [hk]; exact ⟨_, I', q⟩)
theorem slice_bounds (lo hi : Option Int) (n : Nat) : (sliceBounds lo hi none n).1 = ((HT.sIx n 0 lo : Nat) : Int) ∧ (sliceBounds lo hi none n).2.1 = ((HT.sIx n n hi : Nat) : Int) ∧ (sliceBounds lo hi none n).2.2 = 1 := by
  refine ⟨?_, ?_, rfl⟩
  · cases lo with
    | none => simp [sliceBounds, HT.sIx]
    | some i =>
      simp only [sliceBounds, HT.sIx, Option.getD_none, show (1 : Int) > 0 by decide, if_true]
      by_cases h : i < 0
      · simp only [h, if_true] <;> omega
      · simp only [h, if_false] <;> omega
  · cases hi with
    | none => simp [sliceBounds, HT.sIx]
    | some i =>
      simp only [sliceBounds, HT.sIx, Option.getD_none, show (1 : Int) > 0 by decide, if_true]
      by_cases h : i < 0
      · simp only [h, if_true] <;> omega
      · simp only [h, if_false] <;> omega
theorem slicePick_cut (its : List Value) (lo hi : Option Int) : slicePick its.toArray lo hi none = ((its.drop (HT.sIx its.length 0 lo)).take (HT.sIx its.length its.length hi - HT.sIx its.length 0 lo)).toArray := by
  obtain ⟨h1, h2, h3⟩ := slice_bounds lo hi its.toArray.size
  unfold slicePick
  rw [h1, h2, h3]
  simp only [sliceRange_one, pick_run, List.size_toArray] <;> rfl
def rSlL (K : PySem.W.Frag) : V → Option Int → Option Int → Hp → VK → Prop := fun x lo hi H Q => ∃ a xs, x = .ref a ∧ SqL K H a xs ∧ ∀ p, H p = none → Q (.ref p) (upd H p (.lst (cutV xs lo hi)))
theorem sl_list : SlR X (rSlL X.K) := by
  intro pins s σ H x v vl vu lo hi sl Q I rx hs pl pu h
  obtain ⟨a, xs, rfl, hx, q⟩ := h
  cases rx
  obtain ⟨its, r, ht, hz⟩ := I.list hx
  have hlen := r.length
  refine ⟨"list", _, slot_list_getitem.lookup, ht.isList.typeIs, ?_⟩
  refine wpAny_getItem_list_slice ht.isList hs pl pu .none (by simp) ?_ (by rw [List.size_toArray] <;> omega)
  rw [slicePick_cut, ← hlen]
  refine ⟨.ref s.heap.objs.size, _, I.laid (t' := s.toks) (o := .lst (cutV xs lo hi)) (fun b ob q => Heap.get?_push_of_some _ q) (Nat.le_refl _) ?_, rfl, q _ (I.hok.fresh (Nat.le_refl _))⟩
  exact ⟨Nat.le_trans (cutV_length xs lo hi) hz, _, 0, (r.drop (HT.sIx xs.length 0 lo)).take (HT.sIx xs.length xs.length hi - HT.sIx xs.length 0 lo), Heap.get?_push_size _ rfl⟩
def flatV : V → Bool
  | .non => true
  | .bl _ => true
  | .int _ => true
  | .str _ => true
  | _ => false
def eqV : V → V → Bool
  | .non, .non => true
  | .bl a, .bl b => a == b
  | .bl a, .int b => (if a then 1 else 0) == b
  | .int a, .bl b => a == (if b then 1 else 0)
  | .int a, .int b => a == b
  | .str a, .str b => a == b
  | _, _ => false
theorem eqAt_V {A : Around} {s : Shared} {y x : V} {u v : Value} (ry : RelV y u) (rx : RelV x v) (fy : flatV y = true) (fx : flatV x = true) : SeqAt.EqAt A s u v (eqV y x) := by
  cases y with
  | non =>
    cases ry
    cases x with
    | non => cases rx; exact SeqAt.EqAt.same _
    | bl b => cases rx; exact SeqAt.EqAt.none_bool b
    | int b => obtain ⟨t, rfl⟩ := rx; exact SeqAt.EqAt.none_int b t
    | str b => obtain ⟨t, rfl⟩ := rx; exact SeqAt.EqAt.none_str b t
    | _ => exact absurd (show false = true from fx) Bool.false_ne_true
  | bl a =>
    cases ry
    cases x with
    | non => cases rx; exact SeqAt.EqAt.bool_none a
    | bl b => cases rx; exact SeqAt.EqAt.bool_bool a b
    | int b => obtain ⟨t, rfl⟩ := rx; exact SeqAt.EqAt.bool_int a b t
    | str b => obtain ⟨t, rfl⟩ := rx; exact SeqAt.EqAt.bool_str a b t
    | _ => exact absurd (show false = true from fx) Bool.false_ne_true
  | int a =>
    obtain ⟨t', rfl⟩ := ry
    cases x with
    | non => cases rx; exact SeqAt.EqAt.int_none a t'
    | bl b => cases rx; exact SeqAt.EqAt.int_bool a t' b
    | int b => obtain ⟨t, rfl⟩ := rx; exact SeqAt.EqAt.int_int a t' b t
    | str b => obtain ⟨t, rfl⟩ := rx; exact SeqAt.EqAt.int_str a t' b t
    | _ => exact absurd (show false = true from fx) Bool.false_ne_true
  | str a =>
    obtain ⟨t', rfl⟩ := ry
    cases x with
    | non => cases rx; exact SeqAt.EqAt.str_none a t'
    | bl b => cases rx; exact SeqAt.EqAt.str_bool a t' b
    | int b => obtain ⟨t, rfl⟩ := rx; exact SeqAt.EqAt.str_int a t' b t
    | str b => obtain ⟨t, rfl⟩ := rx; exact SeqAt.EqAt.str_str a t' b t
    | _ => exact absurd (show false = true from fx) Bool.false_ne_true
  | _ => exact absurd (show false = true from fy) Bool.false_ne_true
def eqU (x : V) (u : Value) : Bool := match u with
  | .none => eqV .non x
  | .bool b => eqV (.bl b) x
  | .int i _ => eqV (.int i) x
  | .str z _ => eqV (.str z) x
  | _ => false
theorem eqU_of {x y : V} {u : Value} (r : RelV y u) (f : flatV y = true) : eqU x u = eqV y x := by
  cases y with
  | non => cases r; rfl
  | bl b => cases r; rfl
  | int i => obtain ⟨t, rfl⟩ := r; rfl
  | str z => obtain ⟨t, rfl⟩ := r; rfl
  | _ => exact absurd (show false = true from f) Bool.false_ne_true
theorem any_eqU {x : V} : ∀ {xs : List V} {us : List Value}, Vals xs us → xs.all flatV = true → us.any (eqU x) = xs.any fun y => eqV y x
  | _, _, .nil, _ => rfl
  | y :: xs, u :: us, .cons r t, f => by
    rw [List.all_cons, Bool.and_eq_true] at f
    rw [List.any_cons, List.any_cons, eqU_of r f.1, any_eqU t f.2]
theorem mem_eqAt {A : Around} {s : Shared} {x : V} {v : Value} (rx : RelV x v) (fx : flatV x = true) : ∀ {xs : List V} {us : List Value}, Vals xs us → xs.all flatV = true → ∀ u ∈ us, SeqAt.EqAt A s u v (eqU x u)
  | _, _, .nil, _ => fun u hu => by cases hu
  | y :: xs, u :: us, .cons r t, f => fun u' hu => by
    rw [List.all_cons, Bool.and_eq_true] at f
    rcases List.mem_cons.mp hu with rfl | hu
    · rw [eqU_of r f.1]; exact eqAt_V r rx f.1 fx
    · exact mem_eqAt rx fx t f.2 u' hu
def inV (x : V) (xs : List V) : Bool := xs.any fun y => eqV y x
def rIn (K : PySem.W.Frag) (neg : Bool) : R2 := fun x y H Q => ∃ p xs, y = .ref p ∧ (SqL K H p xs ∨ SqT K H p xs) ∧ flatV x = true ∧ xs.all flatV = true ∧ Q (.bl (if neg then !inV x xs else inV x xs)) H
theorem op_in_seq : OpR X (compareOp .In) (rIn X.K false) := by
  intro pins s σ H x y v u Q I rx ry h
  obtain ⟨p, xs, rfl, hq, fx, fs, q⟩ := h
  cases ry
  rcases hq with hq | hq
  · obtain ⟨its, r, pl, hz⟩ := I.list hq
    refine SeqAt.in_listAt (eqU x) pl.isList (fun w hw => mem_eqAt rx fx r fs w (by simpa using hw)) ⟨.bl _, H, I, rfl, ?_⟩
    rw [show its.toArray.any (eqU x) = its.any (eqU x) by simp, any_eqU r fs]
    exact q
  · obtain ⟨its, r, pl, hz⟩ := I.tuple hq
    refine SeqAt.in_tupleAt (eqU x) pl (fun w hw => mem_eqAt rx fx r fs w (by simpa using hw)) ⟨.bl _, H, I, rfl, ?_⟩
    rw [show its.toArray.any (eqU x) = its.any (eqU x) by simp, any_eqU r fs]
    exact q
theorem call_len_seq : CallR X (.builtin "len") (fun xs H Q => ∃ p ys, xs = [.ref p] ∧ (SqL X.K H p ys ∨ SqT X.K H p ys) ∧ Q (.int ys.length) H) := by
  intro pins s σ H xs us Q I r h
  obtain ⟨p, ys, rfl, hq, q⟩ := h
  obtain ⟨u, rfl, rx⟩ := vals1 r
  cases rx
  have hn := line63
  rcases hq with hq | hq
  · obtain ⟨its, r', pl, hz⟩ := I.list hq
    have hlen := r'.length
    exact Calls.call_len_list pl.isList (by simp only [List.size_toArray] <;> omega) ⟨.int ys.length, H, I.tok _, ⟨s.toks + 1, by rw [List.size_toArray, hlen]⟩, q⟩
  · obtain ⟨its, r', pl, hz⟩ := I.tuple hq
    have hlen := r'.length
    exact len_tuple pl (by simp only [List.size_toArray] <;> omega) ⟨.int ys.length, H, I.tok _, ⟨s.toks + 1, by rw [List.size_toArray, hlen]⟩, q⟩
theorem call_len_str : CallR X (.builtin "len") (fun xs H Q => ∃ z, xs = [.str z] ∧ z.length ≤ sizeLine ∧ Q (.int z.length) H) := by
  intro pins s σ H xs us Q I r h
  obtain ⟨z, rfl, hz, q⟩ := h
  obtain ⟨u, rfl, t, rfl⟩ := vals1 r
  have hn := line63
  exact len_str (by omega) ⟨.int z.length, H, I.tok _, ⟨_, rfl⟩, q⟩
theorem CallR.or {f : Value} {r r' : List V → Hp → VK → Prop} (h : CallR X f r) (h' : CallR X f r') : CallR X f (fun xs H Q => r xs H Q ∨ r' xs H Q) := by
  intro pins s σ H xs us Q I rs q
  rcases q with q | q
  · exact h pins s σ H xs us Q I rs q
  · exact h' pins s σ H xs us Q I rs q
theorem call_tuple_of : CallR X (.type "tuple") (fun xs H Q => ∃ p ys, xs = [.ref p] ∧ ((SqL X.K H p ys ∧ ∀ l, H l = none → Q (.ref l) (upd H l (.tup ys))) ∨ (SqT X.K H p ys ∧ Q (.ref p) H))) := by
  intro pins s σ H xs us Q I r h
  obtain ⟨p, ys, rfl, h⟩ := h
  obtain ⟨u, rfl, rx⟩ := vals1 r
  cases rx
  rcases h with ⟨hq, q⟩ | ⟨hq, q⟩
  · obtain ⟨its, r', pl, hz⟩ := I.list hq
    have hlen := r'.length
    refine call_tuple_list pl.isList (fun h' kp => ?_) (by simp only [List.size_toArray] <;> omega)
    have I1 : Inv X pins σ H { s with heap := h' } := I.kept (t' := s.toks) kp
    have I2 : Inv X pins σ (upd H h'.objs.size (.tup ys)) { s with heap := h'.push { cls := .type "tuple", data := .seq its.toArray } } :=
      I1.laid (t' := s.toks) (fun b o e => Heap.get?_push_of_some _ e) (Nat.le_refl _) (show ObjOk X.prog X.w _ _ _ (.tup ys) from ⟨hz, its, r', IsTup.new _ _⟩)
    exact ⟨.ref h'.objs.size, _, I2, rfl, q _ (I1.hok.fresh (Nat.le_refl _))⟩
  · obtain ⟨its, r', pl, hz⟩ := I.tuple hq
    exact call_tuple_same pl ⟨.ref p, H, I, rfl, q⟩
def tyV (K : PySem.W.Frag) (T : String) (x : V) (H : Hp) : Prop := match x with
  | .str _ => T = "str"
  | .int _ => T = "int"
  | .ref p => (T = "list" ∧ ∃ xs, SqL K H p xs) ∨ (T = "tuple" ∧ ∃ o, K.lookup p = some o ∧ o.cls = .type "tuple" ∧ o.dict = none) ∨
      (T = "dict" ∧ ((∃ kvs, H p = some (.dK kvs)) ∨ ∃ kvs, H p = some (.dT kvs))) ∨ (T = "set" ∧ ∃ S n, H p = some (.set S n))
  | _ => False
theorem tyV_is {pins : List (Addr × Obj)} {σ : St} {H : Hp} {s : Shared} {T : String} {x : V} {v : Value} (I : Inv X pins σ H s) (r : RelV x v) (ty : tyV X.K T x H) :
    s.TypeIs v T ∧ ∀ a, v = .ref a → ∃ ob, s.heap.get? a = some ob ∧ ob.dict = none := by
  cases x with
  | str z =>
    obtain ⟨t, rfl⟩ := r
    cases (show T = "str" from ty)
    exact ⟨typeIs_str s z t, fun _ e => nomatch e⟩
  | int i =>
    obtain ⟨t, rfl⟩ := r
    cases (show T = "int" from ty)
    exact ⟨typeIs_int s i t, fun _ e => nomatch e⟩
  | ref p =>
    cases r
    rcases ty with ⟨rfl, xs, hq⟩ | ⟨rfl, o, hk, hc, hd⟩ | ⟨rfl, hk⟩ | ⟨rfl, S, n, hk⟩
    · obtain ⟨its, _, pl, _⟩ := I.list hq
      refine ⟨pl.isList.typeIs, fun a e => ?_⟩
      cases e
      obtain ⟨o, n, e, c, hd, _⟩ := pl
      exact ⟨o, e, hd⟩
    · refine ⟨⟨o, I.kIn p o hk, hc⟩, fun a e => ?_⟩
      cases e
      exact ⟨o, I.kIn _ o hk, hd⟩
    · have z : ∃ o, s.heap.get? p = some o ∧ o.ExactDict := by
        rcases hk with ⟨kvs, hk⟩ | ⟨kvs, hk⟩
        · obtain ⟨_, _, _, _, o, _, _, e, ex, _⟩ := I.hok p _ hk
          exact ⟨o, e, ex⟩
        · obtain ⟨_, _, _, _, o, _, _, e, ex, _⟩ := I.hok p _ hk
          exact ⟨o, e, ex⟩
      obtain ⟨o, e, ex⟩ := z
      refine ⟨⟨o, e, ex.1⟩, fun a e2 => ?_⟩
      cases e2
      exact ⟨o, e, ex.2.1⟩
    · obtain ⟨o, _, _, _, e, ex, _⟩ := I.hok p _ hk
      refine ⟨⟨o, e, ex.1⟩, fun a e2 => ?_⟩
      cases e2
      exact ⟨o, e, ex.2.1⟩
  | _ => exact False.elim ty
def tBM0 (K : PySem.W.Frag) (T : String) (r : V → List V → Hp → VK → Prop) (to : TE) : TE := fun σ H Q => to σ H fun x H1 => tyV K T x H1 ∧ r x [] H1 Q
def tBM (K : PySem.W.Frag) (T : String) (r : V → List V → Hp → VK → Prop) (to : TE) (t : TA) : TE := fun σ H Q => to σ H fun x H1 => tyV K T x H1 ∧ t σ H1 fun xs H2 => r x xs H2 Q
variable {o e : Expr} {es : List Expr} {to : TE} {t : TA} {name : Str} {apos cpos : Pos} {T id : String} {r : V → List V → Hp → VK → Prop}
theorem pe_bm (pa : PlainAttrs T) (slot : Slot T name id) (hty : typeOf (.builtin id) = pure (.type "method_descriptor")) (hm : MtR X id r) (ho : PE X o to) (ha : PA X (e :: es) t)
    (hbase : attributeBase o name X.env (eval o X.env) = eval o X.env := by rfl)
    (hfew : ((backTo cpos (starEach (e :: es) X.env)).all (fun x => !x.1) && (backToKw cpos (keywordEach [] X.env)).all (fun x => x.1.isSome)
      && decide ((e :: es).length + ([] : List Keyword).length + (if ([] : List Keyword).isEmpty then 0 else 1) < 30)) = true := by rfl)
    (hline : (apos.endLine == cpos.line) = true := by rfl) (hs : starEach (e :: es) X.env = (false, eval e X.env) :: starEach es X.env := by rfl) (hplain : (backTo cpos (starEach es X.env)).any (·.1) = false := by rfl) :
    PE X (.Call (.Attribute o name apos) (e :: es) [] cpos) (tBM X.K T r to t) := by
  intro pins s σ H Q I h
  refine wpAny_Call_method_late hbase hfew hline rfl (thn (ho pins s σ H _ I h) fun v s1 ⟨x, H1, I1, r1, ty, q1⟩ => ?_)
  obtain ⟨h1, h2⟩ := tyV_is I1 r1 ty
  refine ⟨T, id, pa, slot, hty, h1, h2, ?_⟩
  have hA := ha cpos pins s1 σ H1 _ I1 q1
  rw [hs] at hA ⊢
  refine Calls.callWith_builtin (by show (false || (backTo cpos (starEach es X.env)).any (·.1)) = false; rw [hplain] <;> rfl) (Calls.evalArgs_plain ?_)
  exact thn hA fun us s2 ⟨vs, H2, I2, r2, q2⟩ => hm pins s2 σ H2 x vs v us Q I2 r1 r2 q2
/- xs.append(e), list.index on a module's tuple .. are MtR facts of 06m -/
end
end L2
namespace L2
open PySem PySem.Spec PyProof.Rows
def MtM (X : Cx) (id : String) (r : V → List V → Hp → VK → Prop) : Prop :=
  ∀ (pins : List (Addr × Obj)) (s : Shared) (σ : St) (H : Hp) (x : V) (xs : List V) (v : Value) (us : List Value) (Q : VK), Inv X pins σ H s → RelV x v → Vals xs us → r x xs H Q →
    wpAny (model X.prog X.w) X.A (call (.builtin id) (v :: us)) (EP X pins σ Q) X.xe s
theorem Vals.one : ∀ {x : V} {us : List Value}, Vals [x] us → ∃ u, us = [u] ∧ RelV x u
  | _, _, .cons r .nil => ⟨_, rfl, r⟩
theorem Vals.two : ∀ {x y : V} {us : List Value}, Vals [x, y] us → ∃ u v, us = [u, v] ∧ RelV x u ∧ RelV y v
  | _, _, _, .cons r (.cons q .nil) => ⟨_, _, rfl, r, q⟩
theorem Vals.zero : ∀ {us : List Value}, Vals [] us → us = []
  | _, .nil => rfl
theorem Vals.dropLast {xs : List V} {us : List Value} (h : Vals xs us) : Vals xs.dropLast us.dropLast := by
  induction h with
  | nil => exact .nil
  | cons r t ih =>
    cases t with
    | nil => exact .nil
    | cons q t' => exact .cons r ih
theorem Vals.eraseIdx : ∀ {xs : List V} {us : List Value} (i : Nat), Vals xs us → Vals (xs.eraseIdx i) (us.eraseIdx i)
  | _, _, _, .nil => .nil
  | _, _, 0, .cons _ t => t
  | _, _, i + 1, .cons r t => .cons r (Vals.eraseIdx i t)
theorem Vals.reverse {xs : List V} {us : List Value} (h : Vals xs us) : Vals xs.reverse us.reverse := by
  induction h with
  | nil => exact .nil
  | cons r t ih => rw [List.reverse_cons, List.reverse_cons]; exact Vals.append ih (.cons r .nil)
theorem Vals.rep {xs : List V} {us : List Value} (h : Vals xs us) : ∀ k : Nat, Vals (List.replicate k xs).flatten (List.replicate k us).flatten
  | 0 => .nil
  | k + 1 => by
    rw [List.replicate_succ, List.replicate_succ, List.flatten_cons, List.flatten_cons]
    exact Vals.append h (Vals.rep h k)
theorem foldl_rep (its : List Value) : ∀ (k : Nat) (acc : List Value),
    List.foldl (fun x1 x2 => x1 ++ x2) acc.toArray (List.replicate k its.toArray) = (acc ++ (List.replicate k its).flatten).toArray
  | 0, acc => by simp
  | k + 1, acc => by
    have e : acc.toArray ++ its.toArray = (acc ++ its).toArray := by simp
    have e2 : (acc ++ its) ++ (List.replicate k its).flatten = acc ++ (List.replicate (k + 1) its).flatten := by
      rw [List.replicate_succ, List.flatten_cons, List.append_assoc]
    rw [← e2, ← foldl_rep its k (acc ++ its), ← e, List.replicate_succ, List.foldl_cons]
section
variable {X : Cx} {pins : List (Addr × Obj)} {σ : St} {H : Hp} {s : Shared} {l b : Addr} {xs ys zs : List V}
theorem Inv.lset {its its' : List Value} {n : Nat} {f : Array Value → Array Value} {t' : Nat} (I : Inv X pins σ H s) (hH : H l = some (.lst xs))
    (e : s.heap.get? l = some { cls := .type "list", data := .seq its.toArray n }) (hf : f its.toArray = its'.toArray) (hv : Vals ys its') (hz : ys.length ≤ sizeLine) :
    Inv X pins σ (upd H l (.lst ys)) { s with heap := s.heap.update l (Obj.mapSeq f), toks := t' } := by
  have q := PySem.IsL.update e f
  rw [hf] at q
  refine I.write (x := l) (e := l) (by rw [hH]; exact trivial) (.inl rfl) (fun b' u hb hu => (Heap.get?_update_other s.heap (Obj.mapSeq f) (Ne.symm hb)).trans hu) ⟨_, q⟩ ?_
  exact ⟨hz, its', _, hv, q⟩
theorem Inv.lnew {its : List Value} {t' : Nat} (I : Inv X pins σ H s) (hv : Vals ys its) (hz : ys.length ≤ sizeLine) :
    Inv X pins σ (upd H s.heap.objs.size (.lst ys)) { s with heap := s.heap.push { cls := .type "list", data := .seq its.toArray }, toks := t' } :=
  I.laid (fun _ _ q => Heap.get?_push_of_some _ q) (Nat.le_refl _) ⟨hz, its, 0, hv, Heap.get?_push_size _ rfl⟩
theorem Inv.fresh (I : Inv X pins σ H s) : H s.heap.objs.size = none := I.hok.fresh (Nat.le_refl _)
theorem Inv.lstM (I : Inv X pins σ H s) (hH : H l = some (.lst xs)) : xs.length ≤ sizeLine ∧ ∃ (its : List Value) (n : Nat), Vals xs its ∧ xs.length = its.length ∧ s.heap.get? l = some { cls := .type "list", data := .seq its.toArray n } := by
  obtain ⟨z, its, n, r, e⟩ := I.hok l _ hH
  exact ⟨z, its, n, r, r.length, e⟩
theorem notLongL {n : Nat} (h : n ≤ sizeLine) : Builtin.List.listTooLong n = false := by
  unfold Builtin.List.listTooLong
  exact decide_eq_false (by omega)
end
section
variable {X : Cx}
def rAppend : V → List V → Hp → VK → Prop := fun x vs H Q => ∃ l xs y, x = .ref l ∧ vs = [y] ∧ H l = some (.lst xs) ∧ xs.length < sizeLine ∧ Q .non (upd H l (.lst (xs ++ [y])))
theorem mt_append : MtM X "list.append" rAppend := by
  intro pins s σ H x vs v us Q I rx rv h
  obtain ⟨l, xs, y, rfl, rfl, hH, hz, q⟩ := h
  cases rx
  obtain ⟨u, rfl, ru⟩ := rv.one
  obtain ⟨z, its, n, r, hl, e⟩ := I.lstM hH
  refine call_meets F.slot_list_append ⟨_, e, rfl⟩ F.entry_list_append (F.args_list_append_2 _ _) (PySem.list_append l its.toArray n u (by rw [List.size_toArray]; omega)) ⟨e, ?_⟩
  refine ⟨.non, _, I.lset (its' := its ++ [u]) hH e (by simp) (r.append (.cons ru .nil)) ?_, rfl, q⟩
  rw [List.length_append, List.length_singleton]
  omega
def rExtend : V → List V → Hp → VK → Prop := fun x vs H Q => ∃ l b xs zs, x = .ref l ∧ vs = [.ref b] ∧ H l = some (.lst xs) ∧ H b = some (.lst zs) ∧ xs.length + zs.length ≤ sizeLine ∧ Q .non (upd H l (.lst (xs ++ zs)))
theorem mt_extend : MtM X "list.extend" rExtend := by
  intro pins s σ H x vs v us Q I rx rv h
  obtain ⟨l, b, xs, zs, rfl, rfl, hH, hB, hz, q⟩ := h
  cases rx
  obtain ⟨u, rfl, ru⟩ := rv.one
  cases ru
  obtain ⟨z, its, n, r, hl, e⟩ := I.lstM hH
  obtain ⟨z2, its2, n2, r2, hl2, e2⟩ := I.lstM hB
  have hsz : its.toArray.size + its2.toArray.size ≤ sizeLine := by rw [List.size_toArray, List.size_toArray]; omega
  have hlong : ¬ (!its.toArray.isEmpty && Builtin.List.listTooLong (its.toArray.size + its2.toArray.size)) = true := by
    rw [notLongL hsz, Bool.and_false]
    exact Bool.false_ne_true
  refine call_meets F.slot_list_extend ⟨_, e, rfl⟩ F.entry_list_extend (F.args_list_extend_2 _ _)
    (AutoSeq1.list_extend_list_list_0 l its.toArray n b its2.toArray n2 hlong (by rw [List.size_toArray]; omega) (by omega)) ⟨e, e2, ?_⟩
  refine ⟨.non, _, I.lset (its' := its ++ its2) hH e (by simp) (r.append r2) ?_, rfl, q⟩
  rw [List.length_append]
  omega
def rPop : V → List V → Hp → VK → Prop := fun x vs H Q => ∃ l xs y, x = .ref l ∧ vs = [] ∧ H l = some (.lst xs) ∧ xs[xs.length - 1]? = some y ∧ Q y (upd H l (.lst xs.dropLast))
def rPopAt : V → List V → Hp → VK → Prop := fun x vs H Q => ∃ l xs i k y, x = .ref l ∧ vs = [.int i] ∧ H l = some (.lst xs) ∧ -(2 ^ 63) ≤ i ∧ i < 2 ^ 63 ∧ seqIndex? i xs.length = some k ∧ xs[k]? = some y ∧ Q y (upd H l (.lst (xs.eraseIdx k)))
def rReverse : V → List V → Hp → VK → Prop := fun x vs H Q => ∃ l xs, x = .ref l ∧ vs = [] ∧ H l = some (.lst xs) ∧ Q .non (upd H l (.lst xs.reverse))
def rClear : V → List V → Hp → VK → Prop := fun x vs H Q => ∃ l xs, x = .ref l ∧ vs = [] ∧ H l = some (.lst xs) ∧ Q .non (upd H l (.lst []))
def rCat : R2 := fun x y H Q => ∃ l b xs zs, x = .ref l ∧ y = .ref b ∧ H l = some (.lst xs) ∧ H b = some (.lst zs) ∧ xs.length + zs.length ≤ sizeLine ∧ ∀ p, H p = none → Q (.ref p) (upd H p (.lst (xs ++ zs)))
theorem op_cat : OpR X (binaryOp .Add) rCat := by
  intro pins s σ H x y v u Q I rx ry h
  obtain ⟨l, b, xs, zs, rfl, rfl, hH, hB, hz, q⟩ := h
  cases rx
  cases ry
  obtain ⟨z, its, n, r, hl, e⟩ := I.lstM hH
  obtain ⟨z2, its2, n2, r2, hl2, e2⟩ := I.lstM hB
  refine PySem.P.add_list e e2 ?_ (by rw [List.size_toArray, List.size_toArray]; omega)
  have ea : its.toArray ++ its2.toArray = (its ++ its2).toArray := by simp
  rw [ea]
  exact ⟨.ref _, _, I.lnew (t' := s.toks) (r.append r2) (by rw [List.length_append]; omega), rfl, q _ I.fresh⟩
def rRep : R2 := fun x y H Q => ∃ l k xs, x = .ref l ∧ y = .int k ∧ H l = some (.lst xs) ∧ -(2 ^ 63) ≤ k ∧ k < 2 ^ 63 ∧ xs.length * k.toNat ≤ sizeLine ∧
  ∀ p, H p = none → Q (.ref p) (upd H p (.lst (List.replicate k.toNat xs).flatten))
theorem len_rep {α : Type} (xs : List α) (k : Nat) : (List.replicate k xs).flatten.length = k * xs.length := by
  induction k with
  | zero => simp
  | succ k ih => rw [List.replicate_succ, List.flatten_cons, List.length_append, ih, Nat.succ_mul, Nat.add_comm]
theorem op_rep : OpR X (binaryOp .Mult) rRep := by
  intro pins s σ H x y v u Q I rx ry h
  obtain ⟨l, k, xs, rfl, rfl, hH, h1, h2, hz, q⟩ := h
  cases rx
  obtain ⟨t, rfl⟩ := ry
  obtain ⟨z, its, n, r, hl, e⟩ := I.lstM hH
  have hlen : its.toArray.size * k.toNat ≤ sizeLine := by rw [List.size_toArray, ← hl]; exact hz
  have hcap : ¬ its.toArray.size * k.toNat > (2 ^ 63 - 1) / 8 := by
    have : (sizeLine : Nat) ≤ (2 ^ 63 - 1) / 8 := by decide
    omega
  have hfit : ¬ (!Builtin.List.listFitsIndex k) = true := by
    rw [fitsIndex_both h1 h2]
    exact Bool.false_ne_true
  have hlong : ¬ Builtin.List.listTooLong (its.toArray.size * k.toNat) = true := by
    rw [notLongL hlen]
    exact Bool.false_ne_true
  have hnew : List.foldl (fun x1 x2 => x1 ++ x2) #[] (List.replicate (if its.toArray.isEmpty = true then 0 else k.toNat) its.toArray) = (List.replicate k.toNat its).flatten.toArray := by
    have f0 : ∀ m : Nat, List.foldl (fun x1 x2 => x1 ++ x2) #[] (List.replicate m its.toArray) = (List.replicate m its).flatten.toArray := fun m => by
      have := foldl_rep its m []
      rw [List.nil_append] at this
      exact this
    rw [f0]
    cases its with
    | nil => simp
    | cons a r' => rw [if_neg (by simp)]
  refine wpAny_binaryOp_repeat_ref (T := "list") (U := "int") (by decide) ⟨_, e, rfl⟩ (fun s' => typeIs_int s' k t) noFill_list_mul F.fills_int_mul F.slot_int_rmul repeat_list F.slot_int_index.lookup
    (call_meets F.slot_int_rmul (typeIs_int s k t) F.entry_int_rmul (F.args_int_rmul_2 _ _) (int___rmul___int_list k t l its.toArray n)
      ⟨e, rfl, ⟨_, e, rfl⟩, call_meets F.slot_list_mul ⟨_, e, rfl⟩ F.entry_list_mul (F.args_list_mul_2 _ _) (AutoListH.list___mul___list_int_3 l its.toArray n k t hfit hcap hlong) ⟨e, ?_⟩⟩)
  rw [hnew]
  exact ⟨.ref _, _, I.lnew (t' := s.toks) (r.rep k.toNat) (by rw [len_rep, Nat.mul_comm]; exact hz), rfl, q _ I.fresh⟩
end
section
variable {prog : Program} {w : World} {A : Around} {E : Value → Shared → Prop} {s : Shared}
set_option maxRecDepth 100000 in
end
section
variable {X : Cx}
end
end L2
namespace Att
open PySem PySem.W PySem.Calls PyProof.Rows
theorem ints_of_wellAll {P : Params} {h : Heap} : ∀ (ns : List Int) (vs : List Value), WellAll P h vs (ns.map WData.int) → IntsAre vs ns := by
  intro ns
  induction ns with
  | nil =>
    intro vs w
    rw [List.map_nil] at w
    cases w
    exact .nil
  | cons n ns ih =>
    intro vs w
    rw [List.map_cons] at w
    cases w with
    | cons a b =>
      cases a
      exact .cons _ _ (ih _ b)
theorem script_of {l : OpenLaw} {n : Nat} (hn : l.most = some n) {P : Params} {h : Heap} {args : List WData} {vals : List Value}
    (hpre : l.row.toRowW.claim.pre args = true) (hwl : WellAll P h vals args) :
    ∃ a vs ns, vals = [Value.ref a] ∧ args = [WData.list (ns.map WData.int)] ∧ h.get? a = some { cls := .type "list", data := .seq vs.toArray } ∧ IntsAre vs ns ∧ ns.length ≤ n := by
  have hsh : WShape.hasAll [] args [.list .int] = true := (pre_splitW hpre).1
  have hc : l.pre.holds [] { args := args } = true := (pre_splitW hpre).2
  obtain ⟨d, r, rfl, h1, h2⟩ := hasAllW_cons hsh
  obtain rfl := hasAllW_nil h2
  obtain ⟨xs, rfl, h3⟩ := hasW_list h1
  obtain ⟨ns, rfl⟩ := items_int h3
  have hlen : ns.length ≤ n := by
    unfold OpenLaw.pre at hc
    have h4 : (WTm.not (.lt (.lit (.int (n : Int))) (.len (.arg 0)))).holds [] { args := [.list (ns.map .int)] } = true := by
      have h4 := (holds_andW hc).1
      rw [hn] at h4
      exact h4
    have h5 := condW_of h4 (w_not (w_lt w_lit (w_len_list (w_arg rfl))))
    rw [List.length_map] at h5
    refine Nat.le_of_not_lt fun q => ?_
    have q' : (n : Int) < ((ns.length : Nat) : Int) := by omega
    first
      | (rw [decide_eq_true q'] at h5; exact absurd h5 (by decide))
      | (simp at h5; omega)
  cases hwl with
  | cons w1 w2 =>
    cases w2
    cases w1 with
    | list ho hall => exact ⟨_, _, ns, rfl, rfl, ho, ints_of_wellAll ns _ hall, hlen⟩
theorem post_true (l : OpenLaw) (args : List WData) : l.row.toRowW.claim.post args (.bool true) args = true :=
  postW_of (r := l.row.toRowW) (X := (true == true))
    (show WShape.has [] (.bool true) .bool = true by first | rfl | decide | simp [WShape.has, WShape.arms, WShape.armsAll])
    (show (WTm.eq .res (.lit (.bool true))).value [] { args := args, res := some (.bool true), after := args } = some (.bool (true == true)) from w_eq_bool (w_res rfl) w_lit) rfl
theorem attach_call {l : OpenLaw} {n : Nat} {q : Program} {loose : List Str} {XP : (Str → Option Value) → Heap → Prop} {YP : World → Heap → Prop} {d : DefRec}
    (hn : l.most = some n) (hdf : d.params.defaults = [])
    (call : ∀ (w : World) (s₀ s₁ : Shared) (mg mb : Str → Option Value) (fa : Addr) (o : Obj) (pm cd doc : Value) (a : Addr) (vs : List Value) (ns : List Int),
      Ground q loose [] XP w s₀ mg mb s₁.heap → YP w s₁.heap →
      s₁.heap.get? fa = some o → o.data = .func (docDef d.name d.params d.body d.scope pm cd doc) → s₁.heap.CodeRec cd d.name → mg d.name = some (.ref fa) →
      s₁.heap.get? a = some { cls := .type "list", data := .seq vs.toArray } → IntsAre vs ns → ns.length ≤ n → s₁.gens = #[] →
      codeAny (model l.prog w) callerA (.call (.ref fa) ⟨[.ref a], []⟩) (fun r s' => r = .ok (.ret (.bool true)) ∧ OldK s₁.heap s'.heap ∧ s'.os = s₁.os ∧ AllBare s'.gens) s₁) :
    WalkO q loose XP YP l.row.toRowW d [] (fun f vs => PySem.call f vs) := by
  intro w s₀ s₁ mg mb G Y fa o pm cd doc dV kV ho hd hcd hD hmg hg args vals as hpre hlay hrd hwl hlo
  obtain rfl : dV = .none := Dflts.none hD hdf
  obtain rfl : kV = .none := Dflts.noKw hD
  obtain ⟨a, vs, ns, rfl, rfl, hobj, hints, hlen⟩ := script_of hn hpre hwl
  refine enter_call (codeAny_mono (call w s₀ s₁ mg mb fa o pm cd doc a vs ns G Y ho (fd_plain hd) hcd hmg hobj hints hlen hg) fun r s' hq => ?_)
  obtain ⟨rfl, h2, h3, h4⟩ := hq
  exact ⟨.inl ⟨.bool true, .bool true, [], rfl, fun _ => rfl, .bool true, post_true l _, fun _ => ⟨List.Pairwise.nil, fun _ hm => (nomatch hm)⟩⟩, h2, h3, h4⟩
section
variable {prog : Program} {w : World} {A : Around} {E : Value → Shared → Prop} {s : Shared} {K : Frag}
def noObjs (h : Heap) : Heap := { h with objs := #[] }
def ledger (h : Heap) (L d : Addr) : List (Addr × Obj) := (List.range h.objs.size).filterMap fun a => if a = L ∨ a = d then none else (h.get? a).map fun o => (a, o)
end
end Att
namespace L2
open PySem PySem.Spec PyProof.Rows
theorem vals_ints : ∀ {vs : List Value} {ns : List Int}, IntsAre vs ns → Vals (ns.map V.int) vs
  | _, _, .nil => .nil
  | _, _, .cons n t h => .cons ⟨t, rfl⟩ (vals_ints h)
def Only (H : Hp) : Prop := ∀ b, H b = none ∨ ∃ o xs, H b = some (.frz o (.lst xs))
theorem law_call {P : Program} {w : World} {K : PySem.W.Frag} {mg mb : Str → Option Value} {CX : CXT} {k : Nat} {fa a : Addr} {fd : FuncData} {x : Str} {sp : Sp} {s₁ : Shared} {vs : List Value} {ns : List Int}
    (KX : K.In s₁.heap) (hns : s₁.heap.Ns mainGlobals mg) (hb : s₁.heap.Ns builtinsNs mb) (hbb : ∀ x : Str, x ≠ "__name__" → mb x = bootBuiltins x) (hlim : s₁.heap.NoLimit) (hg : s₁.gens = #[])
    (ha : s₁.heap.get? a = some { cls := .type "list", data := .seq vs.toArray }) (hi : IntsAre vs ns) (hl : ns.length ≤ sizeLine) (hr : Room k callerA)
    (F : ∀ base : Heap, K.In base → base.Ns mainGlobals mg → FnOk P w K mg base CX k fa fd [x] sp) (hbind : ∀ (s : Shared) (u : Value), BindsTo s fd ⟨[u], []⟩ [(x, u)])
    (hsp : ∀ H : Hp, Only H → SqL K H a (ns.map V.int) → sp [.ref a] H (fun v _ => v = .bl true) fun _ _ _ => False)
    (hCX : ∀ H e s', CX [] H s₁ (fun _ _ _ => False) e s' → False) :
    codeAny (model P w) callerA (.call (.ref fa) ⟨[.ref a], []⟩) (fun r s' => r = .ok (.ret (.bool true)) ∧ OldK s₁.heap s'.heap ∧ s'.os = s₁.os ∧ AllBare s'.gens) s₁ := by
  have rv := vals_ints hi
  have lenV := hi.length
  -- from an abstract heap in which nothing but the script may be tracked
  have core : ∀ H : Hp, Only H → SqL K H a (ns.map V.int) → HOk P w H s₁.heap → (∀ b, H b ≠ none → b = a) → (H a ≠ none → K.lookup a = none) →
      codeAny (model P w) callerA (.call (.ref fa) ⟨[.ref a], []⟩) (fun r s' => r = .ok (.ret (.bool true)) ∧ OldK s₁.heap s'.heap ∧ s'.os = s₁.os ∧ AllBare s'.gens) s₁ := by
    intro H hO hS hok hA hK
    have base_of : ∀ {b : Addr} {o : Obj}, s₁.heap.get? b = some o → H b = none → (hidT s₁.heap H).get? b = some o := fun e n => hidT_get e n
    have noA : ∀ {b : Addr} {o : Obj} {es : Array DictEntry} {ep : Nat}, s₁.heap.get? b = some o → o.data = .dict es ep → H b = none := fun {b o es ep} e d => by
      cases q : H b with
      | none => rfl
      | some u =>
        have e' : b = a := hA b (by rw [q]; simp)
        subst e'
        rw [ha] at e; cases e
        have d' : Data.seq vs.toArray _ = Data.dict es ep := d
        cases d'
    have nsK : ∀ {b : Addr} {m : Str → Option Value}, s₁.heap.Ns b m → (hidT s₁.heap H).Ns b m := fun {b m} ⟨o, es, ep, e, d, r⟩ => ⟨o, es, ep, base_of e (noA e d), d, r⟩
    have hKb : K.In (hidT s₁.heap H) := fun b o e => base_of (KX b o e) (by
      cases q : H b with
      | none => rfl
      | some u =>
        have e' : b = a := hA b (by rw [q]; simp)
        subst e'
        rw [hK (by rw [q]; simp)] at e; cases e)
    have hM : Mod K mg (hidT s₁.heap H) := ⟨hKb, nsK hns, ⟨mb, nsK hb, hbb⟩, let ⟨mc, h1, h2⟩ := hlim; ⟨mc, nsK h1, h2⟩⟩
    have e0 : Env0 P w K mg (hidT s₁.heap H) callerA [] s₁ H := ⟨rfl, hM, fun b o e => of_hidT e, Nat.le_of_eq (hidT_size _ _), trivial, fun b hb => absurd (show b ∈ ([] : List Addr) from hb) (by simp), hok, .of_eq hg⟩
    refine codeAny_mono ((F _ hKb (nsK hns)).run callerA [] s₁ H ⟨[.ref a], []⟩ [.ref a] [.ref a] _ _ hr e0 (hbind s₁ (.ref a)) (.cons rfl .nil) (hsp H hO hS)) fun r s' h => ?_
    cases r with
    | error e => exact (hCX H e s' h).elim
    | ok fl =>
      cases fl with
      | next => exact False.elim h
      | brk => exact False.elim h
      | cont => exact False.elim h
      | ret u =>
        obtain ⟨v, H', os, bare, un, hok', r', q⟩ := h
        have q' : v = .bl true := q
        subst q'
        obtain rfl : u = Value.bool true := r'
        refine ⟨rfl, OldK.of_keep fun b o e => ?_, os, bare⟩
        cases q : H b with
        | none => exact un.keep b o e q (by intro z; exact absurd (show b ∈ ([] : List Addr) from z) (by simp)) (by simp)
        | some u =>
          rcases hO b with z | ⟨ob, xs, z⟩
          · rw [q] at z; cases z
          · have z2 := un.frzs b ob _ z
            obtain ⟨e1, _⟩ := hok b _ z
            obtain ⟨e2, _⟩ := hok' b _ z2
            rw [e] at e1; cases e1
            exact e2
  cases hk : K.lookup a with
  | some o =>
    -- the script is one of the module's own objects
    have e := KX a o hk
    rw [ha] at e
    cases e
    refine core (fun _ => none) (fun _ => .inl rfl) (.inr ⟨_, vs.toArray, _, hk, rfl, rfl, rfl, by rw [List.size_toArray, lenV]; exact hl, by simpa using rv⟩) (fun b u z => by have z' : (none : Option HO) = some u := z; cases z') (fun b z => absurd rfl z) fun z => absurd rfl z
  | none =>
    refine core (fun b => if b = a then some (.frz { cls := .type "list", data := .seq vs.toArray } (.lst (ns.map V.int))) else none) (fun b => ?_) (.inl (.inr ⟨{ cls := .type "list", data := .seq vs.toArray }, if_pos rfl⟩)) (fun b u z => ?_) (fun b z => ?_) fun _ => hk
    · by_cases hb : b = a
      · exact .inr ⟨_, _, if_pos hb⟩
      · exact .inl (if_neg hb)
    · by_cases hb : b = a
      · have z' := (if_pos hb).symm.trans z
        cases z'
        subst hb
        exact ⟨ha, by rw [List.length_map]; exact hl, vs, _, rv, ha⟩
      · have z' := (if_neg hb).symm.trans z
        cases z'
    · by_cases hb : b = a
      · exact hb
      · exact absurd (if_neg hb) z
end L2
namespace L2
open PySem PySem.Spec PyProof.Rows
abbrev KOf {K : PySem.W.Frag} {h : Heap} (_ : K.In h) : PySem.W.Frag := K
theorem walk_of {l : PySem.W.OpenLaw} {n k : Nat} {q : Program} {loose : List Str} {XP : (Str → Option Value) → Heap → Prop} {YP : World → Heap → Prop} {d : DefRec} {K : Params → PySem.W.Frag} {CX : World → CXT} {sp : World → Sp} {x : Str}
    (hn : l.most = some n) (hn2 : n ≤ sizeLine) (hdf : d.params.defaults = []) (hr : Room k callerA)
    (hY : ∀ (w : World) (h : Heap), YP w h → (K w.params).In h)
    (F : ∀ (w : World) (mg : Str → Option Value) (fa : Addr) (h : Heap), (K w.params).In h → h.Ns mainGlobals mg → mg d.name = some (.ref fa) →
      ∃ fd : FuncData, (∀ (s : Shared) (u : Value), BindsTo s fd ⟨[u], []⟩ [(x, u)]) ∧
        ∀ base : Heap, (K w.params).In base → base.Ns mainGlobals mg → FnOk l.prog w (K w.params) mg base (CX w) k fa fd [x] (sp w))
    (hsp : ∀ (w : World) (H : Hp) (a : Addr) (ns : List Int), ns.length ≤ n → Only H → SqL (K w.params) H a (ns.map V.int) → sp w [.ref a] H (fun v _ => v = .bl true) fun _ _ _ => False)
    (hCX : ∀ (w : World) (H : Hp) (s : Shared) (e : Value) (s' : Shared), CX w [] H s (fun _ _ _ => False) e s' → False) :
    PySem.W.WalkO q loose XP YP l.row.toRowW d [] (fun f vs => PySem.call f vs) := by
  refine Att.attach_call hn hdf fun w s₀ s₁ mg mb fa o pm cd doc a vs ns G Y ho hd hcd hmg hobj hints hlen hg => ?_
  have KX := hY w _ Y
  obtain ⟨fd, hb, hF⟩ := F w mg fa _ KX G.T.g hmg
  exact law_call KX G.T.g G.T.b G.T.builtins G.T.nolimit hg hobj hints (Nat.le_trans hlen hn2) hr hF hb (fun H hO hS => hsp w H a ns hlen hO hS) fun H e s' => hCX w H s₁ e s'
end L2
/- THE LAST THEOREM (shape; LID, My.* are yours):
   My.Adr: a structure of the addresses that your layer names (classes, functions); My.Txt K t: a structure (Prop) of the equations over K;
   My.txt_mk : {K} {implicit addresses ..} (e1 : nsIn K mainGlobals "law" = some (some (.ref f))) (e2 : K.lookup f = some ⟨oc, od, .func (fnOf "law" "law" params body scope dV kV doc pm an cdv ct), sl⟩) (e3 : codeIn K cdv "law" = true) .. : ∃ t, My.Txt K t
set_option maxRecDepth 100000 in
set_option maxHeartbeats 0 in
theorem PySem.Challenge.cw_LID_holds : PySem.Challenge.rw_LID.Holds := by
  w_on; o_law; k_head; (case hw => w_witness2)
  k_fill
  refine L2.walk_of (l := PySem.Challenge.rw_LID) (n := 63) (k := 40) (x := "script") (CX := fun w => ..) (sp := fun _ => My.sp_law) rfl (by decide) rfl ⟨rfl, by decide, by decide⟩ (fun w h Y => PySem.W.kIn_of Y) ?F ?S ?C
  case F =>
    intro w mg fa h KX G hmg
    have T : ∃ t, My.Txt (L2.KOf KX) t := by
      dsimp only [L2.KOf]                          -- K must stand as «<heap const> w.params» for k_is
      refine' My.txt_mk ?e1 ?e2 ?e3 ..
      (case e1 => PySem.W.k_is)                    -- in the order: a name -> its address -> its object -> its parts
      (case e2 => PySem.W.k_is)
      ..
    obtain ⟨t, T⟩ := T
    have e0 := hmg.symm.trans (PySem.W.mg_of KX G T.law)
    cases e0                                       -- fa is the law's own address
    exact ⟨_, fun s u => .of_eq rfl, fun base kb nb => My.law_fn T kb nb⟩     -- if «.of_eq rfl» comes too early: refine' ⟨_, ?b, fun base kb nb => My.law_fn T kb nb⟩; exact fun s u => .of_eq rfl
  case S => exact fun w H a ns hl hO hS => ..
  case C => exact ..
(the tactic k_is has no namespace: write k_is) -/
namespace L2
open PySem PySem.Spec PyProof.Rows
def inClass (s : Stmt) (j : Nat) : Stmt := match s with
  | .ClassDef _ _ _ body _ _ _ _ _ _ _ => body.getD j (.Pass ⟨0, 0, 0, 0⟩)
  | _ => .Pass ⟨0, 0, 0, 0⟩
def defArgs (s : Stmt) : Arguments := match s with
  | .FunctionDef _ a _ _ _ _ _ _ _ _ => a
  | _ => { posonlyargs := [], args := [], vararg := none, kwonlyargs := [], kw_defaults := [], kwarg := none, defaults := [] }
def defBody (s : Stmt) : List Stmt := match s with
  | .FunctionDef _ _ b _ _ _ _ _ _ _ => b
  | _ => []
def defScope (s : Stmt) : Scope := match s with
  | .FunctionDef _ _ _ _ _ _ sc _ _ _ => sc
  | _ => { kind := .function, names := [], isGenerator := false, isCoroutine := false }
abbrev CX0 : CXT := fun _ _ _ _ _ _ => False
abbrev E0 : XK := fun _ _ _ => False
theorem pass0 {X : Cx} : Passes CX0 X E0 := fun _ _ _ _ _ _ _ h => h.elim
structure Fun (K : PySem.W.Frag) (x qual : Str) (st : Stmt) (f : Addr) (fd : FuncData) : Prop where
  ex : ∃ (oc : Value) (od : Option Addr) (kV doc pm : Value) (an : Option Addr) (cdv ct : Value) (osl : Array (Option Value)),
    fd = PySem.W.fnOf x qual (defArgs st) (defBody st) (defScope st) .none kV doc pm an cdv ct ∧ K.lookup f = some ⟨oc, od, .func fd, osl⟩ ∧ PySem.W.codeIn K cdv qual = true
  kp : PySem.W.keepIn K (.ref f) = true
section
variable {P : Program} {w : World} {K : PySem.W.Frag} {mg : Str → Option Value} {base : Heap}
theorem Fun.ok {x qual : Str} {st : Stmt} {f : Addr} {fd : FuncData} {N ps : List Str} {k : Nat} {sp : Sp} (F : Fun K x qual st f fd) (S : FnScope N ps (defScope st)) (len : ∀ vs H Q E, sp vs H Q E → vs.length = ps.length)
    (hbody : ∀ (cdv : Value) (A : Around) (outer : List Env) (s : Shared) (H : Hp) (vs : List V) (Q : VK) (E : XK), Room k (A.deeper (envOfC qual (defScope st) s.heap.objs.size f cdv)) → sp vs H Q E →
      ∃ t, PSs (cxOf CX0 P w K mg base N qual (defScope st) f cdv A outer s H E).nox (defBody st) t ∧ t { nx := fun _ H' => Q .non H', rt := Q } (start N vs) H) : FnOk P w K mg base CX0 (k + 1) f fd ps sp := by
  obtain ⟨oc, od, kV, doc, pm, an, cdv, ct, osl, rfl, lk, hcd⟩ := F.ex
  refine fn_of lk hcd S len fun A outer s H vs Q E hr hsp => ?_
  obtain ⟨t, h, q⟩ := hbody cdv A outer s H vs Q E hr hsp
  exact ⟨t, h.nox, q⟩
theorem Fun.binds {x qual : Str} {st : Stmt} {f : Addr} {fd : FuncData} {ps : List Str} (F : Fun K x qual st f fd)
    (h : ∀ (kV doc pm : Value) (an : Option Addr) (cdv ct : Value) (us : List Value), us.length = ps.length → bindArgs (PySem.W.fnOf x qual (defArgs st) (defBody st) (defScope st) .none kV doc pm an cdv ct) ⟨us, []⟩ = pure (ps.zip us)) : Binds K fd ps [] := by
  obtain ⟨oc, od, kV, doc, pm, an, cdv, ct, osl, rfl, lk, hcd⟩ := F.ex
  exact .all (h kV doc pm an cdv ct)
theorem fun_mk {x qual : Str} {st : Stmt} {f : Addr} {oc : Value} {od an : Option Addr} {osl : Array (Option Value)} {kV doc pm cdv ct : Value} (l : K.lookup f = some ⟨oc, od, .func (PySem.W.fnOf x qual (defArgs st) (defBody st) (defScope st) .none kV doc pm an cdv ct), osl⟩)
    (c : PySem.W.codeIn K cdv qual = true) (k : PySem.W.keepIn K (.ref f) = true) : Fun K x qual st f (PySem.W.fnOf x qual (defArgs st) (defBody st) (defScope st) .none kV doc pm an cdv ct) := ⟨⟨oc, od, kV, doc, pm, an, cdv, ct, osl, rfl, l, c⟩, k⟩
end
theorem hu_of {A : Around} {k : Nat} (hr : Room k A) : A.units + 1 < cLine := Nat.lt_of_le_of_lt (Nat.add_le_add_left (by decide : 1 ≤ 64) _) hr.units
theorem small1000 {n : Nat} (h : n ≤ 1000) : n < sizeLine := Nat.lt_of_le_of_lt h (by decide)
section
variable {X : Cx}
theorem pv (i : Nat) {x : Str} {pos : Pos} (hN : X.N[i]? = some x := by rfl) (hv : Vis X.env.scope x := by first | exact Or.inl rfl | exact Or.inr (Or.inl rfl) | exact Or.inr (Or.inr rfl)) (hd : (x == ("__debug__" : Str)) = false := by decide)
    (hcd : (x == ("__classdict__" : Str)) = false := by decide) : PE X (.Name x pos) (tVar i) := pe_var hN hv hd hcd
end
theorem iteF {A B : Prop} (h : B) : if false = true then A else B := by
  rw [if_neg Bool.false_ne_true]
  exact h
theorem iteT {A B : Prop} (h : A) : if true = true then A else B := by
  rw [if_pos rfl]
  exact h
theorem ite2 {c A B : Prop} [Decidable c] (h1 : c → A) (h2 : ¬ c → B) : if c then A else B := by
  by_cases h : c
  · rw [if_pos h]
    exact h1 h
  · rw [if_neg h]
    exact h2 h
def Same (H H' : Hp) : Prop := ∀ b o, H b = some o → H' b = some o
theorem Same.refl (H : Hp) : Same H H := fun _ _ h => h
theorem Same.trans {H H1 H2 : Hp} (a : Same H H1) (b : Same H1 H2) : Same H H2 := fun c o h => b c o (a c o h)
theorem Same.free {H H' : Hp} (e : Same H H') {l : Addr} (h : H' l = Option.none) : H l = Option.none := by
  cases q : H l with
  | none => rfl
  | some o =>
    rw [e l o q] at h
    cases h
theorem Same.seq {K : PySem.W.Frag} {H H' : Hp} {a : Addr} {xs : List V} (e : Same H H') (h : SqL K H a xs) : SqL K H' a xs := by
  rcases h with (h | ⟨o, h⟩) | h
  · exact .inl (.inl (e _ _ h))
  · exact .inl (.inr ⟨o, e _ _ h⟩)
  · exact .inr h
end L2
set_option maxHeartbeats 4000000
namespace L2
open PySem PySem.Spec PyProof.Rows
section
variable {κ : Type} [DecidableEq κ]
def valV (kvs : List (κ × V)) (k : κ) : Option V := (kvs.find? fun kv => decide (kv.1 = k)).map (·.2)
def putK (kvs : List (κ × V)) (k : κ) (v : V) : List (κ × V) :=
  if (kvs.any fun kv => decide (kv.1 = k)) = true then kvs.map (fun kv => if kv.1 = k then (kv.1, v) else kv) else kvs ++ [(k, v)]
def dropK (kvs : List (κ × V)) (k : κ) : List (κ × V) := kvs.filter fun kv => decide (kv.1 ≠ k)
theorem valV_pos {p : κ × V} {r : List (κ × V)} {k : κ} (e : p.1 = k) : valV (p :: r) k = some p.2 := by simp [valV, List.find?_cons, e]
theorem valV_neg {p : κ × V} {r : List (κ × V)} {k : κ} (e : ¬ p.1 = k) : valV (p :: r) k = valV r k := by simp [valV, List.find?_cons, e]
theorem valV_any (k : κ) : ∀ kvs : List (κ × V), (kvs.any fun kv => decide (kv.1 = k)) = (valV kvs k).isSome
  | [] => rfl
  | p :: r => by
    rw [List.any_cons]
    by_cases e : p.1 = k
    · simp only [valV_pos e, decide_eq_true e, Bool.true_or, Option.isSome_some]
    · rw [valV_neg e, decide_eq_false e, Bool.false_or]; exact valV_any k r
theorem length_putK (kvs : List (κ × V)) (k : κ) (v : V) : (putK kvs k v).length ≤ kvs.length + 1 := by
  unfold putK
  split
  · rw [List.length_map]; omega
  · rw [List.length_append, List.length_cons, List.length_nil]; omega
theorem putK_new {kvs : List (κ × V)} {k : κ} (v : V) (h : valV kvs k = none) : putK kvs k v = kvs ++ [(k, v)] := by
  unfold putK
  rw [valV_any, h]
  exact if_neg (by decide)
theorem RelO.isSome_eq {o : Option V} {u : Option Value} (r : RelO o u) : o.isSome = u.isSome := by
  cases o with
  | none => cases u with
    | none => rfl
    | some _ => exact (show False from r).elim
  | some _ => cases u with
    | none => exact (show False from r).elim
    | some _ => rfl
theorem RelO.getD {o : Option V} {u : Option Value} {d : V} {d' : Value} (r : RelO o u) (rd : RelV d d') : RelV (o.getD d) (u.getD d') := by
  cases o with
  | none => cases u with
    | none => exact rd
    | some _ => exact (show False from r).elim
  | some _ => cases u with
    | none => exact (show False from r).elim
    | some _ => exact r
theorem KV.val {kvs : List (κ × V)} {vs : List (κ × Value)} (r : KV kvs vs) (k : κ) : RelO (valV kvs k) (valueAt vs k) := by
  unfold KV at r
  induction r with
  | nil => exact True.intro
  | @cons p q ps qs h t ih =>
    obtain ⟨h1, h2⟩ := h
    by_cases e : p.1 = k
    · have e' : q.1 = k := h1.symm.trans e
      have b : valueAt (q :: qs) k = some q.2 := by simp [valueAt, List.find?_cons, e']
      rw [valV_pos e, b]; exact h2
    · have e' : ¬ q.1 = k := fun z => e (h1.trans z)
      have b : valueAt (q :: qs) k = valueAt qs k := by simp [valueAt, List.find?_cons, e']
      rw [valV_neg e, b]; exact ih
theorem KV.any {kvs : List (κ × V)} {vs : List (κ × Value)} (r : KV kvs vs) (k : κ) : (kvs.any fun kv => decide (kv.1 = k)) = vs.any fun kv => decide (kv.1 = k) := by
  unfold KV at r
  induction r with
  | nil => rfl
  | cons h t ih => rw [List.any_cons, List.any_cons, ih, h.1]
theorem KV.repl {kvs : List (κ × V)} {vs : List (κ × Value)} (r : KV kvs vs) (k : κ) {y : V} {u : Value} (ry : RelV y u) :
    KV (kvs.map fun kv => if kv.1 = k then (kv.1, y) else kv) (vs.map fun kv => if kv.1 = k then (kv.1, u) else kv) := by
  unfold KV at r ⊢
  induction r with
  | nil => exact .nil
  | @cons p q ps qs h t ih =>
    rw [List.map_cons, List.map_cons]
    refine .cons ?_ ih
    obtain ⟨h1, h2⟩ := h
    by_cases e : p.1 = k
    · rw [if_pos e, if_pos (h1.symm.trans e)]; exact ⟨h1, ry⟩
    · rw [if_neg e, if_neg (fun z => e (h1.trans z))]; exact ⟨h1, h2⟩
theorem KV.put {kvs : List (κ × V)} {vs : List (κ × Value)} (r : KV kvs vs) (k : κ) {y : V} {u : Value} (ry : RelV y u) : KV (putK kvs k y) (stored vs k u) := by
  unfold putK stored
  rw [r.any k]
  by_cases e : (vs.any fun kv => decide (kv.1 = k)) = true
  · rw [if_pos e, if_pos e]; exact r.repl k ry
  · rw [if_neg e, if_neg e]; exact Paired.snoc r ⟨rfl, ry⟩
theorem KV.drop {kvs : List (κ × V)} {vs : List (κ × Value)} (r : KV kvs vs) (k : κ) : KV (dropK kvs k) (without vs k) := by
  unfold KV at r ⊢
  unfold dropK without
  induction r with
  | nil => exact .nil
  | @cons p q ps qs h t ih =>
    obtain ⟨h1, h2⟩ := h
    rw [List.filter_cons, List.filter_cons]
    by_cases e : p.1 = k
    · have a : ¬ decide (p.1 ≠ k) = true := by simp [e]
      have b : ¬ decide (q.1 ≠ k) = true := by simp [h1.symm.trans e]
      rw [if_neg a, if_neg b]; exact ih
    · have e' : ¬ q.1 = k := fun z => e (h1.trans z)
      have a : decide (p.1 ≠ k) = true := by simp [e]
      have b : decide (q.1 ≠ k) = true := by simp [e']
      rw [if_pos a, if_pos b]; exact .cons ⟨h1, h2⟩ ih
theorem KV.keys {kvs : List (κ × V)} {vs : List (κ × Value)} (r : KV kvs vs) : kvs.map (·.1) = vs.map (·.1) := by
  unfold KV at r
  induction r with
  | nil => rfl
  | cons h t ih => rw [List.map_cons, List.map_cons, ih, h.1]
theorem KV.length {kvs : List (κ × V)} {vs : List (κ × Value)} (r : KV kvs vs) : kvs.length = vs.length := Paired.length r
end
theorem kV_is {P : Program} {w : World} {k : Key} {u : Value} (r : RelV (kV k) u) : (mixKind P w).is k u = true := by
  cases k with
  | inl i => obtain ⟨t, e⟩ := (show ∃ t, u = Value.int i t from r); subst e; exact mixKind_int P w i t
  | inr x => obtain ⟨t, e⟩ := (show ∃ t, u = Value.str x t from r); subst e; exact mixKind_str P w x t
theorem kV_inj {a b : Key} (e : kV a = kV b) : a = b := by
  cases a with
  | inl i => cases b with
    | inl j => have e' : V.int i = V.int j := e; injection e' with e'; rw [e']
    | inr y => exact nomatch (show V.int i = V.str y from e)
  | inr x => cases b with
    | inl j => exact nomatch (show V.str x = V.int j from e)
    | inr y => have e' : V.str x = V.str y := e; injection e' with e'; rw [e']
theorem items_are {P : Program} {w : World} : ∀ {ks : List Key} {us : List Value}, Vals (ks.map kV) us → ItemsAre (mixKind P w) ks us
  | [], _, r => by rw [List.map_nil] at r; cases r; exact .nil
  | k :: ks, _, r => by
    rw [List.map_cons] at r
    cases r with
    | cons h t => exact .cons (kV_is h) (items_are t)
abbrev KT (H : Hp) : List (List Key × V) → List (List Key × Addr × Value) → Prop := Paired fun p q => p.1 = q.1 ∧ H q.2.1 = some (.tup (p.1.map kV)) ∧ RelV p.2 q.2.2
theorem KT.val {H : Hp} {kvs : List (List Key × V)} {xs : List (List Key × Addr × Value)} (r : KT H kvs xs) (k : List Key) : RelO (valV kvs k) ((atKey xs k).map (·.2)) := by
  induction r with
  | nil => exact True.intro
  | @cons p q ps qs h t ih =>
    obtain ⟨h1, _, h2⟩ := h
    by_cases e : p.1 = k
    · have e' : q.1 = k := h1.symm.trans e
      have b : atKey (q :: qs) k = some q.2 := by simp [atKey, List.find?_cons, e']
      rw [valV_pos e, b]; exact h2
    · have e' : ¬ q.1 = k := fun z => e (h1.trans z)
      have b : atKey (q :: qs) k = atKey qs k := by simp [atKey, List.find?_cons, e']
      rw [valV_neg e, b]; exact ih
theorem KT.repl {H : Hp} {kvs : List (List Key × V)} {xs : List (List Key × Addr × Value)} (r : KT H kvs xs) (k : List Key) {y : V} {u : Value} (ry : RelV y u) :
    KT H (kvs.map fun kv => if kv.1 = k then (kv.1, y) else kv) (xs.map (putAt k u)) := by
  induction r with
  | nil => exact .nil
  | @cons p q ps qs h t ih =>
    rw [List.map_cons, List.map_cons]
    refine .cons ?_ ih
    obtain ⟨h1, h2, h3⟩ := h
    unfold putAt
    by_cases e : p.1 = k
    · rw [if_pos e, if_pos (h1.symm.trans e)]; exact ⟨h1, h2, ry⟩
    · rw [if_neg e, if_neg (fun z => e (h1.trans z))]; exact ⟨h1, h2, h3⟩
theorem KT.put {H : Hp} {kvs : List (List Key × V)} {xs : List (List Key × Addr × Value)} (r : KT H kvs xs) (k : List Key) {b : Addr} {y : V} {u : Value} (hb : H b = some (.tup (k.map kV))) (ry : RelV y u) :
    KT H (putK kvs k y) (storedH xs k b u) := by
  have e : (kvs.any fun kv => decide (kv.1 = k)) = (atKey xs k).isSome := by
    rw [valV_any, (r.val k).isSome_eq, Option.isSome_map]
  unfold putK storedH
  rw [e]
  by_cases q : (atKey xs k).isSome = true
  · rw [if_pos q, if_pos q]; exact r.repl k ry
  · rw [if_neg q, if_neg q]; exact Paired.snoc r ⟨rfl, hb, ry⟩
theorem KT.keeps {H H' : Hp} {kvs : List (List Key × V)} {xs : List (List Key × Addr × Value)} (r : KT H kvs xs) (ht : ∀ b ys, H b = some (.tup ys) → H' b = some (.tup ys)) : KT H' kvs xs :=
  Paired.mapP r fun _ _ z => ⟨z.1, ht _ _ z.2.1, z.2.2⟩
section
variable {P : Program} {w : World} {H : Hp} {h : Heap} {a : Addr}
theorem rd_of {u : HO} (ok : HOk P w H h) (e : Rd H a u) : ObjOk P w H h a u := e.ok ok
theorem dk_rd {kvs : List (Key × V)} (ok : HOk P w H h) (e : Rd H a (.dK kvs)) : kvs.length ≤ sizeLine ∧ (a == sysModules) = false ∧ ∃ vs, KV kvs vs ∧ h.DictOf (mixKind P w) a vs :=
  show ObjOk P w H h a (.dK kvs) from rd_of ok e
theorem dk_of {kvs : List (Key × V)} (ok : HOk P w H h) (e : H a = some (.dK kvs)) : kvs.length ≤ sizeLine ∧ (a == sysModules) = false ∧ ∃ vs, KV kvs vs ∧ h.DictOf (mixKind P w) a vs := dk_rd ok (.inl e)
theorem key_of {ks : List Key} (ok : HOk P w H h) (e : H a = some (.tup (ks.map kV))) : (tupleKind (mixKind P w)).is h ks a := by
  obtain ⟨_, its, r, o, h1, h2, n, h3⟩ := (show ObjOk P w H h a (.tup (ks.map kV)) from ok a _ e)
  exact ⟨o, its.toArray, n, h1, h2, h3, by simpa using items_are r⟩
theorem dt_rd {kvs : List (List Key × V)} (ok : HOk P w H h) (e : Rd H a (.dT kvs)) : kvs.length ≤ sizeLine ∧ (a == sysModules) = false ∧
    ∃ xs, KT H kvs xs ∧ h.DictOfH (tupleKind (mixKind P w)) a xs := by
  obtain ⟨z, y, xs, r, o, es, ep, h1, h2, h3, h4, h5⟩ := (show ObjOk P w H h a (.dT kvs) from rd_of ok e)
  refine ⟨z, y, xs, r, o, es, ep, h1, h2, h3, h4, fun x hx => ?_, h5⟩
  have all : ∀ {l : List (List Key × V)} {m : List (List Key × Addr × Value)}, KT H l m → ∀ x ∈ m, (tupleKind (mixKind P w)).is h x.1 x.2.1 := by
    intro l m q
    induction q with
    | nil => intro x hx; exact nomatch hx
    | @cons p q ps qs hq t ih =>
      intro x hx
      rcases List.mem_cons.mp hx with e | hx
      · subst e
        exact key_of ok (by rw [← hq.1]; exact hq.2.1)
      · exact ih x hx
  exact all r x hx
theorem dt_of {kvs : List (List Key × V)} (ok : HOk P w H h) (e : H a = some (.dT kvs)) : kvs.length ≤ sizeLine ∧ (a == sysModules) = false ∧
    ∃ xs, KT H kvs xs ∧ h.DictOfH (tupleKind (mixKind P w)) a xs := dt_rd ok (.inl e)
end
def DGet (H : Hp) (a : Addr) (y : V) (r : Option V) : Prop :=
  (∃ kvs k, Rd H a (.dK kvs) ∧ y = kV k ∧ r = valV kvs k) ∨ ∃ kvs k b, Rd H a (.dT kvs) ∧ y = .ref b ∧ H b = some (.tup (k.map kV)) ∧ r = valV kvs k
def DPut (H : Hp) (a : Addr) (y v : V) (H' : Hp) : Prop :=
  (∃ kvs k, H a = some (.dK kvs) ∧ y = kV k ∧ kvs.length < sizeLine ∧ H' = upd H a (.dK (putK kvs k v))) ∨
  ∃ kvs k b, H a = some (.dT kvs) ∧ y = .ref b ∧ H b = some (.tup (k.map kV)) ∧ kvs.length < sizeLine ∧ H' = upd H a (.dT (putK kvs k v))
theorem DGet.k {H : Hp} {a : Addr} {kvs : List (Key × V)} {k : Key} (e : H a = some (.dK kvs)) : DGet H a (kV k) (valV kvs k) := .inl ⟨kvs, k, .inl e, rfl, rfl⟩
theorem DGet.t {H : Hp} {a b : Addr} {kvs : List (List Key × V)} {k : List Key} (e : H a = some (.dT kvs)) (eb : H b = some (.tup (k.map kV))) : DGet H a (.ref b) (valV kvs k) := .inr ⟨kvs, k, b, .inl e, rfl, eb, rfl⟩
theorem DPut.k {H : Hp} {a : Addr} {kvs : List (Key × V)} {k : Key} {v : V} (e : H a = some (.dK kvs)) (hl : kvs.length < sizeLine) : DPut H a (kV k) v (upd H a (.dK (putK kvs k v))) := .inl ⟨kvs, k, e, rfl, hl, rfl⟩
theorem DPut.t {H : Hp} {a b : Addr} {kvs : List (List Key × V)} {k : List Key} {v : V} (e : H a = some (.dT kvs)) (eb : H b = some (.tup (k.map kV))) (hl : kvs.length < sizeLine) :
    DPut H a (.ref b) v (upd H a (.dT (putK kvs k v))) := .inr ⟨kvs, k, b, e, rfl, eb, hl, rfl⟩
section
variable {X : Cx} {pins : List (Addr × Obj)} {σ : St} {H : Hp} {s : Shared} {a : Addr} {y v : V} {u r : Value} {o : Option V} {A : Around} {E : Value → Shared → Prop}
theorem Inv.big (I : Inv X pins σ H s) : sysModules < s.heap.objs.size := by
  have h : mainGlobals < s.heap.objs.size := (I.mod.glob.keeps I.bk).lt
  exact Nat.lt_trans (by decide) h
theorem d_getItem {Q : Value → Shared → Prop} (hu : A.units + 1 < cLine) (I : Inv X pins σ H s) (g : DGet H a y (some v)) (ry : RelV y u) (h : ∀ w' s', Inv X pins σ H s' → RelV v w' → Q w' s') :
    wpAny (model X.prog X.w) A (getItem (.ref a) u) Q E s := by
  rcases g with ⟨kvs, k, e, ey, l⟩ | ⟨kvs, k, b, e, ey, eb, l⟩
  · subst ey
    obtain ⟨z, hd, vs, rel, dd⟩ := dk_rd I.hok e
    obtain ⟨w', hw, rw'⟩ := RelO.some_of (v := v) (o := valueAt vs k) (by rw [l]; exact rel.val k)
    exact wpAny_getItem_of (kV_is ry) dd.mapOf hw (h w' _ (I.tok _) rw')
  · subst ey
    cases (show u = Value.ref b from ry)
    obtain ⟨z, hd, xs, rel, dd⟩ := dt_rd I.hok e
    obtain ⟨w', hw, rw'⟩ := RelO.some_of (v := v) (o := (atKey xs k).map (·.2)) (by rw [l]; exact rel.val k)
    obtain ⟨p, hp, hp2⟩ := Option.map_eq_some_iff.mp hw
    refine wpAny_getItem_heap (tupleKind_room_in1 hu) (key_of I.hok eb) dd hp ?_
    rw [hp2]
    exact h w' _ (I.tok _) rw'
theorem d_in {Q : Value → Shared → Prop} (hu : A.units + 1 < cLine) (I : Inv X pins σ H s) (g : DGet H a y o) (ry : RelV y u) (h : ∀ s', Inv X pins σ H s' → Q (.bool o.isSome) s') :
    wpAny (model X.prog X.w) A (compareOp .In u (.ref a)) Q E s := by
  rcases g with ⟨kvs, k, e, ey, l⟩ | ⟨kvs, k, b, e, ey, eb, l⟩
  · subst ey
    obtain ⟨z, hd, vs, rel, dd⟩ := dk_rd I.hok e
    refine wpAny_in_of (kV_is ry) hd dd.mapOf ?_
    rw [← (rel.val k).isSome_eq, ← l]
    exact h _ (I.tok _)
  · subst ey
    cases (show u = Value.ref b from ry)
    obtain ⟨z, hd, xs, rel, dd⟩ := dt_rd I.hok e
    refine wpAny_in_heap (tupleKind_room_in1 hu) (key_of I.hok eb) hd dd ?_
    have q := (rel.val k).isSome_eq
    rw [Option.isSome_map] at q
    rw [← q, ← l]
    exact h _ (I.tok _)
theorem d_write {h' : Heap} {t' : Nat} {ob : HO} (I : Inv X pins σ H s) (mu : Mut (H a)) (hs : Heap.SameBut a s.heap h') (he : ∃ q, h'.get? a = some q) (new : ObjOk X.prog X.w (upd H a ob) h' a ob) :
    Inv X pins σ (upd H a ob) { s with heap := h', toks := t' } :=
  I.write (x := a) (e := a) mu (.inl rfl) (fun b q hb z => (hs.2 b hb).trans z) he new
theorem dk_new {P : Program} {w : World} {H' : Hp} {h' : Heap} {kvs : List (Key × V)} {vs : List (Key × Value)} (z : kvs.length ≤ sizeLine) (hd : (a == sysModules) = false) (rel : KV kvs vs) (dd : h'.DictOf (mixKind P w) a vs) :
    ObjOk P w H' h' a (.dK kvs) := ⟨z, hd, vs, rel, dd⟩
theorem d_setItem {H' : Hp} {Q : Unit → Shared → Prop} (hu : A.units + 1 < cLine) (I : Inv X pins σ H s) (g : DPut H a y v H') (ry : RelV y u) (rv : RelV v r) (h : ∀ s', Inv X pins σ H' s' → Q () s') :
    wpAny (model X.prog X.w) A (setItem (.ref a) u r) Q E s := by
  rcases g with ⟨kvs, k, e, ey, l, eH⟩ | ⟨kvs, k, b, e, ey, eb, l, eH⟩
  · subst ey eH
    obtain ⟨z, hd, vs, rel, dd⟩ := dk_of I.hok e
    have hz : vs.length ≤ sizeLine := by rw [← rel.length]; exact z
    have hl : (putK kvs k v).length ≤ sizeLine := by have := length_putK kvs k v; omega
    refine wpAny_setItem_pairs (hsz := hz) (kV_is ry) dd fun h' dd' hs => h _ ?_
    have he : ∃ q, h'.get? a = some q := let ⟨q, _, _, hq, _⟩ := dd'; ⟨q, hq⟩
    exact d_write I (by rw [e]; exact True.intro) hs he (dk_new hl hd (rel.put k rv) dd')
  · subst ey eH
    cases (show u = Value.ref b from ry)
    obtain ⟨z, hd, xs, rel, dd⟩ := dt_of I.hok e
    have hz : xs.length ≤ sizeLine := by rw [← Paired.length rel]; exact z
    have hl : (putK kvs k v).length ≤ sizeLine := by have := length_putK kvs k v; omega
    refine wpAny_setItem_heap (hsz := hz) (tupleKind_room_in1 hu) (key_of I.hok eb) dd fun h' dd' hs => h _ ?_
    obtain ⟨q, es, ep, hq, h2, h3, h4, _, h5⟩ := dd'
    refine d_write I (by rw [e]; exact True.intro) hs ⟨q, hq⟩ ⟨hl, hd, _, (rel.put k eb rv).keeps fun c ys ec => ?_, q, es, ep, hq, h2, h3, h4, h5⟩
    rw [upd_ne (ne_of ec e (fun z => nomatch z))]
    exact ec
end
section
variable {X : Cx} {pins : List (Addr × Obj)} {σ : St} {H : Hp} {s : Shared} {a : Addr} {kvs : List (Key × V)} {k : Key} {u : Value} {A : Around} {E : Value → Shared → Prop}
end
def NoSl (i : Expr) : Prop := ∀ ov iv, subscripted i false ov iv = operate [ov, iv] (getItem ov iv)
theorem subD_of {prog : Program} {w : World} {A : Around} {E : Value → Shared → Prop} {s : Shared} {env : Env} {value slice : Expr} {pos : Pos} {T id : String} {Q : Value → Shared → Prop}
    (hl : typeLookup (.type T) "__getitem__" = pure (some (.builtin id))) (hs : NoSl slice)
    (h : wpAny (model prog w) A (eval value env) (fun o s₁ => wpAny (model prog w) A (eval slice env) (fun i s₂ => s₂.TypeIs o T ∧ wpAny (model prog w) A (getItem o i) Q E s₂) E s₁) E s) :
    wpAny (model prog w) A (eval (.Subscript value slice pos) env) Q E s := by
  refine Subscript_ (wpAny_mono h (fun o s₁ h₁ => wpAny_mono h₁ (fun i s₂ h₂ => ?_) fun _ _ x => x) fun _ _ x => x)
  obtain ⟨hT, h₂⟩ := h₂
  unfold subscriptTail
  refine wpAny_bind ?_
  rw [getitemInPython_of_ne hT.not_modules]
  refine wpAny_bind (wpAny_specialOf hT hl ?_)
  have fin : wpAny (model prog w) A (subscripted slice false o i) (fun r s₃ => wpAny (model prog w) A (letTemporaryGo value o r >>= fun _ => pure r) Q E s₃) E s₂ := by
    rw [hs o i]
    exact wpAny_operating (wpAny_mono h₂ (fun r s₃ h₃ => wpAny_bind (wpAny_letTemporaryGo (wpAny_pure h₃))) fun _ _ x => x)
  first
    | exact wpAny_pure (wpAny_bind fin)
    | exact wpAny_bind (wpAny_pure (wpAny_bind fin))
    | exact wpAny_bind fin
theorem dict_typeIs {X : Cx} {pins : List (Addr × Obj)} {σ : St} {H : Hp} {s : Shared} {a : Addr} {y : V} {o : Option V} (I : Inv X pins σ H s) (g : DGet H a y o) : s.TypeIs (.ref a) "dict" := by
  rcases g with ⟨kvs, k, e, _, _⟩ | ⟨kvs, k, b, e, _, _, _⟩
  · obtain ⟨_, _, vs, _, dd⟩ := dk_rd I.hok e
    exact dd.typeIs
  · obtain ⟨_, _, xs, _, dd⟩ := dt_rd I.hok e
    exact dd.typeIs
def tDGet (td ty : TE) : TE := fun σ H Q => td σ H fun x H1 => ty σ H1 fun y H2 => ∃ a v, x = .ref a ∧ DGet H2 a y (some v) ∧ Q v H2
def tDIn (ty td : TE) : TE := fun σ H Q => ty σ H fun y H1 => td σ H1 fun x H2 => ∃ a o, x = .ref a ∧ DGet H2 a y o ∧ Q (.bl o.isSome) H2
def tDNotIn (ty td : TE) : TE := fun σ H Q => ty σ H fun y H1 => td σ H1 fun x H2 => ∃ a o, x = .ref a ∧ DGet H2 a y o ∧ Q (.bl (!o.isSome)) H2
def sDPut (td ty tv : TE) : TS := fun D σ H => tv σ H fun v H1 => td σ H1 fun x H2 => ty σ H2 fun y H3 => ∃ a H4, x = .ref a ∧ DPut H3 a y v H4 ∧ D.nx σ H4
def sDAug (td ty tv : TE) (rd : V → V → Hp → VK → Prop) : TS := fun D σ H => td σ H fun x H1 => ty σ H1 fun y H2 => ∃ a v, x = .ref a ∧ DGet H2 a y (some v) ∧
  tv σ H2 fun y2 H3 => rd v y2 H3 fun z H4 => ∃ H5, DPut H4 a y z H5 ∧ D.nx σ H5
def sDDel (td ty : TE) : TS := fun D σ H => td σ H fun x H1 => ty σ H1 fun y H2 => ∃ a kvs k, x = .ref a ∧ H2 a = some (.dK kvs) ∧ y = kV k ∧ (valV kvs k).isSome = true ∧ D.nx σ (upd H2 a (.dK (dropK kvs k)))
section
variable {X : Cx} {o i e value : Expr} {pos pos' tpos : Pos} {td ty tv : TE}
theorem pe_dget (hu : X.A.units + 1 < cLine) (ho : PE X o td) (hi : PE X i ty) (hs : NoSl i) : PE X (.Subscript o i pos) (tDGet td ty) := by
  intro pins s σ H Q I h
  refine subD_of PySem.F.slot_dict_getitem.lookup hs (thn (ho pins s σ H _ I h) fun u s1 ⟨x, H1, I1, rx, q1⟩ => thn (hi pins s1 σ H1 _ I1 q1) fun iv s2 ⟨y, H2, I2, ry, a, v, ex, g, q2⟩ => ?_)
  subst ex
  obtain rfl : u = Value.ref a := rx
  exact ⟨dict_typeIs I2 g, d_getItem hu I2 g ry fun w' s3 I3 rw' => ⟨v, H2, I3, rw', q2⟩⟩
theorem pc_din (hu : X.A.units + 1 < cLine) (hi : PE X i ty) (ho : PE X o td) : PC X .In i o (tDIn ty td) := by
  intro pins s σ H Q I h
  refine thn (hi pins s σ H _ I h) fun iv s1 ⟨y, H1, I1, ry, q1⟩ => thn (ho pins s1 σ H1 _ I1 q1) fun u s2 ⟨x, H2, I2, rx, a, ov, ex, g, q2⟩ => ?_
  subst ex
  obtain rfl : u = Value.ref a := rx
  exact d_in hu I2 g ry fun s3 I3 => ⟨.bl ov.isSome, H2, I3, rfl, q2⟩
theorem ps_dput (hu : X.A.units + 1 < cLine) (ho : PE X o td) (hi : PE X i ty) (hv : PE X value tv) (hs : swapsWith value (some (.Subscript o i pos')) pos.line X.env = pure false) :
    PS X (.Assign [.Subscript o i pos'] value pos) (sDPut td ty tv) := by
  intro pins s σ H D I h
  refine wpAny_Assign_Subscript (thn (hv pins s σ H _ I h) fun r s1 ⟨v, H1, I1, rv, q1⟩ => thn (ho pins s1 σ H1 _ I1 q1) fun u s2 ⟨x, H2, I2, rx, q2⟩ => thn (hi pins s2 σ H2 _ I2 q2) fun iv s3 ⟨y, H3, I3, ry, a, H4, ex, g, q3⟩ => ?_) hs
  subst ex
  obtain rfl : u = Value.ref a := rx
  exact d_setItem hu I3 g ry rv fun s4 I4 => ⟨σ, H4, I4, q3⟩
end
theorem dk_empty {P : Program} {w : World} {H : Hp} (h : Heap) (hb : sysModules < h.objs.size) : ObjOk P w H (h.push { cls := .type "dict", data := .dict #[] }) h.objs.size (.dK []) :=
  ⟨Nat.zero_le _, beq_eq_false_iff_ne.mpr (Ne.symm (Nat.ne_of_lt hb)), [], .nil, Heap.DictOf.new h⟩
def tDNewK : TE := fun _ H Q => ∀ p, H p = none → Q (.ref p) (upd H p (.dK []))
def tDNewT : TE := fun _ H Q => ∀ p, H p = none → Q (.ref p) (upd H p (.dT []))
section
variable {X : Cx} {pos : Pos}
theorem pe_dnewK : PE X (.Dict [] [] pos) tDNewK := fun pins s σ H Q I h =>
  wpAny_Dict_empty ⟨.ref s.heap.objs.size, _, I.laid (a := s.heap.objs.size) (o := .dK []) (t' := s.toks) (fun _ _ q => Heap.get?_push_of_some _ q) (Nat.le_refl _) (dk_empty s.heap I.big), rfl, h _ (I.hok.fresh (Nat.le_refl _))⟩
end
def tPairs : List (TE × TE) → St → Hp → (List (V × V) → Hp → Prop) → Prop
  | [], _, H, Q => Q [] H
  | (tk, tv) :: r, σ, H, Q => tk σ H fun x H1 => tv σ H1 fun y H2 => tPairs r σ H2 fun ps H3 => Q ((x, y) :: ps) H3
abbrev VV : List (V × V) → List (Value × Value) → Prop := Paired fun p q => RelV p.1 q.1 ∧ RelV p.2 q.2
def PPs (X : Cx) (pos : Pos) (keys : List (Option Expr)) (values : List Expr) (trs : List (TE × TE)) : Prop :=
  ∀ (pins : List (Addr × Obj)) (s : Shared) (σ : St) (H : Hp) (Q : List (V × V) → Hp → Prop), Inv X pins σ H s → tPairs trs σ H Q →
    wpAny (model X.prog X.w) X.A (evalPairs (pairTrees keys values X.env pos)) (fun vs s' => ∃ ps H', Inv X pins σ H' s' ∧ VV ps vs ∧ Q ps H') X.xe s
def mergeK (kvs more : List (Key × V)) : List (Key × V) := more.foldl (fun acc kv => putK acc kv.1 kv.2) kvs
def tDisp (trs : List (TE × TE)) : TE := fun σ H Q => ∀ p, H p = none → tPairs trs σ (upd H p (.dK [])) fun ps H2 => H2 p = some (.dK []) ∧ ∃ kvs : List (Key × V), ps = kvs.map (fun kv => (kV kv.1, kv.2)) ∧ kvs.length ≤ 15 ∧ Q (.ref p) (upd H2 p (.dK (mergeK [] kvs)))
structure M1 (X : Cx) (o : Expr) (m : Str) (apos : Pos) (e : Expr) (cpos : Pos) : Prop where
  base : attributeBase o m X.env (eval o X.env) = eval o X.env
  few : ((backTo cpos (starEach [e] X.env)).all (fun x => !x.1) && (backToKw cpos (keywordEach [] X.env)).all (fun x => x.1.isSome)
    && decide (([e] : List Expr).length + ([] : List Keyword).length + (if ([] : List Keyword).isEmpty then 0 else 1) < 30)) = true
  line : (apos.endLine == cpos.line) = true
  trees : backTo cpos (starEach [e] X.env) = [(false, eval e X.env)]
structure M2 (X : Cx) (o : Expr) (m : Str) (apos : Pos) (e f : Expr) (cpos : Pos) : Prop where
  base : attributeBase o m X.env (eval o X.env) = eval o X.env
  few : ((backTo cpos (starEach [e, f] X.env)).all (fun x => !x.1) && (backToKw cpos (keywordEach [] X.env)).all (fun x => x.1.isSome)
    && decide (([e, f] : List Expr).length + ([] : List Keyword).length + (if ([] : List Keyword).isEmpty then 0 else 1) < 30)) = true
  line : (apos.endLine == cpos.line) = true
  trees : backTo cpos (starEach [e, f] X.env) = [(false, eval e X.env), (false, eval f X.env)]
def IsD (H : Hp) (a : Addr) : Prop := (∃ kvs, Rd H a (.dK kvs)) ∨ ∃ kvs, Rd H a (.dT kvs)
theorem isD_at {X : Cx} {pins : List (Addr × Obj)} {σ : St} {H : Hp} {s : Shared} {a : Addr} (I : Inv X pins σ H s) (d : IsD H a) :
    s.TypeIs (.ref a) "dict" ∧ (∀ b, Value.ref a = .ref b → ∃ ob, s.heap.get? b = some ob ∧ ob.dict = none) ∧ (a == sysModules) = false := by
  rcases d with ⟨kvs, e⟩ | ⟨kvs, e⟩
  · obtain ⟨_, hd, vs, _, dd⟩ := dk_rd I.hok e
    refine ⟨dd.typeIs, fun b q => ?_, hd⟩
    cases q
    obtain ⟨ob, _, _, h1, h2, _⟩ := dd
    exact ⟨ob, h1, h2.2.1⟩
  · obtain ⟨_, hd, xs, _, dd⟩ := dt_rd I.hok e
    refine ⟨dd.typeIs, fun b q => ?_, hd⟩
    cases q
    obtain ⟨ob, _, _, h1, h2, _⟩ := dd
    exact ⟨ob, h1, h2.2.1⟩
section
variable {X : Cx} {pins : List (Addr × Obj)} {σ : St} {H : Hp} {s : Shared} {a : Addr} {y d : V} {u r : Value} {o : Option V} {A : Around} {E : Value → Shared → Prop}
theorem d_get1 {Q : Value → Shared → Prop} (hu : A.units + 1 < cLine) (I : Inv X pins σ H s) (g : DGet H a y o) (ry : RelV y u) (h : ∀ w' s', Inv X pins σ H s' → RelV (o.getD .non) w' → Q w' s') :
    wpAny (model X.prog X.w) A (call (.builtin "dict.get") [.ref a, u]) Q E s := by
  rcases g with ⟨kvs, k, e, ey, l⟩ | ⟨kvs, k, b, e, ey, eb, l⟩
  · subst ey
    obtain ⟨z, hd, vs, rel, dd⟩ := dk_rd I.hok e
    refine call_meetsIn PySem.F.slot_dict_get dd.typeIs PySem.F.entry_dict_get (PySem.F.args_dict_get_2 _ _) (meets_dict_get (mixKind X.prog X.w) a (kV_is ry) hd) ⟨_, dd.mapOf, h _ _ (I.tok _) ?_⟩
    rw [l]
    exact (rel.val k).getD rfl
  · subst ey
    cases (show u = Value.ref b from ry)
    obtain ⟨z, hd, xs, rel, dd⟩ := dt_rd I.hok e
    refine call_meetsIn PySem.F.slot_dict_get dd.typeIs PySem.F.entry_dict_get (PySem.F.args_dict_get_2 _ _) (meetsH_dict_get (tupleKind (mixKind X.prog X.w)) a b hd) ⟨tupleKind_room_in1 hu, k, xs, key_of I.hok eb, dd, h _ _ (I.tok _) ?_⟩
    rw [l]
    exact (rel.val k).getD rfl
theorem d_get2 {Q : Value → Shared → Prop} (hu : A.units + 1 < cLine) (I : Inv X pins σ H s) (g : DGet H a y o) (ry : RelV y u) (rd : RelV d r) (h : ∀ w' s', Inv X pins σ H s' → RelV (o.getD d) w' → Q w' s') :
    wpAny (model X.prog X.w) A (call (.builtin "dict.get") [.ref a, u, r]) Q E s := by
  rcases g with ⟨kvs, k, e, ey, l⟩ | ⟨kvs, k, b, e, ey, eb, l⟩
  · subst ey
    obtain ⟨z, hd, vs, rel, dd⟩ := dk_rd I.hok e
    refine call_meetsIn PySem.F.slot_dict_get dd.typeIs PySem.F.entry_dict_get (PySem.F.args_dict_get_3 _ _ _) (meets_dict_get_default (mixKind X.prog X.w) a (kV_is ry) hd r) ⟨_, dd.mapOf, h _ _ (I.tok _) ?_⟩
    rw [l]
    exact (rel.val k).getD rd
  · subst ey
    cases (show u = Value.ref b from ry)
    obtain ⟨z, hd, xs, rel, dd⟩ := dt_rd I.hok e
    refine call_meetsIn PySem.F.slot_dict_get dd.typeIs PySem.F.entry_dict_get (PySem.F.args_dict_get_3 _ _ _) (meetsH_dict_get_default (tupleKind (mixKind X.prog X.w)) a b hd r) ⟨tupleKind_room_in1 hu, k, xs, key_of I.hok eb, dd, h _ _ (I.tok _) ?_⟩
    rw [l]
    exact (rel.val k).getD rd
end
def tDGet1 (td ty : TE) : TE := fun σ H Q => td σ H fun x H1 => ∃ a, x = .ref a ∧ IsD H1 a ∧ ty σ H1 fun y H2 => ∃ o, DGet H2 a y o ∧ Q (o.getD .non) H2
def tDGet2 (td ty tx : TE) : TE := fun σ H Q => td σ H fun x H1 => ∃ a, x = .ref a ∧ IsD H1 a ∧ ty σ H1 fun y H2 => tx σ H2 fun z H3 => ∃ o, DGet H3 a y o ∧ Q (o.getD z) H3
def tDPop1 (td ty : TE) : TE := fun σ H Q => td σ H fun x H1 => ∃ a, x = .ref a ∧ IsD H1 a ∧ ty σ H1 fun y H2 => ∃ kvs k v, H2 a = some (.dK kvs) ∧ y = kV k ∧ valV kvs k = some v ∧ Q v (upd H2 a (.dK (dropK kvs k)))
def tDPop2 (td ty tx : TE) : TE := fun σ H Q => td σ H fun x H1 => ∃ a, x = .ref a ∧ IsD H1 a ∧ ty σ H1 fun y H2 => tx σ H2 fun z H3 => ∃ kvs k, H3 a = some (.dK kvs) ∧ y = kV k ∧
  (∀ v, valV kvs k = some v → Q v (upd H3 a (.dK (dropK kvs k)))) ∧ (valV kvs k = none → Q z H3)
section
variable {X : Cx} {o e f : Expr} {apos cpos : Pos} {td ty tx : TE}
theorem pe_dget1 (hu : X.A.units + 1 < cLine) (ho : PE X o td) (he : PE X e ty) (m : M1 X o "get" apos e cpos) : PE X (.Call (.Attribute o "get" apos) [e] [] cpos) (tDGet1 td ty) := by
  intro pins s σ H Q I h
  refine wpAny_Call_method m.base m.few m.line PySem.F.plainAttrs_dict PySem.F.slot_dict_get PySem.F.type_dict_get (thn (ho pins s σ H _ I h) fun u s1 ⟨x, H1, I1, rx, a, ex, d, q1⟩ => ?_)
  subst ex
  obtain rfl : u = Value.ref a := rx
  obtain ⟨t1, t2, _⟩ := isD_at I1 d
  refine ⟨t1, t2, ?_⟩
  rw [m.trees]
  refine Calls.callWith_builtin rfl (Calls.evalArgs_plain (Calls.spliced_cons (thn (he pins s1 σ H1 _ I1 q1) fun iv s2 ⟨y, H2, I2, ry, ov, g, q2⟩ => Calls.spliced_nil ?_)))
  exact d_get1 hu I2 g ry fun w' s3 I3 rw' => ⟨_, H2, I3, rw', q2⟩
theorem pe_dget2 (hu : X.A.units + 1 < cLine) (ho : PE X o td) (he : PE X e ty) (hf : PE X f tx) (m : M2 X o "get" apos e f cpos) : PE X (.Call (.Attribute o "get" apos) [e, f] [] cpos) (tDGet2 td ty tx) := by
  intro pins s σ H Q I h
  refine wpAny_Call_method m.base m.few m.line PySem.F.plainAttrs_dict PySem.F.slot_dict_get PySem.F.type_dict_get (thn (ho pins s σ H _ I h) fun u s1 ⟨x, H1, I1, rx, a, ex, d, q1⟩ => ?_)
  subst ex
  obtain rfl : u = Value.ref a := rx
  obtain ⟨t1, t2, _⟩ := isD_at I1 d
  refine ⟨t1, t2, ?_⟩
  rw [m.trees]
  refine Calls.callWith_builtin rfl (Calls.evalArgs_plain (Calls.spliced_cons (thn (he pins s1 σ H1 _ I1 q1) fun iv s2 ⟨y, H2, I2, ry, q2⟩ =>
    Calls.spliced_cons (thn (hf pins s2 σ H2 _ I2 q2) fun fv s3 ⟨z, H3, I3, rz, ov, g, q3⟩ => Calls.spliced_nil ?_))))
  exact d_get2 hu I3 g ry rz fun w' s4 I4 rw' => ⟨_, H3, I4, rw', q3⟩
end
section
variable {X : Cx} {pins : List (Addr × Obj)} {σ : St} {H : Hp} {s : Shared} {a : Addr} {kvs : List (Key × V)} {A : Around} {E : Value → Shared → Prop}
end
section
variable {X : Cx} {pins : List (Addr × Obj)} {σ : St} {H : Hp} {s : Shared} {a : Addr} {y : V} {u : Value} {A : Around} {E : Value → Shared → Prop}
end
end L2
namespace L2
open PySem PySem.Spec PyProof.Rows
section
variable {X : Cx}
end
section
variable {κ : Type} [DecidableEq κ]
theorem nd_snoc : ∀ {l : List κ} {k : κ}, l.Nodup → ¬ k ∈ l → (l ++ [k]).Nodup
  | [], k, _, _ => by simp
  | a :: r, k, h, hk => by
    obtain ⟨h1, h2⟩ := List.nodup_cons.mp h
    show (a :: (r ++ [k])).Nodup
    refine List.nodup_cons.mpr ⟨fun m => ?_, nd_snoc h2 fun m => hk (List.mem_cons.mpr (Or.inr m))⟩
    rcases List.mem_append.mp m with q | q
    · exact h1 q
    · exact hk (List.mem_cons.mpr (Or.inl (List.mem_singleton.mp q).symm))
end
end L2
namespace Blk
open PySem
def J : List (List Nat) → List Nat
  | [] => []
  | [x] => x
  | x :: y :: r => x ++ 32 :: J (y :: r)
def C : List Nat → List (List Nat)
  | [] => [[]]
  | c :: r => if c = 32 then [] :: C r else match C r with
    | [] => [[c]]
    | p :: ps => (c :: p) :: ps
theorem C_free : ∀ (x : List Nat), 32 ∉ x → C x = [x]
  | [], _ => rfl
  | c :: r, h => by
    have h1 : ¬ c = 32 := fun e => h (by rw [e]; exact List.mem_cons_self)
    have ih := C_free r fun m => h (List.mem_cons_of_mem _ m)
    show (if c = 32 then _ else _) = _
    rw [if_neg h1, ih]
theorem C_app : ∀ (x r : List Nat), 32 ∉ x → C (x ++ 32 :: r) = x :: C r
  | [], r, _ => by
    show (if 32 = 32 then _ else _) = _
    rw [if_pos rfl]
  | c :: x, r, h => by
    have h1 : ¬ c = 32 := fun e => h (by rw [e]; exact List.mem_cons_self)
    have ih := C_app x r fun m => h (List.mem_cons_of_mem _ m)
    show (if c = 32 then _ else match C (x ++ 32 :: r) with | [] => [[c]] | p :: ps => (c :: p) :: ps) = _
    rw [if_neg h1, ih]
theorem C_J : ∀ (ps : List (List Nat)), ps ≠ [] → (∀ p ∈ ps, 32 ∉ p) → C (J ps) = ps
  | [], h, _ => absurd rfl h
  | [x], _, h => C_free x (h x List.mem_cons_self)
  | x :: y :: r, _, h => by
    show C (x ++ 32 :: J (y :: r)) = _
    rw [C_app x _ (h x List.mem_cons_self), C_J (y :: r) (by intro e; cases e) fun p hp => h p (List.mem_cons_of_mem _ hp)]
theorem J_snoc : ∀ (ws : List (List Nat)) (w : List Nat), J (ws ++ [w]) = (ws.map (· ++ [32])).flatten ++ w
  | [], w => rfl
  | [x], w => by
    show x ++ 32 :: w = _
    simp
  | x :: y :: r, w => by
    have ih := J_snoc (y :: r) w
    show x ++ 32 :: J (y :: r ++ [w]) = _
    rw [ih]
    simp
def sg (x : Str) : List Nat := x.cps.toList
theorem sg_inj {x y : Str} (h : sg x = sg y) : x = y := by
  obtain ⟨a⟩ := x
  obtain ⟨b⟩ := y
  have e : a.toList = b.toList := h
  rw [Array.toList_inj.mp e]
theorem sg_app (x y : Str) : sg (x ++ y) = sg x ++ sg y := Array.toList_append ..
theorem map_sg_inj : ∀ {a b : List Str}, a.map sg = b.map sg → a = b
  | [], [], _ => rfl
  | [], _ :: _, h => by cases h
  | _ :: _, [], h => by cases h
  | x :: a, y :: b, h => by
    have e := List.cons.inj h
    rw [sg_inj e.1, map_sg_inj e.2]
theorem J_join : ∀ ps : List Str, ps ≠ [] → sg (Str.join ⟨#[32]⟩ ps) = J (ps.map sg)
  | [], h => absurd rfl h
  | [x], _ => rfl
  | x :: y :: r, _ => by
    have ih := J_join (y :: r) (by intro e; cases e)
    show sg (x ++ ⟨#[32]⟩ ++ Str.join ⟨#[32]⟩ (y :: r)) = sg x ++ 32 :: J ((y :: r).map sg)
    rw [sg_app, sg_app, ih]
    show sg x ++ [32] ++ _ = _
    rw [List.append_assoc] <;> rfl
theorem part_unique {z : Str} {a b : List Str} (ha : a ≠ []) (hb : b ≠ []) (fa : ∀ p ∈ a, 32 ∉ sg p) (fb : ∀ p ∈ b, 32 ∉ sg p) (ja : J (a.map sg) = sg z) (jb : J (b.map sg) = sg z) : a = b := by
  have h1 := C_J (a.map sg) (by simpa using ha) (by intro p hp; obtain ⟨q, hq, rfl⟩ := List.mem_map.mp hp; exact fa q hq)
  have h2 := C_J (b.map sg) (by simpa using hb) (by intro p hp; obtain ⟨q, hq, rfl⟩ := List.mem_map.mp hp; exact fb q hq)
  rw [ja] at h1
  rw [jb] at h2
  exact map_sg_inj (h1.symm.trans h2)
structure Parts (pre : List Nat) (ws : List Str) (w : Str) : Prop where
  free : ∀ p ∈ ws ++ [w], 32 ∉ sg p
  join : ((ws.map sg).map (· ++ [32])).flatten ++ sg w = pre
  many : ws.length ≤ pre.length
  len : w.length ≤ pre.length
theorem Parts.start : Parts [] [] ⟨#[]⟩ := by
  refine ⟨?_, rfl, Nat.le_refl _, Nat.le_refl _⟩
  intro p hp
  rw [List.mem_singleton.mp hp]
  intro h
  cases h
theorem Parts.blank {pre : List Nat} {ws : List Str} {w : Str} (P : Parts pre ws w) : Parts (pre ++ [32]) (ws ++ [w]) ⟨#[]⟩ := by
  refine ⟨?_, ?_, ?_, Nat.zero_le _⟩
  · intro p hp
    rcases List.mem_append.mp hp with h | h
    · exact P.free p h
    · rw [List.mem_singleton.mp h]
      intro h
      cases h
  · rw [← P.join]
    simp [sg]
  · have := P.many
    simp only [List.length_append, List.length_singleton]
    omega
theorem Parts.sign {pre : List Nat} {ws : List Str} {w : Str} {c : Nat} (P : Parts pre ws w) (h : c ≠ 32) : Parts (pre ++ [c]) ws (w ++ ⟨#[c]⟩) := by
  have e : sg (w ++ ⟨#[c]⟩) = sg w ++ [c] := sg_app ..
  refine ⟨?_, ?_, ?_, ?_⟩
  · intro p hp
    rcases List.mem_append.mp hp with q | q
    · exact P.free p (List.mem_append_left _ q)
    · rw [List.mem_singleton.mp q, e]
      intro m
      rcases List.mem_append.mp m with m | m
      · exact P.free w (List.mem_append_right _ (List.mem_singleton.mpr rfl)) m
      · exact h (List.mem_singleton.mp m).symm
  · rw [← P.join, e, List.append_assoc]
  · have := P.many
    simp only [List.length_append, List.length_singleton]
    omega
  · have := P.len
    have e2 := congrArg List.length e
    simp only [List.length_append, List.length_singleton] at e2 ⊢
    have e3 : (sg (w ++ ⟨#[c]⟩)).length = (w ++ ⟨#[c]⟩ : Str).length := by simp [sg, Str.length]
    have e4 : (sg w).length = w.length := by simp [sg, Str.length]
    omega
theorem Parts.done {z : Str} {ws : List Str} {w : Str} (P : Parts (sg z) ws w) {b : List Str} (hb : b ≠ []) (fb : ∀ p ∈ b, 32 ∉ sg p) (jb : Str.join ⟨#[32]⟩ b = z) : ws ++ [w] = b := by
  refine part_unique (z := z) (by simp) hb P.free fb ?_ ?_
  · rw [List.map_append, List.map_singleton, J_snoc]
    exact P.join
  · rw [← J_join b hb, jb]
end Blk
namespace L2
open PySem PySem.Spec PyProof.Rows
theorem small {n : Nat} (h : n ≤ 1000) : n ≤ sizeLine := Nat.le_of_lt (small1000 h)
theorem len_app (x y : Str) : (x ++ y).length = x.length + y.length := by
  show (x.cps ++ y.cps).size = x.cps.size + y.cps.size
  exact Array.size_append
theorem len_toList (z : Str) : z.cps.toList.length = z.length := by simp [Str.length]
theorem at_in {α : Type} {xs : List α} {i : Int} (h0 : 0 ≤ i) (h1 : i < (xs.length : Int)) : ∃ v, xs[i.toNat]? = some v ∧ atI xs i = some v := by
  have hk : i.toNat < xs.length := by omega
  have q : atI xs ((i.toNat : Nat) : Int) = some xs[i.toNat] := atI_nat (List.getElem?_eq_getElem hk)
  have e : ((i.toNat : Nat) : Int) = i := by omega
  rw [e] at q
  exact ⟨_, List.getElem?_eq_getElem hk, q⟩
theorem bt_str : bootBuiltins "str" = some (.type "str") := by decide +kernel
theorem bt_bool : bootBuiltins "bool" = some (.type "bool") := by decide +kernel
theorem bt_int : bootBuiltins "int" = some (.type "int") := by decide +kernel
theorem bt_isi : bootBuiltins "isinstance" = some (.builtin "isinstance") := by decide +kernel
theorem bt_all : bootBuiltins "all" = some (.builtin "all") := by decide +kernel
theorem bt_min : bootBuiltins "min" = some (.builtin "min") := by decide +kernel
theorem bt_tuple : bootBuiltins "tuple" = some (.type "tuple") := by decide +kernel
theorem rel_ty (n : String) : RelV (.ty n) (.type n) := rfl
theorem rel_str (x : Str) (t : Tok) : RelV (.str x) (.str x t) := ⟨t, rfl⟩
theorem rel_int (x : Int) (t : Tok) : RelV (.int x) (.int x t) := ⟨t, rfl⟩
def Itx (z : Str) : It := ⟨fun i _ => i < z.cps.size, fun i H x H' => H' = H ∧ ∃ c, z.cps[i]? = some c ∧ x = .str ⟨#[c]⟩, fun i _ => i = z.cps.size⟩
theorem strIter_cases (z : Str) : (z.cps.all (· < 128) = true ∧ strIterType z = "str_ascii_iterator") ∨ (z.cps.all (· < 128) = false ∧ strIterType z = "str_iterator") := by
  unfold strIterType
  cases ha : z.cps.all (· < 128)
  · exact .inr ⟨rfl, by rfl⟩
  · exact .inl ⟨rfl, by rfl⟩
theorem walks_str {P : Program} {w : World} {A : Around} (hh : A.handled = none) (it : Addr) (z : Str) (t : Tok) :
    Walks P w A it [it] [it] z.cps.size (SignAt z) (fun i h => h.IsStrIter it (strIterType z) z t i) := by
  rcases strIter_cases z with ⟨_, e⟩ | ⟨_, e⟩
  · rw [e]; exact Walks.strAscii hh it z t
  · rw [e]; exact Walks.strWide hh it z t
theorem strIter_plain (z : Str) : ["enumerate", "zip", "dict_itemiterator", "dict_reverseitemiterator", "odict_iterator", "itertools.zip_longest", "itertools.pairwise"].contains (strIterType z) = false := by
  rcases strIter_cases z with ⟨_, e⟩ | ⟨_, e⟩
  · rw [e]; decide
  · rw [e]; decide
theorem turn_str {P : Program} {w : World} {K : PySem.W.Frag} {tg : Expr} (z : Str) (t : Tok) (it : Addr) : Turn P w K tg (Itx z) [it] it (fun i h => h.IsStrIter it (strIterType z) z t i) where
  mem := by simp
  obj := fun i h st b hb => by
    have e : b = it := by simpa using hb
    subst e
    obtain ⟨o, e, c, d⟩ := st
    exact ⟨o, e, fun v z => by rw [d] at z; cases z⟩
  keep := fun i h h' st k => by
    obtain ⟨o, e, r⟩ := st
    exact ⟨o, k it (by simp) o e, r⟩
  item := by
    intro X hP hw hK hc i pins s σ H E I hf st hg
    subst hP hw hK
    obtain ⟨f0, f1, f2, f3, f4, f5⟩ := hf it (by simp)
    have W := walks_str (P := X.prog) (w := X.w) (I.ok.hd hc) it z t
    refine W.item i s _ _ hg st fun v h' tk hv st' kk => ?_
    obtain ⟨c, u, hx, rfl⟩ := hv
    have I1 : Inv X pins σ H { s with heap := h', toks := tk } := I.turned (fun b o hb e => kk b o (by simpa using hb) e) f0 f1 f3 f4 f5
    obtain ⟨o, e, cc, d⟩ := id st'
    exact ⟨_, rfl, go_of (s := { s with heap := h', toks := tk }) e cc d (strIter_plain z) ⟨.str ⟨#[c]⟩, H, I1, ⟨u, rfl⟩, ⟨rfl, c, hx, rfl⟩, st', fun b hb => (hf b hb).1⟩⟩
  done := by
    intro X hP hw hK hc i pins s σ H E I hf st hg
    subst hP hw hK
    obtain ⟨f0, f1, f2, f3, f4, f5⟩ := hf it (by simp)
    have W := walks_str (P := X.prog) (w := X.w) (I.ok.hd hc) it z t
    have e : i = z.cps.size := hg
    subst e
    exact W.done s _ _ st fun h' tk kk => ⟨rfl, I.turned (t' := tk) (fun b o hb e => kk b o (by simpa using hb) e) f0 f1 f3 f4 f5⟩
  self := fun A i s Q E st h => by
    have st' : s.heap.IsStrIter it (strIterType z) z t i := st
    rcases strIter_cases z with ⟨_, e⟩ | ⟨_, e⟩
    · rw [e] at st'; exact wpAny_pyIter_striter_ascii st' h
    · rw [e] at st'; exact wpAny_pyIter_striter_wide st' h
section
variable {X : Cx} {tg : Expr}
def iStr (tl : TE) : TI := fun σ H R => tl σ H fun x H1 => ∃ z, x = .str z ∧ R (Itx z) H1
theorem pi_str {l : Expr} {tl : TE} (hl : PE X l tl) : PI X tg l (iStr tl) := by
  intro pins s σ H R I h
  refine thn (hl pins s σ H _ I h) fun v s1 ⟨x, H1, I1, r1, q1⟩ => ?_
  obtain ⟨z, e, q⟩ := q1
  subst e
  obtain ⟨t, rfl⟩ := r1
  refine wpAny_pyIter_strU ?_
  refine ⟨s1.heap.objs.size, [s1.heap.objs.size], _, _, H1, rfl, I1.kept (t' := s1.toks) fun b o e => Heap.get?_push_of_some _ e, turn_str z t _, ⟨_, Heap.get?_push_size _ rfl, rfl, rfl⟩, fun b hb => ?_, q⟩
  have e : b = s1.heap.objs.size := by simpa using hb
  subst e
  exact I1.fpOk (Nat.le_refl _) (I1.hok.fresh (Nat.le_refl _))
end
theorem for_str {z : Str} {g : TG} {tb : TS} {D : Ends} {σ : St} {H : Hp} (Pv : Nat → St → Hp → Prop) (h0 : Pv 0 σ H)
    (hs : ∀ i c σ H, z.cps[i]? = some c → Pv i σ H → g (.str ⟨#[c]⟩) σ H fun σ2 H2 => tb { D with nx := Pv (i + 1), ct := Pv (i + 1), bk := D.nx } σ2 H2) (hd : ∀ σ H, Pv z.cps.size σ H → D.nx σ H) :
    ∃ W : Nat → Nat → St → Hp → Prop, (∃ m, W 0 m σ H) ∧ ∀ i m σ H, W i m σ H →
      ((Itx z).stop i H ∧ D.nx σ H) ∨ ((Itx z).go i H ∧ ∃ N : St → Hp → Prop, (∀ σ' H', N σ' H' → ∃ m', m' < m ∧ W (i + 1) m' σ' H') ∧ ∀ x H', (Itx z).yld i H x H' → g x σ H' fun σ2 H2 => tb { D with nx := N, ct := N, bk := D.nx } σ2 H2) := by
  refine ⟨fun i m σ H => m = z.cps.size - i ∧ i ≤ z.cps.size ∧ Pv i σ H, ⟨z.cps.size, by simp, Nat.zero_le _, h0⟩, ?_⟩
  rintro i m σ H ⟨rfl, hi, p⟩
  by_cases hlt : i < z.cps.size
  · refine .inr ⟨hlt, Pv (i + 1), fun σ' H' p' => ⟨z.cps.size - (i + 1), by omega, rfl, hlt, p'⟩, fun x H' y => ?_⟩
    obtain ⟨e, c, hc, hx⟩ := y
    subst e hx
    exact hs i c σ _ hc p
  · have e : i = z.cps.size := by omega
    subst e
    exact .inl ⟨rfl, hd σ H p⟩
section
variable {X : Cx}
def rIxSA : R2 := fun x y H Q => ∃ z i, x = .str z ∧ y = .int i ∧ z.length ≤ sizeLine ∧ 0 ≤ i ∧ i < ((z.length : Nat) : Int) ∧ ∀ c, z.cps.toList[i.toNat]? = some c → Q (.str ⟨#[c]⟩) H
theorem ix_strA : IxR X rIxSA := by
  intro value slice pins s σ H x y v u Q I rx ry h hs
  obtain ⟨z, i, rfl, rfl, hz, h0, h1, q⟩ := h
  obtain ⟨c, e1, e2⟩ := at_in (xs := z.cps.toList) h0 (by rw [len_toList]; exact h1)
  exact ix_str value slice pins s σ H _ _ v u Q I rx ry ⟨z, i, c, rfl, rfl, hz, e2, q c e1⟩ hs
def rIsi (K : PySem.W.Frag) : List V → Hp → VK → Prop := fun xs H Q => ∃ x n t b, xs = [x, .ty n] ∧ TyOf K H x t ∧ PySem.W.kitOne K t (.type n) = some b ∧ Q (.bl b) H
theorem call_isi : CallR X (.builtin "isinstance") (rIsi X.K) := by
  intro pins s σ H xs us Q I r h
  obtain ⟨x, n, t, b, rfl, ty, e, q⟩ := h
  obtain ⟨u, w', rfl, r1, r2⟩ := vals2 r
  cases (show w' = Value.type n from r2)
  exact isinst_ok I r1 ty e fun tk => ⟨.bl b, H, I.tok tk, rfl, q⟩
theorem kit_same {K : PySem.W.Frag} (n : String) : PySem.W.kitOne K (.type n) (.type n) = some true := by
  unfold PySem.W.kitOne
  rw [if_pos (beq_self_eq_true _)]
def eqVs (xs ys : List V) : Bool := xs.length == ys.length && (List.range xs.length).all fun j => eqV (xs.getD j .non) (ys.getD j .non)
def rEqL (K : PySem.W.Frag) (neg : Bool) : R2 := fun x y H Q => ∃ p q xs ys, x = .ref p ∧ y = .ref q ∧ SqL K H p xs ∧ SqL K H q ys ∧ xs.all flatV = true ∧ ys.all flatV = true ∧ Q (.bl (if neg then !eqVs xs ys else eqVs xs ys)) H
theorem flat_strs (as : List Str) : (as.map V.str).all flatV = true := by
  rw [List.all_map]
  exact List.all_eq_true.mpr fun _ _ => rfl
theorem vals_strs : ∀ (l : List (Str × Tok)), Vals ((l.map (·.1)).map V.str) (strValues l)
  | [] => .nil
  | (x, t) :: r => .cons ⟨t, rfl⟩ (vals_strs r)
def rSplit : V → List V → Hp → VK → Prop := fun x vs H Q => ∃ z y, x = .str z ∧ vs = [.str y] ∧ (y.length == 0) = false ∧ z.length + 2 ≤ sizeLine ∧ ∀ p, H p = none → Q (.ref p) (upd H p (.lst ((Txt.split z y).map V.str)))
theorem mt_split : MtR X "str.split" rSplit := by
  intro pins s σ H x vs v us Q I rx rv h
  obtain ⟨z, y, rfl, rfl, hy, hz, q⟩ := h
  obtain ⟨t, rfl⟩ := rx
  obtain ⟨u', rfl, u, rfl⟩ := rv.one
  have hsl := split_le z y
  have fin : ∀ (l : List (Str × Tok)) (tk : Nat), l.map (·.1) = Txt.split z y → EP X pins σ Q (.ref s.heap.objs.size) { s with heap := s.heap.push { cls := .type "list", data := .seq (strValues l).toArray }, toks := tk } := fun l tk e => by
    refine ⟨.ref s.heap.objs.size, _, I.lnew (ys := (Txt.split z y).map V.str) (its := strValues l) (by rw [← e]; exact vals_strs l) (by rw [List.length_map]; omega), rfl, q _ I.fresh⟩
  cases h1 : (decide (z.length < y.length) || decide (Builtin.Str.strKind z < Builtin.Str.strKind y))
  · cases hf : (Builtin.Str.occurrences z y 0 z.length (z.length + 1)).isEmpty
    · have e0 : Txt.split z y = Builtin.Str.partsBetween z (Builtin.Str.occurrences z y 0 z.length (z.length + 1)) y.length := (if_neg (ne_true_of_eq_false h1)).trans (if_neg (ne_true_of_eq_false hf))
      refine call_meets F.slot_str_split (typeIs_str _ _ _) F.entry_str_split (F.args_str_split_2 _ _) (meets_str_split_sep z y t u h1 hy hf (by omega) (by rw [← e0]; omega)) ?_
      have k := fin (numbered s.toks (Builtin.Str.partsBetween z (Builtin.Str.occurrences z y 0 z.length (z.length + 1)) y.length)) (s.toks + (Builtin.Str.partsBetween z (Builtin.Str.occurrences z y 0 z.length (z.length + 1)) y.length).length) ((numbered_texts _ _).trans e0.symm)
      rw [← strsFrom_eq] at k
      exact k
    · exact call_meets F.slot_str_split (typeIs_str _ _ _) F.entry_str_split (F.args_str_split_2 _ _) (meets_str_split_not_found z y t u h1 hy hf)
        (fin [(z, t)] s.toks ((if_neg (ne_true_of_eq_false h1)).trans (if_pos hf)).symm)
  · exact call_meets F.slot_str_split (typeIs_str _ _ _) F.entry_str_split (F.args_str_split_2 _ _) (meets_str_split_cannot_occur z y t u h1) (fin [(z, t)] s.toks (if_pos h1).symm)
end
theorem same_new {H : Hp} {p : Addr} (h : H p = none) (o : HO) : Same H (upd H p o) := fun b u q => by rw [upd_ne (ne_of_none q h)]; exact q
theorem same_on {H H' : Hp} {p : Addr} (h : H p = none) (e : Same H H') (o : HO) : Same H (upd H' p o) := fun b u q => by rw [upd_ne (ne_of_none q h)]; exact e b u q
end L2
namespace L2
open PySem PySem.Spec PyProof.Rows
def closOf (cells : List (Str × Addr)) : List (Str × NameKind) → List (Str × Addr) → List (Str × Addr)
  | [], acc => acc
  | (n, k) :: r, acc => closOf cells r (if (k == .free) = true then (n, (cells.lookup n).getD 0) :: acc else acc)
theorem closureFor_of {scope : Scope} {env : Env} (h : ∀ p ∈ scope.names, p.2 = .free → (env.cells.lookup p.1).isSome = true) : closureFor scope env = pure (closOf env.cells scope.names []) := by
  obtain ⟨kd, names, g1, g2, more⟩ := scope
  simp only [closureFor]
  dsimp only at h ⊢
  generalize ([] : List (Str × Addr)) = acc
  induction names generalizing acc with
  | nil => rfl
  | cons p r ih =>
    obtain ⟨n, k⟩ := p
    have hr : ∀ p ∈ r, p.2 = .free → (env.cells.lookup p.1).isSome = true := fun p hp => h p (List.mem_cons_of_mem _ hp)
    have ih' := ih hr
    simp only [closOf]
    by_cases hk : k = .free
    · subst hk
      obtain ⟨c, hc⟩ := Option.isSome_iff_exists.mp (h (n, .free) List.mem_cons_self rfl)
      have hc' : List.lookup n env.cells = some c := hc
      rw [show (NameKind.free == NameKind.free) = true from rfl, if_pos rfl, hc']
      have e : cellOf env n = pure c := by unfold cellOf; rw [hc']
      have q := ih' ((n, c) :: acc)
      simp only [List.forIn_cons, beq_self_eq_true, if_true, e, pure_bind, Option.getD_some]
      exact q
    · have hb : (k == NameKind.free) = false := by simpa using hk
      have q := ih' acc
      simp only [List.forIn_cons, hb, Bool.false_eq_true, if_false, pure_bind]
      exact q
theorem closOf_in {cells : List (Str × Addr)} {y : Str} {c : Addr} : ∀ (names : List (Str × NameKind)) (acc : List (Str × Addr)), (∀ p ∈ names, p.2 = .free → (cells.lookup p.1).isSome = true) →
    (∀ y c, acc.lookup y = some c → cells.lookup y = some c) → (closOf cells names acc).lookup y = some c → cells.lookup y = some c
  | [], _, _, ha, h => ha _ _ h
  | (n, k) :: r, acc, hn, ha, h => by
    refine closOf_in r _ (fun p hp => hn p (List.mem_cons_of_mem _ hp)) (fun y c hy => ?_) h
    by_cases hk : (k == NameKind.free) = true
    · rw [if_pos hk] at hy
      rw [List.lookup_cons] at hy
      by_cases e : (y == n) = true
      · rw [e] at hy
        obtain ⟨d, hd⟩ := Option.isSome_iff_exists.mp (hn (n, k) List.mem_cons_self (by simpa using hk))
        have hd' : cells.lookup n = some d := hd
        have hy' : (cells.lookup n).getD 0 = c := Option.some.inj hy
        rw [hd'] at hy'
        rw [eq_of_beq e, hd']
        exact congrArg some hy'
      · rw [Bool.eq_false_iff.mpr e] at hy
        exact ha y c hy
    · rw [if_neg hk] at hy
      exact ha y c hy
theorem closOf_has {cells : List (Str × Addr)} {y : Str} : ∀ (names : List (Str × NameKind)) (acc : List (Str × Addr)), ((acc.lookup y).isSome = true ∨ (y, NameKind.free) ∈ names) → ((closOf cells names acc).lookup y).isSome = true
  | [], acc, h => h.elim id (fun z => by cases z)
  | (n, k) :: r, acc, h => by
    refine closOf_has r _ ?_
    rcases h with h | h
    · refine .inl ?_
      by_cases hk : (k == NameKind.free) = true
      · rw [if_pos hk, List.lookup_cons]
        by_cases e : (y == n) = true
        · rw [e]; rfl
        · rw [Bool.eq_false_iff.mpr e]; exact h
      · rw [if_neg hk]; exact h
    · rcases List.mem_cons.mp h with e | h
      · cases e
        refine .inl ?_
        rw [if_pos (show (NameKind.free == NameKind.free) = true from rfl), List.lookup_cons, beq_self_eq_true]
        rfl
      · exact .inr h
def compCx (X : Cx) (scope : Scope) (N' : List Str) (C : Addr) (ex : List Addr) (s₂ : Shared) (H₂ : Hp) : Cx where
  prog := X.prog
  w := X.w
  K := X.K
  mg := X.mg
  base := X.base
  A := X.A
  N := N'
  s₀ := s₂
  H₀ := H₂
  env := compEnvC scope (closOf X.env.cells scope.names []) C X.env
  outer := X.stack
  stack := X.stack
  ex := ex
  fn := fun _ => false
  calm := X.calm
  pn := []
  xe := fun _ _ => False
def FreesOk (X : Cx) (scope : Scope) : List (Str × Nat) → Prop
  | [] => True
  | p :: r => (X.N[p.2]? = some p.1 ∧ X.env.kindOf p.1 = some .cell ∧ (relabel scope X.env).names.lookup p.1 = some .cell ∧ (p.1, NameKind.free) ∈ scope.names) ∧ FreesOk X scope r
theorem FreesOk.at {X : Cx} {scope : Scope} : ∀ {fr : List (Str × Nat)}, FreesOk X scope fr → ∀ p ∈ fr, X.N[p.2]? = some p.1 ∧ X.env.kindOf p.1 = some .cell ∧ (relabel scope X.env).names.lookup p.1 = some .cell ∧ (p.1, NameKind.free) ∈ scope.names
  | [], _, p, hp => by cases hp
  | _ :: _, h, p, hp => by
    rcases List.mem_cons.mp hp with e | hp
    · rw [e]; exact h.1
    · exact FreesOk.at h.2 p hp
def inSt (frees : List (Str × Nat)) (σ : St) (x : Option V) : St := x :: frees.map fun p => (σ[p.2]?).join
def PIfs (X : Cx) (ifs : List Expr) (t : TT) : Prop :=
  ∀ (pins : List (Addr × Obj)) (s : Shared) (σ : St) (H : Hp) (Q : Bool → Hp → Prop), Inv X pins σ H s → t σ H Q →
    wpAny (model X.prog X.w) X.A (forIn ifs true fun c r => if r = true then do let ok ← isTrue c X.env (eval c X.env); pure (ForInStep.yield ok) else pure (ForInStep.yield r)) (TP X pins σ Q) X.xe s
theorem pifs_nil {X : Cx} : PIfs X [] (fun _ H Q => Q true H) := fun _ _ _ H _ I h => wpAny_tests_nil ⟨H, I, h⟩
theorem pifs_one {X : Cx} {c : Expr} {t : TT} (h : PT X c t) : PIfs X [c] t := fun pins s σ H Q I hw => wpAny_tests_one (h pins s σ H Q I hw)
def CompB (J : It) (tc : TT) (te : TE) (σf : Option V → St) (H1 : Hp) (Q : VK) : Prop := ∀ D, H1 D = none →
  ∃ W : Nat → Nat → List V → Hp → Prop, (∃ m, W 0 m [] (upd H1 D (.lst []))) ∧ ∀ i m ys H2, W i m ys H2 → H2 D = some (.lst ys) ∧
    ((J.stop i H2 ∧ Q (.ref D) H2) ∨ (J.go i H2 ∧ ys.length < sizeLine ∧ ∀ x H3, J.yld i H2 x H3 → tc (σf (some x)) H3 fun b H4 =>
      if b = true then te (σf (some x)) H4 fun y H5 => H5 D = some (.lst ys) ∧ ∃ m', m' < m ∧ W (i + 1) m' (ys ++ [y]) (upd H5 D (.lst (ys ++ [y]))) else ∃ m', m' < m ∧ W (i + 1) m' ys H4))
section
variable {prog : Program} {w : World} {A : Around} {R : Result → Shared → Prop} {s : Shared}
theorem comp_loop {elt target iter : Expr} {ifs : List Expr} {scope : Scope} {pos : Pos} {it acc : Value} {env : Env} (I : Nat → Shared → Prop)
    (turn : ∀ n s, I n s → wpAny (model prog w) A (pyNext it) (fun r s₁ => match r with
      | none => R (.ok .next) s₁
      | some v => wpAny (model prog w) A (letOwnedTupleGo target it v) (fun _ s₁' => wpAny (model prog w) A (assign target env v) (fun _ s₂ =>
          wpAny (model prog w) A (forIn ifs true fun c r => if r = true then do let ok ← isTrue c env (eval c env); pure (ForInStep.yield ok) else pure (ForInStep.yield r)) (fun ok s₃ =>
            if ok = true then wpAny (model prog w) A (eval elt env) (fun x s₄ =>
              wpAny (model prog w) A (call (.builtin "list.append") [acc, x]) (fun _ s₅ => ∃ m, m < n ∧ I m s₅) (fun _ _ => False) s₄) (fun _ _ => False) s₃
            else ∃ m, m < n ∧ I m s₃) (fun _ _ => False) s₂) (fun _ _ => False) s₁') (fun _ _ => False) s₁) (fun _ _ => False) s)
    (n : Nat) (h : I n s) :
    codeAny (model prog w) A (.compLoop (.ListComp elt [⟨target, iter, ifs, 0⟩] scope pos) 0 it acc env) R s := by
  have no : ∀ {α : Type} {t : Sem α} {Q : α → Shared → Prop} {E : Value → Shared → Prop} {s : Shared}, wpAny (model prog w) A t Q (fun _ _ => False) s → wpAny (model prog w) A t Q E s := fun h => wpAny_mono h (fun _ _ q => q) fun _ _ f => f.elim
  refine codeAny_loop rfl I (fun n s hI => ?_) n h
  show wpAny _ A ((compTurn (.ListComp elt [⟨target, iter, ifs, 0⟩] scope pos) 0 it acc env).onRaise (fun x => do noteFrame x env; theTreesLotGoes x)) _ _ s
  refine wpAny_noted ?_
  rw [compTurn_list]
  refine wpAny_bind (wpAny_standAt (wpAny_bind (wpAny_mono (turn n s hI) (fun r s₁ h₁ => ?_) fun _ _ h' => h'.elim)))
  cases r with
  | none => exact wpAny_pure h₁
  | some v =>
    refine wpAny_bind (wpAny_mono h₁ (fun _ s₁' h₁' => ?_) fun _ _ h' => h'.elim)
    refine wpAny_bind (wpAny_mono h₁' (fun _ s₂ h₂ => wpAny_bind (wpAny_mono h₂ (fun ok s₃ h₃ => ?_) fun _ _ h' => h'.elim)) fun _ _ h' => h'.elim)
    cases ok with
    | false => exact wpAny_pure ⟨rfl, h₃⟩
    | true =>
      exact wpAny_bind (wpAny_bind (wpAny_mono h₃ (fun x s₄ h₄ => wpAny_bind (wpAny_mono h₄ (fun _ s₅ h₅ => wpAny_pure (wpAny_pure ⟨rfl, h₅⟩)) fun _ _ h' => h'.elim)) fun _ _ h' => h'.elim))
end
section
variable {X : Cx} {elt iter : Expr} {x : Str} {px pos : Pos} {ifs : List Expr} {scope : Scope} {frees : List (Str × Nat)} {tc : TT} {te : TE}
structure CompOk (X : Cx) (scope : Scope) (x : Str) (frees : List (Str × Nat)) : Prop where
  cell : ∀ y ∈ scope.names, y.2 ≠ .cell
  kind : scope.kind = .function
  own : scope.names.lookup x = some .local
  names : ∀ y ∈ scope.names, y.2 = .local → scope.names.lookup y.1 = some .local
  fr : FreesOk X scope frees
  nd : (x :: frees.map (·.1)).Nodup
  cl : ∀ p ∈ scope.names, p.2 = .free → (X.env.cells.lookup p.1).isSome = true
  calm : X.calm = true
theorem relabel_free {scope : Scope} {env : Env} {y : Str} (hc : ∀ y ∈ scope.names, y.2 ≠ .cell) (h : (relabel scope env).names.lookup y = some .cell ∨ (relabel scope env).names.lookup y = some .free) : (y, NameKind.free) ∈ scope.names := by
  have key : ∀ k, (relabel scope env).names.lookup y = some k → k ≠ .local → k = .cell ∨ k = .free → (y, NameKind.free) ∈ scope.names := fun k hk _ hkk => by
    have hm := PySem.mem_of_lookup hk
    obtain ⟨⟨n, k0⟩, hm0, e⟩ := List.mem_map.mp hm
    by_cases hcond : (k0 == NameKind.free && env.scope.kind == .function && env.kindOf n == some .cell) = true
    · have e' : (n, NameKind.cell) = (y, k) := by rw [← e]; exact (if_pos hcond).symm
      have hk0 : k0 = .free := by
        rw [Bool.and_eq_true, Bool.and_eq_true] at hcond
        exact eq_of_beq hcond.1.1
      have en : n = y := congrArg Prod.fst e'
      rw [← en, ← hk0]
      exact hm0
    · have e' : (n, k0) = (y, k) := by rw [← e]; exact (if_neg hcond).symm
      have en : n = y := congrArg Prod.fst e'
      have ek : k0 = k := congrArg Prod.snd e'
      rcases hkk with hkk | hkk
      · exact absurd (ek.trans hkk) (hc _ hm0)
      · rw [← en, ← hkk, ← ek]
        exact hm0
  rcases h with h | h
  · exact key _ h (by decide) (.inl rfl)
  · exact key _ h (by decide) (.inr rfl)
theorem comp_core {pins : List (Addr × Obj)} {σ : St} {H1 : Hp} {s₂ : Shared} {it : Addr} {fp : List Addr} {tn : Nat → Heap → Prop} {J : It} {Q : VK} {RR : Value → Addr → Result → Shared → Prop} {E : Value → Shared → Prop}
    (O : CompOk X scope x frees) (hc : ∀ C ex s₂ H₂, PIfs (compCx X scope (x :: frees.map (·.1)) C ex s₂ H₂) ifs tc) (he : ∀ C ex s₂ H₂, PE (compCx X scope (x :: frees.map (·.1)) C ex s₂ H₂) elt te)
    (I : Inv X pins σ H1 s₂) (T : Turn X.prog X.w X.K (.Name x px) J fp it tn) (st : tn 0 s₂.heap) (hf : ∀ b ∈ fp, FpOk X pins H1 b) (hB : CompB J tc te (inSt frees σ) H1 Q)
    (hRR : ∀ D C H' s', Inv X pins σ H' s' → (∃ m, s'.heap.Ns C m) → FpOk X pins H' C → Q (.ref D) H' → RR (.ref D) C (.ok .next) s') :
    wpAny (model X.prog X.w) X.A (newList []) (fun acc s₃ => wpAny (model X.prog X.w) X.A (newFunctionEnv scope X.env.globals (closOf X.env.cells scope.names []) [] X.env.qual none .none (some X.env)) (fun cenv s₄ =>
      codeAny (model X.prog X.w) X.A (.compStart (.ListComp elt [⟨.Name x px, iter, ifs, 0⟩] scope pos) 0 (.ref it) acc { cenv with scope := relabel scope X.env }) (RR acc cenv.locals) s₄) E s₃) E s₂ := by
  refine wpAny_newObj_type (wpAny_newFunctionEnv O.cell (by intro y hy; simp at hy) (fun h₁ hns₁ hsb₁ => ?_) O.kind)
  dsimp only at hns₁ hsb₁ ⊢
  generalize hH2 : s₂.heap.push { cls := .type "list", dict := none, data := .seq ([] : List Value).toArray } = H2 at hns₁ hsb₁ ⊢
  have hC : H2.objs.size = s₂.heap.objs.size + 1 := by rw [← hH2, Heap.size_push]
  have hDC : s₂.heap.objs.size ≠ H2.objs.size := by rw [hC]; exact Nat.ne_of_lt (Nat.lt_succ_self _)
  have hCle : s₂.heap.objs.size ≤ H2.objs.size := by rw [hC]; exact Nat.le_succ _
  have below : ∀ b, b < s₂.heap.objs.size → b ≠ H2.objs.size ∧ b ≠ s₂.heap.objs.size := fun b hb => ⟨by rw [hC]; exact Nat.ne_of_lt (Nat.lt_succ_of_lt hb), Nat.ne_of_lt hb⟩
  have old : ∀ b o, s₂.heap.get? b = some o → h₁.get? b = some o := fun b o e => hsb₁.extBut b o (below b (Heap.lt_size e)).1 (Heap.get?_push_of_some _ (hH2 ▸ Heap.get?_push_of_some _ e))
  have hacc : h₁.get? s₂.heap.objs.size = some { cls := .type "list", data := .seq ([] : List Value).toArray } := hsb₁.extBut _ _ hDC (Heap.get?_push_of_some _ (hH2 ▸ Heap.get?_push_size _ rfl))
  have nD : H1 s₂.heap.objs.size = none := I.hok.fresh (Nat.le_refl _)
  obtain ⟨W, ⟨m0, w0⟩, hW⟩ := hB s₂.heap.objs.size nD
  -- the block's context and its first state
  let X' : Cx := compCx X scope (x :: frees.map (·.1)) H2.objs.size fp s₂ H1
  have inC : ∀ y c, (closOf X.env.cells scope.names []).lookup y = some c → X.env.cells.lookup y = some c := fun y c h => closOf_in scope.names [] O.cl (fun y c h => by cases h) h
  have fpl : ∀ b ∈ fp, b < s₂.heap.objs.size := fun b hb => by
    obtain ⟨o, e, _⟩ := T.obj _ _ st b hb
    exact Heap.lt_size e
  have ok' : X'.Ok := by
    refine ⟨I.ok.mod, O.kind, I.ok.glob, I.ok.blt, hCle, fun y z c h1 h2 => I.ok.inj y z c (inC y c h1) (inC z c h2), fun y hy => ?_, fun y c h _ => (by cases h), I.ok.hd, I.ok.frames, .inl rfl, fun b hb => ?_, I.bs, Nat.le_trans I.ok.bsz I.sz, fun b o e hb => ?_, fun b hb z => ?_, I.stack, I.stkFree⟩
    · exact Option.isSome_iff_exists.mp (closOf_has scope.names [] (.inr (relabel_free O.cell hy)))
    · exact ⟨(below b (fpl b hb)).1, fun y c h => (hf b hb).2.2.2.2.1 y c (inC y c h)⟩
    · rcases (hf b hb).2.2.2.1 with z | z
      · exact I.ok.noex b o e z
      · exact absurd (Nat.lt_of_lt_of_le (Nat.lt_of_lt_of_le (Heap.lt_size e) I.ok.bsz) z) (Nat.lt_irrefl _)
    · exact (List.mem_cons.mp (I.stkSub b z)).elim (hf b hb).2.1 (hf b hb).2.2.1
  have hok1 : HOk X.prog X.w (upd H1 s₂.heap.objs.size (.lst [])) h₁ := I.hok.laid old (Nat.le_refl _) ⟨Nat.zero_le _, [], 0, .nil, hacc⟩
  have I0 : ∀ tk, Inv X' [] (inSt frees σ none) (upd H1 s₂.heap.objs.size (.lst [])) { s₂ with heap := h₁, toks := tk } := fun tk => by
    refine ⟨ok', rfl, I.bare, Un.laid old (Nat.le_refl _) nD, ⟨_, hns₁, fun i y v h1 h2 h3 => ?_⟩, fun y c h => ?_, ?_, fun y c h => ?_, fun p hp => absurd (show p ∈ ([] : List (Addr × Obj)) from hp) (by simp), hok1, ?_⟩
    · cases i with
      | zero =>
        have h2' : (none : Option V) = some v := Option.some.inj h2
        cases h2'
      | succ j =>
        have h1' : (frees.map (·.1))[j]? = some y := h1
        have h2' : (frees.map fun p => (σ[p.2]?).join)[j]? = some (some v) := h2
        rw [List.getElem?_map] at h1' h2'
        cases e : frees[j]? with
        | none => rw [e] at h1'; cases h1'
        | some p =>
          rw [e] at h1' h2'
          have e1 : p.1 = y := Option.some.inj h1'
          have e2 : (σ[p.2]?).join = some v := Option.some.inj h2'
          obtain ⟨g1, g2, g3, g4⟩ := O.fr.at p (List.mem_of_getElem? e)
          have e3 : σ[p.2]? = some (some v) := by
            cases q : σ[p.2]? with
            | none => rw [q] at e2; cases e2
            | some o => rw [q] at e2; exact congrArg some e2
          obtain ⟨m, hn, hl⟩ := I.loc
          obtain ⟨u, r, l⟩ := hl p.2 p.1 v g1 e3 (.inr (.inl g2))
          refine ⟨u, r, ?_⟩
          rcases l with ⟨k, _⟩ | ⟨_, c, hc1, hc2⟩
          · rw [g2] at k; cases k
          · obtain ⟨c2, hc3⟩ := Option.isSome_iff_exists.mp (closOf_has (cells := X.env.cells) scope.names [] (.inr g4))
            have hc4 := inC _ _ hc3
            rw [hc1] at hc4
            cases hc4
            rw [← e1]
            refine .inr ⟨.inl g3, c, hc3, ?_⟩
            obtain ⟨o, ho, hd⟩ := hc2
            exact ⟨o, old c o ho, hd⟩
    · obtain ⟨v, o, ho, hd⟩ := I.cell y c (inC y c h)
      exact ⟨v, o, old c o ho, hd⟩
    · show upd H1 s₂.heap.objs.size (.lst []) H2.objs.size = none
      rw [upd_ne (Ne.symm hDC)]
      exact I.hok.fresh hCle
    · obtain ⟨v, o, ho, hd⟩ := I.cell y c (inC y c h)
      rw [upd_ne (below c (Heap.lt_size ho)).2]
      exact I.freeC y c (inC y c h)
    · show (inSt frees σ none).length = (x :: frees.map (·.1)).length
      simp [inSt]
  have stat : ∀ {H' : Hp}, (∀ b ∈ fp, H' b = none) → ∀ b ∈ fp, FpOk X' [] H' b := fun hn b hb =>
    ⟨hn b hb, (below b (fpl b hb)).1, fun z => (List.mem_cons.mp (I.stkSub b z)).elim (hf b hb).2.1 (hf b hb).2.2.1, .inl hb, fun y c h => (hf b hb).2.2.2.2.1 y c (inC y c h), fun p hp => absurd (show p ∈ ([] : List (Addr × Obj)) from hp) (by simp)⟩
  have hst₁ : tn 0 h₁ := T.keep _ _ _ st fun b _ o e => old b o e
  have fr0 : ∀ b ∈ fp, (upd H1 s₂.heap.objs.size (.lst [])) b = none := fun b hb => by
    rw [upd_ne (below b (fpl b hb)).2]
    exact (hf b hb).1
  have loop : ∀ tk, codeAny (model X.prog X.w) X.A (.compLoop (.ListComp elt [⟨.Name x px, iter, ifs, 0⟩] scope pos) 0 (.ref it) (.ref s₂.heap.objs.size) X'.env) (RR (.ref s₂.heap.objs.size) H2.objs.size) { s₂ with heap := h₁, toks := tk } := fun tk => by
    refine comp_loop (fun n s' => ∃ i ys o H', Inv X' [] (inSt frees σ o) H' s' ∧ tn i s'.heap ∧ (∀ b ∈ fp, H' b = none) ∧ W i n ys H') ?_ m0 ⟨0, [], none, _, I0 tk, hst₁, fr0, w0⟩
    rintro n s3 ⟨i, ys, o3, H3, I3, st3, fr3, w3⟩
    obtain ⟨hD3, alt⟩ := hW i n ys H3 w3
    rcases alt with ⟨stop, q⟩ | ⟨go, hlt, step⟩
    · refine thn (T.done X' rfl rfl rfl O.calm i [] s3 _ H3 _ I3 (stat fr3) st3 stop) fun r s4 ⟨hr, I4⟩ => ?_
      subst hr
      have J4 : Inv X pins σ H3 s4 := I.call' (ch := fp) I4.os I4.base I4.hok I4.bare fun b hb => ⟨(hf b hb).2.2.2.1, (hf b hb).2.1, (hf b hb).2.2.2.2.1, (hf b hb).2.2.2.2.2⟩
      obtain ⟨m4, hn4, _⟩ := I4.loc
      exact hRR _ _ H3 s4 J4 ⟨m4, hn4⟩ (I.fpOk hCle I4.free) q
    · refine thn (T.item X' rfl rfl rfl O.calm i [] s3 _ H3 _ I3 (stat fr3) st3 go) fun r s4 ⟨u, hr, h4⟩ => ?_
      subst hr
      refine thn h4 fun _ s5 ⟨v, H5, I5, r5, y5, st5, fr5⟩ => ?_
      have I5' := I5.pinned (stat fr5) (T.obj _ _ st5)
      have tail : ∀ {σ7 : St} {H7 : Hp} {s7 : Shared}, Inv X' ([] ++ pinsAt fp s5.heap) σ7 H7 s7 → Inv X' [] σ7 H7 s7 ∧ tn (i + 1) s7.heap ∧ ∀ b ∈ fp, H7 b = none := fun {σ7 H7 s7} I7 => by
        refine ⟨I7.unpinned, T.keep _ _ _ st5 fun b hb o e => (I7.pin (b, o) (List.mem_append_right _ (List.mem_append_right _ (mem_pinsAt hb e)))).1, fun b hb => ?_⟩
        obtain ⟨o, e, d⟩ := T.obj _ _ st5 b hb
        exact (I7.pin (b, o) (List.mem_append_right _ (List.mem_append_right _ (mem_pinsAt hb e)))).2.1
      have hg : PG X' (.Name x px) (gName 0) := pg_name O.nd rfl (Or.inl (lookup_relabel_local O.own)) (.inr (lookup_relabel_local O.own))
      refine thn (hg _ s5 _ H5 v u (fun σ6 H6 => σ6 = inSt frees σ (some v) ∧ H6 = H5) I5' r5 ⟨rfl, rfl⟩) fun _ s6 ⟨σ6, H6, I6, e6, e6'⟩ => ?_
      subst e6 e6'
      refine thn (hc _ _ _ _ _ s6 _ _ _ I6 (step v _ y5)) fun b s7 ⟨H7, I7, q7⟩ => ?_
      cases b with
      | false =>
        obtain ⟨m', hm, w7⟩ := (show ∃ m', m' < n ∧ W (i + 1) m' ys H7 from q7)
        obtain ⟨t1, t2, t3⟩ := tail I7
        exact ⟨m', hm, i + 1, ys, some v, H7, t1, t2, t3, w7⟩
      | true =>
        refine thn (he _ _ _ _ _ s7 _ _ _ I7 q7) fun y s8 ⟨y', H8, I8, r8, hD8, m', hm, w8⟩ => ?_
        refine thn (mt_append (X := X') _ s8 _ H8 (.ref s₂.heap.objs.size) [y'] _ [y] (fun _ H9 => H9 = upd H8 s₂.heap.objs.size (.lst (ys ++ [y']))) I8 rfl (.cons r8 .nil) ⟨_, _, _, rfl, rfl, hD8, hlt, rfl⟩) fun _ s9 ⟨_, H9, I9, _, e9⟩ => ?_
        subst e9
        obtain ⟨t1, t2, t3⟩ := tail I9
        exact ⟨m', hm, i + 1, ys ++ [y'], some v, _, t1, t2, t3, w8⟩
  exact codeAny_compStart_list (loop _) (T.self _ 0 _ _ _ hst₁ (loop _))
def tComp (frees : List (Str × Nat)) (tc : TT) (te : TE) (wi : TI) : TE := fun σ H Q => wi σ H fun J H1 => CompB J tc te (inSt frees σ) H1 Q
theorem pe_comp {wi : TI} (O : CompOk X scope x frees) (hxe : X.xe = fun _ _ => False) (hi : PI X (.Name x px) iter wi)
    (hc : ∀ C ex s₂ H₂, PIfs (compCx X scope (x :: frees.map (·.1)) C ex s₂ H₂) ifs tc) (he : ∀ C ex s₂ H₂, PE (compCx X scope (x :: frees.map (·.1)) C ex s₂ H₂) elt te)
    (hs : ∀ x, foldedSetIterable iter X.env x = pure x := by intro _; rfl) : PE X (.ListComp elt [⟨.Name x px, iter, ifs, 0⟩] scope pos) (tComp frees tc te wi) := by
  intro pins s σ H Q I h
  rw [eval_ListComp]
  refine wpAny_comprehension_free (use := none) rfl hs (closureFor_of O.cl) O.kind O.names (thn (hi pins s σ H _ I h) fun xv s₁ h₁ => thn h₁ fun itv s₂ h₂ => ?_)
  obtain ⟨it, fp, tn, J, H2, e, I2, T, st2, f2, hB⟩ := h₂
  subst e
  refine comp_core (RR := fun acc C => compPost (model X.prog X.w) X.A X.xe none (EP X pins σ Q) acc C) O hc he I2 T st2 f2 hB ?_
  intro D C H' s' I' hn hC q
  obtain ⟨m, hn⟩ := hn
  refine ⟨m, hn, fun h' hs' => ?_⟩
  exact ⟨.ref D, H', I'.turned (t' := s'.toks) (fun b o hb e => hs'.extBut b o hb e) hC.1 hC.2.1 hC.2.2.2.1 hC.2.2.2.2.1 hC.2.2.2.2.2, rfl, q⟩
theorem ps_comp {wi : TI} {i : Nat} {y : Str} {py spos : Pos} (O : CompOk X scope x frees) (hN : X.N.Nodup) (hiy : X.N[i]? = some y) (hy : X.env.kindOf y = some .local) (hsw : swapsWith (.ListComp elt [⟨.Name x px, iter, ifs, 0⟩] scope pos) (some (.Name y py)) spos.line X.env = pure true)
    (hi : PI X (.Name x px) iter wi) (hc : ∀ C ex s₂ H₂, PIfs (compCx X scope (x :: frees.map (·.1)) C ex s₂ H₂) ifs tc) (he : ∀ C ex s₂ H₂, PE (compCx X scope (x :: frees.map (·.1)) C ex s₂ H₂) elt te)
    (hs : ∀ x, foldedSetIterable iter X.env x = pure x := by intro _; rfl) : PS X (.Assign [.Name y py] (.ListComp elt [⟨.Name x px, iter, ifs, 0⟩] scope pos) spos) (tAsg (tComp frees tc te wi) (gName i)) := by
  intro pins s σ H D I h
  rw [exec_Assign_Name_used _ _ _ _ hsw]
  refine wpAny_bind (wpAny_standAt (wpAny_bind ?_))
  show wpAny _ X.A (do let _ ← comprehension (.ListComp elt [⟨.Name x px, iter, ifs, 0⟩] scope pos) scope X.env _ (newList []) false (eval iter X.env) (some (assign (.Name y py) X.env))) _ _ s
  refine wpAny_bind (wpAny_mono (wpAny_comprehension_free (use := some (assign (.Name y py) X.env)) (Q := fun _ s' => SP X pins D .next s') rfl hs (closureFor_of O.cl) O.kind O.names
    (thn (hi pins s σ H _ I h) fun xv s₁ h₁ => thn h₁ fun itv s₂ h₂ => ?_)) (fun _ s' hq => wpAny_pure (wpAny_pure hq)) fun _ _ e => e)
  obtain ⟨it, fp, tn, J, H2, e, I2, T, st2, f2, hB⟩ := h₂
  subst e
  refine comp_core (RR := fun acc C => compPost (model X.prog X.w) X.A X.xe (some (assign (.Name y py) X.env)) (fun _ s' => SP X pins D .next s') acc C) O hc he I2 T st2 f2 hB ?_
  intro A C H' s' I' hn hC q
  obtain ⟨m, hn⟩ := hn
  obtain ⟨oC, es, ep, hoC, hdC, hr⟩ := id hn
  have I'' : Inv X (pins ++ [(C, oC)]) σ H' s' := I'.pins_of fun p hp => (List.mem_append.mp hp).elim (fun z => I'.pin p (List.mem_append_right _ z)) fun z => by
    rw [List.mem_singleton.mp z]
    exact ⟨hoC, hC.1, hC.2.1, hC.2.2.1, fun v e => by rw [hdC] at e; cases e⟩
  show wpAny _ X.A (assign (.Name y py) X.env (.ref A)) _ _ _
  refine wpAny_assign_Name (store_ok I'' hN hiy (.inl hy) (v := .ref A) rfl (fun s3 I3 => ?_) (.inr hy))
  have hC3 := (I3.pin (C, oC) (List.mem_append_right _ (List.mem_append_right _ (List.mem_singleton.mpr rfl)))).1
  have J3 : Inv X pins (σ.set i (some (.ref A))) H' s3 := I3.unpinned
  refine ⟨m, ⟨oC, es, ep, hC3, hdC, hr⟩, fun h' hs' => ?_⟩
  exact ⟨_, H', J3.turned (t' := s3.toks) (fun b o hb e => hs'.extBut b o hb e) hC.1 hC.2.1 hC.2.2.2.1 hC.2.2.2.2.1 hC.2.2.2.2.2, q⟩
end
end L2
namespace L2
open PySem PySem.Spec PyProof.Rows
section
variable {X : Cx}
theorem all_at (bs : List Bool) : ((List.range bs.length).all fun i => (bs[i]?).getD true) = bs.all id := by
  rw [Bool.eq_iff_iff, List.all_eq_true, List.all_eq_true]
  constructor
  · intro h b hb
    obtain ⟨i, hi, e⟩ := List.getElem_of_mem hb
    have q := h i (List.mem_range.mpr hi)
    rw [List.getElem?_eq_getElem hi, e] at q
    exact q
  · intro h i hi
    have hi' := List.mem_range.mp hi
    rw [List.getElem?_eq_getElem hi']
    exact h _ (List.getElem_mem hi')
theorem call_all (hc : X.calm = true) : CallR X (.builtin "all") (fun xs H Q => ∃ (p : Addr) (bs : List Bool), xs = [.ref p] ∧ SqL X.K H p (bs.map V.bl) ∧ Q (.bl (bs.all id)) H) := by
  intro pins s σ H xs us Q I r h
  obtain ⟨p, bs, rfl, hq, q⟩ := h
  obtain ⟨u, rfl, rx⟩ := vals1 r
  cases rx
  obtain ⟨its, rv, pl, hz⟩ := I.list hq
  have hl := pl.isList
  have hlen := rv.length
  have hlt : p < s.heap.objs.size := by obtain ⟨_, e, _⟩ := hl; exact Heap.lt_size e
  refine call_all_walk (wpAny_pyIter_list hl ?_)
  refine ⟨s.heap.objs.size, [s.heap.objs.size, p], [s.heap.objs.size], its.toArray.size, _, _, fun i => (bs[i]?).getD true, rfl, Walks.list (A := X.A.in1) (I.ok.hd hc) _ p (Nat.ne_of_lt hlt) its.toArray,
    ⟨⟨_, Heap.get?_push_size _ rfl, rfl, rfl⟩, hl.push _⟩, fun i v s' Q' E' hP hQ => ?_, fun h' tk hk => ?_⟩
  · have hv : its[i]? = some v := by simpa using hP
    have hi : i < its.length := (List.getElem?_eq_some_iff.mp hv).1
    have hb : i < bs.length := by rw [List.length_map] at hlen; omega
    obtain ⟨u2, e1, e2⟩ := rv.get (i := i) (x := V.bl bs[i]) (by rw [List.getElem?_map, List.getElem?_eq_getElem hb]; rfl)
    rw [hv] at e1
    cases e1
    cases (show v = Value.bool bs[i] from e2)
    dsimp only at hQ
    rw [List.getElem?_eq_getElem hb] at hQ
    exact wpAny_truthy_bool hQ
  · have e : ((List.range its.toArray.size).all fun i => (bs[i]?).getD true) = bs.all id := by
      rw [List.size_toArray, ← hlen, List.length_map]
      exact all_at bs
    rw [e]
    refine ⟨.bl _, H, I.kept (t' := tk) (fun b x e => ?_), rfl, q⟩
    exact hk b x (fun hm => by rw [List.mem_singleton.mp hm] at e; exact Nat.lt_irrefl _ (Heap.lt_size e)) (Heap.get?_push_of_some _ e)
theorem mt_find : MtR X "str.find" (fun x vs H Q => ∃ z y, x = .str z ∧ vs = [.str y] ∧ Q (.int (Txt.find z y)) H) := by
  intro pins s σ H x vs v us Q I rx rv h
  obtain ⟨z, y, rfl, rfl, q⟩ := h
  obtain ⟨t, rfl⟩ := rx
  obtain ⟨u', rfl, u, rfl⟩ := rv.one
  exact SC.find ⟨.int _, H, I.tok _, ⟨_, rfl⟩, q⟩
theorem mt_startswith : MtR X "str.startswith" (fun x vs H Q => ∃ z y, x = .str z ∧ vs = [.str y] ∧ Q (.bl (Txt.startswith z y)) H) := by
  intro pins s σ H x vs v us Q I rx rv h
  obtain ⟨z, y, rfl, rfl, q⟩ := h
  obtain ⟨t, rfl⟩ := rx
  obtain ⟨u', rfl, u, rfl⟩ := rv.one
  exact SC.startswith ⟨.bl _, H, I, rfl, q⟩
theorem strs_of : ∀ {ws : List Str} {us : List Value}, Vals (ws.map V.str) us → ∃ l : List (Str × Tok), us = strValues l ∧ l.map (·.1) = ws
  | [], us, r => by
    cases r
    exact ⟨[], rfl, rfl⟩
  | w :: ws, us, r => by
    cases r with
    | cons r1 r2 =>
      obtain ⟨t, rfl⟩ := r1
      obtain ⟨l, rfl, e⟩ := strs_of r2
      exact ⟨(w, t) :: l, rfl, by rw [← e]; rfl⟩
theorem mt_join : MtR X "str.join" (fun x vs H Q => ∃ (z : Str) (p : Addr) (ws : List Str), x = .str z ∧ vs = [.ref p] ∧ SqL X.K H p (ws.map V.str) ∧ JoinOk z ws = true ∧ Q (.str (Txt.join z ws)) H) := by
  intro pins s σ H x vs v us Q I rx rv h
  obtain ⟨z, p, ws, rfl, rfl, hq, hj, q⟩ := h
  obtain ⟨t, rfl⟩ := rx
  obtain ⟨u', rfl, ru⟩ := rv.one
  cases ru
  obtain ⟨its, r, pl, hz⟩ := I.list hq
  obtain ⟨l, rfl, e⟩ := strs_of r
  exact SC.join pl.isList e hj fun t' k => ⟨.str _, H, I.tok _, ⟨t', rfl⟩, q⟩
def rSlS : V → Option Int → Option Int → Hp → VK → Prop := fun x lo hi H Q => ∃ z, x = .str z ∧ z.length ≤ sizeLine ∧ Q (.str (Txt.slice z lo hi)) H
theorem part_of {v : Value} {o : Option Int} (p : IsPart v o) : ∃ l : Option (Int × Tok), v = partValue l ∧ l.map (·.1) = o := by
  cases p with
  | none => exact ⟨none, rfl, rfl⟩
  | int i t => exact ⟨some (i, t), rfl, rfl⟩
theorem sl_str : SlR X rSlS := by
  intro pins s σ H x v vl vu lo hi sl Q I rx hs pl pu h
  obtain ⟨z, rfl, hz, q⟩ := h
  obtain ⟨t, rfl⟩ := rx
  obtain ⟨l, rfl, rfl⟩ := part_of pl
  obtain ⟨u, rfl, rfl⟩ := part_of pu
  exact ⟨"str", _, F.slot_str_getitem.lookup, typeIs_str _ _ _, wpAny_getItem_str_slice (l := l) (u := u) (st := none) hs rfl
    (post_val_or_str ⟨Nat.le_trans (Txt.slice_le z _ _) hz, fun t' k => ⟨.str _, H, I.tok _, ⟨t', rfl⟩, q⟩⟩)⟩
theorem find_neg {x : Str} {l : List Nat} (c : Nat) (h : x.cps.toList = l) : decide (Txt.find x ⟨#[c]⟩ < 0) = !decide (c ∈ l) := by
  have f := StrLaws.found_one x c
  rw [h] at f
  rw [← f]
  unfold Txt.find
  cases Builtin.Str.occurrences x ⟨#[c]⟩ 0 x.length 1 with
  | nil => rfl
  | cons i r =>
    show decide (((i : Nat) : Int) < 0) = false
    exact decide_eq_false (by omega)
theorem in_sign {x : Str} {l : List Nat} (c : Nat) (h : x.cps.toList = l) : (!(Builtin.Str.occurrences x ⟨#[c]⟩ 0 x.length 1).isEmpty) = decide (c ∈ l) := by
  rw [StrLaws.found_one x c, h]
theorem pe_bmK {K : PySem.W.Frag} {o e : Expr} {es : List Expr} {to : TE} {t : TA} {name : Str} {apos cpos : Pos} {T id : String} {r : V → List V → Hp → VK → Prop} (hK : X.K = K) (pa : PlainAttrs T) (slot : Slot T name id) (hty : typeOf (.builtin id) = pure (.type "method_descriptor")) (hm : MtR X id r) (ho : PE X o to) (ha : PA X (e :: es) t)
    (hbase : attributeBase o name X.env (eval o X.env) = eval o X.env := by rfl)
    (hfew : ((backTo cpos (starEach (e :: es) X.env)).all (fun x => !x.1) && (backToKw cpos (keywordEach [] X.env)).all (fun x => x.1.isSome)
      && decide ((e :: es).length + ([] : List Keyword).length + (if ([] : List Keyword).isEmpty then 0 else 1) < 30)) = true := by rfl)
    (hline : (apos.endLine == cpos.line) = true := by rfl) (hs : starEach (e :: es) X.env = (false, eval e X.env) :: starEach es X.env := by rfl) (hplain : (backTo cpos (starEach es X.env)).any (·.1) = false := by rfl) :
    PE X (.Call (.Attribute o name apos) (e :: es) [] cpos) (tBM K T r to t) := by
  subst hK
  exact pe_bm pa slot hty hm ho ha hbase hfew hline hs hplain
end
structure Seq (J : It) (H1 : Hp) (xs : List V) : Prop where
  go : ∀ i H, Same H1 H → i < xs.length → J.go i H
  yld : ∀ i H x H', Same H1 H → i < xs.length → J.yld i H x H' → H' = H ∧ xs[i]? = some x
  stop : ∀ H, Same H1 H → J.stop xs.length H
theorem seq_str (z : Str) (H1 : Hp) : Seq (Itx z) H1 (z.cps.toList.map fun c => V.str ⟨#[c]⟩) where
  go := fun i H _ h => by
    rw [List.length_map, Array.length_toList] at h
    exact h
  yld := fun i H x H' _ _ h => by
    obtain ⟨e, c, hc, hx⟩ := h
    refine ⟨e, ?_⟩
    have hc' : z.cps.toList[i]? = some c := by simpa using hc
    rw [List.getElem?_map, hc', hx]
    rfl
  stop := fun H _ => by
    show _ = z.cps.size
    rw [List.length_map, Array.length_toList]
theorem seq_range (lo : Int) (n : Nat) (H1 : Hp) : Seq (Itr lo n) H1 ((List.range n).map fun i => V.int (lo + (i : Nat))) where
  go := fun i H _ h => by
    rw [List.length_map, List.length_range] at h
    exact h
  yld := fun i H x H' _ hi h => by
    obtain ⟨e, hx⟩ := h
    refine ⟨e, ?_⟩
    rw [List.length_map, List.length_range] at hi
    rw [List.getElem?_map, List.getElem?_range hi, hx]
    rfl
  stop := fun H _ => by
    show n ≤ _
    rw [List.length_map, List.length_range]
    exact Nat.le_refl _
theorem take_more {α : Type} {xs : List α} {i : Nat} {x : α} (h : xs[i]? = some x) : xs.take (i + 1) = xs.take i ++ [x] := by
  rw [List.take_succ, h]
  rfl
theorem compB_seq {J : It} {tc : TT} {te : TE} {σf : Option V → St} {H1 : Hp} {Q : VK} {xs : List V} (S : Seq J H1 xs) (p : V → Bool) (g : V → V) (hz : xs.length < sizeLine)
    (hc : ∀ x ∈ xs, ∀ (H' : Hp) (R : Bool → Hp → Prop), Same H1 H' → R (p x) H' → tc (σf (some x)) H' R)
    (he : ∀ x ∈ xs, ∀ (H' : Hp) (R : VK), Same H1 H' → p x = true → R (g x) H' → te (σf (some x)) H' R)
    (q : ∀ D H', Same H1 H' → H1 D = none → H' D = some (.lst ((xs.filter p).map g)) → Q (.ref D) H') : CompB J tc te σf H1 Q := by
  intro D hD
  refine ⟨fun i m ys H2 => m = xs.length - i ∧ i ≤ xs.length ∧ Same H1 H2 ∧ H2 D = some (.lst ys) ∧ ys = ((xs.take i).filter p).map g, ⟨xs.length, rfl, Nat.zero_le _, same_new hD _, upd_same, rfl⟩, ?_⟩
  rintro i m ys H2 ⟨rfl, hi, sm, hD2, rfl⟩
  refine ⟨hD2, ?_⟩
  by_cases hlt : i < xs.length
  · refine .inr ⟨S.go i H2 sm hlt, ?_, fun x H3 y => ?_⟩
    · rw [List.length_map]
      refine Nat.lt_of_le_of_lt (List.length_filter_le _ _) ?_
      rw [List.length_take]
      omega
    · obtain ⟨e, hx⟩ := S.yld i H2 x H3 sm hlt y
      subst e
      have mem : x ∈ xs := List.mem_of_getElem? hx
      refine hc x mem _ _ sm ?_
      cases hp : p x with
      | false =>
        refine iteF ⟨xs.length - (i + 1), by omega, rfl, hlt, sm, hD2, ?_⟩
        rw [take_more hx, List.filter_append, List.filter_cons_of_neg (by rw [hp]; decide), List.filter_nil, List.append_nil]
      | true =>
        refine iteT (he x mem _ _ sm hp ⟨hD2, xs.length - (i + 1), by omega, rfl, hlt, same_on hD sm _, upd_same, ?_⟩)
        rw [take_more hx, List.filter_append, List.filter_cons_of_pos hp, List.filter_nil, List.map_append]
        rfl
  · have e : i = xs.length := by omega
    subst e
    refine .inl ⟨S.stop H2 sm, q D H2 sm hD ?_⟩
    rw [hD2, List.take_of_length_le (Nat.le_refl _)]
def cellsFor (cells : List (Str × Addr)) (names : List (Str × NameKind)) : Bool := names.all fun p => if (p.2 == NameKind.free) = true then (cells.lookup p.1).isSome else true
theorem cellsFor_at {cells : List (Str × Addr)} {names : List (Str × NameKind)} (h : cellsFor cells names = true) : ∀ p ∈ names, p.2 = .free → (cells.lookup p.1).isSome = true := fun p hp hk => by
  have q := (List.all_eq_true.mp h) p hp
  rw [hk, show (NameKind.free == NameKind.free) = true from rfl, if_pos rfl] at q
  exact q
end L2
namespace L2
open PySem PySem.Spec PyProof.Rows
section
variable {X : Cx}
theorem call_int_text : CallR X (.type "int") (fun xs H Q => ∃ z n, xs = [.str z] ∧ PySem.intText? z = some n ∧ z.length ≤ 640 ∧ Q (.int n) H) := by
  intro pins s σ H xs us Q I r h
  obtain ⟨z, n, rfl, hn, hl, q⟩ := h
  obtain ⟨u, rfl, t, rfl⟩ := vals1 r
  exact PySem.W.KIN.call_text hn hl ⟨.int n, H, I.tok _, ⟨_, rfl⟩, q⟩
theorem kit_int_bool (K : PySem.W.Frag) : PySem.W.kitOne K (.type "int") (.type "bool") = some false := by
  have e1 : PySem.W.kitMeta "bool" = true := by decide +kernel
  have e2 : PySem.W.subIn K (.type "int") (.type "bool") = some false := by
    show (fastBuiltinMro "int").map (·.contains (Value.type "bool")) = some false
    decide +kernel
  show (if (Value.type "int" == Value.type "bool") = true then some true else (if PySem.W.kitMeta "bool" = true then PySem.W.subIn K (.type "int") (.type "bool") else none)) = some false
  rw [if_neg (by decide), if_pos e1]
  exact e2
def rIxLA (K : PySem.W.Frag) : R2 := fun x y H Q => ∃ p xs i, x = .ref p ∧ y = .int i ∧ SqL K H p xs ∧ 0 ≤ i ∧ i < ((xs.length : Nat) : Int) ∧ ∀ v, xs[i.toNat]? = some v → Q v H
theorem ix_listA : IxR X (rIxLA X.K) := by
  intro value slice pins s σ H x y v u Q I rx ry h hs
  obtain ⟨p, xs, i, rfl, rfl, hq, h0, h1, q⟩ := h
  obtain ⟨c, e1, e2⟩ := at_in (xs := xs) h0 h1
  exact ix_list value slice pins s σ H _ _ v u Q I rx ry ⟨p, xs, i, c, rfl, rfl, hq, e2, q c e1⟩ hs
def intV : V → Bool
  | .int _ => true
  | _ => false
end
end L2
namespace L2
open PySem PySem.Spec PyProof.Rows
section
variable {X : Cx}
def PSk (X : Cx) (st : Stmt) (t : TS) : Prop :=
  ∀ (pins : List (Addr × Obj)) (s : Shared) (σ : St) (H : Hp) (D : Ends), Inv X pins σ H s → 1 ≤ s.toks → t D σ H → wpAny (model X.prog X.w) X.A (exec st X.env) (SP X pins D) X.xe s
def PSsK (X : Cx) (st : List Stmt) (t : TS) : Prop :=
  ∀ (pins : List (Addr × Obj)) (s : Shared) (σ : St) (H : Hp) (D : Ends), Inv X pins σ H s → 1 ≤ s.toks → t D σ H → wpAny (model X.prog X.w) X.A (execs st X.env) (SP X pins D) X.xe s
def PEk (X : Cx) (e : Expr) (t : TE) : Prop :=
  ∀ (pins : List (Addr × Obj)) (s : Shared) (σ : St) (H : Hp) (Q : VK), Inv X pins σ H s → 1 ≤ s.toks → t σ H Q → wpAny (model X.prog X.w) X.A (eval e X.env) (EP X pins σ Q) X.xe s
def PE1 (X : Cx) (e : Expr) (t : TE) : Prop :=
  ∀ (pins : List (Addr × Obj)) (s : Shared) (σ : St) (H : Hp) (Q : VK), Inv X pins σ H s → t σ H Q → wpAny (model X.prog X.w) X.A (eval e X.env) (fun u s' => 1 ≤ s'.toks ∧ EP X pins σ Q u s') X.xe s
def PS1 (X : Cx) (st : Stmt) (t : TS) : Prop :=
  ∀ (pins : List (Addr × Obj)) (s : Shared) (σ : St) (H : Hp) (D : Ends), Inv X pins σ H s → t D σ H → wpAny (model X.prog X.w) X.A (exec st X.env) (fun f s' => 1 ≤ s'.toks ∧ SP X pins D f s') X.xe s
theorem PS.k {st : Stmt} {t : TS} (h : PS X st t) : PSk X st t := fun pins s σ H D I _ hw => h pins s σ H D I hw
theorem PSs.k {st : List Stmt} {t : TS} (h : PSs X st t) : PSsK X st t := fun pins s σ H D I _ hw => h pins s σ H D I hw
def tRepl (y z : Str) (to : TE) : TE := fun σ H Q => to σ H fun v H1 => ∃ x, v = .str x ∧ x.length + (x.length + 1) * z.length ≤ 16777216 ∧ ∀ u : Str, u.length ≤ x.length + (x.length + 1) * z.length → Q (.str u) H1
end
end L2
namespace L2
open PySem PySem.Spec PyProof.Rows
section
variable {prog : Program} {w : World} {A : Around} {E : Value → Shared → Prop} {s : Shared}
theorem en_type (a b : Value) : checkTypeCall "enumerate" ⟨[a], [("start", b)]⟩ = pure () := by kernel_rfl
theorem en_new (a b : Value) : checkBuiltinCall "enumerate.__new__" ⟨[.type "enumerate", a], [("start", b)]⟩ = pure () := by kernel_rfl
theorem en_init (o a b : Value) : argsOk "object.__init__" ⟨[o, a], [("start", b)]⟩ := by
  unfold argsOk
  rw [signature?_of (id := "object.__init__") (n := ['_', '_', 't', 'i', 'n', 'i', '_', '_']) (o := ['t', 'c', 'e', 'j', 'b', 'o']) (by kernel_rfl) F.owner_object]
  kernel_rfl
set_option maxHeartbeats 2000000 in
theorem en_made (l : Addr) (items : Array Value) (n : Nat) (dct : Option Addr) (sl : Array (Option Value)) (j : Int) (t : Tok) (hj : Builtin.SmallTypes.fitsIndex j = true) :
    Meets (Builtin.«enumerate.__new__» ⟨[.type "enumerate", .ref l], [("start", .int j t)]⟩) (fun _ R s => s.heap.get? l = some { cls := .type "list", dict := dct, data := .seq items n, slots := sl } ∧
      R (.ok (.ret (.ref (s.heap.push { cls := .type "list_iterator", data := .fields #[.ref l, .int 0 0] }).objs.size)))
        { s with heap := (s.heap.push { cls := .type "list_iterator", data := .fields #[.ref l, .int 0 0] }).push { cls := .type "enumerate", data := .fields #[.none, .bool false, .ref s.heap.objs.size, rawInt j, .none, .none] } }) :=
  .of_wp fun prog w A R s h => by
    obtain ⟨hp, g, d, tk, os⟩ := s
    obtain ⟨hl, h⟩ := h
    have hsub := sub_enumerate
    have hL : Heap.IsList (Shared.heap ⟨hp, g, d, tk, os⟩) l items := ⟨_, hl, rfl, n, rfl⟩
    wp_walk using AutoSeq1.wpAny_loadPart' hl
    refine wpAny_stack_any fun st => wpAny_pure ?_
    split
    · rename_i c _ _ _ _ _
      cases (c == Value.type "enumerate")
      all_goals
        wp_walk using AutoSeq1.wpAny_loadPart' hl, wpAny_pyIter_list hL
        exact ⟨_, rfl, h⟩
    · wp_walk using AutoSeq1.wpAny_loadPart' hl, wpAny_pyIter_list hL
      exact ⟨_, rfl, h⟩
end
end L2
namespace L2
open PySem PySem.Spec PyProof.Rows
section
variable {prog : Program} {w : World} {A : Around} {E : Value → Shared → Prop} {s : Shared}
theorem en_objinit (self a b : Value) : Meets (Builtin.«object.__init__» ⟨[self, a], [("start", b)]⟩) (fun _ R s => s.TypeIs self "enumerate" ∧ R (.ok (.ret .none)) s) := by
  refine Meets.of_wp fun prog w A R s hs => ?_
  obtain ⟨hT, hq⟩ := hs
  have hl := F.called_enumerate.init.lookup
  have hm := F.called_enumerate.made
  have hne : (some "enumerate.__new__" != some "object.__new__") = true := by decide
  repeat (any_goals (first | assumption | wp_step))
  exact ⟨_, rfl, hq⟩
theorem en_call {l : Addr} {items : Array Value} {j : Int} {t : Tok} {Q : Value → Shared → Prop} (hj : Builtin.SmallTypes.fitsIndex j = true) (hL : s.heap.IsList l items)
    (h : ∀ h1, IsEnum h1 (s.heap.objs.size + 1) s.heap.objs.size j .none → h1.IsListIter s.heap.objs.size l 0 → (∀ b o, s.heap.get? b = some o → h1.get? b = some o) → Q (.ref (s.heap.objs.size + 1)) { s with heap := h1 }) :
    wpAny (model prog w) A (call (.type "enumerate") [.ref l] [("start", .int j t)]) Q E s := by
  obtain ⟨⟨c, dct, dt, sl⟩, hl, hc, n, hd⟩ := hL
  have hc' : c = .type "list" := hc
  have hd' : dt = .seq items n := hd
  subst hc' hd'
  have ft := F.called_enumerate
  obtain ⟨cc, tl, hmro⟩ := ft.mro
  have hmade := ft.made
  have hsub := ft.sub
  refine wpAny_call (codeAny_of_tree ?_)
  show wpAny _ _ (callAny (.type "enumerate") _) _ _ _
  refine wpAny_pure ⟨Code.quiet_builtin _ (by decide +kernel), codeAny_builtin F.entry_type_call ?_⟩
  rw [Around.under_plain (weight_type_call_type "enumerate" _ _) (units_type_call_type "enumerate" _ _)]
  have n1 := ft.notType
  have n2 := ft.canCreate
  have n3 := en_type (.ref l) (.int j t)
  repeat (any_goals (first | assumption | wp_step))
  have hz : (s.heap.push { cls := .type "list_iterator", data := .fields #[.ref l, .int 0 0] }).objs.size = s.heap.objs.size + 1 := Heap.size_push ..
  let R1 : Result → Shared → Prop := fun r s1 => r = .ok (.ret (.ref (s.heap.objs.size + 1))) ∧ s1 = { s with heap := (s.heap.push { cls := .type "list_iterator", data := .fields #[.ref l, .int 0 0] }).push { cls := .type "enumerate", data := .fields #[.none, .bool false, .ref s.heap.objs.size, rawInt j, .none, .none] } }
  have mk := en_made l items n dct sl j t hj prog w A.in1 R1 s ⟨hl, by rw [hz], rfl⟩
  refine codeAny_mono (R := R1) (codeAny_call_builtin ft.plain F.entry_enumerate_new (wpAny_of_eq (en_new (.ref l) (.int j t)) mk)) fun r s1 hr => ?_
  obtain ⟨rfl, rfl⟩ := hr
  have e1 : IsEnum ((s.heap.push { cls := .type "list_iterator", data := .fields #[.ref l, .int 0 0] }).push { cls := .type "enumerate", data := .fields #[.none, .bool false, .ref s.heap.objs.size, rawInt j, .none, .none] }) (s.heap.objs.size + 1) s.heap.objs.size j .none := by
    have q := Heap.get?_push_size (s.heap.push { cls := .type "list_iterator", data := .fields #[.ref l, .int 0 0] }) (o := { cls := .type "enumerate", data := .fields #[.none, .bool false, .ref s.heap.objs.size, rawInt j, .none, .none] }) rfl
    rw [hz] at q
    exact q
  have hT : Shared.TypeIs { s with heap := (s.heap.push { cls := .type "list_iterator", data := .fields #[.ref l, .int 0 0] }).push { cls := .type "enumerate", data := .fields #[.none, .bool false, .ref s.heap.objs.size, rawInt j, .none, .none] } } (.ref (s.heap.objs.size + 1)) "enumerate" := ⟨_, e1, rfl⟩
  have hli := ft.init.lookup
  have hbi := ft.init.bind (.ref (s.heap.objs.size + 1))
  repeat (any_goals (first | assumption | wp_step))
  let S2 : Shared := { s with heap := (s.heap.push { cls := .type "list_iterator", data := .fields #[.ref l, .int 0 0] }).push { cls := .type "enumerate", data := .fields #[.none, .bool false, .ref s.heap.objs.size, rawInt j, .none, .none] } }
  let R2 : Result → Shared → Prop := fun r s2 => r = .ok (.ret .none) ∧ s2 = S2
  have ini := en_objinit (.ref (s.heap.objs.size + 1)) (.ref l) (.int j t) prog w A.in1 R2 S2 ⟨hT, rfl, rfl⟩
  refine codeAny_mono (R := R2) (codeAny_call_builtin ft.init.plain F.entry_object_init (ft.init.check _ _ _ _ _ _ _ _ hT (en_init _ _ _) ini)) fun r2 s2 hr2 => ?_
  obtain ⟨rfl, rfl⟩ := hr2
  repeat (any_goals (first | assumption | wp_step))
  exact h _ e1 ⟨_, Heap.get?_push_of_some _ (Heap.get?_push_size _ rfl), rfl, rfl⟩ fun b o x => Heap.get?_push_of_some _ (Heap.get?_push_of_some _ x)
end
end L2
namespace L2
open PySem PySem.Spec PyProof.Rows
section
variable {prog : Program} {w : World} {A : Around} {E : Value → Shared → Prop} {s : Shared}
theorem en_next {en ir : Addr} {fp : List Addr} {n i : Nat} {j : Int} {P : Nat → Value → Prop} {St : Nat → Heap → Prop} {old : Value} {Q : Value → Shared → Prop}
    (D : Draws prog w A ir fp n P St) (k0 : IsEnum s.heap en ir j old) (st : St i s.heap) (hlt : i < n) (hne : en ≠ ir) (hef : en ∉ fp)
    (hQ : ∀ x hz tk, P i x → IsEnumOut hz en ir (j + 1) x s.heap.objs.size → St (i + 1) hz →
      hz.get? s.heap.objs.size = some { cls := .type "tuple", data := .seq #[.int j tk, x] } → (∀ b o, b ≠ en → b ≠ ir → s.heap.get? b = some o → hz.get? b = some o) → Q (.ref s.heap.objs.size) { s with heap := hz, toks := tk + 1 }) :
    wpAny (model prog w) A (Builtin.«enumerate.__next__» ⟨[.ref en], []⟩) (fun fin z => ∃ v, fin = .done (.ret v) ∧ Q v z) E s := by
  obtain ⟨h0, gs, dr, t0, oo⟩ := s
  show wpAny _ _ (field (.ref en) 2 >>= _) _ _ _
  refine wpAny_bind (wpAny_field k0 rfl (x := .ref ir) rfl ?_)
  refine wpAny_bind (D.item i _ _ _ hlt st fun x h1 tk px st1 b1 => ?_)
  have s1 : Heap.SameBut ir h0 h1 := b1
  have k1 : IsEnum h1 en ir j old := (s1.2 en hne).trans k0
  show wpAny _ _ (field (.ref en) 3 >>= _) _ _ ⟨h1, gs, dr, tk, oo⟩
  refine wpAny_bind (wpAny_field k1 rfl (x := rawInt j) rfl ?_)
  show wpAny _ _ (field (.ref en) 4 >>= _) _ _ ⟨h1, gs, dr, tk, oo⟩
  refine wpAny_bind (wpAny_field k1 rfl (x := .none) rfl ?_)
  show wpAny _ _ (mkInt j >>= _) _ _ ⟨h1, gs, dr, tk, oo⟩
  refine wpAny_bind (wpAny_mkInt ?_)
  show wpAny _ _ (setField (.ref en) 3 (rawInt (j + 1)) >>= _) _ _ ⟨h1, gs, dr, tk + 1, oo⟩
  refine wpAny_bind (wpAny_setField_rec k1 (by simp) fun h2 k2 b2 => ?_)
  have s2 : Heap.SameBut en h1 h2 := b2
  have k2' : IsEnum h2 en ir (j + 1) old := k2
  show wpAny _ _ (setField (.ref en) 4 .none >>= _) _ _ ⟨h2, gs, dr, tk + 1, oo⟩
  refine wpAny_bind (wpAny_setField_rec k2' (by simp) fun h3 k3 b3 => ?_)
  have s3 : Heap.SameBut en h2 h3 := b3
  have k3' : IsEnum h3 en ir (j + 1) old := k3
  show wpAny _ _ (newTuple [.int j tk, x] >>= _) _ _ ⟨h3, gs, dr, tk + 1, oo⟩
  refine wpAny_bind (wpAny_newTuple ?_)
  have k4 : IsEnum (h3.push { cls := .type "tuple", data := .seq #[.int j tk, x] }) en ir (j + 1) old := Heap.get?_push_of_some _ k3'
  generalize e4 : h3.push { cls := .type "tuple", data := .seq #[.int j tk, x] } = h4 at k4
  have z3 : h3.objs.size = h0.objs.size := by rw [s3.1, s2.1, s1.1]
  have lt : en < h0.objs.size := Heap.lt_size k0
  have t4 : h4.get? h0.objs.size = some { cls := .type "tuple", data := .seq #[.int j tk, x] } := by
    rw [← e4, ← z3]
    exact Heap.get?_push_size _ rfl
  have kp4 : ∀ b o, b ≠ en → b ≠ ir → h0.get? b = some o → h4.get? b = some o := fun b o n1 n2 hb => by
    rw [← e4]
    exact Heap.get?_push_of_some _ (s3.extBut b o n1 (s2.extBut b o n1 (s1.extBut b o n2 hb)))
  have st4 : St (i + 1) h4 := D.frame _ _ _ st1 fun b hb o y => by
    have n1 : b ≠ en := fun q => hef (q ▸ hb)
    rw [← e4]
    exact Heap.get?_push_of_some _ (s3.extBut b o n1 (s2.extBut b o n1 y))
  show wpAny _ _ (Builtin.SmallTypes.ownedTupleIsFree (.ref en) >>= _) _ _ ⟨h4, gs, dr, tk + 1, oo⟩
  rw [z3]
  clear e4 k3 k3' b3 s3 k2 k2' b2 s2 k1 s1 b1 st1 z3 h3 h2 h1
  refine wpAny_bind ?_
  unfold Builtin.SmallTypes.ownedTupleIsFree
  refine wpAny_bind (wpAny_field k4 rfl (x := .none) rfl (wpAny_pure ?_))
  simp only [if_true]
  refine wpAny_bind (wpAny_rule ?_)
  refine wpAny_bind (wpAny_field k4 rfl (x := old) rfl ?_)
  refine wpAny_bind (wpAny_setField_rec k4 (by simp) fun h5 k5 b5 => ?_)
  have s5 : Heap.SameBut en h4 h5 := b5
  have k5' : IsEnum h5 en ir (j + 1) x := k5
  show wpAny _ _ (Builtin.SmallTypes.ownedTupleHandOut (.ref en) (.ref h0.objs.size) >>= _) _ _ ⟨h5, gs, dr, tk + 1, oo⟩
  refine wpAny_bind ?_
  unfold Builtin.SmallTypes.ownedTupleHandOut
  refine wpAny_bind (wpAny_setField_rec k5' (by simp) fun h6 k6 b6 => ?_)
  have s6 : Heap.SameBut en h5 h6 := b6
  have k6' : IsEnumOut h6 en ir (j + 1) x h0.objs.size := k6
  refine wpAny_setField_rec k6' (by simp) fun h7 k7 b7 => ?_
  have s7 : Heap.SameBut en h6 h7 := b7
  have k7' : IsEnumOut h7 en ir (j + 1) x h0.objs.size := k7
  refine wpAny_bind (wpAny_letGo (wpAny_pure ⟨_, rfl, hQ x h7 tk px k7' ?_ ?_ ?_⟩))
  · exact D.frame _ _ _ st4 fun b hb o y => by
      have n1 : b ≠ en := fun q => hef (q ▸ hb)
      exact s7.extBut b o n1 (s6.extBut b o n1 (s5.extBut b o n1 y))
  · exact s7.extBut _ _ (Nat.ne_of_gt lt) (s6.extBut _ _ (Nat.ne_of_gt lt) (s5.extBut _ _ (Nat.ne_of_gt lt) t4))
  · exact fun b o n1 n2 hb => s7.extBut b o n1 (s6.extBut b o n1 (s5.extBut b o n1 (kp4 b o n1 n2 hb)))
theorem en_item {en ir : Addr} {fp : List Addr} {n i : Nat} {j : Int} {P : Nat → Value → Prop} {St : Nat → Heap → Prop} {old : Value} {Q : Option Value → Shared → Prop}
    (D : Draws prog w A.in1 ir fp n P St) (k0 : IsEnum s.heap en ir j old) (st : St i s.heap) (hlt : i < n) (hne : en ≠ ir) (hef : en ∉ fp)
    (hQ : ∀ x hz tk, P i x → IsEnumOut hz en ir (j + 1) x s.heap.objs.size → St (i + 1) hz →
      hz.get? s.heap.objs.size = some { cls := .type "tuple", data := .seq #[.int j tk, x] } → (∀ b o, b ≠ en → b ≠ ir → s.heap.get? b = some o → hz.get? b = some o) → Q (some (.ref s.heap.objs.size)) { s with heap := hz, toks := tk + 1 }) :
    wpAny (model prog w) A (pyNext (.ref en)) Q E s := by
  have hT : s.TypeIs (.ref en) "enumerate" := ⟨_, k0, rfl⟩
  unfold pyNext
  refine wpAny_bind (wpAny_attempt (wpAny_callSpecial?_slot (name := Str.ofString "__next__") hT F.slot_enumerate_next (wpAny_call_entry F.slot_enumerate_next hT F.entry_enumerate_next ?_ (F.args_enumerate_next_1 _))))
  exact en_next D k0 st hlt hne hef fun x hz tk a b c d k => wpAny_pure (hQ x hz tk a b c d k)
end
def Ite (K : PySem.W.Frag) (a : Addr) (j : Int) : It :=
  ⟨fun i H => ∃ xs x, SqL K H a xs ∧ xs[i]? = some x, fun i H x H' => ∃ p y, x = .ref p ∧ H p = none ∧ H' = upd H p (.tup [.int (j + (i : Nat)), y]) ∧ ∀ xs, SqL K H a xs → xs[i]? = some y, fun i H => ∃ xs, SqL K H a xs ∧ xs.length = i⟩
theorem turn_enum {P : Program} {w : World} {K : PySem.W.Frag} {elts : List Expr} {x1} {pos : Pos} (a en ir : Addr) (j : Int) (hne : en ≠ ir) :
    Turn P w K (.Tuple elts x1 pos) (Ite K a j) [en, ir] en (fun i h => (∃ old, IsEnum h en ir (j + (i : Nat)) old) ∧ h.IsListIter ir a i) where
  mem := by simp
  obj := fun i h st b hb => by
    obtain ⟨⟨old, k⟩, o, e, c, d⟩ := st
    rcases List.mem_cons.mp hb with z | z
    · exact ⟨_, by rw [z]; exact k, fun v y => by cases y⟩
    · exact ⟨o, by rw [List.mem_singleton.mp z]; exact e, fun v y => by rw [d] at y; cases y⟩
  keep := fun i h h' st k => by
    obtain ⟨⟨old, q⟩, r⟩ := st
    exact ⟨⟨old, k en (by simp) _ q⟩, r.at fun o e => k ir (by simp) o e⟩
  item := by
    intro X hP hw hK hc i pins s σ H E I hf st hg
    subst hP hw hK
    obtain ⟨xs, x, hq, hx⟩ := hg
    obtain ⟨its, rv, p, hz⟩ := I.list hq
    obtain ⟨u, hu, ru⟩ := rv.get hx
    obtain ⟨f0, f1, f2, f3, f4, f5⟩ := hf en (by simp)
    obtain ⟨g0, g1, g2, g3, g4, g5⟩ := hf ir (by simp)
    obtain ⟨⟨old, k⟩, r⟩ := st
    have hii : i < its.toArray.size := by
      have := (List.getElem?_eq_some_iff.mp hu).1
      simpa using this
    have nal : a ≠ ir := fun e => by
      obtain ⟨o1, e1, c1, _⟩ := r
      obtain ⟨o2, e2, c2, _⟩ := p.isList
      rw [e] at e2
      rw [e1] at e2
      cases e2
      rw [c1] at c2
      exact absurd c2 (by intro z; injection z with z; exact absurd z (by decide))
    have nae : en ∉ [ir, a] := fun m => by
      rcases List.mem_cons.mp m with z | z
      · exact hne z
      · obtain ⟨o2, e2, c2, _⟩ := p.isList
        rw [← List.mem_singleton.mp z, k] at e2
        cases e2
        exact absurd c2 (by intro z; injection z with z; exact absurd z (by decide))
    have hh : X.A.in1.handled = none := I.ok.hd hc
    refine en_item (Draws.list hh ir a nal its.toArray) k ⟨r, p.isList⟩ hii hne nae fun y hz2 tk py ko st2 tup kp => ?_
    have ey : y = u := by
      have e : its[i]? = some y := by simpa using py
      rw [hu] at e
      exact (Option.some.inj e).symm
    subst ey
    refine ⟨_, rfl, ?_⟩
    refine wpAny_letOwnedTupleGo_enum ko fun h3 k3 b3 => ?_
    have s3 : Heap.SameBut en hz2 h3 := b3
    have lt1 : en < s.heap.objs.size := Heap.lt_size k
    have lt2 : ir < s.heap.objs.size := by
      obtain ⟨o, e, _⟩ := r
      exact Heap.lt_size e
    have st3 : h3.IsListIter ir a (i + 1) := by
      obtain ⟨o, e, q⟩ := st2.1
      exact ⟨o, (s3.2 ir (Ne.symm hne)).trans e, q⟩
    have k3' : IsEnum h3 en ir (j + ((i + 1 : Nat) : Int)) y := by
      have e : j + ((i + 1 : Nat) : Int) = j + (i : Nat) + 1 := by omega
      rw [e]
      exact k3
    have tup3 : h3.get? s.heap.objs.size = some { cls := .type "tuple", data := .seq #[.int (j + (i : Nat)) tk, y] } := (s3.2 _ (Nat.ne_of_gt lt1)).trans tup
    have fr : H s.heap.objs.size = none := I.hok.fresh (Nat.le_refl _)
    have I2 : Inv X pins σ (upd H s.heap.objs.size (.tup [.int (j + (i : Nat)), x])) { s with heap := h3, toks := tk + 1 } := by
      refine I.step (g' := s.gens) (d' := s.drawn) (ch := [en, ir]) (fun b hb => ?_) (fun b o _ _ hc e _ => ?_) (fun b o _ _ hc e _ => ?_) (fun b o _ e n => ?_) (fun b o hc e => ?_) (fun b xs e => ?_) (fun b o xs e => ?_) (fun b ps e => ⟨#[], ?_⟩) (fun m hm => ?_) (fun b v e => ?_) I.bare
      · rcases List.mem_cons.mp hb with z | z
        · rw [z]; exact ⟨f3, f1, f4, f5⟩
        · rw [List.mem_singleton.mp z]; exact ⟨g3, g1, g4, g5⟩
      · exact (s3.2 b (fun z => hc (by simp [z]))).trans (kp b o (fun z => hc (by simp [z])) (fun z => hc (by simp [z])) e)
      · exact ⟨o.slots, (s3.2 b (fun z => hc (by simp [z]))).trans (kp b o (fun z => hc (by simp [z])) (fun z => hc (by simp [z])) e)⟩
      · rw [upd_ne (Nat.ne_of_lt (Heap.lt_size e))]; exact n
      · by_cases hb : b = en ∨ b = ir
        · rcases hb with z | z
          · exact absurd (by simp [z]) hc
          · exact absurd (by simp [z]) hc
        · exact ⟨o, (s3.2 b (fun z => hb (.inl z))).trans (kp b o (fun z => hb (.inl z)) (fun z => hb (.inr z)) e)⟩
      · rw [upd_ne (ne_of_none e fr)]; exact e
      · rw [upd_ne (ne_of_none e fr)]; exact e
      · rw [upd_ne (ne_of_none e fr), e]; simp
      · obtain ⟨o, es, ep, ho, q⟩ := hm
        exact ⟨o, es, ep, (s3.2 _ (Ne.symm f1)).trans (kp _ o (Ne.symm f1) (Ne.symm g1) ho), q⟩
      · by_cases hb : b = s.heap.objs.size
        · subst hb
          rw [upd_same] at e
          cases e
          exact ⟨small (by show 2 ≤ 1000; decide), [.int (j + (i : Nat)) tk, y], .cons ⟨_, rfl⟩ (.cons ru .nil), _, tup3, rfl, _, rfl⟩
        · rw [upd_ne hb] at e
          have nn : ∀ c v, H c = some v → c ≠ en ∧ c ≠ ir := fun c v q => ⟨(fun z => by rw [z, f0] at q; cases q), (fun z => by rw [z, g0] at q; cases q)⟩
          refine (I.hok b v e).stay (fun c v' hc q => ?_) (fun c q => by rw [upd_ne (ne_of_none q fr)]; exact q) (fun c xs q => by rw [upd_ne (ne_of_none q fr)]; exact q)
          have m : c ≠ en ∧ c ≠ ir := by
            rcases hc with z | z
            · rw [z]; exact nn b v e
            · exact nn c _ z
          exact (s3.2 c m.1).trans (kp c v' m.1 m.2 q)
    refine ⟨.ref s.heap.objs.size, _, I2, rfl, ⟨_, x, rfl, fr, rfl, fun ys hy => by rw [I.list_inj hy hq]; exact hx⟩, ⟨⟨_, k3'⟩, st3⟩, fun b hb => ?_⟩
    rw [upd_ne (fun z => ?_)]
    · exact (hf b hb).1
    · rw [z] at hb
      rcases List.mem_cons.mp hb with q | q
      · exact Nat.ne_of_gt lt1 q
      · exact Nat.ne_of_gt lt2 (List.mem_singleton.mp q)
  done := by
    intro X hP hw hK hc i pins s σ H E I hf st hg
    subst hP hw hK
    obtain ⟨xs, hq, hx⟩ := hg
    obtain ⟨its, rv, p, hz⟩ := I.list hq
    obtain ⟨g0, g1, g2, g3, g4, g5⟩ := hf ir (by simp)
    obtain ⟨⟨old, k⟩, r⟩ := st
    have hl := rv.length
    have nal : a ≠ ir := fun e => by
      obtain ⟨o1, e1, c1, _⟩ := r
      obtain ⟨o2, e2, c2, _⟩ := p.isList
      rw [e] at e2
      rw [e1] at e2
      cases e2
      rw [c1] at c2
      exact absurd c2 (by intro z; injection z with z; exact absurd z (by decide))
    have hh : X.A.in1.handled = none := I.ok.hd hc
    have en_i : i = its.toArray.size := by simp; omega
    subst en_i
    refine wpAny_pyNext_enum_endD (Draws.list hh ir a nal its.toArray) k ⟨r, p.isList⟩ fun h' eb => ?_
    exact ⟨rfl, I.turned (t' := s.toks) (fun b o hb e => eb b o hb e) g0 g1 g3 g4 g5⟩
  self := fun A i s Q E st h => by
    obtain ⟨⟨old, k⟩, _⟩ := st
    exact wpAny_pyIter_enum k h
theorem cw_tykw {M : Model} {A : Around} {E : Value → Shared → Prop} {s : Shared} {pos : Pos} {T : String} {args : List (Bool × Sem Value)} {kws : List (Option Str × Sem Value)} {Q : Value → Shared → Prop} (hp : (args.any (·.1) || kws.any (·.1.isNone)) = false)
    (h : wpAny M A (evalArgs (.type T) true args kws) (fun a s1 => wpAny M A (call (.type T) a.pos a.kw) Q E s1) E s) : wpAny M A (callWith pos (.type T) [] args kws) Q E s := by
  unfold callWith
  refine wpAny_bind (wpAny_holding (wpAny_mono h (fun a s1 h1 => wpAny_bind (wpAny_standAt ?_)) fun _ _ x => x))
  simp only [hp]
  refine wpAny_bind (wpAny_pure ?_)
  exact wpAny_bind (wpAny_mono h1 (fun r s2 hr => wpAny_bind (wpAny_holding (wpAny_point (wpAny_pure hr)))) fun _ _ x => x)
section
variable {X : Cx} {elts : List Expr} {x1 : Nat} {tpos : Pos}
def iEnumK (K : PySem.W.Frag) (tl : TA) (tj : TA) : TI := fun σ H R => tl σ H fun vs H1 => tj σ H1 fun zs H2 => ∃ a j, vs = [.ref a] ∧ zs = [.int j] ∧ (∃ xs, SqL K H2 a xs) ∧ Builtin.SmallTypes.fitsIndex j = true ∧ R (Ite K a j) H2
def iEnum (K : PySem.W.Frag) (tl : TA) : TI := fun σ H R => tl σ H fun vs H1 => ∃ a, vs = [.ref a] ∧ (∃ xs, SqL K H1 a xs) ∧ R (Ite K a 0) H1
theorem en_it {pins : List (Addr × Obj)} {σ : St} {H : Hp} {s : Shared} {R : It → Hp → Prop} {E : Value → Shared → Prop} {a : Addr} {j : Int} {h1 : Heap} (I : Inv X pins σ H s) (k : IsEnum h1 (s.heap.objs.size + 1) s.heap.objs.size j .none) (st : h1.IsListIter s.heap.objs.size a 0)
    (kp : ∀ b o, s.heap.get? b = some o → h1.get? b = some o) (q : R (Ite X.K a j) H) : wpAny (model X.prog X.w) X.A (pyIter (.ref (s.heap.objs.size + 1))) (PIE X pins σ (.Tuple elts x1 tpos) R) E { s with heap := h1 } := by
  refine wpAny_pyIter_enum k ?_
  have I1 : Inv X pins σ H { s with heap := h1 } := I.kept (t' := s.toks) kp
  refine ⟨s.heap.objs.size + 1, [s.heap.objs.size + 1, s.heap.objs.size], _, _, H, rfl, I1, turn_enum a _ _ j (Nat.succ_ne_self _), ⟨⟨.none, ?_⟩, st⟩, fun b hb => ?_, q⟩
  · have e : j + ((0 : Nat) : Int) = j := by omega
    rw [e]
    exact k
  · rcases List.mem_cons.mp hb with z | z
    · rw [z]; exact I.fpOk (Nat.le_succ _) (I.hok.fresh (Nat.le_succ _))
    · rw [List.mem_singleton.mp z]; exact I.fpOk (Nat.le_refl _) (I.hok.fresh (Nat.le_refl _))
theorem pi_enumK {a v : Expr} {tl tj : TA} {p pos kpos : Pos} (hg : Gl X "enumerate") (hm : X.mg "enumerate" = none) (ha : PA X [a] tl) (hv : PK X [⟨some "start", v, kpos⟩] tj) (hs : starEach [a] X.env = [(false, eval a X.env)] := by rfl)
    (hall : (backToKw pos (keywordEach [⟨some "start", v, kpos⟩] X.env)).all (·.1.isSome) = true := by rfl) (hks : (backToKw pos (keywordEach [⟨some "start", v, kpos⟩] X.env)).filterMap (·.1) = [("start" : Str)] := by rfl)
    (hpl : ((backTo pos (starEach [a] X.env)).any (·.1) || (backToKw pos (keywordEach [⟨some "start", v, kpos⟩] X.env)).any (·.1.isNone)) = false := by rfl) :
    PI X (.Tuple elts x1 tpos) (.Call (.Name "enumerate" p) [a] [⟨some "start", v, kpos⟩] pos) (iEnumK X.K tl tj) := by
  intro pins s σ H R I h
  refine wpAny_Call_Name_kw (ld_blt I hg hm boot_enumerate ?_)
  refine cw_tykw hpl (evalArgs_kw2 hall (thn (ha pos pins s σ H _ I h) fun us s1 ⟨vs, H1, I1, r1, q1⟩ => thn (hv pos pins s1 σ H1 _ I1 q1) fun ws s2 ⟨zs, H2, I2, r2, q2⟩ => ?_) hs)
  obtain ⟨l, j, rfl, rfl, ⟨xs, hq⟩, hj, q⟩ := q2
  obtain ⟨u, rfl, ru⟩ := vals1 r1
  obtain ⟨u2, rfl, t, rfl⟩ := vals1 r2
  cases ru
  rw [hks]
  obtain ⟨its, rv, pl, hz⟩ := I2.list hq
  exact en_call hj pl.isList fun h1 k st kp => en_it I2 k st kp q
theorem pi_enum {a : Expr} {tl : TA} {p pos : Pos} (hg : Gl X "enumerate") (hm : X.mg "enumerate" = none) (ha : PA X [a] tl) (hs : starEach [a] X.env = [(false, eval a X.env)] := by rfl) :
    PI X (.Tuple elts x1 tpos) (.Call (.Name "enumerate" p) [a] [] pos) (iEnum X.K tl) := by
  intro pins s σ H R I h
  refine Call_ (ld_blt I hg hm boot_enumerate (PyProof.Rows.callWith_type1 (thn (ha pos pins s σ H _ I h) fun us s1 ⟨vs, H1, I1, r1, q1⟩ => ?_) hs rfl))
  obtain ⟨l, rfl, ⟨xs, hq⟩, q⟩ := q1
  obtain ⟨u, rfl, ru⟩ := vals1 r1
  cases ru
  obtain ⟨its, rv, pl, hz⟩ := I1.list hq
  exact call_enumerate_list pl.isList fun h1 k st _ kp => en_it I1 k st kp q
end
theorem for_enum {K : PySem.W.Frag} {a : Addr} {j : Int} {xs : List V} {g : TG} {tb : TS} {D : Ends} {σ : St} {H : Hp} (Pv : Nat → St → Hp → Prop) (h0 : Pv 0 σ H) (hl : ∀ i σ H, i ≤ xs.length → Pv i σ H → SqL K H a xs)
    (hs : ∀ i x σ H p, xs[i]? = some x → Pv i σ H → H p = none → g (.ref p) σ (upd H p (.tup [.int (j + (i : Nat)), x])) fun σ2 H2 => tb { D with nx := Pv (i + 1), ct := Pv (i + 1), bk := D.nx } σ2 H2) (hd : ∀ σ H, Pv xs.length σ H → D.nx σ H) :
    ∃ W : Nat → Nat → St → Hp → Prop, (∃ m, W 0 m σ H) ∧ ∀ i m σ H, W i m σ H →
      ((Ite K a j).stop i H ∧ D.nx σ H) ∨ ((Ite K a j).go i H ∧ ∃ N : St → Hp → Prop, (∀ σ' H', N σ' H' → ∃ m', m' < m ∧ W (i + 1) m' σ' H') ∧ ∀ x H', (Ite K a j).yld i H x H' → g x σ H' fun σ2 H2 => tb { D with nx := N, ct := N, bk := D.nx } σ2 H2) := by
  refine ⟨fun i m σ H => m = xs.length - i ∧ i ≤ xs.length ∧ Pv i σ H, ⟨xs.length, by simp, Nat.zero_le _, h0⟩, ?_⟩
  rintro i m σ H ⟨rfl, hi, p⟩
  have q := hl i σ H hi p
  by_cases hlt : i < xs.length
  · refine .inr ⟨⟨xs, xs[i], q, by simp [hlt]⟩, Pv (i + 1), fun σ' H' p' => ⟨xs.length - (i + 1), by omega, rfl, hlt, p'⟩, fun x H' y => ?_⟩
    obtain ⟨c, z, rfl, hc, rfl, y⟩ := y
    exact hs i z σ H c (y xs q) p hc
  · have e : i = xs.length := by omega
    subst e
    exact .inl ⟨⟨xs, q, rfl⟩, hd σ H p⟩
end L2
namespace L2
open PySem PySem.Spec PyProof.Rows
section
variable {X : Cx} {pins : List (Addr × Obj)} {σ : St} {H : Hp} {s : Shared} {d : Addr} {kvs : List (Key × V)}
theorem Inv.freeze (I : Inv X pins σ H s) (h : H d = some (.dK kvs)) : ∃ o, s.heap.get? d = some o ∧ Inv X pins σ (upd H d (.frz o (.dK kvs))) s := by
  obtain ⟨z, hd, vs, r, o, es, ep, e, c⟩ := I.hok d _ h
  have mu : Mut (H d) := by rw [h]; trivial
  refine ⟨o, e, I.un (h' := s.heap) (t' := s.toks) (Un.write mu (.inl rfl) (fun _ _ _ q => q) ⟨o, e⟩) (I.hok.write mu (.inl rfl) (fun _ _ _ q => q) ⟨o, e⟩ ⟨e, z, hd, vs, r, o, es, ep, e, c⟩)⟩
theorem Inv.thaw {o : Obj} (I : Inv X pins σ H s) (h : H d = some (.frz o (.dK kvs))) (h0 : ∀ o u, X.H₀ d ≠ some (.frz o u)) : Inv X pins σ (upd H d (.dK kvs)) s := by
  have nn : ∀ b, H b = none → b ≠ d := fun b q z => by rw [z, h] at q; cases q
  refine ⟨I.ok, I.os, I.bare, ⟨I.base.keep, I.base.slot, fun b o' e n hx => ?_, I.base.there, fun b xs e => ?_, fun b o' u e => ?_, fun b ps e => ?_⟩, I.loc, I.cell, ?_, fun x c e => ?_, fun p hp => ?_, fun b u e => ?_, I.len⟩
  · have q := I.base.free b o' e n hx
    rw [upd_ne (nn b q)]
    exact q
  · have q := I.base.tups b xs e
    rw [upd_ne (ne_of q h (by intro z; cases z))]
    exact q
  · have q := I.base.frzs b o' u e
    rw [upd_ne (fun z => h0 o' u (by rw [← z]; exact e))]
    exact q
  · obtain ⟨more, q⟩ := I.base.tbls b ps e
    refine ⟨more, ?_⟩
    rw [upd_ne (ne_of q h (by intro z; cases z))]
    exact q
  · rw [upd_ne (nn _ I.free)]
    exact I.free
  · rw [upd_ne (nn _ (I.freeC x c e))]
    exact I.freeC x c e
  · obtain ⟨a, b, c⟩ := I.pin p hp
    exact ⟨a, by rw [upd_ne (nn _ b)]; exact b, c⟩
  · by_cases hb : b = d
    · subst hb
      rw [upd_same] at e
      cases e
      obtain ⟨q, ok⟩ := I.hok b _ h
      exact ok
    · rw [upd_ne hb] at e
      exact (I.hok b u e).stay (fun _ _ _ q => q) (fun c q => by rw [upd_ne (ne_of q h (by intro z; cases z))]; exact q) (fun c xs q => by rw [upd_ne (ne_of q h (by intro z; cases z))]; exact q)
theorem Inv.unfrozen (I : Inv X pins σ H s) (h : H d = some (.dK kvs)) : ∀ o u, X.H₀ d ≠ some (.frz o u) := fun o u e => by
  have q := I.base.frzs d o u e
  rw [h] at q
  cases q
def tFrz (t : TE) : TE := fun σ H Q => ∃ (d : Addr) (kvs : List (Key × V)), H d = some (.dK kvs) ∧ ∀ o, t σ (upd H d (.frz o (.dK kvs))) fun v H' => H' d = some (.frz o (.dK kvs)) ∧ Q v (upd H' d (.dK kvs))
theorem pe_frz {e : Expr} {t : TE} (h : PE X e t) : PE X e (tFrz t) := by
  intro pins s σ H Q I hw
  obtain ⟨d, kvs, hd, q⟩ := hw
  obtain ⟨o, eo, I1⟩ := I.freeze hd
  refine thn (h pins s σ _ _ I1 (q o)) fun v s1 ⟨x, H1, I2, r, hz, q2⟩ => ?_
  exact ⟨x, _, I2.thaw hz (I.unfrozen hd), r, q2⟩
def sFrz (t : TS) : TS := fun D σ H => ∃ (d : Addr) (kvs : List (Key × V)), H d = some (.dK kvs) ∧ ∀ o, t { nx := fun σ' H' => H' d = some (.frz o (.dK kvs)) ∧ D.nx σ' (upd H' d (.dK kvs)), rt := fun v H' => H' d = some (.frz o (.dK kvs)) ∧ D.rt v (upd H' d (.dK kvs)), bk := fun σ' H' => H' d = some (.frz o (.dK kvs)) ∧ D.bk σ' (upd H' d (.dK kvs)), ct := fun σ' H' => H' d = some (.frz o (.dK kvs)) ∧ D.ct σ' (upd H' d (.dK kvs)) } σ (upd H d (.frz o (.dK kvs)))
end
def Itd (d : Addr) (o : Obj) (kvs : List (Key × V)) : It :=
  ⟨fun i H => H d = some (.frz o (.dK kvs)) ∧ i < kvs.length, fun i H x H' => H' = H ∧ ∃ k v, kvs[i]? = some (k, v) ∧ x = kV k, fun i H => H d = some (.frz o (.dK kvs)) ∧ kvs.length = i⟩
theorem rel_key {k : Key} {v : Value} (h : keyIs k v = true) : RelV (kV k) v := by
  rcases keyIs_shape h with ⟨i, t, rfl, rfl⟩ | ⟨x, t, rfl, rfl⟩
  · exact ⟨t, rfl⟩
  · exact ⟨t, rfl⟩
theorem turn_dict {P : Program} {w : World} {K : PySem.W.Frag} {tg : Expr} (d it : Addr) (o : Obj) (kvs : List (Key × V)) {vs : List (Key × Value)} {es : Array DictEntry} {ep : Nat} (rk : KV kvs vs) (hd : o.ExactDict) (he : o.data = .dict es ep) (hk : KeysOf (mixKind P w) es) (hp : Pairs (mixKind P w) es.toList vs) (nd : (vs.map (·.1)).Nodup) :
    Turn P w K tg (Itd d o kvs) [it] it (fun i h => h.IsKeyIter it d i vs.length ep) where
  mem := by simp
  obj := fun i h st b hb => by
    have e : b = it := by simpa using hb
    subst e
    obtain ⟨o, e, c, d⟩ := st
    exact ⟨o, e, fun v z => by rw [d] at z; cases z⟩
  keep := fun i h h' st k => st.at fun o e => k it (by simp) o e
  item := by
    intro X hP hw hK hc i pins s σ H E I hf st hg
    subst hP hw hK
    obtain ⟨hz, hi⟩ := hg
    obtain ⟨eo, _⟩ := I.hok d _ hz
    obtain ⟨f0, f1, f2, f3, f4, f5⟩ := hf it (by simp)
    have hl := KV.length rk
    have hi2 : i < vs.length := by omega
    have ev : vs[i]? = some (vs[i].1, vs[i].2) := List.getElem?_eq_getElem hi2
    have ks : kvs[i]? = some (kvs[i].1, kvs[i].2) := List.getElem?_eq_getElem hi
    have keq : kvs[i].1 = vs[i].1 := by
      have q := KV.keys rk
      have q1 : (kvs.map (·.1))[i]? = (vs.map (·.1))[i]? := by rw [q]
      rw [List.getElem?_map, List.getElem?_map, ks, ev] at q1
      exact Option.some.inj q1
    refine wpAny_pyNext_dict_item st ⟨o, es, eo, hd, he, hk, hp, nd⟩ ev fun key h' hkey st' sb => ?_
    have I1 : Inv X pins σ H { s with heap := h' } := I.turned (t' := s.toks) (fun b o hb e => (sb.2 b hb).trans e) f0 f1 f3 f4 f5
    obtain ⟨o2, e2, c2, d2⟩ := id st'
    refine ⟨key, rfl, go_of (s := { s with heap := h' }) e2 c2 d2 (by decide) ⟨kV kvs[i].1, H, I1, ?_, ⟨rfl, _, _, ks, rfl⟩, st', fun b hb => (hf b hb).1⟩⟩
    rw [keq]
    exact rel_key hkey
  done := by
    intro X hP hw hK hc i pins s σ H E I hf st hg
    subst hP hw hK
    obtain ⟨hz, hi⟩ := hg
    obtain ⟨eo, _⟩ := I.hok d _ hz
    obtain ⟨f0, f1, f2, f3, f4, f5⟩ := hf it (by simp)
    have hl := KV.length rk
    have hin : vs[i]? = none := List.getElem?_eq_none (by omega)
    exact wpAny_pyNext_dict_end (I.ok.hd hc) st ⟨o, es, eo, hd, he, hk, hp, nd⟩ hin fun h' eb => ⟨rfl, I.turned (t' := s.toks) (fun b o hb e => eb b o hb e) f0 f1 f3 f4 f5⟩
  self := fun _ _ _ _ _ st h => wpAny_pyIter_keyiter st h
section
variable {X : Cx} {tg : Expr}
def iDict (tl : TE) : TI := fun σ H R => tl σ H fun x H1 => ∃ d o kvs, x = .ref d ∧ H1 d = some (.frz o (.dK kvs)) ∧ R (Itd d o kvs) H1
theorem pi_dict {l : Expr} {tl : TE} (hl : PE X l tl) : PI X tg l (iDict tl) := by
  intro pins s σ H R I h
  refine thn (hl pins s σ H _ I h) fun v s1 ⟨x, H1, I1, r1, q1⟩ => ?_
  obtain ⟨d, o, kvs, rfl, hz, q⟩ := q1
  cases r1
  obtain ⟨eo, z, hd, vs, rk, o', es, ep, e', xd, dt, ko, pr, nd⟩ := I1.hok d _ hz
  rw [eo] at e'
  cases e'
  refine wpAny_pyIter_dict hd ⟨o, es, eo, xd, dt, ko, pr, nd⟩ ?_
  refine ⟨s1.heap.objs.size, [s1.heap.objs.size], _, _, H1, rfl, I1.kept (t' := s1.toks) fun b o e => Heap.get?_push_of_some _ e, turn_dict d _ o kvs rk xd dt ko pr nd, ⟨_, Heap.get?_push_size _ rfl, rfl, rfl⟩, fun b hb => ?_, q⟩
  have e : b = s1.heap.objs.size := by simpa using hb
  subst e
  exact I1.fpOk (Nat.le_refl _) (I1.hok.fresh (Nat.le_refl _))
theorem seq_dict {d : Addr} {o : Obj} {kvs : List (Key × V)} {H1 : Hp} (h : H1 d = some (.frz o (.dK kvs))) : Seq (Itd d o kvs) H1 (kvs.map fun p => kV p.1) where
  go := fun i H e hi => ⟨e _ _ h, by rw [List.length_map] at hi; exact hi⟩
  yld := fun i H x H' e _ y => by
    obtain ⟨a, k, v, b, c⟩ := y
    refine ⟨a, ?_⟩
    rw [List.getElem?_map, b, c]
    rfl
  stop := fun H e => ⟨e _ _ h, by rw [List.length_map]⟩
def rInsert : V → List V → Hp → VK → Prop := fun x vs H Q => ∃ l xs i y, x = .ref l ∧ vs = [.int i, y] ∧ H l = some (.lst xs) ∧ 0 ≤ i ∧ i ≤ ((xs.length : Nat) : Int) ∧ xs.length < sizeLine ∧ Q .non (upd H l (.lst (xs.take i.toNat ++ y :: xs.drop i.toNat)))
structure Dfn (P : Program) (w : World) (K : PySem.W.Frag) (mg : Str → Option Value) (base : Heap) (k : Nat) (x : Str) (ps : List Str) (sp : Sp) : Prop where
  ex : ∃ f fd, FnOk P w K mg base CX0 k f fd ps sp ∧ Binds K fd ps [] ∧ PySem.W.keepIn K (.ref f) = true ∧ mg x = some (.ref f)
theorem pe_callD {k : Nat} {x : Str} {ps : List Str} {sp : Sp} {e : Expr} {es : List Expr} {t : TA} {p pos : Pos} (D : Dfn X.prog X.w X.K X.mg X.base k x ps sp) (hr : Room k X.A) (hg : Gl X x) (ha : PA X (e :: es) t) (hdb : (x == ("__debug__" : Str)) = false := by decide)
    (he : starEach (e :: es) X.env = (false, eval e X.env) :: starEach es X.env := by rfl) (hpl : (backTo pos (starEach es X.env)).any (·.1) = false := by rfl) : PE X (.Call (.Name x p) (e :: es) [] pos) (tCall sp [] E0 t) := by
  obtain ⟨f, fd, F, b, kp, m⟩ := D.ex
  exact pe_call F hr hg m kp b .nil pass0 ha hdb he hpl
structure GS (mg : Str → Option Value) (x : Str) (z : Str) : Prop where
  ex : ∃ t, mg x = some (.str z t)
structure GI (mg : Str → Option Value) (x : Str) (z : Int) : Prop where
  ex : ∃ t, mg x = some (.int z t)
theorem pe_gs {x z : Str} {pos : Pos} (G : GS X.mg x z) (hg : Gl X x) (hd : (x == ("__debug__" : Str)) = false := by decide) : PE X (.Name x pos) (tC (.str z)) := by
  obtain ⟨t, e⟩ := G.ex
  exact pe_glob hg e (rel_str _ _) hd
theorem pe_gi {x : Str} {z : Int} {pos : Pos} (G : GI X.mg x z) (hg : Gl X x) (hd : (x == ("__debug__" : Str)) = false := by decide) : PE X (.Name x pos) (tC (.int z)) := by
  obtain ⟨t, e⟩ := G.ex
  exact pe_glob hg e (rel_int _ _) hd
end
end L2
namespace L2
open PySem PySem.Spec PyProof.Rows
section
variable {X : Cx}
structure MkD (P : Program) (w : World) (K : PySem.W.Frag) (mg : Str → Option Value) (base : Heap) (k : Nat) (x : Str) (C : Addr) (ps : List Str) (sp : Sp) : Prop where
  ex : ∃ f fd, Mk K C f ∧ FnOk P w K mg base CX0 k f fd ps sp ∧ Binds K fd ps [] ∧ mg x = some (.ref C)
theorem pe_makeD {k : Nat} {x : Str} {C : Addr} {ps : List Str} {sp : Sp} {e : Expr} {es : List Expr} {t : TA} {p pos : Pos} (D : MkD X.prog X.w X.K X.mg X.base k x C ps sp) (hr : Room (k + 1) X.A) (hg : Gl X x) (ha : PA X (e :: es) t) (hdb : (x == ("__debug__" : Str)) = false := by decide)
    (he : starEach (e :: es) X.env = (false, eval e X.env) :: starEach es X.env := by rfl) (hpl : (backTo pos (starEach es X.env)).any (·.1) = false := by rfl) : PE X (.Call (.Name x p) (e :: es) [] pos) (tMake C sp [] E0 t) := by
  obtain ⟨f, fd, M, F, b, m⟩ := D.ex
  exact pe_make M F hr hg m b .nil pass0 ha hdb he hpl
structure MtD (P : Program) (w : World) (K : PySem.W.Frag) (mg : Str → Option Value) (base : Heap) (k : Nat) (m : Str) (C : Addr) (ps : List Str) (sp : Sp) : Prop where
  ex : ∃ f fd, Meth K C m f ∧ FnOk P w K mg base CX0 k f fd ps sp ∧ Binds K fd ps []
theorem pt_truthK {K : PySem.W.Frag} {a : Expr} {ta : TE} (hK : X.K = K) (ha : PE X a ta) (he : ∀ whole, isTrue a X.env whole = (do let v ← whole; standAt a.pos; holding [v] (truthy v))) : PT X a (fun σ H Q => ta σ H fun x H' => ∃ k, TruV K x H' k ∧ Q k H') := by
  subst hK
  exact pt_truth ha he
theorem seq_tup {K : PySem.W.Frag} {a : Addr} {xs : List V} {H1 : Hp} (h : SqT K H1 a xs) : Seq (Itt K a) H1 xs := by
  have k : ∀ H, Same H1 H → SqT K H a xs := fun H e => by
    rcases h with (h | ⟨o, h⟩) | h
    · exact .inl (.inl (e _ _ h))
    · exact .inl (.inr ⟨o, e _ _ h⟩)
    · exact .inr h
  exact ⟨fun i H e hi => ⟨xs, xs[i], k H e, List.getElem?_eq_getElem hi⟩, fun i H x H' e _ y => ⟨y.1, y.2 xs (k H e)⟩, fun H e => ⟨xs, k H e, Nat.le_refl _⟩⟩
def tAt (t : TS) : TS := fun D σ H => ∃ σ', σ = σ' ∧ t D σ' H
theorem pss_at {sts : List Stmt} {t : TS} (h : PSs X sts t) : PSs X sts (tAt t) := fun pins s σ H D I hw => by
  obtain ⟨σ', rfl, q⟩ := hw
  exact h pins s σ H D I q
end
end L2
namespace PySem.W
open PySem PySem.Spec PySem.Calls PyProof.Rows Builtin Builtin.ObjectAttr Builtin.Getset_descriptor
abbrev veMro : List Value := [.type "ValueError", .type "Exception", .type "BaseException", .type "object"]
def excMk (K : Frag) (C : Addr) : Bool := match K.lookup C with
  | some ⟨.type "type", _, .cls cd, sls⟩ => (match cd.mro, sls.toList with
    | .ref C' :: tlm, [_, _, _, _, some (.builtin n), _] => C' == C && n == "ValueError.__new__" && !cd.hasDel && tailIn K veMro tlm
    | _, _ => false)
  | _ => false
def ExcAt (h : Heap) (C : Addr) (tlm : List Value) : Prop := ∃ N nm q bs hdct sn sub ab col dd q0 q1 q2 q3 q5, h.get? C = some (excClassObj nm q C N bs tlm hdct sn sub ab col dd q0 q1 q2 q3 q5 "ValueError.__new__")
theorem excMk_obj {K : Frag} {h : Heap} {C : Addr} (X : K.In h) (q : excMk K C = true) : ∃ tlm, ExcAt h C tlm ∧ OwnTail h veMro tlm := by
  unfold excMk at q
  split at q
  · rename_i dd cd sls ho
    split at q
    · rename_i C' tlm q0 q1 q2 q3 n q5 hmm hss
      simp only [beq_iff_eq, Bool.and_eq_true, Bool.not_eq_true'] at q
      obtain ⟨⟨⟨rfl, rfl⟩, hdel⟩, ht⟩ := q
      obtain ⟨nm, bs, mro, ns, qun, hd, sn, sub, ab, col, del⟩ := cd
      dsimp only at hmm hdel
      subst hmm hdel
      have hsl : sls = #[q0, q1, q2, q3, some (.builtin "ValueError.__new__"), q5] := by
        obtain ⟨l⟩ := sls
        simp only at hss
        rw [hss]
      subst hsl
      exact ⟨tlm, ⟨ns, nm, qun, bs, hd, sn, sub, ab, col, dd, q0, q1, q2, q3, q5, X _ _ ho⟩, tail_of_in X ht⟩
    · cases q
  · cases q
abbrev excTup (us : List Value) : Obj := { cls := .type "tuple", data := .seq us.toArray }
abbrev excNew (C t0 : Addr) : Obj := { cls := .ref C, data := .fields #[.ref t0, .none, .none, .none, .bool false, .none] }
section
variable {prog : Program} {w : World} {A : Around} {K : Frag} {C f : Addr} {R : Result → Shared → Prop} {h : Heap} {g : Array GenState} {d : Drawn} {t : Nat} {os : OsState}
theorem make_X {us : List Value} (X : K.In h) (e : excMk K C = true) (hi : findIn K (.ref C) "__init__" = some (some (.ref f))) (hf : typeIn K (.ref f) = some (.type "function")) (hrest : us.length ≤ sizeLine)
    (hq : codeAny (model prog w) (A.under (.builtin "type.__call__" ⟨.ref C :: us, []⟩)) (.call (.ref f) ⟨.ref (h.objs.size + 1) :: us, []⟩) (InitBack (h.objs.size + 1) R) ⟨(h.push (excTup us)).push (excNew C h.objs.size), g, d, t, os⟩) :
    codeAny (model prog w) A (.call (.ref C) ⟨us, []⟩) R ⟨h, g, d, t, os⟩ := by
  obtain ⟨tlm, ⟨N, nm, q, bs, hdct, sn, sub, ab, col, dd, q0, q1, q2, q3, q5, hCl⟩, T⟩ := excMk_obj X e
  have FB := PySem.F.excBase_ValueError
  have f1 := tc_lookup
  have f2 := tc_bind (.ref C)
  have hTy : (⟨h, g, d, t, os⟩ : Shared).TypeIs (.ref C) "type" := ⟨_, hCl, rfl⟩
  refine codeAny_of_tree ?_
  show wpAny (model prog w) A.in1 (callAny (.ref C) _) _ _ _
  repeat (any_goals (first | assumption | with_reducible refine wpAny_loadPart_at hCl ?_ | wp_step))
  refine ⟨rfl, ?_⟩
  refine codeAny_call_builtin_at (Code.quiet_builtin _ (by decide +kernel)) entry_typeCall (wpAny_check_type_call_sub hCl ?_)
  repeat (first | with_reducible refine wpAny_loadPart_at hCl ?_ | with_reducible refine wpAny_madeBy_exc hCl ?_ | wp_step)
  refine codeAny_call_builtin_code (Code.quiet_builtin _ FB.quiet) (wpAny_check_new_subT FB T hCl ?_)
  refine codeAny_exc_new_subT FB T hCl ?_ hrest
  show wpAny _ _ _ _ _ _
  have k : ∀ b o, h.get? b = some o → ((h.push (excTup us)).push (excNew C h.objs.size)).get? b = some o := fun b o e => Heap.get?_push_of_some _ (Heap.get?_push_of_some _ e)
  have hx : ((h.push (excTup us)).push (excNew C h.objs.size)).get? (h.objs.size + 1) = some (excNew C h.objs.size) := by heap_get
  have t1 : Looks (model prog w) ((h.push (excTup us)).push (excNew C h.objs.size)) (typeOf (.ref (h.objs.size + 1))) (.ref C) := (Looks.ld hx).andThen .now
  have hcc : (Value.ref C :: tlm).contains (.ref C) = true := by simp
  have s0 : Looks (model prog w) h (isSubtype (.ref C) (.ref C)) true := by
    intro A Q E s kk qq
    obtain ⟨h1, g1, d1, tk1, os1⟩ := s
    exact wpAny_isSubtype_exc (kk _ _ hCl) (by rw [hcc]; exact qq)
  have s1 := s0.keeps k
  have i1 := (looks_findIn (M := model prog w) X hi).keeps k
  have b1 := (bind_fn (M := model prog w) X (.ref (h.objs.size + 1)) hf).keeps k
  have hC₁ := k _ _ hCl
  unfold isInstance
  refine wpAny_bind (wpAny_bind (t1.here (s1.here ?_)))
  simp only [Bool.false_eq_true, Bool.not_true, if_false]
  refine wpAny_bind (wpAny_holding ?_); unfold callSpecial? specialOf
  refine wpAny_bind (wpAny_bind (t1.here ?_))
  refine i1.here ?_
  refine wpAny_holding (wpAny_bind (b1.here ?_))
  refine wpAny_bind (wpAny_call ?_)
  refine codeAny_mono hq fun r s' zz => ?_
  rcases r with e | (v | _ | _ | _) <;> first | exact zz | exact zz.elim | skip
  obtain ⟨rfl, zz⟩ := zz
  exact wpAny_pure (wpAny_pure zz)
end
end PySem.W
namespace PySem.W
open PySem PySem.Spec PySem.Calls PyProof.Rows Builtin Builtin.ObjectAttr Builtin.Getset_descriptor
def onlyVE : List Value → Bool
  | .ref _ :: r => onlyVE r
  | .type n :: r => (.type n :: r) == veMro
  | _ => false
theorem refuse_VE (self : Value) : ∀ {l : List Value}, onlyVE l = true → refuseLoop self "__setattr__" l = pure ()
  | .ref c :: r, e => by rw [refuseLoop_ref]; exact refuse_VE self (show onlyVE r = true from e)
  | .type n :: r, e => by rw [show Value.type n :: r = veMro from beq_iff_eq.mp e]; exact PySem.F.store_ValueError.passes self
theorem has_VE {b : String} (hbb : veMro.contains (.type b) = true) : ∀ {l : List Value}, onlyVE l = true → l.contains (.type b) = true
  | .ref c :: r, e => by rw [List.contains_cons, has_VE hbb (l := r) e, Bool.or_true]
  | .type n :: r, e => by rw [show Value.type n :: r = veMro from beq_iff_eq.mp e]; exact hbb
def excOver (K : Frag) (C : Addr) : Bool := (clsIn K C).any fun cdt => onlyVE cdt.mro
section
variable {prog : Program} {w : World} {A : Around} {K : Frag} {C x : Addr} {s : Shared} {R : Result → Shared → Prop}
theorem osa_X {ox : Obj} {od : Option Obj} {nm : Str} {tk : Tok} {v : Value} {r : Option Value} (X : K.In s.heap) (I : InstAt s.heap x ox C od) (hp : excOver K C = true) (ht : takerIn K C nm = some r)
    (go : ∀ b, wpAny (model prog w) A.in1 (match r with | some a => setByDescriptor a (.ref x) v | none => storeInOwnDict (.ref x) (.ref C) (.str nm tk) nm v b)
      (fun fi s' => match fi with | .done f => R (.ok f) s' | .again c' => c'.quiet = true ∧ codeAny (model prog w) A c' R s') (fun e s' => R (.error e) s') s) :
    codeAny (model prog w) A (.call (.builtin "object.__setattr__") ⟨[.ref x, .str nm tk, v], []⟩) R s := by
  have SFo := PySem.F.store_object
  obtain ⟨cdt, hcd, hov⟩ := any_some hp
  have nem : cdt.mro.isEmpty = false := by cases q : cdt.mro with | nil => rw [q] at hov; cases hov | cons _ _ => rfl
  have sub : Looks (model prog w) s.heap (isInstance (.ref x) (.type "object")) true := I.type.andThen (looks_mroIn X (by unfold mroIn; rw [hcd, Option.bind_some, if_neg (by rw [nem]; decide), has_VE (by decide +kernel) hov]))
  refine codeAny_call_builtin SFo.slot.plain SFo.entry (@check_slot (model prog w) _ _ s "object.__setattr__" "object" "__setattr__" (.ref x) [.str nm tk, v] [] _ SFo.kind SFo.split sub (SFo.args (.ref x) (.str nm tk) v) ?_)
  obtain ⟨atr, ha, hrr⟩ := Option.bind_eq_some_iff.mp ht
  have hmr : Looks (model prog w) s.heap (mroOf (.ref C)) cdt.mro := (looks_clsIn X hcd).andThen .now
  have l3 : Looks (model prog w) s.heap (storeTaker? atr) r := by
    cases atr with
    | none => cases hrr; exact .now
    | some a =>
      obtain ⟨b, hbb, rfl⟩ := Option.map_eq_some_iff.mp hrr
      refine (looks_takesIn X hbb).andThen ?_
      cases b <;> exact .now
  rw [osa_eq, refuse_eq]
  refine wpAny_bind (wpAny_bind (I.type.here (wpAny_bind (hmr.here ?_))))
  rw [refuse_VE _ hov]
  refine wpAny_pure (wpAny_bind (I.type.here (wpAny_bind ((looks_findIn X ha).here (wpAny_bind (l3.here ?_))))))
  exact go _
variable {E : Value → Shared → Prop} {vs : Array Value} {sl : Array (Option Value)} {nm : Str} {v : Value}
theorem setX_new {Q : Unit → Shared → Prop} (X : K.In s.heap) (hx : s.heap.get? x = some ⟨.ref C, none, .fields vs, sl⟩) (hs : findIn K (.ref C) "__setattr__" = some (some (.builtin "object.__setattr__")))
    (hp : excOver K C = true) (ht : takerIn K C nm = some none) (hh : hasDictIn K C = true)
    (h : ∀ h', h'.get? x = some ⟨.ref C, some s.heap.objs.size, .fields vs, sl⟩ → h'.Ns1 s.heap.objs.size (fun y => if y = nm then some v else none) → (∀ b o, b ≠ x → s.heap.get? b = some o → h'.get? b = some o) →
      Q () { s with heap := h', toks := s.toks + 2 }) : wpAny (model prog w) A (setAttr (.ref x) nm v) Q E s := by
  have J : InstAt s.heap x ⟨.ref C, none, .fields vs, sl⟩ C none := ⟨hx, rfl, rfl, True.intro⟩
  refine set_plain X J hs (osa_X (s := { s with toks := s.toks + 1 }) (r := none) X J hp ht fun b => ?_)
  obtain ⟨cdt, hcd, hdc⟩ := any_some hh
  refine wpAny_bind (wpAny_pure (wpAny_bind (wpAny_bind (wpAny_loadPart hx (wpAny_bind (Looks.here (s := { s with toks := s.toks + 1 }) (looks_clsIn X hcd) ?_))))))
  rw [hdc]
  have hxz : x ≠ s.heap.objs.size := Nat.ne_of_lt (Heap.lt_size hx)
  have hx1 : (s.heap.push { cls := .type "dict", data := .dict #[] }).get? x = some ⟨.ref C, none, .fields vs, sl⟩ := Heap.get?_push_of_some _ hx
  refine wpAny_bind (wpAny_alloc (wpAny_bind (wpAny_update hx1 ?_)))
  refine wpAny_pure (a := some s.heap.objs.size) ?_
  have hx2 : ((s.heap.push { cls := .type "dict", data := .dict #[] }).update x fun o => { cls := o.cls, dict := some s.heap.objs.size, data := o.data, slots := o.slots }).get? x = some ⟨.ref C, some s.heap.objs.size, .fields vs, sl⟩ := by
    rw [Heap.get?_update_self _ hx1 rfl]
  have hgx : ((s.heap.push { cls := .type "dict", data := .dict #[] }).update x fun o => { cls := o.cls, dict := some s.heap.objs.size, data := o.data, slots := o.slots }).get? s.heap.objs.size = some { cls := .type "dict", data := .dict #[] } :=
    (Heap.get?_update_ne _ _ _ _ hxz.symm).trans (Heap.get?_push_at rfl rfl)
  have hnd : ((s.heap.push { cls := .type "dict", data := .dict #[] }).update x fun o => { cls := o.cls, dict := some s.heap.objs.size, data := o.data, slots := o.slots }).Ns s.heap.objs.size (fun _ => none) :=
    ⟨_, #[], _, hgx, rfl, fun e he => absurd he (by simp), fun _ => rfl⟩
  refine wpAny_bind (wpAny_pure (wpAny_bind (wpAny_nsSet1 (Heap.Ns1.of_empty hnd) fun h' hn' hs' => ?_)))
  obtain ⟨oD, esD, epD, hoE, hdE, hcE⟩ := hn'.count (Within.cons nm v Within.nil)
  refine wpAny_bind (wpAny_lookBehind hoE (by rw [hdE]; exact pastItsLine_dict (Nat.le_trans hcE (by rw [List.length_cons, List.length_nil, sizeLine_eq]; omega))) ?_)
  refine wpAny_pure (h h' ((hs'.2 x hxz).trans hx2) hn' fun b o hbb q => ?_)
  exact (hs'.2 b (Nat.ne_of_lt (Heap.lt_size q))).trans ((Heap.get?_update_ne _ _ _ _ hbb).trans (Heap.get?_push_of_some _ q))
theorem setX_old {Q : Unit → Shared → Prop} {dxa : Addr} {mA : Str → Option Value} {ns : List Str} (X : K.In s.heap) (hx : s.heap.get? x = some ⟨.ref C, some dxa, .fields vs, sl⟩) (hn : s.heap.Ns1 dxa mA) (hne : dxa ≠ x)
    (hs : findIn K (.ref C) "__setattr__" = some (some (.builtin "object.__setattr__"))) (hp : excOver K C = true) (ht : takerIn K C nm = some none) (hh : hasDictIn K C = true) (hw : Within mA ns) (hsz : ns.length < sizeLine)
    (h : ∀ h', h'.Ns1 dxa (fun y => if y = nm then some v else mA y) → (∀ b o, b ≠ dxa → s.heap.get? b = some o → h'.get? b = some o) →
      Q () { s with heap := h', toks := s.toks + 2 }) : wpAny (model prog w) A (setAttr (.ref x) nm v) Q E s := by
  obtain ⟨od, hov, hl⟩ := L2.lookIn_ns hn
  have J : InstAt s.heap x ⟨.ref C, some dxa, .fields vs, sl⟩ C (some od) := ⟨hx, rfl, rfl, hov⟩
  refine set_plain X J hs (osa_X (s := { s with toks := s.toks + 1 }) (r := none) X J hp ht fun b => ?_)
  obtain ⟨cdt, hcd, hdc⟩ := any_some hh
  refine wpAny_bind (wpAny_pure (wpAny_bind (wpAny_bind (wpAny_loadPart hx (wpAny_bind (Looks.here (s := { s with toks := s.toks + 1 }) (looks_clsIn X hcd) ?_))))))
  rw [hdc]
  refine wpAny_pure (a := some dxa) (wpAny_bind (wpAny_pure (wpAny_bind ?_)))
  refine wpAny_nsSet1 (s := { s with toks := s.toks + 1 }) hn fun h' hn' hs' => ?_
  obtain ⟨oD, esD, epD, hoE, hdE, hcE⟩ := hn'.count (Within.cons nm v hw)
  refine wpAny_bind (wpAny_lookBehind hoE (by rw [hdE]; exact pastItsLine_dict (Nat.le_trans hcE (by rw [List.length_cons]; omega))) ?_)
  exact wpAny_pure (h h' hn' fun b o hbb q => (hs'.2 b hbb).trans q)
end
end PySem.W
namespace PySem.W
open PySem PySem.Spec PySem.Calls PyProof.Rows Builtin Builtin.ObjectAttr Builtin.Getset_descriptor
section
variable {prog : Program} {w : World} {A : Around} {K : Frag} {C x : Addr} {s : Shared} {E : Value → Shared → Prop} {ox : Obj} {od : Option Obj} {nm : Str} {v : Value} {Q : Value → Shared → Prop} {expr : Bool}
theorem gaX_call {h : Heap} {g : Array GenState} {d : Drawn} {t : Nat} {os : OsState} {tk : Tok} {R : Result → Shared → Prop} (X : K.In h) (I : InstAt h x ox C od) (hp : excOver K C = true) (hf : findObj K C od nm = some (.value v)) (hq : R (.ok (.ret v)) ⟨h, g, d, t, os⟩) :
    codeAny (model prog w) A (.call (.builtin "BaseException.__getattribute__") ⟨[.ref x, .str nm tk], []⟩) R ⟨h, g, d, t, os⟩ := by
  obtain ⟨cdt, hcd, hov⟩ := any_some hp
  have nem : cdt.mro.isEmpty = false := by cases q : cdt.mro with | nil => rw [q] at hov; cases hov | cons _ _ => rfl
  have sub : Looks (model prog w) h (isInstance (.ref x) (.type "BaseException")) true := I.type.andThen (looks_mroIn X (by unfold mroIn; rw [hcd, Option.bind_some, if_neg (by rw [nem]; decide), has_VE (by decide +kernel) hov]))
  have l0 := I.type (M := model prog w)
  have l1 := looks_find (M := model prog w) X I hf
  refine codeAny_call_builtin (by decide +kernel) PySem.F.entry_bexc_ga (@check_slot (model prog w) _ _ _ "BaseException.__getattribute__" "BaseException" "__getattribute__" (.ref x) [.str nm tk] [] _ (by decide +kernel) (by decide +kernel) sub (PySem.F.args_bexc_ga (.ref x) (.str nm tk)) ?_)
  refine wpAny_bind (wpAny_pure (wpAny_bind (wpAny_pure (wpAny_bind (l0.at (wpAny_bind (l1.at ?_)))))))
  exact wpAny_pure hq
theorem getX (X : K.In s.heap) (I : InstAt s.heap x ox C od) (hga : findIn K (.ref C) "__getattribute__" = some (some (.builtin "BaseException.__getattribute__"))) (hgn : findIn K (.ref C) "__getattr__" = some none) (hp : excOver K C = true)
    (hf : findObj K C od nm = some (.value v)) (hhd : handedIn v = true) (h : Q v { s with toks := s.toks + 1 }) : wpAny (model prog w) A (getAttr (.ref x) nm expr) Q E s := by
  obtain ⟨hp', g, d, t, os⟩ := s
  have l0 := I.type (M := model prog w)
  have l1 := looks_findIn (M := model prog w) X hga
  have l2 := looks_findIn (M := model prog w) X hgn
  have f3 : bindSpecial (.builtin "BaseException.__getattribute__") (.ref x) = pure (.builtin "BaseException.__getattribute__", [.ref x]) :=
    (Slot.of (T := "ValueError") (name := "__getattribute__") (owner := "BaseException") (n := "__getattribute__") (by rw [typeLookup_type, builtinLookup_eq_fast]; kernel_rfl) (by decide +kernel) (by decide +kernel) (by decide +kernel)
      (.inl (by decide +kernel)) (by rw [isSubtype_type]; kernel_rfl)).bind (.ref x)
  have hxo : (expr && onTheHeap (Value.builtin "BaseException.__getattribute__")) = false := by cases expr <;> rfl
  unfold getAttr getAttrBy
  refine wpAny_bind (wpAny_mkText (wpAny_holding (wpAny_bind (l0.at (wpAny_bind (l1.at ?_))))))
  have hx2 : (onTheHeap (Value.ref C) && Value.builtin "BaseException.__getattribute__" == Value.builtin "object.__getattribute__") = false := by
    rw [show (Value.builtin "BaseException.__getattribute__" == Value.builtin "object.__getattribute__") = false by decide +kernel, Bool.and_false]
  dsimp only at l0 l1 l2 X I h ⊢
  rw [hx2, if_neg Bool.false_ne_true]
  unfold getAttrByItsOwn
  refine wpAny_bind (l2.at ?_)
  repeat (any_goals first | assumption | wp_step)
  refine gaX_call X I hp hf ?_
  show wpAny (model prog w) A (handedOut v) _ _ _
  rw [handedOut_of hhd]; exact wpAny_pure h
end
end PySem.W
namespace L2
open PySem PyProof.Rows PySem.Spec PySem.Calls
def XO (e C : Addr) (d : Option Addr) : HO := .ext fun h => ∃ t0, h.get? e = some ⟨.ref C, d, .fields #[.ref t0, .none, .none, .none, .bool false, .none], #[]⟩
def XC (e C : Addr) (d : Option Addr) : HO := .ext fun h => ∃ vs sl, h.get? e = some ⟨.ref C, d, .fields vs, sl⟩ ∧ vs[2]? = some .none
def XD (a : Addr) (fs : List (Str × V)) : HO := .ext fun h => fs.length ≤ 1000 ∧ ∃ mA, h.Ns1 a mA ∧ (∀ f, RelO (fs.lookup f) (mA f)) ∧ PySem.Within mA (fs.map (·.1))
def IsX (H : Hp) (e C : Addr) (d : Option Addr) : Prop := H e = some (XO e C d) ∨ H e = some (XC e C d)
section
variable {P : Program} {w : World} {H : Hp} {h : Heap} {e C a : Addr} {d : Option Addr} {fs : List (Str × V)}
theorem xo_ok {t0 : Addr} (q : h.get? e = some ⟨.ref C, d, .fields #[.ref t0, .none, .none, .none, .bool false, .none], #[]⟩) : ObjOk P w H h e (XO e C d) :=
  ⟨⟨t0, q⟩, ⟨_, q⟩, fun _ _ ⟨t, z⟩ k => ⟨t, k _ z⟩⟩
theorem xc_ok {vs : Array Value} {sl : Array (Option Value)} (q : h.get? e = some ⟨.ref C, d, .fields vs, sl⟩) (c : vs[2]? = some .none) : ObjOk P w H h e (XC e C d) :=
  ⟨⟨vs, sl, q, c⟩, ⟨_, q⟩, fun _ _ ⟨v, s, z, c⟩ k => ⟨v, s, k _ z, c⟩⟩
theorem xd_ok {mA : Str → Option Value} (l : fs.length ≤ 1000) (n : h.Ns1 a mA) (r : ∀ f, RelO (fs.lookup f) (mA f)) (wi : PySem.Within mA (fs.map (·.1))) : ObjOk P w H h a (XD a fs) :=
  ⟨⟨l, mA, n, r, wi⟩, let ⟨o, _, _, q, _⟩ := n; ⟨o, q⟩, fun _ _ ⟨l, m, n, r, z⟩ k => ⟨l, m, n.at k, r, z⟩⟩
theorem xo_get (hok : HOk P w H h) (q : H e = some (XO e C d)) : ∃ t0, h.get? e = some ⟨.ref C, d, .fields #[.ref t0, .none, .none, .none, .bool false, .none], #[]⟩ :=
  (show ObjOk P w H h e (XO e C d) from hok e _ q).1
theorem x_getC (hok : HOk P w H h) (q : IsX H e C d) : ∃ vs sl, h.get? e = some ⟨.ref C, d, .fields vs, sl⟩ ∧ vs[2]? = some .none := by
  rcases q with q | q
  · obtain ⟨t, z⟩ := xo_get hok q; exact ⟨_, _, z, rfl⟩
  · exact (show ObjOk P w H h e (XC e C d) from hok e _ q).1
theorem x_get (hok : HOk P w H h) (q : IsX H e C d) : ∃ vs sl, h.get? e = some ⟨.ref C, d, .fields vs, sl⟩ := let ⟨vs, sl, z, _⟩ := x_getC hok q; ⟨vs, sl, z⟩
theorem xd_get (hok : HOk P w H h) (q : H a = some (XD a fs)) : fs.length ≤ 1000 ∧ ∃ mA, h.Ns1 a mA ∧ (∀ f, RelO (fs.lookup f) (mA f)) ∧ PySem.Within mA (fs.map (·.1)) :=
  (show ObjOk P w H h a (XD a fs) from hok a _ q).1
end
structure ClsX (K : PySem.W.Frag) (C : Addr) : Prop where
  hd : PySem.W.hasDictIn K C = true
  po : PySem.W.excOver K C = true
  sa : PySem.W.findIn K (.ref C) "__setattr__" = some (some (.builtin "object.__setattr__"))
  ga : PySem.W.findIn K (.ref C) "__getattribute__" = some (some (.builtin "BaseException.__getattribute__"))
  gn : PySem.W.findIn K (.ref C) "__getattr__" = some none
section
variable {X : Cx} {pins : List (Addr × Obj)} {σ : St} {H : Hp} {s : Shared} {a C dx : Addr} {d : Option Addr} {fs : List (Str × V)} {f : Str} {v y : V} {u : Value} {A : Around} {E : Value → Shared → Prop}
theorem getX_ok {b : Bool} {Q : Value → Shared → Prop} (I : Inv X pins σ H s) (e : IsX H a C (some dx)) (ed : H dx = some (XD dx fs)) (c : ClsX X.K C) (n : NoAttr X.K C f) (l : fs.lookup f = some v)
    (h : ∀ u s', Inv X pins σ H s' → RelV v u → Q u s') : wpAny (model X.prog X.w) A (getAttr (.ref a) f b) Q E s := by
  obtain ⟨vs, sl, hx⟩ := x_get I.hok e
  obtain ⟨_, mA, hn, r, _⟩ := xd_get I.hok ed
  obtain ⟨u, hu, ru⟩ := RelO.some_of (v := v) (o := mA f) (by rw [← l]; exact r f)
  obtain ⟨od, ho, hl⟩ := lookIn_ns hn
  exact PySem.W.getX I.kIn (ox := ⟨.ref C, some dx, .fields vs, sl⟩) (od := some od) ⟨hx, rfl, rfl, ho⟩ c.ga c.gn c.po (PySem.W.findObj_own c.hd n rfl (by rw [hl, hu])) (handed_of ru) (h u _ (I.tok _) ru)
theorem setX1_ok {Q : Unit → Shared → Prop} (I : Inv X pins σ H s) (e : H a = some (XO a C none)) (c : ClsX X.K C) (n : NoAttr X.K C f) (ry : RelV y u)
    (h : ∀ dx s', H dx = none → dx ≠ a → Inv X pins σ (upd (upd H dx (XD dx [(f, y)])) a (XO a C (some dx))) s' → Q () s') : wpAny (model X.prog X.w) A (setAttr (.ref a) f u) Q E s := by
  obtain ⟨t0, hx⟩ := xo_get I.hok e
  refine PySem.W.setX_new I.kIn hx c.sa c.po n.taker c.hd fun h' h1 h2 h3 => ?_
  have hf := I.hok.fresh (Nat.le_refl s.heap.objs.size)
  have hne : s.heap.objs.size ≠ a := fun z => by rw [z, e] at hf; cases hf
  obtain ⟨od, es, ep, q1, q2, q3⟩ := id h2
  have hfr : od.isFreed = false := (Heap.get?_some_iff.mp q1).2
  have g1 : (s.heap.push od).get? s.heap.objs.size = some od := Heap.get?_push_size s.heap hfr
  have I1 : Inv X pins σ (upd H s.heap.objs.size (XD s.heap.objs.size [(f, y)])) { s with heap := s.heap.push od, toks := s.toks } := by
    refine I.laid (fun b o q => Heap.get?_push_of_some _ q) (Nat.le_refl _) (xd_ok (by simp) (h2.at fun o q => ?_) (fun g => ?_) (fun g hg => ?_))
    · rw [q1] at q; cases q; exact g1
    · show RelO ([(f, y)].lookup g) (if g = f then some u else none)
      by_cases z : g = f
      · have hb : (g == f) = true := beq_iff_eq.mpr z
        simp only [List.lookup, hb, if_pos z]; exact ry
      · have hb : (g == f) = false := beq_eq_false_iff_ne.mpr z
        simp only [List.lookup, hb, if_neg z]; exact True.intro
    · by_cases z : g = f
      · rw [z]; exact .head _
      · exact absurd (if_neg z) hg
  refine h s.heap.objs.size _ hf hne (I1.write (x := a) (e := a) (t' := s.toks + 2) (h' := h') (by rw [upd_ne (Ne.symm hne), e]; exact True.intro) (.inl rfl) (fun b o hb q => ?_) ⟨_, h1⟩ (xo_ok h1))
  by_cases z : b = s.heap.objs.size
  · subst z; rw [g1] at q; cases q; exact q1
  · have hb' : s.heap.get? b = some o := by rw [← q]; exact (Heap.get?_push_ne _ _ _ z).symm
    exact h3 b o hb hb'
theorem setX2_ok {Q : Unit → Shared → Prop} (I : Inv X pins σ H s) (e : IsX H a C (some dx)) (ed : H dx = some (XD dx fs)) (hne : dx ≠ a) (c : ClsX X.K C) (n : NoAttr X.K C f) (hl : fs.length < 1000) (ry : RelV y u)
    (h : ∀ s', Inv X pins σ (upd H dx (XD dx (putF f y fs))) s' → Q () s') : wpAny (model X.prog X.w) A (setAttr (.ref a) f u) Q E s := by
  obtain ⟨vs, sl, hx⟩ := x_get I.hok e
  obtain ⟨_, mA, hn, r, wi⟩ := xd_get I.hok ed
  refine PySem.W.setX_old I.kIn hx hn hne c.sa c.po n.taker c.hd wi (by rw [List.length_map, sizeLine_eq]; omega) fun h' h1 h2 => h _ ?_
  refine I.write (x := dx) (e := dx) (by rw [ed]; exact True.intro) (.inl rfl) h2 (let ⟨o, _, _, q, _⟩ := h1; ⟨o, q⟩) (xd_ok ?_ h1 (fun g => ?_) (fun g hg => ?_))
  · have := length_putF f y fs; omega
  · show RelO ((putF f y fs).lookup g) (if g = f then some u else mA g)
    rw [lookup_putF]
    by_cases q : g = f
    · rw [if_pos q, if_pos q]; exact ry
    · rw [if_neg q, if_neg q]; exact r g
  · by_cases q : g = f
    · rw [q]; exact (keys_putF f y fs).1
    · refine (keys_putF f y fs).2 g (wi g fun z => hg ?_)
      show (if g = f then some u else mA g) = none
      rw [if_neg q]; exact z
end
end L2
namespace PySem.W
open PySem PySem.Spec PySem.Calls PyProof.Rows Builtin Builtin.ObjectAttr Builtin.Getset_descriptor
section
variable {prog : Program} {w : World} {A : Around} {K : Frag} {C x t0 : Addr} {s : Shared} {E : Value → Shared → Prop} {od : Option Addr} {Q : Value → Shared → Prop}
theorem initX {us : List Value} (X : K.In s.heap) (hx : s.heap.get? x = some ⟨.ref C, od, .fields #[.ref t0, .none, .none, .none, .bool false, .none], #[]⟩) (e : excMk K C = true) (hz : us.length ≤ sizeLine)
    (h : ∀ h', h'.get? x = some ⟨.ref C, od, .fields #[.ref s.heap.objs.size, .none, .none, .none, .bool false, .none], #[]⟩ → (∀ b o, b ≠ x → s.heap.get? b = some o → h'.get? b = some o) → Q .none { s with heap := h' }) :
    wpAny (model prog w) A (call (.builtin "ValueError.__init__") (.ref x :: us)) Q E s := by
  obtain ⟨bm, ⟨N, nm, q, bs, hdct, sn, sub, ab, col, dd, k0, k1, k2, k3, k5, hC⟩, T⟩ := excMk_obj X e
  have FB := PySem.F.excBase_ValueError
  obtain ⟨hp, g, d, t, os⟩ := s
  refine wpAny_call (codeAny_call_builtin FB.init.plain FB.initEntry (wpAny_check_init_subT FB T hC hx rfl ?_))
  delta Builtin.«BaseException.__init__»
  dsimp only
  rw [if_neg (by simp)]
  unfold Builtin.BaseException.bexcPut newTuple
  have hx1 := Heap.get?_push_of_some (h := hp) { cls := .type "tuple", data := .seq us.toArray } hx
  refine wpAny_bind (wpAny_newObj_type (wpAny_bind (wpAny_bind (wpAny_field hx1 rfl rfl (wpAny_bind (wpAny_setField hx1 rfl (by show 0 < 6; decide) ?_))))) (by show us.toArray.size ≤ sizeLine; rw [List.size_toArray]; exact hz))
  refine wpAny_letGo (wpAny_pure (h _ ?_ fun b o hb hq => ?_))
  · rw [Heap.get?_update_self _ hx1 rfl]
    rfl
  · exact (Heap.get?_update_ne _ _ _ _ hb).trans (Heap.get?_push_of_some _ hq)
end
end PySem.W
namespace PySem.W
open PySem PySem.Spec PySem.Calls PyProof.Rows Builtin Builtin.ObjectAttr Builtin.Getset_descriptor
section
variable {prog : Program} {w : World} {A : Around} {K : Frag} {C x : Addr} {s : Shared} {E : Value → Shared → Prop} {ox : Obj} {od : Obj}
structure ClsAt (K : Frag) (C : Addr) : Prop where
  hd : hasDictIn K C = true
  po : excOver K C = true
  ga : findIn K (.ref C) "__getattribute__" = some (some (.builtin "BaseException.__getattribute__"))
  gn : findIn K (.ref C) "__getattr__" = some none
  ca : findIn K (.ref C) "__class__" = some (some (.builtin "object.__class__"))
  cn : specialIn K (.builtin "object.__class__") "__get__" = some (some (.builtin "getset_descriptor.__get__"))
  ct : takesIn K (.builtin "object.__class__") = some true
theorem excOver_has {b : String} (hp : excOver K C = true) (hb : veMro.contains (.type b) = true) : mroIn K C (.type b) = some true := by
  obtain ⟨cdt, hcd, hov⟩ := any_some hp
  have nem : cdt.mro.isEmpty = false := by cases q : cdt.mro with | nil => rw [q] at hov; cases hov | cons _ _ => rfl
  unfold mroIn; rw [hcd, Option.bind_some, if_neg (by rw [nem]; decide), has_VE hb hov]
theorem clsX_call {h : Heap} {g : Array GenState} {d : Drawn} {t : Nat} {os : OsState} {tk : Tok} {R : Result → Shared → Prop} (X : K.In h) (I : InstAt h x ox C (some od)) (c : ClsAt K C) (hq : R (.ok (.ret (.ref C))) ⟨h, g, d, t, os⟩) :
    codeAny (model prog w) A (.call (.builtin "BaseException.__getattribute__") ⟨[.ref x, .str "__class__" tk], []⟩) R ⟨h, g, d, t, os⟩ := by
  have hf : findObj K C (some od) "__class__" = some (.bind (.builtin "getset_descriptor.__get__") (.builtin "object.__class__")) := by
    have := findObj_data (K := K) (C := C) (od := od) (name := "__class__") (by obtain ⟨cdt, hcd, _⟩ := any_some c.hd; rw [hcd]; rfl) c.ca c.cn c.ct
    exact this
  have sub : Looks (model prog w) h (isInstance (.ref x) (.type "BaseException")) true := I.type.andThen (looks_mroIn X (excOver_has c.po (by decide +kernel)))
  have l0 := I.type (M := model prog w)
  have l1 := looks_find (M := model prog w) X I hf
  refine codeAny_call_builtin (by decide +kernel) PySem.F.entry_bexc_ga (@check_slot (model prog w) _ _ _ "BaseException.__getattribute__" "BaseException" "__getattribute__" (.ref x) [.str "__class__" tk] [] _ (by decide +kernel) (by decide +kernel) sub (PySem.F.args_bexc_ga (.ref x) (.str "__class__" tk)) ?_)
  refine wpAny_bind (wpAny_pure (wpAny_bind (wpAny_pure (wpAny_bind (l0.at (wpAny_bind (l1.at ?_)))))))
  show wpAny _ _ (holding [Value.builtin "object.__class__"] (call (.builtin "getset_descriptor.__get__") [.builtin "object.__class__", .ref x, .ref C]) >>= ret) _ _ _
  refine wpAny_bind (wpAny_holding (wpAny_call ?_))
  refine class_get (s := ⟨h, g, d, t, os⟩) (ox := ox) (od := some od) X I (excOver_has c.po (by decide +kernel)) ?_
  exact wpAny_pure hq
theorem getX_class {Q : Option Value → Shared → Prop} (X : K.In s.heap) (I : InstAt s.heap x ox C (some od)) (c : ClsAt K C) (h : Q (some (.ref C)) { s with toks := s.toks + 1 }) : wpAny (model prog w) A (getAttr? (.ref x) "__class__") Q E s := by
  obtain ⟨hp', g, d, t, os⟩ := s
  have l0 := I.type (M := model prog w)
  have l1 := looks_findIn (M := model prog w) X c.ga
  have l2 := looks_findIn (M := model prog w) X c.gn
  have f3 : bindSpecial (.builtin "BaseException.__getattribute__") (.ref x) = pure (.builtin "BaseException.__getattribute__", [.ref x]) :=
    (Slot.of (T := "ValueError") (name := "__getattribute__") (owner := "BaseException") (n := "__getattribute__") (by rw [typeLookup_type, builtinLookup_eq_fast]; kernel_rfl) (by decide +kernel) (by decide +kernel) (by decide +kernel)
      (.inl (by decide +kernel)) (by rw [isSubtype_type]; kernel_rfl)).bind (.ref x)
  have hx0 : (false && onTheHeap (Value.builtin "BaseException.__getattribute__")) = false := rfl
  have hx2 : (onTheHeap (Value.ref C) && Value.builtin "BaseException.__getattribute__" == Value.builtin "object.__getattribute__") = false := by
    rw [show (Value.builtin "BaseException.__getattribute__" == Value.builtin "object.__getattribute__") = false by decide +kernel, Bool.and_false]
  unfold getAttr? getAttrBy?
  unfold getAttrBy
  refine wpAny_bind (wpAny_mkText (wpAny_bind (wpAny_attempt (wpAny_holding (wpAny_bind (l0.at (wpAny_bind (l1.at ?_))))))))
  dsimp only at l0 l1 l2 X I h ⊢
  rw [hx2, if_neg Bool.false_ne_true]
  unfold getAttrByItsOwn
  refine wpAny_bind (l2.at ?_)
  repeat (any_goals first | assumption | wp_step)
  refine clsX_call X I c ?_
  show wpAny _ _ (handedOut (Value.ref C)) _ _ _
  rw [handedOut_of rfl]
  exact (wpAny_pure (wpAny_pure h))
theorem kitx_X (c : ClsAt K C) : KitX K (.ref x) (.ref C) (fun h => InstAt h x ox C (some od)) where
  ty := fun _ _ _ I => I.type
  it := fun _ _ X _ => by
    obtain ⟨cdD, hcE, _⟩ := any_some c.hd
    unfold clsIn at hcE
    split at hcE
    · rename_i c' d' cd' sl' hov
      intro A' Q' E' s' k q
      unfold isType loadHead
      exact wpAny_bind (wpAny_loadPart (k _ _ (X _ _ hov)) (wpAny_pure q))
    · cases hcE
  ne := fun h tp dd its n sl X htq => by
    obtain ⟨cdD, hcE, _⟩ := any_some c.hd
    refine Bool.eq_false_iff.mpr fun qq => ?_
    have e : C = tp := Value.ref.inj (beq_iff_eq.mp qq)
    subst e
    unfold clsIn at hcE
    split at hcE
    · rename_i c' d' cd' sl' hov
      have z := (X _ _ hov).symm.trans htq
      cases z
    · cases hcE
  ca := fun X I k => getX_class X I c k
end
end PySem.W
namespace L2
open PySem PyProof.Rows PySem.Spec PySem.Calls
theorem ClsX.at {K : PySem.W.Frag} {C : Addr} (c : ClsX K C) (ca : PySem.W.findIn K (.ref C) "__class__" = some (some (.builtin "object.__class__")))
    (cn : PySem.W.specialIn K (.builtin "object.__class__") "__get__" = some (some (.builtin "getset_descriptor.__get__"))) (ct : PySem.W.takesIn K (.builtin "object.__class__") = some true) : PySem.W.ClsAt K C :=
  ⟨c.hd, c.po, c.ga, c.gn, ca, cn, ct⟩
theorem upd_self {H : Hp} {a : Addr} {o : HO} (e : H a = some o) : upd H a o = H := by
  funext b
  unfold upd
  by_cases q : b = a
  · rw [if_pos q, q, e]
  · rw [if_neg q]
structure MkX (K : PySem.W.Frag) (C f : Addr) : Prop where
  makes : PySem.W.excMk K C = true
  init : PySem.W.findIn K (.ref C) "__init__" = some (some (.ref f))
  fn : PySem.W.isFn K (.ref f) = true
  kp : PySem.W.keepIn K (.ref C) = true
def tMakeX (C : Addr) (sp : Sp) (E : XK) (t : TA) : TE := fun σ H Q => t σ H fun vs H1 => ∀ x, H1 x = none → sp (.ref x :: vs) (upd H1 x (XO x C none)) (fun v H2 => v = .non ∧ Q (.ref x) H2) E
section
variable {X : Cx} {CX : CXT} {k : Nat} {f C : Addr} {fd : FuncData} {ps : List Str} {sp : Sp} {E : XK} {x m : Str} {p pos apos : Pos} {e o : Expr} {es : List Expr} {ta : TE} {t : TA}
theorem Inv.madeX {pins : List (Addr × Obj)} {σ : St} {H : Hp} {s : Shared} {us : List Value} (I : Inv X pins σ H s) :
    Inv X pins σ (upd H (s.heap.objs.size + 1) (XO (s.heap.objs.size + 1) C none)) { s with heap := (s.heap.push (PySem.W.excTup us)).push (PySem.W.excNew C s.heap.objs.size) } := by
  have e2 : ((s.heap.push (PySem.W.excTup us)).push (PySem.W.excNew C s.heap.objs.size)).get? (s.heap.objs.size + 1) = some (PySem.W.excNew C s.heap.objs.size) := by
    have := Heap.get?_push_size (s.heap.push (PySem.W.excTup us)) (o := PySem.W.excNew C s.heap.objs.size) rfl
    rwa [Heap.size_push] at this
  have I1 := I.kept (h' := s.heap.push (PySem.W.excTup us)) (t' := s.toks) (fun b u q => Heap.get?_push_of_some _ q)
  exact I1.laid (a := s.heap.objs.size + 1) (t' := s.toks) (fun b u q => Heap.get?_push_of_some _ q) (Nat.le_of_eq (Heap.size_push _ _)) (xo_ok e2)
theorem run_makeX {pins : List (Addr × Obj)} {σ : St} {H : Hp} {s : Shared} {Q : VK} {us : List Value} {vs : List V} (M : MkX X.K C f) (F : FnOk X.prog X.w X.K X.mg X.base CX k f fd ps sp) (hr : Room (k + 1) X.A) (hb : Binds X.K fd ps [])
    (hx : Passes CX X E) (hz : ps.length ≤ 1000) (I : Inv X pins σ H s) (r : Vals vs us)
    (h : ∀ x, H x = none → sp (.ref x :: vs) (upd H x (XO x C none)) (fun v H2 => v = .non ∧ Q (.ref x) H2) E) :
    wpAny (model X.prog X.w) X.A (call (.ref C) us) (EP X pins σ Q) X.xe s := by
  have hq := h (s.heap.objs.size + 1) (I.hok.fresh (Nat.le_succ _))
  have I2 := Inv.madeX (C := C) (us := us) I
  have r2 : Vals (V.ref (s.heap.objs.size + 1) :: vs) (Value.ref (s.heap.objs.size + 1) :: us) := .cons rfl r
  have hl : (Value.ref (s.heap.objs.size + 1) :: us).length = ps.length := by
    have e := r2.length
    rw [F.len _ _ _ _ hq] at e
    exact e.symm
  have hb2 := hb { s with heap := (s.heap.push (PySem.W.excTup us)).push (PySem.W.excNew C s.heap.objs.size) } (Value.ref (s.heap.objs.size + 1) :: us) I2.kIn (by rw [List.append_nil]; exact hl)
  rw [List.append_nil] at hb2
  refine wpAny_call (PySem.W.make_X (f := f) I.kIn M.makes M.init (beq_iff_eq.mp M.fn) (by rw [List.length_cons] at hl; rw [sizeLine_eq]; omega) (codeAny_mono (F.run _ X.stack _ _ ⟨Value.ref (s.heap.objs.size + 1) :: us, []⟩ (Value.ref (s.heap.objs.size + 1) :: us) _ _ E (hr.make C us [])
    (I2.env0.make C us []) hb2 r2 hq) fun r s' hq' => ?_))
  cases r with
  | error e => exact hx pins σ _ _ e s' I2 hq'
  | ok fl =>
    cases fl with
    | ret u =>
      obtain ⟨v, H', I3, rv, ev, q3⟩ := I2.after hq'
      subst ev
      exact ⟨rv, ⟨V.ref (s.heap.objs.size + 1), H', I3, rfl, q3⟩⟩
    | next => exact False.elim hq'
    | brk => exact False.elim hq'
    | cont => exact False.elim hq'
theorem pe_makeX (M : MkX X.K C f) (F : FnOk X.prog X.w X.K X.mg X.base CX k f fd ps sp) (hr : Room (k + 1) X.A) (hg : Gl X x) (hm : X.mg x = some (.ref C)) (hb : Binds X.K fd ps []) (hx : Passes CX X E) (hz : ps.length ≤ 1000)
    (ha : PA X (e :: es) t) (hdb : (x == ("__debug__" : Str)) = false := by decide) (he : starEach (e :: es) X.env = (false, eval e X.env) :: starEach es X.env := by rfl) (hpl : (backTo pos (starEach es X.env)).any (·.1) = false := by rfl) :
    PE X (.Call (.Name x p) (e :: es) [] pos) (tMakeX C sp E t) := by
  intro pins s σ H Q I h
  refine wpAny_Call_Name_kw (ld_glob I hg hm ?_ hdb)
  refine PySem.W.callWith_K (h₀ := X.base) I.ok.mod.kin M.kp (thn (ha pos pins s σ H _ I h) fun us s1 ⟨vs, H1, I1, r, q⟩ => ⟨I1.kIn, ?_⟩) he hpl
  exact run_makeX M F hr hb hx hz I1 r q
structure InX (K : PySem.W.Frag) (B : Addr) : Prop where
  sp : PySem.W.specialIn K (.ref B) "__getattribute__" = some (some (.builtin "type.__getattribute__"))
  rd : PySem.W.readsIn K B (.type "type") = true
  fc : PySem.W.findCls K (.ref B) (.type "type") "__init__" = some (.val (.builtin "ValueError.__init__"))
def tInX (K : PySem.W.Frag) (t : TA) : TE := fun σ H Q => t σ H fun vs H1 => ∃ a C d xs, vs = .ref a :: xs ∧ xs.length ≤ 1000 ∧ H1 a = some (XO a C d) ∧ PySem.W.excMk K C = true ∧ Q .non H1
theorem pe_initX {B : Addr} {pl : Sem Bool} (J : InX X.K B) (hg : Gl X x) (hm : X.mg x = some (.ref B)) (ha : PA X (e :: es) t) (hdb : (x == ("__debug__" : Str)) = false := by decide)
    (hst : starEach (e :: es) X.env = (false, eval e X.env) :: starEach es X.env := by rfl) (hpl : (backTo pos (starEach es X.env)).any (·.1) = false := by rfl)
    (ht : eval (.Call (.Attribute (.Name x p) "__init__" apos) (e :: es) [] pos) X.env = (do
      let ov ← eval (.Name x p) X.env
      standAt apos.atName
      let (f, first) ← holding [ov] (getMethod ov "__init__" pl)
      callWith pos f first (backTo pos (starEach (e :: es) X.env)) (backToKw pos (keywordEach [] X.env))) := by rfl) :
    PE X (.Call (.Attribute (.Name x p) "__init__" apos) (e :: es) [] pos) (tInX X.K t) := by
  intro pins s σ H Q I h
  refine PySem.W.methodCall_KW (pl := pl) (ld_glob I hg hm ?_ hdb) ht
  refine PySem.W.method_cls I.kIn J.sp (PySem.W.cls_value I.kIn J.rd J.fc rfl ?_)
  have hA := ha pos pins _ σ H _ (I.tok (s.toks + 1)) h
  show wpAny _ _ (callWith pos (.builtin "ValueError.__init__") [] (backTo pos (starEach (e :: es) X.env)) []) _ _ _
  rw [hst] at hA ⊢
  refine Calls.callWith_builtin (by show (false || (backTo pos (starEach es X.env)).any (·.1)) = false; rw [hpl] <;> rfl) (Calls.evalArgs_plain ?_)
  refine thn hA fun us s2 ⟨vs, H2, I2, r2, a, C, d, xs, ev, hl, ea, mk, q⟩ => ?_
  subst ev
  cases r2 with
  | cons ru rr =>
    cases ru
    obtain ⟨t0, hx⟩ := xo_get I2.hok ea
    refine PySem.W.initX I2.kIn hx mk (by rw [← rr.length, sizeLine_eq]; omega) fun h' h1 h2 => ⟨.non, H2, ?_, rfl, q⟩
    have := I2.write (x := a) (e := a) (o := XO a C d) (t' := s2.toks) (h' := h') (by rw [ea]; exact True.intro) (.inl rfl) h2 ⟨_, h1⟩ (xo_ok h1)
    rwa [upd_self ea] at this
end
end L2
namespace L2
open PySem PyProof.Rows PySem.Spec PySem.Calls
def XF (H : Hp) (e C : Addr) (fs : List (Str × V)) : Prop := ∃ dx, H e = some (XO e C (some dx)) ∧ H dx = some (XD dx fs) ∧ dx ≠ e
theorem XF.keep {H H' : Hp} {e C : Addr} {fs : List (Str × V)} (x : XF H e C fs) (k : Same H H') : XF H' e C fs := let ⟨d, a, b, c⟩ := x; ⟨d, k _ _ a, k _ _ b, c⟩
theorem XF.upd {H : Hp} {e C p : Addr} {fs : List (Str × V)} {o : HO} (x : XF H e C fs) (k : ∀ φ, H p ≠ some (.ext φ)) : XF (L2.upd H p o) e C fs := by
  obtain ⟨d, a, b, c⟩ := x
  have h1 : e ≠ p := fun z => k _ (by rw [← z]; exact a)
  have h2 : d ≠ p := fun z => k _ (by rw [← z]; exact b)
  exact ⟨d, by rw [upd_ne h1]; exact a, by rw [upd_ne h2]; exact b, c⟩
def sFldX (K : PySem.W.Frag) (ta tv : TE) (f : Str) : TS := fun D σ H => tv σ H fun y H1 => ta σ H1 fun x H2 =>
  (∃ a C, x = .ref a ∧ H2 a = some (XO a C none) ∧ ClsX K C ∧ NoAttr K C f ∧ ∀ dx, H2 dx = none → dx ≠ a → D.nx σ (upd (upd H2 dx (XD dx [(f, y)])) a (XO a C (some dx)))) ∨
  (∃ a C dx fs, x = .ref a ∧ IsX H2 a C (some dx) ∧ H2 dx = some (XD dx fs) ∧ dx ≠ a ∧ ClsX K C ∧ NoAttr K C f ∧ fs.length < 1000 ∧ D.nx σ (upd H2 dx (XD dx (putF f y fs))))
def tFldX (K : PySem.W.Frag) (ta : TE) (f : Str) : TE := fun σ H Q => ta σ H fun x H1 => ∃ a C fs v, x = .ref a ∧ XF H1 a C fs ∧ ClsX K C ∧ NoAttr K C f ∧ fs.lookup f = some v ∧ Q v H1
structure ClsI (K : PySem.W.Frag) (C : Addr) : Prop where
  c : ClsX K C
  ca : PySem.W.findIn K (.ref C) "__class__" = some (some (.builtin "object.__class__"))
  cn : PySem.W.specialIn K (.builtin "object.__class__") "__get__" = some (some (.builtin "getset_descriptor.__get__"))
  ct : PySem.W.takesIn K (.builtin "object.__class__") = some true
def clV : V → Value
  | .ref a => .ref a
  | .ty n => .type n
  | _ => .none
def rIsX (K : PySem.W.Frag) : List V → Hp → VK → Prop := fun xs H Q => ∃ a C fs c b, xs = [.ref a, c] ∧ XF H a C fs ∧ ClsI K C ∧ (∀ u, RelV c u → u = clV c) ∧ PySem.W.kitOne K (.ref C) (clV c) = some b ∧ Q (.bl b) H
def rUpd : V → List V → Hp → VK → Prop := fun x vs H Q => ∃ d e kvs more, x = .ref d ∧ vs = [.ref e] ∧ H d = some (.dK kvs) ∧ H e = some (.dK more) ∧ d ≠ e ∧ kvs.length + more.length ≤ 1000 ∧ Q .non (upd H d (.dK (mergeK kvs more)))
section
variable {X : Cx} {o e value : Expr} {f : Str} {pos pos' tpos : Pos} {ta tv : TE}
theorem ps_fldX (ha : PE X o ta) (hv : PE X value tv) (hs : swapsWith value (some (.Attribute o f pos')) pos.line X.env = pure false) : PS X (.Assign [.Attribute o f pos'] value pos) (sFldX X.K ta tv f) := by
  intro pins s σ H D I h
  refine plainObj_wpAny_Assign_Attribute (thn (hv pins s σ H _ I h) fun u s1 ⟨y, H1, I1, ry, q⟩ => thn (ha pins s1 σ H1 _ I1 q) fun ov s2 ⟨x, H2, I2, rx, q2⟩ => ?_) hs
  rcases q2 with ⟨a, C, ex, ea, c, n, q3⟩ | ⟨a, C, dx, fs, ex, ea, ed, ne, c, n, l, q3⟩
  · subst ex
    obtain rfl : ov = Value.ref a := rx
    exact setX1_ok I2 ea c n ry fun dx s3 h1 h2 I3 => ⟨σ, _, I3, q3 dx h1 h2⟩
  · subst ex
    obtain rfl : ov = Value.ref a := rx
    exact setX2_ok I2 ea ed ne c n l ry fun s3 I3 => ⟨σ, _, I3, q3⟩
end
end L2
namespace L2
open PySem PyProof.Rows PySem.Spec PySem.Calls
def Deq (K : PySem.W.Frag) (H : Hp) : Nat → V → V → Prop
  | 0, x, y => x = y ∧ flatV x = true
  | n + 1, x, y => (x = y ∧ flatV x = true) ∨ ∃ a b xs ys, x = .ref a ∧ y = .ref b ∧ ((SqL K H a xs ∧ SqL K H b ys) ∨ (SqT K H a xs ∧ SqT K H b ys)) ∧ xs.length = ys.length ∧ ∀ j, j < xs.length → Deq K H n (xs.getD j .non) (ys.getD j .non)
def rEqD (K : PySem.W.Frag) (n : Nat) : R2 := fun x y H Q => ∃ a b xs ys, x = .ref a ∧ y = .ref b ∧ SqL K H a xs ∧ SqL K H b ys ∧ xs.length = ys.length ∧ (∀ j, j < xs.length → Deq K H n (xs.getD j .non) (ys.getD j .non)) ∧ Q (.bl true) H
structure MkXD (P : Program) (w : World) (K : PySem.W.Frag) (mg : Str → Option Value) (base : Heap) (k : Nat) (x : Str) (C : Addr) (ps : List Str) (sp : Sp) : Prop where
  ex : ∃ f fd, MkX K C f ∧ FnOk P w K mg base CX0 k f fd ps sp ∧ Binds K fd ps [] ∧ mg x = some (.ref C)
  few : ps.length ≤ 1000
theorem pe_makeXD {X : Cx} {k : Nat} {x : Str} {C : Addr} {ps : List Str} {sp : Sp} {e : Expr} {es : List Expr} {t : TA} {p pos : Pos} (D : MkXD X.prog X.w X.K X.mg X.base k x C ps sp) (hr : Room (k + 1) X.A) (hg : Gl X x) (ha : PA X (e :: es) t) (hdb : (x == ("__debug__" : Str)) = false := by decide)
    (he : starEach (e :: es) X.env = (false, eval e X.env) :: starEach es X.env := by rfl) (hpl : (backTo pos (starEach es X.env)).any (·.1) = false := by rfl) : PE X (.Call (.Name x p) (e :: es) [] pos) (tMakeX C sp E0 t) := by
  obtain ⟨f, fd, M, F, b, m⟩ := D.ex
  exact pe_makeX M F hr hg m b pass0 D.few ha hdb he hpl
def xcls (K : PySem.W.Frag) (C : Addr) (fs : List Str) : Bool :=
  PySem.W.hasDictIn K C && PySem.W.excOver K C && PySem.W.findIn K (.ref C) "__setattr__" == some (some (.builtin "object.__setattr__")) && PySem.W.findIn K (.ref C) "__getattribute__" == some (some (.builtin "BaseException.__getattribute__")) &&
  PySem.W.findIn K (.ref C) "__getattr__" == some none && PySem.W.findIn K (.ref C) "__class__" == some (some (.builtin "object.__class__")) && fs.all fun f => PySem.W.findIn K (.ref C) f == some none
structure XCl (K : PySem.W.Frag) (C : Addr) (fs : List Str) : Prop where
  i : ClsI K C
  n : ∀ f ∈ fs, NoAttr K C f
  m : PySem.W.excMk K C = true
theorem XCl.of {K : PySem.W.Frag} {C : Addr} {fs : List Str} (h : xcls K C fs = true) (m : PySem.W.excMk K C = true) (cn : PySem.W.specialIn K (.builtin "object.__class__") "__get__" = some (some (.builtin "getset_descriptor.__get__"))) (ct : PySem.W.takesIn K (.builtin "object.__class__") = some true) : XCl K C fs := by
  unfold xcls at h
  simp only [Bool.and_eq_true, beq_iff_eq, List.all_eq_true] at h
  obtain ⟨⟨⟨⟨⟨⟨h1, h2⟩, h3⟩, h4⟩, h5⟩, h6⟩, h7⟩ := h
  exact ⟨⟨⟨h1, h2, h3, h4, h5⟩, h6, cn, ct⟩, fun f hf => h7 f hf, m⟩
end L2
namespace L2
open PySem PyProof.Rows PySem.Spec PySem.Calls
theorem bt_ValueError : bootBuiltins "ValueError" = some (.type "ValueError") := by decide +kernel
def kitTab (K : PySem.W.Frag) (cs : List Addr) (b : Addr) : Bool :=
  (List.range cs.length).all fun i => PySem.W.kitOne K (.ref (cs.getD i 0)) (.ref b) == some true && PySem.W.kitOne K (.ref (cs.getD i 0)) (.type "ValueError") == some true && (List.range cs.length).all fun j => PySem.W.kitOne K (.ref (cs.getD i 0)) (.ref (cs.getD j 0)) == some (i == j)
theorem kitTab_base {K : PySem.W.Frag} {cs : List Addr} {b : Addr} {i : Nat} (h : kitTab K cs b = true) (hi : i < cs.length) : PySem.W.kitOne K (.ref (cs.getD i 0)) (.ref b) = some true := by
  have q := List.all_eq_true.mp h i (List.mem_range.mpr hi)
  simp only [beq_iff_eq, Bool.and_eq_true] at q
  exact q.1.1
theorem kitTab_val {K : PySem.W.Frag} {cs : List Addr} {b : Addr} {i : Nat} (h : kitTab K cs b = true) (hi : i < cs.length) : PySem.W.kitOne K (.ref (cs.getD i 0)) (.type "ValueError") = some true := by
  have q := List.all_eq_true.mp h i (List.mem_range.mpr hi)
  simp only [beq_iff_eq, Bool.and_eq_true] at q
  exact q.1.2
theorem kitTab_two {K : PySem.W.Frag} {cs : List Addr} {b : Addr} {i j : Nat} (h : kitTab K cs b = true) (hi : i < cs.length) (hj : j < cs.length) : PySem.W.kitOne K (.ref (cs.getD i 0)) (.ref (cs.getD j 0)) = some (i == j) := by
  have q := List.all_eq_true.mp h i (List.mem_range.mpr hi)
  simp only [beq_iff_eq, Bool.and_eq_true] at q
  exact beq_iff_eq.mp (List.all_eq_true.mp q.2 j (List.mem_range.mpr hj))
theorem valV_at {kvs : List (Key × V)} {ks : List Key} {j : Nat} {k : Key} {v : V} (e : kvs.map (·.1) = ks) (n : ks.Nodup) (h : kvs[j]? = some (k, v)) : valV kvs k = some v := by
  subst e
  unfold valV
  induction kvs generalizing j with
  | nil => cases h
  | cons p r ih =>
    rw [List.map_cons, List.nodup_cons] at n
    cases j with
    | zero =>
      cases Option.some.inj h
      rw [List.find?_cons_of_pos (by simp)]
      rfl
    | succ j =>
      have h' : r[j]? = some (k, v) := h
      have ne : p.1 ≠ k := fun z => n.1 (List.mem_map.mpr ⟨(k, v), List.mem_of_getElem? h', z.symm⟩)
      rw [List.find?_cons_of_neg (by simpa using ne)]
      exact ih h' n.2
theorem DGet.look {H : Hp} {a : Addr} {kvs : List (Key × V)} {ks : List Key} {j : Nat} {k : Key} {v : V} (eH : H a = some (.dK kvs)) (e : kvs.map (·.1) = ks) (n : ks.Nodup) (h : kvs[j]? = some (k, v)) : DGet H a (kV k) (some v) := by
  rw [← valV_at e n h]
  exact DGet.k eH
def spC (m : Nat) : Sp := fun vs H Q _ =>
  (1 ≤ m ∧ ∃ z : Str, vs = [.str z] ∧ Q (.str z) H) ∨
  (2 ≤ m ∧ ∃ (a : Addr) (zs : List Str), vs = [.ref a] ∧ H a = some (.lst (zs.map V.str)) ∧ zs.length ≤ 100 ∧ ∀ p H', Same H H' → H p = none → H' p = some (.lst (zs.map V.str)) → Q (.ref p) H') ∨
  (3 ≤ m ∧ ∃ (a l : Addr) (z : Str) (zs : List Str), vs = [.ref a] ∧ H a = some (.tup [.str z, .ref l]) ∧ H l = some (.lst (zs.map V.str)) ∧ zs.length ≤ 100 ∧
    ∀ p q H', Same H H' → H p = none → H q = none → H' p = some (.tup [.str z, .ref q]) → H' q = some (.lst (zs.map V.str)) → Q (.ref p) H') ∨
  (4 ≤ m ∧ ∃ (a b l : Addr) (z : Str) (zs : List Str), vs = [.ref a] ∧ H a = some (.lst [.ref b]) ∧ H b = some (.tup [.str z, .ref l]) ∧ H l = some (.lst (zs.map V.str)) ∧ zs.length ≤ 100 ∧
    ∀ r p q H', Same H H' → H r = none → H' r = some (.lst [.ref p]) → H' p = some (.tup [.str z, .ref q]) → H' q = some (.lst (zs.map V.str)) → Q (.ref r) H')
theorem Fun.never {P : Program} {w : World} {K : PySem.W.Frag} {mg : Str → Option Value} {base : Heap} {x qual : Str} {st : Stmt} {f : Addr} {fd : FuncData} (_F : Fun K x qual st f fd) : FnOk P w K mg base CX0 0 f fd ["value"] (spC 0) := by
  have no : ∀ vs H Q E, spC 0 vs H Q E → False := fun vs H Q E h => by
    rcases h with h | h | h | h <;> exact absurd h.1 (by decide)
  exact ⟨fun vs H Q E q => (no _ _ _ _ q).elim, fun A outer s H args us vs Q E _ _ _ _ hs => (no _ _ _ _ hs).elim⟩
end L2
namespace PySem.W
open PySem
structure Noted (e : Addr) (cl : Value) (d : Option Addr) (fr : List Addr) (off : Addr → Prop) (h h' : Heap) : Prop where
  exc : ∃ vs sl T oT ts, h'.get? e = some ⟨cl, d, .fields vs, sl⟩ ∧ vs[1]? = some (.ref T) ∧ T ≠ e ∧ h.objs.size ≤ T ∧ h'.get? T = some oT ∧ oT.data = .fields ts ∧ ts[3]? = some .none
  keep : ∀ b o, b ≠ e → ¬ off b → b ∉ fr → h.get? b = some o → h'.get? b = some o
  slot : ∀ b o, b ≠ e → ¬ off b → h.get? b = some o → ∃ sl, h'.get? b = some { o with slots := sl }
  ctx : ∀ o o' vs vs', h.get? e = some o → h'.get? e = some o' → o.data = .fields vs → o'.data = .fields vs' → vs'[2]? = vs[2]?
abbrev tbObj (ws : Array Value) : Obj := { cls := .type "traceback", dict := none, data := .fields ws }
section
variable {M : Model} {E : Value → Shared → Prop} {A : Around} {s : Shared}
theorem note_core {bh : Heap} {env : Env} {outer : List Env} {L e : Addr} {cl head : Value} {d : Option Addr} {vs : Array Value} {sl : Array (Option Value)} {hadNext : Bool} {Q : Unit → Shared → Prop}
    (hA : A.frames = some (env :: outer)) (hl : s.heap.FunFrames bh (env :: outer)) (hf : env.frame = some L) (he : s.heap.get? e = some ⟨cl, d, .fields vs, sl⟩) (hz : 1 < vs.size)
    (k : ∀ h', Noted e cl d ((env :: outer).filterMap (·.frame)) (fun _ => False) s.heap h' → Q () { s with heap := h' }) :
    wpAny M A (do let fo ← frameOf env; let pl ← entryPlaceOf L hadNext; let tb ← EntryCells.newEntry head fo .none (rawInt L) .none pl; setField (.ref e) 1 tb) (fun _ s1 => wpAny M A (setFlight (.ref e) none) Q E s1) E s := by
  have eno : e ∉ (env :: outer).filterMap (·.frame) := fun z => by
    obtain ⟨_, ob, q1, q2⟩ := hl.mem z
    rw [he] at q1
    cases q1
    exact q2 vs rfl
  refine wpAny_bind (wpAny_frameOf_fun hA hl hf fun g so => ?_)
  refine wpAny_bind (wpAny_entryPlaceOf fun pla hpl => ?_)
  unfold EntryCells.newEntry; unfold newFields
  refine (wpAny_bind (wpAny_newObj_type ?_ (hpl.sizeOk5 _ _ _ _ _)))
  generalize hws : ([head, .ref L, .none, rawInt L, .none] ++ (if pla.isEmpty then List.replicate 6 Value.none else pla)).toArray = ws
  have wz : 3 < ws.size := by
    rw [← hws]
    simp only [List.size_toArray, List.length_append, List.length_cons, List.length_nil]
    omega
  have e1 : g.get? e = some ⟨cl, d, .fields vs, sl⟩ := (so.2.1 e eno).trans he
  have nT : g.objs.size ≠ e := Nat.ne_of_gt (Heap.lt_size e1)
  have e2 : (g.push (tbObj ws)).get? e = _ := Heap.get?_push_of_some (h := g) (tbObj ws) e1
  refine wpAny_setField e2 rfl hz ?_
  generalize hu : (g.push (tbObj ws)).update e (Obj.mapFields (·.setIfInBounds 1 (Value.ref g.objs.size))) = g2
  have e3 : g2.get? e = some ⟨cl, d, .fields (vs.setIfInBounds 1 (.ref g.objs.size)), sl⟩ := by
    rw [← hu]
    exact Heap.get?_update_self _ e2 rfl
  have t3 : g2.get? g.objs.size = some (tbObj ws) := by
    rw [← hu, Heap.get?_update_other _ _ (Ne.symm nT)]
    exact Heap.get?_push_size g rfl
  have o3 : ∀ b ob, b ≠ e → g.get? b = some ob → g2.get? b = some ob := fun b ob hb q => by
    rw [← hu, Heap.get?_update_other _ _ (Ne.symm hb)]
    exact Heap.get?_push_of_some _ q
  unfold setFlight
  refine wpAny_bind (wpAny_field e3 rfl (x := .ref g.objs.size) (by simp [hz]) ?_)
  rw [if_pos (by simp)]
  refine wpAny_setField t3 rfl wz (k _ ⟨?_, fun b ob hb _ hx q => ?_, fun b ob hb _ q => ?_, fun o o' ws' vs' q1 q2 q3 q4 => ?_⟩)
  · refine ⟨vs.setIfInBounds 1 (.ref g.objs.size), sl, g.objs.size, _, _, ?_, by simp [hz], nT, ?_, Heap.get?_update_self _ t3 rfl, rfl, by simp [wz]⟩
    · rw [Heap.get?_update_other _ _ nT]
      exact e3
    · exact Nat.le_of_eq so.1.symm
  · have q1 : g.get? b = some ob := (so.2.1 b hx).trans q
    rw [Heap.get?_update_other _ _ (Nat.ne_of_gt (Heap.lt_size q1))]
    exact o3 b ob hb q1
  · obtain ⟨s1, q1⟩ := so.2.2 b ob q
    refine ⟨s1, ?_⟩
    rw [Heap.get?_update_other _ _ (Nat.ne_of_gt (Heap.lt_size q1))]
    exact o3 b _ hb q1
  · rw [Heap.get?_update_other _ _ nT, e3] at q2
    rw [he] at q1
    cases q1
    cases q2
    cases q3
    cases q4
    simp
def HeadAt (h : Heap) (e T : Addr) : Prop := T ≠ e ∧ ∃ oT ts, h.get? T = some oT ∧ oT.data = .fields ts ∧ ts[3]? = some .none
theorem note_fly {bh : Heap} {env : Env} {outer : List Env} {L e : Addr} {cl : Value} {d : Option Addr} {vs : Array Value} {sl : Array (Option Value)} {off : Addr → Prop} {Q : Unit → Shared → Prop}
    (hA : A.frames = some (env :: outer)) (hl : s.heap.FunFrames bh (env :: outer)) (hf : env.frame = some L) (he : s.heap.get? e = some ⟨cl, d, .fields vs, sl⟩)
    (hv : vs[1]? = some .none ∨ ∃ T, vs[1]? = some (.ref T) ∧ HeadAt s.heap e T ∧ off T)
    (k : ∀ h', Noted e cl d ((env :: outer).filterMap (·.frame)) off s.heap h' → Q () { s with heap := h' }) :
    wpAny M A (noteFrame (.ref e) env) (fun _ s1 => wpAny M A (setFlight (.ref e) none) Q E s1) E s := by
  unfold noteFrame
  simp only [hf]
  rcases hv with hv | ⟨T, hv, ⟨nT, oT, ts, hT, dT, h3⟩, ho⟩
  · refine wpAny_bind (wpAny_field he rfl hv ?_)
    rw [if_neg (by decide)]
    exact note_core hA hl hf he (Array.getElem?_eq_some_iff.mp hv).1 fun h' n => k h' ⟨n.exc, fun b o h1 _ => n.keep b o h1 (fun z => z), fun b o h1 _ => n.slot b o h1 (fun z => z), n.ctx⟩
  · refine wpAny_bind (wpAny_field he rfl hv ?_)
    rw [if_pos (by simp)]
    refine wpAny_bind (wpAny_field hT dT h3 ?_)
    rw [if_neg (by simp [rawInt])]
    refine wpAny_bind (wpAny_setField hT dT (Array.getElem?_eq_some_iff.mp h3).1 ?_)
    generalize hu : s.heap.update T (Obj.mapFields (·.setIfInBounds 3 Value.none)) = g
    have oth : ∀ b, b ≠ T → g.get? b = s.heap.get? b := fun b hb => by rw [← hu]; exact Heap.get?_update_other _ _ (Ne.symm hb)
    have hz : g.objs.size = s.heap.objs.size := by rw [← hu]; exact Heap.size_after_update ..
    refine note_core (s := { s with heap := g }) hA (hl.of_keeps fun b o q nf => ⟨o, (oth b fun z => ?_).trans q, rfl⟩) hf ((oth e (Ne.symm nT)).trans he) (Array.getElem?_eq_some_iff.mp hv).1 fun h' n => k h' ⟨?_, fun b o h1 h2 h3 q => ?_, fun b o h1 h2 q => ?_, fun o o' ws vs' q1 => n.ctx o o' ws vs' ((oth e (Ne.symm nT)).trans q1)⟩
    · rw [z, hT] at q
      cases q
      exact nf ts dT
    · obtain ⟨vs', sl', T', o', ts', x1, x2, x3, x4, x5⟩ := n.exc
      exact ⟨vs', sl', T', o', ts', x1, x2, x3, by rw [← hz]; exact x4, x5⟩
    · exact n.keep b o h1 (fun z => z) h3 ((oth b fun z => h2 (z ▸ ho)).trans q)
    · exact n.slot b o h1 (fun z => z) ((oth b fun z => h2 (z ▸ ho)).trans q)
end
end PySem.W
namespace L2
open PySem PyProof.Rows PySem.Spec PySem.Calls
def TrX (n : Nat) (H : Hp) (ea : Addr) (h : Heap) : Prop := ∃ cl d vs sl T, h.get? ea = some ⟨cl, d, .fields vs, sl⟩ ∧ vs[1]? = some (.ref T) ∧ PySem.W.HeadAt h ea T ∧ n ≤ T ∧ H T = none
def CXe (P : Program) (w : World) : CXT := fun outer H s E e s' => ∃ ea C d H', e = .ref ea ∧ s'.os = s.os ∧ AllBare s'.gens ∧ Un (frs outer) [] H H' s.heap s'.heap ∧ HOk P w H' s'.heap ∧ H' ea = some (XC ea C d) ∧
  TrX s.heap.objs.size H' ea s'.heap ∧ E (.ref C) (some ea) H'
def TrI (X : Cx) (pins : List (Addr × Obj)) (H : Hp) (ea : Addr) (h : Heap) : Prop := ∃ cl d vs sl T, h.get? ea = some ⟨cl, d, .fields vs, sl⟩ ∧ vs[1]? = some (.ref T) ∧ PySem.W.HeadAt h ea T ∧ X.s₀.heap.objs.size ≤ T ∧ H T = none ∧
  T ≠ X.env.locals ∧ (∀ x c, X.env.cells.lookup x = some c → c ≠ T) ∧ ∀ p ∈ X.pn ++ pins, p.1 ≠ T
structure Top (X : Cx) : Prop where
  ex : X.ex = []
  stk : X.stack = X.env :: X.outer
  fr : X.env.frame = some X.env.locals
def PassesS (X : Cx) (G : St → XK) : Prop := ∀ (pins : List (Addr × Obj)) (σ : St) (H : Hp) (s : Shared) (e : Value) (s' : Shared), Inv X pins σ H s → CXe X.prog X.w X.stack H s (G σ) e s' → X.xe e s'
def RaisesS (X : Cx) (G : St → XK) : Prop := ∀ (pins : List (Addr × Obj)) (σ : St) (H : Hp) (s : Shared) (ea C : Addr) (d : Option Addr), Inv X pins σ H s → H ea = some (XO ea C d) → G σ (.ref C) (some ea) (upd H ea (XC ea C d)) → X.xe (.ref ea) s
abbrev G0 : St → XK := fun _ _ _ _ => False
section
variable {X : Cx} {pins : List (Addr × Obj)} {σ : St} {H H' : Hp} {s s' : Shared} {ea C : Addr} {d : Option Addr} {h' : Heap}
theorem Inv.flew {E : XK} {e : Value} (I : Inv X pins σ H s) (c : CXe X.prog X.w X.stack H s E e s') : ∃ ea C d H', e = .ref ea ∧ Inv X pins σ H' s' ∧ H' ea = some (XC ea C d) ∧ TrI X pins H' ea s'.heap ∧ E (.ref C) (some ea) H' := by
  obtain ⟨ea, C, d, H', rfl, ho, hb, un, ok, hx, ⟨cl, d', vs, sl, T, g1, g2, g3, g4, g5⟩, q⟩ := c
  refine ⟨ea, C, d, H', rfl, I.call' ho un ok hb (fun b z => absurd z (by simp)), hx, ⟨cl, d', vs, sl, T, g1, g2, g3, Nat.le_trans I.sz g4, g5, fun z => ?_, fun x c hc z => ?_, fun p hp z => ?_⟩, q⟩
  · have lt := I.lt
    rw [← z] at lt
    exact absurd (Nat.lt_of_lt_of_le lt g4) (Nat.lt_irrefl _)
  · obtain ⟨v, o, q1, _⟩ := I.cell x c hc
    have lt := Heap.lt_size q1
    rw [z] at lt
    exact absurd (Nat.lt_of_lt_of_le lt g4) (Nat.lt_irrefl _)
  · have lt := Heap.lt_size (I.pin p hp).1
    rw [z] at lt
    exact absurd (Nat.lt_of_lt_of_le lt g4) (Nat.lt_irrefl _)
theorem Inv.noted {off : Addr → Prop} (t : Top X) (I : Inv X pins σ H s) (hx : H ea = some (XC ea C d))
    (ht : ∀ T, off T → X.s₀.heap.objs.size ≤ T ∧ H T = none ∧ T ≠ X.env.locals ∧ (∀ x c, X.env.cells.lookup x = some c → c ≠ T) ∧ ∀ p ∈ X.pn ++ pins, p.1 ≠ T) (h1 : ∀ T U, off T → off U → T = U)
    (n : PySem.W.Noted ea (.ref C) d (X.env :: X.outer |>.filterMap (·.frame)) off s.heap h') : Inv X pins σ H { s with heap := h' } ∧ TrI X pins H ea h' := by
  have fr : ∀ b, b ∈ (X.env :: X.outer).filterMap (·.frame) ↔ b = X.env.locals ∨ b ∈ X.fs := fun b => by
    rw [List.filterMap_cons, t.fr]
    exact List.mem_cons
  have frn : ∀ b, b ∈ (X.env :: X.outer).filterMap (·.frame) → H b = none := fun b hb => I.stkFree b (by rw [t.stk]; exact hb)
  obtain ⟨vs, sl, T, oT, ts, x1, x2, x3, x4, x5, x6, x7⟩ := n.exc
  have nea : ∀ b, H b = none → b ≠ ea := fun b hb z => by rw [z, hx] at hb; cases hb
  obtain ⟨ch, hch⟩ : ∃ ch : List Addr, (∀ b ∈ ch, off b) ∧ ∀ b, off b → b ∈ ch := by
    by_cases z : ∃ T, off T
    · obtain ⟨T, hT⟩ := z
      exact ⟨[T], fun b hb => by rw [List.mem_singleton.mp hb]; exact hT, fun b hb => by rw [h1 b T hb hT]; exact List.mem_singleton.mpr rfl⟩
    · exact ⟨[], fun b hb => absurd hb (by simp), fun b hb => absurd ⟨b, hb⟩ z⟩
  have I' : Inv X pins σ H { s with heap := h', gens := s.gens, drawn := s.drawn, toks := s.toks } := by
    refine I.step (ch := ch) (fun b hb => ?_) (fun b o h1 h2 h3 q hn => ?_) (fun b o h1 h2 h3 q hn => ?_) (fun _ _ _ _ q => q) (fun b o h3 q => ?_) (fun _ _ q => q) (fun _ _ _ q => q) (fun b ps q => ⟨#[], by rw [q]; simp⟩) (fun m hm => ?_) (fun b u hb => ?_) I.bare
    · obtain ⟨a1, _, a3, a4, a5⟩ := ht b (hch.1 b hb)
      exact ⟨.inr a1, a3, a4, a5⟩
    · exact n.keep b o (nea b hn) (fun z => h3 (hch.2 b z)) (fun z => ((fr b).mp z).elim h1 h2) q
    · exact n.slot b o (nea b hn) (fun z => h3 (hch.2 b z)) q
    · by_cases z : b = ea
      · rw [z]; exact ⟨_, x1⟩
      · obtain ⟨l, q1⟩ := n.slot b o z (fun z => h3 (hch.2 b z)) q
        exact ⟨_, q1⟩
    · obtain ⟨o, es, ep, ho, r⟩ := hm
      obtain ⟨l, q1⟩ := n.slot _ o (nea _ I.free) (fun z => (ht _ z).2.2.1 rfl) ho
      exact ⟨_, es, ep, q1, r⟩
    · by_cases z : b = ea
      · subst z
        rw [hx] at hb
        cases hb
        obtain ⟨vs0, sl0, g0, c0⟩ := x_getC I.hok (.inr hx)
        exact xc_ok x1 ((n.ctx _ _ _ _ g0 x1 rfl rfl).trans c0)
      · refine (I.hok b u hb).stay (fun c v hc q => n.keep c v ?_ (fun z => ?_) (fun z => ?_) q) (fun _ q => q) fun _ _ q => q
        · rcases hc with rfl | hc
          · exact z
          · intro z
            rw [z, hx] at hc
            cases hc
        · have hn := (ht c z).2.1
          rcases hc with rfl | hc
          · rw [hb] at hn; cases hn
          · rw [hc] at hn; cases hn
        · have hn := frn c z
          rcases hc with rfl | hc
          · rw [hb] at hn; cases hn
          · rw [hc] at hn; cases hn
  have lt := I.lt
  refine ⟨I', .ref C, d, vs, sl, T, x1, x2, ⟨x3, oT, ts, x5, x6, x7⟩, Nat.le_trans I.sz x4, I.hok.fresh x4, fun z => ?_, fun x c hc z => ?_, fun p hp z => ?_⟩
  · rw [← z] at lt
    exact absurd (Nat.lt_of_lt_of_le lt x4) (Nat.lt_irrefl _)
  · obtain ⟨v, o, q1, _⟩ := I.cell x c hc
    have lt := Heap.lt_size q1
    rw [z] at lt
    exact absurd (Nat.lt_of_lt_of_le lt x4) (Nat.lt_irrefl _)
  · have lt := Heap.lt_size (I.pin p hp).1
    rw [z] at lt
    exact absurd (Nat.lt_of_lt_of_le lt x4) (Nat.lt_irrefl _)
theorem note_flew {Q : Unit → Shared → Prop} {E : Value → Shared → Prop} (t : Top X) (I : Inv X pins σ H s) (hx : H ea = some (XC ea C d)) (tr : TrI X pins H ea s.heap)
    (k : ∀ s', Inv X pins σ H s' → TrI X pins H ea s'.heap → Q () s') :
    wpAny (model X.prog X.w) X.A (noteFrame (.ref ea) X.env) (fun _ s1 => wpAny (model X.prog X.w) X.A (setFlight (.ref ea) none) Q E s1) E s := by
  obtain ⟨cl, d', vs, sl, T, g1, g2, g3, g4⟩ := tr
  obtain ⟨vs', sl', q⟩ := x_get I.hok (.inr hx)
  rw [g1] at q
  cases q
  refine PySem.W.note_fly (bh := X.base) (off := fun b => b = T) (outer := X.outer) (by rw [← t.stk]; exact I.ok.frames) (by rw [← t.stk]; exact I.stack) t.fr g1 (.inr ⟨T, g2, g3, rfl⟩) fun h' n => ?_
  obtain ⟨a, b⟩ := I.noted (off := fun b => b = T) t hx (fun U z => (show U = T from z) ▸ g4) (fun _ _ p q => p.trans q.symm) n
  exact k _ a b
theorem note_made {Q : Unit → Shared → Prop} {E : Value → Shared → Prop} (t : Top X) (I : Inv X pins σ H s) (hx : H ea = some (XO ea C d))
    (k : ∀ s', Inv X pins σ (upd H ea (XC ea C d)) s' → TrI X pins (upd H ea (XC ea C d)) ea s'.heap → Q () s') :
    wpAny (model X.prog X.w) X.A (noteFrame (.ref ea) X.env) (fun _ s1 => wpAny (model X.prog X.w) X.A (setFlight (.ref ea) none) Q E s1) E s := by
  obtain ⟨t0, g1⟩ := xo_get I.hok hx
  have I1 : Inv X pins σ (upd H ea (XC ea C d)) { s with heap := s.heap, toks := s.toks } := I.write (x := ea) (e := ea) (by rw [hx]; exact True.intro) (.inl rfl) (fun _ _ _ q => q) ⟨_, g1⟩ (xc_ok g1 rfl)
  refine PySem.W.note_fly (bh := X.base) (off := fun _ => False) (outer := X.outer) (by rw [← t.stk]; exact I.ok.frames) (by rw [← t.stk]; exact I.stack) t.fr g1 (.inl rfl) fun h' n => ?_
  obtain ⟨a, b⟩ := I1.noted t upd_same (fun _ z => z.elim) (fun _ _ z => z.elim) n
  exact k _ a b
theorem TrI.tr (t : TrI X pins H ea h') : TrX X.s₀.heap.objs.size H ea h' := let ⟨cl, d, vs, sl, T, a, b, c, e, f, _⟩ := t; ⟨cl, d, vs, sl, T, a, b, c, e, f⟩
end
section
variable {P : Program} {w : World} {K : PySem.W.Frag} {mg : Str → Option Value} {base : Heap} {N ps : List Str} {qual x : Str} {scope : Scope} {f : Addr} {cd : Value} {A : Around} {outer : List Env} {s : Shared} {H : Hp} {E : XK} {k : Nat}
abbrev cxE (P : Program) (w : World) (K : PySem.W.Frag) (mg : Str → Option Value) (base : Heap) (N : List Str) (qual : Str) (scope : Scope) (f : Addr) (cd : Value) (A : Around) (outer : List Env) (s : Shared) (H : Hp) (E : XK) : Cx :=
  cxOf (CXe P w) P w K mg base N qual scope f cd A outer s H E
theorem top_def : Top (cxE P w K mg base N qual scope f cd A outer s H E) := ⟨rfl, rfl, rfl⟩
theorem own_def : PassesOwn (model P w) (cxE P w K mg base N qual scope f cd A outer s H E).A (cxE P w K mg base N qual scope f cd A outer s H E).env (cxE P w K mg base N qual scope f cd A outer s H E).xe := PassesOwn.leaving
theorem pass_def : PassesS (cxE P w K mg base N qual scope f cd A outer s H E) (fun _ => E) := by
  intro pins σ H1 s1 e s2 I c
  obtain ⟨ea, C, d, H2, rfl, I2, hx, tr, q⟩ := I.flew c
  show wpAny _ _ (leaving _ _) _ _ _
  unfold leaving
  refine wpAny_bind (note_flew top_def I2 hx tr fun s3 I3 t3 => ?_)
  exact ⟨ea, C, d, H2, rfl, I3.os, I3.bare, I3.base, I3.hok, hx, t3.tr, q⟩
theorem raise_def : RaisesS (cxE P w K mg base N qual scope f cd A outer s H E) (fun _ => E) := by
  intro pins σ H1 s1 ea C d I hx q
  show wpAny _ _ (leaving _ _) _ _ _
  unfold leaving
  refine wpAny_bind (note_made top_def I hx fun s3 I3 t3 => ?_)
  exact ⟨ea, C, d, _, rfl, I3.os, I3.bare, I3.base, I3.hok, upd_same, t3.tr, q⟩
theorem Fun.okE {st : Stmt} {fd : FuncData} {sp : Sp} (F : Fun K x qual st f fd) (S : FnScope N ps (defScope st)) (len : ∀ vs H Q E, sp vs H Q E → vs.length = ps.length)
    (hbody : ∀ (cdv : Value) (A : Around) (outer : List Env) (s : Shared) (H : Hp) (vs : List V) (Q : VK) (E : XK), Room k (A.deeper (envOfC qual (defScope st) s.heap.objs.size f cdv)) → sp vs H Q E →
      ∃ t, PSs (cxE P w K mg base N qual (defScope st) f cdv A outer s H E) (defBody st) t ∧ t { nx := fun _ H' => Q .non H', rt := Q } (start N vs) H) : FnOk P w K mg base (CXe P w) (k + 1) f fd ps sp := by
  obtain ⟨oc, od, kV, doc, pm, an, cdv, ct, osl, rfl, lk, hcd⟩ := F.ex
  exact fn_of lk hcd S len fun A outer s H vs Q E hr hsp => hbody cdv A outer s H vs Q E hr hsp
theorem FnOk.lift {CX : CXT} {fd : FuncData} {sp : Sp} (F : FnOk P w K mg base CX0 k f fd ps sp) : FnOk P w K mg base CX k f fd ps sp :=
  ⟨F.len, fun A outer s H args us vs Q E hr e0 hb r h => codeAny_mono (F.run A outer s H args us vs Q E hr e0 hb r h) fun r s' q => match r, q with
    | .ok (.ret _), q => q
    | .ok .next, q => q
    | .ok .brk, q => q
    | .ok .cont, q => q
    | .error _, q => False.elim q⟩
structure DfE (P : Program) (w : World) (K : PySem.W.Frag) (mg : Str → Option Value) (base : Heap) (k : Nat) (x : Str) (ps : List Str) (sp : Sp) : Prop where
  ex : ∃ f fd, FnOk P w K mg base (CXe P w) k f fd ps sp ∧ Binds K fd ps [] ∧ PySem.W.keepIn K (.ref f) = true ∧ mg x = some (.ref f)
structure MtE (P : Program) (w : World) (K : PySem.W.Frag) (mg : Str → Option Value) (base : Heap) (k : Nat) (m : Str) (C : Addr) (ps : List Str) (sp : Sp) : Prop where
  ex : ∃ f fd, Meth K C m f ∧ FnOk P w K mg base (CXe P w) k f fd ps sp ∧ Binds K fd ps []
theorem MtD.e {m : Str} {C : Addr} {sp : Sp} (D : MtD P w K mg base k m C ps sp) : MtE P w K mg base k m C ps sp := let ⟨f, fd, a, b, c⟩ := D.ex; ⟨f, fd, a, b.lift, c⟩
theorem Dfn.e {sp : Sp} (D : Dfn P w K mg base k x ps sp) : DfE P w K mg base k x ps sp := let ⟨f, fd, a, b, c⟩ := D.ex; ⟨f, fd, a.lift, b, c⟩
end
def tCallE (sp : Sp) (G : St → XK) (t : TA) : TE := fun σ H Q => t σ H fun vs H1 => sp vs H1 Q (G σ)
def tMethE (P : Program) (w : World) (K : PySem.W.Frag) (mg : Str → Option Value) (base : Heap) (k : Nat) (m : Str) (G : St → XK) (ta : TE) (t : TA) : TE := fun σ H Q => ta σ H fun x H1 => ∃ a C dx fs ps sp, x = .ref a ∧ H1 a = some (.ins C dx fs) ∧ fs.lookup m = none ∧ Cls K C ∧ MtE P w K mg base k m C ps sp ∧
  t σ H1 fun vs H2 => sp (x :: vs) H2 Q (G σ)
section
variable {X : Cx} {k : Nat} {ps : List Str} {sp : Sp} {G : St → XK} {x m : Str} {p pos apos : Pos} {e o : Expr} {es : List Expr} {ta : TE} {t : TA}
theorem run_fnE {pins : List (Addr × Obj)} {σ : St} {H : Hp} {s : Shared} {Q : VK} {us : List Value} {vs : List V} {f : Addr} {fd : FuncData} (F : FnOk X.prog X.w X.K X.mg X.base (CXe X.prog X.w) k f fd ps sp) (hr : Room k X.A) (hb : Binds X.K fd ps []) (hx : PassesS X G)
    (I : Inv X pins σ H s) (r : Vals vs us) (h : sp vs H Q (G σ)) : wpAny (model X.prog X.w) X.A (call (.ref f) us) (EP X pins σ Q) X.xe s := by
  have hl : us.length = ps.length := by rw [← r.length]; exact F.len _ _ _ _ h
  have hb2 := hb s us I.kIn (by rw [List.append_nil]; exact hl)
  rw [List.append_nil] at hb2
  refine wpAny_call (codeAny_mono (F.run X.A X.stack s H ⟨us, []⟩ us vs Q (G σ) hr I.env0 hb2 r h) fun r s' hq => ?_)
  cases r with
  | error e => exact hx pins σ H s e s' I hq
  | ok fl =>
    cases fl with
    | ret u => exact I.after hq
    | next => exact False.elim hq
    | brk => exact False.elim hq
    | cont => exact False.elim hq
theorem pe_callE (D : DfE X.prog X.w X.K X.mg X.base k x ps sp) (hx : PassesS X G) (hr : Room k X.A) (hg : Gl X x) (ha : PA X (e :: es) t) (hdb : (x == ("__debug__" : Str)) = false := by decide)
    (he : starEach (e :: es) X.env = (false, eval e X.env) :: starEach es X.env := by rfl) (hpl : (backTo pos (starEach es X.env)).any (·.1) = false := by rfl) : PE X (.Call (.Name x p) (e :: es) [] pos) (tCallE sp G t) := by
  intro pins s σ H Q I h
  obtain ⟨f, fd, F, b, kp, hm⟩ := D.ex
  refine wpAny_Call_Name_kw (ld_glob I hg hm ?_ hdb)
  refine PySem.W.callWith_K (h₀ := X.base) I.ok.mod.kin kp (thn (ha pos pins s σ H _ I h) fun us s1 ⟨vs, H1, I1, r, q⟩ => ⟨I1.kIn, ?_⟩) he hpl
  exact run_fnE F hr b hx I1 r q
end
end L2
namespace PySem.W
open PySem PyProof.Rows PySem.Spec PySem.Calls
def mroHas (K : Frag) (C : Addr) (c : Value) : Bool := match K.lookup C with
  | some ⟨_, _, .cls cd, _⟩ => cd.mro.contains c
  | _ => false
theorem exc_mro {K : Frag} {h : Heap} {C : Addr} (X : K.In h) (q : excMk K C = true) : ∃ tlm, ExcAt h C tlm ∧ OwnTail h veMro tlm ∧ ∀ c, mroHas K C c = (Value.ref C :: tlm).contains c := by
  obtain ⟨tlm, hE, T⟩ := excMk_obj X q
  refine ⟨tlm, hE, T, fun c => ?_⟩
  unfold mroHas
  cases hk : K.lookup C with
  | none =>
    unfold excMk at q
    rw [hk] at q
    cases q
  | some o =>
    obtain ⟨N, nm, q, bs, hdct, sn, sub, ab, col, dd, q0, q1, q2, q3, q5, hCl⟩ := hE
    have z := X _ _ hk
    rw [hCl] at z
    cases z
    rfl
section
variable {M : Model} {A : Around} {E : Value → Shared → Prop} {env : Env} {K : Frag}
theorem exc_match {h : Heap} {g : Array GenState} {d : Drawn} {t : Nat} {os : OsState} {e C D : Addr} {oe : Obj} {Q : Bool → Shared → Prop} (X : K.In h) (qC : excMk K C = true) (qD : excMk K D = true) (he : h.get? e = some oe) (hc : oe.cls = .ref C)
    (hq : Q (mroHas K C (.ref D)) ⟨h, g, d, t, os⟩) : wpAny M A (excMatches (.ref e) (.ref D)) Q E ⟨h, g, d, t, os⟩ := by
  obtain ⟨tl, ⟨N, nm, q, bs, hdct, sn, sub, ab, col, dd, q0, q1, q2, q3, q5, hC⟩, _, mh⟩ := exc_mro X qC
  obtain ⟨tl', ⟨N', nm', q', bs', hdct', sn', sub', ab', col', dd', q0', q1', q2', q3', q5', hD⟩, T, _⟩ := exc_mro X qD
  have hB : (Value.ref D :: tl').contains (.type "BaseException") = true := by
    rw [List.contains_cons, T.hasType (show veMro.contains (.type "BaseException") = true from by decide +kernel), Bool.or_true]
  rw [mh] at hq
  have f := tc_notTuple
  unfold excMatches
  repeat (first | (with_reducible refine wpAny_loadPart_at he ?_; rw [hc]) | with_reducible refine wpAny_loadPart_at hD ?_ | (with_reducible refine wpAny_isSubtype_exc hD ?_; rw [hB]) | with_reducible refine wpAny_isSubtype_exc hC ?_ | wp_step)
  all_goals (cases hb : (Value.ref C :: tl).contains (.ref D) <;> (rw [hb] at hq; wp_walk; exact hq))
theorem raise_X {s : Shared} {x : Sem Value} {Q : Flow → Shared → Prop} (hh : A.handled = none)
    (h : wpAny M A x (fun v s1 => ∃ e C d t0, v = .ref e ∧ K.In s1.heap ∧ excMk K C = true ∧ s1.heap.get? e = some ⟨.ref C, d, .fields #[.ref t0, .none, .none, .none, .bool false, .none], #[]⟩ ∧ E (.ref e) s1) E s) :
    wpAny M A (raiseStmt env (some x) none) Q E s := by  -- raised here
  unfold raiseStmt
  refine wpAny_bind (wpAny_mono h (fun v s1 h1 => ?_) fun _ _ x => x)
  obtain ⟨e, C, d, t0, rfl, X, qC, he, hE⟩ := h1
  obtain ⟨tl, ⟨N, nm, q, bs, hdct, sn, sub, ab, col, dd, q0, q1, q2, q3, q5, hC⟩, T, _⟩ := exc_mro X qC
  have hB : (Value.ref C :: tl).contains (.type "BaseException") = true := by
    rw [List.contains_cons, T.hasType (show veMro.contains (.type "BaseException") = true from by decide +kernel), Bool.or_true]
  obtain ⟨hp, g, d', tk, os⟩ := s1
  repeat (first | with_reducible refine wpAny_loadPart_at he ?_ | with_reducible refine wpAny_loadPart_at hC ?_ | (with_reducible refine wpAny_isSubtype_exc hC ?_; rw [hB]) | wp_step)
  exact (wpAny_raiseNew_none hh hE)
end
end PySem.W
namespace L2
open PySem PyProof.Rows PySem.Spec PySem.Calls
def tRaise (K : PySem.W.Frag) (G : St → XK) (te : TE) : TS := fun _ σ H => te σ H fun v H1 => ∃ ea C d, v = .ref ea ∧ H1 ea = some (XO ea C d) ∧ PySem.W.excMk K C = true ∧ G σ (.ref C) (some ea) (upd H1 ea (XC ea C d))
abbrev Cx.caught (X : Cx) (ea : Addr) : Cx := { X with A := X.A.mark (some (.ref ea)), calm := false, xe := fun _ _ => False }
abbrev Cx.inTry (X : Cx) (ps : List (Addr × Obj)) (xe : Value → Shared → Prop) : Cx := { X with pn := X.pn ++ ps, xe := xe }
section
variable {X : Cx} {pins : List (Addr × Obj)} {σ : St} {H : Hp} {s : Shared} {ea : Addr}
theorem ps_raise {G : St → XK} {e : Expr} {te : TE} {pos : Pos} (hR : RaisesS X G) (hc : X.calm = true) (he : PE X e te) : PS X (.Raise (some e) none pos) (tRaise X.K G te) := by
  intro pins s σ H D I h
  show wpAny _ _ (do standAt pos; raiseStmt X.env (some (do let v ← eval e X.env; standAt pos; pure v)) none) _ _ s
  refine wpAny_bind (wpAny_standAt (PySem.W.raise_X (K := X.K) (I.ok.hd hc) (wpAny_bind (thn (he pins s σ H _ I h) fun v s1 ⟨x, H1, I1, rx, ea, C, d, ex, hx, mk, q⟩ => wpAny_bind (wpAny_standAt (wpAny_pure ?_))))))
  subst ex
  obtain rfl : v = Value.ref ea := rx
  obtain ⟨t0, g1⟩ := xo_get I1.hok hx
  exact ⟨ea, C, d, t0, rfl, I1.kIn, mk, g1, hR pins σ H1 s1 ea C d I1 hx q⟩
theorem Cx.Ok.caught (ok : X.Ok) : (X.caught ea).Ok :=
  ⟨ok.mod, ok.kind, ok.glob, ok.blt, ok.above, ok.inj, ok.has, ok.cab, (fun z => nomatch z), ok.frames, ok.stk, ok.exf, ok.bs, ok.bsz, ok.noex, ok.exfs, ok.funs, ok.frf⟩
theorem Inv.caught (I : Inv X pins σ H s) : Inv (X.caught ea) pins σ H s := ⟨I.ok.caught, I.os, I.bare, I.base, I.loc, I.cell, I.free, I.freeC, I.pin, I.hok, I.len⟩
theorem Inv.uncaught (o : X.Ok) (I : Inv (X.caught ea) pins σ H s) : Inv X pins σ H s := ⟨o, I.os, I.bare, I.base, I.loc, I.cell, I.free, I.freeC, I.pin, I.hok, I.len⟩
theorem Cx.Ok.inTry {ps : List (Addr × Obj)} {xe : Value → Shared → Prop} (ok : X.Ok) : (X.inTry ps xe).Ok :=
  ⟨ok.mod, ok.kind, ok.glob, ok.blt, ok.above, ok.inj, ok.has, ok.cab, ok.hd, ok.frames, ok.stk, ok.exf, ok.bs, ok.bsz, ok.noex, ok.exfs, ok.funs, ok.frf⟩
theorem Inv.inTry {xe : Value → Shared → Prop} (I : Inv X pins σ H s) : Inv (X.inTry pins xe) [] σ H s := ⟨I.ok.inTry, I.os, I.bare, I.base, I.loc, I.cell, I.free, I.freeC, fun p hp => I.pin p (by rw [← List.append_nil (X.pn ++ pins)]; exact hp), I.hok, I.len⟩
theorem Inv.outTry {ps : List (Addr × Obj)} {xe : Value → Shared → Prop} (o : X.Ok) (I : Inv (X.inTry ps xe) pins σ H s) : Inv X ps σ H s := ⟨o, I.os, I.bare, I.base, I.loc, I.cell, I.free, I.freeC, fun p hp => I.pin p (List.mem_append_left _ hp), I.hok, I.len⟩
theorem SP.outTry {ps : List (Addr × Obj)} {xe : Value → Shared → Prop} {D : Ends} {f : Flow} {s' : Shared} (o : X.Ok) (h : SP (X.inTry ps xe) pins D f s') : SP X ps D f s' := by
  cases f with
  | next => obtain ⟨σ', H', I, q⟩ := h; exact ⟨σ', H', I.outTry o, q⟩
  | brk => obtain ⟨σ', H', I, q⟩ := h; exact ⟨σ', H', I.outTry o, q⟩
  | cont => obtain ⟨σ', H', I, q⟩ := h; exact ⟨σ', H', I.outTry o, q⟩
  | ret u => obtain ⟨v, σ', H', I, r, q⟩ := h; exact ⟨v, σ', H', I.outTry o, r, q⟩
theorem unbind_ok {M : Model} {A : Around} {E : Value → Shared → Prop} {i : Nat} {n : Str} {v : V} {Q : Unit → Shared → Prop} (I : Inv X pins σ H s) (hN : X.N.Nodup) (hi : X.N[i]? = some n) (hx : X.env.scope.names.lookup n = some .local) (hv : σ[i]? = some (some v))
    (h : ∀ s', Inv X pins (σ.set i none) H s' → Q () s') : wpAny M A (unbindName X.env n) Q E s := by
  obtain ⟨m, hn, hl⟩ := id I.loc
  obtain ⟨u, _, lk⟩ := hl i n v hi hv (.inl hx)
  have hm : m n = some u := by
    rcases lk with ⟨_, e⟩ | ⟨k, _⟩
    · exact e
    · have kx : X.env.kindOf n = some .local := hx
      rw [kx] at k
      rcases k with k | k <;> cases k
  have hcls : (X.env.scope.kind == .class || (X.env.scope.kind == .module && X.env.locals != X.env.globals)) = false := by rw [I.ok.kind]; rfl
  have iσ : i < σ.length := by rw [I.len]; exact (List.getElem?_eq_some_iff.mp hi).1
  refine wpAny_unbindName_local hx hn hm hcls fun h' u' hn' hs => h _ ?_
  obtain ⟨oLo, _, _, hoLo, _⟩ := id hn
  have ne0 : ∀ b o, X.s₀.heap.get? b = some o → b ≠ X.env.locals := fun b o e => Nat.ne_of_lt (Nat.lt_of_lt_of_le (Heap.lt_size e) I.ok.above)
  refine ⟨I.ok, I.os, I.bare, ⟨fun b o e nn hb he => (hs.2 b (ne0 b o e)).trans (I.base.keep b o e nn hb he), fun b o e nn hb he => ?_, I.base.free, fun b o e he => ?_, I.base.tups, I.base.frzs, I.base.tbls⟩, ⟨_, hn', fun j y w' e1 e2 e3 => ?_⟩, fun y c e => ?_, I.free, I.freeC, fun p hp => ?_, fun b ob e => ?_, by simpa using I.len⟩
  · obtain ⟨sl, q⟩ := I.base.slot b o e nn hb he
    exact ⟨sl, (hs.2 b (ne0 b o e)).trans q⟩
  · obtain ⟨o', q⟩ := I.base.there b o e he
    exact ⟨o', (hs.2 b (ne0 b o e)).trans q⟩
  · have hj : j ≠ i := fun z => by
      subst z
      rw [List.getElem?_set_self iσ] at e2
      cases e2
    rw [List.getElem?_set_ne (Ne.symm hj)] at e2
    obtain ⟨u2, r2, q⟩ := hl j y w' e1 e2 e3
    refine ⟨u2, r2, ?_⟩
    rcases q with ⟨k, e⟩ | ⟨k, c, e, z⟩
    · refine .inl ⟨k, ?_⟩
      have hy : y ≠ n := fun z => hj (nodup_ix hN e1 (z ▸ hi))
      show (if y = n then u' else m y) = some u2
      rw [if_neg hy]
      exact e
    · exact .inr ⟨k, c, e, z.sameBut hs (I.cne y c e)⟩
  · obtain ⟨w', z⟩ := I.cell y c e
    exact ⟨w', z.sameBut hs (I.cne y c e)⟩
  · obtain ⟨e, nn, ne, nf, dd⟩ := I.pin p hp
    exact ⟨(hs.2 p.1 ne).trans e, nn, ne, nf, dd⟩
  · refine (I.hok b ob e).stay (fun c w' hc q => (hs.2 c ?_).trans q) (fun _ q => q) fun _ _ q => q
    rintro rfl
    rcases hc with rfl | hc
    · rw [I.free] at e; cases e
    · rw [I.free] at hc; cases hc
end
abbrev TH := Ends → St → Hp → Addr → Addr → Prop
def PH (X : Cx) (hs : List ExceptHandler) (t : TH) : Prop := ∀ (pins : List (Addr × Obj)) (s : Shared) (σ : St) (H : Hp) (D : Ends) (ea C : Addr) (d : Option Addr), Inv X pins σ H s → H ea = some (XC ea C d) → TrI X pins H ea s.heap → t D σ H C ea →
  wpAny (model X.prog X.w) X.A (handleBy (.ref ea) X.env hs) (SP X pins D) X.xe s
def tNoH : TH := fun _ _ _ _ _ => False
def Ends.less (D : Ends) (i : Nat) : Ends := { nx := fun σ H => D.nx (σ.set i none) H, rt := D.rt, bk := fun σ H => D.bk (σ.set i none) H, ct := fun σ H => D.ct (σ.set i none) H }
def tAs (K : PySem.W.Frag) (B : Addr) (i : Nat) (ts : TS) (tr : TH) : TH := fun D σ H C ea => PySem.W.excMk K C = true ∧ PySem.W.excMk K B = true ∧ ∃ b, PySem.W.mroHas K C (.ref B) = b ∧ if b = true then ts (D.less i) (σ.set i (some (.ref ea))) H else tr D σ H C ea
def tTry (tb : (St → XK) → TS) (th : TH) : TS := fun D σ H => tb (fun σ' c oa H' => ∃ C ea, c = .ref C ∧ oa = some ea ∧ th D σ' H' C ea) D σ H
section
variable {X : Cx}
theorem ph_nil : PH X [] tNoH := fun _ _ _ _ _ _ _ _ _ _ _ h => h.elim
theorem ph_as {x n : Str} {B : Addr} {i : Nat} {b₀ : Stmt} {suite : List Stmt} {ts : TS} {tr : TH} {np hpos : Pos} {rest : List ExceptHandler} (hg : Gl X x) (hm : X.mg x = some (.ref B)) (hN : X.N.Nodup) (hi : X.N[i]? = some n) (hl : X.env.scope.names.lookup n = some .local)
    (hs : ∀ ea, PSs (X.caught ea) (b₀ :: suite) ts) (hr : PH X rest tr) (hd : (x == ("__debug__" : Str)) = false := by decide) : PH X (.ExceptHandler (some (.Name x np)) (some n) (b₀ :: suite) hpos :: rest) (tAs X.K B i ts tr) := by
  intro pins s σ H D ea C d I hx tr h
  obtain ⟨mC, mB, b, hb, h⟩ := h
  have I1 : Inv (X.caught ea) pins σ H s := I.caught
  refine wpAny_handleBy_cons (codeAny_handlers_test (ld_glob I1 hg hm ?_ hd)) (by intro q; cases q)
  obtain ⟨vs, sl, g1⟩ := x_get I.hok (.inr hx)
  refine PySem.W.exc_match (K := X.K) I.kIn mC mB g1 rfl ?_
  rw [hb]
  cases b with
  | false => exact hr pins s σ H D ea C d I hx tr h
  | true =>
    show codeAny _ _ _ _ _
    refine (codeAny_handlers_suite_as ?_)
    obtain ⟨cl, d', vs', sl', T, g1', g2, ⟨nT, oT, ts', gT, dT, h3⟩, g4, g5, g6, g7, g8⟩ := tr
    rw [g1] at g1'
    cases g1'
    unfold setFlight
    refine wpAny_bind (wpAny_field g1 rfl g2 ?_)
    rw [if_pos (by simp)]
    refine wpAny_setField gT dT (Array.getElem?_eq_some_iff.mp h3).1 ?_
    have I2 : Inv (X.caught ea) pins σ H { s with heap := s.heap.update T (Obj.mapFields (·.setIfInBounds 3 ((none : Option Addr).elim Value.none fun f => rawInt f))), toks := s.toks } :=
      I1.turned (it := T) (fun b o hb q => by rw [Heap.get?_update_other _ _ (Ne.symm hb)]; exact q) g5 g6 (.inr g4) g7 g8
    refine store_ok (X := X.caught ea) I2 hN hi (.inl hl) (v := .ref ea) rfl (fun s3 I3 => ?_) (.inr hl)
    refine wpAny_mono (hs ea pins s3 _ H (D.less i) I3 h) (fun f s4 q => ?_) fun _ _ z => False.elim z
    have fin : ∀ {σ' : St} {H' : Hp} {Q : Shared → Prop}, Inv (X.caught ea) pins σ' H' s4 → (∀ s5, Inv X pins (σ'.set i none) H' s5 → Q s5) → wpAny (model X.prog X.w) X.A (do bindName X.env n .none; unbindBehindTheSuite X.env n hpos) (fun _ s5 => Q s5) X.xe s4 := fun {σ' H' Q} J k => by
      have J' := J.uncaught I.ok
      refine wpAny_bind (wpAny_bindName (store_ok J' hN hi (.inl hl) (v := .non) rfl (fun s5 I5 => ?_) (.inr hl)))
      unfold unbindBehindTheSuite
      refine wpAny_onRaise (unbind_ok I5 hN hi hl (List.getElem?_set_self (by rw [J'.len]; exact (List.getElem?_eq_some_iff.mp hi).1)) fun s6 I6 => k s6 ?_)
      rwa [List.set_set] at I6
    cases f with
    | next => obtain ⟨σ', H', J, q⟩ := q; exact fin (Q := fun s5 => SP X pins D .next s5) J fun s5 I5 => ⟨_, H', I5, q⟩
    | brk => obtain ⟨σ', H', J, q⟩ := q; exact fin (Q := fun s5 => SP X pins D .brk s5) J fun s5 I5 => ⟨_, H', I5, q⟩
    | cont => obtain ⟨σ', H', J, q⟩ := q; exact fin (Q := fun s5 => SP X pins D .cont s5) J fun s5 I5 => ⟨_, H', I5, q⟩
    | ret u => obtain ⟨v, σ', H', J, r, q⟩ := q; exact fin (Q := fun s5 => SP X pins D (.ret u) s5) J fun s5 I5 => ⟨v, _, H', I5, r, q⟩
theorem ps_try {body : List Stmt} {h₀ : ExceptHandler} {hs : List ExceptHandler} {pos : Pos} {tb : (St → XK) → TS} {th : TH} (t : Top X)
    (hb : ∀ (ps : List (Addr × Obj)) (xe : Value → Shared → Prop) (G : St → XK), PassesS (X.inTry ps xe) G → PassesOwn (model X.prog X.w) X.A X.env xe → PSs (X.inTry ps xe) body (tb G))
    (hh : PH X (h₀ :: hs) th) : PS X (.Try body (h₀ :: hs) [] [] pos) (tTry tb th) := by
  intro pins s σ H D I h
  have o := I.ok
  refine wpAny_Try_except (thn (hb pins _ _ ?_ PassesOwn.looking [] s σ H D I.inTry h) fun f s1 q => ?_)
  · intro ps2 σ2 H2 s2 e s3 I2 c
    obtain ⟨ea, C, d, H3, rfl, I3, hx, tr, C', ea', e1, e2, q⟩ := I2.flew c
    cases e1
    cases e2
    have tr' : TrI X pins H3 ea s3.heap := let ⟨a1, a2, a3, a4, a5, b1, b2, b3, b4, b5, b6, b7, b8⟩ := tr; ⟨a1, a2, a3, a4, a5, b1, b2, b3, b4, b5, b6, b7, fun p hp => b8 p (List.mem_append_left _ hp)⟩
    exact note_flew t (I3.outTry o) hx tr' fun s4 I4 t4 => hh pins s4 σ2 H3 D ea C d I4 hx t4 q
  · have q' := q.outTry o
    cases f with
    | next => exact wpAny_execs_nil q'
    | brk => exact q'
    | cont => exact q'
    | ret u => exact q'
end
end L2
namespace L2
open PySem PyProof.Rows PySem.Spec PySem.Calls
def XG (H : Hp) (e C : Addr) (fs : List (Str × V)) : Prop := ∃ dx, IsX H e C (some dx) ∧ H dx = some (XD dx fs) ∧ dx ≠ e
theorem XF.g {H : Hp} {e C : Addr} {fs : List (Str × V)} (x : XF H e C fs) : XG H e C fs := let ⟨d, a, b, c⟩ := x; ⟨d, .inl a, b, c⟩
theorem XG.keep {H H' : Hp} {e C : Addr} {fs : List (Str × V)} (x : XG H e C fs) (k : Same H H') : XG H' e C fs := by
  obtain ⟨d, a, b, c⟩ := x
  rcases a with a | a
  · exact ⟨d, .inl (k _ _ a), k _ _ b, c⟩
  · exact ⟨d, .inr (k _ _ a), k _ _ b, c⟩
theorem XF.raised {H : Hp} {e C : Addr} {fs : List (Str × V)} (x : XF H e C fs) : ∃ dx, H e = some (XO e C (some dx)) ∧ XG (L2.upd H e (XC e C (some dx))) e C fs :=
  let ⟨d, a, b, c⟩ := x
  ⟨d, a, d, .inr upd_same, by rw [upd_ne c]; exact b, c⟩
def rIsO (K : PySem.W.Frag) : List V → Hp → VK → Prop := fun xs H Q => ∃ x c t b, xs = [x, c] ∧ TyOf K H x t ∧ (∀ u, RelV c u → u = clV c) ∧ PySem.W.kitOne K t (clV c) = some b ∧ Q (.bl b) H
def rIsG (K : PySem.W.Frag) : List V → Hp → VK → Prop := fun xs H Q => ∃ a C fs c b, xs = [.ref a, c] ∧ XG H a C fs ∧ ClsI K C ∧ (∀ u, RelV c u → u = clV c) ∧ PySem.W.kitOne K (.ref C) (clV c) = some b ∧ Q (.bl b) H
def rIsGT (K : PySem.W.Frag) : List V → Hp → VK → Prop := fun xs H Q => ∃ a C fs tp cs b, xs = [.ref a, .ref tp] ∧ XG H a C fs ∧ ClsI K C ∧ H tp = some (.tup cs) ∧ (∀ c ∈ cs, ∀ u, RelV c u → u = clV c) ∧ PySem.W.kitAny K (.ref C) (cs.map clV) = some b ∧ Q (.bl b) H
def tFldG (K : PySem.W.Frag) (ta : TE) (f : Str) : TE := fun σ H Q => ta σ H fun x H1 => ∃ a C fs v, x = .ref a ∧ XG H1 a C fs ∧ ClsX K C ∧ NoAttr K C f ∧ fs.lookup f = some v ∧ Q v H1
theorem vals_cl {cs : List V} {us : List Value} (r : Vals cs us) (h : ∀ c ∈ cs, ∀ u, RelV c u → u = clV c) : us = cs.map clV := by
  induction r with
  | nil => rfl
  | cons r _ ih =>
    rw [List.map_cons, h _ (List.mem_cons_self) _ r, ih fun c hc => h c (List.mem_cons_of_mem _ hc)]
theorem kitAny_no {K : PySem.W.Frag} {t : Value} : ∀ {l : List Value}, (∀ c ∈ l, PySem.W.kitOne K t c = some false) → PySem.W.kitAny K t l = some false
  | [], _ => rfl
  | c :: r, h => by
    unfold PySem.W.kitAny
    rw [h c List.mem_cons_self]
    exact kitAny_no fun d hd => h d (List.mem_cons_of_mem _ hd)
section
variable {X : Cx} {e o : Expr} {es : List Expr} {f x : Str} {p pos apos : Pos} {ta : TE} {t : TA} {k : Nat} {ps : List Str} {sp : Sp}
theorem call_isG : CallR X (.builtin "isinstance") (rIsG X.K) := by
  intro pins s σ H xs us Q I r h
  obtain ⟨a, C, fs, c, b, rfl, ⟨dx, ea, ed, _⟩, cl, hc, e, q⟩ := h
  obtain ⟨u, w', rfl, r1, r2⟩ := vals2 r
  cases (show u = Value.ref a from r1)
  cases hc _ r2
  obtain ⟨vs, sl, hx⟩ := x_get I.hok ea
  obtain ⟨_, mA, hn, _, _⟩ := xd_get I.hok ed
  obtain ⟨od, ho, _⟩ := lookIn_ns hn
  exact PySem.W.kia_one (PySem.W.kitx_X (ox := ⟨.ref C, some dx, .fields vs, sl⟩) (od := od) (cl.c.at cl.ca cl.cn cl.ct)) I.kIn ⟨hx, rfl, rfl, ho⟩ e (fun z => nomatch z) fun tk => ⟨.bl b, H, I.tok tk, rfl, q⟩
theorem call_isGT : CallR X (.builtin "isinstance") (rIsGT X.K) := by
  intro pins s σ H xs us Q I r h
  obtain ⟨a, C, fs, tp, cs, b, rfl, ⟨dx, ea, ed, _⟩, cl, ht, hc, e, q⟩ := h
  obtain ⟨u, w', rfl, r1, r2⟩ := vals2 r
  cases (show u = Value.ref a from r1)
  cases (show w' = Value.ref tp from r2)
  obtain ⟨vs, sl, hx⟩ := x_get I.hok ea
  obtain ⟨_, mA, hn, _, _⟩ := xd_get I.hok ed
  obtain ⟨od, ho, _⟩ := lookIn_ns hn
  obtain ⟨_, its, rv, ob, h1, h2, n, h3⟩ := (show ObjOk X.prog X.w H s.heap tp (.tup cs) from I.hok tp _ ht)
  obtain ⟨c0, d0, da, sl0⟩ := ob
  cases h2
  cases h3
  rw [← vals_cl rv hc] at e
  exact PySem.W.kia_tup (PySem.W.kitx_X (ox := ⟨.ref C, some dx, .fields vs, sl⟩) (od := od) (cl.c.at cl.ca cl.cn cl.ct)) I.kIn ⟨hx, rfl, rfl, ho⟩ h1 e (fun z => nomatch z) fun tk => ⟨.bl b, H, I.tok tk, rfl, q⟩
theorem pe_fldG (he : PE X e ta) (hb : attributeBase e f X.env (eval e X.env) = eval e X.env) : PE X (.Attribute e f pos) (tFldG X.K ta f) := by
  intro pins s σ H Q I h
  refine attr_of hb (thn (he pins s σ H _ I h) fun u s1 ⟨x, H1, I1, rx, a, C, fs, v, ex, ⟨dx, ea, ed, _⟩, c, n, l, q⟩ => ?_)
  subst ex
  obtain rfl : u = Value.ref a := rx
  exact getX_ok I1 ea ed c n l fun u' s2 I2 ru => ⟨v, H1, I2, ru, q⟩
structure InO (K : PySem.W.Frag) (B f : Addr) : Prop where
  sp : PySem.W.specialIn K (.ref B) "__getattribute__" = some (some (.builtin "type.__getattribute__"))
  rd : PySem.W.readsIn K B (.type "type") = true
  fc : PySem.W.findCls K (.ref B) (.type "type") "__init__" = some (.val (.ref f))
structure InD (P : Program) (w : World) (K : PySem.W.Frag) (mg : Str → Option Value) (base : Heap) (k : Nat) (x : Str) (B : Addr) (ps : List Str) (sp : Sp) : Prop where
  ex : ∃ f fd, InO K B f ∧ FnOk P w K mg base CX0 k f fd ps sp ∧ Binds K fd ps [] ∧ PySem.W.keepIn K (.ref f) = true ∧ mg x = some (.ref B)
end
section
variable {P : Program} {w : World} {K : PySem.W.Frag} {mg : Str → Option Value} {base : Heap} {j k : Nat} {x m : Str} {C : Addr} {ps : List Str} {sp : Sp}
theorem MtE.mono (D : MtE P w K mg base j m C ps sp) (h : j ≤ k) : MtE P w K mg base k m C ps sp := let ⟨f, fd, a, b, c⟩ := D.ex; ⟨f, fd, a, b.mono h, c⟩
theorem DfE.mono (D : DfE P w K mg base j x ps sp) (h : j ≤ k) : DfE P w K mg base k x ps sp := let ⟨f, fd, a, b⟩ := D.ex; ⟨f, fd, a.mono h, b⟩
end
end L2
namespace L2
open PySem PyProof.Rows PySem.Spec PySem.Calls
structure OwnTy (K : PySem.W.Frag) (C : Addr) : Prop where
  ha : PySem.W.findIn K (.ref C) "__class__" = some (some (.builtin "object.__class__"))
  hn : PySem.W.specialIn K (.builtin "object.__class__") "__get__" = some (some (.builtin "getset_descriptor.__get__"))
  tk : PySem.W.takesIn K (.builtin "object.__class__") = some true
  hm : PySem.W.mroIn K C (.type "object") = some true
theorem OwnTy.ty {K : PySem.W.Frag} {C a dx : Addr} {H : Hp} {fs : List (Str × V)} (o : OwnTy K C) (cl : Cls K C) (e : H a = some (.ins C dx fs)) : TyOf K H (.ref a) (.ref C) := .ins e cl o.ha o.hn o.tk o.hm
theorem top_nox {CX : CXT} {P : Program} {w : World} {K : PySem.W.Frag} {mg : Str → Option Value} {base : Heap} {N : List Str} {qual : Str} {scope : Scope} {f : Addr} {cd : Value} {A : Around} {outer : List Env} {s : Shared} {H : Hp} {E : XK} :
    Top (cxOf CX P w K mg base N qual scope f cd A outer s H E).nox := ⟨rfl, rfl, rfl⟩
end L2
namespace L2
open PySem PyProof.Rows PySem.Spec PySem.Calls
section
variable {X : Cx} {P : Program} {w : World} {K : PySem.W.Frag} {mg : Str → Option Value} {base : Heap} {G : St → XK} {m : Str} {pos apos : Pos} {e o : Expr} {es : List Expr} {ta : TE} {t : TA}
end
end L2
namespace L2
open PySem PyProof.Rows PySem.Spec PySem.Calls
section
variable {X : Cx} {K : PySem.W.Frag} {e : Expr} {f : Str} {pos : Pos} {ta : TE}
theorem call_isGK (h : X.K = K) : CallR X (.builtin "isinstance") (rIsG K) := h ▸ call_isG
theorem call_isGTK (h : X.K = K) : CallR X (.builtin "isinstance") (rIsGT K) := h ▸ call_isGT
theorem pe_fldGK (h : X.K = K) (he : PE X e ta) (hb : attributeBase e f X.env (eval e X.env) = eval e X.env) : PE X (.Attribute e f pos) (tFldG K ta f) := by
  subst h
  exact pe_fldG he hb
end
end L2
namespace L2
open PySem PySem.Spec PyProof.Rows
def Its (lo d : Int) (n : Nat) : It := ⟨fun i _ => i < n, fun i H x H' => H' = H ∧ x = .int (lo + i * d), fun i _ => n ≤ i⟩
section
variable {X : Cx} {tg : Expr}
def iRng3 (ta : TA) : TI := fun σ H R => ta σ H fun vs H1 => ∃ i j d : Int, vs = [.int i, .int j, .int d] ∧ (-(2 ^ 60) ≤ i ∧ i < 2 ^ 60 ∧ -(2 ^ 60) ≤ j ∧ j < 2 ^ 60 ∧ 0 < d ∧ d < 2 ^ 29) ∧ R (Its i d (if i < j then (j - i - 1) / d + 1 else 0).toNat) H1
end
end L2
namespace L2
open PySem PySem.Spec PyProof.Rows
def New (H H' : Hp) (G : Hp → Prop) : Prop := ∃ S : Addr → Prop, (∀ b, S b → H b = none ∧ ∃ o, H' b = some o) ∧ ∀ H3, (∀ b, S b → H3 b = H' b) → G H3
end L2
namespace L2
open PySem PySem.Spec PyProof.Rows
def ofVal : Value → V
  | .bool b => .bl b
  | .int i _ => .int i
  | .str x _ => .str x
  | .bytes b _ => .byt b
  | .float b _ => .flt b
  | .ref a => .ref a
  | .type n => .ty n
  | _ => .non
def rIndex : V → List V → Hp → VK → Prop := fun x vs H Q => ∃ l xs y j, x = .ref l ∧ vs = [y] ∧ H l = some (.lst xs) ∧ xs.all flatV = true ∧ flatV y = true ∧ xs.length ≤ 1000 ∧ j < xs.length ∧ eqV (xs.getD j .non) y = true ∧ (∀ m, m < j → eqV (xs.getD m .non) y = false) ∧ Q (.int (j : Nat)) H
end L2
namespace L2
open PySem PyProof.Rows PySem.Spec PySem.Calls
def rDq (K : PySem.W.Frag) (n : Nat) (b : Bool) : R2 := fun x y H Q => ∃ a c xs ys, x = .ref a ∧ y = .ref c ∧ ((SqL K H a xs ∧ SqL K H c ys) ∨ (SqT K H a xs ∧ SqT K H c ys)) ∧ xs.length = ys.length ∧ (∀ j, j < xs.length → Deq K H n (xs.getD j .non) (ys.getD j .non)) ∧ Q (.bl b) H
end L2
namespace L2
open PySem PyProof.Rows PySem.Spec PySem.Calls
end L2
namespace L2
open PySem PyProof.Rows PySem.Spec PySem.Calls
def inSt2 (frees : List (Str × Nat)) (σ : St) (x y : Option V) : St := x :: y :: frees.map fun p => (σ[p.2]?).join
def CompB2 (K : PySem.W.Frag) (J : It) (tc : TT) (te : TE) (σf : Option V → Option V → St) (H1 : Hp) (Q : VK) : Prop := ∀ D, H1 D = none →
  ∃ W : Nat → Nat → List V → Hp → Prop, (∃ m, W 0 m [] (upd H1 D (.lst []))) ∧ ∀ i m ys H2, W i m ys H2 → H2 D = some (.lst ys) ∧
    ((J.stop i H2 ∧ Q (.ref D) H2) ∨ (J.go i H2 ∧ ys.length < sizeLine ∧ ∀ z H3, J.yld i H2 z H3 → ∃ a x x2, z = .ref a ∧ SqT K H3 a [x, x2] ∧ tc (σf (some x) (some x2)) H3 fun b H4 =>
      if b = true then te (σf (some x) (some x2)) H4 fun y H5 => H5 D = some (.lst ys) ∧ ∃ m', m' < m ∧ W (i + 1) m' (ys ++ [y]) (upd H5 D (.lst (ys ++ [y]))) else ∃ m', m' < m ∧ W (i + 1) m' ys H4))
section
variable {X : Cx} {elt iter : Expr} {x x2 : Str} {px px2 tp pos : Pos} {kk : Nat} {ifs : List Expr} {scope : Scope} {frees : List (Str × Nat)} {tc : TT} {te : TE}
structure CompOk2 (X : Cx) (scope : Scope) (x x2 : Str) (frees : List (Str × Nat)) : Prop where
  cell : ∀ y ∈ scope.names, y.2 ≠ .cell
  kind : scope.kind = .function
  own : scope.names.lookup x = some .local
  own2 : scope.names.lookup x2 = some .local
  names : ∀ y ∈ scope.names, y.2 = .local → scope.names.lookup y.1 = some .local
  fr : FreesOk X scope frees
  nd : (x :: x2 :: frees.map (·.1)).Nodup
  cl : ∀ p ∈ scope.names, p.2 = .free → (X.env.cells.lookup p.1).isSome = true
  calm : X.calm = true
def tComp2 (K : PySem.W.Frag) (frees : List (Str × Nat)) (tc : TT) (te : TE) (wi : TI) : TE := fun σ H Q => wi σ H fun J H1 => CompB2 K J tc te (inSt2 frees σ) H1 Q
end
end L2
namespace L2
open PySem PySem.Spec PyProof.Rows
def rngV (i : Int) (n : Nat) : List V := (List.range n).map fun k => V.int (i + (k : Nat))
section
variable {X : Cx}
def tListRange (ta : TA) : TE := fun σ H Q => ta σ H fun vs H1 => ∃ i j : Int, vs = [.int i, .int j] ∧ (-(2 ^ 62) ≤ i ∧ i < 2 ^ 62 ∧ -(2 ^ 62) ≤ j ∧ j < 2 ^ 62) ∧ (j - i).toNat ≤ sizeLine ∧ (j - i).toNat ≤ 2 ^ 24 ∧ ∀ l, H1 l = none → Q (.ref l) (upd H1 l (.lst (rngV i (j - i).toNat)))
end
end L2
namespace L2
open PySem PySem.Spec PyProof.Rows
def rListOf (K : PySem.W.Frag) : List V → Hp → VK → Prop := fun xs H Q => ∃ p ys, xs = [.ref p] ∧ (SqL K H p ys ∨ SqT K H p ys) ∧ ∀ l, H l = none → Q (.ref l) (upd H l (.lst ys))
end L2
namespace PySem
open Sem (wp)
end PySem
namespace PySem
open Sem (wp)
section
variable {prog : Program} {w : World} {K : Type} [DecidableEq K] {knd : KeyKind prog w K} {A : Around} {R : Result → Shared → Prop}
def putAll (ps : List (K × Value)) : List (K × Value) := ps.foldl (fun acc p => stored acc p.1 p.2) []
end
end PySem
namespace L2
open PySem PySem.Spec PyProof.Rows
def rDictPairs (K : PySem.W.Frag) : List V → Hp → VK → Prop := fun xs H Q => ∃ p ts kvs, xs = [.ref p] ∧ H p = some (.lst ts) ∧ ts.length = kvs.length ∧ (∀ (i : Nat) y (q : Key × V), ts[i]? = some y → kvs[i]? = some q → ∃ t, y = .ref t ∧ SqT K H t [kV q.1, q.2]) ∧ (kvs.map (·.1)).Nodup ∧
  ∀ d, H d = none → Q (.ref d) (upd H d (.dK kvs))
def rDictOf : List V → Hp → VK → Prop := fun xs H Q => ∃ a kvs, xs = [.ref a] ∧ Rd H a (.dK kvs) ∧ ∀ d, H d = none → Q (.ref d) (upd H d (.dK kvs))
end L2
namespace L2
open PySem PyProof.Rows PySem.Spec PySem.Calls
section
variable {X : Cx}
def rGetL : V → V → Hp → VK → Prop := fun o i H Q => ∃ p xs k, o = .ref p ∧ i = .int k ∧ H p = some (.lst xs) ∧ 0 ≤ k ∧ k < ((xs.length : Nat) : Int) ∧ ∀ v, xs[k.toNat]? = some v → Q v H
def rEqT (K : PySem.W.Frag) (neg : Bool) : R2 := fun x y H Q => ∃ p q xs ys, x = .ref p ∧ y = .ref q ∧ SqT K H p xs ∧ SqT K H q ys ∧ xs.length = ys.length ∧ xs.all flatV = true ∧ ys.all flatV = true ∧ Q (.bl (if neg then !eqVs xs ys else eqVs xs ys)) H
end
end L2
namespace L2
open PySem PySem.Spec PyProof.Rows
section
variable {X : Cx}
def tPl (K : PySem.W.Frag) (B : Addr) (ts : TS) (tr : TH) : TH := fun D σ H C ea => PySem.W.excMk K C = true ∧ PySem.W.excMk K B = true ∧ ∃ b, PySem.W.mroHas K C (.ref B) = b ∧ if b = true then ts D σ H else tr D σ H C ea
end
end L2
namespace L2
open PySem PyProof.Rows PySem.Spec PySem.Calls
section
variable {X : Cx}
def rNeS (K : PySem.W.Frag) : R2 := fun x y H Q => (∃ a i xs, x = .ref a ∧ y = .str i ∧ (SqL K H a xs ∨ SqT K H a xs) ∧ Q (.bl true) H) ∨ rNe x y H Q
end
end L2
namespace L2
open PySem PySem.Spec PyProof.Rows
end L2
namespace L2
open PySem PySem.Spec PyProof.Rows
section
variable {X : Cx}
def rListDict : List V → Hp → VK → Prop := fun xs H Q => ∃ p kvs, xs = [.ref p] ∧ H p = some (.dK kvs) ∧ ∀ l, H l = none → Q (.ref l) (upd H l (.lst (kvs.map fun q => kV q.1)))
end
end L2
namespace L2
open PySem PySem.Spec PyProof.Rows
section
variable {X : Cx}
def rSortedL (K : PySem.W.Frag) : List V → Hp → VK → Prop := fun xs H Q => ∃ p ss, xs = [.ref p] ∧ SqL K H p (ss.map V.str) ∧ ss.length < 64 ∧ ∀ l ss', H l = none → List.Perm ss' ss → sortedS ss' = true → Q (.ref l) (upd H l (.lst (ss'.map V.str)))
end
end L2
namespace L2
open PySem PySem.Calls PyProof.Rows PyProof.V PySem.Spec PySem.W
end L2
namespace L2
open PySem PySem.Spec PyProof.Rows
section
variable {X : Cx}
def rCount : V → List V → Hp → VK → Prop := fun x vs H Q => ∃ l xs y, x = .ref l ∧ vs = [y] ∧ H l = some (.lst xs) ∧ xs.all flatV = true ∧ flatV y = true ∧ Q (.int ((xs.countP fun z => eqV z y : Nat) : Int)) H
def rSortedD : List V → Hp → VK → Prop := fun xs H Q => ∃ p kvs ss, xs = [.ref p] ∧ H p = some (.dK kvs) ∧ kvs.map (fun q => kV q.1) = ss.map V.str ∧ ss.length < 64 ∧ ∀ l ss', H l = none → List.Perm ss' ss → sortedS ss' = true → Q (.ref l) (upd H l (.lst (ss'.map V.str)))
end
end L2
namespace L2
open PySem PySem.Spec PyProof.Rows
section
variable {X : Cx}
def rSIndex : V → List V → Hp → VK → Prop := fun x vs H Q => ∃ z y i rest, x = .str z ∧ vs = [.str y] ∧ Builtin.Str.occurrences z y 0 z.length 1 = i :: rest ∧ Q (.int ((i : Nat) : Int)) H
end
end L2
namespace L2
open PySem PyProof.Rows PySem.Spec PySem.Calls
section
variable {X : Cx}
def rSetD : V → List V → Hp → VK → Prop := fun x vs H Q => ∃ d kvs k y, x = .ref d ∧ vs = [kV k, y] ∧ H d = some (.dK kvs) ∧ kvs.length < 1000 ∧ (∀ u, valV kvs k = some u → Q u H) ∧ (valV kvs k = none → Q y (upd H d (.dK (kvs ++ [(k, y)]))))
def hasD (kb : List (Key × V)) (p : Key × V) : Bool := match valV kb p.1 with
  | some y => eqV p.2 y
  | none => false
def eqD (ka kb : List (Key × V)) : Bool := ka.length == kb.length && ka.all (hasD kb)
def rEqDk (neg : Bool) : R2 := fun x y H Q => ∃ a b ka kb, x = .ref a ∧ y = .ref b ∧ H a = some (.dK ka) ∧ H b = some (.dK kb) ∧ (∀ p ∈ ka, flatV p.2 = true) ∧ (∀ p ∈ kb, flatV p.2 = true) ∧ Q (.bl (if neg then !eqD ka kb else eqD ka kb)) H
def pickV (xs : List V) (lo hi st : Option Int) : List V := (sliceRange (sliceBounds lo hi st xs.length).1 (sliceBounds lo hi st xs.length).2.1 (sliceBounds lo hi st xs.length).2.2).filterMap (xs[·]?)
def tSl3 (K : PySem.W.Frag) (te : TE) (tl th ts : TO) : TE := fun σ H Q => te σ H fun x H1 => tl σ H1 fun l H2 => th σ H2 fun u H3 => ts σ H3 fun c H4 => ∃ a xs, x = .ref a ∧ SqL K H4 a xs ∧ c ≠ some 0 ∧ ∀ p, H4 p = none → Q (.ref p) (upd H4 p (.lst (pickV xs l u c)))
def thirds (n : Nat) : List Nat := (List.range n).filter fun k => k % 3 == 1
end
end L2
namespace L2
open PySem PyProof.Rows PySem.Spec PySem.Calls
def KW (v d : Addr) : HO := .ext fun h => PySem.W.KdlKeysView h v d
def VW (v d : Addr) : HO := .ext fun h => h.IsValuesView v d
section
variable {X : Cx}
def rKeys : V → List V → Hp → VK → Prop := fun x vs H Q => ∃ d kvs, x = .ref d ∧ vs = [] ∧ H d = some (.dK kvs) ∧ ∀ v, H v = none → Q (.ref v) (upd H v (KW v d))
def rListKeys : List V → Hp → VK → Prop := fun xs H Q => ∃ v d kvs, xs = [.ref v] ∧ H v = some (KW v d) ∧ H d = some (.dK kvs) ∧ ∀ l, H l = none → Q (.ref l) (upd H l (.lst (kvs.map fun q => kV q.1)))
def rValues : V → List V → Hp → VK → Prop := fun x vs H Q => ∃ d kvs, x = .ref d ∧ vs = [] ∧ H d = some (.dK kvs) ∧ ∀ v, H v = none → Q (.ref v) (upd H v (VW v d))
def rListVals : List V → Hp → VK → Prop := fun xs H Q => ∃ v d kvs, xs = [.ref v] ∧ H v = some (VW v d) ∧ H d = some (.dK kvs) ∧ ∀ l, H l = none → Q (.ref l) (upd H l (.lst (kvs.map fun q => q.2)))
end
end L2
namespace L2
open PySem PyProof.Rows PySem.Spec PySem.Calls
def IW (v d : Addr) : HO := .ext fun h => h.IsItemsView v d
def Itm (d : Addr) (o : Obj) (kvs : List (Key × V)) : It :=
  ⟨fun i H => H d = some (.frz o (.dK kvs)) ∧ i < kvs.length, fun i H x H' => ∃ p k v, x = .ref p ∧ H p = none ∧ H' = upd H p (.tup [kV k, v]) ∧ kvs[i]? = some (k, v), fun i H => H d = some (.frz o (.dK kvs)) ∧ kvs.length = i⟩
section
variable {X : Cx} {elts : List Expr} {x1 : Nat} {tpos : Pos}
def rItems : V → List V → Hp → VK → Prop := fun x vs H Q => ∃ d o kvs, x = .ref d ∧ vs = [] ∧ H d = some (.frz o (.dK kvs)) ∧ ∀ v, H v = none → Q (.ref v) (upd H v (IW v d))
def iItems (tl : TE) : TI := fun σ H R => tl σ H fun x H1 => ∃ v d o kvs, x = .ref v ∧ H1 v = some (IW v d) ∧ H1 d = some (.frz o (.dK kvs)) ∧ R (Itm d o kvs) H1
end
end L2
namespace L2
open PySem PyProof.Rows PySem.Spec PySem.Calls
def DeqD (H : Hp) (x y : V) : Prop := (x = y ∧ flatV x = true) ∨ ∃ a b ka kb, x = .ref a ∧ y = .ref b ∧ H a = some (.dK ka) ∧ H b = some (.dK kb) ∧ (∀ p ∈ ka, flatV p.2 = true) ∧ (∀ p ∈ kb, flatV p.2 = true) ∧ eqD ka kb = true
def rTd (K : PySem.W.Frag) : R2 := fun x y H Q => ∃ a c xs ys, x = .ref a ∧ y = .ref c ∧ SqT K H a xs ∧ SqT K H c ys ∧ xs.length = ys.length ∧ (∀ j, j < xs.length → DeqD H (xs.getD j .non) (ys.getD j .non)) ∧ Q (.bl true) H
end L2
namespace L2
open PySem PyProof.Rows PySem.Spec PySem.Calls
section
variable {X : Cx}
def tItems0 (to : TE) : TE := fun σ H Q => to σ H fun x H1 => rItems x [] H1 Q
end
end L2
namespace L2
open PySem PyProof.Rows PySem.Spec PySem.Calls
def DeqB (K : PySem.W.Frag) (H : Hp) : Nat → V → V → Bool → Prop
  | 0, x, y, b => flatV x = true ∧ flatV y = true ∧ b = eqV x y
  | n + 1, x, y, b => (flatV x = true ∧ flatV y = true ∧ b = eqV x y) ∨ ∃ a c xs ys, x = .ref a ∧ y = .ref c ∧ (a = c → b = true) ∧ ((SqL K H a xs ∧ SqL K H c ys) ∨ (SqT K H a xs ∧ SqT K H c ys)) ∧ xs.length = ys.length ∧ ∃ e : Nat → Bool, (∀ j, j < xs.length → DeqB K H n (xs.getD j .non) (ys.getD j .non) (e j)) ∧ b = (List.range xs.length).all e
def rDb (K : PySem.W.Frag) (n : Nat) (neg : Bool) : R2 := fun x y H Q => ∃ a c xs ys, x = .ref a ∧ y = .ref c ∧ ((SqL K H a xs ∧ SqL K H c ys ∧ xs.length ≠ ys.length ∧ Q (.bl neg) H) ∨
  (((SqL K H a xs ∧ SqL K H c ys) ∨ (SqT K H a xs ∧ SqT K H c ys)) ∧ xs.length = ys.length ∧ ∃ e : Nat → Bool, (∀ j, j < xs.length → DeqB K H n (xs.getD j .non) (ys.getD j .non) (e j)) ∧ Q (.bl (if neg then !(List.range xs.length).all e else (List.range xs.length).all e)) H))
def rNeLd (K : PySem.W.Frag) : R2 := fun x y H Q => ∃ a c xs ys, x = .ref a ∧ y = .ref c ∧ SqL K H a xs ∧ SqL K H c ys ∧ xs.length = ys.length ∧ (∀ j, j < xs.length → Deq K H 2 (xs.getD j .non) (ys.getD j .non) ∨ DeqD H (xs.getD j .non) (ys.getD j .non)) ∧ Q (.bl false) H
end L2
namespace L2
open PySem PyProof.Rows PySem.Spec PySem.Calls
def cxLam (P : Program) (w : World) (K : PySem.W.Frag) (mg : Str → Option Value) (base : Heap) (x y : Str) (qual : Str) (scope : Scope) (f : Addr) (cd : Value) (cl : List (Str × Addr)) (A : Around) (outer : List Env) (s : Shared) (H : Hp) : Cx where
  prog := P
  w := w
  K := K
  mg := mg
  base := base
  A := A.deeper (PySem.W.envX qual scope s.heap.objs.size f cd cl)
  N := [x, y]
  s₀ := s
  H₀ := H
  env := PySem.W.envX qual scope s.heap.objs.size f cd cl
  outer := outer
  stack := PySem.W.envX qual scope s.heap.objs.size f cd cl :: outer
  ex := []
  fn := fun z => z == x
  calm := true
  pn := []
  xe := fun _ _ => False
structure LamScope (x y : Str) (scope : Scope) : Prop where
  kind : scope.kind = .function
  co : scope.isCoroutine = false
  gen : scope.isGenerator = false
  lx : scope.names.lookup x = some .local
  ly : scope.names.lookup y = some .free
  nocell : ∀ z ∈ scope.names, z.2 ≠ .cell
  one : ∀ z, scope.names.lookup z = some .free → z = y
  ne : x ≠ y
end L2
namespace L2
open PySem PyProof.Rows PySem.Spec PySem.Calls
def lexB (e lt : Nat → Bool) : List Nat → Bool
  | [] => false
  | j :: r => if e j then lexB e lt r else lt j
def ltV (x y : V) : Bool := match x, y with
  | .int i, .int j => decide (i < j)
  | .str i, .str j => decide (i.cps.toList < j.cps.toList)
  | _, _ => false
def OrdV (x y : V) : Prop := (∃ i j, x = .int i ∧ y = .int j) ∨ ∃ i j, x = .str i ∧ y = .str j
def lexV (xs ys : List V) : Bool := lexB (fun j => eqV (xs.getD j .non) (ys.getD j .non)) (fun j => ltV (xs.getD j .non) (ys.getD j .non)) (List.range xs.length)
end L2
namespace L2
open PySem PyProof.Rows PySem.Spec PySem.Calls
section
variable {X : Cx} {pins : List (Addr × Obj)} {σ : St}
structure OwnA (X : Cx) (pins : List (Addr × Obj)) (S : Addr) : Prop where
  h1 : X.s₀.heap.objs.size ≤ S
  h2 : ∀ x c, X.env.cells.lookup x = some c → c ≠ S
  h3 : ∀ p ∈ X.pn ++ pins, p.1 ≠ S
end
end L2
namespace L2
open PySem PyProof.Rows PySem.Spec PySem.Calls
def CD (c : Addr) (qual : Str) : HO := .ext fun h => h.CodeRec (.ref c) qual
def FN (f : Addr) (o : Obj) : HO := .ext fun h => h.get? f = some o
def tab1 (pos : Pos) (c : Addr) : Array Value := #[rawInt pos.line, rawInt pos.col, .ref c]
def TabAt (H : Hp) (P : Addr) (pos : Pos) (qual : Str) (c : Addr) : Prop := H P = some (.tbl (tab1 pos c)) ∧ H c = some (CD c qual)
def TabOk (H : Hp) (P : Addr) (pos : Pos) (qual : Str) : Prop := H P = some (.tbl #[]) ∨ ∃ c, TabAt H P pos qual c
def SameP (P : Addr) (H H' : Hp) : Prop := ∀ b o, b ≠ P → H b = some o → H' b = some o
theorem SameP.refl (P : Addr) (H : Hp) : SameP P H H := fun _ _ _ e => e
theorem SameP.trans {P : Addr} {H H1 H2 : Hp} (a : SameP P H H1) (b : SameP P H1 H2) : SameP P H H2 := fun x o n e => b x o n (a x o n e)
theorem Same.p {P : Addr} {H H' : Hp} (a : Same H H') : SameP P H H' := fun b o _ e => a b o e
theorem TabAt.same {H H' : Hp} {P : Addr} {pos : Pos} {qual : Str} {c : Addr} (t : TabAt H P pos qual c) (s : Same H H') : TabAt H' P pos qual c := ⟨s _ _ t.1, s _ _ t.2⟩
theorem TabOk.same {H H' : Hp} {P : Addr} {pos : Pos} {qual : Str} (t : TabOk H P pos qual) (s : Same H H') : TabOk H' P pos qual := t.imp (s _ _) fun ⟨c, z⟩ => ⟨c, z.same s⟩
def BMain (base : Heap) (mg : Str → Option Value) : Prop := ∃ bm ob, mg "__builtins__" = some (.ref bm) ∧ bm ≠ builtinsNs ∧ base.get? bm = some ob ∧ ob.cls = .type "module" ∧ ob.dict = some builtinsNs ∧ ob.data = .plain
section
variable {X : Cx} {pins : List (Addr × Obj)} {σ : St} {H : Hp} {s : Shared}
def LamO (qual : Str) (params : Arguments) (body : Expr) (scope : Scope) (clos : List (Str × Addr)) (c : Addr) (o : Obj) : Prop := ∃ pm ctv, o = PySem.W.kla_obj "<lambda>" qual params body scope clos pm c ctv
end
end L2
namespace L2
open PySem PyProof.Rows PySem.Spec PySem.Calls
theorem TabOk.is {H : Hp} {P : Addr} {pos : Pos} {qual : Str} (t : TabOk H P pos qual) : ∃ ps, H P = some (.tbl ps) := by
  rcases t with t | ⟨c, t, _⟩
  · exact ⟨_, t⟩
  · exact ⟨_, t⟩
section
variable {X : Cx}
def tLam (P : Addr) (pos : Pos) (qual : Str) (params : Arguments) (body : Expr) (scope : Scope) (clos : List (Str × Addr)) : TE := fun _ H Q => TabOk H P pos qual ∧ ∀ f o c H', SameP P H H' → H f = none → TabAt H' P pos qual c → H' f = some (FN f o) → LamO qual params body scope clos c o → Q (.ref f) H'
def tMinLam (K : PySem.W.Frag) (ta : TA) (P : Addr) (pos : Pos) (qual : Str) (tb : TE) (iy : Nat) : TE := fun σ H Q => ta σ H fun vs H1 => ∃ (l : Addr) (xs : List V) (vy : V) (key : Nat → List V), vs = [.ref l] ∧ SqL K H1 l xs ∧ 0 < xs.length ∧ σ[iy]? = some (some vy) ∧ TabOk H1 P pos qual ∧
  (∀ i j, i < xs.length → j < xs.length → (key i).length = (key j).length ∧ (key i).all flatV = true ∧ ∀ n, n < (key i).length → OrdV ((key i).getD n .non) ((key j).getD n .non)) ∧
  (∀ H2, SameP P H1 H2 → ∀ (i : Nat) x, xs[i]? = some x → tb [some x, some vy] H2 fun v H4 => ∃ p, v = .ref p ∧ Same H2 H4 ∧ H4 p = some (.tup (key i))) ∧
  ∀ H' v, SameP P H1 H' → TabOk H' P pos qual → xs[argBest (fun i j => lexV (key i) (key j)) (xs.length - 1)]? = some v → Q v H'
end
end L2
namespace L2
open PySem PySem.Spec PyProof.Rows
section
variable {P : Program} {w : World} {K : PySem.W.Frag} {mg : Str → Option Value} {base : Heap}
end
section
variable {X : Cx}
def tListRange1 (ta : TA) : TE := fun σ H Q => ta σ H fun vs H1 => ∃ j : Int, vs = [.int j] ∧ (-(2 ^ 62) ≤ j ∧ j < 2 ^ 62) ∧ j.toNat ≤ sizeLine ∧ j.toNat ≤ 2 ^ 24 ∧ ∀ l, H1 l = none → Q (.ref l) (upd H1 l (.lst (rngV 0 j.toNat)))
end
end L2
namespace L2
open PySem PySem.Spec PyProof.Rows
section
variable {X : Cx}
end
end L2
namespace L2
open PySem PyProof.Rows PySem.Spec PySem.Calls
theorem occ_stay (s sub : Str) (hi : Nat) : ∀ (l : List Nat) (a free : Nat), (forIn l ((#[a] : Array Nat), free) (StrLaws.occBody s sub hi 1)).run.fst = #[a]
  | [], _, _ => rfl
  | b :: l, a, free => by
    rw [List.forIn_cons]
    unfold StrLaws.occBody
    rw [if_neg (fun z => absurd z.1.1.1 (by simp))]
    exact occ_stay s sub hi l a free
theorem occ_hit (s sub : Str) (hi : Nat) : ∀ (pre post : List Nat) (a free : Nat), (∀ i ∈ pre, ¬ (i + sub.length ≤ hi ∧ Builtin.Str.subAt s sub i = true)) → free ≤ a → (a + sub.length ≤ hi ∧ Builtin.Str.subAt s sub a = true) → (forIn (pre ++ a :: post) ((#[] : Array Nat), free) (StrLaws.occBody s sub hi 1)).run.fst = #[a]
  | [], post, a, free, _, hf, hc => by
    rw [List.nil_append, List.forIn_cons]
    unfold StrLaws.occBody
    rw [if_pos ⟨⟨⟨by simp, hf⟩, hc.1⟩, hc.2⟩]
    exact occ_stay s sub hi post a _
  | b :: pre, post, a, free, hn, hf, hc => by
    rw [List.cons_append, List.forIn_cons]
    unfold StrLaws.occBody
    rw [if_neg (fun z => hn b (.head _) ⟨z.1.2, z.2⟩)]
    exact occ_hit s sub hi pre post a free (fun i hi' => hn i (.tail _ hi')) hf hc
theorem occ_first {z : Str} {c : Nat} {a b : List Nat} (h : z.cps.toList = a ++ c :: b) (hn : c ∉ a) : Builtin.Str.occurrences z ⟨#[c]⟩ 0 z.length 1 = [a.length] := by
  have hl : z.length = a.length + (b.length + 1) := by
    have := congrArg List.length h
    rw [List.length_append, List.length_cons, Array.length_toList] at this
    exact this
  rw [StrLaws.occ_eq]
  have e : List.range' 0 (z.length + 1 - 0) = List.range' 0 a.length ++ a.length :: List.range' (a.length + 1) (b.length + 1) := by
    rw [show z.length + 1 - 0 = a.length + (b.length + 1 + 1) by omega, ← List.range'_append_1, Nat.zero_add]
    rfl
  rw [e, occ_hit z ⟨#[c]⟩ z.length (List.range' 0 a.length) _ a.length 0 (fun i hi => ?_) (Nat.zero_le _) ((StrLaws.subAt_one z c a.length).mpr (by rw [h, List.getElem?_append_right (Nat.le_refl _), Nat.sub_self]; rfl))]
  rw [StrLaws.subAt_one, h]
  intro z
  have li : i < a.length := by
    have := List.mem_range'.mp hi
    omega
  rw [List.getElem?_append_left li] at z
  exact hn (List.mem_of_getElem? z)
theorem occ_no {z : Str} {c : Nat} (hn : c ∉ z.cps.toList) : Builtin.Str.occurrences z ⟨#[c]⟩ 0 z.length 1 = [] := by
  have := StrLaws.found_one z c
  rw [decide_eq_false hn] at this
  cases e : Builtin.Str.occurrences z ⟨#[c]⟩ 0 z.length 1 with
  | nil => rfl
  | cons i r => rw [e] at this; cases this
theorem mem_first {c : Nat} : ∀ {l : List Nat}, c ∈ l → ∃ a b, l = a ++ c :: b ∧ c ∉ a
  | x :: r, h => by
    by_cases e : x = c
    · exact ⟨[], r, by rw [e]; rfl, List.not_mem_nil⟩
    · rcases List.mem_cons.mp h with z | z
      · exact absurd z.symm e
      · obtain ⟨a, b, h1, h2⟩ := mem_first z
        exact ⟨x :: a, b, by rw [h1]; rfl, fun m => (List.mem_cons.mp m).elim (fun z => e z.symm) h2⟩
def partL (c : Nat) : List Nat → List Nat × Bool × List Nat
  | [] => ([], false, [])
  | x :: r => if x = c then ([], true, r) else (x :: (partL c r).1, (partL c r).2.1, (partL c r).2.2)
theorem partL_no {c : Nat} : ∀ {l : List Nat}, c ∉ l → partL c l = (l, false, [])
  | [], _ => rfl
  | x :: r, h => by
    show (if x = c then _ else _) = _
    rw [if_neg (fun e => h (by rw [e]; exact .head _)), partL_no (fun z => h (.tail _ z))]
theorem partL_at {c : Nat} : ∀ {a b : List Nat}, c ∉ a → partL c (a ++ c :: b) = (a, true, b)
  | [], b, _ => if_pos rfl
  | x :: a, b, h => by
    show (if x = c then _ else (x :: (partL c (a ++ c :: b)).1, (partL c (a ++ c :: b)).2.1, (partL c (a ++ c :: b)).2.2)) = _
    rw [if_neg (fun e => h (by rw [e]; exact .head _)), partL_at (fun z => h (.tail _ z))]
def partS (c : Nat) (z : Str) : Str × Str × Str := let q := partL c z.cps.toList; (⟨q.1.toArray⟩, (if q.2.1 = true then ⟨#[c]⟩ else ⟨#[]⟩), ⟨q.2.2.toArray⟩)
section
variable {X : Cx}
def rPartition : V → List V → Hp → VK → Prop := fun x vs H Q => ∃ (z : Str) (c : Nat), x = .str z ∧ vs = [.str ⟨#[c]⟩] ∧ z.length ≤ sizeLine ∧ ∀ p, H p = none → Q (.ref p) (upd H p (.tup [.str (partS c z).1, .str (partS c z).2.1, .str (partS c z).2.2]))
theorem mt_partition : MtR X "str.partition" rPartition := by
  intro pins s σ H x vs v us Q I rx rv h
  obtain ⟨z, c, rfl, rfl, hz, q⟩ := h
  obtain ⟨t, rfl⟩ := rx
  obtain ⟨u', rfl, u, rfl⟩ := rv.one
  refine call_meets PySem.F.slot_str_partition (typeIs_str _ _ _) PySem.F.entry_str_partition (PySem.F.args_str_partition_2 _ _) (meets_str_partition z ⟨#[c]⟩ t u rfl hz) ?_
  have fin : ∀ (a b d : Str) (ta tb td : Tok) (tk : Nat), partS c z = (a, b, d) → EP X pins σ Q (.ref s.heap.objs.size) { s with heap := s.heap.push { cls := .type "tuple", data := .seq [.str a ta, .str b tb, .str d td].toArray }, toks := tk } := fun a b d ta tb td tk e => by
    have q' := q _ (I.hok.fresh (Nat.le_refl _))
    rw [e] at q'
    refine ⟨.ref s.heap.objs.size, _, I.laid (t' := tk) (fun b o e => Heap.get?_push_of_some _ e) (Nat.le_refl _) ?_, rfl, q'⟩
    exact ⟨by show 3 ≤ sizeLine; decide, [.str a ta, .str b tb, .str d td], .cons ⟨_, rfl⟩ (.cons ⟨_, rfl⟩ (.cons ⟨_, rfl⟩ .nil)), ⟨_, Heap.get?_push_size _ rfl, rfl, _, rfl⟩⟩
  by_cases hc : c ∈ z.cps.toList
  · obtain ⟨a, b, e, hn⟩ : ∃ a b, z.cps.toList = a ++ c :: b ∧ c ∉ a := mem_first hc
    rw [occ_first e hn]
    have hl : z.length = a.length + (b.length + 1) := by
      have := congrArg List.length e
      rw [List.length_append, List.length_cons, Array.length_toList] at this
      exact this
    refine fin _ _ _ _ _ _ _ ?_
    unfold partS
    rw [e, partL_at hn]
    have e1 : Builtin.Str.strSub z 0 a.length = ⟨a.toArray⟩ := Blk.sg_inj (by
      show (z.cps.extract 0 a.length).toList = a
      rw [Array.toList_extract, e]
      simp)
    have e2 : Builtin.Str.strSub z (a.length + (⟨#[c]⟩ : Str).length) z.length = ⟨b.toArray⟩ := Blk.sg_inj (by
      show (z.cps.extract (a.length + 1) z.length).toList = b
      rw [Array.toList_extract, e, hl]
      simp
      exact List.take_of_length_le (by omega))
    rw [e1, e2]
    rfl
  · rw [occ_no hc]
    refine fin z ⟨#[]⟩ ⟨#[]⟩ _ _ _ _ ?_
    unfold partS
    rw [partL_no hc]
    rfl
def tChain3 (r1 r2 r3 : R2) (ta tb tc td : TE) : TE := fun σ H Q => ta σ H fun x H1 => tb σ H1 fun y H2 => r1 x y H2 fun z H3 => ∃ k, z = .bl k ∧
  (if k = true then tc σ H3 fun y2 H4 => r2 y y2 H4 fun z2 H5 => ∃ k2, z2 = .bl k2 ∧ (if k2 = true then td σ H5 fun y3 H6 => r3 y2 y3 H6 Q else Q (.bl false) H5) else Q (.bl false) H3)
theorem pt_chain3 {a b c d : Expr} {ta tb tc td : TE} {pos : Pos} {op1 op2 op3 : CmpOp} {r1 r2 r3 : R2} (h1 : OpR X (compareOp op1) r1) (h2 : OpR X (compareOp op2) r2) (h3 : OpR X (compareOp op3) r3) (ha : PE X a ta) (hb : PE X b tb) (hc : PE X c tc) (hd : PE X d td)
    (hm : lastMarks [op1, op2, op3] [b, c, d] = false := by with_unfolding_all rfl) : PT X (.Compare a [op1, op2, op3] [b, c, d] pos) (tTest (tChain3 r1 r2 r3 ta tb tc td)) := by
  intro pins s σ H Q I h
  refine isTrue_chain (thn (ha pins s σ H _ I h) fun v s1 ⟨x, H1, I1, w1, q1⟩ => test_link (thn (hb pins s1 σ H1 _ I1 q1) fun u s2 ⟨y, H2, I2, w2, q2⟩ =>
    thn (h1 pins s2 σ H2 x y v u _ I2 w1 w2 q2) fun e s3 ⟨z, H3, I3, w3, k, ek, q3⟩ => ?_)) hm
  subst ek
  cases w3
  refine wpAny_truthy_bool ?_
  cases k with
  | false =>
    obtain ⟨k', e', q'⟩ := q3
    cases e'
    exact ite_ff ⟨H3, I3, q'⟩
  | true =>
    refine ite_tt (test_link (thn (hc pins s3 σ H3 _ I3 q3) fun u2 s4 ⟨y2, H4, I4, w4, q4⟩ => thn (h2 pins s4 σ H4 y y2 u u2 _ I4 w2 w4 q4) fun e2 s5 ⟨z2, H5, I5, w5, k2, ek2, q5⟩ => ?_))
    subst ek2
    cases w5
    refine wpAny_truthy_bool ?_
    cases k2 with
    | false =>
      obtain ⟨k', e', q'⟩ := q5
      cases e'
      exact ite_ff ⟨H5, I5, q'⟩
    | true =>
      refine ite_tt (test_last (thn (hd pins s5 σ H5 _ I5 q5) fun u3 s6 ⟨y3, H6, I6, w6, q6⟩ => thn (h3 pins s6 σ H6 y2 y3 u2 u3 _ I6 w4 w6 q6) fun e3 s7 ⟨z3, H7, I7, w7, k3, ek3, q7⟩ => ?_))
      subst ek3
      cases w7
      exact wpAny_truthy_bool ⟨H7, I7, q7⟩
end
end L2
namespace My
open PySem L2
def fig : List Nat := List.range' 48 10
theorem fig_in {c : Nat} (h : c ∈ fig) : 48 ≤ c ∧ c ≤ 57 := by
  have q := List.mem_range'.mp h
  obtain ⟨i, hi, e⟩ := q
  omega
theorem find_fig : ∀ c ∈ fig, Txt.find (Str.ofString "0123456789") ⟨#[c]⟩ = (c : Int) - 48 := by decide +kernel
theorem nought_is : (Str.ofString "0") = (⟨#[48]⟩ : Str) := by decide +kernel
theorem sign_is (c : Nat) : decide (V.str ⟨#[c]⟩ = V.str (Str.ofString "0")) = decide (c = 48) := by
  refine decide_eq_decide.mpr ⟨fun e => ?_, fun e => by rw [e, nought_is]⟩
  rw [nought_is] at e
  injection e with e3
  injection e3 with e4
  have e5 := congrArg Array.toList e4
  exact (List.cons.inj e5).1
def isnum (z : Str) : Bool := decide ((1 : Int) ≤ (z.length : Nat)) && decide (((z.length : Nat) : Int) ≤ 9) && (z.cps.toList.all fun c => decide (c ∈ fig)) && (decide (z = ⟨#[48]⟩) || !decide (z.cps.toList.headD 0 = 48))
def val (z : Str) : Int := ((NumText.digitsVal z.cps.toList : Nat) : Int)
def wr (z : Str) : V := if isnum z = true then .int (val z) else .non
def inNum (z : Str) (lo hi : Int) : V := if (isnum z && decide (lo ≤ val z) && decide (val z ≤ hi)) = true then .int (val z) else .non
theorem isnum_text {z : Str} (h : isnum z = true) (hz : z.length ≤ 400) : PySem.intText? z = some (val z) := by
  unfold isnum at h
  rw [Bool.and_eq_true, Bool.and_eq_true, Bool.and_eq_true] at h
  obtain ⟨⟨⟨h1, h2⟩, h3⟩, _⟩ := h
  have h1' := of_decide_eq_true h1
  refine PySem.intText_digits (fun c hc => ?_) (fun e => ?_) (by omega)
  · exact fig_in (of_decide_eq_true ((List.all_eq_true.mp h3) c hc))
  · have : z.length = 0 := by rw [← len_toList, e]; rfl
    omega
def low : List Nat := List.range' 97 26
def good (z : Str) : Bool := decide ((1 : Int) ≤ (z.length : Nat)) && decide (((z.length : Nat) : Int) ≤ 12) && decide (z.cps.toList.headD 0 ∈ low) && z.cps.toList.all fun c => decide (c ∈ low ++ fig)
def lay (z : Str) : Bool := decide (z = Str.ofString "both") || (Txt.startswith z (Str.ofString "up:") && decide (¬ inNum (Txt.slice z (some 3) none) 2 16 = V.non))
def goods : List V := (((List.range 15).map fun i => V.int (2 + ((i : Nat) : Int))).filter fun _ => true).map fun v => match v with | .int n => V.str (Str.ofString "up:" ++ Str.ofString (toString n)) | _ => .non
def goodTexts : List Str := (List.range 15).map fun i => Str.ofString "up:" ++ Str.ofString (toString (2 + ((i : Nat) : Int)))
theorem goods_are : goods = goodTexts.map V.str := by
  unfold goods goodTexts
  rw [List.filter_eq_self.mpr (fun _ _ => rfl), List.map_map, List.map_map]
  rfl
theorem goods_flat : ([V.str (Str.ofString "both")] ++ goods).all flatV = true := by
  rw [goods_are]
  exact flat_strs (Str.ofString "both" :: goodTexts)
theorem in_strs (z : Str) : ∀ as : List Str, inV (.str z) (as.map V.str) = decide (z ∈ as)
  | [] => rfl
  | y :: r => by
    have ih := in_strs z r
    unfold inV at ih ⊢
    rw [List.map_cons, List.any_cons, ih]
    show ((y == z) || decide (z ∈ r)) = _
    by_cases e : y = z
    · subst e
      simp
    · have e' : ¬ z = y := fun q => e q.symm
      simp [e, e']
theorem goods_lay : ∀ z ∈ goodTexts, lay z = true := by decide +kernel
theorem two_digits : ∀ c ∈ fig, ∀ d ∈ fig, c ≠ 48 → 2 ≤ (NumText.digitsVal [c, d] : Nat) → (NumText.digitsVal [c, d] : Nat) ≤ 16 → (Str.ofString "up:" ++ ⟨#[c, d]⟩ : Str) ∈ goodTexts := by decide +kernel
theorem one_digit : ∀ c ∈ fig, 2 ≤ (NumText.digitsVal [c] : Nat) → (Str.ofString "up:" ++ ⟨#[c]⟩ : Str) ∈ goodTexts := by decide +kernel
theorem fold_ge : ∀ (r : List Nat) (a : Nat), a * 10 ^ r.length ≤ r.foldl (fun acc c => acc * 10 + (c - 48)) a
  | [], a => by simp
  | c :: r, a => by
    have ih := fold_ge r (a * 10 + (c - 48))
    rw [List.foldl_cons, List.length_cons, Nat.pow_succ]
    refine Nat.le_trans ?_ ih
    have e : a * (10 ^ r.length * 10) = a * 10 * 10 ^ r.length := by rw [Nat.mul_comm (10 ^ r.length) 10, Nat.mul_assoc]
    rw [e]
    exact Nat.mul_le_mul_right _ (Nat.le_add_right _ _)
theorem small_num {z : Str} (hn : isnum z = true) (h1 : (2 : Int) ≤ val z) (h2 : val z ≤ 16) : (Str.ofString "up:" ++ z : Str) ∈ goodTexts := by
  unfold isnum at hn
  rw [Bool.and_eq_true, Bool.and_eq_true, Bool.and_eq_true] at hn
  obtain ⟨⟨⟨a1, a2⟩, a3⟩, a4⟩ := hn
  have dig : ∀ c ∈ z.cps.toList, c ∈ fig := fun c hc => of_decide_eq_true ((List.all_eq_true.mp a3) c hc)
  have ez : z = ⟨z.cps.toList.toArray⟩ := Blk.sg_inj rfl
  unfold val at h1 h2
  cases e : z.cps.toList with
  | nil =>
    have : z.length = 0 := by rw [← len_toList, e]; rfl
    have := of_decide_eq_true a1
    omega
  | cons c r =>
    rw [e] at dig h1 h2 a4
    have hc := dig c List.mem_cons_self
    cases r with
    | nil =>
      rw [ez, e]
      exact one_digit c hc (by omega)
    | cons d r =>
      have c48 : c ≠ 48 := fun q => by
        rw [Bool.or_eq_true] at a4
        rcases a4 with a4 | a4
        · have := congrArg (fun x : Str => x.cps.toList) (of_decide_eq_true a4)
          dsimp only at this
          rw [e] at this
          cases this
        · have := Bool.not_eq_true' _ |>.mp a4
          have := of_decide_eq_false this
          exact this q
      have cr := fig_in hc
      cases r with
      | nil =>
        rw [ez, e]
        exact two_digits c hc d (dig d (List.mem_cons_of_mem _ List.mem_cons_self)) c48 (by omega) (by omega)
      | cons d2 r2 =>
        exfalso
        have g := fold_ge (d :: d2 :: r2) (0 * 10 + (c - 48))
        have e2 : (d :: d2 :: r2).length = r2.length + 2 := rfl
        have p : 1 ≤ 10 ^ r2.length := Nat.one_le_pow _ _ (by decide)
        rw [e2, Nat.pow_add] at g
        have g2 : 1 * (1 * 10 ^ 2) ≤ (0 * 10 + (c - 48)) * (10 ^ r2.length * 10 ^ 2) := Nat.mul_le_mul (by omega) (Nat.mul_le_mul_right _ p)
        have g3 : NumText.digitsVal (c :: d :: d2 :: r2) = (d :: d2 :: r2).foldl (fun acc c => acc * 10 + (c - 48)) (0 * 10 + (c - 48)) := rfl
        omega
theorem starts_is {z : Str} (h : Txt.startswith z (Str.ofString "up:") = true) : z = Str.ofString "up:" ++ Txt.slice z (some 3) none := by
  unfold Txt.startswith at h
  rw [Bool.and_eq_true] at h
  obtain ⟨h1, h2⟩ := h
  have l3 : (Str.ofString "up:").length = 3 := by decide +kernel
  have h1' : 0 + (Str.ofString "up:").length ≤ z.length := of_decide_eq_true h1
  rw [l3] at h1'
  unfold Builtin.Str.subAt at h2
  rw [l3] at h2
  have h3 : z.cps.extract 0 (0 + 3) = (Str.ofString "up:").cps := eq_of_beq h2
  have h4 : (Str.ofString "up:").cps.toList = z.cps.toList.take 3 := by
    rw [← h3]
    simp
  have hl := len_toList z
  have e := PyProof.Rows.slice_from_eq (x := z) (i := 3) (b := (z.length : Nat)) (by decide) (by omega) rfl
  refine Blk.sg_inj ?_
  rw [Blk.sg_app, e]
  show z.cps.toList = (Str.ofString "up:").cps.toList ++ ((z.cps.toList.drop (3 : Int).toNat).take (((z.length : Nat) : Int) - 3).toNat)
  rw [h4, List.take_of_length_le (l := z.cps.toList.drop (3 : Int).toNat)]
  · exact (List.take_append_drop 3 z.cps.toList).symm
  · rw [List.length_drop, hl]
    omega
theorem lay_mem (z : Str) : lay z = decide (z ∈ Str.ofString "both" :: goodTexts) := by
  by_cases m : z ∈ Str.ofString "both" :: goodTexts
  · rw [decide_eq_true m]
    rcases List.mem_cons.mp m with e | m
    · unfold lay
      rw [decide_eq_true e]
      rfl
    · exact goods_lay z m
  · rw [decide_eq_false m]
    unfold lay
    have m1 : ¬ z = Str.ofString "both" := fun e => m (by rw [e]; exact List.mem_cons_self)
    rw [decide_eq_false m1, Bool.false_or]
    cases hs : Txt.startswith z (Str.ofString "up:") with
    | false => rfl
    | true =>
      rw [Bool.true_and]
      refine decide_eq_false fun ne => m (List.mem_cons_of_mem _ ?_)
      have yes : (isnum (Txt.slice z (some 3) none) && decide ((2 : Int) ≤ val (Txt.slice z (some 3) none)) && decide (val (Txt.slice z (some 3) none) ≤ 16)) = true := by
        cases q : (isnum (Txt.slice z (some 3) none) && decide ((2 : Int) ≤ val (Txt.slice z (some 3) none)) && decide (val (Txt.slice z (some 3) none) ≤ 16)) with
        | true => rfl
        | false => exact absurd (if_neg (by rw [q]; decide)) ne
      rw [Bool.and_eq_true, Bool.and_eq_true] at yes
      rw [starts_is hs]
      exact small_num yes.1.1 (of_decide_eq_true yes.1.2) (of_decide_eq_true yes.2)
theorem lay_in (z : Str) : lay z = inV (.str z) ([V.str (Str.ofString "both")] ++ goods) := by
  rw [goods_are]
  exact (lay_mem z).trans (in_strs z (Str.ofString "both" :: goodTexts)).symm
end My
namespace My
open PySem L2
open Blk (sg sg_inj sg_app)
def Jc (c : Nat) : List (List Nat) → List Nat
  | [] => []
  | [x] => x
  | x :: y :: r => x ++ c :: Jc c (y :: r)
def Cc (c : Nat) : List Nat → List (List Nat)
  | [] => [[]]
  | d :: r => if d = c then [] :: Cc c r else match Cc c r with
    | [] => [[d]]
    | p :: ps => (d :: p) :: ps
theorem Cc_free (c : Nat) : ∀ (x : List Nat), c ∉ x → Cc c x = [x]
  | [], _ => rfl
  | d :: r, h => by
    have h1 : ¬ d = c := fun e => h (by rw [e]; exact List.mem_cons_self)
    have ih := Cc_free c r fun m => h (List.mem_cons_of_mem _ m)
    show (if d = c then _ else _) = _
    rw [if_neg h1, ih]
theorem Cc_app (c : Nat) : ∀ (x r : List Nat), c ∉ x → Cc c (x ++ c :: r) = x :: Cc c r
  | [], r, _ => by
    show (if c = c then _ else _) = _
    rw [if_pos rfl]
  | d :: x, r, h => by
    have h1 : ¬ d = c := fun e => h (by rw [e]; exact List.mem_cons_self)
    have ih := Cc_app c x r fun m => h (List.mem_cons_of_mem _ m)
    show (if d = c then _ else match Cc c (x ++ c :: r) with | [] => [[d]] | p :: ps => (d :: p) :: ps) = _
    rw [if_neg h1, ih]
theorem Cc_J (c : Nat) : ∀ (ps : List (List Nat)), ps ≠ [] → (∀ p ∈ ps, c ∉ p) → Cc c (Jc c ps) = ps
  | [], h, _ => absurd rfl h
  | [x], _, h => Cc_free c x (h x List.mem_cons_self)
  | x :: y :: r, _, h => by
    show Cc c (x ++ c :: Jc c (y :: r)) = _
    rw [Cc_app c x _ (h x List.mem_cons_self), Cc_J c (y :: r) (by intro e; cases e) fun p hp => h p (List.mem_cons_of_mem _ hp)]
theorem Jc_join (c : Nat) : ∀ ps : List Str, ps ≠ [] → sg (Str.join ⟨#[c]⟩ ps) = Jc c (ps.map sg)
  | [], h => absurd rfl h
  | [x], _ => rfl
  | x :: y :: r, _ => by
    have ih := Jc_join c (y :: r) (by intro e; cases e)
    show sg (x ++ ⟨#[c]⟩ ++ Str.join ⟨#[c]⟩ (y :: r)) = sg x ++ c :: Jc c ((y :: r).map sg)
    rw [sg_app, sg_app, ih]
    show sg x ++ [c] ++ _ = _
    rw [List.append_assoc] <;> rfl
theorem parts_one (c : Nat) {a b : List Str} (ha : a ≠ []) (hb : b ≠ []) (fa : ∀ p ∈ a, c ∉ sg p) (fb : ∀ p ∈ b, c ∉ sg p) (j : Str.join ⟨#[c]⟩ a = Str.join ⟨#[c]⟩ b) : a = b := by
  have h1 := Cc_J c (a.map sg) (by simpa using ha) (by intro p hp; obtain ⟨q, hq, rfl⟩ := List.mem_map.mp hp; exact fa q hq)
  have h2 := Cc_J c (b.map sg) (by simpa using hb) (by intro p hp; obtain ⟨q, hq, rfl⟩ := List.mem_map.mp hp; exact fb q hq)
  rw [← Jc_join c a ha, j, Jc_join c b hb, h2] at h1
  exact (Blk.map_sg_inj h1).symm
theorem split_ne (z : Str) (c : Nat) : Txt.split z ⟨#[c]⟩ ≠ [] := by
  have q := PyProof.Rows.split_pos z ⟨#[c]⟩
  intro e
  rw [e] at q
  exact absurd q (by decide)
theorem split_join (c : Nat) {ps : List Str} (h : ps ≠ []) (hf : ∀ p ∈ ps, c ∉ sg p) : Txt.split (Str.join ⟨#[c]⟩ ps) ⟨#[c]⟩ = ps :=
  parts_one c (split_ne _ c) h (fun p hp => StrLaws.split_free _ c p hp) hf (StrLaws.join_split _ ⟨#[c]⟩)
theorem txt_join (z : Str) (ws : List Str) : Txt.join z ws = Str.join z ws := StrLaws.glued_eq_join z ws
theorem sw_iff (z y : Str) : Txt.startswith z y = true ↔ ∃ n : Str, z = y ++ n := by
  unfold Txt.startswith
  rw [Bool.and_eq_true]
  constructor
  · rintro ⟨h1, h2⟩
    have h1' : 0 + y.length ≤ z.length := of_decide_eq_true h1
    unfold Builtin.Str.subAt at h2
    have h3 : z.cps.extract 0 (0 + y.length) = y.cps := eq_of_beq h2
    have h4 : sg y = (sg z).take y.length := by
      unfold Blk.sg
      rw [← h3]
      simp
    refine ⟨⟨((sg z).drop y.length).toArray⟩, sg_inj ?_⟩
    rw [sg_app, h4]
    show sg z = (sg z).take y.length ++ (sg z).drop y.length
    exact (List.take_append_drop _ _).symm
  · rintro ⟨n, rfl⟩
    have hl : (y ++ n).length = y.length + n.length := len_app y n
    refine ⟨decide_eq_true (by rw [hl]; omega), ?_⟩
    unfold Builtin.Str.subAt
    refine beq_iff_eq.mpr ?_
    apply Array.toList_inj.mp
    show ((y.cps ++ n.cps).extract 0 (0 + y.cps.size)).toList = y.cps.toList
    simp
theorem sw_app (p n : Str) : Txt.startswith (p ++ n) p = true := (sw_iff _ _).mpr ⟨n, rfl⟩
theorem sg_len (z : Str) : (sg z).length = z.length := len_toList z
theorem sw_pre {p n q : Str} (h : q.length ≤ p.length) : Txt.startswith (p ++ n) q = Txt.startswith p q := by
  rw [Bool.eq_iff_iff, sw_iff, sw_iff]
  constructor
  · rintro ⟨m, e⟩
    have e2 := congrArg sg e
    rw [sg_app, sg_app] at e2
    have e3 := congrArg (List.take (sg q).length) e2
    rw [List.take_left, List.take_append_of_le_length (by rw [sg_len, sg_len]; exact h)] at e3
    refine ⟨⟨((sg p).drop (sg q).length).toArray⟩, sg_inj ?_⟩
    rw [sg_app]
    show sg p = sg q ++ (sg p).drop (sg q).length
    conv => rhs; rw [← e3]
    rw [List.length_take, Nat.min_eq_left (by rw [sg_len, sg_len]; exact h), List.take_append_drop]
  · rintro ⟨m, rfl⟩
    exact ⟨m ++ n, sg_inj (by rw [sg_app, sg_app, sg_app, sg_app, List.append_assoc])⟩
theorem slice_pre (p n : Str) : Txt.slice (p ++ n) (some ((p.length : Nat) : Int)) none = n := by
  have hl : (p ++ n).length = p.length + n.length := len_app p n
  rw [PyProof.Rows.slice_from_eq (x := p ++ n) (i := ((p.length : Nat) : Int)) (b := (((p ++ n).length : Nat) : Int)) (by omega) (by omega) rfl]
  refine sg_inj ?_
  show ((sg (p ++ n)).drop (((p.length : Nat) : Int)).toNat).take ((((p ++ n).length : Nat) : Int) - ((p.length : Nat) : Int)).toNat = sg n
  have e1 : (((p.length : Nat) : Int)).toNat = (sg p).length := by rw [sg_len]; omega
  rw [sg_app, e1, List.drop_left]
  exact List.take_of_length_le (by rw [sg_len]; omega)
def tn (n : Int) : Str := Str.ofString (toString n)
theorem num_all : ∀ m ∈ List.range 1000, isnum (tn ((m : Nat) : Int)) = true ∧ val (tn ((m : Nat) : Int)) = ((m : Nat) : Int) := by decide +kernel
theorem num_of {n : Int} (h0 : 0 ≤ n) (h1 : n ≤ 999) : isnum (tn n) = true ∧ val (tn n) = n := by
  obtain ⟨m, rfl⟩ := Int.eq_ofNat_of_zero_le h0
  exact num_all m (List.mem_range.mpr (by omega))
theorem inNum_of {n lo hi : Int} (h0 : 0 ≤ n) (h1 : n ≤ 999) (h2 : lo ≤ n) (h3 : n ≤ hi) : inNum (tn n) lo hi = .int n := by
  obtain ⟨a, b⟩ := num_of h0 h1
  unfold inNum
  rw [a, b, decide_eq_true h2, decide_eq_true h3]
  rfl
theorem num_len {n : Int} (h0 : 0 ≤ n) (h1 : n ≤ 999) : (tn n).length ≤ 3 := PyProof.Rows.toString_length_le h0 (by decide) (by omega)
end My
namespace My
open PySem L2
open Blk (sg sg_inj sg_app)
inductive VO where
  | v (x : V) | pair (a b : Int)
  deriving DecidableEq
def non : VO := .v .non
abbrev cX : Str := Str.ofString "x"
abbrev cCol : Str := Str.ofString "colour:"
abbrev cPap : Str := Str.ofString "paper:"
abbrev cCov : Str := Str.ofString "cover:"
abbrev cAft : Str := Str.ofString "after:"
abbrev cSta : Str := Str.ofString "staple"
abbrev cLay : Str := Str.ofString "layout"
abbrev cOne : Str := Str.ofString "one"
abbrev cPla : Str := Str.ofString "plain"
abbrev cDash : Str := Str.ofString "-"
abbrev cBlank : Str := Str.ofString " "
def rst (z p : Str) : Str := Txt.slice z (some ((p.length : Nat) : Int)) none
def readCol (span : Str) (pages : Int) : VO := match Txt.split span cDash with
  | [a, b] => (match inNum a 1 pages with
    | .int f => (match inNum b f pages with
      | .int l => .pair f l
      | _ => non)
    | _ => non)
  | _ => non
def three : List Str := [cPap, cCov, cAft]
def four : List Str := [cX, cCol, cPap, cCov]
def valueOf (z : Str) (pages : Int) : VO :=
  if z = cSta then .v (.bl true) else if lay z = true then .v (.str z) else if Txt.startswith z cX = true then .v (inNum (rst z cX) 1 99) else if Txt.startswith z cCol = true then readCol (rst z cCol) pages
  else match three.find? (fun p => Txt.startswith z p && good (rst z p)) with
    | some p => .v (.str (rst z p))
    | none => non
def sortOf (z : Str) : Str := if lay z = true then cLay else (four.find? fun p => Txt.startswith z p).getD z
def readTail (pages : Int) : List Str → Nat → List (Str × VO) → Except Nat (List (Str × VO))
  | [], _, t => .ok t
  | w :: r, p, t => if valueOf w pages = non ∨ sortOf w ∈ t.map (·.1) then .error p else readTail pages r (p + 1) (t ++ [(sortOf w, valueOf w pages)])
def toldV (t : List (Str × VO)) (k : Str) : Option VO := (t.find? fun p => decide (p.1 = k)).map (·.2)
structure JF where
  name : Str
  asker : Str
  pages : Int
  copies : VO
  layout : VO
  paper : VO
  cover : VO
  colour : VO
  staple : VO
  after : List VO
def readHead (ws : List Str) : Except Nat Int :=
  if good (ws.getD 0 cBlank) = false then .error 0 else if ws.length < 2 then .error ws.length else if good (ws.getD 1 cBlank) = false then .error 1 else if ws.length < 3 then .error ws.length else
  match inNum (ws.getD 2 cBlank) 1 999 with
  | .int n => .ok n
  | _ => .error 2
def toldJob (ws : List Str) (pages : Int) (t : List (Str × VO)) : JF :=
  { name := ws.getD 0 cBlank, asker := ws.getD 1 cBlank, pages := pages, copies := (toldV t cX).getD (.v (.int 1)), layout := (toldV t cLay).getD (.v (.str cOne)), paper := (toldV t cPap).getD (.v (.str cPla)), cover := (toldV t cCov).getD non, colour := (toldV t cCol).getD non,
    staple := (toldV t cSta).getD (.v (.bl false)), after := (t.filter fun p => Txt.startswith p.1 cAft).map (·.2) }
def readJ (z : Str) : Except Nat JF := match readHead (Txt.split z cBlank) with
  | .error p => .error p
  | .ok n => match readTail n ((Txt.split z cBlank).drop 3) 3 [] with
    | .error p => .error p
    | .ok t => .ok (toldJob (Txt.split z cBlank) n t)
structure Jb where
  name : Str
  asker : Str
  pages : Int
  copies : Int
  layout : Str
  paper : Str
  cover : Option Str
  colour : Option (Int × Int)
  staple : Bool
  after : List Str
structure Jb.Ok (j : Jb) : Prop where
  name : good j.name = true
  asker : good j.asker = true
  p0 : 1 ≤ j.pages
  p1 : j.pages ≤ 999
  c0 : 1 ≤ j.copies
  c1 : j.copies ≤ 99
  lay : j.layout ∈ cOne :: Str.ofString "both" :: goodTexts
  paper : good j.paper = true
  cover : ∀ z, j.cover = some z → good z = true
  colour : ∀ a b, j.colour = some (a, b) → 1 ≤ a ∧ a ≤ b ∧ b ≤ j.pages
  after : ∀ z ∈ j.after, good z = true
  nd : j.after.Nodup
  few : j.after.length ≤ 3
def Jb.jf (j : Jb) : JF := { name := j.name, asker := j.asker, pages := j.pages, copies := .v (.int j.copies), layout := .v (.str j.layout), paper := .v (.str j.paper), cover := (match j.cover with | some z => .v (.str z) | none => non), colour := (match j.colour with | some (a, b) => .pair a b | none => non), staple := .v (.bl j.staple), after := j.after.map fun z => .v (.str z) }
def Jb.ents (j : Jb) (told : Bool) : List (Bool × Str × Str × VO) :=
  [(!decide (j.copies = 1) || told, cX ++ tn j.copies, cX, .v (.int j.copies)), (!decide (j.layout = cOne), j.layout, cLay, .v (.str j.layout)),
   (j.colour.isSome, cCol ++ tn (j.colour.getD (1, 1)).1 ++ cDash ++ tn (j.colour.getD (1, 1)).2, cCol, .pair (j.colour.getD (1, 1)).1 (j.colour.getD (1, 1)).2),
   (!decide (j.paper = cPla) || told, cPap ++ j.paper, cPap, .v (.str j.paper)), (j.cover.isSome, cCov ++ j.cover.getD cPla, cCov, .v (.str (j.cover.getD cPla))), (j.staple, cSta, cSta, .v (.bl true))]
def Jb.words (j : Jb) (told : Bool) : List Str := ((j.ents told).filter (·.1)).map (·.2.1)
def Jb.afts (j : Jb) : List Str := j.after.map fun n => cAft ++ n
theorem lay_not {p : Str} (z : Str) (h : ∀ y ∈ Str.ofString "both" :: goodTexts, Txt.startswith y p = false) (hz : Txt.startswith z p = true) : lay z = false := by
  rw [lay_mem]
  refine decide_eq_false fun m => ?_
  rw [h z m] at hz
  cases hz
theorem sta_not {p z : Str} (h : Txt.startswith cSta p = false) (hz : Txt.startswith z p = true) : ¬ z = cSta := fun e => by
  rw [e, h] at hz
  cases hz
theorem rst_app (p n : Str) : rst (p ++ n) p = n := slice_pre p n
theorem lX : ∀ y ∈ Str.ofString "both" :: goodTexts, Txt.startswith y cX = false := by decide +kernel
theorem lCol : ∀ y ∈ Str.ofString "both" :: goodTexts, Txt.startswith y cCol = false := by decide +kernel
theorem lPap : ∀ y ∈ Str.ofString "both" :: goodTexts, Txt.startswith y cPap = false := by decide +kernel
theorem lCov : ∀ y ∈ Str.ofString "both" :: goodTexts, Txt.startswith y cCov = false := by decide +kernel
theorem lAft : ∀ y ∈ Str.ofString "both" :: goodTexts, Txt.startswith y cAft = false := by decide +kernel
theorem pre_no {p n q : Str} (h : q.length ≤ p.length) (h2 : Txt.startswith p q = false) : Txt.startswith (p ++ n) q = false := by rw [sw_pre h, h2]
theorem sw_via {z q r : Str} (hq : Txt.startswith q r = true) (hz : Txt.startswith z r = false) : Txt.startswith z q = false := by
  rw [Bool.eq_false_iff]
  intro h
  obtain ⟨m, e⟩ := (sw_iff _ _).mp h
  obtain ⟨m2, e2⟩ := (sw_iff _ _).mp hq
  have : Txt.startswith z r = true := (sw_iff _ _).mpr ⟨m2 ++ m, by rw [e, e2]; exact sg_inj (by rw [sg_app, sg_app, sg_app, sg_app, List.append_assoc])⟩
  rw [hz] at this
  cases this
theorem val_x {n : Str} (pages : Int) : valueOf (cX ++ n) pages = .v (inNum n 1 99) ∧ sortOf (cX ++ n) = cX := by
  have a := sw_app cX n
  have b := lay_not _ lX a
  constructor
  · unfold valueOf
    rw [if_neg (sta_not (by decide +kernel) a), b, if_neg (by decide), if_pos a, rst_app]
  · unfold sortOf four
    rw [b, if_neg (by decide), List.find?_cons_of_pos (h := a)]
    rfl
theorem val_col {n : Str} (pages : Int) : valueOf (cCol ++ n) pages = readCol n pages ∧ sortOf (cCol ++ n) = cCol := by
  have a := sw_app cCol n
  have b := lay_not _ lCol a
  have c : Txt.startswith (cCol ++ n) cX = false := pre_no (by decide +kernel) (by decide +kernel)
  constructor
  · unfold valueOf
    rw [if_neg (sta_not (by decide +kernel) a), b, if_neg (by decide), c, if_neg (by decide), if_pos a, rst_app]
  · unfold sortOf four
    rw [b, if_neg (by decide), List.find?_cons_of_neg (h := by rw [c]; decide), List.find?_cons_of_pos (h := a)]
    rfl
theorem val_pap {n : Str} (pages : Int) (hn : good n = true) : valueOf (cPap ++ n) pages = .v (.str n) ∧ sortOf (cPap ++ n) = cPap := by
  have a := sw_app cPap n
  have b := lay_not _ lPap a
  have c : Txt.startswith (cPap ++ n) cX = false := pre_no (by decide +kernel) (by decide +kernel)
  have d : Txt.startswith (cPap ++ n) cCol = false := sw_via (r := Str.ofString "c") (by decide +kernel) (pre_no (by decide +kernel) (by decide +kernel))
  constructor
  · unfold valueOf three
    rw [if_neg (sta_not (by decide +kernel) a), b, if_neg (by decide), c, if_neg (by decide), d, if_neg (by decide), List.find?_cons_of_pos (h := by rw [a, rst_app, hn]; rfl)]
    show VO.v (.str (rst (cPap ++ n) cPap)) = _
    rw [rst_app]
  · unfold sortOf four
    rw [b, if_neg (by decide), List.find?_cons_of_neg (h := by rw [c]; decide), List.find?_cons_of_neg (h := by rw [d]; decide), List.find?_cons_of_pos (h := a)]
    rfl
theorem val_cov {n : Str} (pages : Int) (hn : good n = true) : valueOf (cCov ++ n) pages = .v (.str n) ∧ sortOf (cCov ++ n) = cCov := by
  have a := sw_app cCov n
  have b := lay_not _ lCov a
  have c : Txt.startswith (cCov ++ n) cX = false := pre_no (by decide +kernel) (by decide +kernel)
  have d : Txt.startswith (cCov ++ n) cCol = false := sw_via (r := Str.ofString "col") (by decide +kernel) (pre_no (by decide +kernel) (by decide +kernel))
  have e : Txt.startswith (cCov ++ n) cPap = false := pre_no (by decide +kernel) (by decide +kernel)
  constructor
  · unfold valueOf three
    rw [if_neg (sta_not (by decide +kernel) a), b, if_neg (by decide), c, if_neg (by decide), d, if_neg (by decide), List.find?_cons_of_neg (h := by rw [e, Bool.false_and]; decide), List.find?_cons_of_pos (h := by rw [a, rst_app, hn]; rfl)]
    show VO.v (.str (rst (cCov ++ n) cCov)) = _
    rw [rst_app]
  · unfold sortOf four
    rw [b, if_neg (by decide), List.find?_cons_of_neg (h := by rw [c]; decide), List.find?_cons_of_neg (h := by rw [d]; decide), List.find?_cons_of_neg (h := by rw [e]; decide), List.find?_cons_of_pos (h := a)]
    rfl
theorem val_aft {n : Str} (pages : Int) (hn : good n = true) : valueOf (cAft ++ n) pages = .v (.str n) ∧ sortOf (cAft ++ n) = cAft ++ n := by
  have a := sw_app cAft n
  have b := lay_not _ lAft a
  have c : Txt.startswith (cAft ++ n) cX = false := pre_no (by decide +kernel) (by decide +kernel)
  have d : Txt.startswith (cAft ++ n) cCol = false := sw_via (r := Str.ofString "c") (by decide +kernel) (pre_no (by decide +kernel) (by decide +kernel))
  have e : Txt.startswith (cAft ++ n) cPap = false := pre_no (by decide +kernel) (by decide +kernel)
  have f : Txt.startswith (cAft ++ n) cCov = false := pre_no (by decide +kernel) (by decide +kernel)
  constructor
  · unfold valueOf three
    rw [if_neg (sta_not (by decide +kernel) a), b, if_neg (by decide), c, if_neg (by decide), d, if_neg (by decide), List.find?_cons_of_neg (h := by rw [e, Bool.false_and]; decide), List.find?_cons_of_neg (h := by rw [f, Bool.false_and]; decide), List.find?_cons_of_pos (h := by rw [a, rst_app, hn]; rfl)]
    show VO.v (.str (rst (cAft ++ n) cAft)) = _
    rw [rst_app]
  · unfold sortOf four
    rw [b, if_neg (by decide), List.find?_cons_of_neg (h := by rw [c]; decide), List.find?_cons_of_neg (h := by rw [d]; decide), List.find?_cons_of_neg (h := by rw [e]; decide), List.find?_cons_of_neg (h := by rw [f]; decide)]
    rfl
theorem val_sta (pages : Int) : valueOf cSta pages = .v (.bl true) ∧ sortOf cSta = cSta := by
  constructor
  · unfold valueOf
    rw [if_pos rfl]
  · decide +kernel
theorem val_lay {z : Str} (pages : Int) (h : z ∈ Str.ofString "both" :: goodTexts) : valueOf z pages = .v (.str z) ∧ sortOf z = cLay := by
  have b : lay z = true := by rw [lay_mem, decide_eq_true h]
  have c : ¬ z = cSta := fun e => by
    rw [e] at b
    exact absurd b (by decide +kernel)
  constructor
  · unfold valueOf
    rw [if_neg c, if_pos b]
  · unfold sortOf
    rw [if_pos b]
theorem dash_is : cDash = (⟨#[45]⟩ : Str) := by decide +kernel
theorem blank_eq : cBlank = (⟨#[32]⟩ : Str) := by decide +kernel
end My
namespace My
open PySem L2
open Blk (sg sg_inj sg_app)
def sorts : List Str := [cX, cLay, cCol, cPap, cCov, cSta]
def told (pages : Int) (M : List Str) : List (Str × VO) := M.map fun w => (sortOf w, valueOf w pages)
structure Mix (ws as M : List Str) : Prop where
  perm : M.Perm (ws ++ as)
  afts : (M.filter fun w => Txt.startswith w cAft) = as
def Jb.head (j : Jb) : List Str := [j.name, j.asker, tn j.pages]
end My
namespace My
open PySem L2
open Blk (sg sg_inj sg_app)
def HoldsV (H : Hp) (x : V) : VO → Prop
  | .v y => x = y
  | .pair a b => ∃ p, x = .ref p ∧ H p = some (.tup [.int a, .int b])
theorem HoldsV.same {H H' : Hp} {x : V} {o : VO} (h : HoldsV H x o) (e : Same H H') : HoldsV H' x o := by
  cases o with
  | v y => exact h
  | pair a b => obtain ⟨p, h1, h2⟩ := h; exact ⟨p, h1, e _ _ h2⟩
theorem HoldsV.upd {H : Hp} {x : V} {o : VO} {D : Addr} {kvs : List (Key × V)} {u : HO} (h : HoldsV H x o) (hD : H D = some (.dK kvs)) : HoldsV (L2.upd H D u) x o := by
  cases o with
  | v y => exact h
  | pair a b =>
    obtain ⟨p, h1, h2⟩ := h
    exact ⟨p, h1, by rw [upd_ne (ne_of h2 hD (by intro z; cases z))]; exact h2⟩
theorem HoldsV.non_iff {H : Hp} {x : V} {o : VO} (h : HoldsV H x o) : decide (x = .non) = decide (o = non) := by
  refine decide_eq_decide.mpr ?_
  cases o with
  | v y =>
    have h' : x = y := h
    subst h'
    exact ⟨fun e => congrArg VO.v e, fun e => by injection e⟩
  | pair a b =>
    obtain ⟨p, h1, h2⟩ := h
    exact ⟨(fun e => by rw [h1] at e; cases e), (fun e => by cases e)⟩
def TR (H : Hp) (q : Key × V) (p : Str × VO) : Prop := q.1 = Sum.inr p.1 ∧ HoldsV H q.2 p.2
structure Told (H : Hp) (D : Addr) (kvs : List (Key × V)) (t : List (Str × VO)) : Prop where
  at_ : H D = some (.dK kvs)
  rel : Paired (TR H) kvs t
  nd : (t.map (·.1)).Nodup
theorem Told.look {H : Hp} {D : Addr} {kvs : List (Key × V)} {t : List (Str × VO)} (T : Told H D kvs t) (k : Str) : match valV kvs (Sum.inr k : Key), toldV t k with | some x, some o => HoldsV H x o | none, none => True | _, _ => False := by
  have key : ∀ {kvs : List (Key × V)} {t : List (Str × VO)}, Paired (TR H) kvs t → match valV kvs (Sum.inr k : Key), toldV t k with | some x, some o => HoldsV H x o | none, none => True | _, _ => False := by
    intro kvs t r
    induction r with
    | nil => trivial
    | @cons q p kvs t h r ih =>
      obtain ⟨h1, h2⟩ := h
      by_cases e : p.1 = k
      · rw [valV_pos (by rw [h1, e])]
        unfold toldV
        rw [List.find?_cons_of_pos (h := by exact decide_eq_true e)]
        exact h2
      · rw [valV_neg (by rw [h1]; intro z; injection z with z; exact e z)]
        unfold toldV
        rw [List.find?_cons_of_neg (h := by rw [decide_eq_false e]; decide)]
        exact ih
  exact key T.rel
theorem Told.some_ {H : Hp} {D : Addr} {kvs : List (Key × V)} {t : List (Str × VO)} (T : Told H D kvs t) (k : Str) {d : V} {o : VO} (hd : HoldsV H d o) : HoldsV H ((valV kvs (Sum.inr k : Key)).getD d) ((toldV t k).getD o) := by
  have q := T.look k
  cases e1 : valV kvs (Sum.inr k : Key) with
  | none =>
    cases e2 : toldV t k with
    | none => exact hd
    | some o => rw [e1, e2] at q; exact q.elim
  | some x =>
    cases e2 : toldV t k with
    | none => rw [e1, e2] at q; exact q.elim
    | some o => rw [e1, e2] at q; exact q
theorem Told.has {H : Hp} {D : Addr} {kvs : List (Key × V)} {t : List (Str × VO)} (T : Told H D kvs t) (k : Str) : (valV kvs (Sum.inr k : Key)).isSome = decide (k ∈ t.map (·.1)) := by
  have q := T.look k
  cases e2 : toldV t k with
  | none =>
    have nm : k ∉ t.map (·.1) := fun m => by
      obtain ⟨p, hp, rfl⟩ := List.mem_map.mp m
      unfold toldV at e2
      rw [Option.map_eq_none_iff] at e2
      have := List.find?_eq_none.mp e2 p hp
      exact this (decide_eq_true rfl)
    rw [decide_eq_false nm]
    cases e1 : valV kvs (Sum.inr k : Key) with
    | none => rfl
    | some x => rw [e1, e2] at q; exact q.elim
  | some o =>
    have m : k ∈ t.map (·.1) := by
      unfold toldV at e2
      obtain ⟨p, hp, _⟩ := Option.map_eq_some_iff.mp e2
      exact List.mem_map.mpr ⟨p, List.mem_of_find?_eq_some hp, by have q := List.find?_some hp; exact of_decide_eq_true q⟩
    rw [decide_eq_true m]
    cases e1 : valV kvs (Sum.inr k : Key) with
    | none => rw [e1, e2] at q; exact q.elim
    | some x => rfl
theorem Told.same {H H' : Hp} {D : Addr} {kvs : List (Key × V)} {t : List (Str × VO)} (T : Told H D kvs t) (e : Same H H') : Told H' D kvs t := ⟨e _ _ T.at_, Paired.mapP T.rel fun _ _ h => ⟨h.1, h.2.same e⟩, T.nd⟩
theorem paired_snoc {α β : Type} {R : α → β → Prop} : ∀ {xs : List α} {ys : List β} {x : α} {y : β}, Paired R xs ys → R x y → Paired R (xs ++ [x]) (ys ++ [y])
  | _, _, _, _, .nil, h => .cons h .nil
  | _, _, _, _, .cons a b, h => .cons a (paired_snoc b h)
theorem Told.put {H : Hp} {D : Addr} {kvs : List (Key × V)} {t : List (Str × VO)} (T : Told H D kvs t) {k : Str} {x : V} {o : VO} (hx : HoldsV H x o) (hn : valV kvs (Sum.inr k : Key) = none) :
    Told (upd H D (.dK (putK kvs (Sum.inr k) x))) D (kvs ++ [(Sum.inr k, x)]) (t ++ [(k, o)]) := by
  have hk : k ∉ t.map (·.1) := fun m => by
    have q := T.has k
    rw [hn, decide_eq_true m] at q
    cases q
  refine ⟨?_, ?_, by rw [List.map_append]; exact nd_snoc T.nd hk⟩
  · rw [upd_same, putK_new x hn]
  · exact paired_snoc (Paired.mapP T.rel fun _ _ h => ⟨h.1, h.2.upd T.at_⟩) ⟨rfl, hx.upd T.at_⟩
theorem Told.keys {H : Hp} {kvs : List (Key × V)} {t : List (Str × VO)} (r : Paired (TR H) kvs t) : kvs.map (·.1) = (t.map (·.1)).map Sum.inr := by
  induction r with
  | nil => rfl
  | cons h r ih => rw [List.map_cons, List.map_cons, List.map_cons, ih, h.1]
theorem val_mem : ∀ {kvs : List (Key × V)}, (kvs.map (·.1)).Nodup → ∀ q ∈ kvs, valV kvs q.1 = some q.2
  | [], _, q, h => by cases h
  | p :: r, nd, q, h => by
    obtain ⟨n1, n2⟩ := List.nodup_cons.mp (show (p.1 :: r.map (·.1)).Nodup from nd)
    rcases List.mem_cons.mp h with rfl | h
    · exact valV_pos rfl
    · rw [valV_neg fun e => n1 (by rw [e]; exact List.mem_map_of_mem (f := fun z : Key × V => z.1) h)]
      exact val_mem n2 q h
def luV (kvs : List (Key × V)) : V → V
  | .str s => (valV kvs (Sum.inr s : Key)).getD .non
  | _ => .non
def afterP : V → Bool
  | .str x => Txt.startswith x cAft
  | _ => false
theorem Told.after {H : Hp} {D : Addr} {kvs : List (Key × V)} {t : List (Str × VO)} (T : Told H D kvs t) (g : V → V) (hg : ∀ q ∈ kvs, g (kV q.1) = q.2) :
    Paired (fun a o => HoldsV H a o) (((kvs.map fun p => kV p.1).filter afterP).map g) ((t.filter fun p => Txt.startswith p.1 cAft).map (·.2)) := by
  rw [List.filter_map, List.map_map]
  have e : (kvs.filter (afterP ∘ fun p => kV p.1)).map (g ∘ fun p => kV p.1) = (kvs.filter (afterP ∘ fun p => kV p.1)).map (·.2) := List.map_congr_left fun q hq => hg q (List.mem_filter.mp hq).1
  rw [e]
  clear e hg
  have key : ∀ {kvs : List (Key × V)} {t : List (Str × VO)}, Paired (TR H) kvs t → Paired (fun a o => HoldsV H a o) ((kvs.filter (afterP ∘ fun p => kV p.1)).map (·.2)) ((t.filter fun p => Txt.startswith p.1 cAft).map (·.2)) := by
    intro kvs t r
    induction r with
    | nil => exact .nil
    | @cons q p kvs t h r ih =>
      obtain ⟨h1, h2⟩ := h
      have e1 : (afterP ∘ fun p : Key × V => kV p.1) q = Txt.startswith p.1 cAft := by
        show afterP (kV q.1) = _
        rw [h1]
        rfl
      cases hs : Txt.startswith p.1 cAft with
      | true =>
        rw [List.filter_cons_of_pos (by rw [e1, hs]), List.filter_cons_of_pos (by exact hs)]
        exact .cons h2 ih
      | false =>
        rw [List.filter_cons_of_neg (by rw [e1, hs]; decide), List.filter_cons_of_neg (by rw [hs]; decide)]
        exact ih
  exact key T.rel
theorem Told.nodup {H : Hp} {D : Addr} {kvs : List (Key × V)} {t : List (Str × VO)} (T : Told H D kvs t) : (kvs.map (·.1)).Nodup := by
  rw [Told.keys T.rel]
  exact List.Pairwise.map _ (fun a b h e => h (by injection e)) T.nd
theorem Told.len {H : Hp} {D : Addr} {kvs : List (Key × V)} {t : List (Str × VO)} (T : Told H D kvs t) : kvs.length = t.length := Paired.length T.rel
theorem split_part_le (z c : Str) (w : Str) (h : w ∈ Txt.split z c) : w.length ≤ z.length := by
  have e : (Txt.join c (Txt.split z c)).length = z.length := by rw [txt_join, StrLaws.join_split]
  have e2 : (Txt.join c (Txt.split z c)).length = ((Txt.split z c).map (·.length)).sum + ((Txt.split z c).length - 1) * c.length := PySem.size_glued c _
  have m : w.length ≤ ((Txt.split z c).map (·.length)).sum := by
    generalize Txt.split z c = l at h
    induction l with
    | nil => cases h
    | cons a r ih =>
      rw [List.map_cons, List.sum_cons]
      rcases List.mem_cons.mp h with rfl | h
      · omega
      · have := ih h
        omega
  omega
theorem inNum_cases (z : Str) (lo hi : Int) : inNum z lo hi = .non ∨ ∃ n, inNum z lo hi = .int n ∧ lo ≤ n ∧ n ≤ hi := by
  unfold inNum
  by_cases h : (isnum z && decide (lo ≤ val z) && decide (val z ≤ hi)) = true
  · rw [if_pos h]
    rw [Bool.and_eq_true, Bool.and_eq_true] at h
    exact .inr ⟨_, rfl, of_decide_eq_true h.1.2, of_decide_eq_true h.2⟩
  · rw [if_neg h]
    exact .inl rfl
def jobF (a b c d e f g h i j : V) : List (Str × V) := [("name", a), ("asker", b), ("pages", c), ("copies", d), ("layout", e), ("paper", f), ("cover", g), ("colour", h), ("staple", i), ("after", j)]
theorem putF_new {f : Str} {v : V} : ∀ {fs : List (Str × V)}, ¬ f ∈ fs.map (·.1) → putF f v fs = fs ++ [(f, v)]
  | [], _ => rfl
  | (g, u) :: r, h => by
    have h1 : ¬ g = f := fun e => h (by rw [← e]; exact List.mem_cons_self)
    show (if g = f then _ else (g, u) :: putF f v r) = _
    rw [if_neg h1, putF_new fun m => h (List.mem_cons_of_mem _ m)]
    rfl
structure JobAt (C : Addr) (H : Hp) (x : Addr) (f : JF) : Prop where
  ex : ∃ (dx pa : Addr) (d e p g h i : V) (as : List V), H x = some (.ins C dx (jobF (.str f.name) (.str f.asker) (.int f.pages) d e p g h i (.ref pa))) ∧ HoldsV H d f.copies ∧ HoldsV H e f.layout ∧ HoldsV H p f.paper ∧ HoldsV H g f.cover ∧ HoldsV H h f.colour ∧ HoldsV H i f.staple ∧
    H pa = some (.tup as) ∧ Paired (fun a o => HoldsV H a o) as f.after
theorem JobAt.same {C : Addr} {H H' : Hp} {x : Addr} {f : JF} (J : JobAt C H x f) (e : Same H H') : JobAt C H' x f := by
  obtain ⟨dx, pa, v1, v2, v3, v4, v5, v6, as, h0, h1, h2, h3, h4, h5, h6, h7, h8⟩ := J.ex
  exact ⟨dx, pa, v1, v2, v3, v4, v5, v6, as, e _ _ h0, h1.same e, h2.same e, h3.same e, h4.same e, h5.same e, h6.same e, e _ _ h7, Paired.mapP h8 fun _ _ h => h.same e⟩
theorem cut_from (xs : List V) (k : Nat) : cutV xs (some (k : Int)) none = xs.drop k := by
  unfold cutV
  rw [HT.sIx_nat, HT.sIx_none]
  by_cases h : k ≤ xs.length
  · rw [Nat.min_eq_left h]
    exact List.take_of_length_le (by rw [List.length_drop]; omega)
  · rw [Nat.min_eq_right (by omega), List.drop_of_length_le (Nat.le_refl _), List.drop_of_length_le (by omega), List.take_nil]
theorem cut_to (xs : List V) (k : Nat) : cutV xs none (some (k : Int)) = xs.take k := by
  unfold cutV
  rw [HT.sIx_nat, HT.sIx_none]
  by_cases h : k ≤ xs.length
  · rw [Nat.min_eq_left h]
    rfl
  · rw [Nat.min_eq_right (by omega), List.drop_zero, Nat.sub_zero, List.take_of_length_le (Nat.le_refl _), List.take_of_length_le (by omega)]
end My
namespace My
open PySem L2
open Blk (sg sg_inj sg_app)
def nmC (f r : Nat) (size place l : Nat) : List Nat := (f :: List.replicate (size - 1) r).set place l
def nm (f r : Nat) (size place l : Nat) : Str := ⟨(nmC f r size place l).toArray⟩
theorem nmC_len (f r : Nat) {size place l : Nat} (h : 1 ≤ size) : (nmC f r size place l).length = size := by
  unfold nmC
  rw [List.length_set, List.length_cons, List.length_replicate]
  omega
theorem nm_len (f r : Nat) {size place l : Nat} (h : 1 ≤ size) : (nm f r size place l).length = size := by
  rw [← sg_len]
  exact nmC_len f r h
theorem nm_good {f r size place l : Nat} (hf : f ∈ low) (hr : r ∈ low ++ fig) (hl : l ∈ low) (h1 : 1 ≤ size) (h2 : size ≤ 12) : good (nm f r size place l) = true := by
  have all : ∀ c ∈ nmC f r size place l, c ∈ low ++ fig := fun c hc => by
    rcases List.mem_or_eq_of_mem_set hc with h | h
    · rcases List.mem_cons.mp h with rfl | h
      · exact List.mem_append_left _ hf
      · rw [List.eq_of_mem_replicate h]; exact hr
    · rw [h]; exact List.mem_append_left _ hl
  have hd : (nmC f r size place l).headD 0 ∈ low := by
    unfold nmC
    cases place with
    | zero => exact hl
    | succ p => exact hf
  have len := nm_len f r (place := place) (l := l) h1
  unfold good
  rw [len, decide_eq_true (by omega), decide_eq_true (by omega)]
  show (true && true && decide ((nmC f r size place l).headD 0 ∈ low) && (nmC f r size place l).all fun c => decide (c ∈ low ++ fig)) = true
  rw [decide_eq_true hd, List.all_eq_true.mpr fun c hc => decide_eq_true (all c hc)]
  rfl
theorem nm_inj {f r size place l l' : Nat} (h1 : 1 ≤ size) (h2 : place < size) (e : nm f r size place l = nm f r size place l') : l = l' := by
  have e2 : nmC f r size place l = nmC f r size place l' := congrArg sg e
  have e3 : (nmC f r size place l)[place]? = (nmC f r size place l')[place]? := by rw [e2]
  unfold nmC at e3
  rw [List.getElem?_set_self (by rw [List.length_cons, List.length_replicate]; omega), List.getElem?_set_self (by rw [List.length_cons, List.length_replicate]; omega)] at e3
  exact Option.some.inj e3
def ltr (s : Nat) (j : Nat) : Nat := 97 + (s + 5 * j) % 26
theorem ltr_low (s j : Nat) : ltr s j ∈ low := by
  refine List.mem_range'.mpr ⟨(s + 5 * j) % 26, Nat.mod_lt _ (by decide), ?_⟩
  unfold ltr
  omega
theorem ltr_inj {s i j : Nat} (hi : i < 26) (hj : j < 26) (e : ltr s i = ltr s j) : i = j := by
  unfold ltr at e
  omega
def nms (f r size place s : Nat) (m : Nat) : List Str := (List.range m).map fun j => nm f r size place (ltr s j)
structure NamesOk (ns : List Str) (m : Nat) : Prop where
  len : ns.length = m
  good : ∀ z ∈ ns, good z = true
  nd : ns.Nodup
theorem nms_ok {f r size place s m : Nat} (hf : f ∈ low) (hr : r ∈ low ++ fig) (h1 : 1 ≤ size) (h2 : size ≤ 12) (h3 : place < size) (hm : m ≤ 26) : NamesOk (nms f r size place s m) m := by
  refine ⟨by unfold nms; rw [List.length_map, List.length_range], fun z hz => ?_, ?_⟩
  · obtain ⟨j, _, rfl⟩ := List.mem_map.mp hz
    exact nm_good hf hr (ltr_low s j) h1 h2
  · unfold nms
    have key : ∀ n, n ≤ 26 → ((List.range n).map fun j => nm f r size place (ltr s j)).Nodup := by
      intro n
      induction n with
      | zero => intro _; exact List.nodup_nil
      | succ n ih =>
        intro hn
        rw [List.range_succ, List.map_append]
        refine nd_snoc (ih (by omega)) fun mm => ?_
        obtain ⟨j, hj, e⟩ := List.mem_map.mp mm
        have hj' := List.mem_range.mp hj
        exact absurd (ltr_inj (by omega) (by omega) (nm_inj h1 h3 e)) (by omega)
    exact key m hm
def six : List Str := [Str.ofString "x2", Str.ofString "staple", Str.ofString "both", Str.ofString "up2", Str.ofString "plain", Str.ofString "after"]
theorem six_ok : ∀ m ∈ List.range 7, (six.take m).length = m ∧ (∀ z ∈ six.take m, good z = true) ∧ (six.take m).Nodup := by decide +kernel
theorem six_names {m : Nat} (h : m ≤ 6) : NamesOk (six.take m) m := by
  obtain ⟨a, b, c⟩ := six_ok m (List.mem_range.mpr (by omega))
  exact ⟨a, b, c⟩
def one (c : Nat) : Str := ⟨#[c]⟩
theorem join_ones (e : Str) (he : sg e = []) : ∀ cs : List Nat, sg (Str.join e (cs.map one)) = cs
  | [] => rfl
  | [c] => rfl
  | c :: d :: r => by
    have ih := join_ones e he (d :: r)
    show sg (one c ++ e ++ Str.join e ((d :: r).map one)) = c :: d :: r
    rw [sg_app, sg_app, he, ih]
    rfl
theorem join_nm (f r size place l : Nat) : Txt.join (Str.ofString "") ((nmC f r size place l).map one) = nm f r size place l := by
  rw [txt_join]
  exact sg_inj (join_ones _ (by decide +kernel) _)
theorem low_at {i c : Nat} (h : low[i]? = some c) : c = 97 + i := by
  have hi : i < 26 := by
    have := (List.getElem?_eq_some_iff.mp h).1
    unfold low at this
    rwa [List.length_range'] at this
  unfold low at h
  rw [List.getElem?_range' hi] at h
  have := Option.some.inj h
  omega
theorem lowfig_at {i c : Nat} (h : (low ++ fig)[i]? = some c) : c ∈ low ++ fig := List.mem_of_getElem? h
theorem rep_flat {α : Type} (v : α) : ∀ k : Nat, (List.replicate k [v]).flatten = List.replicate k v
  | 0 => rfl
  | k + 1 => by rw [List.replicate_succ, List.flatten_cons, rep_flat v k, List.replicate_succ]; rfl
def optV : Option Str → V
  | some z => .str z
  | none => .non
structure Due (H : Hp) (t : Addr) (j : Jb) : Prop where
  ex : ∃ (vc : V) (pa : Addr), H t = some (.tup [.str j.name, .str j.asker, .int j.pages, .int j.copies, .str j.layout, .str j.paper, optV j.cover, vc, .bl j.staple, .ref pa]) ∧ HoldsV H vc j.jf.colour ∧ H pa = some (.tup (j.after.map V.str))
theorem Due.same {H H' : Hp} {t : Addr} {j : Jb} (D : Due H t j) (e : Same H H') : Due H' t j := by
  obtain ⟨vc, pa, h1, h2, h3⟩ := D.ex
  exact ⟨vc, pa, e _ _ h1, h2.same e, e _ _ h3⟩
end My
namespace My
open PySem L2
open Blk (sg sg_inj sg_app)
theorem good_len {z : Str} (h : good z = true) : z.length ≤ 12 := by
  unfold good at h
  rw [Bool.and_eq_true, Bool.and_eq_true, Bool.and_eq_true] at h
  have := of_decide_eq_true h.1.1.2
  omega
theorem sum_le {ws : List Str} {B : Nat} (h : ∀ w ∈ ws, w.length ≤ B) : (ws.map (·.length)).sum ≤ ws.length * B := by
  induction ws with
  | nil => simp
  | cons a r ih =>
    have h1 := h a List.mem_cons_self
    have h2 := ih fun w hw => h w (List.mem_cons_of_mem _ hw)
    rw [List.map_cons, List.sum_cons, List.length_cons, Nat.succ_mul]
    omega
theorem ins_perm {α : Type} (M : List α) (i : Nat) (y : α) : (M.take i ++ y :: M.drop i).Perm (M ++ [y]) := by
  have a : (M.take i ++ y :: M.drop i).Perm (y :: (M.take i ++ M.drop i)) := List.perm_middle
  rw [List.take_append_drop] at a
  exact a.trans (List.perm_append_singleton y M).symm
structure Mid (ws as : List Str) (A : Nat) (M : List Str) : Prop where
  perm : M.Perm (ws ++ as)
  le : A ≤ M.length
  pre : ((M.take A).filter fun w => Txt.startswith w cAft) = as
  post : ((M.drop A).filter fun w => Txt.startswith w cAft) = []
theorem Mid.start {ws M : List Str} (p : M.Perm ws) (h : ∀ w ∈ ws, Txt.startswith w cAft = false) : Mid ws [] 0 M := by
  refine ⟨by rw [List.append_nil]; exact p, Nat.zero_le _, by simp, ?_⟩
  rw [List.drop_zero]
  exact List.filter_eq_nil_iff.mpr fun w hw => by rw [h w (p.mem_iff.mp hw)]; decide
theorem Mid.put {ws as M : List Str} {A B : Nat} {y : Str} (m : Mid ws as A M) (h1 : A ≤ B) (h2 : B ≤ M.length) (hy : Txt.startswith y cAft = true) : Mid ws (as ++ [y]) (B + 1) (M.take B ++ y :: M.drop B) := by
  have hl : (M.take B).length = B := by rw [List.length_take]; omega
  refine ⟨?_, ?_, ?_, ?_⟩
  · exact (ins_perm M B y).trans (by rw [← List.append_assoc]; exact m.perm.append_right [y])
  · rw [List.length_append, List.length_cons, hl, List.length_drop]
    omega
  · have e : (M.take B ++ y :: M.drop B).take (B + 1) = M.take B ++ [y] := by
      rw [List.take_append, hl, List.take_of_length_le (by omega), show B + 1 - B = 1 by omega]
      rfl
    rw [e, List.filter_append]
    have e2 : ((M.take B).filter fun w => Txt.startswith w cAft) = as := by
      have e3 : M.take B = M.take A ++ (M.drop A).take (B - A) := by
        rw [← List.take_append_drop A (M.take B), List.take_take, Nat.min_eq_left h1, List.drop_take]
      rw [e3, List.filter_append, m.pre]
      have e4 : (((M.drop A).take (B - A)).filter fun w => Txt.startswith w cAft) = [] := by
        refine List.filter_eq_nil_iff.mpr fun w hw => ?_
        exact List.filter_eq_nil_iff.mp m.post w (List.mem_of_mem_take hw)
      rw [e4, List.append_nil]
    rw [e2]
    simp [hy]
  · have e : (M.take B ++ y :: M.drop B).drop (B + 1) = M.drop B := by
      rw [List.drop_append, hl, List.drop_of_length_le (by omega), show B + 1 - B = 1 by omega]
      rfl
    rw [e]
    refine List.filter_eq_nil_iff.mpr fun w hw => ?_
    have : w ∈ M.drop A := by
      have e3 : M.drop B = (M.drop A).drop (B - A) := by rw [List.drop_drop]; congr 1; omega
      rw [e3] at hw
      exact List.mem_of_mem_drop hw
    exact List.filter_eq_nil_iff.mp m.post w this
theorem Mid.done {ws as M : List Str} {A : Nat} (m : Mid ws as A M) : Mix ws as M := by
  refine ⟨m.perm, ?_⟩
  rw [← List.take_append_drop A M, List.filter_append, m.pre, m.post, List.append_nil]
end My
namespace My
open PySem L2
def top (i : Nat) : Stmt := PySem.Challenge.pw_spoolhall_k06_lines_refused_by_place.main.body.getD i (.Pass ⟨0, 0, 0, 0⟩)
abbrev s_BadLine_init : Stmt := inClass (top 3) 0
abbrev s_words_of : Stmt := top 24
abbrev s_made_of : Stmt := top 25
abbrev s_is_name : Stmt := top 26
abbrev s_is_number : Stmt := top 27
abbrev s_number_in : Stmt := top 28
abbrev s_is_layout : Stmt := top 29
abbrev s_Job_init : Stmt := inClass (top 44) 0
abbrev s_read_job : Stmt := top 45
abbrev s_read_head : Stmt := top 46
abbrev s_value_of : Stmt := top 47
abbrev s_sort_of : Stmt := top 48
abbrev s_read_colour : Stmt := top 49
abbrev s_told_job : Stmt := top 50
abbrev s__law_cell_at : Stmt := top 52
abbrev s__law_by : Stmt := top 53
abbrev s__law_sign : Stmt := top 54
abbrev s__law_names : Stmt := top 55
abbrev s__law_values : Stmt := top 56
abbrev s__law_words : Stmt := top 57
abbrev s__law_odd : Stmt := top 58
abbrev s__law_noughts : Stmt := top 59
abbrev s__law_spoilt : Stmt := top 60
abbrev s__law_is_name : Stmt := top 61
abbrev s__law_number : Stmt := top 62
abbrev s__law_sort : Stmt := top 63
abbrev s__law_wrong : Stmt := top 64
abbrev s__law_apart : Stmt := top 65
abbrev s__law_parted : Stmt := top 66
abbrev s_law : Stmt := top 67
structure Txt (K : PySem.W.Frag) (mg : Str → Option Value) (cJob cBadLine cBusy cDry cGoesRound cNoHeap cNoPrinter cNotNow cNoWay cNowhere cOver cTooMuch cTwice cUnknown cHallError : Addr) : Prop where
  len : mg "len" = none
  range : mg "range" = none
  enumerate : mg "enumerate" = none
  str : mg "str" = none
  int : mg "int" = none
  bool : mg "bool" = none
  tuple : mg "tuple" = none
  list : mg "list" = none
  isinstance : mg "isinstance" = none
  all : mg "all" = none
  min : mg "min" = none
  ValueError : mg "ValueError" = none
  LETTERS : GS mg "LETTERS" (Str.ofString "abcdefghijklmnopqrstuvwxyz")
  FIGURES : GS mg "FIGURES" (Str.ofString "0123456789")
  NAME_MOST : GI mg "NAME_MOST" (12)
  NUMBER_MOST : GI mg "NUMBER_MOST" (9)
  UP : GS mg "UP" (Str.ofString "up:")
  UP_LEAST : GI mg "UP_LEAST" (2)
  UP_MOST : GI mg "UP_MOST" (16)
  PAGES_MOST : GI mg "PAGES_MOST" (999)
  COPIES_MOST : GI mg "COPIES_MOST" (99)
  HEAD : GI mg "HEAD" (3)
  COPIES : GS mg "COPIES" (Str.ofString "x")
  COLOUR : GS mg "COLOUR" (Str.ofString "colour:")
  PAPER : GS mg "PAPER" (Str.ofString "paper:")
  COVER : GS mg "COVER" (Str.ofString "cover:")
  AFTER : GS mg "AFTER" (Str.ofString "after:")
  STAPLE : GS mg "STAPLE" (Str.ofString "staple")
  LAYOUT : GS mg "LAYOUT" (Str.ofString "layout")
  ONE_COPY : GI mg "ONE_COPY" (1)
  ONE_LAYOUT : GS mg "ONE_LAYOUT" (Str.ofString "one")
  PLAIN : GS mg "PLAIN" (Str.ofString "plain")
  cl_Job : Cls K cJob
  mg_Job : mg "Job" = some (.ref cJob)
  n_Job_name : NoAttr K cJob "name"
  n_Job_asker : NoAttr K cJob "asker"
  n_Job_pages : NoAttr K cJob "pages"
  n_Job_copies : NoAttr K cJob "copies"
  n_Job_layout : NoAttr K cJob "layout"
  n_Job_paper : NoAttr K cJob "paper"
  n_Job_cover : NoAttr K cJob "cover"
  n_Job_colour : NoAttr K cJob "colour"
  n_Job_staple : NoAttr K cJob "staple"
  n_Job_after : NoAttr K cJob "after"
  xq_HallError : PySem.W.excMk K cHallError = true
  mh_BadLine_BadLine : PySem.W.mroHas K cBadLine (.ref cBadLine) = true
  mh_BadLine_HallError : PySem.W.mroHas K cBadLine (.ref cHallError) = true
  x_BadLine : XCl K cBadLine ["place"]
  mg_BadLine : mg "BadLine" = some (.ref cBadLine)
  x_Busy : XCl K cBusy ["job"]
  mg_Busy : mg "Busy" = some (.ref cBusy)
  x_Dry : XCl K cDry ["name"]
  mg_Dry : mg "Dry" = some (.ref cDry)
  x_GoesRound : XCl K cGoesRound ["ring"]
  mg_GoesRound : mg "GoesRound" = some (.ref cGoesRound)
  x_NoHeap : XCl K cNoHeap ["place"]
  mg_NoHeap : mg "NoHeap" = some (.ref cNoHeap)
  x_NoPrinter : XCl K cNoPrinter ["job", "lacks"]
  mg_NoPrinter : mg "NoPrinter" = some (.ref cNoPrinter)
  x_NotNow : XCl K cNotNow ["found"]
  mg_NotNow : mg "NotNow" = some (.ref cNotNow)
  x_NoWay : XCl K cNoWay ["place"]
  mg_NoWay : mg "NoWay" = some (.ref cNoWay)
  x_Nowhere : XCl K cNowhere ["job"]
  mg_Nowhere : mg "Nowhere" = some (.ref cNowhere)
  x_Over : XCl K cOver ["job"]
  mg_Over : mg "Over" = some (.ref cOver)
  x_TooMuch : XCl K cTooMuch ["name"]
  mg_TooMuch : mg "TooMuch" = some (.ref cTooMuch)
  x_Twice : XCl K cTwice ["name"]
  mg_Twice : mg "Twice" = some (.ref cTwice)
  x_Unknown : XCl K cUnknown ["name"]
  mg_Unknown : mg "Unknown" = some (.ref cUnknown)
  in_HallError : InX K cHallError
  mg_HallError : mg "HallError" = some (.ref cHallError)
  kit : kitTab K [cBadLine, cBusy, cDry, cGoesRound, cNoHeap, cNoPrinter, cNotNow, cNoWay, cNowhere, cOver, cTooMuch, cTwice, cUnknown] cHallError = true
end My
seal L2.PE L2.PS L2.PSs L2.PT L2.PW L2.PA L2.PI L2.PG L2.PGs L2.PSet L2.PIfs L2.PO L2.PK L2.CallR L2.OpR L2.IxR L2.SlR L2.UnR
namespace My
open PySem L2
open Blk (sg sg_inj sg_app)
section
variable {P : Program} {w : World} {K : PySem.W.Frag} {mg : Str → Option Value} {base : Heap}
theorem int_of {ns : List Int} {j : Nat} {v : V} (h : (ns.map V.int)[j]? = some v) : ∃ z, v = V.int z := by
  rw [List.getElem?_map] at h
  cases e : ns[j]? with
  | none => rw [e] at h; cases h
  | some z => rw [e] at h; exact ⟨z, (Option.some.inj h).symm⟩
structure Scr (K : PySem.W.Frag) (H : Hp) (a : Addr) : Prop where
  ex : ∃ ns : List Int, SqL K H a (ns.map V.int) ∧ ns.length ≤ 63
theorem Scr.same {K : PySem.W.Frag} {H H' : Hp} {a : Addr} (s : Scr K H a) (e : Same H H') : Scr K H' a := by
  obtain ⟨ns, h, l⟩ := s.ex
  exact ⟨ns, e.seq h, l⟩
def sp__law_cell_at (K : PySem.W.Frag) : Sp := fun vs H Q _ => ∃ (a : Addr) (k : Int), vs = [.ref a, .int k] ∧ Scr K H a ∧ ∀ v : Int, Q (.int v) H
def sp__law_by (K : PySem.W.Frag) : Sp := fun vs H Q _ => ∃ (a : Addr) (k m : Int), vs = [.ref a, .int k, .int m] ∧ Scr K H a ∧ -(2 ^ 62) < k ∧ k < 2 ^ 62 ∧ 0 < m ∧ ∀ r : Int, 0 ≤ r → r < m → Q (.int r) H
theorem sc__law_cell_at : FnScope ["_law_script", "_law_k"] ["_law_script", "_law_k"] (defScope s__law_cell_at) := ⟨rfl, rfl, rfl, by decide +kernel, rfl, by decide +kernel, by decide +kernel⟩
theorem ok__law_cell_at {fa cJob cBadLine cBusy cDry cGoesRound cNoHeap cNoPrinter cNotNow cNoWay cNowhere cOver cTooMuch cTwice cUnknown cHallError : Addr} {fd : FuncData} (F : Fun K "_law_cell_at" "_law_cell_at" s__law_cell_at fa fd) (T : Txt K mg cJob cBadLine cBusy cDry cGoesRound cNoHeap cNoPrinter cNotNow cNoWay cNowhere cOver cTooMuch cTwice cUnknown cHallError)  :
    FnOk P w K mg base CX0 1 fa fd ["_law_script", "_law_k"] (sp__law_cell_at K) := by
  refine F.ok sc__law_cell_at (fun vs H Q E h => ?_) (fun cdv A outer s H vs Q E hr h => ?_)
  · obtain ⟨a, k, rfl, _⟩ := h
    rfl
  obtain ⟨a, k, rfl, ⟨ns, hS, h63⟩, q⟩ := h
  have hl : (ns.map V.int).length = ns.length := List.length_map _
  refine ⟨_, (pss_cons (ps_if (pt_cmpR op_gt (pe_callB call_len_seq rfl T.len PySem.boot_len (pa_cons (pv 0) pa_nil)) pe_int (nomark _)) (pss_one (ps_ret (pe_ix ix_list (pv 0) (pe_op op_mod (pv 1) (pe_callB call_len_seq rfl T.len PySem.boot_len (pa_cons (pv 0) pa_nil))) (fun _ _ => rfl)))) pss_nil)
  (pss_one (ps_ret pe_int))), ?_⟩
  refine ⟨_, rfl, a, _, rfl, .inl hS, _, _, rfl, rfl, _, rfl, ?_⟩
  refine ite2 (fun c => ?_) (fun c => ?_)
  · have c' : (0 : Int) < (((ns.map V.int).length : Nat) : Int) := of_decide_eq_true c
    have b0 := Int.emod_nonneg k (show (((ns.map V.int).length : Nat) : Int) ≠ 0 by omega)
    have b1 := Int.emod_lt_of_pos k c'
    obtain ⟨v, hv, hat⟩ := at_in (xs := ns.map V.int) b0 b1
    obtain ⟨z, rfl⟩ := int_of hv
    exact ⟨_, rfl, _, rfl, _, rfl, a, _, rfl, .inl hS, _, _, rfl, rfl, c', a, _, _, _, rfl, rfl, hS, hat, q z⟩
  · exact q 0
theorem sc__law_by : FnScope ["_law_script", "_law_k", "_law_many", "_law_seed"] ["_law_script", "_law_k", "_law_many"] (defScope s__law_by) := ⟨rfl, rfl, rfl, by decide +kernel, rfl, by decide +kernel, by decide +kernel⟩
theorem ok__law_by {fa cJob cBadLine cBusy cDry cGoesRound cNoHeap cNoPrinter cNotNow cNoWay cNowhere cOver cTooMuch cTwice cUnknown cHallError : Addr} {fd : FuncData} (F : Fun K "_law_by" "_law_by" s__law_by fa fd) (T : Txt K mg cJob cBadLine cBusy cDry cGoesRound cNoHeap cNoPrinter cNotNow cNoWay cNowhere cOver cTooMuch cTwice cUnknown cHallError) (D__law_cell_at : Dfn P w K mg base 1 "_law_cell_at" ["_law_script", "_law_k"] (sp__law_cell_at K)) :
    FnOk P w K mg base CX0 2 fa fd ["_law_script", "_law_k", "_law_many"] (sp__law_by K) := by
  refine F.ok sc__law_by (fun vs H Q E h => ?_) (fun cdv A outer s H vs Q E hr h => ?_)
  · obtain ⟨a, k, m, rfl, _⟩ := h
    rfl
  obtain ⟨a, k, m, rfl, hS, k0, k1, m0, q⟩ := h
  refine ⟨_, (pss_cons (ps_set (i := 3) sc__law_by.nd rfl (by first | exact Or.inl rfl | exact Or.inr rfl) (pe_op op_add (pe_op op_add (pe_op op_mod (pe_callD D__law_cell_at (hr.mono (by decide)) rfl (pa_cons (pv 0) (pa_cons (pv 1) pa_nil))) pe_int) (pe_op op_mul (pe_op op_mul pe_int (pv 1)) (pv 1))) pe_int))
  (pss_one (ps_ret (pe_op op_mod (pe_op op_mod (pe_op op_mul (pe_op op_mod (pe_op op_mul (pv 3) pe_int) pe_int) pe_int) pe_int) (pv 2))))), ?_⟩
  refine ⟨_, rfl, _, rfl, a, k, rfl, hS, fun v => ?_⟩
  refine ⟨_, _, rfl, rfl, (by show (0 : Int) < 1000003; decide), _, rfl, _, _, rfl, rfl, .inl ⟨by decide, by decide⟩, _, rfl, _, _, rfl, rfl, .inr ⟨by omega, by omega⟩, _, _, rfl, rfl, _, _, rfl, rfl, ?_⟩
  refine ⟨_, rfl, _, _, rfl, rfl, .inr ⟨by decide, by decide⟩, _, _, rfl, rfl, (by show (0 : Int) < 999983; decide), _, _, rfl, rfl, .inr ⟨by decide, by decide⟩, _, _, rfl, rfl, (by show (0 : Int) < 524287; decide), _, rfl, _, _, rfl, rfl, m0, ?_⟩
  exact q _ (Int.emod_nonneg _ (by omega)) (Int.emod_lt_of_pos _ m0)
end
end My
namespace My
open PySem L2
open Blk (sg sg_inj sg_app)
section
variable {P : Program} {w : World} {K : PySem.W.Frag} {mg : Str → Option Value} {base : Heap}
def KeptBut (x : Addr) (H H' : Hp) : Prop := ∀ b o, b ≠ x → H b = some o → H' b = some o
def sp_one (C : Addr) (f : Str) : Sp := fun vs H Q _ => ∃ (x : Addr) (y : V), vs = [.ref x, y] ∧ H x = some (XO x C none) ∧ ∀ H', KeptBut x H H' → XF H' x C [(f, y)] → Q .non H'
theorem kept_set {H : Hp} {x dx : Addr} {o u : HO} (hd : H dx = none) : KeptBut x H (upd (upd H dx o) x u) := fun b v hb e => by
  rw [upd_ne hb, upd_ne (ne_of_none e hd)]; exact e
theorem xf_set {H : Hp} {x dx C : Addr} {fs : List (Str × V)} (hx : dx ≠ x) : XF (upd (upd H dx (XD dx fs)) x (XO x C (some dx))) x C fs := ⟨dx, upd_same, by rw [upd_ne hx, upd_same], hx⟩
theorem same_made {H H' : Hp} {x : Addr} {o : HO} (hx : H x = none) (k : KeptBut x (upd H x o) H') : Same H H' := fun b v e => by
  have hb : b ≠ x := ne_of_none e hx
  exact k b v hb (by rw [upd_ne hb]; exact e)
theorem raise_one {K : PySem.W.Frag} {C : Addr} {f : Str} {y : V} {H : Hp} {E : XK} (mk : PySem.W.excMk K C = true) (h : ∀ ea H', Same H H' → H ea = none → XG H' ea C [(f, y)] → E (.ref C) (some ea) H') :
    ∀ x, H x = none → sp_one C f (.ref x :: [y]) (upd H x (XO x C none)) (fun v H2 => v = .non ∧ ∃ ea C' d, V.ref x = .ref ea ∧ H2 ea = some (XO ea C' d) ∧ PySem.W.excMk K C' = true ∧ E (.ref C') (some ea) (upd H2 ea (XC ea C' d))) E0 := by
  intro x nx
  refine ⟨x, y, rfl, upd_same, fun H' kb xf => ⟨rfl, ?_⟩⟩
  obtain ⟨dx, a, g⟩ := xf.raised
  exact ⟨x, C, some dx, rfl, a, mk, h x _ (same_on nx (same_made nx kb) _) nx g⟩
theorem iteYes {c A B : Prop} [Decidable c] (hc : c) (h : A) : if decide c = true then A else B := by
  rw [if_pos (decide_eq_true hc)]
  exact h
theorem iteNo {c A B : Prop} [Decidable c] (hc : ¬ c) (h : B) : if decide c = true then A else B := by
  rw [if_neg (by rw [decide_eq_false hc]; decide)]
  exact h
end
end My
namespace My
open PySem L2
open Blk (sg sg_inj sg_app)
section
variable {P : Program} {w : World} {K : PySem.W.Frag} {mg : Str → Option Value} {base : Heap}
def sp_made_of (_K : PySem.W.Frag) : Sp := fun vs H Q _ => ∃ z y : Str, vs = [.str z, .str y] ∧ z.length ≤ 900 ∧ ∀ H', Same H H' → Q (.bl (z.cps.toList.all fun c => decide (c ∈ y.cps.toList))) H'
def sp_is_name (_K : PySem.W.Frag) : Sp := fun vs H Q _ => ∃ z : Str, vs = [.str z] ∧ z.length ≤ 900 ∧ ∀ H', Same H H' → Q (.bl (good z)) H'
def sp_is_number (_K : PySem.W.Frag) : Sp := fun vs H Q _ => ∃ z : Str, vs = [.str z] ∧ z.length ≤ 900 ∧ ∀ H', Same H H' → Q (.bl (isnum z)) H'
def sp_number_in (_K : PySem.W.Frag) : Sp := fun vs H Q _ => ∃ (z : Str) (lo hi : Int), vs = [.str z, .int lo, .int hi] ∧ z.length ≤ 900 ∧ ∀ H', Same H H' → Q (inNum z lo hi) H'
def sp_is_layout (_K : PySem.W.Frag) : Sp := fun vs H Q _ => ∃ z : Str, vs = [.str z] ∧ z.length ≤ 900 ∧ ∀ H', Same H H' → Q (.bl (lay z)) H'
theorem eL : (Str.ofString "abcdefghijklmnopqrstuvwxyz").cps.toList = low := by decide +kernel
theorem eF : (Str.ofString "0123456789").cps.toList = fig := by decide +kernel
theorem all_sg (z : Str) (p : Nat → Bool) : (((z.cps.toList.map fun c => V.str ⟨#[c]⟩).filter fun _ => true).map fun v => match v with | .str y => V.bl (p (y.cps.toList.headD 0)) | _ => .bl false) = (z.cps.toList.map p).map V.bl := by
  rw [List.filter_eq_self.mpr (fun _ _ => rfl), List.map_map, List.map_map]
  rfl
theorem sc_made_of : FnScope ["word", "signs"] ["word", "signs"] (defScope s_made_of) := ⟨rfl, rfl, rfl, by decide +kernel, rfl, by decide +kernel, by decide +kernel⟩
theorem ok_made_of {fa cJob cBadLine cBusy cDry cGoesRound cNoHeap cNoPrinter cNotNow cNoWay cNowhere cOver cTooMuch cTwice cUnknown cHallError : Addr} {fd : FuncData} (F : Fun K "made_of" "made_of" s_made_of fa fd) (T : Txt K mg cJob cBadLine cBusy cDry cGoesRound cNoHeap cNoPrinter cNotNow cNoWay cNowhere cOver cTooMuch cTwice cUnknown cHallError)  :
    FnOk P w K mg base CX0 1 fa fd ["word", "signs"] (sp_made_of K) := by
  refine F.ok sc_made_of (fun vs H Q E h => ?_) (fun cdv A outer s H vs Q E hr h => ?_)
  · obtain ⟨z, y, rfl, _⟩ := h
    rfl
  obtain ⟨z, y, rfl, hz, q⟩ := h
  refine ⟨_, (pss_one (ps_ret (pe_callB (call_all rfl) rfl T.all bt_all (pa_cons (pe_comp (frees := [("signs", 1)]) ⟨by decide +kernel, rfl, rfl, by decide +kernel, ⟨⟨rfl, rfl, rfl, by decide +kernel⟩, trivial⟩, by decide +kernel, cellsFor_at rfl, rfl⟩ rfl (pi_str (pv 0)) (fun _ _ _ _ => pifs_nil) (fun _ _ _ _ => by exact (pe_cmpR op_in_str (pv 0) (pv 1) rfl))) pa_nil)))), ?_⟩
  refine ⟨_, rfl, z, rfl, compB_seq (seq_str z H) (fun _ => true) (fun v => match v with | .str x => V.bl (decide (x.cps.toList.headD 0 ∈ y.cps.toList)) | _ => .bl false) ?_ (fun x hx H' R _ r => r) (fun x hx H' R sm _ r => ?_) (fun D H' sm hD hH => ?_)⟩
  · rw [List.length_map, len_toList]
    exact small1000 (by omega)
  · obtain ⟨c, _, rfl⟩ := List.mem_map.mp hx
    refine ⟨_, rfl, _, rfl, _, _, rfl, rfl, ?_⟩
    rw [in_sign c rfl]
    exact r
  · rw [all_sg z fun c => decide (c ∈ y.cps.toList)] at hH
    refine ⟨D, _, rfl, SqL.of hH, ?_⟩
    rw [List.all_map]
    exact q H' sm
theorem sc_is_name : FnScope ["word"] ["word"] (defScope s_is_name) := ⟨rfl, rfl, rfl, by decide +kernel, rfl, by decide +kernel, by decide +kernel⟩
theorem ok_is_name {fa cJob cBadLine cBusy cDry cGoesRound cNoHeap cNoPrinter cNotNow cNoWay cNowhere cOver cTooMuch cTwice cUnknown cHallError : Addr} {fd : FuncData} (F : Fun K "is_name" "is_name" s_is_name fa fd) (T : Txt K mg cJob cBadLine cBusy cDry cGoesRound cNoHeap cNoPrinter cNotNow cNoWay cNowhere cOver cTooMuch cTwice cUnknown cHallError) (D_made_of : Dfn P w K mg base 1 "made_of" ["word", "signs"] (sp_made_of K)) :
    FnOk P w K mg base CX0 2 fa fd ["word"] (sp_is_name K) := by
  refine F.ok sc_is_name (fun vs H Q E h => ?_) (fun cdv A outer s H vs Q E hr h => ?_)
  · obtain ⟨z, rfl, _⟩ := h
    rfl
  obtain ⟨z, rfl, hz, q⟩ := h
  refine ⟨_, (pss_cons (ps_if (pt_not (pt_chain op_le op_le pe_int (pe_callB call_len_str rfl T.len PySem.boot_len (pa_cons (pv 0) pa_nil)) (pe_gi T.NAME_MOST rfl))) (pss_one (ps_ret pe_bl)) pss_nil)
  (pss_one (ps_ret (pe_and (pe_cmpR op_in_str (pe_ix ix_str (pv 0) pe_int (fun _ _ => rfl)) (pe_gs T.LETTERS rfl) rfl) (pe_one (pe_callD D_made_of (hr.mono (by decide)) rfl (pa_cons (pv 0) (pa_cons (pe_op op_add_str (pe_gs T.LETTERS rfl) (pe_gs T.FIGURES rfl)) pa_nil)))))))), ?_⟩
  have hsz : z.length ≤ sizeLine := Nat.le_trans hz (small (by decide))
  have lL : (Str.ofString "abcdefghijklmnopqrstuvwxyz").length = 26 := by rw [← len_toList, eL]; rfl
  have lF : (Str.ofString "0123456789").length = 10 := by rw [← len_toList, eF]; rfl
  refine ⟨_, rfl, z, rfl, hsz, _, _, rfl, rfl, _, rfl, ?_⟩
  have no : ∀ b, good z = b → Q (.bl b) H := fun b e => by rw [← e]; exact q H (Same.refl H)
  refine ite2 (fun c1 => ?_) (fun c1 => ?_)
  · refine ⟨_, _, rfl, rfl, _, rfl, ?_⟩
    have c1' : (1 : Int) ≤ (z.length : Nat) := of_decide_eq_true c1
    by_cases c2 : (((z.length : Nat) : Int) ≤ 12)
    · rw [decide_eq_true c2]
      refine iteF ?_
      have hne : z.cps.toList.length = z.length := len_toList z
      obtain ⟨c, r, e⟩ : ∃ c r, z.cps.toList = c :: r := by
        cases e : z.cps.toList with
        | nil => rw [e] at hne; simp at hne; omega
        | cons c r => exact ⟨c, r, rfl⟩
      refine ⟨_, rfl, z, _, c, rfl, rfl, hsz, (by rw [e]; exact atI_nat (j := 0) rfl), _, _, rfl, rfl, _, rfl, ?_⟩
      rw [in_sign c eL]
      by_cases c3 : c ∈ low
      · rw [decide_eq_true c3]
        refine iteT ?_
        refine ⟨_, rfl, _, _, rfl, rfl, (by rw [lL, lF]; exact small (by decide)), z, _, rfl, hz, fun H' sm => ?_⟩
        have e2 : (Str.ofString "abcdefghijklmnopqrstuvwxyz" ++ Str.ofString "0123456789").cps.toList = low ++ fig := by
          rw [← eL, ← eF]
          exact Array.toList_append ..
        rw [e2]
        have g : good z = z.cps.toList.all fun c => decide (c ∈ low ++ fig) := by
          unfold good
          rw [decide_eq_true c1', decide_eq_true c2, e]
          show (true && true && decide (c ∈ low) && _) = _
          rw [decide_eq_true c3]
          rfl
        rw [← g]
        exact q H' sm
      · rw [decide_eq_false c3]
        refine iteF (no _ ?_)
        unfold good
        rw [e]
        show (_ && _ && decide (c ∈ low) && _) = false
        rw [decide_eq_false c3, Bool.and_false, Bool.false_and]
    · rw [decide_eq_false c2]
      refine iteT (no _ ?_)
      unfold good
      rw [decide_eq_false c2, Bool.and_false, Bool.false_and, Bool.false_and]
  · refine ⟨_, rfl, ?_⟩
    refine iteT (no _ ?_)
    have c1' : ¬ (1 : Int) ≤ (z.length : Nat) := of_decide_eq_false (Bool.eq_false_iff.mpr c1)
    unfold good
    rw [decide_eq_false c1', Bool.false_and, Bool.false_and, Bool.false_and]
theorem sc_is_number : FnScope ["word"] ["word"] (defScope s_is_number) := ⟨rfl, rfl, rfl, by decide +kernel, rfl, by decide +kernel, by decide +kernel⟩
theorem ok_is_number {fa cJob cBadLine cBusy cDry cGoesRound cNoHeap cNoPrinter cNotNow cNoWay cNowhere cOver cTooMuch cTwice cUnknown cHallError : Addr} {fd : FuncData} (F : Fun K "is_number" "is_number" s_is_number fa fd) (T : Txt K mg cJob cBadLine cBusy cDry cGoesRound cNoHeap cNoPrinter cNotNow cNoWay cNowhere cOver cTooMuch cTwice cUnknown cHallError) (D_made_of : Dfn P w K mg base 1 "made_of" ["word", "signs"] (sp_made_of K)) :
    FnOk P w K mg base CX0 2 fa fd ["word"] (sp_is_number K) := by
  refine F.ok sc_is_number (fun vs H Q E h => ?_) (fun cdv A outer s H vs Q E hr h => ?_)
  · obtain ⟨z, rfl, _⟩ := h
    rfl
  obtain ⟨z, rfl, hz, q⟩ := h
  refine ⟨_, (pss_cons (ps_if (PW.pt (pw_or (pt_not (pt_chain op_le op_le pe_int (pe_callB call_len_str rfl T.len PySem.boot_len (pa_cons (pv 0) pa_nil)) (pe_gi T.NUMBER_MOST rfl))) (pw_or1 (pt_not (pt_truth (pe_callD D_made_of (hr.mono (by decide)) rfl (pa_cons (pv 0) (pa_cons (pe_gs T.FIGURES rfl) pa_nil))) (fun _ => rfl)))))) (pss_one (ps_ret pe_bl)) pss_nil)
  (pss_one (ps_ret (pe_or (pe_cmpR op_eq (pv 0) pe_str (nomark _)) (pe_one (pe_cmpR op_ne (pe_ix ix_str (pv 0) pe_int (fun _ _ => rfl)) pe_str (nomark _))))))), ?_⟩
  have hsz : z.length ≤ sizeLine := Nat.le_trans hz (small (by decide))
  have hne : z.cps.toList.length = z.length := len_toList z
  have no : ∀ b H', Same H H' → isnum z = b → Q (.bl b) H' := fun b H' sm e => by rw [← e]; exact q H' sm
  refine ⟨_, rfl, z, rfl, hsz, _, _, rfl, rfl, _, rfl, ?_⟩
  refine ite2 (fun c1 => ?_) (fun c1 => ?_)
  · have c1' : (1 : Int) ≤ (z.length : Nat) := of_decide_eq_true c1
    refine ⟨_, _, rfl, rfl, _, rfl, ?_⟩
    by_cases c2 : ((z.length : Nat) : Int) ≤ 9
    · rw [decide_eq_true c2]
      refine iteF ?_
      refine ⟨_, rfl, z, _, rfl, hz, fun H' sm => ?_⟩
      refine ⟨_, rfl, ?_⟩
      rw [eF]
      cases c3 : (z.cps.toList.all fun c => decide (c ∈ fig)) with
      | false =>
        refine iteT (no _ H' sm ?_)
        unfold isnum
        rw [c3, Bool.and_false, Bool.false_and]
      | true =>
        refine iteF ?_
        obtain ⟨c, r, e⟩ : ∃ c r, z.cps.toList = c :: r := by
          cases e : z.cps.toList with
          | nil => rw [e] at hne; simp at hne; omega
          | cons c r => exact ⟨c, r, rfl⟩
        have num : isnum z = (decide (z = ⟨#[48]⟩) || !decide (c = 48)) := by
          unfold isnum
          rw [decide_eq_true c1', decide_eq_true c2, c3, e]
          rfl
        refine ⟨_, rfl, rfl, _, rfl, ?_⟩
        refine ite2 (fun c4 => ?_) (fun c4 => ?_)
        · have c4' : V.str z = V.str (Str.ofString "0") := of_decide_eq_true c4
          have c5 : z = ⟨#[48]⟩ := by
            rw [nought_is] at c4'
            injection c4'
          refine no _ H' sm ?_
          rw [num, decide_eq_true c5]
          rfl
        · have c4' : ¬ V.str z = V.str (Str.ofString "0") := fun e => c4 (decide_eq_true e)
          have c5 : ¬ z = ⟨#[48]⟩ := fun e => c4' (by rw [e, nought_is])
          refine ⟨_, rfl, z, _, c, rfl, rfl, hsz, (by rw [e]; exact atI_nat (j := 0) rfl), rfl, no _ H' sm ?_⟩
          rw [num, decide_eq_false c5, Bool.false_or, sign_is]
    · rw [decide_eq_false c2]
      refine iteT (iteT (no _ H (Same.refl H) ?_))
      unfold isnum
      rw [decide_eq_false c2, Bool.and_false, Bool.false_and, Bool.false_and]
  · refine ⟨_, rfl, ?_⟩
    refine iteT (iteT (no _ H (Same.refl H) ?_))
    have c1' : ¬ (1 : Int) ≤ (z.length : Nat) := of_decide_eq_false (Bool.eq_false_iff.mpr c1)
    unfold isnum
    rw [decide_eq_false c1', Bool.false_and, Bool.false_and, Bool.false_and]
theorem sc_number_in : FnScope ["word", "least", "most", "number"] ["word", "least", "most"] (defScope s_number_in) := ⟨rfl, rfl, rfl, by decide +kernel, rfl, by decide +kernel, by decide +kernel⟩
theorem ok_number_in {fa cJob cBadLine cBusy cDry cGoesRound cNoHeap cNoPrinter cNotNow cNoWay cNowhere cOver cTooMuch cTwice cUnknown cHallError : Addr} {fd : FuncData} (F : Fun K "number_in" "number_in" s_number_in fa fd) (T : Txt K mg cJob cBadLine cBusy cDry cGoesRound cNoHeap cNoPrinter cNotNow cNoWay cNowhere cOver cTooMuch cTwice cUnknown cHallError) (D_is_number : Dfn P w K mg base 2 "is_number" ["word"] (sp_is_number K)) :
    FnOk P w K mg base CX0 3 fa fd ["word", "least", "most"] (sp_number_in K) := by
  refine F.ok sc_number_in (fun vs H Q E h => ?_) (fun cdv A outer s H vs Q E hr h => ?_)
  · obtain ⟨z, lo, hi, rfl, _⟩ := h
    rfl
  obtain ⟨z, lo, hi, rfl, hz, q⟩ := h
  refine ⟨_, (pss_cons (ps_if (pt_not (pt_truth (pe_callD D_is_number (hr.mono (by decide)) rfl (pa_cons (pv 0) pa_nil)) (fun _ => rfl))) (pss_one (ps_ret pe_non)) pss_nil)
  (pss_cons (ps_set (i := 3) sc_number_in.nd rfl (by first | exact Or.inl rfl | exact Or.inr rfl) (pe_callTy call_int_text rfl T.int bt_int (pa_cons (pv 0) pa_nil)))
  (pss_one (ps_ret (pe_ifExp (pt_chain op_le op_le (pv 1) (pv 3) (pv 2)) (pv 3) pe_non))))), ?_⟩
  refine ⟨_, rfl, z, rfl, hz, fun H' sm => ?_⟩
  have fin : ∀ v, inNum z lo hi = v → Q v H' := fun v e => by rw [← e]; exact q H' sm
  refine ⟨_, rfl, ?_⟩
  cases hn : isnum z with
  | false =>
    refine iteT (fin _ (if_neg ?_))
    rw [hn]
    simp
  | true =>
    refine iteF ?_
    have hz9 : z.length ≤ 9 := by
      have h2 := hn
      unfold isnum at h2
      rw [Bool.and_eq_true, Bool.and_eq_true, Bool.and_eq_true] at h2
      have := of_decide_eq_true h2.1.1.2
      omega
    refine ⟨_, rfl, z, val z, rfl, isnum_text hn (by omega), by omega, ?_⟩
    refine ⟨_, rfl, _, rfl, _, _, rfl, rfl, _, rfl, ?_⟩
    by_cases c1 : lo ≤ val z
    · rw [decide_eq_true c1]
      refine iteT ?_
      refine ⟨_, rfl, _, _, rfl, rfl, _, rfl, ?_⟩
      by_cases c2 : val z ≤ hi
      · rw [decide_eq_true c2]
        refine iteT ⟨_, rfl, fin _ (if_pos ?_)⟩
        rw [hn, decide_eq_true c1, decide_eq_true c2]
        rfl
      · rw [decide_eq_false c2]
        refine iteF (fin _ (if_neg ?_))
        rw [decide_eq_false c2, Bool.and_false]
        simp
    · rw [decide_eq_false c1]
      refine iteF ⟨_, rfl, ?_⟩
      refine iteF (fin _ (if_neg ?_))
      rw [decide_eq_false c1, Bool.and_false, Bool.false_and]
      simp
theorem sc_is_layout : FnScope ["word"] ["word"] (defScope s_is_layout) := ⟨rfl, rfl, rfl, by decide +kernel, rfl, by decide +kernel, by decide +kernel⟩
theorem ok_is_layout {fa cJob cBadLine cBusy cDry cGoesRound cNoHeap cNoPrinter cNotNow cNoWay cNowhere cOver cTooMuch cTwice cUnknown cHallError : Addr} {fd : FuncData} (F : Fun K "is_layout" "is_layout" s_is_layout fa fd) (T : Txt K mg cJob cBadLine cBusy cDry cGoesRound cNoHeap cNoPrinter cNotNow cNoWay cNowhere cOver cTooMuch cTwice cUnknown cHallError) (D_number_in : Dfn P w K mg base 3 "number_in" ["word", "least", "most"] (sp_number_in K)) :
    FnOk P w K mg base CX0 4 fa fd ["word"] (sp_is_layout K) := by
  refine F.ok sc_is_layout (fun vs H Q E h => ?_) (fun cdv A outer s H vs Q E hr h => ?_)
  · obtain ⟨z, rfl, _⟩ := h
    rfl
  obtain ⟨z, rfl, hz, q⟩ := h
  have hsz : z.length ≤ sizeLine := Nat.le_trans hz (small (by decide))
  refine ⟨_, (pss_cons (ps_if (pt_cmpR op_eq (pv 0) pe_str (nomark _)) (pss_one (ps_ret pe_bl)) pss_nil)
  (pss_one (ps_ret (pe_and (pe_bm PySem.F.plainAttrs_str PySem.F.slot_str_startswith PySem.F.type_str_startswith mt_startswith (pv 0) (pa_cons (pe_gs T.UP rfl) pa_nil)) (pe_one (pe_cmpR op_notN (pe_callD D_number_in (hr.mono (by decide)) rfl (pa_cons (pe_slice sl_str (pv 0) (po_some (pe_callB call_len_str rfl T.len PySem.boot_len (pa_cons (pe_gs T.UP rfl) pa_nil))) po_none) (pa_cons (pe_gi T.UP_LEAST rfl) (pa_cons (pe_gi T.UP_MOST rfl) pa_nil)))) pe_non (nomark _))))))), ?_⟩
  refine ⟨_, rfl, rfl, _, rfl, ?_⟩
  refine ite2 (fun c1 => ?_) (fun c1 => ?_)
  · have c1' : V.str z = V.str (Str.ofString "both") := of_decide_eq_true c1
    have c2 : z = Str.ofString "both" := by injection c1'
    have e : lay z = true := by
      unfold lay
      rw [decide_eq_true c2]
      rfl
    have := q H (Same.refl H)
    rw [e] at this
    exact this
  · have c2 : ¬ z = Str.ofString "both" := fun e => c1 (decide_eq_true (by rw [e]))
    refine ⟨_, rfl, rfl, _, _, rfl, rfl, _, rfl, ?_⟩
    have l3 : (((Str.ofString "up:").length : Nat) : Int) = 3 := by decide +kernel
    cases hs : Txt.startswith z (Str.ofString "up:") with
    | false =>
      refine iteF ?_
      have e : lay z = false := by
        unfold lay
        rw [decide_eq_false c2, hs]
        rfl
      have := q H (Same.refl H)
      rw [e] at this
      exact this
    | true =>
      refine iteT ?_
      refine ⟨_, rfl, _, rfl, (by decide +kernel), _, rfl, _, rfl, hsz, ?_⟩
      rw [l3]
      have w1 := Txt.slice_le z (some 3) none
      refine ⟨_, 2, 16, rfl, by omega, fun H' sm => ?_⟩
      refine ⟨rfl, ?_⟩
      have e : lay z = !decide (inNum (Txt.slice z (some 3) none) 2 16 = V.non) := by
        unfold lay
        rw [decide_eq_false c2, hs, Bool.false_or, Bool.true_and]
        by_cases e : inNum (Txt.slice z (some 3) none) 2 16 = V.non
        · rw [decide_eq_true e, decide_eq_false (fun x => x e)]
          rfl
        · rw [decide_eq_false e, decide_eq_true e]
          rfl
      rw [← e]
      exact q H' sm
end
end My
namespace My
open PySem L2
open Blk (sg sg_inj sg_app)
section
variable {P : Program} {w : World} {K : PySem.W.Frag} {mg : Str → Option Value} {base : Heap}
theorem sc_BadLine_init : FnScope ["self", "place"] ["self", "place"] (defScope s_BadLine_init) := ⟨rfl, rfl, rfl, by decide +kernel, rfl, by decide +kernel, by decide +kernel⟩
theorem ok_BadLine_init {fa cJob cBadLine cBusy cDry cGoesRound cNoHeap cNoPrinter cNotNow cNoWay cNowhere cOver cTooMuch cTwice cUnknown cHallError : Addr} {fd : FuncData} (F : Fun K "__init__" "BadLine.__init__" s_BadLine_init fa fd) (T : Txt K mg cJob cBadLine cBusy cDry cGoesRound cNoHeap cNoPrinter cNotNow cNoWay cNowhere cOver cTooMuch cTwice cUnknown cHallError)  :
    FnOk P w K mg base CX0 1 fa fd ["self", "place"] (sp_one cBadLine "place") := by
  refine F.ok sc_BadLine_init (fun vs H Q E h => ?_) (fun cdv A outer s H vs Q E hr h => ?_)
  · obtain ⟨x, y, rfl, _⟩ := h
    rfl
  obtain ⟨x, y, rfl, hx, q⟩ := h
  refine ⟨_, (pss_cons (ps_expr (pe_initX T.in_HallError rfl T.mg_HallError (pa_cons (pv 0) (pa_cons (pv 1) pa_nil))))
  (pss_one (ps_fldX (pv 0) (pv 1) rfl))), ?_⟩
  refine ⟨_, rfl, _, rfl, x, _, none, [y], rfl, (by simp), hx, T.x_BadLine.m, ?_⟩
  refine ⟨_, rfl, _, rfl, .inl ⟨x, _, rfl, hx, T.x_BadLine.i.c, T.x_BadLine.n _ (.head _), fun dx nd ne => ?_⟩⟩
  exact q _ (kept_set nd) (xf_set ne)
def sp_words_of (_K : PySem.W.Frag) : Sp := fun vs H Q _ => ∃ z : Str, vs = [.str z] ∧ z.length ≤ 900 ∧ ∀ p H', Same H H' → H p = none → H' p = some (.lst ((Txt.split z cBlank).map V.str)) → Q (.ref p) H'
def sp_read_head (cB : Addr) : Sp := fun vs H Q E => ∃ (p : Addr) (ws : List Str), vs = [.ref p] ∧ H p = some (.lst (ws.map V.str)) ∧ (∀ w ∈ ws, w.length ≤ 900) ∧ ws ≠ [] ∧ (∀ n, readHead ws = .ok n → ∀ H', Same H H' → Q (.int n) H') ∧ ∀ i : Nat, readHead ws = .error i → ∀ ea H', Same H H' → XG H' ea cB [("place", .int (i : Int))] → E (.ref cB) (some ea) H'
def sp_value_of (_K : PySem.W.Frag) : Sp := fun vs H Q _ => ∃ (z : Str) (n : Int), vs = [.str z, .int n] ∧ z.length ≤ 900 ∧ ∀ x H', Same H H' → HoldsV H' x (valueOf z n) → Q x H'
def sp_sort_of (_K : PySem.W.Frag) : Sp := fun vs H Q _ => ∃ z : Str, vs = [.str z] ∧ z.length ≤ 900 ∧ ∀ H', Same H H' → Q (.str (sortOf z)) H'
def sp_read_colour (_K : PySem.W.Frag) : Sp := fun vs H Q _ => ∃ (z : Str) (n : Int), vs = [.str z, .int n] ∧ z.length ≤ 900 ∧ ∀ x H', Same H H' → HoldsV H' x (readCol z n) → Q x H'
def sp_Job_init (C : Addr) : Sp := fun vs H Q _ => ∃ (x dx : Addr) (a b c d e f g h i j : V), vs = [.ref x, a, b, c, d, e, f, g, h, i, j] ∧ H x = some (.ins C dx []) ∧ Q .non (upd H x (.ins C dx (jobF a b c d e f g h i j)))
def sp_told_job (C : Addr) : Sp := fun vs H Q _ => ∃ (p D : Addr) (ws : List Str) (n : Int) (kvs : List (Key × V)) (t : List (Str × VO)), vs = [.ref p, .int n, .ref D] ∧ H p = some (.lst (ws.map V.str)) ∧ 2 ≤ ws.length ∧ Told H D kvs t ∧ t.length ≤ 900 ∧
  ∀ x H', Same H H' → JobAt C H' x (toldJob ws n t) → Q (.ref x) H'
def sp_read_job (C cB : Addr) : Sp := fun vs H Q E => ∃ z : Str, vs = [.str z] ∧ z.length ≤ 900 ∧ (∀ f, readJ z = .ok f → ∀ x H', Same H H' → JobAt C H' x f → Q (.ref x) H') ∧ ∀ i : Nat, readJ z = .error i → ∀ ea H', Same H H' → XG H' ea cB [("place", .int (i : Int))] → E (.ref cB) (some ea) H'
theorem sc_words_of : FnScope ["line"] ["line"] (defScope s_words_of) := ⟨rfl, rfl, rfl, by decide +kernel, rfl, by decide +kernel, by decide +kernel⟩
theorem ok_words_of {fa cJob cBadLine cBusy cDry cGoesRound cNoHeap cNoPrinter cNotNow cNoWay cNowhere cOver cTooMuch cTwice cUnknown cHallError : Addr} {fd : FuncData} (F : Fun K "words_of" "words_of" s_words_of fa fd) (T : Txt K mg cJob cBadLine cBusy cDry cGoesRound cNoHeap cNoPrinter cNotNow cNoWay cNowhere cOver cTooMuch cTwice cUnknown cHallError)  :
    FnOk P w K mg base CX0 1 fa fd ["line"] (sp_words_of K) := by
  refine F.ok sc_words_of (fun vs H Q E h => ?_) (fun cdv A outer s H vs Q E hr h => ?_)
  · obtain ⟨z, rfl, _⟩ := h
    rfl
  obtain ⟨z, rfl, hz, q⟩ := h
  refine ⟨_, (pss_one (ps_ret (pe_bm PySem.F.plainAttrs_str PySem.F.slot_str_split PySem.F.type_str_split mt_split (pv 0) (pa_cons pe_str pa_nil)))), ?_⟩
  refine ⟨_, rfl, rfl, z, _, rfl, rfl, (by decide +kernel), Nat.le_trans (Nat.add_le_add_right hz 2) (small (by decide)), fun p hp => ?_⟩
  exact q p _ (same_new hp _) hp upd_same
theorem sc_read_colour : FnScope ["span", "pages", "ends", "first", "last"] ["span", "pages"] (defScope s_read_colour) := ⟨rfl, rfl, rfl, by decide +kernel, rfl, by decide +kernel, by decide +kernel⟩
theorem ok_read_colour {fa cJob cBadLine cBusy cDry cGoesRound cNoHeap cNoPrinter cNotNow cNoWay cNowhere cOver cTooMuch cTwice cUnknown cHallError : Addr} {fd : FuncData} (F : Fun K "read_colour" "read_colour" s_read_colour fa fd) (T : Txt K mg cJob cBadLine cBusy cDry cGoesRound cNoHeap cNoPrinter cNotNow cNoWay cNowhere cOver cTooMuch cTwice cUnknown cHallError) (D_number_in : Dfn P w K mg base 3 "number_in" ["word", "least", "most"] (sp_number_in K)) :
    FnOk P w K mg base CX0 4 fa fd ["span", "pages"] (sp_read_colour K) := by
  refine F.ok sc_read_colour (fun vs H Q E h => ?_) (fun cdv A outer s H vs Q E hr h => ?_)
  · obtain ⟨z, n, rfl, _⟩ := h
    rfl
  obtain ⟨z, n, rfl, hz, q⟩ := h
  refine ⟨_, (pss_cons (ps_set (i := 2) sc_read_colour.nd rfl (by first | exact Or.inl rfl | exact Or.inr rfl) (pe_bm PySem.F.plainAttrs_str PySem.F.slot_str_split PySem.F.type_str_split mt_split (pv 0) (pa_cons pe_str pa_nil)))
  (pss_cons (ps_if (pt_cmpR op_ne (pe_callB call_len_seq rfl T.len PySem.boot_len (pa_cons (pv 2) pa_nil)) pe_int (nomark _)) (pss_one (ps_ret pe_non)) pss_nil)
  (pss_cons (ps_set (i := 3) sc_read_colour.nd rfl (by first | exact Or.inl rfl | exact Or.inr rfl) (pe_callD D_number_in (hr.mono (by decide)) rfl (pa_cons (pe_ix ix_list (pv 2) pe_int (fun _ _ => rfl)) (pa_cons pe_int (pa_cons (pv 1) pa_nil)))))
  (pss_cons (ps_if (pt_cmpR op_isN (pv 3) pe_non (nomark _)) (pss_one (ps_ret pe_non)) pss_nil)
  (pss_cons (ps_set (i := 4) sc_read_colour.nd rfl (by first | exact Or.inl rfl | exact Or.inr rfl) (pe_callD D_number_in (hr.mono (by decide)) rfl (pa_cons (pe_ix ix_list (pv 2) pe_int (fun _ _ => rfl)) (pa_cons (pv 3) (pa_cons (pv 1) pa_nil)))))
  (pss_one (ps_ret (pe_ifExp (pt_cmpR op_isN (pv 4) pe_non (nomark _)) pe_non (pe_tup (pa_cons (pv 3) (pa_cons (pv 4) pa_nil))))))))))), ?_⟩
  refine ⟨_, rfl, rfl, z, _, rfl, rfl, (by decide +kernel), Nat.le_trans (Nat.add_le_add_right hz 2) (small (by decide)), fun p hp => ?_⟩
  have s1 := same_new hp (.lst ((Txt.split z cDash).map V.str))
  have le : ∀ w ∈ Txt.split z cDash, w.length ≤ 900 := fun w hw => Nat.le_trans (split_part_le z cDash w hw) hz
  refine ⟨_, rfl, p, _, rfl, .inl (SqL.of upd_same), rfl, _, rfl, ?_⟩
  have no : ∀ H', Same H H' → readCol z n = non → Q .non H' := fun H' sm e => q _ H' sm (by rw [e]; exact rfl)
  have L1 : (((Txt.split z cDash).map V.str).length : Int) = ((Txt.split z cDash).length : Nat) := by rw [List.length_map]
  by_cases c2 : (Txt.split z cDash).length = 2
  · obtain ⟨a, b, e⟩ : ∃ a b, Txt.split z cDash = [a, b] := by
      match hs : Txt.split z cDash with
      | [a, b] => exact ⟨a, b, rfl⟩
      | [] => rw [hs] at c2; cases c2
      | [a] => rw [hs] at c2; cases c2
      | a :: b :: c :: r => rw [hs] at c2; simp at c2
    rw [decide_eq_true (by show V.int (((Txt.split z cDash).map V.str).length : Int) = V.int 2; rw [L1, c2]; rfl)]
    refine iteF ?_
    have ha : a.length ≤ 900 := le a (by rw [e]; exact List.mem_cons_self)
    have hb : b.length ≤ 900 := le b (by rw [e]; exact List.mem_cons_of_mem _ List.mem_cons_self)
    have hp2 : ∀ H', Same (upd H p (.lst ((Txt.split z cDash).map V.str))) H' → H' p = some (.lst [V.str a, V.str b]) := fun H' sm => by
      have := sm _ _ (upd_same (H := H) (a := p))
      rw [e] at this
      exact this
    refine ⟨_, rfl, p, _, _, _, rfl, rfl, SqL.of (hp2 _ (Same.refl _)), atI_nat (j := 0) rfl, _, rfl, a, 1, n, rfl, ha, fun H1 sm1 => ?_⟩
    refine ⟨_, rfl, rfl, _, rfl, ?_⟩
    rcases inNum_cases a 1 n with ea | ⟨f, ea, _⟩
    · rw [ea]
      refine iteT (no _ (s1.trans sm1) ?_)
      unfold readCol
      rw [e]
      dsimp only
      rw [ea]
    · rw [ea]
      refine iteF ?_
      refine ⟨_, rfl, p, _, _, _, rfl, rfl, SqL.of (hp2 _ sm1), atI_nat (j := 1) rfl, _, rfl, _, rfl, b, f, n, rfl, hb, fun H2 sm2 => ?_⟩
      refine ⟨_, rfl, rfl, _, rfl, ?_⟩
      rcases inNum_cases b f n with eb | ⟨l, eb, _⟩
      · rw [eb]
        refine iteT (no _ ((s1.trans sm1).trans sm2) ?_)
        unfold readCol
        rw [e]
        dsimp only
        rw [ea]
        dsimp only
        rw [eb]
      · rw [eb]
        refine iteF ⟨_, rfl, _, rfl, small (by show 2 ≤ 1000; decide), fun t ht => ?_⟩
        refine q _ _ (((s1.trans sm1).trans sm2).trans (same_new ht _)) ?_
        have rc : readCol z n = .pair f l := by
          unfold readCol
          rw [e]
          dsimp only
          rw [ea]
          dsimp only
          rw [eb]
        rw [rc]
        exact ⟨t, rfl, upd_same⟩
  · rw [decide_eq_false (by
      intro z
      injection z with z
      rw [L1] at z
      exact c2 (by omega))]
    refine iteT (no _ s1 ?_)
    unfold readCol
    match hs : Txt.split z cDash with
    | [a, b] => rw [hs] at c2; exact absurd rfl c2
    | [] => rfl
    | [a] => rfl
    | a :: b :: c :: r => rfl
theorem sc_sort_of : FnScope ["word", "start"] ["word"] (defScope s_sort_of) := ⟨rfl, rfl, rfl, by decide +kernel, rfl, by decide +kernel, by decide +kernel⟩
theorem ok_sort_of {fa cJob cBadLine cBusy cDry cGoesRound cNoHeap cNoPrinter cNotNow cNoWay cNowhere cOver cTooMuch cTwice cUnknown cHallError : Addr} {fd : FuncData} (F : Fun K "sort_of" "sort_of" s_sort_of fa fd) (T : Txt K mg cJob cBadLine cBusy cDry cGoesRound cNoHeap cNoPrinter cNotNow cNoWay cNowhere cOver cTooMuch cTwice cUnknown cHallError) (D_is_layout : Dfn P w K mg base 4 "is_layout" ["word"] (sp_is_layout K)) :
    FnOk P w K mg base CX0 5 fa fd ["word"] (sp_sort_of K) := by
  refine F.ok sc_sort_of (fun vs H Q E h => ?_) (fun cdv A outer s H vs Q E hr h => ?_)
  · obtain ⟨z, rfl, _⟩ := h
    rfl
  obtain ⟨z, rfl, hz, q⟩ := h
  refine ⟨_, (pss_cons (ps_if (pt_truth (pe_callD D_is_layout (hr.mono (by decide)) rfl (pa_cons (pv 0) pa_nil)) (fun _ => rfl)) (pss_one (ps_ret (pe_gs T.LAYOUT rfl))) pss_nil)
  (pss_cons (ps_for PassesOwn.never rfl (pi_tup (pe_tup (pa_cons (pe_gs T.COPIES rfl) (pa_cons (pe_gs T.COLOUR rfl) (pa_cons (pe_gs T.PAPER rfl) (pa_cons (pe_gs T.COVER rfl) pa_nil)))))) (pg_name (i := 1) sc_sort_of.nd rfl (by first | exact Or.inl rfl | exact Or.inr rfl))
  (pss_one (ps_if (pt_truth (pe_bm PySem.F.plainAttrs_str PySem.F.slot_str_startswith PySem.F.type_str_startswith mt_startswith (pv 0) (pa_cons (pv 1) pa_nil)) (fun _ => rfl)) (pss_one (ps_ret (pv 1))) pss_nil)))
  (pss_one (ps_ret (pv 0))))), ?_⟩
  have fin : ∀ v H', Same H H' → sortOf z = v → Q (.str v) H' := fun v H' sm e => by rw [← e]; exact q H' sm
  refine ⟨_, rfl, z, rfl, hz, fun H1 s1 => ?_⟩
  refine ⟨_, rfl, ?_⟩
  cases hl : lay z with
  | true => exact iteT (fin _ H1 s1 (by unfold sortOf; rw [hl, if_pos rfl]))
  | false =>
    refine iteF ?_
    refine ⟨small (by show 4 ≤ 1000; decide), fun t ht => ?_⟩
    have s2 := s1.trans (same_new ht (.tup (four.map V.str)))
    refine ⟨t, rfl, ⟨_, SqT.of upd_same⟩, for_tup (K := K) (a := t) (xs := four.map V.str) (fun i σ H' => H' = upd H1 t (.tup (four.map V.str)) ∧ (∃ v, σ = [some (.str z), v]) ∧ (four.take i).find? (fun p => Txt.startswith z p) = none) ⟨rfl, ⟨_, rfl⟩, rfl⟩ (fun i σ H' _ p => ?_) (fun i x σ H' hx p => ?_) (fun σ H' p => ?_)⟩
    · rw [p.1]
      exact SqT.of upd_same
    · obtain ⟨rfl, ⟨v, rfl⟩, hn⟩ := p
      rw [List.getElem?_map] at hx
      obtain ⟨y, hy, rfl⟩ := Option.map_eq_some_iff.mp hx
      refine ⟨_, rfl, rfl, _, rfl, z, y, rfl, rfl, ?_⟩
      refine ⟨_, rfl, ?_⟩
      have tk := take_more hy
      cases hs : Txt.startswith z y with
      | true =>
        refine iteT ⟨_, rfl, fin _ _ s2 ?_⟩
        unfold sortOf
        rw [hl, if_neg (by decide), ← List.take_append_drop (i + 1) four, tk, List.append_assoc, List.find?_append, hn]
        show ((List.find? (fun p => Txt.startswith z p) (y :: four.drop (i + 1)))).getD z = y
        rw [List.find?_cons_of_pos (h := hs)]
        rfl
      | false =>
        refine iteF ⟨rfl, ⟨_, rfl⟩, ?_⟩
        rw [tk, List.find?_append, hn]
        show List.find? (fun p => Txt.startswith z p) [y] = none
        rw [List.find?_cons_of_neg (h := by rw [hs]; decide)]
        rfl
    · obtain ⟨rfl, ⟨v, rfl⟩, hn⟩ := p
      refine ⟨_, rfl, fin _ _ s2 ?_⟩
      unfold sortOf
      rw [hl, if_neg (by decide)]
      rw [List.length_map, List.take_of_length_le (Nat.le_refl _)] at hn
      rw [hn]
      rfl
theorem sc_value_of : FnScope ["word", "pages", "start"] ["word", "pages"] (defScope s_value_of) := ⟨rfl, rfl, rfl, by decide +kernel, rfl, by decide +kernel, by decide +kernel⟩
theorem ok_value_of {fa cJob cBadLine cBusy cDry cGoesRound cNoHeap cNoPrinter cNotNow cNoWay cNowhere cOver cTooMuch cTwice cUnknown cHallError : Addr} {fd : FuncData} (F : Fun K "value_of" "value_of" s_value_of fa fd) (T : Txt K mg cJob cBadLine cBusy cDry cGoesRound cNoHeap cNoPrinter cNotNow cNoWay cNowhere cOver cTooMuch cTwice cUnknown cHallError) (D_is_layout : Dfn P w K mg base 4 "is_layout" ["word"] (sp_is_layout K)) (D_number_in : Dfn P w K mg base 3 "number_in" ["word", "least", "most"] (sp_number_in K)) (D_read_colour : Dfn P w K mg base 4 "read_colour" ["span", "pages"] (sp_read_colour K)) (D_is_name : Dfn P w K mg base 2 "is_name" ["word"] (sp_is_name K)) :
    FnOk P w K mg base CX0 5 fa fd ["word", "pages"] (sp_value_of K) := by
  refine F.ok sc_value_of (fun vs H Q E h => ?_) (fun cdv A outer s H vs Q E hr h => ?_)
  · obtain ⟨z, n, rfl, _⟩ := h
    rfl
  obtain ⟨z, n, rfl, hz, q⟩ := h
  have hsz : z.length ≤ sizeLine := Nat.le_trans hz (small (by decide))
  refine ⟨_, (pss_cons (ps_if (pt_cmpR op_eq (pv 0) (pe_gs T.STAPLE rfl) (nomark _)) (pss_one (ps_ret pe_bl)) pss_nil)
  (pss_cons (ps_if (pt_truth (pe_callD D_is_layout (hr.mono (by decide)) rfl (pa_cons (pv 0) pa_nil)) (fun _ => rfl)) (pss_one (ps_ret (pv 0))) pss_nil)
  (pss_cons (ps_if (pt_truth (pe_bm PySem.F.plainAttrs_str PySem.F.slot_str_startswith PySem.F.type_str_startswith mt_startswith (pv 0) (pa_cons (pe_gs T.COPIES rfl) pa_nil)) (fun _ => rfl)) (pss_one (ps_ret (pe_callD D_number_in (hr.mono (by decide)) rfl (pa_cons (pe_slice sl_str (pv 0) (po_some (pe_callB call_len_str rfl T.len PySem.boot_len (pa_cons (pe_gs T.COPIES rfl) pa_nil))) po_none) (pa_cons pe_int (pa_cons (pe_gi T.COPIES_MOST rfl) pa_nil)))))) pss_nil)
  (pss_cons (ps_if (pt_truth (pe_bm PySem.F.plainAttrs_str PySem.F.slot_str_startswith PySem.F.type_str_startswith mt_startswith (pv 0) (pa_cons (pe_gs T.COLOUR rfl) pa_nil)) (fun _ => rfl)) (pss_one (ps_ret (pe_callD D_read_colour (hr.mono (by decide)) rfl (pa_cons (pe_slice sl_str (pv 0) (po_some (pe_callB call_len_str rfl T.len PySem.boot_len (pa_cons (pe_gs T.COLOUR rfl) pa_nil))) po_none) (pa_cons (pv 1) pa_nil))))) pss_nil)
  (pss_cons (ps_for PassesOwn.never rfl (pi_tup (pe_tup (pa_cons (pe_gs T.PAPER rfl) (pa_cons (pe_gs T.COVER rfl) (pa_cons (pe_gs T.AFTER rfl) pa_nil))))) (pg_name (i := 2) sc_value_of.nd rfl (by first | exact Or.inl rfl | exact Or.inr rfl))
  (pss_one (ps_if (PW.pt (pw_and (pt_truth (pe_bm PySem.F.plainAttrs_str PySem.F.slot_str_startswith PySem.F.type_str_startswith mt_startswith (pv 0) (pa_cons (pv 2) pa_nil)) (fun _ => rfl)) (pw_and1 (pt_truth (pe_callD D_is_name (hr.mono (by decide)) rfl (pa_cons (pe_slice sl_str (pv 0) (po_some (pe_callB call_len_str rfl T.len PySem.boot_len (pa_cons (pv 2) pa_nil))) po_none) pa_nil)) (fun _ => rfl))))) (pss_one (ps_ret (pe_slice sl_str (pv 0) (po_some (pe_callB call_len_str rfl T.len PySem.boot_len (pa_cons (pv 2) pa_nil))) po_none))) pss_nil)))
  (pss_one (ps_ret pe_non))))))), ?_⟩
  have fin : ∀ v H', Same H H' → valueOf z n = .v v → Q v H' := fun v H' sm e => q v H' sm (by rw [e]; exact rfl)
  refine ⟨_, rfl, rfl, _, rfl, ?_⟩
  by_cases c1 : z = cSta
  · rw [decide_eq_true (by rw [c1])]
    exact iteT (fin _ H (Same.refl H) (by unfold valueOf; rw [if_pos c1]))
  rw [decide_eq_false (by intro e; injection e with e; exact c1 e)]
  refine iteF ?_
  refine ⟨_, rfl, z, rfl, hz, fun H1 s1 => ?_⟩
  refine ⟨_, rfl, ?_⟩
  cases c2 : lay z with
  | true => exact iteT ⟨_, rfl, fin _ H1 s1 (by unfold valueOf; rw [if_neg c1, if_pos c2])⟩
  | false =>
  refine iteF ?_
  refine ⟨_, rfl, rfl, z, cX, rfl, rfl, ?_⟩
  refine ⟨_, rfl, ?_⟩
  cases c3 : Txt.startswith z cX with
  | true =>
    refine iteT ?_
    have w1 := Txt.slice_le z (some 1) none
    refine ⟨_, rfl, _, rfl, small (by decide +kernel), _, rfl, z, rfl, hsz, _, 1, 99, rfl, by exact Nat.le_trans (Txt.slice_le z _ none) hz, fun H2 s2 => fin _ H2 (s1.trans s2) ?_⟩
    unfold valueOf
    rw [if_neg c1, c2, if_neg (by decide), if_pos c3]
    rfl
  | false =>
  refine iteF ?_
  refine ⟨_, rfl, rfl, z, cCol, rfl, rfl, ?_⟩
  refine ⟨_, rfl, ?_⟩
  cases c4 : Txt.startswith z cCol with
  | true =>
    refine iteT ?_
    refine ⟨_, rfl, _, rfl, small (by decide +kernel), _, rfl, z, rfl, hsz, _, rfl, _, n, rfl, by exact Nat.le_trans (Txt.slice_le z _ none) hz, fun x H2 s2 hx => q x H2 (s1.trans s2) ?_⟩
    have e : valueOf z n = readCol (rst z cCol) n := by
      unfold valueOf
      rw [if_neg c1, c2, if_neg (by decide), c3, if_neg (by decide), if_pos c4]
    rw [e]
    exact hx
  | false =>
  refine iteF ?_
  refine ⟨small (by show 3 ≤ 1000; decide), fun t ht => ?_⟩
  have base_ : ∀ r, three.find? (fun p => Txt.startswith z p && good (rst z p)) = r → valueOf z n = (match r with | some p => .v (.str (rst z p)) | none => non) := fun r hr => by
    unfold valueOf
    rw [if_neg c1, c2, if_neg (by decide), c3, if_neg (by decide), c4, if_neg (by decide), hr]
    all_goals (cases r <;> rfl)
  refine ⟨t, rfl, ⟨_, SqT.of upd_same⟩, for_tup (K := K) (a := t) (xs := three.map V.str) (fun i σ H' => Same (upd H1 t (.tup (three.map V.str))) H' ∧ (∃ v, σ = [some (.str z), some (.int n), v]) ∧ (three.take i).find? (fun p => Txt.startswith z p && good (rst z p)) = none) ⟨Same.refl _, ⟨_, rfl⟩, rfl⟩ (fun i σ H' _ p => ?_) (fun i x σ H' hx p => ?_) (fun σ H' p => ?_)⟩
  · exact SqT.of (p.1 _ _ upd_same)
  · obtain ⟨s2, ⟨v, rfl⟩, hn⟩ := p
    have s3 : Same H H' := (s1.trans (same_new ht _)).trans s2
    rw [List.getElem?_map] at hx
    obtain ⟨y, hy, rfl⟩ := Option.map_eq_some_iff.mp hx
    have ly : y.length ≤ 1000 := by
      have hm : y ∈ three := List.mem_of_getElem? hy
      have : ∀ w ∈ three, w.length ≤ 1000 := by decide +kernel
      exact this y hm
    refine ⟨_, rfl, rfl, _, rfl, z, y, rfl, rfl, ?_⟩
    refine ⟨_, rfl, ?_⟩
    have tk := take_more hy
    have next : (Txt.startswith z y && good (rst z y)) = false → (three.take (i + 1)).find? (fun p => Txt.startswith z p && good (rst z p)) = none := fun e => by
      rw [tk, List.find?_append, hn]
      show List.find? (fun p => Txt.startswith z p && good (rst z p)) [y] = none
      rw [List.find?_cons_of_neg (h := by rw [e]; decide)]
      rfl
    cases hs : Txt.startswith z y with
    | false => exact iteF (iteF ⟨s2, ⟨_, rfl⟩, next (by rw [hs]; rfl)⟩)
    | true =>
      refine iteT ?_
      refine ⟨_, rfl, _, rfl, y, rfl, small ly, _, rfl, z, rfl, hsz, _, rfl, Nat.le_trans (Txt.slice_le z _ none) hz, fun H2 s4 => ?_⟩
      refine ⟨_, rfl, ?_⟩
      cases hg : good (rst z y) with
      | false =>
        have hg' : good (Txt.slice z (some ((y.length : Nat) : Int)) none) = false := hg
        rw [hg']
        exact iteF ⟨s2.trans s4, ⟨_, rfl⟩, next (by rw [hs, hg]; rfl)⟩
      | true =>
        have hg' : good (Txt.slice z (some ((y.length : Nat) : Int)) none) = true := hg
        rw [hg']
        refine iteT ⟨_, rfl, _, rfl, y, rfl, small ly, _, rfl, z, rfl, hsz, ?_⟩
        refine fin _ H2 (s3.trans s4) ?_
        have fd : three.find? (fun p => Txt.startswith z p && good (rst z p)) = some y := by
          rw [← List.take_append_drop (i + 1) three, tk, List.append_assoc, List.find?_append, hn]
          show List.find? (fun p => Txt.startswith z p && good (rst z p)) (y :: three.drop (i + 1)) = some y
          rw [List.find?_cons_of_pos (h := by rw [hs, hg]; rfl)]
        rw [base_ _ fd]
        rfl
  · obtain ⟨s2, ⟨v, rfl⟩, hn⟩ := p
    rw [List.length_map, List.take_of_length_le (Nat.le_refl _)] at hn
    exact fin _ H' ((s1.trans (same_new ht _)).trans s2) (by rw [base_ _ hn]; rfl)
end
end My
namespace My
open PySem L2
open Blk (sg sg_inj sg_app)
section
variable {P : Program} {w : World} {K : PySem.W.Frag} {mg : Str → Option Value} {base : Heap}
theorem head_ok {ws : List Str} {n : Int} (h : readHead ws = .ok n) : ∃ a b c r, ws = a :: b :: c :: r ∧ good a = true ∧ good b = true ∧ inNum c 1 999 = .int n := by
  unfold readHead at h
  by_cases c1 : good (ws.getD 0 cBlank) = false
  · rw [if_pos c1] at h; cases h
  rw [if_neg c1] at h
  by_cases c2 : ws.length < 2
  · rw [if_pos c2] at h; cases h
  rw [if_neg c2] at h
  by_cases c3 : good (ws.getD 1 cBlank) = false
  · rw [if_pos c3] at h; cases h
  rw [if_neg c3] at h
  by_cases c4 : ws.length < 3
  · rw [if_pos c4] at h; cases h
  rw [if_neg c4] at h
  match ws with
  | [] => simp at c2
  | [a] => simp at c2
  | [a, b] => simp at c4
  | a :: b :: c :: r =>
    refine ⟨a, b, c, r, rfl, Bool.not_eq_false _ |>.mp c1, Bool.not_eq_false _ |>.mp c3, ?_⟩
    have h' : (match inNum c 1 999 with | .int n => Except.ok n | _ => .error 2) = Except.ok (ε := Nat) n := h
    rcases inNum_cases c 1 999 with e | ⟨m, e, _⟩
    · rw [e] at h'; cases h'
    · rw [e] at h'
      injection h' with h'
      rw [e, h']
theorem sc_read_head : FnScope ["words", "place", "word", "pages"] ["words"] (defScope s_read_head) := ⟨rfl, rfl, rfl, by decide +kernel, rfl, by decide +kernel, by decide +kernel⟩
theorem ok_read_head {fa cJob cBadLine cBusy cDry cGoesRound cNoHeap cNoPrinter cNotNow cNoWay cNowhere cOver cTooMuch cTwice cUnknown cHallError : Addr} {fd : FuncData} (F : Fun K "read_head" "read_head" s_read_head fa fd) (T : Txt K mg cJob cBadLine cBusy cDry cGoesRound cNoHeap cNoPrinter cNotNow cNoWay cNowhere cOver cTooMuch cTwice cUnknown cHallError) (D_number_in : Dfn P w K mg base 3 "number_in" ["word", "least", "most"] (sp_number_in K)) (X_BadLine : MkXD P w K mg base 1 "BadLine" cBadLine ["self", "place"] (sp_one cBadLine "place")) (D_is_name : Dfn P w K mg base 2 "is_name" ["word"] (sp_is_name K)) :
    FnOk P w K mg base (CXe P w) 4 fa fd ["words"] (sp_read_head cBadLine) := by
  refine F.okE sc_read_head (fun vs H Q E h => ?_) (fun cdv A outer s H vs Q E hr h => ?_)
  · obtain ⟨p, ws, rfl, _⟩ := h
    rfl
  obtain ⟨p, ws, rfl, hp, hw, hne, q, qe⟩ := h
  refine ⟨_, (pss_cons (ps_for own_def rfl (pi_enum rfl T.enumerate (pa_cons (pe_slice sl_list (pv 0) po_none (po_some (pe_op op_sub (pe_gi T.HEAD rfl) pe_int))) pa_nil)) (pg_tup rfl (pgs_cons (pg_name (i := 1) sc_read_head.nd rfl (by first | exact Or.inl rfl | exact Or.inr rfl)) (pgs_cons (pg_name (i := 2) sc_read_head.nd rfl (by first | exact Or.inl rfl | exact Or.inr rfl)) pgs_nil)))
  (pss_one (ps_if (pt_not (pt_truth (pe_callD D_is_name (hr.mono (by decide)) rfl (pa_cons (pv 2) pa_nil)) (fun _ => rfl))) (pss_one (ps_raise raise_def rfl (pe_makeXD X_BadLine (hr.mono (by decide)) rfl (pa_cons (pv 1) pa_nil)))) pss_nil)))
  (pss_cons (ps_if (pt_cmpR op_lt (pe_callB call_len_seq rfl T.len PySem.boot_len (pa_cons (pv 0) pa_nil)) (pe_gi T.HEAD rfl) (nomark _)) (pss_one (ps_raise raise_def rfl (pe_makeXD X_BadLine (hr.mono (by decide)) rfl (pa_cons (pe_callB call_len_seq rfl T.len PySem.boot_len (pa_cons (pv 0) pa_nil)) pa_nil)))) pss_nil)
  (pss_cons (ps_set (i := 3) sc_read_head.nd rfl (by first | exact Or.inl rfl | exact Or.inr rfl) (pe_callD D_number_in (hr.mono (by decide)) rfl (pa_cons (pe_ix ix_listA (pv 0) (pe_op op_sub (pe_gi T.HEAD rfl) pe_int) (fun _ _ => rfl)) (pa_cons pe_int (pa_cons (pe_gi T.PAGES_MOST rfl) pa_nil)))))
  (pss_cons (ps_if (pt_cmpR op_isN (pv 3) pe_non (nomark _)) (pss_one (ps_raise raise_def rfl (pe_makeXD X_BadLine (hr.mono (by decide)) rfl (pa_cons (pe_op op_sub (pe_gi T.HEAD rfl) pe_int) pa_nil)))) pss_nil)
  (pss_one (ps_ret (pv 3))))))), ?_⟩
  refine ⟨_, rfl, _, _, rfl, rfl, _, rfl, p, _, rfl, SqL.of hp, fun p2 hp2 => ?_⟩
  have cut : cutV (ws.map V.str) none (some (3 - 1)) = (ws.take 2).map V.str := by
    rw [show (3 - 1 : Int) = ((2 : Nat) : Int) from rfl, cut_to, List.map_take]
  rw [cut]
  have s0 := same_new hp2 (.lst ((ws.take 2).map V.str))
  have hq2 : upd H p2 (.lst ((ws.take 2).map V.str)) p2 = some (.lst ((ws.take 2).map V.str)) := upd_same
  generalize upd H p2 (.lst ((ws.take 2).map V.str)) = H1 at s0 hq2 ⊢
  refine ⟨p2, rfl, ⟨_, SqL.of hq2⟩, for_enum (K := K) (a := p2) (j := 0) (xs := (ws.take 2).map V.str) (fun i σ H' => Same H H' ∧ H' p2 = some (.lst ((ws.take 2).map V.str)) ∧ (∀ j, j < i → good (ws.getD j cBlank) = true) ∧ ∃ v1 v2 v3 : Option V, σ = [some (.ref p), v1, v2, v3]) ⟨s0, hq2, fun j z => absurd z (Nat.not_lt_zero _), _, _, _, rfl⟩ (fun i σ H' _ z => SqL.of z.2.1) (fun i x σ H' t hx z ht => ?_) (fun σ H' z => ?_)⟩
  · obtain ⟨sm, hz, pre, v1, v2, v3, rfl⟩ := z
    rw [List.getElem?_map] at hx
    obtain ⟨y, hy, rfl⟩ := Option.map_eq_some_iff.mp hx
    have li := (List.getElem?_eq_some_iff.mp hy).1
    rw [List.length_take] at li
    have hyw : ws[i]? = some y := by rw [List.getElem?_take, if_pos (by omega)] at hy; exact hy
    have gd : ws.getD i cBlank = y := by rw [List.getD_eq_getElem?_getD, hyw]; rfl
    have s1 := same_new ht (.tup [V.int (0 + (i : Int)), V.str y])
    refine ⟨t, _, rfl, SqT.of upd_same, rfl, _, _, rfl, _, _, rfl, rfl, ?_⟩
    refine ⟨_, rfl, y, rfl, hw y (List.mem_of_getElem? hyw), fun H2 s2 => ⟨_, rfl, ?_⟩⟩
    cases gy : good y with
    | true =>
      refine iteF ⟨(sm.trans s1).trans s2, s2 _ _ (s1 _ _ hz), fun j hj => ?_, _, _, _, rfl⟩
      by_cases c : j = i
      · rw [c, gd]; exact gy
      · exact pre j (by omega)
    | false =>
      refine iteT ⟨_, rfl, raise_one T.x_BadLine.m fun ea H3 s3 _ gx => ?_⟩
      have er : readHead ws = .error i := by
        unfold readHead
        have : i = 0 ∨ i = 1 := by omega
        rcases this with rfl | rfl
        · rw [gd, if_pos gy]
        · rw [pre 0 (by decide), if_neg (by decide), if_neg (by omega), gd, if_pos gy]
      refine qe i er ea H3 (((sm.trans s1).trans s2).trans s3) ?_
      rwa [show (0 : Int) + (i : Int) = (i : Int) from by omega] at gx
  · obtain ⟨sm, hz, pre, v1, v2, v3, rfl⟩ := z
    have hp1 := sm _ _ hp
    rw [List.length_map, List.length_take] at pre
    have lw : 1 ≤ ws.length := by
      cases ws with
      | nil => exact absurd rfl hne
      | cons a b => exact Nat.succ_le_succ (Nat.zero_le _)
    refine ⟨_, rfl, p, _, rfl, .inl (SqL.of hp1), _, _, rfl, rfl, _, rfl, ?_⟩
    rw [List.length_map]
    have g0 := pre 0 (by omega)
    by_cases c : ws.length < 3
    · rw [decide_eq_true (by omega)]
      refine iteT ⟨_, rfl, p, _, rfl, .inl (SqL.of hp1), raise_one T.x_BadLine.m fun ea H3 s3 _ gx => ?_⟩
      have er : readHead ws = .error ws.length := by
        unfold readHead
        rw [g0, if_neg (by decide)]
        by_cases c2 : ws.length < 2
        · rw [if_pos c2]
        · rw [if_neg c2, pre 1 (by omega), if_neg (by decide), if_pos c]
      rw [List.length_map] at gx
      exact qe _ er ea H3 (sm.trans s3) gx
    · rw [decide_eq_false (by omega)]
      have g1 := pre 1 (by omega)
      refine iteF ?_
      refine ⟨_, rfl, _, _, rfl, rfl, p, _, _, rfl, rfl, SqL.of hp1, by decide, by show ((3 : Int) - 1) < _; rw [List.length_map]; omega, fun v hv => ?_⟩
      obtain ⟨y, hy⟩ : ∃ y, ws[2]? = some y := ⟨_, List.getElem?_eq_getElem (by omega)⟩
      obtain rfl : V.str y = v := by
        rw [show ((3 : Int) - 1).toNat = 2 from rfl, List.getElem?_map, hy] at hv
        exact Option.some.inj hv
      have g2 : ws.getD 2 cBlank = y := by rw [List.getD_eq_getElem?_getD, hy]; rfl
      have eh : readHead ws = match inNum y 1 999 with | .int n => .ok n | _ => .error 2 := by
        unfold readHead
        rw [g0, if_neg (by decide), if_neg (by omega), g1, if_neg (by decide), if_neg c, g2]
        all_goals rfl
      refine ⟨y, 1, 999, rfl, hw y (List.mem_of_getElem? hy), fun H2 s3 => ?_⟩
      rcases inNum_cases y 1 999 with e | ⟨m, e, _⟩
      · rw [e] at eh ⊢
        refine ⟨_, rfl, rfl, _, rfl, iteT ⟨_, _, rfl, rfl, raise_one T.x_BadLine.m fun ea H3 s4 _ gx => qe 2 eh ea H3 ((sm.trans s3).trans s4) gx⟩⟩
      · rw [e] at eh ⊢
        exact ⟨_, rfl, rfl, _, rfl, iteF ⟨_, rfl, q m eh H2 (sm.trans s3)⟩⟩
theorem sc_Job_init : FnScope ["self", "name", "asker", "pages", "copies", "layout", "paper", "cover", "colour", "staple", "after"] ["self", "name", "asker", "pages", "copies", "layout", "paper", "cover", "colour", "staple", "after"] (defScope s_Job_init) := ⟨rfl, rfl, rfl, by decide +kernel, rfl, by decide +kernel, by decide +kernel⟩
theorem ok_Job_init {fa cJob cBadLine cBusy cDry cGoesRound cNoHeap cNoPrinter cNotNow cNoWay cNowhere cOver cTooMuch cTwice cUnknown cHallError : Addr} {fd : FuncData} (F : Fun K "__init__" "Job.__init__" s_Job_init fa fd) (T : Txt K mg cJob cBadLine cBusy cDry cGoesRound cNoHeap cNoPrinter cNotNow cNoWay cNowhere cOver cTooMuch cTwice cUnknown cHallError)  :
    FnOk P w K mg base CX0 1 fa fd ["self", "name", "asker", "pages", "copies", "layout", "paper", "cover", "colour", "staple", "after"] (sp_Job_init cJob) := by
  refine F.ok sc_Job_init (fun vs H Q E h => ?_) (fun cdv A outer s H vs Q E hr h => ?_)
  · obtain ⟨x, dx, a, b, c, d, e, f, g, h, i, j, rfl, _⟩ := h
    rfl
  obtain ⟨x, dx, a, b, c, d, e, f, g, h, i, j, rfl, hx, q⟩ := h
  refine ⟨_, (pss_cons (ps_fld (pv 0) (pv 1) rfl)
  (pss_cons (ps_fld (pv 0) (pv 2) rfl)
  (pss_cons (ps_fld (pv 0) (pv 3) rfl)
  (pss_cons (ps_fld (pv 0) (pv 4) rfl)
  (pss_cons (ps_fld (pv 0) (pv 5) rfl)
  (pss_cons (ps_fld (pv 0) (pv 6) rfl)
  (pss_cons (ps_fld (pv 0) (pv 7) rfl)
  (pss_cons (ps_fld (pv 0) (pv 8) rfl)
  (pss_cons (ps_fld (pv 0) (pv 9) rfl)
  (pss_one (ps_fld (pv 0) (pv 10) rfl))))))))))), ?_⟩
  refine ⟨_, rfl, _, rfl, x, cJob, dx, _, rfl, hx, T.cl_Job, T.n_Job_name, (by show 0 < 1000; decide), ?_⟩
  rw [putF_new (by show ¬ ("name" : Str) ∈ ([] : List Str); decide +kernel)]
  refine ⟨_, rfl, _, rfl, x, cJob, dx, _, rfl, upd_same, T.cl_Job, T.n_Job_asker, (by show 1 < 1000; decide), ?_⟩
  rw [upd_upd, putF_new (by show ¬ ("asker" : Str) ∈ (["name"] : List Str); decide +kernel)]
  refine ⟨_, rfl, _, rfl, x, cJob, dx, _, rfl, upd_same, T.cl_Job, T.n_Job_pages, (by show 2 < 1000; decide), ?_⟩
  rw [upd_upd, putF_new (by show ¬ ("pages" : Str) ∈ (["name", "asker"] : List Str); decide +kernel)]
  refine ⟨_, rfl, _, rfl, x, cJob, dx, _, rfl, upd_same, T.cl_Job, T.n_Job_copies, (by show 3 < 1000; decide), ?_⟩
  rw [upd_upd, putF_new (by show ¬ ("copies" : Str) ∈ (["name", "asker", "pages"] : List Str); decide +kernel)]
  refine ⟨_, rfl, _, rfl, x, cJob, dx, _, rfl, upd_same, T.cl_Job, T.n_Job_layout, (by show 4 < 1000; decide), ?_⟩
  rw [upd_upd, putF_new (by show ¬ ("layout" : Str) ∈ (["name", "asker", "pages", "copies"] : List Str); decide +kernel)]
  refine ⟨_, rfl, _, rfl, x, cJob, dx, _, rfl, upd_same, T.cl_Job, T.n_Job_paper, (by show 5 < 1000; decide), ?_⟩
  rw [upd_upd, putF_new (by show ¬ ("paper" : Str) ∈ (["name", "asker", "pages", "copies", "layout"] : List Str); decide +kernel)]
  refine ⟨_, rfl, _, rfl, x, cJob, dx, _, rfl, upd_same, T.cl_Job, T.n_Job_cover, (by show 6 < 1000; decide), ?_⟩
  rw [upd_upd, putF_new (by show ¬ ("cover" : Str) ∈ (["name", "asker", "pages", "copies", "layout", "paper"] : List Str); decide +kernel)]
  refine ⟨_, rfl, _, rfl, x, cJob, dx, _, rfl, upd_same, T.cl_Job, T.n_Job_colour, (by show 7 < 1000; decide), ?_⟩
  rw [upd_upd, putF_new (by show ¬ ("colour" : Str) ∈ (["name", "asker", "pages", "copies", "layout", "paper", "cover"] : List Str); decide +kernel)]
  refine ⟨_, rfl, _, rfl, x, cJob, dx, _, rfl, upd_same, T.cl_Job, T.n_Job_staple, (by show 8 < 1000; decide), ?_⟩
  rw [upd_upd, putF_new (by show ¬ ("staple" : Str) ∈ (["name", "asker", "pages", "copies", "layout", "paper", "cover", "colour"] : List Str); decide +kernel)]
  refine ⟨_, rfl, _, rfl, x, cJob, dx, _, rfl, upd_same, T.cl_Job, T.n_Job_after, (by show 9 < 1000; decide), ?_⟩
  rw [upd_upd, putF_new (by show ¬ ("after" : Str) ∈ (["name", "asker", "pages", "copies", "layout", "paper", "cover", "colour", "staple"] : List Str); decide +kernel)]
  exact q
end
end My
namespace My
open PySem L2
open Blk (sg sg_inj sg_app)
section
variable {P : Program} {w : World} {K : PySem.W.Frag} {mg : Str → Option Value} {base : Heap}
theorem sc_told_job : FnScope ["words", "pages", "told", "copies", "layout", "paper", "staple", "after"] ["words", "pages", "told"] (defScope s_told_job) := ⟨rfl, rfl, rfl, by decide +kernel, rfl, by decide +kernel, by decide +kernel⟩
theorem ok_told_job {fa cJob cBadLine cBusy cDry cGoesRound cNoHeap cNoPrinter cNotNow cNoWay cNowhere cOver cTooMuch cTwice cUnknown cHallError : Addr} {fd : FuncData} (F : Fun K "told_job" "told_job" s_told_job fa fd) (T : Txt K mg cJob cBadLine cBusy cDry cGoesRound cNoHeap cNoPrinter cNotNow cNoWay cNowhere cOver cTooMuch cTwice cUnknown cHallError) (M_Job : MkD P w K mg base 1 "Job" cJob ["self", "name", "asker", "pages", "copies", "layout", "paper", "cover", "colour", "staple", "after"] (sp_Job_init cJob)) :
    FnOk P w K mg base CX0 3 fa fd ["words", "pages", "told"] (sp_told_job cJob) := by
  refine F.ok sc_told_job (fun vs H Q E h => ?_) (fun cdv A outer s H vs Q E hr h => ?_)
  · obtain ⟨p, D, ws, n, kvs, t, rfl, _⟩ := h
    rfl
  obtain ⟨p, D, ws, n, kvs, t, rfl, hp, h2, TD, ht, q⟩ := h
  have hu := hu_of hr
  obtain ⟨a, b, r, rfl⟩ : ∃ a b r, ws = a :: b :: r := by
    match ws, h2 with
    | a :: b :: r, _ => exact ⟨a, b, r, rfl⟩
    | [], h => simp at h
    | [a], h => simp at h
  refine ⟨_, (pss_cons (ps_set (i := 3) sc_told_job.nd rfl (by first | exact Or.inl rfl | exact Or.inr rfl) (pe_dget2 hu (pv 2) (pe_gs T.COPIES rfl) (pe_gi T.ONE_COPY rfl) ⟨rfl, rfl, rfl, rfl⟩))
  (pss_cons (ps_set (i := 4) sc_told_job.nd rfl (by first | exact Or.inl rfl | exact Or.inr rfl) (pe_dget2 hu (pv 2) (pe_gs T.LAYOUT rfl) (pe_gs T.ONE_LAYOUT rfl) ⟨rfl, rfl, rfl, rfl⟩))
  (pss_cons (ps_set (i := 5) sc_told_job.nd rfl (by first | exact Or.inl rfl | exact Or.inr rfl) (pe_dget2 hu (pv 2) (pe_gs T.PAPER rfl) (pe_gs T.PLAIN rfl) ⟨rfl, rfl, rfl, rfl⟩))
  (pss_cons (ps_set (i := 6) sc_told_job.nd rfl (by first | exact Or.inl rfl | exact Or.inr rfl) (pe_dget2 hu (pv 2) (pe_gs T.STAPLE rfl) pe_bl ⟨rfl, rfl, rfl, rfl⟩))
  (pss_cons (ps_set (i := 7) sc_told_job.nd rfl (by first | exact Or.inl rfl | exact Or.inr rfl) (pe_frz (pe_callTy call_tuple_of rfl T.tuple bt_tuple (pa_cons (pe_comp (frees := [("told", 2)]) ⟨by decide +kernel, rfl, rfl, by decide +kernel, ⟨⟨rfl, rfl, rfl, by decide +kernel⟩, trivial⟩, by decide +kernel, cellsFor_at rfl, rfl⟩ rfl (pi_dict (pv 2)) (fun _ _ _ _ => by exact (pifs_one (pt_truthK (K := K) rfl (pe_bmK (K := K) rfl PySem.F.plainAttrs_str PySem.F.slot_str_startswith PySem.F.type_str_startswith mt_startswith (pv 0) (pa_cons (pe_gs T.AFTER rfl) pa_nil)) (fun _ => rfl)))) (fun _ _ _ _ => by exact (pe_dget hu (pv 1) (pv 0) (fun _ _ => rfl)))) pa_nil))))
  (pss_one (ps_ret (pe_makeD M_Job (hr.mono (by decide)) rfl (pa_cons (pe_ix ix_list (pv 0) pe_int (fun _ _ => rfl)) (pa_cons (pe_ix ix_list (pv 0) pe_int (fun _ _ => rfl)) (pa_cons (pv 1) (pa_cons (pv 3) (pa_cons (pv 4) (pa_cons (pv 5) (pa_cons (pe_dget1 hu (pv 2) (pe_gs T.COVER rfl) ⟨rfl, rfl, rfl, rfl⟩) (pa_cons (pe_dget1 hu (pv 2) (pe_gs T.COLOUR rfl) ⟨rfl, rfl, rfl, rfl⟩) (pa_cons (pv 6) (pa_cons (pv 7) pa_nil)))))))))))))))))), ?_⟩
  have hD := TD.at_
  have isD : IsD H D := .inl ⟨kvs, .inl hD⟩
  refine ⟨_, rfl, D, rfl, isD, _, DGet.k (k := Sum.inr cX) hD, ?_⟩
  refine ⟨_, rfl, D, rfl, isD, _, DGet.k (k := Sum.inr cLay) hD, ?_⟩
  refine ⟨_, rfl, D, rfl, isD, _, DGet.k (k := Sum.inr cPap) hD, ?_⟩
  refine ⟨_, rfl, D, rfl, isD, _, DGet.k (k := Sum.inr cSta) hD, ?_⟩
  refine ⟨D, kvs, hD, fun o => ?_⟩
  have nd := TD.nodup
  have txts : ∀ x ∈ kvs.map (fun p => kV p.1), ∃ (s : Str) (v : V), x = V.str s ∧ (Sum.inr s, v) ∈ kvs := fun x hx => by
    obtain ⟨⟨k, v⟩, hq, rfl⟩ := List.mem_map.mp hx
    have m : k ∈ kvs.map (·.1) := List.mem_map_of_mem (f := fun z : Key × V => z.1) hq
    rw [Told.keys TD.rel] at m
    obtain ⟨s, _, rfl⟩ := List.mem_map.mp m
    exact ⟨s, v, rfl, hq⟩
  refine ⟨_, rfl, D, o, kvs, rfl, upd_same, compB_seq (seq_dict upd_same) afterP (luV kvs) ?_ (fun x hx H' R sm r => ?_) (fun x hx H' R sm _ r => ?_) (fun L H' sm hL hH => ?_)⟩
  · rw [List.length_map, TD.len]
    exact small1000 (by omega)
  · obtain ⟨s, v, rfl, _⟩ := txts x hx
    exact ⟨_, rfl, rfl, s, cAft, rfl, rfl, _, rfl, r⟩
  · obtain ⟨s, v, rfl, hq⟩ := txts x hx
    have e : valV kvs (Sum.inr s : Key) = some v := val_mem nd _ hq
    refine ⟨_, rfl, _, rfl, D, v, rfl, .inl ⟨kvs, Sum.inr s, .inr ⟨o, sm _ _ upd_same⟩, rfl, e.symm⟩, ?_⟩
    have e2 : luV kvs (.str s) = v := by
      show (valV kvs (Sum.inr s : Key)).getD .non = v
      rw [e]
      rfl
    rw [e2] at r
    exact r
  have hgq : ∀ q ∈ kvs, luV kvs (kV q.1) = q.2 := fun q hq => by
    obtain ⟨s, v, e, _⟩ := txts (kV q.1) (List.mem_map_of_mem (f := fun p : Key × V => kV p.1) hq)
    have ek : q.1 = Sum.inr s := kV_inj e
    rw [e]
    show (valV kvs (Sum.inr s : Key)).getD .non = q.2
    rw [← ek, val_mem nd q hq]
    rfl
  have af := TD.after _ hgq
  refine ⟨L, _, rfl, .inl ⟨SqL.of hH, fun l hl => ⟨?_, ?_⟩⟩⟩
  · rw [upd_ne (ne_of_none (sm _ _ upd_same) hl)]
    exact sm _ _ upd_same
  have nD : ∀ b u, H b = some u → b ≠ D → H' b = some u := fun b u e ne => sm b u (by rw [upd_ne ne]; exact e)
  generalize hH5 : upd (upd H' l (.tup (((kvs.map fun p => kV p.1).filter afterP).map (luV kvs)))) D (.dK kvs) = H5
  have hDl : D ≠ l := fun e => by
    have := sm _ _ (upd_same (H := H) (a := D) (o := .frz o (.dK kvs)))
    rw [e, hl] at this
    cases this
  have s5 : Same H H5 := fun b u e => by
    rw [← hH5]
    by_cases hb : b = D
    · subst hb
      rw [upd_same, ← hD]
      exact e
    · have e1 := nD b u e hb
      rw [upd_ne hb, upd_ne (ne_of_none e1 hl)]
      exact e1
  have hl5 : H5 l = some (.tup (((kvs.map fun p => kV p.1).filter afterP).map (luV kvs))) := by
    rw [← hH5, upd_ne (Ne.symm hDl), upd_same]
  have T5 := TD.same s5
  have isD5 : IsD H5 D := .inl ⟨kvs, .inl T5.at_⟩
  have hp5 := s5 _ _ hp
  refine ⟨_, rfl, p, _, _, _, rfl, rfl, SqL.of hp5, atI_nat (j := 0) rfl, ?_⟩
  refine ⟨_, rfl, p, _, _, _, rfl, rfl, SqL.of hp5, atI_nat (j := 1) rfl, ?_⟩
  refine ⟨_, rfl, _, rfl, _, rfl, _, rfl, ?_⟩
  refine ⟨_, rfl, D, rfl, isD5, _, DGet.k (k := Sum.inr cCov) T5.at_, ?_⟩
  refine ⟨_, rfl, D, rfl, isD5, _, DGet.k (k := Sum.inr cCol) T5.at_, ?_⟩
  refine ⟨_, rfl, _, rfl, fun x dx nx ndx ne => ?_⟩
  refine ⟨x, dx, _, _, _, _, _, _, _, _, _, _, rfl, upd_same, rfl, ?_⟩
  rw [upd_upd]
  have s6 : Same H5 (upd (upd H5 dx (.own x)) x (.ins cJob dx (jobF (.str a) (.str b) (.int n) ((valV kvs (Sum.inr cX : Key)).getD (.int 1)) ((valV kvs (Sum.inr cLay : Key)).getD (.str cOne)) ((valV kvs (Sum.inr cPap : Key)).getD (.str cPla)) ((valV kvs (Sum.inr cCov : Key)).getD .non) ((valV kvs (Sum.inr cCol : Key)).getD .non) ((valV kvs (Sum.inr cSta : Key)).getD (.bl false)) (.ref l)))) := fun b u e => by
    rw [upd_ne (ne_of_none e nx), upd_ne (ne_of_none e ndx)]
    exact e
  have T6 := T5.same s6
  refine q x _ (s5.trans s6) ⟨dx, l, _, _, _, _, _, _, _, upd_same, T6.some_ cX rfl, T6.some_ cLay rfl, T6.some_ cPap rfl, T6.some_ cCov rfl, T6.some_ cCol rfl, T6.some_ cSta rfl, s6 _ _ hl5, ?_⟩
  exact Paired.mapP af fun _ _ h => h.same (s5.trans s6)
theorem sc_read_job : FnScope ["line", "words", "pages", "told", "place", "word", "value", "sort"] ["line"] (defScope s_read_job) := ⟨rfl, rfl, rfl, by decide +kernel, rfl, by decide +kernel, by decide +kernel⟩
theorem ok_read_job {fa cJob cBadLine cBusy cDry cGoesRound cNoHeap cNoPrinter cNotNow cNoWay cNowhere cOver cTooMuch cTwice cUnknown cHallError : Addr} {fd : FuncData} (F : Fun K "read_job" "read_job" s_read_job fa fd) (T : Txt K mg cJob cBadLine cBusy cDry cGoesRound cNoHeap cNoPrinter cNotNow cNoWay cNowhere cOver cTooMuch cTwice cUnknown cHallError) (D_words_of : Dfn P w K mg base 1 "words_of" ["line"] (sp_words_of K)) (D_read_head : DfE P w K mg base 4 "read_head" ["words"] (sp_read_head cBadLine)) (D_told_job : Dfn P w K mg base 3 "told_job" ["words", "pages", "told"] (sp_told_job cJob)) (D_value_of : Dfn P w K mg base 5 "value_of" ["word", "pages"] (sp_value_of K)) (D_sort_of : Dfn P w K mg base 5 "sort_of" ["word"] (sp_sort_of K)) (X_BadLine : MkXD P w K mg base 1 "BadLine" cBadLine ["self", "place"] (sp_one cBadLine "place")) :
    FnOk P w K mg base (CXe P w) 6 fa fd ["line"] (sp_read_job cJob cBadLine) := by
  refine F.okE sc_read_job (fun vs H Q E h => ?_) (fun cdv A outer s H vs Q E hr h => ?_)
  · obtain ⟨z, rfl, _⟩ := h
    rfl
  obtain ⟨z, rfl, hz, q, qe⟩ := h
  have hu := hu_of hr
  have wl : ∀ w ∈ Txt.split z cBlank, w.length ≤ 900 := fun w hw => Nat.le_trans (split_part_le z cBlank w hw) hz
  have wn : (Txt.split z cBlank).length ≤ 902 := by
    have := PyProof.Rows.split_le z cBlank
    omega
  have wne : Txt.split z cBlank ≠ [] := split_ne z 32
  refine ⟨_, (pss_cons (ps_set (i := 1) sc_read_job.nd rfl (by first | exact Or.inl rfl | exact Or.inr rfl) (pe_callD D_words_of (hr.mono (by decide)) rfl (pa_cons (pv 0) pa_nil)))
  (pss_cons (ps_set (i := 2) sc_read_job.nd rfl (by first | exact Or.inl rfl | exact Or.inr rfl) (pe_callE D_read_head pass_def (hr.mono (by decide)) rfl (pa_cons (pv 1) pa_nil)))
  (pss_cons (ps_set (i := 3) sc_read_job.nd rfl (by first | exact Or.inl rfl | exact Or.inr rfl) pe_dnewK)
  (pss_cons (ps_for own_def rfl (pi_enumK rfl T.enumerate (pa_cons (pe_slice sl_list (pv 1) (po_some (pe_gi T.HEAD rfl)) po_none) pa_nil) (pk_cons (pe_gi T.HEAD rfl) pk_nil)) (pg_tup rfl (pgs_cons (pg_name (i := 4) sc_read_job.nd rfl (by first | exact Or.inl rfl | exact Or.inr rfl)) (pgs_cons (pg_name (i := 5) sc_read_job.nd rfl (by first | exact Or.inl rfl | exact Or.inr rfl)) pgs_nil)))
  (pss_cons (ps_set (i := 6) sc_read_job.nd rfl (by first | exact Or.inl rfl | exact Or.inr rfl) (pe_callD D_value_of (hr.mono (by decide)) rfl (pa_cons (pv 5) (pa_cons (pv 2) pa_nil))))
  (pss_cons (ps_set (i := 7) sc_read_job.nd rfl (by first | exact Or.inl rfl | exact Or.inr rfl) (pe_callD D_sort_of (hr.mono (by decide)) rfl (pa_cons (pv 5) pa_nil)))
  (pss_cons (ps_if (PW.pt (pw_or (pt_cmpR op_isN (pv 6) pe_non (nomark _)) (pw_or1 (pt_cmp (pc_din hu (pv 7) (pv 3)))))) (pss_one (ps_raise raise_def rfl (pe_makeXD X_BadLine (hr.mono (by decide)) rfl (pa_cons (pv 4) pa_nil)))) pss_nil)
  (pss_one (ps_dput hu (pv 3) (pv 7) (pv 6) rfl))))))
  (pss_one (ps_ret (pe_callD D_told_job (hr.mono (by decide)) rfl (pa_cons (pv 1) (pa_cons (pv 2) (pa_cons (pv 3) pa_nil)))))))))), ?_⟩
  refine ⟨_, rfl, z, rfl, hz, fun p H1 s1 fp hp => ?_⟩
  unfold readJ at q qe
  generalize Txt.split z cBlank = ws at q qe wl wn wne hp
  refine ⟨_, rfl, p, ws, rfl, hp, wl, wne, fun n hh => ?_, fun i hh ea H2 s2 gx => qe i (by rw [hh]) ea H2 (s1.trans s2) gx⟩
  intro H2 s2
  rw [hh] at q qe
  dsimp only at q qe
  have h3 : 2 ≤ ws.length := by
    obtain ⟨a, b, c, r, rfl, _⟩ := head_ok hh
    simp
  intro D hD
  have hp2 := s2 _ _ hp
  have npD : p ≠ D := ne_of_none hp2 hD
  have hp3 : (upd H2 D (.dK [])) p = some (.lst (ws.map V.str)) := by rw [upd_ne npD]; exact hp2
  refine ⟨_, rfl, _, rfl, p, _, rfl, SqL.of hp3, fun p2 hq2 => ?_⟩
  have cut : cutV (ws.map V.str) (some 3) none = (ws.drop 3).map V.str := by
    rw [show (3 : Int) = ((3 : Nat) : Int) from rfl, cut_from, List.map_drop]
  rw [cut]
  have nDp2 : D ≠ p2 := ne_of_none (H := upd H2 D (.dK [])) upd_same hq2
  have s3 : Same H1 (upd (upd H2 D (.dK [])) p2 (.lst ((ws.drop 3).map V.str))) := (s2.trans (same_new hD _)).trans (same_new hq2 _)
  refine ⟨p2, 3, rfl, rfl, ⟨_, SqL.of upd_same⟩, by decide +kernel, for_enum (K := K) (a := p2) (j := 3) (xs := (ws.drop 3).map V.str)
    (fun i σ H' => Same H H' ∧ H' p = some (.lst (ws.map V.str)) ∧ H' p2 = some (.lst ((ws.drop 3).map V.str)) ∧ (∃ kvs, Told H' D kvs (told n ((ws.drop 3).take i))) ∧ readTail n ((ws.drop 3).drop i) (3 + i) (told n ((ws.drop 3).take i)) = readTail n (ws.drop 3) 3 [] ∧ ∃ v1 v2 v3 v4 : Option V, σ = [some (.str z), some (.ref p), some (.int n), some (.ref D), v1, v2, v3, v4])
    ⟨s1.trans s3, s3 _ _ hp, upd_same, ⟨[], by rw [upd_ne nDp2, upd_same], .nil, List.nodup_nil⟩, rfl, _, _, _, _, rfl⟩ (fun i σ H' _ p => SqL.of p.2.2.1) (fun i x σ H' c hx p hc => ?_) (fun σ H' p => ?_)⟩
  · obtain ⟨sm, hp', hp2', ⟨kvs, TD⟩, eT, v1, v2, v3, v4, rfl⟩ := p
    rw [List.getElem?_map] at hx
    obtain ⟨y, hy, rfl⟩ := Option.map_eq_some_iff.mp hx
    have ly : y.length ≤ 900 := wl y (List.mem_of_mem_drop (List.mem_of_getElem? hy))
    have hi : i < (ws.drop 3).length := (List.getElem?_eq_some_iff.mp hy).1
    have edr : (ws.drop 3).drop i = y :: (ws.drop 3).drop (i + 1) := by
      rw [List.drop_eq_getElem_cons hi]
      congr 1
      exact (List.getElem?_eq_some_iff.mp hy).2
    rw [edr] at eT
    have eT' : (if valueOf y n = non ∨ sortOf y ∈ (told n ((ws.drop 3).take i)).map (·.1) then .error (3 + i) else readTail n ((ws.drop 3).drop (i + 1)) (3 + i + 1) (told n ((ws.drop 3).take i) ++ [(sortOf y, valueOf y n)])) = readTail n (ws.drop 3) 3 [] := eT
    clear eT
    have e : told n ((ws.drop 3).take (i + 1)) = told n ((ws.drop 3).take i) ++ [(sortOf y, valueOf y n)] := by
      unfold told
      rw [take_more hy, List.map_append]
      rfl
    refine ⟨c, _, rfl, SqT.of upd_same, rfl, _, _, rfl, _, _, rfl, rfl, ?_⟩
    refine ⟨_, rfl, _, rfl, y, n, rfl, ly, fun v H3 s4 hv => ?_⟩
    refine ⟨_, rfl, y, rfl, ly, fun H4 s5 => ?_⟩
    have sA := ((same_new hc (.tup [V.int (3 + (i : Nat)), V.str y])).trans s4).trans s5
    have TD4 := TD.same sA
    have hv4 := hv.same s5
    have bad : (valueOf y n = non ∨ sortOf y ∈ (told n ((ws.drop 3).take i)).map (·.1)) → ∀ ea H5, Same H4 H5 → XG H5 ea cBadLine [(Str.ofString "place", .int (3 + (i : Int)))] → E (.ref cBadLine) (some ea) H5 := fun cc ea H5 s6 gx => by
      rw [if_pos cc] at eT'
      refine qe (3 + i) (by rw [← eT']) ea H5 (sm.trans (sA.trans s6)) ?_
      rwa [show (3 : Int) + (i : Int) = ((3 + i : Nat) : Int) by omega] at gx
    refine ⟨_, rfl, rfl, _, rfl, ?_⟩
    rw [hv4.non_iff]
    by_cases st1 : valueOf y n = non
    · rw [decide_eq_true st1]
      exact iteT (iteT ⟨_, rfl, raise_one T.x_BadLine.m fun ea H5 s6 _ gx => bad (.inl st1) ea H5 s6 gx⟩)
    rw [decide_eq_false st1]
    refine iteF ?_
    refine ⟨_, rfl, _, rfl, D, _, rfl, DGet.k (k := Sum.inr (sortOf y)) TD4.at_, _, rfl, ?_⟩
    have has := TD4.has (sortOf y)
    by_cases st2 : sortOf y ∈ (told n ((ws.drop 3).take i)).map (·.1)
    · rw [decide_eq_true st2] at has
      rw [has]
      exact iteT ⟨_, rfl, raise_one T.x_BadLine.m fun ea H5 s6 _ gx => bad (.inr st2) ea H5 s6 gx⟩
    have nk : valV kvs (Sum.inr (sortOf y) : Key) = none := by
      rw [decide_eq_false st2] at has
      cases h : valV kvs (Sum.inr (sortOf y) : Key) with
      | none => rfl
      | some _ => rw [h] at has; cases has
    rw [nk]
    refine iteF ?_
    rw [if_neg (fun z => z.elim st1 st2), ← e] at eT'
    have tl : kvs.length ≤ 902 := by
      rw [TD.len]
      unfold told
      rw [List.length_map, List.length_take, List.length_drop]
      omega
    refine ⟨_, rfl, _, rfl, _, rfl, D, _, rfl, DPut.k (k := Sum.inr (sortOf y)) TD4.at_ (small1000 (by omega)), ?_⟩
    have nDD : ∀ b u, H4 b = some u → (∀ kvs, u ≠ .dK kvs) → b ≠ D := fun b u e ne z => by
      rw [z, TD4.at_] at e
      injection e with e
      exact ne kvs e.symm
    refine ⟨fun b u e => ?_, ?_, ?_, ⟨kvs ++ [(Sum.inr (sortOf y), v)], ?_⟩, eT', _, _, _, _, rfl⟩
    · have e4 := sA _ _ (sm b u e)
      by_cases hb : b = D
      · subst hb
        exact absurd (s2.free hD) (by intro z; have := s1.free z; rw [this] at e; cases e)
      · rw [upd_ne hb]
        exact e4
    · rw [upd_ne (nDD _ _ (sA _ _ hp') (by intro k z; cases z))]
      exact sA _ _ hp'
    · rw [upd_ne (nDD _ _ (sA _ _ hp2') (by intro k z; cases z))]
      exact sA _ _ hp2'
    · rw [e]
      exact TD4.put hv4 nk
  · obtain ⟨sm, hp', hp2', ⟨kvs, TD⟩, eT, v1, v2, v3, v4, rfl⟩ := p
    rw [List.length_map, List.drop_of_length_le (Nat.le_refl _), List.take_of_length_le (Nat.le_refl _)] at eT
    rw [List.length_map, List.take_of_length_le (Nat.le_refl _)] at TD
    have ok : readTail n (ws.drop 3) 3 [] = .ok (told n (ws.drop 3)) := eT.symm
    refine ⟨_, rfl, _, rfl, _, rfl, p, D, ws, n, kvs, told n (ws.drop 3), rfl, hp', h3, TD, ?_, fun x H5 s6 J => q _ (by rw [ok]) x H5 (sm.trans s6) J⟩
    unfold told
    rw [List.length_map, List.length_drop]
    omega
end
end My
namespace My
open PySem L2
open Blk (sg sg_inj sg_app)
section
variable {P : Program} {w : World} {K : PySem.W.Frag} {mg : Str → Option Value} {base : Heap}
def sp__law_names (K : PySem.W.Frag) : Sp := fun vs H Q _ => ∃ (a : Addr) (k : Int) (m : Nat), vs = [.ref a, .int k, .int (m : Int)] ∧ Scr K H a ∧ 0 ≤ k ∧ k ≤ 1000 ∧ m ≤ 6 ∧ ∀ (p : Addr) (ns : List Str) (H' : Hp), Same H H' → H' p = some (.lst (ns.map V.str)) → NamesOk ns m → Q (.ref p) H'
theorem sc__law_names : FnScope ["_law_script", "_law_k", "_law_many", "_law_letters", "_law_size", "_law_place", "_law_rest", "_law_start", "_law_first", "_law_names_here", "_law_j", "_law_signs"] ["_law_script", "_law_k", "_law_many"] (defScope s__law_names) := ⟨rfl, rfl, rfl, by decide +kernel, rfl, by decide +kernel, by decide +kernel⟩
theorem ok__law_names {fa cJob cBadLine cBusy cDry cGoesRound cNoHeap cNoPrinter cNotNow cNoWay cNowhere cOver cTooMuch cTwice cUnknown cHallError : Addr} {fd : FuncData} (F : Fun K "_law_names" "_law_names" s__law_names fa fd) (T : Txt K mg cJob cBadLine cBusy cDry cGoesRound cNoHeap cNoPrinter cNotNow cNoWay cNowhere cOver cTooMuch cTwice cUnknown cHallError) (D__law_by : Dfn P w K mg base 2 "_law_by" ["_law_script", "_law_k", "_law_many"] (sp__law_by K)) :
    FnOk P w K mg base CX0 3 fa fd ["_law_script", "_law_k", "_law_many"] (sp__law_names K) := by
  refine F.ok sc__law_names (fun vs H Q E h => ?_) (fun cdv A outer s H vs Q E hr h => ?_)
  · obtain ⟨a, k, m, rfl, _⟩ := h
    rfl
  obtain ⟨a, k, m, rfl, hS, k0, k1, m1, q⟩ := h
  refine ⟨_, (pss_cons (ps_set (i := 3) sc__law_names.nd rfl (by first | exact Or.inl rfl | exact Or.inr rfl) pe_str)
  (pss_cons (ps_if (pt_cmpR op_eq (pe_callD D__law_by (hr.mono (by decide)) rfl (pa_cons (pv 0) (pa_cons (pv 1) (pa_cons pe_int pa_nil)))) pe_int (nomark _)) (pss_one (ps_ret (pe_slice sl_list (pe_lst (pa_cons pe_str (pa_cons pe_str (pa_cons pe_str (pa_cons pe_str (pa_cons pe_str (pa_cons pe_str pa_nil))))))) po_none (po_some (pv 2))))) pss_nil)
  (pss_cons (ps_set (i := 4) sc__law_names.nd rfl (by first | exact Or.inl rfl | exact Or.inr rfl) (pe_op op_add pe_int (pe_callD D__law_by (hr.mono (by decide)) rfl (pa_cons (pv 0) (pa_cons (pe_op op_add (pv 1) pe_int) (pa_cons pe_int pa_nil))))))
  (pss_cons (ps_set (i := 5) sc__law_names.nd rfl (by first | exact Or.inl rfl | exact Or.inr rfl) (pe_callD D__law_by (hr.mono (by decide)) rfl (pa_cons (pv 0) (pa_cons (pe_op op_add (pv 1) pe_int) (pa_cons (pv 4) pa_nil)))))
  (pss_cons (ps_set (i := 6) sc__law_names.nd rfl (by first | exact Or.inl rfl | exact Or.inr rfl) (pe_ix ix_strA (pe_op op_add_str (pv 3) pe_str) (pe_callD D__law_by (hr.mono (by decide)) rfl (pa_cons (pv 0) (pa_cons (pe_op op_add (pv 1) pe_int) (pa_cons pe_int pa_nil)))) (fun _ _ => rfl)))
  (pss_cons (ps_set (i := 7) sc__law_names.nd rfl (by first | exact Or.inl rfl | exact Or.inr rfl) (pe_callD D__law_by (hr.mono (by decide)) rfl (pa_cons (pv 0) (pa_cons (pe_op op_add (pv 1) pe_int) (pa_cons pe_int pa_nil)))))
  (pss_cons (ps_set (i := 8) sc__law_names.nd rfl (by first | exact Or.inl rfl | exact Or.inr rfl) (pe_ix ix_strA (pv 3) (pe_callD D__law_by (hr.mono (by decide)) rfl (pa_cons (pv 0) (pa_cons (pe_op op_add (pv 1) pe_int) (pa_cons pe_int pa_nil)))) (fun _ _ => rfl)))
  (pss_cons (ps_set (i := 9) sc__law_names.nd rfl (by first | exact Or.inl rfl | exact Or.inr rfl) (pe_lst pa_nil))
  (pss_cons (ps_for PassesOwn.never rfl (pi_range1 rfl T.range (pa_cons (pv 2) pa_nil)) (pg_name (i := 10) sc__law_names.nd rfl (by first | exact Or.inl rfl | exact Or.inr rfl))
  (pss_cons (ps_set (i := 11) sc__law_names.nd rfl (by first | exact Or.inl rfl | exact Or.inr rfl) (pe_op op_cat (pe_lst (pa_cons (pv 8) pa_nil)) (pe_op op_rep (pe_lst (pa_cons (pv 6) pa_nil)) (pe_op op_sub (pv 4) pe_int))))
  (pss_cons (ps_asg (pe_ix ix_strA (pv 3) (pe_op op_mod (pe_op op_add (pv 7) (pe_op op_mul pe_int (pv 10))) pe_int) (fun _ _ => rfl)) (pg_sub (pv 11) (pv 5) set_list))
  (pss_one (ps_expr (pe_bm PySem.F.plainAttrs_list PySem.F.slot_list_append PySem.F.type_list_append mt_append (pv 9) (pa_cons (pe_bm PySem.F.plainAttrs_str PySem.F.slot_str_join PySem.F.type_str_join mt_join pe_str (pa_cons (pv 11) pa_nil)) pa_nil)))))))
  (pss_one (ps_ret (pv 9)))))))))))), ?_⟩
  have fit : ∀ n : Nat, n ≤ 1000 → n ≤ sizeLine := fun n h => small h
  refine ⟨_, rfl, _, rfl, a, _, _, rfl, hS, by omega, by omega, by decide, fun r _ _ => ?_⟩
  refine ⟨rfl, _, rfl, ?_⟩
  refine ite2 (fun _ => ?_) (fun _ => ?_)
  · refine ⟨fit _ (by show 6 ≤ 1000; decide), fun l hl => ?_⟩
    refine ⟨_, rfl, _, rfl, l, _, rfl, SqL.of upd_same, fun p hp => ?_⟩
    refine q p (six.take m) _ ((same_new hl _).trans (same_new hp _)) ?_ (six_names m1)
    rw [upd_same, cut_to, List.map_take]
    rfl
  refine ⟨_, rfl, _, rfl, _, _, rfl, rfl, a, _, _, rfl, hS, by omega, by omega, by decide, fun r1 r10 r11 => ?_⟩
  refine ⟨_, _, rfl, rfl, ?_⟩
  refine ⟨_, rfl, _, rfl, _, _, rfl, rfl, _, rfl, a, _, _, rfl, hS, by omega, by omega, by omega, fun r2 r20 r21 => ?_⟩
  refine ⟨_, rfl, _, _, rfl, rfl, (by decide +kernel), _, rfl, _, rfl, _, _, rfl, rfl, a, _, _, rfl, hS, by omega, by omega, by decide, fun r3 r30 r31 => ?_⟩
  refine ⟨_, _, rfl, rfl, (by decide +kernel), r30, Int.lt_of_lt_of_le r31 (by decide +kernel), fun cr hcr => ?_⟩
  refine ⟨_, rfl, _, rfl, _, _, rfl, rfl, a, _, _, rfl, hS, by omega, by omega, by decide, fun r4 r40 r41 => ?_⟩
  refine ⟨_, rfl, _, rfl, _, rfl, _, _, rfl, rfl, a, _, _, rfl, hS, by omega, by omega, by decide, fun r5 r50 r51 => ?_⟩
  refine ⟨_, _, rfl, rfl, (by decide +kernel), r50, Int.lt_of_lt_of_le r51 (by decide +kernel), fun cf hcf => ?_⟩
  have hr' : cr ∈ low ++ fig := by
    have e : (Str.ofString "abcdefghijklmnopqrstuvwxyz" ++ Str.ofString "0123456789").cps.toList = low ++ fig := by
      rw [← eL, ← eF]
      exact Array.toList_append ..
    rw [e] at hcr
    exact lowfig_at hcr
  have hf' : cf ∈ low := by
    rw [eL] at hcf
    exact List.mem_of_getElem? hcf
  refine ⟨fit _ (by show 0 ≤ 1000; decide), fun p hp => ?_⟩
  obtain ⟨sz, hsz⟩ : ∃ sz : Nat, (1 + r1 : Int) = (sz : Int) := ⟨(1 + r1).toNat, by omega⟩
  obtain ⟨pl, hpl⟩ : ∃ pl : Nat, r2 = (pl : Int) := ⟨r2.toNat, by omega⟩
  obtain ⟨st, hst⟩ : ∃ st : Nat, r4 = (st : Int) := ⟨r4.toNat, by omega⟩
  have b1 : 1 ≤ sz := by omega
  have b2 : sz ≤ 12 := by omega
  have b3 : pl < sz := by omega
  refine ⟨_, rfl, m, rfl, by omega, by omega, for_range (n := (m : Int).toNat) (fun i σ H' => Same H H' ∧ H' p = some (.lst ((nms cf cr sz pl st i).map V.str)) ∧ ∃ v1 v2 : Option V, σ = [some (.ref a), some (.int k), some (.int m), some (.str (Str.ofString "abcdefghijklmnopqrstuvwxyz")), some (.int (1 + r1)), some (.int r2), some (.str ⟨#[cr]⟩), some (.int r4), some (.str ⟨#[cf]⟩), some (.ref p), v1, v2])
    ⟨same_new hp _, upd_same, _, _, rfl⟩ (fun i σ H' hi pp => ?_) (fun σ H' pp => ?_)⟩
  · obtain ⟨sm, hp', v1, v2, rfl⟩ := pp
    refine ⟨_, rfl, fit _ (by show 1 ≤ 1000; decide), fun pa ha => ?_⟩
    refine ⟨_, rfl, fit _ (by show 1 ≤ 1000; decide), fun pb hb => ?_⟩
    refine ⟨_, rfl, _, _, rfl, rfl, pb, _, _, rfl, rfl, upd_same, by omega, by omega, ?_, fun pc hc => ?_⟩
    · show 1 * (1 + r1 - 1).toNat ≤ sizeLine
      exact fit _ (by omega)
    have n1 : pa ≠ pb := ne_of_none (H := upd H' pa (.lst [V.str ⟨#[cf]⟩])) upd_same hb
    have e1 : (upd (upd H' pa (.lst [V.str ⟨#[cf]⟩])) pb (.lst [V.str ⟨#[cr]⟩])) pa = some (.lst [V.str ⟨#[cf]⟩]) := by rw [upd_ne n1, upd_same]
    have n2 : pa ≠ pc := ne_of_none e1 hc
    refine ⟨pa, pc, _, _, rfl, rfl, by rw [upd_ne n2]; exact e1, upd_same, ?_, fun pd hd => ?_⟩
    · rw [rep_flat]
      rw [List.length_replicate]
      show 1 + (1 + r1 - 1).toNat ≤ sizeLine
      exact fit _ (by omega)
    have list : [V.str ⟨#[cf]⟩] ++ (List.replicate (1 + r1 - 1).toNat [V.str ⟨#[cr]⟩]).flatten = ((cf :: List.replicate (sz - 1) cr).map one).map V.str := by
      rw [rep_flat, show (1 + r1 - 1).toNat = sz - 1 by omega, List.map_cons, List.map_cons, List.map_replicate, List.map_replicate]
      rfl
    rw [list]
    have s1 : Same H' (upd (upd (upd (upd H' pa (.lst [V.str ⟨#[cf]⟩])) pb (.lst [V.str ⟨#[cr]⟩])) pc (.lst (List.replicate (1 + r1 - 1).toNat [V.str ⟨#[cr]⟩]).flatten)) pd (.lst (((cf :: List.replicate (sz - 1) cr).map one).map V.str))) :=
      (((same_new ha _).trans (same_new hb _)).trans (same_new hc _)).trans (same_new hd _)
    have npd : H' pd = none := (((same_new ha _).trans (same_new hb _)).trans (same_new hc _)).free hd
    refine ⟨_, rfl, _, rfl, _, rfl, _, _, rfl, rfl, .inl ⟨by decide, by decide⟩, _, _, rfl, rfl, _, _, rfl, rfl, (by show (0 : Int) < 26; decide), ?_⟩
    refine ⟨_, _, rfl, rfl, (by decide +kernel), Int.emod_nonneg _ (by decide), Int.lt_of_lt_of_le (Int.emod_lt_of_pos _ (by decide)) (by decide +kernel), fun cl hcl => ?_⟩
    have hl : cl = ltr st i := by
      rw [eL] at hcl
      have := low_at hcl
      unfold ltr
      omega
    refine ⟨_, rfl, _, rfl, pd, _, _, pl, rfl, rfl, upd_same, ?_, ?_⟩
    · unfold ixN
      rw [if_pos (by omega), if_pos (by simp; omega)]
      exact congrArg some (by omega)
    rw [upd_upd]
    have setl : (((cf :: List.replicate (sz - 1) cr).map one).map V.str).set pl (V.str ⟨#[cl]⟩) = ((nmC cf cr sz pl (ltr st i)).map one).map V.str := by
      unfold nmC
      rw [List.map_set, List.map_set, hl]
      rfl
    rw [setl]
    generalize hH5 : upd (upd (upd (upd H' pa (.lst [V.str ⟨#[cf]⟩])) pb (.lst [V.str ⟨#[cr]⟩])) pc (.lst (List.replicate (1 + r1 - 1).toNat [V.str ⟨#[cr]⟩]).flatten)) pd (.lst (((nmC cf cr sz pl (ltr st i)).map one).map V.str)) = H5
    have s5 : Same H' H5 := by
      rw [← hH5]
      exact (((same_new ha _).trans (same_new hb _)).trans (same_new hc _)).trans (same_new hd _)
    have h5 : H5 pd = some (.lst (((nmC cf cr sz pl (ltr st i)).map one).map V.str)) := by rw [← hH5, upd_same]
    have hp5 := s5 _ _ hp'
    refine ⟨_, rfl, .inl ⟨rfl, _, SqL.of hp5⟩, rfl, _, rfl, _, pd, (nmC cf cr sz pl (ltr st i)).map one, rfl, rfl, SqL.of h5, ?_, p, _, _, rfl, rfl, hp5, ?_, ?_⟩
    · unfold JoinOk
      rw [Bool.not_eq_true']
      refine StrLaws.joinFits (B := 1) (fun x hx => ?_) ?_
      · obtain ⟨c, _, rfl⟩ := List.mem_map.mp hx
        exact Nat.le_refl 1
      · rw [List.length_map, nmC_len cf cr b1, show (Str.ofString "").length = 0 by decide +kernel]
        omega
    · rw [List.length_map]
      unfold nms
      rw [List.length_map, List.length_range]
      exact small1000 (by omega)
    · refine ⟨fun b u e => ?_, ?_, _, _, rfl⟩
      · have e5 := s5 _ _ (sm b u e)
        by_cases hb : b = p
        · subst hb
          rw [hp] at e
          cases e
        · rw [upd_ne hb]
          exact e5
      · rw [upd_same, join_nm]
        unfold nms
        rw [List.range_succ, List.map_append, List.map_append]
        rfl
  · obtain ⟨sm, hp', v1, v2, rfl⟩ := pp
    refine ⟨_, rfl, q p _ H' sm hp' ?_⟩
    rw [Int.toNat_natCast]
    exact nms_ok hf' hr' b1 b2 b3 (by omega)
end
end My
namespace My
open PySem L2
open Blk (sg sg_inj sg_app)
section
variable {P : Program} {w : World} {K : PySem.W.Frag} {mg : Str → Option Value} {base : Heap}
def sp__law_values (K : PySem.W.Frag) : Sp := fun vs H Q _ => ∃ (a : Addr) (k : Int), vs = [.ref a, .int k] ∧ Scr K H a ∧ 0 ≤ k ∧ k ≤ 900 ∧ ∀ (t : Addr) (j : Jb) (H' : Hp), Same H H' → j.Ok → Due H' t j → Q (.ref t) H'
theorem six_of {ns : List Str} (h : NamesOk ns 6) : ∃ a b c d e f, ns = [a, b, c, d, e, f] := by
  have l := h.len
  match ns, l with
  | [a, b, c, d, e, f], _ => exact ⟨a, b, c, d, e, f, rfl⟩
theorem mem3 {α : Type} {a b c v : α} {i : Nat} (h : [a, b, c][i]? = some v) : v = a ∨ v = b ∨ v = c := by
  have m := List.mem_of_getElem? h
  simpa using m
theorem mem4 {α : Type} {a b c d v : α} {i : Nat} (h : [a, b, c, d][i]? = some v) : v = a ∨ v = b ∨ v = c ∨ v = d := by
  have m := List.mem_of_getElem? h
  simpa using m
theorem plain_good : good cPla = true := by decide +kernel
theorem up_in {n : Int} (h0 : 0 ≤ n) (h1 : n < 15) : Str.ofString "up:" ++ Str.ofString (toString (2 + n)) ∈ goodTexts := by
  obtain ⟨m, rfl⟩ := Int.eq_ofNat_of_zero_le h0
  exact List.mem_map.mpr ⟨m, List.mem_range.mpr (by omega), rfl⟩
theorem log2_few {n : Int} (h0 : 0 ≤ n) (h1 : n < 10 ^ 12) : n.natAbs.log2 < 1920 := by
  by_cases e : n.natAbs = 0
  · rw [e]; decide
  · have q : n.natAbs.log2 < 40 := (Nat.log2_lt e).mpr (by omega)
    omega
theorem in_two (x a b : Str) : inV (.str x) [.str a, .str b] = (decide (x = a) || decide (x = b)) := by
  have := in_strs x [a, b]
  rw [show ([a, b].map V.str) = [V.str a, V.str b] from rfl] at this
  rw [this]
  simp
theorem sc__law_values : FnScope ["_law_script", "_law_k", "_law_some", "_law_other", "_law_pages", "_law_copies", "_law_layout", "_law_paper", "_law_cover", "_law_first", "_law_last", "_law_colour", "_law_staple", "_law_after"] ["_law_script", "_law_k"] (defScope s__law_values) := ⟨rfl, rfl, rfl, by decide +kernel, rfl, by decide +kernel, by decide +kernel⟩
theorem ok__law_values {fa cJob cBadLine cBusy cDry cGoesRound cNoHeap cNoPrinter cNotNow cNoWay cNowhere cOver cTooMuch cTwice cUnknown cHallError : Addr} {fd : FuncData} (F : Fun K "_law_values" "_law_values" s__law_values fa fd) (T : Txt K mg cJob cBadLine cBusy cDry cGoesRound cNoHeap cNoPrinter cNotNow cNoWay cNowhere cOver cTooMuch cTwice cUnknown cHallError) (D__law_names : Dfn P w K mg base 3 "_law_names" ["_law_script", "_law_k", "_law_many"] (sp__law_names K)) (D__law_by : Dfn P w K mg base 2 "_law_by" ["_law_script", "_law_k", "_law_many"] (sp__law_by K)) :
    FnOk P w K mg base CX0 4 fa fd ["_law_script", "_law_k"] (sp__law_values K) := by
  refine F.ok sc__law_values (fun vs H Q E h => ?_) (fun cdv A outer s H vs Q E hr h => ?_)
  · obtain ⟨a, k, rfl, _⟩ := h
    rfl
  obtain ⟨a, k, rfl, hS, k0, k1, q⟩ := h
  refine ⟨_, (pss_cons (ps_set (i := 2) sc__law_values.nd rfl (by first | exact Or.inl rfl | exact Or.inr rfl) (pe_callD D__law_names (hr.mono (by decide)) rfl (pa_cons (pv 0) (pa_cons (pv 1) (pa_cons pe_int pa_nil)))))
  (pss_cons (ps_set (i := 3) sc__law_values.nd rfl (by first | exact Or.inl rfl | exact Or.inr rfl) (pe_callD D__law_names (hr.mono (by decide)) rfl (pa_cons (pv 0) (pa_cons (pe_op op_add (pv 1) pe_int) (pa_cons pe_int pa_nil)))))
  (pss_cons (ps_set (i := 4) sc__law_values.nd rfl (by first | exact Or.inl rfl | exact Or.inr rfl) (pe_op op_add pe_int (pe_callD D__law_by (hr.mono (by decide)) rfl (pa_cons (pv 0) (pa_cons (pe_op op_add (pv 1) pe_int) (pa_cons (pe_ix ix_listA (pe_lst (pa_cons pe_int (pa_cons pe_int (pa_cons pe_int pa_nil)))) (pe_callD D__law_by (hr.mono (by decide)) rfl (pa_cons (pv 0) (pa_cons (pe_op op_add (pv 1) pe_int) (pa_cons pe_int pa_nil)))) (fun _ _ => rfl)) pa_nil))))))
  (pss_cons (ps_set (i := 5) sc__law_values.nd rfl (by first | exact Or.inl rfl | exact Or.inr rfl) (pe_ix ix_listA (pe_lst (pa_cons pe_int (pa_cons (pe_op op_add pe_int (pe_callD D__law_by (hr.mono (by decide)) rfl (pa_cons (pv 0) (pa_cons (pe_op op_add (pv 1) pe_int) (pa_cons pe_int pa_nil))))) (pa_cons (pe_op op_add pe_int (pe_callD D__law_by (hr.mono (by decide)) rfl (pa_cons (pv 0) (pa_cons (pe_op op_add (pv 1) pe_int) (pa_cons pe_int pa_nil))))) pa_nil)))) (pe_callD D__law_by (hr.mono (by decide)) rfl (pa_cons (pv 0) (pa_cons (pe_op op_add (pv 1) pe_int) (pa_cons pe_int pa_nil)))) (fun _ _ => rfl)))
  (pss_cons (ps_set (i := 6) sc__law_values.nd rfl (by first | exact Or.inl rfl | exact Or.inr rfl) (pe_ix ix_listA (pe_lst (pa_cons pe_str (pa_cons pe_str (pa_cons (pe_op op_add_str pe_str (pe_callTy call_str_int rfl T.str bt_str (pa_cons (pe_op op_add pe_int (pe_callD D__law_by (hr.mono (by decide)) rfl (pa_cons (pv 0) (pa_cons (pe_op op_add (pv 1) pe_int) (pa_cons pe_int pa_nil))))) pa_nil))) pa_nil)))) (pe_callD D__law_by (hr.mono (by decide)) rfl (pa_cons (pv 0) (pa_cons (pe_op op_add (pv 1) pe_int) (pa_cons pe_int pa_nil)))) (fun _ _ => rfl)))
  (pss_at (pss_cons (ps_set (i := 7) sc__law_values.nd rfl (by first | exact Or.inl rfl | exact Or.inr rfl) (pe_ix ix_listA (pe_lst (pa_cons pe_str (pa_cons (pe_ix ix_list (pv 3) pe_int (fun _ _ => rfl)) (pa_cons (pe_ix ix_list (pv 2) pe_int (fun _ _ => rfl)) pa_nil)))) (pe_callD D__law_by (hr.mono (by decide)) rfl (pa_cons (pv 0) (pa_cons (pe_op op_add (pv 1) pe_int) (pa_cons pe_int pa_nil)))) (fun _ _ => rfl)))
  (pss_cons (ps_set (i := 8) sc__law_values.nd rfl (by first | exact Or.inl rfl | exact Or.inr rfl) (pe_ix ix_listA (pe_lst (pa_cons pe_non (pa_cons (pe_ix ix_list (pv 3) pe_int (fun _ _ => rfl)) (pa_cons (pv 7) (pa_cons pe_str pa_nil))))) (pe_callD D__law_by (hr.mono (by decide)) rfl (pa_cons (pv 0) (pa_cons (pe_op op_add (pv 1) pe_int) (pa_cons pe_int pa_nil)))) (fun _ _ => rfl)))
  (pss_cons (ps_set (i := 9) sc__law_values.nd rfl (by first | exact Or.inl rfl | exact Or.inr rfl) (pe_op op_add pe_int (pe_callD D__law_by (hr.mono (by decide)) rfl (pa_cons (pv 0) (pa_cons (pe_op op_add (pv 1) pe_int) (pa_cons (pv 4) pa_nil))))))
  (pss_cons (ps_set (i := 10) sc__law_values.nd rfl (by first | exact Or.inl rfl | exact Or.inr rfl) (pe_op op_add (pv 9) (pe_callD D__law_by (hr.mono (by decide)) rfl (pa_cons (pv 0) (pa_cons (pe_op op_add (pv 1) pe_int) (pa_cons (pe_op op_add (pe_op op_sub (pv 4) (pv 9)) pe_int) pa_nil))))))
  (pss_at (pss_cons (ps_set (i := 11) sc__law_values.nd rfl (by first | exact Or.inl rfl | exact Or.inr rfl) (pe_ix ix_listA (pe_lst (pa_cons pe_non (pa_cons (pe_tup (pa_cons (pv 9) (pa_cons (pv 10) pa_nil))) (pa_cons (pe_tup (pa_cons pe_int (pa_cons (pv 4) pa_nil))) pa_nil)))) (pe_callD D__law_by (hr.mono (by decide)) rfl (pa_cons (pv 0) (pa_cons (pe_op op_add (pv 1) pe_int) (pa_cons pe_int pa_nil)))) (fun _ _ => rfl)))
  (pss_cons (ps_set (i := 12) sc__law_values.nd rfl (by first | exact Or.inl rfl | exact Or.inr rfl) (pe_cmpR op_eq (pe_callD D__law_by (hr.mono (by decide)) rfl (pa_cons (pv 0) (pa_cons (pe_op op_add (pv 1) pe_int) (pa_cons pe_int pa_nil)))) pe_int (nomark _)))
  (pss_at (pss_cons (ps_set (i := 13) sc__law_values.nd rfl (by first | exact Or.inl rfl | exact Or.inr rfl) (pe_slice sl_list (pe_lst (pa_cons (pe_ix ix_list (pv 2) pe_int (fun _ _ => rfl)) (pa_cons (pe_ix ix_list (pv 3) pe_int (fun _ _ => rfl)) (pa_cons (pe_ix ix_list (pv 2) pe_int (fun _ _ => rfl)) pa_nil)))) po_none (po_some (pe_callD D__law_by (hr.mono (by decide)) rfl (pa_cons (pv 0) (pa_cons (pe_op op_add (pv 1) pe_int) (pa_cons pe_int pa_nil)))))))
  (pss_cons (ps_if (pt_cmpR op_in_seq (pe_ix ix_list (pv 3) pe_int (fun _ _ => rfl)) (pe_tup (pa_cons (pe_ix ix_list (pv 2) pe_int (fun _ _ => rfl)) (pa_cons (pe_ix ix_list (pv 2) pe_int (fun _ _ => rfl)) pa_nil))) rfl) (pss_one (ps_set (i := 13) sc__law_values.nd rfl (by first | exact Or.inl rfl | exact Or.inr rfl) (pe_slice sl_list (pv 13) po_none (po_some pe_int)))) pss_nil)
  (pss_one (ps_ret (pe_tup (pa_cons (pe_ix ix_list (pv 2) pe_int (fun _ _ => rfl)) (pa_cons (pe_ix ix_list (pv 3) pe_int (fun _ _ => rfl)) (pa_cons (pv 4) (pa_cons (pv 5) (pa_cons (pv 6) (pa_cons (pv 7) (pa_cons (pv 8) (pa_cons (pv 11) (pa_cons (pv 12) (pa_cons (pe_callTy call_tuple_of rfl T.tuple bt_tuple (pa_cons (pv 13) pa_nil)) pa_nil))))))))))))))))))))))))))))), ?_⟩
  have fit : ∀ n : Nat, n ≤ 1000 → n ≤ sizeLine := fun n h => small h
  refine ⟨_, rfl, _, rfl, a, k, 6, rfl, hS, by omega, by omega, by decide, fun ps so H1 s1 hso ok1 => ?_⟩
  refine ⟨_, rfl, _, rfl, _, _, rfl, rfl, a, _, 6, rfl, hS.same s1, by omega, by omega, by decide, fun po ot H2 s2 hot ok2 => ?_⟩
  have hso2 := s2 _ _ hso
  obtain ⟨a0, a1, a2, a3, a4, a5, rfl⟩ := six_of ok1
  obtain ⟨b0, b1, b2, b3, b4, b5, rfl⟩ := six_of ok2
  have ga0 := ok1.good a0 (by simp)
  have ga3 := ok1.good a3 (by simp)
  have gb0 := ok2.good b0 (by simp)
  have gb1 := ok2.good b1 (by simp)
  have gb2 := ok2.good b2 (by simp)
  have gb3 := ok2.good b3 (by simp)
  have ne03 : a0 ≠ a3 := by
    have := ok1.nd
    simp at this
    exact this.1.2.2.1
  have sT := s1.trans s2
  -- pages
  refine ⟨_, rfl, _, rfl, _, _, rfl, rfl, fit _ (by show 3 ≤ 1000; decide), fun l3 hl3 => ?_⟩
  have s3 := same_new hl3 (.lst [V.int 9, V.int 99, V.int 999])
  refine ⟨_, rfl, _, rfl, _, _, rfl, rfl, a, _, _, rfl, hS.same (sT.trans s3), by omega, by omega, by decide, fun r r0 r1 => ?_⟩
  refine ⟨l3, _, _, rfl, rfl, SqL.of upd_same, r0, r1, fun v hv => ?_⟩
  obtain ⟨m, rfl, m0, m1⟩ : ∃ m : Int, v = .int m ∧ 0 < m ∧ m ≤ 999 := by
    rcases mem3 hv with e | e | e
    · exact ⟨9, e, by decide, by decide⟩
    · exact ⟨99, e, by decide, by decide⟩
    · exact ⟨999, e, by decide, by decide⟩
  refine ⟨a, _, m, rfl, hS.same (sT.trans s3), by omega, by omega, m0, fun pg pg0 pg1 => ?_⟩
  refine ⟨_, _, rfl, rfl, ?_⟩
  have sT3 := sT.trans s3
  have hso3 := s3 _ _ hso2
  have hot3 := s3 _ _ hot
  generalize upd H2 l3 (.lst [V.int 9, V.int 99, V.int 999]) = H3 at s3 sT3 hso3 hot3 ⊢
  clear hv r0 r1 hl3 s3
  -- copies
  refine ⟨_, rfl, _, rfl, _, _, rfl, rfl, a, _, _, rfl, hS.same sT3, by omega, by omega, by decide, fun c1 c10 c11 => ?_⟩
  refine ⟨_, _, rfl, rfl, _, rfl, _, rfl, _, _, rfl, rfl, a, _, _, rfl, hS.same sT3, by omega, by omega, by decide, fun c2 c20 c21 => ?_⟩
  refine ⟨_, _, rfl, rfl, fit _ (by show 3 ≤ 1000; decide), fun l4 hl4 => ?_⟩
  have s4 := same_new hl4 (.lst [V.int 1, V.int (1 + c1), V.int (1 + c2)])
  refine ⟨_, rfl, _, rfl, _, _, rfl, rfl, a, _, _, rfl, hS.same (sT3.trans s4), by omega, by omega, by decide, fun r r0 r1 => ?_⟩
  refine ⟨l4, _, _, rfl, rfl, SqL.of upd_same, r0, r1, fun v hv => ?_⟩
  obtain ⟨cp, rfl, cp0, cp1⟩ : ∃ m : Int, v = .int m ∧ 1 ≤ m ∧ m ≤ 99 := by
    rcases mem3 hv with e | e | e
    · exact ⟨1, e, by decide, by decide⟩
    · exact ⟨1 + c1, e, by omega, by omega⟩
    · exact ⟨1 + c2, e, by omega, by omega⟩
  have sT4 := sT3.trans s4
  have hso4 := s4 _ _ hso3
  have hot4 := s4 _ _ hot3
  generalize upd H3 l4 (.lst [V.int 1, V.int (1 + c1), V.int (1 + c2)]) = H4 at s4 sT4 hso4 hot4 ⊢
  clear hv r0 r1 hl4 s4
  -- layout
  refine ⟨_, rfl, _, rfl, _, _, rfl, rfl, a, _, _, rfl, hS.same sT4, by omega, by omega, by decide, fun u u0 u1 => ?_⟩
  refine ⟨_, _, rfl, rfl, _, rfl, log2_few (by omega) (by omega), _, _, rfl, rfl, ?_, ?_⟩
  · have hT : (Str.ofString (toString (2 + u))).length ≤ 2 := PyProof.Rows.toString_length_le (by omega) (by decide) (by omega)
    have l3 : (Str.ofString "up:").length = 3 := by decide +kernel
    exact fit _ (by rw [l3]; omega)
  refine ⟨fit _ (by show 3 ≤ 1000; decide), fun l5 hl5 => ?_⟩
  have s5 := same_new hl5 (.lst [V.str cOne, V.str (Str.ofString "both"), V.str (Str.ofString "up:" ++ Str.ofString (toString (2 + u)))])
  refine ⟨_, rfl, _, rfl, _, _, rfl, rfl, a, _, _, rfl, hS.same (sT4.trans s5), by omega, by omega, by decide, fun r r0 r1 => ?_⟩
  refine ⟨l5, _, _, rfl, rfl, SqL.of upd_same, r0, r1, fun v hv => ?_⟩
  obtain ⟨ly, rfl, hly⟩ : ∃ z : Str, v = .str z ∧ z ∈ cOne :: Str.ofString "both" :: goodTexts := by
    rcases mem3 hv with e | e | e
    · exact ⟨_, e, List.mem_cons_self⟩
    · exact ⟨_, e, List.mem_cons_of_mem _ List.mem_cons_self⟩
    · exact ⟨_, e, List.mem_cons_of_mem _ (List.mem_cons_of_mem _ (up_in u0 u1))⟩
  have sT5 := sT4.trans s5
  have hso5 := s5 _ _ hso4
  have hot5 := s5 _ _ hot4
  generalize upd H4 l5 (.lst [V.str cOne, V.str (Str.ofString "both"), V.str (Str.ofString "up:" ++ Str.ofString (toString (2 + u)))]) = H5 at s5 sT5 hso5 hot5 ⊢
  clear hv r0 r1 hl5 s5
  refine ⟨[some (.ref a), some (.int k), some (.ref ps), some (.ref po), some (.int (1 + pg)), some (.int cp), some (.str ly), none, none, none, none, none, none, none], rfl, ?_⟩
  -- paper
  refine ⟨_, rfl, po, _, _, _, rfl, rfl, SqL.of hot5, atI_nat (j := 0) rfl, _, rfl, ps, _, _, _, rfl, rfl, SqL.of hso5, atI_nat (j := 0) rfl, fit _ (by show 3 ≤ 1000; decide), fun l6 hl6 => ?_⟩
  have s6 := same_new hl6 (.lst [V.str cPla, V.str b0, V.str a0])
  refine ⟨_, rfl, _, rfl, _, _, rfl, rfl, a, _, _, rfl, hS.same (sT5.trans s6), by omega, by omega, by decide, fun r r0 r1 => ?_⟩
  refine ⟨l6, _, _, rfl, rfl, SqL.of upd_same, r0, r1, fun v hv => ?_⟩
  obtain ⟨pp, rfl, gpp⟩ : ∃ z : Str, v = .str z ∧ good z = true := by
    rcases mem3 hv with e | e | e
    · exact ⟨_, e, plain_good⟩
    · exact ⟨_, e, gb0⟩
    · exact ⟨_, e, ga0⟩
  have sT6 := sT5.trans s6
  have hso6 := s6 _ _ hso5
  have hot6 := s6 _ _ hot5
  generalize upd H5 l6 (.lst [V.str cPla, V.str b0, V.str a0]) = H6 at s6 sT6 hso6 hot6 ⊢
  clear hv r0 r1 hl6 s6
  -- cover
  refine ⟨_, rfl, po, _, _, _, rfl, rfl, SqL.of hot6, atI_nat (j := 1) rfl, _, rfl, fit _ (by show 4 ≤ 1000; decide), fun l7 hl7 => ?_⟩
  have s7 := same_new hl7 (.lst [V.non, V.str b1, V.str pp, V.str cPla])
  refine ⟨_, rfl, _, rfl, _, _, rfl, rfl, a, _, _, rfl, hS.same (sT6.trans s7), by omega, by omega, by decide, fun r r0 r1 => ?_⟩
  refine ⟨l7, _, _, rfl, rfl, SqL.of upd_same, r0, r1, fun v hv => ?_⟩
  obtain ⟨cv, rfl, gcv⟩ : ∃ c : Option Str, v = optV c ∧ ∀ z, c = some z → good z = true := by
    rcases mem4 hv with e | e | e | e
    · exact ⟨none, e, fun z h => by cases h⟩
    · exact ⟨some b1, e, fun z h => by cases h; exact gb1⟩
    · exact ⟨some pp, e, fun z h => by cases h; exact gpp⟩
    · exact ⟨some cPla, e, fun z h => by cases h; exact plain_good⟩
  have sT7 := sT6.trans s7
  have hso7 := s7 _ _ hso6
  have hot7 := s7 _ _ hot6
  generalize upd H6 l7 (.lst [V.non, V.str b1, V.str pp, V.str cPla]) = H7 at s7 sT7 hso7 hot7 ⊢
  clear hv r0 r1 hl7 s7
  -- first, last
  refine ⟨_, rfl, _, rfl, _, _, rfl, rfl, _, rfl, a, _, _, rfl, hS.same sT7, by omega, by omega, by omega, fun f f0 f1 => ?_⟩
  refine ⟨_, _, rfl, rfl, ?_⟩
  refine ⟨_, rfl, _, rfl, _, rfl, _, _, rfl, rfl, _, rfl, _, rfl, _, _, rfl, rfl, _, _, rfl, rfl, a, _, _, rfl, hS.same sT7, by omega, by omega, by omega, fun g g0 g1 => ?_⟩
  refine ⟨_, _, rfl, rfl, ?_⟩
  refine ⟨[some (.ref a), some (.int k), some (.ref ps), some (.ref po), some (.int (1 + pg)), some (.int cp), some (.str ly), some (.str pp), some (optV cv), some (.int (1 + f)), some (.int (1 + f + g)), none, none, none], rfl, ?_⟩
  -- colour
  refine ⟨_, rfl, _, rfl, fit _ (by show 2 ≤ 1000; decide), fun t1 ht1 => ?_⟩
  refine ⟨_, rfl, fit _ (by show 2 ≤ 1000; decide), fun t2 ht2 => ?_⟩
  refine ⟨fit _ (by show 3 ≤ 1000; decide), fun l8 hl8 => ?_⟩
  have s8 : Same H7 (upd (upd (upd H7 t1 (.tup [V.int (1 + f), V.int (1 + f + g)])) t2 (.tup [V.int 1, V.int (1 + pg)])) l8 (.lst [V.non, V.ref t1, V.ref t2])) := ((same_new ht1 _).trans (same_new ht2 _)).trans (same_new hl8 _)
  have e1 : (upd (upd (upd H7 t1 (.tup [V.int (1 + f), V.int (1 + f + g)])) t2 (.tup [V.int 1, V.int (1 + pg)])) l8 (.lst [V.non, V.ref t1, V.ref t2])) t1 = some (.tup [V.int (1 + f), V.int (1 + f + g)]) := ((same_new ht2 _).trans (same_new hl8 _)) _ _ upd_same
  have e2 : (upd (upd (upd H7 t1 (.tup [V.int (1 + f), V.int (1 + f + g)])) t2 (.tup [V.int 1, V.int (1 + pg)])) l8 (.lst [V.non, V.ref t1, V.ref t2])) t2 = some (.tup [V.int 1, V.int (1 + pg)]) := (same_new hl8 _) _ _ upd_same
  refine ⟨_, rfl, _, rfl, _, _, rfl, rfl, a, _, _, rfl, hS.same (sT7.trans s8), by omega, by omega, by decide, fun r r0 r1 => ?_⟩
  refine ⟨l8, _, _, rfl, rfl, SqL.of upd_same, r0, r1, fun v hv => ?_⟩
  have sT8 := sT7.trans s8
  have hso8 := s8 _ _ hso7
  have hot8 := s8 _ _ hot7
  generalize upd (upd (upd H7 t1 (.tup [V.int (1 + f), V.int (1 + f + g)])) t2 (.tup [V.int 1, V.int (1 + pg)])) l8 (.lst [V.non, V.ref t1, V.ref t2]) = H8 at s8 sT8 hso8 hot8 e1 e2 ⊢
  obtain ⟨co, hco, gco⟩ : ∃ c : Option (Int × Int), HoldsV H8 v (match c with | some (a, b) => .pair a b | none => non) ∧ ∀ x y, c = some (x, y) → 1 ≤ x ∧ x ≤ y ∧ y ≤ 1 + pg := by
    rcases mem3 hv with e | e | e
    · exact ⟨none, e, fun x y h => by cases h⟩
    · exact ⟨some (1 + f, 1 + f + g), ⟨t1, e, e1⟩, fun x y h => by cases h; omega⟩
    · exact ⟨some (1, 1 + pg), ⟨t2, e, e2⟩, fun x y h => by cases h; omega⟩
  clear hv r0 r1 hl8 ht1 ht2 e1 e2 s8
  -- staple
  refine ⟨_, rfl, _, rfl, _, _, rfl, rfl, a, _, _, rfl, hS.same sT8, by omega, by omega, by decide, fun sr _ _ => ?_⟩
  refine ⟨rfl, ?_⟩
  generalize decide (V.int sr = V.int 0) = stp
  refine ⟨[some (.ref a), some (.int k), some (.ref ps), some (.ref po), some (.int (1 + pg)), some (.int cp), some (.str ly), some (.str pp), some (optV cv), some (.int (1 + f)), some (.int (1 + f + g)), some v, some (.bl stp), none], rfl, ?_⟩
  -- after
  refine ⟨_, rfl, ps, _, _, _, rfl, rfl, SqL.of hso8, atI_nat (j := 0) rfl, _, rfl, po, _, _, _, rfl, rfl, SqL.of hot8, atI_nat (j := 2) rfl, _, rfl, ps, _, _, _, rfl, rfl, SqL.of hso8, atI_nat (j := 3) rfl, fit _ (by show 3 ≤ 1000; decide), fun l9 hl9 => ?_⟩
  have s9 := same_new hl9 (.lst [V.str a0, V.str b2, V.str a3])
  refine ⟨_, rfl, _, rfl, _, _, rfl, rfl, a, _, _, rfl, hS.same (sT8.trans s9), by omega, by omega, by decide, fun r r0 r1 => ?_⟩
  obtain ⟨nr, rfl⟩ := Int.eq_ofNat_of_zero_le r0
  refine ⟨_, rfl, l9, _, rfl, SqL.of upd_same, fun pA hpA => ?_⟩
  rw [show cutV [V.str a0, V.str b2, V.str a3] none (some ((nr : Nat) : Int)) = (([a0, b2, a3].take nr).map V.str) by rw [cut_to, List.map_take]; rfl]
  have s10 := s9.trans (same_new hpA (.lst (([a0, b2, a3].take nr).map V.str)))
  have hso10 := s10 _ _ hso8
  have hot10 := s10 _ _ hot8
  have hA : (upd (upd H8 l9 (.lst [V.str a0, V.str b2, V.str a3])) pA (.lst (([a0, b2, a3].take nr).map V.str))) pA = some (.lst (([a0, b2, a3].take nr).map V.str)) := upd_same
  generalize upd (upd H8 l9 (.lst [V.str a0, V.str b2, V.str a3])) pA (.lst (([a0, b2, a3].take nr).map V.str)) = H10 at s10 hso10 hot10 hA ⊢
  refine ⟨_, rfl, po, _, _, _, rfl, rfl, SqL.of hot10, atI_nat (j := 2) rfl, _, rfl, ps, _, _, _, rfl, rfl, SqL.of hso10, atI_nat (j := 0) rfl, _, rfl, ps, _, _, _, rfl, rfl, SqL.of hso10, atI_nat (j := 3) rfl, fit _ (by show 2 ≤ 1000; decide), fun t3 ht3 => ?_⟩
  refine ⟨t3, _, rfl, .inr (SqT.of upd_same), rfl, rfl, _, rfl, ?_⟩
  have s11 := s10.trans (same_new ht3 (.tup [V.str a0, V.str a3]))
  have hA11 := (same_new ht3 (.tup [V.str a0, V.str a3])) _ _ hA
  have hso11 := (same_new ht3 (.tup [V.str a0, V.str a3])) _ _ hso10
  have hot11 := (same_new ht3 (.tup [V.str a0, V.str a3])) _ _ hot10
  generalize upd H10 t3 (.tup [V.str a0, V.str a3]) = H11 at s11 hA11 hso11 hot11 ⊢
  have gall : ∀ z ∈ [a0, b2, a3], good z = true := by
    intro z hz
    rcases List.mem_cons.mp hz with rfl | hz
    · exact ga0
    rcases List.mem_cons.mp hz with rfl | hz
    · exact gb2
    · rw [List.mem_singleton.mp hz]; exact ga3
  refine ite2 (fun c => ?_) (fun c => ?_)
  · -- the names meet: the first alone
    refine ⟨_, rfl, _, rfl, pA, _, rfl, SqL.of hA11, fun pB hpB => ?_⟩
    rw [show cutV (([a0, b2, a3].take nr).map V.str) none (some 1) = ((([a0, b2, a3].take nr).take 1).map V.str) by rw [show (1 : Int) = ((1 : Nat) : Int) from rfl, cut_to]; simp only [List.map_take]]
    obtain ⟨as, eas, gas, nas, las⟩ : ∃ as : List Str, ([a0, b2, a3].take nr).take 1 = as ∧ (∀ z ∈ as, good z = true) ∧ as.Nodup ∧ as.length ≤ 3 := by
      refine ⟨_, rfl, fun z hz => gall z (List.mem_of_mem_take (List.mem_of_mem_take hz)), ?_, ?_⟩
      · cases nr with
        | zero => exact List.nodup_nil
        | succ n => exact List.nodup_cons.mpr ⟨by simp, List.nodup_nil⟩
      · rw [List.length_take]
        omega
    rw [eas]
    have s12 := s11.trans (same_new hpB (.lst (as.map V.str)))
    have hso12 := (same_new hpB (.lst (as.map V.str))) _ _ hso11
    have hot12 := (same_new hpB (.lst (as.map V.str))) _ _ hot11
    have hB : (upd H11 pB (.lst (as.map V.str))) pB = some (.lst (as.map V.str)) := upd_same
    generalize upd H11 pB (.lst (as.map V.str)) = H12 at s12 hso12 hot12 hB ⊢
    refine ⟨_, rfl, ps, _, _, _, rfl, rfl, SqL.of hso12, atI_nat (j := 0) rfl, _, rfl, po, _, _, _, rfl, rfl, SqL.of hot12, atI_nat (j := 3) rfl, _, rfl, _, rfl, _, rfl, _, rfl, _, rfl, _, rfl, _, rfl, _, rfl, pB, _, rfl, .inl ⟨SqL.of hB, fun l hl => ⟨fit _ (by show 10 ≤ 1000; decide), fun t ht => ?_⟩⟩⟩
    have s13 := (same_new hl (.tup (as.map V.str))).trans (same_new ht (.tup [V.str a0, V.str b3, V.int (1 + pg), V.int cp, V.str ly, V.str pp, optV cv, v, V.bl stp, V.ref l]))
    refine q t ⟨a0, b3, 1 + pg, cp, ly, pp, cv, co, stp, as⟩ _ ((sT8.trans s12).trans s13) ⟨ga0, gb3, by show 1 ≤ 1 + pg; omega, by show 1 + pg ≤ 999; omega, cp0, cp1, hly, gpp, gcv, gco, gas, nas, las⟩ ⟨v, l, upd_same, (hco.same s12).same s13, (same_new ht _) _ _ upd_same⟩
  · obtain ⟨as, eas, gas, nas, las⟩ : ∃ as : List Str, [a0, b2, a3].take nr = as ∧ (∀ z ∈ as, good z = true) ∧ as.Nodup ∧ as.length ≤ 3 := by
      refine ⟨_, rfl, fun z hz => gall z (List.mem_of_mem_take hz), ?_, ?_⟩
      · have c' : inV (.str b2) [.str a0, .str a3] = false := by simpa using c
        rw [in_two] at c'
        simp at c'
        refine List.Nodup.sublist (List.take_sublist _ _) ?_
        simp
        exact ⟨⟨fun e => c'.1 e.symm, ne03⟩, c'.2⟩
      · rw [List.length_take]
        simp
        omega
    rw [eas] at hA11
    refine ⟨_, rfl, ps, _, _, _, rfl, rfl, SqL.of hso11, atI_nat (j := 0) rfl, _, rfl, po, _, _, _, rfl, rfl, SqL.of hot11, atI_nat (j := 3) rfl, _, rfl, _, rfl, _, rfl, _, rfl, _, rfl, _, rfl, _, rfl, _, rfl, pA, _, rfl, .inl ⟨SqL.of hA11, fun l hl => ⟨fit _ (by show 10 ≤ 1000; decide), fun t ht => ?_⟩⟩⟩
    have s13 := (same_new hl (.tup (as.map V.str))).trans (same_new ht (.tup [V.str a0, V.str b3, V.int (1 + pg), V.int cp, V.str ly, V.str pp, optV cv, v, V.bl stp, V.ref l]))
    refine q t ⟨a0, b3, 1 + pg, cp, ly, pp, cv, co, stp, as⟩ _ ((sT8.trans s11).trans s13) ⟨ga0, gb3, by show 1 ≤ 1 + pg; omega, by show 1 + pg ≤ 999; omega, cp0, cp1, hly, gpp, gcv, gco, gas, nas, las⟩ ⟨v, l, upd_same, (hco.same s11).same s13, (same_new ht _) _ _ upd_same⟩
end
end My
namespace My
open PySem L2
open Blk (sg sg_inj sg_app)
section
variable {P : Program} {w : World} {K : PySem.W.Frag} {mg : Str → Option Value} {base : Heap}
theorem slice_to40 (x : Str) (n : Nat) : sg (Txt.slice x none (some ((n : Nat) : Int))) = (sg x).take n := by
  have h := PyProof.Rows.slice_to_min_closes (x := x) (n := ((n : Nat) : Int)) (m := if ((x.length : Nat) : Int) < ((n : Nat) : Int) then ((x.length : Nat) : Int) else ((n : Nat) : Int)) (by omega) rfl
  have e := eq_of_beq h
  rw [e]
  show ((sg x).drop (Int.toNat 0)).take _ = _
  rw [show Int.toNat 0 = 0 from rfl, List.drop_zero]
  by_cases c : ((x.length : Nat) : Int) < ((n : Nat) : Int)
  · rw [if_pos c, List.take_of_length_le (by rw [sg_len]; omega), List.take_of_length_le (by rw [sg_len]; omega)]
  · rw [if_neg c]
    congr 1
theorem sl_to (z : Str) (n : Nat) : (Txt.slice z none (some ((n : Nat) : Int))).length = min n z.length := by
  have := congrArg List.length (slice_to40 z n)
  rw [List.length_take] at this
  exact this
theorem sl_from (z : Str) {n : Nat} (h : n ≤ z.length) : (Txt.slice z (some ((n : Nat) : Int)) none).length = z.length - n := by
  have e : z = (⟨((sg z).take n).toArray⟩ : Str) ++ ⟨((sg z).drop n).toArray⟩ := sg_inj (by
    rw [sg_app]
    exact (List.take_append_drop n (sg z)).symm)
  have l1 : (⟨((sg z).take n).toArray⟩ : Str).length = n := by
    show ((sg z).take n).toArray.size = n
    rw [List.size_toArray, List.length_take]
    exact Nat.min_eq_left h
  have e2 := slice_pre (⟨((sg z).take n).toArray⟩ : Str) ⟨((sg z).drop n).toArray⟩
  rw [← e, l1] at e2
  rw [e2]
  show ((sg z).drop n).toArray.size = _
  rw [List.size_toArray, List.length_drop]
  rfl
theorem app_len (a b : Str) : (a ++ b).length = a.length + b.length := by
  have := congrArg List.length (sg_app a b)
  rw [List.length_append] at this
  exact this
def sp__law_sign (_K : PySem.W.Frag) : Sp := fun vs H Q _ => ∃ n : Int, vs = [.int n] ∧ ∀ s : Str, s.length = 1 → Q (.str s) H
theorem sc__law_sign : FnScope ["_law_number_here", "_law_some"] ["_law_number_here"] (defScope s__law_sign) := ⟨rfl, rfl, rfl, by decide +kernel, rfl, by decide +kernel, by decide +kernel⟩
theorem ok__law_sign {fa cJob cBadLine cBusy cDry cGoesRound cNoHeap cNoPrinter cNotNow cNoWay cNowhere cOver cTooMuch cTwice cUnknown cHallError : Addr} {fd : FuncData} (F : Fun K "_law_sign" "_law_sign" s__law_sign fa fd) (T : Txt K mg cJob cBadLine cBusy cDry cGoesRound cNoHeap cNoPrinter cNotNow cNoWay cNowhere cOver cTooMuch cTwice cUnknown cHallError)  :
    FnOk P w K mg base CX0 1 fa fd ["_law_number_here"] (sp__law_sign K) := by
  refine F.ok sc__law_sign (fun vs H Q E h => ?_) (fun cdv A outer s H vs Q E hr h => ?_)
  · obtain ⟨n, rfl, _⟩ := h
    rfl
  obtain ⟨n, rfl, q⟩ := h
  refine ⟨_, (pss_cons (ps_set (i := 1) sc__law_sign.nd rfl (by first | exact Or.inl rfl | exact Or.inr rfl) pe_str)
  (pss_cons (ps_set (i := 1) sc__law_sign.nd rfl (by first | exact Or.inl rfl | exact Or.inr rfl) (pe_op op_add_str (pv 1) pe_str))
  (pss_one (ps_ret (pe_ix ix_strA (pv 1) (pe_op op_mod (pv 0) pe_int) (fun _ _ => rfl)))))), ?_⟩
  have m0 := Int.emod_nonneg n (show (94 : Int) ≠ 0 by decide)
  have m1 := Int.emod_lt_of_pos n (show (0 : Int) < 94 by decide)
  refine ⟨_, rfl, _, _, rfl, rfl, by decide +kernel, _, rfl, _, rfl, _, _, rfl, rfl, (by show (0 : Int) < 94; decide), _, _, rfl, rfl, by decide +kernel, m0, ?_, fun c _ => q _ rfl⟩
  · rw [show ((Str.length _ : Nat) : Int) = 94 by decide +kernel]; exact m1
theorem seq_cut {a rest : TS} {D : Ends} {σ : St} {H : Hp} (P : St → Hp → Prop) (h1 : ∀ R : St → Hp → Prop, (∀ σ H, P σ H → R σ H) → a { D with nx := R } σ H) (h2 : ∀ σ H, P σ H → rest D σ H) : tSeq a rest D σ H := h1 _ h2
def shortV (x : V) : Bool := match x with | .str s => decide (s.length ≤ 20) | _ => false
def ShortL (H : Hp) (p : Addr) (n : Nat) : Prop := ∃ xs : List V, H p = some (.lst xs) ∧ xs.length = n ∧ xs.all shortV = true
theorem short_at {xs : List V} (h : xs.all shortV = true) {i : Nat} {v : V} (e : xs[i]? = some v) : ∃ s, v = .str s ∧ s.length ≤ 20 := by
  have := List.all_eq_true.mp h v (List.mem_of_getElem? e)
  cases v with
  | str s => exact ⟨s, rfl, of_decide_eq_true this⟩
  | _ => cases this
def sp__law_odd (K : PySem.W.Frag) : Sp := fun vs H Q _ => ∃ (a : Addr) (k : Int), vs = [.ref a, .int k] ∧ Scr K H a ∧ 0 ≤ k ∧ k ≤ 900 ∧ ∀ (s : Str) (H' : Hp), Same H H' → s.length ≤ 20 → Q (.str s) H'
theorem sc__law_odd : FnScope ["_law_script", "_law_k", "_law_some"] ["_law_script", "_law_k"] (defScope s__law_odd) := ⟨rfl, rfl, rfl, by decide +kernel, rfl, by decide +kernel, by decide +kernel⟩
theorem ok__law_odd {fa cJob cBadLine cBusy cDry cGoesRound cNoHeap cNoPrinter cNotNow cNoWay cNowhere cOver cTooMuch cTwice cUnknown cHallError : Addr} {fd : FuncData} (F : Fun K "_law_odd" "_law_odd" s__law_odd fa fd) (T : Txt K mg cJob cBadLine cBusy cDry cGoesRound cNoHeap cNoPrinter cNotNow cNoWay cNowhere cOver cTooMuch cTwice cUnknown cHallError) (D__law_by : Dfn P w K mg base 2 "_law_by" ["_law_script", "_law_k", "_law_many"] (sp__law_by K)) :
    FnOk P w K mg base CX0 3 fa fd ["_law_script", "_law_k"] (sp__law_odd K) := by
  refine F.ok sc__law_odd (fun vs H Q E h => ?_) (fun cdv A outer s H vs Q E hr h => ?_)
  · obtain ⟨a, k, rfl, _⟩ := h
    rfl
  obtain ⟨a, k, rfl, sc, k0, k9, q⟩ := h
  refine ⟨_, (pss_cons (ps_set (i := 2) sc__law_odd.nd rfl (by first | exact Or.inl rfl | exact Or.inr rfl) (pe_lst (pa_cons pe_str (pa_cons pe_str (pa_cons pe_str (pa_cons pe_str (pa_cons pe_str (pa_cons pe_str (pa_cons pe_str (pa_cons pe_str (pa_cons pe_str (pa_cons pe_str (pa_cons pe_str (pa_cons pe_str (pa_cons pe_str (pa_cons pe_str pa_nil))))))))))))))))
  (pss_cons (ps_set (i := 2) sc__law_odd.nd rfl (by first | exact Or.inl rfl | exact Or.inr rfl) (pe_op op_cat (pv 2) (pe_lst (pa_cons pe_str (pa_cons pe_str (pa_cons pe_str (pa_cons pe_str (pa_cons pe_str (pa_cons pe_str (pa_cons pe_str pa_nil))))))))))
  (pss_cons (ps_set (i := 2) sc__law_odd.nd rfl (by first | exact Or.inl rfl | exact Or.inr rfl) (pe_op op_cat (pv 2) (pe_lst (pa_cons pe_str (pa_cons pe_str (pa_cons pe_str (pa_cons pe_str (pa_cons pe_str (pa_cons pe_str (pa_cons pe_str (pa_cons pe_str pa_nil)))))))))))
  (pss_cons (ps_set (i := 2) sc__law_odd.nd rfl (by first | exact Or.inl rfl | exact Or.inr rfl) (pe_op op_cat (pv 2) (pe_lst (pa_cons pe_str (pa_cons pe_str (pa_cons pe_str (pa_cons pe_str (pa_cons pe_str (pa_cons pe_str (pa_cons pe_str pa_nil))))))))))
  (pss_one (ps_ret (pe_ix ix_listA (pv 2) (pe_callD D__law_by (hr.mono (by decide)) rfl (pa_cons (pv 0) (pa_cons (pv 1) (pa_cons pe_int pa_nil)))) (fun _ _ => rfl)))))))), ?_⟩
  refine seq_cut (fun σ G => ∃ p, σ = [some (.ref a), some (.int k), some (.ref p)] ∧ Same H G ∧ ShortL G p 14) (fun R hR => ⟨small (by decide), fun p np => hR _ _ ⟨p, rfl, same_new np _, _, upd_same, rfl, by decide +kernel⟩⟩) (fun σ G z => ?_)
  obtain ⟨p, rfl, s1, xs, hp, lx, ax⟩ := z
  refine seq_cut (fun σ G => ∃ p, σ = [some (.ref a), some (.int k), some (.ref p)] ∧ Same H G ∧ ShortL G p 21) (fun R hR => ?_) (fun σ G z => ?_)
  · refine ⟨_, rfl, small (by decide), fun p2 np2 => ⟨p, p2, xs, _, rfl, rfl, same_new np2 _ _ _ hp, upd_same, small (by rw [lx]; decide), fun p3 np3 => hR _ _ ⟨p3, rfl, (s1.trans (same_new np2 _)).trans (same_new np3 _), _, upd_same, by rw [List.length_append, lx]; rfl, by rw [List.all_append, ax]; decide +kernel⟩⟩⟩
  clear s1 hp lx ax xs p
  obtain ⟨p, rfl, s1, xs, hp, lx, ax⟩ := z
  refine seq_cut (fun σ G => ∃ p, σ = [some (.ref a), some (.int k), some (.ref p)] ∧ Same H G ∧ ShortL G p 29) (fun R hR => ?_) (fun σ G z => ?_)
  · refine ⟨_, rfl, small (by decide), fun p2 np2 => ⟨p, p2, xs, _, rfl, rfl, same_new np2 _ _ _ hp, upd_same, small (by rw [lx]; decide), fun p3 np3 => hR _ _ ⟨p3, rfl, (s1.trans (same_new np2 _)).trans (same_new np3 _), _, upd_same, by rw [List.length_append, lx]; rfl, by rw [List.all_append, ax]; decide +kernel⟩⟩⟩
  clear s1 hp lx ax xs p
  obtain ⟨p, rfl, s1, xs, hp, lx, ax⟩ := z
  refine seq_cut (fun σ G => ∃ p, σ = [some (.ref a), some (.int k), some (.ref p)] ∧ Same H G ∧ ShortL G p 36) (fun R hR => ?_) (fun σ G z => ?_)
  · refine ⟨_, rfl, small (by decide), fun p2 np2 => ⟨p, p2, xs, _, rfl, rfl, same_new np2 _ _ _ hp, upd_same, small (by rw [lx]; decide), fun p3 np3 => hR _ _ ⟨p3, rfl, (s1.trans (same_new np2 _)).trans (same_new np3 _), _, upd_same, by rw [List.length_append, lx]; rfl, by rw [List.all_append, ax]; decide +kernel⟩⟩⟩
  clear s1 hp lx ax xs p
  obtain ⟨p, rfl, s1, xs, hp, lx, ax⟩ := z
  refine ⟨_, rfl, _, rfl, _, rfl, a, k, 36, rfl, sc.same s1, by omega, by omega, by decide, fun r r0 r1 => ⟨p, _, _, rfl, rfl, SqL.of hp, r0, by rw [lx]; exact r1, fun v hv => ?_⟩⟩
  obtain ⟨s, rfl, ls⟩ := short_at ax hv
  exact q s _ s1 ls
def sp__law_noughts (K : PySem.W.Frag) : Sp := fun vs H Q _ => ∃ (a : Addr) (k : Int) (w : Str), vs = [.ref a, .int k, .str w] ∧ Scr K H a ∧ 0 ≤ k ∧ k ≤ 900 ∧ w.length ≤ 100 ∧ ∀ (s : Str) (H' : Hp), Same H H' → s.length ≤ w.length + 20 → Q (.str s) H'
theorem sc__law_noughts : FnScope ["_law_script", "_law_k", "_law_word", "_law_figures", "_law_spots", "_law_at"] ["_law_script", "_law_k", "_law_word"] (defScope s__law_noughts) := ⟨rfl, rfl, rfl, by decide +kernel, rfl, by decide +kernel, by decide +kernel⟩
theorem ok__law_noughts {fa cJob cBadLine cBusy cDry cGoesRound cNoHeap cNoPrinter cNotNow cNoWay cNowhere cOver cTooMuch cTwice cUnknown cHallError : Addr} {fd : FuncData} (F : Fun K "_law_noughts" "_law_noughts" s__law_noughts fa fd) (T : Txt K mg cJob cBadLine cBusy cDry cGoesRound cNoHeap cNoPrinter cNotNow cNoWay cNowhere cOver cTooMuch cTwice cUnknown cHallError) (D__law_by : Dfn P w K mg base 2 "_law_by" ["_law_script", "_law_k", "_law_many"] (sp__law_by K)) :
    FnOk P w K mg base CX0 3 fa fd ["_law_script", "_law_k", "_law_word"] (sp__law_noughts K) := by
  refine F.ok sc__law_noughts (fun vs H Q E h => ?_) (fun cdv A outer s H vs Q E hr h => ?_)
  · obtain ⟨a, k, w, rfl, _⟩ := h
    rfl
  obtain ⟨a, k, w, rfl, sc, k0, k9, lw, q⟩ := h
  refine ⟨_, (pss_cons (ps_set (i := 3) sc__law_noughts.nd rfl (by first | exact Or.inl rfl | exact Or.inr rfl) pe_str)
  (pss_cons (ps_set (i := 4) sc__law_noughts.nd rfl (by first | exact Or.inl rfl | exact Or.inr rfl) (pe_lst pa_nil))
  (pss_cons (ps_for PassesOwn.never rfl (pi_range1 rfl T.range (pa_cons (pe_callB call_len_str rfl T.len PySem.boot_len (pa_cons (pv 2) pa_nil)) pa_nil)) (pg_name (i := 5) sc__law_noughts.nd rfl (by first | exact Or.inl rfl | exact Or.inr rfl))
  (pss_one (ps_if (PW.pt (pw_and (pt_cmpR op_ge (pe_bm PySem.F.plainAttrs_str PySem.F.slot_str_find PySem.F.type_str_find mt_find (pv 3) (pa_cons (pe_ix ix_strA (pv 2) (pv 5) (fun _ _ => rfl)) pa_nil)) pe_int (nomark _)) (pw_and1 (PW.pt (pw_or (pt_cmpR op_eq (pv 5) pe_int (nomark _)) (pw_or1 (pt_cmpR op_lt (pe_bm PySem.F.plainAttrs_str PySem.F.slot_str_find PySem.F.type_str_find mt_find (pv 3) (pa_cons (pe_ix ix_strA (pv 2) (pe_op op_sub (pv 5) pe_int) (fun _ _ => rfl)) pa_nil)) pe_int (nomark _)))))))) (pss_one (ps_expr (pe_bm PySem.F.plainAttrs_list PySem.F.slot_list_append PySem.F.type_list_append mt_append (pv 4) (pa_cons (pv 5) pa_nil)))) pss_nil)))
  (pss_cons (ps_if (pt_cmpR op_eq (pe_callB call_len_seq rfl T.len PySem.boot_len (pa_cons (pv 4) pa_nil)) pe_int (nomark _)) (pss_one (ps_ret (pv 2))) pss_nil)
  (pss_cons (ps_set (i := 5) sc__law_noughts.nd rfl (by first | exact Or.inl rfl | exact Or.inr rfl) (pe_ix ix_listA (pv 4) (pe_callD D__law_by (hr.mono (by decide)) rfl (pa_cons (pv 0) (pa_cons (pv 1) (pa_cons (pe_callB call_len_seq rfl T.len PySem.boot_len (pa_cons (pv 4) pa_nil)) pa_nil)))) (fun _ _ => rfl)))
  (pss_one (ps_ret (pe_op op_add_str (pe_op op_add_str (pe_slice sl_str (pv 2) po_none (po_some (pv 5))) (pe_ix ix_listA (pe_lst (pa_cons pe_str (pa_cons pe_str (pa_cons pe_str pa_nil)))) (pe_callD D__law_by (hr.mono (by decide)) rfl (pa_cons (pv 0) (pa_cons (pe_op op_add (pv 1) pe_int) (pa_cons pe_int pa_nil)))) (fun _ _ => rfl))) (pe_slice sl_str (pv 2) (po_some (pv 5)) po_none))))))))), ?_⟩
  refine ⟨Nat.zero_le _, fun p np => ?_⟩
  have s1 := same_new np (.lst [])
  have hp1 : upd H p (.lst []) p = some (.lst ([] : List V)) := upd_same
  dsimp only [gName]
  generalize upd H p (.lst []) = H1 at s1 hp1 ⊢
  refine ⟨_, rfl, w, rfl, small (by omega), _, rfl, by omega, by omega, ?_⟩
  rw [show (((w.length : Nat) : Int)).toNat = w.length by omega]
  refine for_range (lo := 0) (n := w.length) (fun i σ G => Same H G ∧ ∃ (v5 : Option V) (ss : List Nat), σ = [some (.ref a), some (.int k), some (.str w), some (.str (Str.ofString "0123456789")), some (.ref p), v5] ∧ G p = some (.lst (ss.map fun n => V.int ((n : Nat) : Int))) ∧ ss.length ≤ i ∧ ∀ n ∈ ss, n < w.length) ⟨s1, _, [], rfl, hp1, Nat.le_refl _, fun n hn => absurd hn List.not_mem_nil⟩ (fun i σ G hi z => ?_) (fun σ G z => ?_)
  · obtain ⟨sG, v5, ss, rfl, hp, ls, bs⟩ := z
    have e0 : (0 : Int) + (i : Int) = (i : Int) := Int.zero_add _
    have stay : Same H G ∧ ∃ (v5' : Option V) (ss : List Nat), [some (V.ref a), some (V.int k), some (V.str w), some (V.str (Str.ofString "0123456789")), some (V.ref p), some (V.int (0 + (i : Int)))] = [some (.ref a), some (.int k), some (.str w), some (.str (Str.ofString "0123456789")), some (.ref p), v5'] ∧ G p = some (.lst (ss.map fun n => V.int ((n : Nat) : Int))) ∧ ss.length ≤ i + 1 ∧ ∀ n ∈ ss, n < w.length := ⟨sG, _, ss, rfl, hp, by omega, bs⟩
    have put : ∀ D : Ends, D.nx = (fun σ G => Same H G ∧ ∃ (v5 : Option V) (ss : List Nat), σ = [some (.ref a), some (.int k), some (.str w), some (.str (Str.ofString "0123456789")), some (.ref p), v5] ∧ G p = some (.lst (ss.map fun n => V.int ((n : Nat) : Int))) ∧ ss.length ≤ i + 1 ∧ ∀ n ∈ ss, n < w.length) → D.nx [some (V.ref a), some (V.int k), some (V.str w), some (V.str (Str.ofString "0123456789")), some (V.ref p), some (V.int (0 + (i : Int)))] (upd G p (.lst ((ss.map fun n => V.int ((n : Nat) : Int)) ++ [V.int (0 + (i : Int))]))) := fun D e => by
      rw [e]
      refine ⟨same_on np sG _, _, ss ++ [i], rfl, by rw [upd_same, List.map_append, e0]; rfl, by rw [List.length_append]; show ss.length + 1 ≤ _; omega, fun n hn => ?_⟩
      rcases List.mem_append.mp hn with hn | hn
      · exact bs n hn
      · rw [List.mem_singleton.mp hn]; exact hi
    refine ⟨_, rfl, rfl, _, rfl, _, rfl, w, _, rfl, rfl, small (by omega), by omega, by omega, fun c hc => ⟨_, _, rfl, rfl, _, _, rfl, rfl, _, rfl, ite2 (fun c1 => ?_) (fun _ => iteF stay)⟩⟩
    refine ⟨_, rfl, rfl, _, rfl, ite2 (fun _ => iteT ?_) (fun c2 => ?_)⟩
    · exact ⟨_, rfl, .inl ⟨rfl, _, SqL.of hp⟩, _, rfl, p, _, _, rfl, rfl, hp, small1000 (by rw [List.length_map]; omega), put _ rfl⟩
    · have i0 : i ≠ 0 := fun z => c2 (decide_eq_true (by rw [z]; rfl))
      refine ⟨_, rfl, rfl, _, rfl, _, rfl, _, _, rfl, rfl, w, _, rfl, rfl, small (by omega), by omega, by omega, fun c hc => ⟨_, _, rfl, rfl, _, _, rfl, rfl, _, rfl, ite2 (fun _ => ?_) (fun _ => stay)⟩⟩
      exact ⟨_, rfl, .inl ⟨rfl, _, SqL.of hp⟩, _, rfl, p, _, _, rfl, rfl, hp, small1000 (by rw [List.length_map]; omega), put _ rfl⟩
  · obtain ⟨sG, v5, ss, rfl, hp, ls, bs⟩ := z
    refine ⟨_, rfl, p, _, rfl, .inl (SqL.of hp), rfl, _, rfl, ite2 (fun _ => ⟨_, rfl, q w _ sG (by omega)⟩) (fun c => ?_)⟩
    have l0 : 0 < ss.length := by
      cases ss with
      | nil => exact absurd (decide_eq_true rfl) c
      | cons x y => exact Nat.succ_pos _
    have lm : (ss.map fun n => V.int ((n : Nat) : Int)).length = ss.length := List.length_map _
    refine ⟨_, rfl, _, rfl, _, rfl, _, rfl, p, _, rfl, .inl (SqL.of hp), a, k, _, rfl, sc.same sG, by omega, by omega, by rw [lm]; omega, fun r r0 r1 => ⟨p, _, _, rfl, rfl, SqL.of hp, r0, r1, fun v hv => ?_⟩⟩
    rw [List.getElem?_map] at hv
    obtain ⟨at', ha, rfl⟩ := Option.map_eq_some_iff.mp hv
    have la := bs at' (List.mem_of_getElem? ha)
    dsimp only [gName]
    refine ⟨_, rfl, _, rfl, _, rfl, w, rfl, small (by omega), small (by decide), fun l nl => ?_⟩
    have s2 := same_new nl (.lst [V.str (Str.ofString "0"), .str (Str.ofString "0"), .str (Str.ofString "1111111111")])
    refine ⟨_, rfl, _, rfl, _, _, rfl, rfl, a, k + 1, 3, rfl, (sc.same sG).same s2, by omega, by omega, by decide, fun r r0 r1 => ⟨l, _, _, rfl, rfl, SqL.of upd_same, r0, r1, fun v hv => ?_⟩⟩
    obtain ⟨s, rfl, ls'⟩ := short_at (xs := [V.str (Str.ofString "0"), .str (Str.ofString "0"), .str (Str.ofString "1111111111")]) (by decide +kernel) hv
    have l1 := sl_to w at'
    have l2 := sl_from w (n := at') (by omega)
    refine ⟨_, _, rfl, rfl, small (by omega), _, rfl, _, rfl, _, rfl, w, rfl, small (by omega), _, _, rfl, rfl, small (by rw [app_len]; omega), q _ _ (sG.trans s2) (by rw [app_len, app_len]; omega)⟩
end
end My
namespace My
open PySem L2
open Blk (sg sg_inj sg_app)
section
variable {P : Program} {w : World} {K : PySem.W.Frag} {mg : Str → Option Value} {base : Heap}
theorem cat3 {K : PySem.W.Frag} {te t2 : TE} {σ : St} {H : Hp} {Q : VK} {p : Addr} {ws : List Str} {at' b m : Nat} (h2 : σ[2]? = some (some (.ref p))) (h3 : σ[3]? = some (some (.int (at' : Int)))) (hp : H p = some (.lst (ws.map V.str))) (lw : ws.length ≤ 100)
    (hte : ∀ (H1 : Hp) (R : VK), Same H H1 → (∀ (s : Str) (H2 : Hp), Same H1 H2 → s.length ≤ m → R (.str s) H2) → te σ H1 R) (ht2 : ∀ (H1 : Hp) (R : VK), R (.int (b : Int)) H1 → t2 σ H1 R)
    (q : ∀ (p' : Addr) (s : Str) (H' : Hp), Same H H' → H' p' = some (.lst ((ws.take at' ++ [s] ++ ws.drop b).map V.str)) → s.length ≤ m → Q (.ref p') H') :
    tOp rCat (tOp rCat (tSl (rSlL K) (tVar 2) tNoPart (tPart (tVar 3))) (tLst (tCons te tNil))) (tSl (rSlL K) (tVar 2) (tPart t2) tNoPart) σ H Q := by
  refine ⟨_, h2, _, h3, _, rfl, p, _, rfl, SqL.of hp, fun p1 n1 => ?_⟩
  rw [cut_to, ← List.map_take]
  have s1 := same_new n1 (.lst ((ws.take at').map V.str))
  have e1 : upd H p1 (.lst ((ws.take at').map V.str)) p1 = some (.lst ((ws.take at').map V.str)) := upd_same
  generalize upd H p1 (.lst ((ws.take at').map V.str)) = H1 at s1 e1 ⊢
  refine hte H1 _ s1 (fun s H2 s2 ls => ⟨small (by show 1 ≤ 1000; decide), fun p2 n2 => ?_⟩)
  have s3 := same_new n2 (.lst [V.str s])
  have e2 : upd H2 p2 (.lst [V.str s]) p2 = some (.lst [V.str s]) := upd_same
  dsimp only
  generalize upd H2 p2 (.lst [V.str s]) = H3 at s3 e2 ⊢
  refine ⟨p1, p2, _, _, rfl, rfl, s3 _ _ (s2 _ _ e1), e2, small (by rw [List.length_map, List.length_take]; show _ + 1 ≤ _; omega), fun p3 n3 => ?_⟩
  have s4 := same_new n3 (.lst ((ws.take at').map V.str ++ [V.str s]))
  have e3 : upd H3 p3 (.lst ((ws.take at').map V.str ++ [V.str s])) p3 = some (.lst ((ws.take at').map V.str ++ [V.str s])) := upd_same
  dsimp only
  generalize upd H3 p3 (.lst ((ws.take at').map V.str ++ [V.str s])) = H4 at s4 e3 ⊢
  have s04 := ((s1.trans s2).trans s3).trans s4
  refine ⟨_, h2, ht2 H4 _ ⟨_, rfl, p, _, rfl, SqL.of (s04 _ _ hp), fun p4 n4 => ?_⟩⟩
  rw [cut_from, ← List.map_drop]
  have s5 := same_new n4 (.lst ((ws.drop b).map V.str))
  have e4 : upd H4 p4 (.lst ((ws.drop b).map V.str)) p4 = some (.lst ((ws.drop b).map V.str)) := upd_same
  generalize upd H4 p4 (.lst ((ws.drop b).map V.str)) = H5 at s5 e4 ⊢
  refine ⟨p3, p4, _, _, rfl, rfl, s5 _ _ e3, e4, small (by rw [List.length_append, List.length_map, List.length_map, List.length_take, List.length_drop]; show _ + 1 + _ ≤ _; omega), fun p5 n5 => ?_⟩
  exact q p5 s _ ((s04.trans s5).trans (same_new n5 _)) (by rw [upd_same, List.map_append, List.map_append]; rfl) ls
def sp__law_spoilt (K : PySem.W.Frag) : Sp := fun vs H Q _ => ∃ (a : Addr) (k : Int) (p : Addr) (ws : List Str) (m : Nat), vs = [.ref a, .int k, .ref p] ∧ Scr K H a ∧ 0 ≤ k ∧ k ≤ 800 ∧ H p = some (.lst (ws.map V.str)) ∧ 1 ≤ ws.length ∧ ws.length ≤ 20 ∧ (∀ w ∈ ws, w.length ≤ m) ∧ 20 ≤ m ∧ m ≤ 60 ∧
  ∀ (p' : Addr) (ws' : List Str) (H' : Hp), Same H H' → H' p' = some (.lst (ws'.map V.str)) → ws'.length ≤ ws.length + 1 → (∀ w ∈ ws', w.length ≤ m + 20) → Q (.ref p') H'
theorem sc__law_spoilt : FnScope ["_law_script", "_law_k", "_law_words_here", "_law_at", "_law_word", "_law_spot", "_law_way"] ["_law_script", "_law_k", "_law_words_here"] (defScope s__law_spoilt) := ⟨rfl, rfl, rfl, by decide +kernel, rfl, by decide +kernel, by decide +kernel⟩
theorem ok__law_spoilt {fa cJob cBadLine cBusy cDry cGoesRound cNoHeap cNoPrinter cNotNow cNoWay cNowhere cOver cTooMuch cTwice cUnknown cHallError : Addr} {fd : FuncData} (F : Fun K "_law_spoilt" "_law_spoilt" s__law_spoilt fa fd) (T : Txt K mg cJob cBadLine cBusy cDry cGoesRound cNoHeap cNoPrinter cNotNow cNoWay cNowhere cOver cTooMuch cTwice cUnknown cHallError) (D__law_by : Dfn P w K mg base 2 "_law_by" ["_law_script", "_law_k", "_law_many"] (sp__law_by K)) (D__law_sign : Dfn P w K mg base 1 "_law_sign" ["_law_number_here"] (sp__law_sign K)) (D__law_odd : Dfn P w K mg base 3 "_law_odd" ["_law_script", "_law_k"] (sp__law_odd K)) (D__law_noughts : Dfn P w K mg base 3 "_law_noughts" ["_law_script", "_law_k", "_law_word"] (sp__law_noughts K)) :
    FnOk P w K mg base CX0 4 fa fd ["_law_script", "_law_k", "_law_words_here"] (sp__law_spoilt K) := by
  refine F.ok sc__law_spoilt (fun vs H Q E h => ?_) (fun cdv A outer s H vs Q E hr h => ?_)
  · obtain ⟨a, k, p, ws, m, rfl, _⟩ := h
    rfl
  obtain ⟨a, k, p, ws, m, rfl, sc, k0, k8, hp, l1, l2, lm, m2, m6, q⟩ := h
  refine ⟨_, (pss_cons (ps_set (i := 3) sc__law_spoilt.nd rfl (by first | exact Or.inl rfl | exact Or.inr rfl) (pe_callD D__law_by (hr.mono (by decide)) rfl (pa_cons (pv 0) (pa_cons (pv 1) (pa_cons (pe_callB call_len_seq rfl T.len PySem.boot_len (pa_cons (pv 2) pa_nil)) pa_nil)))))
  (pss_cons (ps_set (i := 4) sc__law_spoilt.nd rfl (by first | exact Or.inl rfl | exact Or.inr rfl) (pe_ix ix_listA (pv 2) (pv 3) (fun _ _ => rfl)))
  (pss_cons (ps_set (i := 5) sc__law_spoilt.nd rfl (by first | exact Or.inl rfl | exact Or.inr rfl) (pe_callD D__law_by (hr.mono (by decide)) rfl (pa_cons (pv 0) (pa_cons (pe_op op_add (pv 1) pe_int) (pa_cons (pe_op op_add (pe_callB call_len_str rfl T.len PySem.boot_len (pa_cons (pv 4) pa_nil)) pe_int) pa_nil)))))
  (pss_cons (ps_set (i := 6) sc__law_spoilt.nd rfl (by first | exact Or.inl rfl | exact Or.inr rfl) (pe_callD D__law_by (hr.mono (by decide)) rfl (pa_cons (pv 0) (pa_cons (pe_op op_add (pv 1) pe_int) (pa_cons pe_int pa_nil)))))
  (pss_cons (ps_if (pt_cmpR op_eq (pv 6) pe_int (nomark _)) (pss_one (ps_ret (pe_op op_cat (pe_op op_cat (pe_slice sl_list (pv 2) po_none (po_some (pv 3))) (pe_lst (pa_cons (pe_callD D__law_noughts (hr.mono (by decide)) rfl (pa_cons (pv 0) (pa_cons (pe_op op_add (pv 1) pe_int) (pa_cons (pv 4) pa_nil)))) pa_nil))) (pe_slice sl_list (pv 2) (po_some (pe_op op_add (pv 3) pe_int)) po_none)))) pss_nil)
  (pss_cons (ps_if (pt_cmpR op_eq (pv 6) pe_int (nomark _)) (pss_one (ps_ret (pe_op op_cat (pe_slice sl_list (pv 2) po_none (po_some (pv 3))) (pe_slice sl_list (pv 2) (po_some (pe_op op_add (pv 3) pe_int)) po_none)))) pss_nil)
  (pss_cons (ps_if (pt_cmpR op_eq (pv 6) pe_int (nomark _)) (pss_one (ps_ret (pe_op op_cat (pe_op op_cat (pe_slice sl_list (pv 2) po_none (po_some (pv 3))) (pe_lst (pa_cons (pv 4) pa_nil))) (pe_slice sl_list (pv 2) (po_some (pv 3)) po_none)))) pss_nil)
  (pss_cons (ps_if (pt_cmpR op_eq (pv 6) pe_int (nomark _)) (pss_one (ps_ret (pe_op op_cat (pv 2) (pe_lst (pa_cons (pv 4) pa_nil))))) pss_nil)
  (pss_cons (ps_if (pt_cmpR op_eq (pv 6) pe_int (nomark _)) (pss_cons (ps_set (i := 4) sc__law_spoilt.nd rfl (by first | exact Or.inl rfl | exact Or.inr rfl) (pe_op op_add_str (pe_op op_add_str (pe_slice sl_str (pv 4) po_none (po_some (pv 5))) (pe_callD D__law_sign (hr.mono (by decide)) rfl (pa_cons (pe_callD D__law_by (hr.mono (by decide)) rfl (pa_cons (pv 0) (pa_cons (pe_op op_add (pv 1) pe_int) (pa_cons pe_int pa_nil)))) pa_nil))) (pe_slice sl_str (pv 4) (po_some (pv 5)) po_none)))
  (pss_one (ps_ret (pe_op op_cat (pe_op op_cat (pe_slice sl_list (pv 2) po_none (po_some (pv 3))) (pe_lst (pa_cons (pv 4) pa_nil))) (pe_slice sl_list (pv 2) (po_some (pe_op op_add (pv 3) pe_int)) po_none))))) pss_nil)
  (pss_cons (ps_if (pt_cmpR op_eq (pv 6) pe_int (nomark _)) (pss_cons (ps_set (i := 4) sc__law_spoilt.nd rfl (by first | exact Or.inl rfl | exact Or.inr rfl) (pe_op op_add_str (pe_slice sl_str (pv 4) po_none (po_some (pv 5))) (pe_slice sl_str (pv 4) (po_some (pe_op op_add (pv 5) pe_int)) po_none)))
  (pss_one (ps_ret (pe_op op_cat (pe_op op_cat (pe_slice sl_list (pv 2) po_none (po_some (pv 3))) (pe_lst (pa_cons (pv 4) pa_nil))) (pe_slice sl_list (pv 2) (po_some (pe_op op_add (pv 3) pe_int)) po_none))))) pss_nil)
  (pss_cons (ps_if (pt_cmpR op_eq (pv 6) pe_int (nomark _)) (pss_one (ps_ret (pe_op op_cat (pe_op op_cat (pe_slice sl_list (pv 2) po_none (po_some (pv 3))) (pe_lst (pa_cons (pe_callD D__law_odd (hr.mono (by decide)) rfl (pa_cons (pv 0) (pa_cons (pe_op op_add (pv 1) pe_int) pa_nil))) pa_nil))) (pe_slice sl_list (pv 2) (po_some (pv 3)) po_none)))) pss_nil)
  (pss_cons (ps_if (pt_cmpR op_eq (pv 6) pe_int (nomark _)) (pss_one (ps_ret (pe_slice sl_list (pv 2) po_none (po_some (pe_callD D__law_by (hr.mono (by decide)) rfl (pa_cons (pv 0) (pa_cons (pe_op op_add (pv 1) pe_int) (pa_cons pe_int pa_nil)))))))) pss_nil)
  (pss_one (ps_ret (pe_op op_cat (pe_op op_cat (pe_slice sl_list (pv 2) po_none (po_some (pv 3))) (pe_lst (pa_cons (pe_callD D__law_odd (hr.mono (by decide)) rfl (pa_cons (pv 0) (pa_cons (pe_op op_add (pv 1) pe_int) pa_nil))) pa_nil))) (pe_slice sl_list (pv 2) (po_some (pe_op op_add (pv 3) pe_int)) po_none)))))))))))))))), ?_⟩
  have ll : (ws.map V.str).length = ws.length := List.length_map _
  refine ⟨_, rfl, _, rfl, _, rfl, p, _, rfl, .inl (SqL.of hp), a, k, _, rfl, sc, by omega, by omega, by rw [ll]; omega, fun at0 a0 a1 => ?_⟩
  rw [ll] at a1
  obtain ⟨at', rfl⟩ : ∃ at' : Nat, at0 = (at' : Int) := ⟨at0.toNat, by omega⟩
  dsimp only [gName]
  refine ⟨_, rfl, _, rfl, p, _, _, rfl, rfl, SqL.of hp, a0, by rw [ll]; exact a1, fun v hv => ?_⟩
  rw [List.getElem?_map] at hv
  obtain ⟨w, hw, rfl⟩ := Option.map_eq_some_iff.mp hv
  have lw := lm w (List.mem_of_getElem? hw)
  clear hv hw
  dsimp only [gName]
  refine ⟨_, rfl, _, rfl, _, _, rfl, rfl, _, rfl, w, rfl, small (by omega), _, _, rfl, rfl, a, k + 1, _, rfl, sc, by omega, by omega, by omega, fun sp0 b0 b1 => ?_⟩
  obtain ⟨sp', rfl⟩ : ∃ sp' : Nat, sp0 = (sp' : Int) := ⟨sp0.toNat, by omega⟩
  dsimp only [gName]
  refine ⟨_, rfl, _, rfl, _, _, rfl, rfl, a, k + 2, 9, rfl, sc, by omega, by omega, by decide, fun way w0 w9 => ?_⟩
  dsimp only [gName]
  have inT : ∀ {b : Nat} (n : Nat), at' ≤ n → n ≤ at' + 1 → b = n → ∀ (p' : Addr) (s : Str) (H' : Hp), Same H H' → H' p' = some (.lst ((ws.take at' ++ [s] ++ ws.drop b).map V.str)) → s.length ≤ m + 20 → Q (.ref p') H' := fun n n0 n1 e p' s H' sm hp' ls => by
    refine q p' _ H' sm hp' ?_ (fun x hx => ?_)
    · rw [List.length_append, List.length_append, List.length_take, List.length_drop]
      show _ + 1 + _ ≤ _
      omega
    · rcases List.mem_append.mp hx with hx | hx
      · rcases List.mem_append.mp hx with hx | hx
        · have := lm x (List.mem_of_mem_take hx); omega
        · rw [List.mem_singleton.mp hx]; exact ls
      · have := lm x (List.mem_of_mem_drop hx); omega
  have p1 : ∀ (H1 : Hp) (R : VK), R (.int ((at' + 1 : Nat) : Int)) H1 → tOp (rI0 fun i j => V.int (i + j)) (tVar 3) (tC (V.int 1)) [some (.ref a), some (.int k), some (.ref p), some (.int (at' : Int)), some (.str w), some (.int (sp' : Int)), some (.int way)] H1 R := fun H1 R r => ⟨_, rfl, _, _, rfl, rfl, r⟩
  refine ⟨_, rfl, rfl, _, rfl, ite2 (fun _ => ?_) (fun _ => ?_)⟩
  · refine cat3 (m := m + 20) rfl rfl hp (by omega) (fun H1 R s1 hR => ?_) p1 (inT (at' + 1) (by omega) (by omega) rfl)
    exact ⟨_, rfl, _, rfl, _, _, rfl, rfl, _, rfl, a, k + 3, w, rfl, sc.same s1, by omega, by omega, by omega, fun s H2 s2 ls => hR s H2 s2 (by omega)⟩
  refine ⟨_, rfl, rfl, _, rfl, ite2 (fun _ => ?_) (fun _ => ?_)⟩
  · refine ⟨_, rfl, _, rfl, _, rfl, p, _, rfl, SqL.of hp, fun q1 n1 => ?_⟩
    rw [cut_to, ← List.map_take]
    have s1 := same_new n1 (.lst ((ws.take at').map V.str))
    have e1 : upd H q1 (.lst ((ws.take at').map V.str)) q1 = some (.lst ((ws.take at').map V.str)) := upd_same
    generalize upd H q1 (.lst ((ws.take at').map V.str)) = H1 at s1 e1 ⊢
    refine ⟨_, rfl, _, rfl, _, _, rfl, rfl, _, rfl, p, _, rfl, SqL.of (s1 _ _ hp), fun q2 n2 => ?_⟩
    rw [show ((at' : Nat) : Int) + 1 = ((at' + 1 : Nat) : Int) from rfl, cut_from, ← List.map_drop]
    have s2 := same_new n2 (.lst ((ws.drop (at' + 1)).map V.str))
    have e2 : upd H1 q2 (.lst ((ws.drop (at' + 1)).map V.str)) q2 = some (.lst ((ws.drop (at' + 1)).map V.str)) := upd_same
    generalize upd H1 q2 (.lst ((ws.drop (at' + 1)).map V.str)) = H2 at s2 e2 ⊢
    refine ⟨q1, q2, _, _, rfl, rfl, s2 _ _ e1, e2, small (by rw [List.length_map, List.length_map, List.length_take, List.length_drop]; omega), fun q3 n3 => ?_⟩
    refine q q3 (ws.take at' ++ ws.drop (at' + 1)) _ ((s1.trans s2).trans (same_new n3 _)) (by rw [upd_same, List.map_append]) (by rw [List.length_append, List.length_take, List.length_drop]; omega) (fun x hx => ?_)
    rcases List.mem_append.mp hx with hx | hx
    · have := lm x (List.mem_of_mem_take hx); omega
    · have := lm x (List.mem_of_mem_drop hx); omega
  refine ⟨_, rfl, rfl, _, rfl, ite2 (fun _ => ?_) (fun _ => ?_)⟩
  · exact cat3 (m := m + 20) rfl rfl hp (by omega) (fun H1 R s1 hR => ⟨_, rfl, hR w H1 (Same.refl _) (by omega)⟩) (fun H1 R r => ⟨_, rfl, r⟩) (inT at' (by omega) (by omega) rfl)
  refine ⟨_, rfl, rfl, _, rfl, ite2 (fun _ => ?_) (fun _ => ?_)⟩
  · refine ⟨_, rfl, _, rfl, small (by show 1 ≤ 1000; decide), fun q1 n1 => ?_⟩
    have s1 := same_new n1 (.lst [V.str w])
    have e1 : upd H q1 (.lst [V.str w]) q1 = some (.lst [V.str w]) := upd_same
    dsimp only
    generalize upd H q1 (.lst [V.str w]) = H1 at s1 e1 ⊢
    refine ⟨p, q1, _, _, rfl, rfl, s1 _ _ hp, e1, small (by rw [List.length_map]; show _ + 1 ≤ _; omega), fun q2 n2 => ?_⟩
    refine q q2 (ws ++ [w]) _ (s1.trans (same_new n2 _)) (by rw [upd_same, List.map_append]; rfl) (by rw [List.length_append]; exact Nat.le_refl _) (fun x hx => ?_)
    rcases List.mem_append.mp hx with hx | hx
    · have := lm x hx; omega
    · rw [List.mem_singleton.mp hx]; omega
  have l1' := sl_to w sp'
  have spw : sp' ≤ w.length := by omega
  have l2' := sl_from w (n := sp') spw
  refine ⟨_, rfl, rfl, _, rfl, ite2 (fun _ => ?_) (fun _ => ?_)⟩
  · refine ⟨_, rfl, _, rfl, _, rfl, w, rfl, small (by omega), _, rfl, _, rfl, _, _, rfl, rfl, a, k + 3, 94, rfl, sc, by omega, by omega, by decide, fun r r0 r1 => ⟨r, rfl, fun sg1 lsg => ?_⟩⟩
    refine ⟨_, _, rfl, rfl, small (by omega), _, rfl, _, rfl, _, rfl, w, rfl, small (by omega), _, _, rfl, rfl, small (by rw [app_len]; omega), ?_⟩
    have lx : ((Txt.slice w none (some ((sp' : Nat) : Int)) ++ sg1) ++ Txt.slice w (some ((sp' : Nat) : Int)) none).length ≤ m + 20 := by rw [app_len, app_len]; omega
    generalize (Txt.slice w none (some ((sp' : Nat) : Int)) ++ sg1) ++ Txt.slice w (some ((sp' : Nat) : Int)) none = x at lx
    dsimp only [gName]
    exact cat3 (m := m + 20) rfl rfl hp (by omega) (fun H1 R s1 hR => ⟨_, rfl, hR x H1 (Same.refl _) lx⟩) (fun H1 R r => ⟨_, rfl, _, _, rfl, rfl, r⟩) (inT (at' + 1) (by omega) (by omega) rfl)
  refine ⟨_, rfl, rfl, _, rfl, ite2 (fun _ => ?_) (fun _ => ?_)⟩
  · refine ⟨_, rfl, _, rfl, _, rfl, w, rfl, small (by omega), _, rfl, _, rfl, _, _, rfl, rfl, _, rfl, w, rfl, small (by omega), ?_⟩
    have lb : (Txt.slice w (some ((sp' : Int) + 1)) none).length ≤ w.length := Txt.slice_le w _ _
    refine ⟨_, _, rfl, rfl, small (by show _ + (Txt.slice w (some ((sp' : Int) + 1)) none).length ≤ _; omega), ?_⟩
    have lx : (Txt.slice w none (some ((sp' : Nat) : Int)) ++ Txt.slice w (some ((sp' : Int) + 1)) none).length ≤ m + 20 := by
      rw [app_len]
      by_cases c : sp' + 1 ≤ w.length
      · have := sl_from w (n := sp' + 1) c
        rw [show ((sp' + 1 : Nat) : Int) = (sp' : Int) + 1 from rfl] at this
        omega
      · rw [PyProof.Rows.slice_from_beyond (by omega)]
        show _ + 0 ≤ _
        omega
    dsimp only [gName]
    generalize Txt.slice w none (some ((sp' : Nat) : Int)) ++ Txt.slice w (some ((sp' : Int) + 1)) none = x at lx
    exact cat3 (m := m + 20) rfl rfl hp (by omega) (fun H1 R s1 hR => ⟨_, rfl, hR x H1 (Same.refl _) lx⟩) (fun H1 R r => ⟨_, rfl, _, _, rfl, rfl, r⟩) (inT (at' + 1) (by omega) (by omega) rfl)
  refine ⟨_, rfl, rfl, _, rfl, ite2 (fun _ => ?_) (fun _ => ?_)⟩
  · refine cat3 (m := m + 20) rfl rfl hp (by omega) (fun H1 R s1 hR => ?_) (fun H1 R r => ⟨_, rfl, r⟩) (inT at' (by omega) (by omega) rfl)
    exact ⟨_, rfl, _, rfl, _, _, rfl, rfl, a, k + 3, rfl, sc.same s1, by omega, by omega, fun s H2 s2 ls => hR s H2 s2 (by omega)⟩
  refine ⟨_, rfl, rfl, _, rfl, ite2 (fun _ => ?_) (fun _ => ?_)⟩
  · refine ⟨_, rfl, _, rfl, _, rfl, _, _, rfl, rfl, a, k + 3, 4, rfl, sc, by omega, by omega, by decide, fun r r0 r1 => ⟨_, rfl, p, _, rfl, SqL.of hp, fun q1 n1 => ?_⟩⟩
    obtain ⟨r', rfl⟩ : ∃ r' : Nat, r = (r' : Int) := ⟨r.toNat, by omega⟩
    rw [cut_to, ← List.map_take]
    exact q q1 (ws.take r') _ (same_new n1 _) upd_same (by rw [List.length_take]; omega) (fun x hx => by have := lm x (List.mem_of_mem_take hx); omega)
  · refine cat3 (m := m + 20) rfl rfl hp (by omega) (fun H1 R s1 hR => ?_) p1 (inT (at' + 1) (by omega) (by omega) rfl)
    exact ⟨_, rfl, _, rfl, _, _, rfl, rfl, a, k + 3, rfl, sc.same s1, by omega, by omega, fun s H2 s2 ls => hR s H2 s2 (by omega)⟩
end
end My
namespace My
open PySem L2
open Blk (sg sg_inj sg_app)
section
variable {P : Program} {w : World} {K : PySem.W.Frag} {mg : Str → Option Value} {base : Heap}
def WsAt (H : Hp) (p : Addr) (n : Nat) : Prop := ∃ ws : List Str, H p = some (.lst (ws.map V.str)) ∧ 1 ≤ ws.length ∧ ws.length ≤ n ∧ ∀ w ∈ ws, w.length ≤ 20
theorem WsAt.add {H : Hp} {p : Addr} {n : Nat} {s : Str} (h : WsAt H p n) (ls : s.length ≤ 20) : ∃ xs, H p = some (.lst xs) ∧ xs.length ≤ n ∧ WsAt (upd H p (.lst (xs ++ [V.str s]))) p (n + 1) := by
  obtain ⟨ws, h1, h2, h3, h4⟩ := h
  refine ⟨_, h1, by rw [List.length_map]; exact h3, ws ++ [s], by rw [upd_same, List.map_append]; rfl, by rw [List.length_append]; omega, by rw [List.length_append]; show _ + 1 ≤ _; omega, fun w hw => ?_⟩
  rcases List.mem_append.mp hw with hw | hw
  · exact h4 w hw
  · rw [List.mem_singleton.mp hw]; exact ls
theorem WsAt.more {H : Hp} {p : Addr} {n : Nat} (h : WsAt H p n) : WsAt H p (n + 1) := let ⟨ws, a, b, c, d⟩ := h; ⟨ws, a, b, by omega, d⟩
def sp__law_words (_K : PySem.W.Frag) : Sp := fun vs H Q _ => ∃ (t : Addr) (j : Jb), vs = [.ref t] ∧ j.Ok ∧ Due H t j ∧ ∀ p H', Same H H' → WsAt H' p 12 → Q (.ref p) H'
theorem sc__law_words : FnScope ["_law_job", "_law_words_here"] ["_law_job"] (defScope s__law_words) := ⟨rfl, rfl, rfl, by decide +kernel, rfl, by decide +kernel, by decide +kernel⟩
theorem ok__law_words {fa cJob cBadLine cBusy cDry cGoesRound cNoHeap cNoPrinter cNotNow cNoWay cNowhere cOver cTooMuch cTwice cUnknown cHallError : Addr} {fd : FuncData} (F : Fun K "_law_words" "_law_words" s__law_words fa fd) (T : Txt K mg cJob cBadLine cBusy cDry cGoesRound cNoHeap cNoPrinter cNotNow cNoWay cNowhere cOver cTooMuch cTwice cUnknown cHallError)  :
    FnOk P w K mg base CX0 1 fa fd ["_law_job"] (sp__law_words K) := by
  refine F.ok sc__law_words (fun vs H Q E h => ?_) (fun cdv A outer s H vs Q E hr h => ?_)
  · obtain ⟨t, j, rfl, _⟩ := h
    rfl
  obtain ⟨t, j, rfl, ok, D, q⟩ := h
  obtain ⟨vc, pa, ht, hvc, hpa⟩ := D.ex
  refine ⟨_, (pss_cons (ps_set (i := 1) sc__law_words.nd rfl (by first | exact Or.inl rfl | exact Or.inr rfl) (pe_lst (pa_cons (pe_ix ix_tup (pv 0) pe_int (fun _ _ => rfl)) (pa_cons (pe_ix ix_tup (pv 0) pe_int (fun _ _ => rfl)) (pa_cons (pe_callTy call_str_int rfl T.str bt_str (pa_cons (pe_ix ix_tup (pv 0) pe_int (fun _ _ => rfl)) pa_nil)) pa_nil)))))
  (pss_cons (ps_if (pt_cmpR op_ne (pe_ix ix_tup (pv 0) pe_int (fun _ _ => rfl)) pe_int (nomark _)) (pss_one (ps_expr (pe_bm PySem.F.plainAttrs_list PySem.F.slot_list_append PySem.F.type_list_append mt_append (pv 1) (pa_cons (pe_op op_add_str pe_str (pe_callTy call_str_int rfl T.str bt_str (pa_cons (pe_ix ix_tup (pv 0) pe_int (fun _ _ => rfl)) pa_nil))) pa_nil)))) pss_nil)
  (pss_cons (ps_if (pt_cmpR op_ne (pe_ix ix_tup (pv 0) pe_int (fun _ _ => rfl)) pe_str (nomark _)) (pss_one (ps_expr (pe_bm PySem.F.plainAttrs_list PySem.F.slot_list_append PySem.F.type_list_append mt_append (pv 1) (pa_cons (pe_ix ix_tup (pv 0) pe_int (fun _ _ => rfl)) pa_nil)))) pss_nil)
  (pss_cons (ps_if (pt_cmpR op_notN (pe_ix ix_tup (pv 0) pe_int (fun _ _ => rfl)) pe_non (nomark _)) (pss_one (ps_expr (pe_bm PySem.F.plainAttrs_list PySem.F.slot_list_append PySem.F.type_list_append mt_append (pv 1) (pa_cons (pe_op op_add_str (pe_op op_add_str (pe_op op_add_str pe_str (pe_callTy call_str_int rfl T.str bt_str (pa_cons (pe_ix ix_tup (pe_ix ix_tup (pv 0) pe_int (fun _ _ => rfl)) pe_int (fun _ _ => rfl)) pa_nil))) pe_str) (pe_callTy call_str_int rfl T.str bt_str (pa_cons (pe_ix ix_tup (pe_ix ix_tup (pv 0) pe_int (fun _ _ => rfl)) pe_int (fun _ _ => rfl)) pa_nil))) pa_nil)))) pss_nil)
  (pss_cons (ps_if (pt_cmpR op_ne (pe_ix ix_tup (pv 0) pe_int (fun _ _ => rfl)) pe_str (nomark _)) (pss_one (ps_expr (pe_bm PySem.F.plainAttrs_list PySem.F.slot_list_append PySem.F.type_list_append mt_append (pv 1) (pa_cons (pe_op op_add_str pe_str (pe_ix ix_tup (pv 0) pe_int (fun _ _ => rfl))) pa_nil)))) pss_nil)
  (pss_cons (ps_if (pt_cmpR op_notN (pe_ix ix_tup (pv 0) pe_int (fun _ _ => rfl)) pe_non (nomark _)) (pss_one (ps_expr (pe_bm PySem.F.plainAttrs_list PySem.F.slot_list_append PySem.F.type_list_append mt_append (pv 1) (pa_cons (pe_op op_add_str pe_str (pe_ix ix_tup (pv 0) pe_int (fun _ _ => rfl))) pa_nil)))) pss_nil)
  (pss_cons (ps_if (pt_truth (pe_ix ix_tup (pv 0) pe_int (fun _ _ => rfl)) (fun _ => rfl)) (pss_one (ps_expr (pe_bm PySem.F.plainAttrs_list PySem.F.slot_list_append PySem.F.type_list_append mt_append (pv 1) (pa_cons pe_str pa_nil)))) pss_nil)
  (pss_one (ps_ret (pe_op op_cat (pv 1) (pe_comp (frees := []) ⟨by decide +kernel, rfl, rfl, by decide +kernel, trivial, by decide +kernel, cellsFor_at rfl, rfl⟩ rfl (pi_tup (pe_ix ix_tup (pv 0) pe_int (fun _ _ => rfl))) (fun _ _ _ _ => pifs_nil) (fun _ _ _ _ => by exact (pe_op op_add_str pe_str (pv 0)))))))))))))), ?_⟩
  have ln := good_len ok.name
  have la := good_len ok.asker
  have lp3 := num_len (n := j.pages) (by have := ok.p0; omega) ok.p1
  have lc3 := num_len (n := j.copies) (by have := ok.c0; omega) (by have := ok.c1; omega)
  have lg : ∀ i : Int, 0 ≤ i → i ≤ 999 → i.natAbs.log2 < 1920 := fun i h0 h1 => Nat.lt_of_le_of_lt (Nat.log2_le_self _) (by omega)
  refine seq_cut (fun σ G => ∃ p, σ = [some (.ref t), some (.ref p)] ∧ Same H G ∧ H p = none ∧ WsAt G p 3) (fun R hR => ?_) (fun σ G z => ?_)
  · refine ⟨_, rfl, t, _, _, _, rfl, rfl, SqT.of (Same.refl H _ _ ht), atI_nat (j := 0) rfl, _, rfl, t, _, _, _, rfl, rfl, SqT.of (Same.refl H _ _ ht), atI_nat (j := 1) rfl, _, rfl, t, _, _, _, rfl, rfl, SqT.of (Same.refl H _ _ ht), atI_nat (j := 2) rfl, j.pages, rfl, lg _ (by have := ok.p0; omega) ok.p1, small (by show 3 ≤ 1000; decide), fun p np => hR _ _ ⟨p, rfl, same_new np _, np, [j.name, j.asker, tn j.pages], upd_same, by show 1 ≤ 3; decide, Nat.le_refl _, fun w hw => ?_⟩⟩
    rcases List.mem_cons.mp hw with rfl | hw
    · omega
    · rcases List.mem_cons.mp hw with rfl | hw
      · omega
      · rw [List.mem_singleton.mp hw]; omega
  obtain ⟨p, rfl, sG, np, W⟩ := z
  refine seq_cut (fun σ G => ∃ p, σ = [some (.ref t), some (.ref p)] ∧ Same H G ∧ H p = none ∧ WsAt G p 4) (fun R hR => ?_) (fun σ G z => ?_)
  · refine ⟨_, rfl, t, _, _, _, rfl, rfl, SqT.of (sG _ _ ht), atI_nat (j := 3) rfl, rfl, _, rfl, ite2 (fun _ => ?_) (fun _ => hR _ _ ⟨p, rfl, sG, np, W.more⟩)⟩
    obtain ⟨xs, e1, lx, W'⟩ := W.add (s := cX ++ tn j.copies) (by rw [app_len]; show 1 + _ ≤ _; omega)
    exact ⟨_, rfl, .inl ⟨rfl, _, SqL.of e1⟩, _, rfl, t, _, _, _, rfl, rfl, SqT.of (sG _ _ ht), atI_nat (j := 3) rfl, j.copies, rfl, lg _ (by have := ok.c0; omega) (by have := ok.c1; omega), _, _, rfl, rfl, small (by show 1 + (tn j.copies).length ≤ 1000; omega), p, _, _, rfl, rfl, e1, small1000 (by omega), hR _ _ ⟨p, rfl, same_on np sG _, np, W'⟩⟩
  obtain ⟨p, rfl, sG, np, W⟩ := z
  refine seq_cut (fun σ G => ∃ p, σ = [some (.ref t), some (.ref p)] ∧ Same H G ∧ H p = none ∧ WsAt G p 5) (fun R hR => ?_) (fun σ G z => ?_)
  · refine ⟨_, rfl, t, _, _, _, rfl, rfl, SqT.of (sG _ _ ht), atI_nat (j := 4) rfl, rfl, _, rfl, ite2 (fun _ => ?_) (fun _ => hR _ _ ⟨p, rfl, sG, np, W.more⟩)⟩
    have ll : j.layout.length ≤ 20 := by
      have all : ∀ w ∈ cOne :: Str.ofString "both" :: goodTexts, w.length ≤ 20 := by decide +kernel
      exact all _ ok.lay
    obtain ⟨xs, e1, lx, W'⟩ := W.add ll
    exact ⟨_, rfl, .inl ⟨rfl, _, SqL.of e1⟩, _, rfl, t, _, _, _, rfl, rfl, SqT.of (sG _ _ ht), atI_nat (j := 4) rfl, p, _, _, rfl, rfl, e1, small1000 (by omega), hR _ _ ⟨p, rfl, same_on np sG _, np, W'⟩⟩
  obtain ⟨p, rfl, sG, np, W⟩ := z
  refine seq_cut (fun σ G => ∃ p, σ = [some (.ref t), some (.ref p)] ∧ Same H G ∧ H p = none ∧ WsAt G p 6) (fun R hR => ?_) (fun σ G z => ?_)
  · cases hc : j.colour with
    | none =>
      have e : vc = .non := by
        have h := hvc
        unfold Jb.jf at h
        rw [hc] at h
        exact h
      subst e
      exact ⟨_, rfl, t, _, _, _, rfl, rfl, SqT.of (sG _ _ ht), atI_nat (j := 7) rfl, rfl, false, rfl, iteF (hR _ _ ⟨p, rfl, sG, np, W.more⟩)⟩
    | some ab =>
      obtain ⟨ca, cb⟩ := ab
      obtain ⟨pc, rfl, hpc⟩ : ∃ pc, vc = .ref pc ∧ H pc = some (.tup [.int ca, .int cb]) := by
        have h := hvc
        unfold Jb.jf at h
        rw [hc] at h
        exact h
      obtain ⟨k1, k2, k3⟩ := ok.colour ca cb hc
      have kp := ok.p1
      have l1 := num_len (n := ca) (by omega) (by omega)
      have l2 := num_len (n := cb) (by omega) (by omega)
      obtain ⟨xs, e1, lx, W'⟩ := W.add (s := ((cCol ++ tn ca) ++ cDash) ++ tn cb) (by rw [app_len, app_len, app_len]; show 7 + _ + 1 + _ ≤ _; omega)
      refine ⟨_, rfl, t, _, _, _, rfl, rfl, SqT.of (sG _ _ ht), atI_nat (j := 7) rfl, rfl, true, rfl, iteT ?_⟩
      exact ⟨_, rfl, .inl ⟨rfl, _, SqL.of e1⟩, _, rfl, t, _, _, _, rfl, rfl, SqT.of (sG _ _ ht), atI_nat (j := 7) rfl, pc, _, _, _, rfl, rfl, SqT.of (sG _ _ hpc), atI_nat (j := 0) rfl, ca, rfl, lg _ (by omega) (by omega), _, _, rfl, rfl, small (by show 7 + (tn ca).length ≤ 1000; omega), _, _, rfl, rfl, small (by show (cCol ++ tn ca).length + 1 ≤ 1000; rw [app_len]; show 7 + _ + 1 ≤ _; omega), _, rfl, t, _, _, _, rfl, rfl, SqT.of (sG _ _ ht), atI_nat (j := 7) rfl, pc, _, _, _, rfl, rfl, SqT.of (sG _ _ hpc), atI_nat (j := 1) rfl, cb, rfl, lg _ (by omega) (by omega), _, _, rfl, rfl, small (by show ((cCol ++ tn ca) ++ cDash).length + (tn cb).length ≤ 1000; rw [app_len, app_len]; show 7 + _ + 1 + _ ≤ _; omega), p, _, _, rfl, rfl, e1, small1000 (by omega), hR _ _ ⟨p, rfl, same_on np sG _, np, W'⟩⟩
  obtain ⟨p, rfl, sG, np, W⟩ := z
  refine seq_cut (fun σ G => ∃ p, σ = [some (.ref t), some (.ref p)] ∧ Same H G ∧ H p = none ∧ WsAt G p 7) (fun R hR => ?_) (fun σ G z => ?_)
  · refine ⟨_, rfl, t, _, _, _, rfl, rfl, SqT.of (sG _ _ ht), atI_nat (j := 5) rfl, rfl, _, rfl, ite2 (fun _ => ?_) (fun _ => hR _ _ ⟨p, rfl, sG, np, W.more⟩)⟩
    have lq := good_len ok.paper
    obtain ⟨xs, e1, lx, W'⟩ := W.add (s := cPap ++ j.paper) (by rw [app_len]; show 6 + _ ≤ _; omega)
    exact ⟨_, rfl, .inl ⟨rfl, _, SqL.of e1⟩, _, rfl, t, _, _, _, rfl, rfl, SqT.of (sG _ _ ht), atI_nat (j := 5) rfl, _, _, rfl, rfl, small (by show 6 + j.paper.length ≤ 1000; omega), p, _, _, rfl, rfl, e1, small1000 (by omega), hR _ _ ⟨p, rfl, same_on np sG _, np, W'⟩⟩
  obtain ⟨p, rfl, sG, np, W⟩ := z
  refine seq_cut (fun σ G => ∃ p, σ = [some (.ref t), some (.ref p)] ∧ Same H G ∧ H p = none ∧ WsAt G p 8) (fun R hR => ?_) (fun σ G z => ?_)
  · cases hc : j.cover with
    | none =>
      rw [hc] at ht
      exact ⟨_, rfl, t, _, _, _, rfl, rfl, SqT.of (sG _ _ ht), atI_nat (j := 6) rfl, rfl, false, rfl, iteF (hR _ _ ⟨p, rfl, sG, np, W.more⟩)⟩
    | some cv =>
      rw [hc] at ht
      have lq := good_len (ok.cover cv hc)
      obtain ⟨xs, e1, lx, W'⟩ := W.add (s := cCov ++ cv) (by rw [app_len]; show 6 + _ ≤ _; omega)
      exact ⟨_, rfl, t, _, _, _, rfl, rfl, SqT.of (sG _ _ ht), atI_nat (j := 6) rfl, rfl, true, rfl, iteT ⟨_, rfl, .inl ⟨rfl, _, SqL.of e1⟩, _, rfl, t, _, _, _, rfl, rfl, SqT.of (sG _ _ ht), atI_nat (j := 6) rfl, _, _, rfl, rfl, small (by show 6 + cv.length ≤ 1000; omega), p, _, _, rfl, rfl, e1, small1000 (by omega), hR _ _ ⟨p, rfl, same_on np sG _, np, W'⟩⟩⟩
  obtain ⟨p, rfl, sG, np, W⟩ := z
  refine seq_cut (fun σ G => ∃ p, σ = [some (.ref t), some (.ref p)] ∧ Same H G ∧ H p = none ∧ WsAt G p 9) (fun R hR => ?_) (fun σ G z => ?_)
  · refine ⟨_, rfl, t, _, _, _, rfl, rfl, SqT.of (sG _ _ ht), atI_nat (j := 8) rfl, j.staple, rfl, ?_⟩
    cases hs : j.staple with
    | false => exact iteF (hR _ _ ⟨p, rfl, sG, np, W.more⟩)
    | true =>
      obtain ⟨xs, e1, lx, W'⟩ := W.add (s := cSta) (by decide +kernel)
      exact iteT ⟨_, rfl, .inl ⟨rfl, _, SqL.of e1⟩, p, _, _, rfl, rfl, e1, small1000 (by omega), hR _ _ ⟨p, rfl, same_on np sG _, np, W'⟩⟩
  obtain ⟨p, rfl, sG, np, ws, hp, l1, l9, lw⟩ := z
  have la3 := ok.few
  have gaft := ok.after
  refine ⟨_, rfl, _, rfl, t, _, _, _, rfl, rfl, SqT.of (sG _ _ ht), atI_nat (j := 9) rfl, pa, rfl, ⟨_, SqT.of (sG _ _ hpa)⟩, compB_seq (seq_tup (SqT.of (sG _ _ hpa))) (fun _ => true) (fun v => match v with | .str s => .str (cAft ++ s) | _ => .non) (by rw [List.length_map]; exact small1000 (by omega)) (fun x hx H' R _ rr => rr) (fun x hx H' R _ _ rr => ?_) (fun D G2 s2 nD hD => ?_)⟩
  · obtain ⟨s, hs, rfl⟩ := List.mem_map.mp hx
    have := good_len (gaft s hs)
    exact ⟨_, rfl, _, _, rfl, rfl, small (by show 6 + s.length ≤ 1000; omega), rr⟩
  have eD : (((j.after.map V.str).filter fun _ => true).map fun v => match v with | .str s => V.str (cAft ++ s) | _ => .non) = (j.after.map fun s => cAft ++ s).map V.str := by
    rw [List.filter_eq_self.mpr (fun _ _ => rfl), List.map_map, List.map_map]
    rfl
  rw [eD] at hD
  refine ⟨p, D, _, _, rfl, rfl, s2 _ _ hp, hD, small (by rw [List.length_map, List.length_map, List.length_map]; omega), fun p3 n3 => ?_⟩
  refine q p3 _ ((sG.trans s2).trans (same_new n3 _)) ⟨ws ++ j.after.map (fun s => cAft ++ s), by rw [upd_same, List.map_append], by rw [List.length_append]; omega, by rw [List.length_append, List.length_map]; omega, fun w hw => ?_⟩
  rcases List.mem_append.mp hw with hw | hw
  · exact lw w hw
  · obtain ⟨s, hs, rfl⟩ := List.mem_map.mp hw
    have := good_len (gaft s hs)
    rw [app_len]
    show 6 + _ ≤ _
    omega
end
end My
namespace My
open PySem L2
open Blk (sg sg_inj sg_app)
section
variable {P : Program} {w : World} {K : PySem.W.Frag} {mg : Str → Option Value} {base : Heap}
def sp__law_is_name (_K : PySem.W.Frag) : Sp := fun vs H Q _ => ∃ z : Str, vs = [.str z] ∧ z.length ≤ 900 ∧ ∀ H', Same H H' → Q (.bl (good z)) H'
theorem eLF : (Str.ofString "abcdefghijklmnopqrstuvwxyz" ++ Str.ofString "0123456789").cps.toList = low ++ fig := by
  rw [← eL, ← eF]
  exact Array.toList_append ..
theorem sc__law_is_name : FnScope ["_law_word", "_law_small", "_law_wrong_here"] ["_law_word"] (defScope s__law_is_name) := ⟨rfl, rfl, rfl, by decide +kernel, rfl, by decide +kernel, by decide +kernel⟩
theorem ok__law_is_name {fa cJob cBadLine cBusy cDry cGoesRound cNoHeap cNoPrinter cNotNow cNoWay cNowhere cOver cTooMuch cTwice cUnknown cHallError : Addr} {fd : FuncData} (F : Fun K "_law_is_name" "_law_is_name" s__law_is_name fa fd) (T : Txt K mg cJob cBadLine cBusy cDry cGoesRound cNoHeap cNoPrinter cNotNow cNoWay cNowhere cOver cTooMuch cTwice cUnknown cHallError)  :
    FnOk P w K mg base CX0 1 fa fd ["_law_word"] (sp__law_is_name K) := by
  refine F.ok sc__law_is_name (fun vs H Q E h => ?_) (fun cdv A outer s H vs Q E hr h => ?_)
  · obtain ⟨z, rfl, _⟩ := h
    rfl
  obtain ⟨z, rfl, hz, q⟩ := h
  refine ⟨_, (pss_cons (ps_set (i := 1) sc__law_is_name.nd rfl (by first | exact Or.inl rfl | exact Or.inr rfl) pe_str)
  (pss_cons (ps_if (PW.pt (pw_or (pt_cmpR op_eq (pe_callB call_len_str rfl T.len PySem.boot_len (pa_cons (pv 0) pa_nil)) pe_int (nomark _)) (pw_or (pt_cmpR op_gt (pe_callB call_len_str rfl T.len PySem.boot_len (pa_cons (pv 0) pa_nil)) pe_int (nomark _)) (pw_or1 (pt_cmpR op_lt (pe_bm PySem.F.plainAttrs_str PySem.F.slot_str_find PySem.F.type_str_find mt_find (pv 1) (pa_cons (pe_ix ix_str (pv 0) pe_int (fun _ _ => rfl)) pa_nil)) pe_int (nomark _)))))) (pss_one (ps_ret pe_bl)) pss_nil)
  (pss_cons (ps_comp (i := 2) (frees := [("_law_small", 1)]) ⟨by decide +kernel, rfl, rfl, by decide +kernel, ⟨⟨rfl, rfl, rfl, by decide +kernel⟩, trivial⟩, by decide +kernel, cellsFor_at rfl, rfl⟩ sc__law_is_name.nd rfl rfl rfl (pi_str (pv 0)) (fun _ _ _ _ => by exact (pifs_one (pt_cmpR op_lt (pe_bmK (K := K) rfl PySem.F.plainAttrs_str PySem.F.slot_str_find PySem.F.type_str_find mt_find (pe_op op_add_str (pv 1) pe_str) (pa_cons (pv 0) pa_nil)) pe_int (nomark _)))) (fun _ _ _ _ => by exact (pv 0)))
  (pss_one (ps_ret (pe_cmpR op_eq (pe_callB call_len_seq rfl T.len PySem.boot_len (pa_cons (pv 2) pa_nil)) pe_int (nomark _))))))), ?_⟩
  have hsz : z.length ≤ sizeLine := Nat.le_trans hz (small (by decide))
  have no : ∀ b, good z = b → Q (.bl b) H := fun b e => by rw [← e]; exact q H (Same.refl H)
  have hne : z.cps.toList.length = z.length := len_toList z
  refine ⟨_, rfl, z, rfl, hsz, rfl, _, rfl, ite2 (fun c1 => iteT ?_) (fun c1 => ?_)⟩
  · refine no _ ?_
    have : ((z.length : Nat) : Int) = 0 := by
      have := of_decide_eq_true c1
      injection this
    unfold good
    rw [decide_eq_false (show ¬ (1 : Int) ≤ (z.length : Nat) by omega), Bool.false_and, Bool.false_and, Bool.false_and]
  have l0 : z.length ≠ 0 := fun e => c1 (decide_eq_true (by rw [e]; rfl))
  refine ⟨_, rfl, z, rfl, hsz, _, _, rfl, rfl, _, rfl, ite2 (fun c2 => iteT ?_) (fun c2 => ?_)⟩
  · refine no _ ?_
    have := of_decide_eq_true c2
    unfold good
    rw [decide_eq_false (show ¬ ((z.length : Nat) : Int) ≤ 12 by omega), Bool.and_false, Bool.false_and, Bool.false_and]
  have l12 : ((z.length : Nat) : Int) ≤ 12 := by
    by_cases h : ((z.length : Nat) : Int) ≤ 12
    · exact h
    · exact absurd (decide_eq_true (by omega)) c2
  obtain ⟨c, r, e⟩ : ∃ c r, z.cps.toList = c :: r := by
    cases e : z.cps.toList with
    | nil => rw [e] at hne; exact absurd hne.symm l0
    | cons c r => exact ⟨c, r, rfl⟩
  refine ⟨_, rfl, rfl, _, rfl, z, _, c, rfl, rfl, hsz, (by rw [e]; exact atI_nat (j := 0) rfl), _, _, rfl, rfl, _, _, rfl, rfl, _, rfl, ?_⟩
  rw [find_neg c eL]
  by_cases c3 : c ∈ low
  · rw [decide_eq_true c3]
    refine iteF ?_
    refine ⟨_, rfl, z, rfl, compB_seq (seq_str z H) (fun v => match v with | .str x => !decide (x.cps.toList.headD 0 ∈ low ++ fig) | _ => false) (fun v => v) ?_ (fun x hx H' R _ rr => ?_) (fun x hx H' R sm _ rr => ⟨_, rfl, rr⟩) (fun D H' sm hD hH => ?_)⟩
    · rw [List.length_map, len_toList]
      exact small1000 (by omega)
    · obtain ⟨d, _, rfl⟩ := List.mem_map.mp hx
      refine ⟨_, rfl, _, _, rfl, rfl, small (by decide +kernel), rfl, _, rfl, _, _, rfl, rfl, _, _, rfl, rfl, _, rfl, ?_⟩
      rw [find_neg d eLF]
      exact rr
    · refine ⟨_, rfl, D, _, rfl, .inl (SqL.of hH), rfl, ?_⟩
      have g : good z = z.cps.toList.all fun c => decide (c ∈ low ++ fig) := by
        unfold good
        rw [decide_eq_true (show (1 : Int) ≤ (z.length : Nat) by omega), decide_eq_true l12, e]
        show (true && true && decide (c ∈ low) && _) = _
        rw [decide_eq_true c3]
        rfl
      have len0 : decide (V.int (((((z.cps.toList.map fun c => V.str ⟨#[c]⟩).filter fun v => match v with | .str x => !decide (x.cps.toList.headD 0 ∈ low ++ fig) | _ => false).map fun v => v).length : Nat) : Int) = V.int 0) = good z := by
        rw [g, List.length_map, List.filter_map, List.length_map]
        have all : ∀ l : List Nat, decide (V.int ((l.filter ((fun v : V => match v with | .str x => !decide (x.cps.toList.headD 0 ∈ low ++ fig) | _ => false) ∘ fun c => V.str ⟨#[c]⟩)).length : Int) = V.int 0) = l.all fun c => decide (c ∈ low ++ fig) := fun l => by
          induction l with
          | nil => rfl
          | cons d l ih =>
            rw [List.filter_cons, List.all_cons]
            by_cases hd : d ∈ low ++ fig
            · rw [if_neg (by show ¬ (!decide (d ∈ low ++ fig)) = true; rw [decide_eq_true hd]; decide), decide_eq_true hd, Bool.true_and, ih]
            · rw [if_pos (by show (!decide (d ∈ low ++ fig)) = true; rw [decide_eq_false hd]; rfl), decide_eq_false hd, Bool.false_and, List.length_cons]
              exact decide_eq_false (fun z => by injection z with z; omega)
        exact all _
      rw [len0]
      exact q H' sm
  · rw [decide_eq_false c3]
    refine iteT (no _ ?_)
    unfold good
    rw [e]
    show (_ && _ && decide (c ∈ low) && _) = false
    rw [decide_eq_false c3, Bool.and_false, Bool.false_and]
def numL (z : Str) : Int := if isnum z = true then val z else -1
def sp__law_number (_K : PySem.W.Frag) : Sp := fun vs H Q _ => ∃ z : Str, vs = [.str z] ∧ z.length ≤ 900 ∧ Q (.int (numL z)) H
theorem sc__law_number : FnScope ["_law_word", "_law_number_here", "_law_sign_here", "_law_at"] ["_law_word"] (defScope s__law_number) := ⟨rfl, rfl, rfl, by decide +kernel, rfl, by decide +kernel, by decide +kernel⟩
theorem ok__law_number {fa cJob cBadLine cBusy cDry cGoesRound cNoHeap cNoPrinter cNotNow cNoWay cNowhere cOver cTooMuch cTwice cUnknown cHallError : Addr} {fd : FuncData} (F : Fun K "_law_number" "_law_number" s__law_number fa fd) (T : Txt K mg cJob cBadLine cBusy cDry cGoesRound cNoHeap cNoPrinter cNotNow cNoWay cNowhere cOver cTooMuch cTwice cUnknown cHallError)  :
    FnOk P w K mg base CX0 1 fa fd ["_law_word"] (sp__law_number K) := by
  refine F.ok sc__law_number (fun vs H Q E h => ?_) (fun cdv A outer s H vs Q E hr h => ?_)
  · obtain ⟨z, rfl, _⟩ := h
    rfl
  obtain ⟨z, rfl, hz, q⟩ := h
  refine ⟨_, (pss_cons (ps_set (i := 1) sc__law_number.nd rfl (by first | exact Or.inl rfl | exact Or.inr rfl) pe_int)
  (pss_cons (ps_for PassesOwn.never rfl (pi_str (pv 0)) (pg_name (i := 2) sc__law_number.nd rfl (by first | exact Or.inl rfl | exact Or.inr rfl))
  (pss_cons (ps_set (i := 3) sc__law_number.nd rfl (by first | exact Or.inl rfl | exact Or.inr rfl) (pe_bm PySem.F.plainAttrs_str PySem.F.slot_str_find PySem.F.type_str_find mt_find pe_str (pa_cons (pv 2) pa_nil)))
  (pss_cons (ps_if (pt_cmpR op_lt (pv 3) pe_int (nomark _)) (pss_one (ps_ret (pe_un un_neg pe_int))) pss_nil)
  (pss_one (ps_set (i := 1) sc__law_number.nd rfl (by first | exact Or.inl rfl | exact Or.inr rfl) (pe_op op_add (pe_op op_mul pe_int (pv 1)) (pv 3)))))))
  (pss_cons (ps_if (PW.pt (pw_or (pt_cmpR op_eq (pe_callB call_len_str rfl T.len PySem.boot_len (pa_cons (pv 0) pa_nil)) pe_int (nomark _)) (pw_or (pt_cmpR op_gt (pe_callB call_len_str rfl T.len PySem.boot_len (pa_cons (pv 0) pa_nil)) pe_int (nomark _)) (pw_or1 (PW.pt (pw_and (pt_cmpR op_gt (pe_callB call_len_str rfl T.len PySem.boot_len (pa_cons (pv 0) pa_nil)) pe_int (nomark _)) (pw_and1 (pt_cmpR op_eq (pe_ix ix_str (pv 0) pe_int (fun _ _ => rfl)) pe_str (nomark _))))))))) (pss_one (ps_ret (pe_un un_neg pe_int))) pss_nil)
  (pss_one (ps_ret (pv 1)))))), ?_⟩
  have hsz : z.length ≤ sizeLine := Nat.le_trans hz (small (by decide))
  have hne : z.cps.toList.length = z.length := len_toList z
  have no : isnum z = false → Q (.int (-1)) H := fun e => by
    have := q
    unfold numL at this
    rw [e, if_neg (by decide)] at this
    exact this
  refine ⟨_, rfl, z, rfl, for_str (z := z) (fun i σ G => G = H ∧ (∀ c ∈ z.cps.toList.take i, c ∈ fig) ∧ ∃ v2 v3 : Option V, σ = [some (.str z), some (.int ((NumText.digitsVal (z.cps.toList.take i) : Nat) : Int)), v2, v3]) ⟨rfl, fun c hc => absurd hc List.not_mem_nil, _, _, rfl⟩ (fun i c σ G hc zz => ?_) (fun σ G zz => ?_)⟩
  · obtain ⟨rfl, pre, v2, v3, rfl⟩ := zz
    have hcl : z.cps.toList[i]? = some c := by simpa using hc
    have ht : z.cps.toList.take (i + 1) = z.cps.toList.take i ++ [c] := by rw [List.take_add_one, hcl]; rfl
    refine ⟨rfl, _, rfl, _, _, rfl, rfl, ?_⟩
    refine ⟨_, rfl, _, _, rfl, rfl, _, rfl, ?_⟩
    rw [find_neg c eF]
    by_cases cf : c ∈ fig
    · rw [decide_eq_true cf]
      refine iteF ⟨_, rfl, _, _, rfl, rfl, .inl ⟨by decide, by decide⟩, _, rfl, _, _, rfl, rfl, rfl, fun d hd => ?_, some (.str ⟨#[c]⟩), some (.int (Txt.find (Str.ofString "0123456789") ⟨#[c]⟩)), ?_⟩
      · rw [ht] at hd
        rcases List.mem_append.mp hd with hd | hd
        · exact pre d hd
        · rw [List.mem_singleton.mp hd]; exact cf
      · have ev : 10 * ((NumText.digitsVal (z.cps.toList.take i) : Nat) : Int) + Txt.find (Str.ofString "0123456789") ⟨#[c]⟩ = ((NumText.digitsVal (z.cps.toList.take (i + 1)) : Nat) : Int) := by
          have h1 := fig_in cf
          have h2 : NumText.digitsVal (z.cps.toList.take i ++ [c]) = NumText.digitsVal (z.cps.toList.take i) * 10 + (c - 48) := by
            unfold NumText.digitsVal
            rw [List.foldl_append]
            rfl
          rw [find_fig c cf, ht, h2]
          omega
        rw [← ev]
        rfl
    · rw [decide_eq_false cf]
      refine iteT ⟨1, rfl, no ?_⟩
      have : (z.cps.toList.all fun c => decide (c ∈ fig)) = false := by
        rw [List.all_eq_false]
        exact ⟨c, List.mem_of_getElem? hcl, by rw [decide_eq_false cf]; decide⟩
      unfold isnum
      rw [this, Bool.and_false, Bool.false_and]
  · obtain ⟨rfl, pre, v2, v3, rfl⟩ := zz
    have allf : (z.cps.toList.all fun c => decide (c ∈ fig)) = true := List.all_eq_true.mpr fun c hc => decide_eq_true (pre c (by rw [List.take_of_length_le (by rw [Array.length_toList]; exact Nat.le_refl _)]; exact hc))
    refine ⟨_, rfl, z, rfl, hsz, rfl, _, rfl, ite2 (fun c1 => iteT ⟨1, rfl, no ?_⟩) (fun c1 => ?_)⟩
    · have : ((z.length : Nat) : Int) = 0 := by
        have := of_decide_eq_true c1
        injection this
      unfold isnum
      rw [decide_eq_false (show ¬ (1 : Int) ≤ (z.length : Nat) by omega), Bool.false_and, Bool.false_and, Bool.false_and]
    have l0 : z.length ≠ 0 := fun e => c1 (decide_eq_true (by rw [e]; rfl))
    refine ⟨_, rfl, z, rfl, hsz, _, _, rfl, rfl, _, rfl, ite2 (fun c2 => iteT ⟨1, rfl, no ?_⟩) (fun c2 => ?_)⟩
    · have := of_decide_eq_true c2
      unfold isnum
      rw [decide_eq_false (show ¬ ((z.length : Nat) : Int) ≤ 9 by omega), Bool.and_false, Bool.false_and, Bool.false_and]
    have l9 : ((z.length : Nat) : Int) ≤ 9 := by
      by_cases h : ((z.length : Nat) : Int) ≤ 9
      · exact h
      · exact absurd (decide_eq_true (by omega)) c2
    obtain ⟨c, r, e⟩ : ∃ c r, z.cps.toList = c :: r := by
      cases e : z.cps.toList with
      | nil => rw [e] at hne; exact absurd hne.symm l0
      | cons c r => exact ⟨c, r, rfl⟩
    have yes : isnum z = true → Q (.int ((NumText.digitsVal (z.cps.toList.take z.cps.size) : Nat) : Int)) G := fun e => by
      have := q
      unfold numL val at this
      rw [e, if_pos rfl] at this
      rw [List.take_of_length_le (by rw [Array.length_toList]; exact Nat.le_refl _)]
      exact this
    have isn : isnum z = (decide (z = ⟨#[48]⟩) || !decide (c = 48)) := by
      unfold isnum
      rw [decide_eq_true (show (1 : Int) ≤ (z.length : Nat) by omega), decide_eq_true l9, allf, e]
      rfl
    refine ⟨_, rfl, z, rfl, hsz, _, _, rfl, rfl, _, rfl, ite2 (fun c3 => ?_) (fun c3 => ?_)⟩
    · have l1 : 1 < z.length := by have := of_decide_eq_true c3; omega
      have nz : z ≠ ⟨#[48]⟩ := fun h => by rw [h] at l1; exact absurd l1 (by decide)
      rw [decide_eq_false nz, Bool.false_or] at isn
      refine ⟨_, rfl, z, _, c, rfl, rfl, hsz, (by rw [e]; exact atI_nat (j := 0) rfl), rfl, _, rfl, ?_⟩
      rw [sign_is c]
      by_cases c4 : c = 48
      · rw [decide_eq_true c4]
        rw [decide_eq_true c4] at isn
        exact iteT ⟨1, rfl, no isn⟩
      · rw [decide_eq_false c4]
        rw [decide_eq_false c4] at isn
        exact iteF ⟨_, rfl, yes isn⟩
    · have l1 : z.length = 1 := by
        by_cases h : 1 < z.length
        · exact absurd (decide_eq_true (by omega)) c3
        · omega
      refine iteF ⟨_, rfl, yes ?_⟩
      rw [isn]
      by_cases c4 : c = 48
      · have ez : z = ⟨#[48]⟩ := sg_inj (by
          show z.cps.toList = [48]
          have hr : r = [] := by
            rw [e, List.length_cons, l1] at hne
            exact List.eq_nil_of_length_eq_zero (by omega)
          rw [e, hr, c4])
        rw [decide_eq_true ez]
        rfl
      · rw [decide_eq_false c4, Bool.not_false, Bool.or_true]
end
end My
namespace My
open PySem L2
open Blk (sg sg_inj sg_app)
section
variable {P : Program} {w : World} {K : PySem.W.Frag} {mg : Str → Option Value} {base : Heap}
def xTexts : List Str := (List.range 99).map fun i => cX ++ tn (1 + ((i : Nat) : Int))
theorem x_in {n : Str} (h : cX ++ n ∈ xTexts) : ¬ inNum n 1 99 = V.non := by
  obtain ⟨i, hi, e⟩ := List.mem_map.mp h
  have li := List.mem_range.mp hi
  have e2 : tn (1 + ((i : Nat) : Int)) = n := by
    have q : rst (cX ++ tn (1 + ((i : Nat) : Int))) cX = rst (cX ++ n) cX := by rw [e]
    rwa [rst_app, rst_app] at q
  rw [← e2, inNum_of (by omega) (by omega) (by omega) (by omega)]
  intro z
  cases z
theorem x_one : ∀ c ∈ fig, c ≠ 48 → (cX ++ ⟨#[c]⟩ : Str) ∈ xTexts := by decide +kernel
theorem x_two : ∀ c ∈ fig, ∀ d ∈ fig, c ≠ 48 → (cX ++ ⟨#[c, d]⟩ : Str) ∈ xTexts := by decide +kernel
theorem num_is {z : Str} (h : isnum z = true) : ∃ c r, z.cps.toList = c :: r ∧ (∀ d ∈ c :: r, d ∈ fig) ∧ (r ≠ [] → c ≠ 48) := by
  unfold isnum at h
  rw [Bool.and_eq_true, Bool.and_eq_true, Bool.and_eq_true] at h
  obtain ⟨⟨⟨a1, a2⟩, a3⟩, a4⟩ := h
  have dig : ∀ c ∈ z.cps.toList, c ∈ fig := fun c hc => of_decide_eq_true ((List.all_eq_true.mp a3) c hc)
  cases e : z.cps.toList with
  | nil =>
    have : z.length = 0 := by rw [← len_toList, e]; rfl
    have := of_decide_eq_true a1
    omega
  | cons c r =>
    rw [e] at dig a4
    refine ⟨c, r, rfl, dig, fun hr q => ?_⟩
    rw [Bool.or_eq_true] at a4
    rcases a4 with a4 | a4
    · have := congrArg (fun x : Str => x.cps.toList) (of_decide_eq_true a4)
      dsimp only at this
      rw [e] at this
      injection this with _ w
      exact hr w
    · exact of_decide_eq_false (Bool.not_eq_true' _ |>.mp a4) q
theorem x_of {z : Str} (h : ¬ inNum z 1 99 = V.non) : cX ++ z ∈ xTexts := by
  have yes : (isnum z && decide ((1 : Int) ≤ val z) && decide (val z ≤ 99)) = true := by
    cases q : (isnum z && decide ((1 : Int) ≤ val z) && decide (val z ≤ 99)) with
    | true => rfl
    | false => exact absurd (if_neg (by rw [q]; decide)) h
  rw [Bool.and_eq_true, Bool.and_eq_true] at yes
  obtain ⟨⟨hn, h1⟩, h2⟩ := yes
  have h1 := of_decide_eq_true h1
  have h2 := of_decide_eq_true h2
  obtain ⟨c, r, e, dig, nz⟩ := num_is hn
  have ez : z = ⟨z.cps.toList.toArray⟩ := Blk.sg_inj rfl
  unfold val at h1 h2
  rw [e] at h1 h2 ez
  have hc := dig c List.mem_cons_self
  have cr := fig_in hc
  rw [ez]
  match r, dig, nz, h1, h2 with
  | [], _, _, h1, _ =>
    refine x_one c hc fun q => ?_
    rw [q] at h1
    exact absurd h1 (by decide)
  | [d], dig, nz, _, _ => exact x_two c hc d (dig d (.tail _ (.head _))) (nz (by simp))
  | d :: d2 :: r2, dig, nz, _, h2 =>
    exfalso
    have c48 := nz (by simp)
    have g := fold_ge (d :: d2 :: r2) (0 * 10 + (c - 48))
    have e2 : (d :: d2 :: r2).length = r2.length + 2 := rfl
    have p : 1 ≤ 10 ^ r2.length := Nat.one_le_pow _ _ (by decide)
    rw [e2, Nat.pow_add] at g
    have g2 : 1 * (1 * 10 ^ 2) ≤ (0 * 10 + (c - 48)) * (10 ^ r2.length * 10 ^ 2) := Nat.mul_le_mul (by omega) (Nat.mul_le_mul_right _ p)
    have g3 : NumText.digitsVal (c :: d :: d2 :: r2) = (d :: d2 :: r2).foldl (fun acc c => acc * 10 + (c - 48)) (0 * 10 + (c - 48)) := rfl
    omega
abbrev kPap : Str := Str.ofString "paper"
abbrev kCov : Str := Str.ofString "cover"
abbrev kAft : Str := Str.ofString "after"
abbrev kCol : Str := Str.ofString "colour"
abbrev kCop : Str := Str.ofString "copies"
abbrev kNone : Str := Str.ofString ""
abbrev kTwo : Str := Str.ofString ":"
def colB (r : Str) (n : Int) : Bool := decide (1 ≤ numL (partS 45 r).1) && decide (numL (partS 45 r).1 ≤ numL (partS 45 r).2.2) && decide (numL (partS 45 r).2.2 ≤ n)
def sortT (z : Str) (n : Int) : Str :=
  if (decide ((partS 58 z).1 ∈ [kPap, kCov, kAft]) && decide ((partS 58 z).2.1 = kTwo) && good (partS 58 z).2.2) = true then (if (partS 58 z).1 = kAft then z else (partS 58 z).1)
  else if (decide ((partS 58 z).1 = kCol) && colB (partS 58 z).2.2 n) = true then kCol else kNone
def sortL (z : Str) (n : Int) : Str := if z = cSta then cSta else if lay z = true then cLay else if z ∈ xTexts then kCop else sortT z n
theorem sg_mk (l : List Nat) : sg ⟨l.toArray⟩ = l := by
  show l.toArray.toList = l
  simp
theorem part_cases (c : Nat) (z : Str) : (c ∉ sg z ∧ partS c z = (z, ⟨#[]⟩, ⟨#[]⟩)) ∨ ∃ a b : Str, c ∉ sg a ∧ z = a ++ ⟨#[c]⟩ ++ b ∧ partS c z = (a, ⟨#[c]⟩, b) := by
  by_cases h : c ∈ sg z
  · obtain ⟨a, b, e, hn⟩ := mem_first h
    refine .inr ⟨⟨a.toArray⟩, ⟨b.toArray⟩, by rw [sg_mk]; exact hn, sg_inj ?_, ?_⟩
    · rw [sg_app, sg_app, sg_mk, sg_mk]
      show sg z = a ++ [c] ++ b
      rw [e, List.append_assoc]
      rfl
    · unfold partS
      rw [show z.cps.toList = a ++ c :: b from e, partL_at hn]
      rfl
  · refine .inl ⟨h, ?_⟩
    unfold partS
    rw [partL_no (show c ∉ z.cps.toList from h)]
    rfl
theorem part_at {c : Nat} {a b : Str} (h : c ∉ sg a) : partS c (a ++ ⟨#[c]⟩ ++ b) = (a, ⟨#[c]⟩, b) := by
  have e : (a ++ ⟨#[c]⟩ ++ b : Str).cps.toList = sg a ++ c :: sg b := by
    show sg (a ++ ⟨#[c]⟩ ++ b) = _
    rw [sg_app, sg_app, List.append_assoc]
    rfl
  unfold partS
  rw [e, partL_at h]
  rfl
theorem num_none : numL ⟨#[]⟩ = -1 := by decide +kernel
theorem numL_in (z : Str) (lo hi : Int) (h : 0 ≤ lo) : inNum z lo hi = if lo ≤ numL z ∧ numL z ≤ hi then V.int (numL z) else .non := by
  unfold inNum numL
  cases isnum z with
  | false =>
    rw [if_neg (by simp), if_neg (by rw [if_neg (by decide)]; omega)]
  | true =>
    rw [if_pos (show true = true from rfl)]
    by_cases c : lo ≤ val z ∧ val z ≤ hi
    · rw [if_pos c, decide_eq_true c.1, decide_eq_true c.2]
      rfl
    · rw [if_neg c, if_neg]
      intro e
      rw [Bool.and_eq_true, Bool.and_eq_true] at e
      exact c ⟨of_decide_eq_true e.1.2, of_decide_eq_true e.2⟩
theorem split_first {c : Nat} {a b : Str} (h : c ∉ sg a) : Txt.split (a ++ ⟨#[c]⟩ ++ b) ⟨#[c]⟩ = a :: Txt.split b ⟨#[c]⟩ := by
  have q := split_join c (ps := a :: Txt.split b ⟨#[c]⟩) (by simp) (fun p hp => by
    rcases List.mem_cons.mp hp with e | hp
    · rw [e]; exact h
    · exact StrLaws.split_free _ c p hp)
  have j : Str.join ⟨#[c]⟩ (a :: Txt.split b ⟨#[c]⟩) = a ++ ⟨#[c]⟩ ++ b := by
    have j2 := StrLaws.join_split b ⟨#[c]⟩
    cases e : Txt.split b ⟨#[c]⟩ with
    | nil => exact absurd e (split_ne b c)
    | cons y r =>
      rw [e] at j2
      show a ++ ⟨#[c]⟩ ++ Str.join ⟨#[c]⟩ (y :: r) = _
      rw [j2]
  rw [j] at q
  exact q
theorem split_none {c : Nat} {z : Str} (h : c ∉ sg z) : Txt.split z ⟨#[c]⟩ = [z] :=
  split_join c (ps := [z]) (by simp) (fun p hp => by rw [List.mem_singleton.mp hp]; exact h)
theorem isnum_no {z : Str} {c : Nat} (h : c ∈ sg z) (hc : c ∉ fig) : numL z = -1 := by
  unfold numL
  rw [if_neg]
  intro hn
  obtain ⟨d, r, e, dig, _⟩ := num_is hn
  exact hc (dig c (by rw [← e]; exact h))
theorem col_both (r : Str) (n : Int) : (readCol r n = non ∧ colB r n = false) ∨ (¬ readCol r n = non ∧ colB r n = true) := by
  rcases part_cases 45 r with ⟨h, e⟩ | ⟨a, b, h, rfl, e⟩
  · refine .inl ⟨?_, ?_⟩
    · unfold readCol
      rw [dash_is, split_none h]
    · unfold colB
      rw [e]
      dsimp only
      rw [num_none]
      by_cases q : (1 : Int) ≤ numL r
      · rw [decide_eq_false (show ¬ numL r ≤ -1 by omega), Bool.and_false, Bool.false_and]
      · rw [decide_eq_false q, Bool.false_and, Bool.false_and]
  · have sp : Txt.split (a ++ ⟨#[45]⟩ ++ b) cDash = a :: Txt.split b ⟨#[45]⟩ := by rw [dash_is]; exact split_first h
    have cb : colB (a ++ ⟨#[45]⟩ ++ b) n = (decide (1 ≤ numL a) && decide (numL a ≤ numL b) && decide (numL b ≤ n)) := by
      unfold colB
      rw [e]
    by_cases hb : 45 ∈ sg b
    · have nb := isnum_no hb (by decide)
      refine .inl ⟨?_, ?_⟩
      · unfold readCol
        rw [sp]
        rcases part_cases 45 b with ⟨h2, _⟩ | ⟨a2, b2, h2, rfl, _⟩
        · exact absurd hb h2
        · rw [split_first h2]
          cases e3 : Txt.split b2 ⟨#[45]⟩ with
          | nil => exact absurd e3 (split_ne b2 45)
          | cons y r => rfl
      · rw [cb, nb]
        by_cases q : (1 : Int) ≤ numL a
        · rw [decide_eq_false (show ¬ numL a ≤ -1 by omega), Bool.and_false, Bool.false_and]
        · rw [decide_eq_false q, Bool.false_and, Bool.false_and]
    · have rc : readCol (a ++ ⟨#[45]⟩ ++ b) n = match inNum a 1 n with
        | .int f => (match inNum b f n with
          | .int l => .pair f l
          | _ => non)
        | _ => non := by
        unfold readCol
        rw [sp, split_none hb]
        all_goals rfl
      rw [rc, cb, numL_in a 1 n (by decide)]
      by_cases q1 : 1 ≤ numL a
      · by_cases q2 : numL a ≤ n
        · rw [if_pos ⟨q1, q2⟩]
          dsimp only
          rw [numL_in b _ n (by omega)]
          by_cases q3 : numL a ≤ numL b
          · by_cases q4 : numL b ≤ n
            · rw [if_pos ⟨q3, q4⟩, decide_eq_true q1, decide_eq_true q3, decide_eq_true q4]
              exact .inr ⟨(by intro z; cases z), rfl⟩
            · rw [if_neg (by omega), decide_eq_false q4, Bool.and_false]
              exact .inl ⟨rfl, rfl⟩
          · rw [if_neg (by omega), decide_eq_false q3, Bool.and_false, Bool.false_and]
            exact .inl ⟨rfl, rfl⟩
        · rw [if_neg (by omega)]
          refine .inl ⟨rfl, ?_⟩
          by_cases q3 : numL a ≤ numL b
          · rw [decide_eq_false (show ¬ numL b ≤ n by omega), Bool.and_false]
          · rw [decide_eq_false q3, Bool.and_false, Bool.false_and]
      · rw [if_neg (by omega), decide_eq_false q1, Bool.false_and, Bool.false_and]
        exact .inl ⟨rfl, rfl⟩
def trS (s : Str) : Str := if s = cX then kCop else if s = cCol then kCol else if s = cPap then kPap else if s = cCov then kCov else s
def sixS : List Str := [cSta, cLay, cX, cCol, cPap, cCov]
def SrtOk (s : Str) : Prop := s ∈ sixS ∨ Txt.startswith s cAft = true
theorem tr_six : ∀ s ∈ sixS, ∀ t ∈ sixS, trS s = trS t → s = t := by decide +kernel
theorem tr_no : ∀ s ∈ sixS, Txt.startswith (trS s) cAft = false := by decide +kernel
theorem tr_ne : ∀ s ∈ sixS, trS s ≠ kNone := by decide +kernel
theorem six_no : ∀ s ∈ sixS, Txt.startswith s cAft = false := by decide +kernel
theorem tr_aft {s : Str} (h : Txt.startswith s cAft = true) : trS s = s := by
  have no : ∀ t ∈ sixS, ¬ s = t := fun t ht e => by
    rw [e, six_no t ht] at h
    cases h
  unfold trS
  rw [if_neg (no cX (by decide +kernel)), if_neg (no cCol (by decide +kernel)), if_neg (no cPap (by decide +kernel)), if_neg (no cCov (by decide +kernel))]
theorem tr_inj {s t : Str} (hs : SrtOk s) (ht : SrtOk t) (e : trS s = trS t) : s = t := by
  rcases hs with hs | hs <;> rcases ht with ht | ht
  · exact tr_six s hs t ht e
  · have := tr_no s hs
    rw [e, tr_aft ht, ht] at this
    cases this
  · have := tr_no t ht
    rw [← e, tr_aft hs, hs] at this
    cases this
  · rw [tr_aft hs, tr_aft ht] at e
    exact e
theorem SrtOk.ne {s : Str} (h : SrtOk s) : trS s ≠ kNone := by
  rcases h with h | h
  · exact tr_ne s h
  · rw [tr_aft h]
    intro e
    rw [e] at h
    exact absurd h (by decide +kernel)
def Agree (z : Str) (n : Int) : Prop := (valueOf z n = non ∧ sortL z n = kNone) ∨ (¬ valueOf z n = non ∧ SrtOk (sortOf z) ∧ sortL z n = trS (sortOf z))
theorem two_is : kTwo = (⟨#[58]⟩ : Str) := by decide +kernel
theorem sort_rest {z : Str} (n : Int) (h1 : ¬ z = cSta) (h2 : lay z = false) (h3 : z ∉ xTexts) : sortL z n = sortT z n := by
  unfold sortL
  rw [if_neg h1, h2, if_neg (by decide), if_neg h3]
theorem xT_x : ∀ z ∈ xTexts, Txt.startswith z cX = true := fun z hz => by
  obtain ⟨i, _, rfl⟩ := List.mem_map.mp hz
  exact sw_app _ _
theorem sortT_no {z : Str} {n : Int} (h : (partS 58 z).1 ∉ [kPap, kCov, kAft]) (h2 : ¬ (partS 58 z).1 = kCol) : sortT z n = kNone := by
  unfold sortT
  rw [decide_eq_false h, Bool.false_and, Bool.false_and, if_neg (by decide), decide_eq_false h2, Bool.false_and, if_neg (by decide)]
theorem at_colon {k : Str} (hk : 58 ∉ sg k) (m : Str) : partS 58 (k ++ kTwo ++ m) = (k, kTwo, m) := by
  rw [two_is]
  exact part_at hk
theorem ePap : cPap = kPap ++ kTwo := by decide +kernel
theorem eCov : cCov = kCov ++ kTwo := by decide +kernel
theorem eAft : cAft = kAft ++ kTwo := by decide +kernel
theorem eCol : cCol = kCol ++ kTwo := by decide +kernel
theorem agree_name {p k : Str} (hp : p = k ++ kTwo) (hk : k ∈ [kPap, kCov, kAft]) (nk : ¬ k = kCol) (h58 : 58 ∉ sg k) (m : Str) (n : Int) (h1 : ¬ p ++ m = cSta) (h2 : lay (p ++ m) = false) (h3 : p ++ m ∉ xTexts)
    (hv : valueOf (p ++ m) n = if good m = true then .v (.str m) else non) (hs : good m = true → sortOf (p ++ m) = (if k = kAft then p ++ m else p)) (ok : good m = true → SrtOk (sortOf (p ++ m))) (ht : good m = true → (if k = kAft then p ++ m else k) = trS (sortOf (p ++ m))) : Agree (p ++ m) n := by
  have e : sortL (p ++ m) n = sortT (p ++ m) n := sort_rest n h1 h2 h3
  have pt : partS 58 (p ++ m) = (k, kTwo, m) := by rw [hp]; exact at_colon h58 m
  unfold sortT at e
  rw [pt] at e
  dsimp only at e
  rw [decide_eq_true hk, decide_eq_true (rfl : kTwo = kTwo), Bool.true_and, Bool.true_and, decide_eq_false nk, Bool.false_and, if_neg (show ¬ false = true by decide)] at e
  cases hg : good m with
  | true =>
    rw [hg, if_pos rfl] at e hv
    refine .inr ⟨(by rw [hv]; intro z; injection z with z; cases z), ok hg, ?_⟩
    rw [e, ht hg]
  | false =>
    rw [hg, if_neg (by decide)] at e hv
    exact .inl ⟨hv, e⟩
theorem find_three {z : Str} (a : Txt.startswith z cPap = false ∨ good (rst z cPap) = false) (b : Txt.startswith z cCov = false ∨ good (rst z cCov) = false) (c : Txt.startswith z cAft = false ∨ good (rst z cAft) = false) : three.find? (fun p => Txt.startswith z p && good (rst z p)) = none := by
  have one : ∀ p, (Txt.startswith z p = false ∨ good (rst z p) = false) → ¬ (Txt.startswith z p && good (rst z p)) = true := fun p h => by
    rcases h with h | h
    · rw [h]; simp
    · rw [h]; simp
  unfold three
  rw [List.find?_cons_of_neg (p := fun p => Txt.startswith z p && good (rst z p)) (h := one _ a), List.find?_cons_of_neg (p := fun p => Txt.startswith z p && good (rst z p)) (h := one _ b), List.find?_cons_of_neg (p := fun p => Txt.startswith z p && good (rst z p)) (h := one _ c)]
  rfl
theorem value_non {z : Str} (n : Int) (h1 : ¬ z = cSta) (h2 : lay z = false) (h3 : Txt.startswith z cX = false) (h4 : Txt.startswith z cCol = false) (h5 : three.find? (fun p => Txt.startswith z p && good (rst z p)) = none) : valueOf z n = non := by
  unfold valueOf
  rw [if_neg h1, h2, if_neg (by decide), h3, if_neg (by decide), h4, if_neg (by decide), h5]
theorem first_x (m : Str) : (partS 58 (cX ++ m)).1.cps.toList.headD 0 = 120 := by
  have : sg (cX ++ m) = 120 :: sg m := by rw [sg_app]; rfl
  unfold partS
  rw [show (cX ++ m : Str).cps.toList = 120 :: sg m from this]
  rfl
theorem agree (z : Str) (n : Int) : Agree z n := by
  by_cases h1 : z = cSta
  · subst h1
    refine .inr ⟨(by rw [(val_sta n).1]; intro z; injection z with z; cases z), .inl (by rw [(val_sta n).2]; decide +kernel), ?_⟩
    rw [(val_sta n).2]
    unfold sortL
    rw [if_pos rfl]
    decide +kernel
  cases h2 : lay z with
  | true =>
    have m : z ∈ Str.ofString "both" :: goodTexts := by
      rw [lay_mem] at h2
      exact of_decide_eq_true h2
    refine .inr ⟨(by rw [(val_lay n m).1]; intro z; injection z with z; cases z), .inl (by rw [(val_lay n m).2]; decide +kernel), ?_⟩
    rw [(val_lay n m).2]
    unfold sortL
    rw [if_neg h1, if_pos h2]
    decide +kernel
  | false =>
  by_cases h3 : Txt.startswith z cX = true
  · obtain ⟨m, rfl⟩ := (sw_iff _ _).mp h3
    have v := val_x (n := m) n
    by_cases hx : cX ++ m ∈ xTexts
    · refine .inr ⟨?_, .inl (by rw [v.2]; decide +kernel), ?_⟩
      · rw [v.1]
        intro e
        injection e with e
        exact x_in hx e
      · rw [v.2]
        unfold sortL
        rw [if_neg h1, h2, if_neg (by decide), if_pos hx]
        decide +kernel
    · refine .inl ⟨?_, ?_⟩
      · rw [v.1]
        by_cases e : inNum m 1 99 = V.non
        · rw [e]; rfl
        · exact absurd (x_of e) hx
      · have hd := first_x m
        rw [sort_rest n h1 h2 hx]
        refine sortT_no (fun q => ?_) (fun q => ?_)
        · generalize (partS 58 (cX ++ m)).1 = y at q hd
          have : ∀ y ∈ [kPap, kCov, kAft], ¬ y.cps.toList.headD 0 = 120 := by decide +kernel
          exact this y q hd
        · rw [q] at hd
          exact absurd hd (by decide +kernel)
  have h3' : Txt.startswith z cX = false := Bool.eq_false_iff.mpr h3
  have nx : z ∉ xTexts := fun m => h3 (xT_x z m)
  by_cases h4 : Txt.startswith z cCol = true
  · obtain ⟨m, rfl⟩ := (sw_iff _ _).mp h4
    have v := val_col (n := m) n
    have e : sortL (cCol ++ m) n = sortT (cCol ++ m) n := sort_rest n h1 h2 nx
    have pt : partS 58 (cCol ++ m) = (kCol, kTwo, m) := by rw [eCol]; exact at_colon (by decide +kernel) m
    unfold sortT at e
    rw [pt] at e
    dsimp only at e
    rw [decide_eq_false (show ¬ kCol ∈ [kPap, kCov, kAft] by decide +kernel), Bool.false_and, Bool.false_and, if_neg (show ¬ false = true by decide), decide_eq_true rfl, Bool.true_and] at e
    rcases col_both m n with ⟨r1, r2⟩ | ⟨r1, r2⟩
    · rw [r2, if_neg (by decide)] at e
      exact .inl ⟨by rw [v.1]; exact r1, e⟩
    · rw [r2, if_pos rfl] at e
      refine .inr ⟨by rw [v.1]; exact r1, .inl (by rw [v.2]; decide +kernel), ?_⟩
      rw [v.2, e]
      decide +kernel
  have h4' : Txt.startswith z cCol = false := Bool.eq_false_iff.mpr h4
  by_cases h5 : Txt.startswith z cPap = true
  · obtain ⟨m, rfl⟩ := (sw_iff _ _).mp h5
    have c5 : Txt.startswith (cPap ++ m) cCov = false := sw_via (r := Str.ofString "c") (by decide +kernel) (pre_no (by decide +kernel) (by decide +kernel))
    have c6 : Txt.startswith (cPap ++ m) cAft = false := sw_via (r := Str.ofString "a") (by decide +kernel) (pre_no (by decide +kernel) (by decide +kernel))
    refine agree_name ePap (by decide +kernel) (by decide +kernel) (by decide +kernel) m n h1 h2 nx ?_ (fun g => ?_) (fun g => ?_) (fun g => ?_)
    · cases g : good m with
      | true => rw [if_pos rfl]; exact (val_pap n g).1
      | false =>
        rw [if_neg (by decide)]
        exact value_non n h1 h2 h3' h4' (find_three (.inr (by rw [rst_app]; exact g)) (.inl c5) (.inl c6))
    · rw [(val_pap n g).2, if_neg (by decide +kernel)]
    · rw [(val_pap n g).2]; exact .inl (by decide +kernel)
    · rw [(val_pap n g).2, if_neg (by decide +kernel)]; decide +kernel
  have h5' : Txt.startswith z cPap = false := Bool.eq_false_iff.mpr h5
  by_cases h6 : Txt.startswith z cCov = true
  · obtain ⟨m, rfl⟩ := (sw_iff _ _).mp h6
    have c6 : Txt.startswith (cCov ++ m) cAft = false := sw_via (r := Str.ofString "a") (by decide +kernel) (pre_no (by decide +kernel) (by decide +kernel))
    refine agree_name eCov (by decide +kernel) (by decide +kernel) (by decide +kernel) m n h1 h2 nx ?_ (fun g => ?_) (fun g => ?_) (fun g => ?_)
    · cases g : good m with
      | true => rw [if_pos rfl]; exact (val_cov n g).1
      | false =>
        rw [if_neg (by decide)]
        exact value_non n h1 h2 h3' h4' (find_three (.inl h5') (.inr (by rw [rst_app]; exact g)) (.inl c6))
    · rw [(val_cov n g).2, if_neg (by decide +kernel)]
    · rw [(val_cov n g).2]; exact .inl (by decide +kernel)
    · rw [(val_cov n g).2, if_neg (by decide +kernel)]; decide +kernel
  have h6' : Txt.startswith z cCov = false := Bool.eq_false_iff.mpr h6
  by_cases h7 : Txt.startswith z cAft = true
  · obtain ⟨m, rfl⟩ := (sw_iff _ _).mp h7
    refine agree_name eAft (by decide +kernel) (by decide +kernel) (by decide +kernel) m n h1 h2 nx ?_ (fun g => ?_) (fun g => ?_) (fun g => ?_)
    · cases g : good m with
      | true => rw [if_pos rfl]; exact (val_aft n g).1
      | false =>
        rw [if_neg (by decide)]
        exact value_non n h1 h2 h3' h4' (find_three (.inl h5') (.inl h6') (.inr (by rw [rst_app]; exact g)))
    · rw [(val_aft n g).2, if_pos rfl]
    · rw [(val_aft n g).2]; exact .inr h7
    · rw [(val_aft n g).2, if_pos rfl, tr_aft h7]
  have h7' : Txt.startswith z cAft = false := Bool.eq_false_iff.mpr h7
  refine .inl ⟨value_non n h1 h2 h3' h4' (find_three (.inl h5') (.inl h6') (.inl h7')), ?_⟩
  rw [sort_rest n h1 h2 nx]
  rcases part_cases 58 z with ⟨_, e⟩ | ⟨a, b, ha, rfl, e⟩
  · unfold sortT
    rw [e]
    dsimp only
    rw [decide_eq_false (show ¬ (⟨#[]⟩ : Str) = kTwo by decide +kernel), Bool.and_false, Bool.false_and, if_neg (by decide)]
    have : colB ⟨#[]⟩ n = false := by
      unfold colB
      rw [show partS 45 (⟨#[]⟩ : Str) = (⟨#[]⟩, ⟨#[]⟩, ⟨#[]⟩) from rfl, num_none]
      rfl
    rw [this, Bool.and_false, if_neg (by decide)]
  · have no : ∀ k p : Str, p = k ++ kTwo → Txt.startswith (a ++ ⟨#[58]⟩ ++ b) p = false → ¬ a = k := fun k p hp hs q => by
      rw [← q, two_is] at hp
      rw [hp, sw_app] at hs
      cases hs
    refine sortT_no ?_ ?_
    · rw [e]
      intro q
      rcases List.mem_cons.mp q with q | q
      · exact no _ _ ePap h5' q
      rcases List.mem_cons.mp q with q | q
      · exact no _ _ eCov h6' q
      exact no _ _ eAft h7' (List.mem_singleton.mp q)
    · rw [e]
      exact no _ _ eCol h4'
end
end My
namespace My
open PySem L2
open Blk (sg sg_inj sg_app)
section
variable {P : Program} {w : World} {K : PySem.W.Frag} {mg : Str → Option Value} {base : Heap}
def sp__law_sort (_K : PySem.W.Frag) : Sp := fun vs H Q _ => ∃ (z : Str) (n : Int), vs = [.str z, .int n] ∧ z.length ≤ 900 ∧ ∀ H', Same H H' → Q (.str (sortL z n)) H'
theorem part_len (c : Nat) (z : Str) : (partS c z).1.length ≤ z.length ∧ (partS c z).2.2.length ≤ z.length := by
  rcases part_cases c z with ⟨_, e⟩ | ⟨a, b, _, rfl, e⟩
  · rw [e]
    exact ⟨Nat.le_refl _, Nat.zero_le _⟩
  · rw [e, len_app, len_app]
    dsimp only
    omega
theorem x_list : ((((List.range 99).map fun i => V.int (1 + ((i : Nat) : Int))).filter fun _ => true).map fun v => match v with | .int n => V.str (Str.ofString "x" ++ Str.ofString (toString n)) | _ => .non) = xTexts.map V.str := by
  unfold xTexts
  rw [List.filter_eq_self.mpr (fun _ _ => rfl), List.map_map, List.map_map]
  rfl
theorem sc__law_sort : FnScope ["_law_word", "_law_pages", "_law_head", "_law_sign_here", "_law_rest", "_law_low", "_law_high"] ["_law_word", "_law_pages"] (defScope s__law_sort) := ⟨rfl, rfl, rfl, by decide +kernel, rfl, by decide +kernel, by decide +kernel⟩
theorem ok__law_sort {fa cJob cBadLine cBusy cDry cGoesRound cNoHeap cNoPrinter cNotNow cNoWay cNowhere cOver cTooMuch cTwice cUnknown cHallError : Addr} {fd : FuncData} (F : Fun K "_law_sort" "_law_sort" s__law_sort fa fd) (T : Txt K mg cJob cBadLine cBusy cDry cGoesRound cNoHeap cNoPrinter cNotNow cNoWay cNowhere cOver cTooMuch cTwice cUnknown cHallError) (D__law_is_name : Dfn P w K mg base 1 "_law_is_name" ["_law_word"] (sp__law_is_name K)) (D__law_number : Dfn P w K mg base 1 "_law_number" ["_law_word"] (sp__law_number K)) :
    FnOk P w K mg base CX0 2 fa fd ["_law_word", "_law_pages"] (sp__law_sort K) := by
  refine F.ok sc__law_sort (fun vs H Q E h => ?_) (fun cdv A outer s H vs Q E hr h => ?_)
  · obtain ⟨z, n, rfl, _⟩ := h
    rfl
  obtain ⟨z, n, rfl, hz, q⟩ := h
  have hsz : z.length ≤ sizeLine := Nat.le_trans hz (small (by decide))
  have fin : ∀ v H', Same H H' → sortL z n = v → Q (.str v) H' := fun v H' sm e => by rw [← e]; exact q H' sm
  refine ⟨_, (pss_cons (ps_if (pt_cmpR op_eq (pv 0) pe_str (nomark _)) (pss_one (ps_ret pe_str)) pss_nil)
  (pss_cons (ps_if (pt_cmpR op_in_seq (pv 0) (pe_op op_cat (pe_lst (pa_cons pe_str pa_nil)) (pe_comp (frees := []) ⟨by decide +kernel, rfl, rfl, by decide +kernel, trivial, by decide +kernel, cellsFor_at rfl, rfl⟩ rfl (pi_range2 rfl T.range (pa_cons pe_int (pa_cons pe_int pa_nil))) (fun _ _ _ _ => pifs_nil) (fun _ _ _ _ => by exact (pe_op op_add_str pe_str (pe_callTy call_str_int rfl T.str bt_str (pa_cons (pv 0) pa_nil)))))) rfl) (pss_one (ps_ret pe_str)) pss_nil)
  (pss_cons (ps_if (pt_cmpR op_in_seq (pv 0) (pe_comp (frees := []) ⟨by decide +kernel, rfl, rfl, by decide +kernel, trivial, by decide +kernel, cellsFor_at rfl, rfl⟩ rfl (pi_range2 rfl T.range (pa_cons pe_int (pa_cons pe_int pa_nil))) (fun _ _ _ _ => pifs_nil) (fun _ _ _ _ => by exact (pe_op op_add_str pe_str (pe_callTy call_str_int rfl T.str bt_str (pa_cons (pv 0) pa_nil))))) rfl) (pss_one (ps_ret pe_str)) pss_nil)
  (pss_cons (ps_asg (pe_bm PySem.F.plainAttrs_str PySem.F.slot_str_partition PySem.F.type_str_partition mt_partition (pv 0) (pa_cons pe_str pa_nil)) (pg_tup rfl (pgs_cons (pg_name (i := 2) sc__law_sort.nd rfl (by first | exact Or.inl rfl | exact Or.inr rfl)) (pgs_cons (pg_name (i := 3) sc__law_sort.nd rfl (by first | exact Or.inl rfl | exact Or.inr rfl)) (pgs_cons (pg_name (i := 4) sc__law_sort.nd rfl (by first | exact Or.inl rfl | exact Or.inr rfl)) pgs_nil)))))
  (pss_cons (ps_if (PW.pt (pw_and (pt_cmpR op_in_seq (pv 2) (pe_tup (pa_cons pe_str (pa_cons pe_str (pa_cons pe_str pa_nil)))) rfl) (pw_and (pt_cmpR op_eq (pv 3) pe_str (nomark _)) (pw_and1 (pt_truth (pe_callD D__law_is_name (hr.mono (by decide)) rfl (pa_cons (pv 4) pa_nil)) (fun _ => rfl)))))) (pss_cons (ps_if (pt_cmpR op_eq (pv 2) pe_str (nomark _)) (pss_one (ps_ret (pv 0))) pss_nil)
  (pss_one (ps_ret (pv 2)))) pss_nil)
  (pss_cons (ps_asg (pe_bm PySem.F.plainAttrs_str PySem.F.slot_str_partition PySem.F.type_str_partition mt_partition (pv 4) (pa_cons pe_str pa_nil)) (pg_tup rfl (pgs_cons (pg_name (i := 5) sc__law_sort.nd rfl (by first | exact Or.inl rfl | exact Or.inr rfl)) (pgs_cons (pg_name (i := 3) sc__law_sort.nd rfl (by first | exact Or.inl rfl | exact Or.inr rfl)) (pgs_cons (pg_name (i := 6) sc__law_sort.nd rfl (by first | exact Or.inl rfl | exact Or.inr rfl)) pgs_nil)))))
  (pss_cons (ps_if (PW.pt (pw_and (pt_cmpR op_eq (pv 2) pe_str (nomark _)) (pw_and1 (pt_chain3 op_le op_le op_le pe_int (pe_callD D__law_number (hr.mono (by decide)) rfl (pa_cons (pv 5) pa_nil)) (pe_callD D__law_number (hr.mono (by decide)) rfl (pa_cons (pv 6) pa_nil)) (pv 1))))) (pss_one (ps_ret pe_str)) pss_nil)
  (pss_one (ps_ret pe_str))))))))), ?_⟩
  refine ⟨_, rfl, rfl, _, rfl, ?_⟩
  by_cases c1 : z = cSta
  · rw [decide_eq_true (by rw [c1])]
    exact iteT (fin _ H (Same.refl H) (by unfold sortL; rw [if_pos c1]))
  rw [decide_eq_false (by intro e; injection e with e; exact c1 e)]
  refine iteF ?_
  refine ⟨_, rfl, (by show 1 ≤ sizeLine; decide), fun l0 hl0 => ?_⟩
  refine ⟨2, 17, rfl, ⟨by decide, by decide, by decide, by decide⟩, compB_seq (seq_range 2 15 _) (fun _ => true) (fun v => match v with | .int n => V.str (Str.ofString "up:" ++ Str.ofString (toString n)) | _ => .non) ?_ (fun x hx H' R _ r => r) (fun x hx H' R sm _ r => ?_) (fun D H1 sm1 hD hH => ?_)⟩
  · show 15 < sizeLine
    decide
  · obtain ⟨i, hi, rfl⟩ := List.mem_map.mp hx
    have hi' := List.mem_range.mp hi
    refine ⟨_, rfl, _, rfl, Nat.lt_of_le_of_lt (Nat.log2_le_self _) (by omega), _, _, rfl, rfl, ?_, r⟩
    have l3 : (Str.ofString "up:").length = 3 := by decide +kernel
    have hT : (Str.ofString (toString ((2 : Int) + (i : Nat)))).length ≤ 2 := PyProof.Rows.toString_length_le (by omega) (by decide) (by omega)
    exact small (by rw [l3]; omega)
  have h0 : H1 l0 = some (.lst [V.str (Str.ofString "both")]) := sm1 _ _ upd_same
  refine ⟨l0, D, _, goods, rfl, rfl, h0, hH, (by decide +kernel), fun p hp => ?_⟩
  change H1 D = some (.lst goods) at hH
  have sm2 : Same H (upd H1 p (.lst (([V.str (Str.ofString "both")]) ++ goods))) := ((same_new hl0 _).trans sm1).trans (same_new hp _)
  have hp2 : (upd H1 p (.lst (([V.str (Str.ofString "both")]) ++ goods))) p = some (.lst ([V.str (Str.ofString "both")] ++ goods)) := upd_same
  refine ⟨p, _, rfl, .inl (SqL.of hp2), rfl, goods_flat, ?_⟩
  show ∃ k, V.bl (inV (.str z) ([V.str (Str.ofString "both")] ++ goods)) = .bl k ∧ _
  rw [← lay_in]
  refine ⟨_, rfl, ?_⟩
  generalize upd H1 p (.lst (([V.str (Str.ofString "both")]) ++ goods)) = H2 at sm2 ⊢
  cases c2 : lay z with
  | true => exact iteT (fin _ _ sm2 (by unfold sortL; rw [if_neg c1, if_pos c2]))
  | false =>
  refine iteF ?_
  refine ⟨_, rfl, 1, 100, rfl, ⟨by decide, by decide, by decide, by decide⟩, compB_seq (seq_range 1 99 _) (fun _ => true) (fun v => match v with | .int n => V.str (Str.ofString "x" ++ Str.ofString (toString n)) | _ => .non) ?_ (fun x hx H' R _ r => r) (fun x hx H' R sm _ r => ?_) (fun D2 H3 sm3 hD3 hH3 => ?_)⟩
  · show 99 < sizeLine
    decide
  · obtain ⟨i, hi, rfl⟩ := List.mem_map.mp hx
    have hi' := List.mem_range.mp hi
    refine ⟨_, rfl, _, rfl, Nat.lt_of_le_of_lt (Nat.log2_le_self _) (by omega), _, _, rfl, rfl, ?_, r⟩
    have l3 : (Str.ofString "x").length = 1 := by decide +kernel
    have hT : (Str.ofString (toString ((1 : Int) + (i : Nat)))).length ≤ 3 := PyProof.Rows.toString_length_le (by omega) (by decide) (by omega)
    exact small (by rw [l3]; omega)
  rw [x_list] at hH3
  refine ⟨D2, _, rfl, .inl (SqL.of hH3), rfl, flat_strs xTexts, ?_⟩
  show ∃ k, V.bl (inV (.str z) (xTexts.map V.str)) = .bl k ∧ _
  rw [in_strs]
  refine ⟨_, rfl, ?_⟩
  have sm4 := sm2.trans sm3
  by_cases c3 : z ∈ xTexts
  · rw [decide_eq_true c3]
    exact iteT (fin _ _ sm4 (by unfold sortL; rw [if_neg c1, c2, if_neg (by decide), if_pos c3]))
  rw [decide_eq_false c3]
  refine iteF ?_
  have e := sort_rest n c1 c2 c3
  rw [e] at fin
  clear e q hH3 hH
  obtain ⟨pl1, pl2⟩ := part_len 58 z
  unfold sortT at fin
  refine ⟨_, rfl, rfl, z, 58, rfl, rfl, hsz, fun t ht => ?_⟩
  generalize hpt : partS 58 z = pt at fin pl1 pl2 ⊢
  obtain ⟨hd, sn, r⟩ := pt
  dsimp only at fin pl1 pl2 ⊢
  have sm5 := sm4.trans (same_new ht (.tup [.str hd, .str sn, .str r]))
  have htt : (upd H3 t (.tup [.str hd, .str sn, .str r])) t = some (.tup [.str hd, .str sn, .str r]) := upd_same
  generalize upd H3 t (.tup [.str hd, .str sn, .str r]) = H4 at sm5 htt ⊢
  refine ⟨t, _, rfl, SqT.of htt, rfl, _, _, rfl, _, _, rfl, _, _, rfl, rfl, ?_⟩
  refine seq_cut (fun σ G => Same H G ∧ (decide (hd ∈ [kPap, kCov, kAft]) && decide (sn = kTwo) && good r) = false ∧ σ = [some (.str z), some (.int n), some (.str hd), some (.str sn), some (.str r), none, none]) (fun R hR => ?_) (fun σ G zz => ?_)
  · refine ⟨_, rfl, small (by show 3 ≤ 1000; decide), fun t2 ht2 => ?_⟩
    have sm6 := sm5.trans (same_new ht2 (.tup [V.str (Str.ofString "paper"), V.str (Str.ofString "cover"), V.str (Str.ofString "after")]))
    have h6 : (upd H4 t2 (.tup [V.str (Str.ofString "paper"), V.str (Str.ofString "cover"), V.str (Str.ofString "after")])) t2 = some (.tup ([kPap, kCov, kAft].map V.str)) := upd_same
    refine ⟨t2, _, rfl, .inr (SqT.of h6), rfl, flat_strs _, ?_⟩
    show ∃ k, V.bl (inV (.str hd) ([kPap, kCov, kAft].map V.str)) = .bl k ∧ _
    rw [in_strs]
    refine ⟨_, rfl, ?_⟩
    generalize upd H4 t2 (.tup [V.str (Str.ofString "paper"), V.str (Str.ofString "cover"), V.str (Str.ofString "after")]) = H6 at sm6 ⊢
    by_cases d1 : hd ∈ [kPap, kCov, kAft]
    · rw [decide_eq_true d1]
      refine iteT ⟨_, rfl, rfl, _, rfl, ?_⟩
      by_cases d2 : sn = kTwo
      · rw [decide_eq_true (show V.str sn = V.str (Str.ofString ":") by rw [d2])]
        refine iteT ⟨_, rfl, r, rfl, by omega, fun H7 s7 => ⟨_, rfl, ?_⟩⟩
        have sm7 := sm6.trans s7
        cases d3 : good r with
        | true =>
          have e0 : (decide (hd ∈ [kPap, kCov, kAft]) && decide (sn = kTwo) && good r) = true := by rw [decide_eq_true d1, decide_eq_true d2, d3]; rfl
          rw [e0, if_pos rfl] at fin
          refine iteT ⟨_, rfl, rfl, _, rfl, ?_⟩
          by_cases d4 : hd = kAft
          · rw [decide_eq_true (show V.str hd = V.str (Str.ofString "after") by rw [d4])]
            exact iteT ⟨_, rfl, fin _ _ sm7 (if_pos d4)⟩
          · rw [decide_eq_false (show ¬ V.str hd = V.str (Str.ofString "after") from fun e => d4 (by injection e))]
            exact iteF ⟨_, rfl, fin _ _ sm7 (if_neg d4)⟩
        | false => exact iteF (hR _ _ ⟨sm7, by rw [d3, Bool.and_false], rfl⟩)
      · rw [decide_eq_false (show ¬ V.str sn = V.str (Str.ofString ":") from fun e => d2 (by injection e))]
        exact iteF (iteF (hR _ _ ⟨sm6, by rw [decide_eq_false d2, Bool.and_false, Bool.false_and], rfl⟩))
    · rw [decide_eq_false d1]
      exact iteF (iteF (hR _ _ ⟨sm6, by rw [decide_eq_false d1, Bool.false_and, Bool.false_and], rfl⟩))
  obtain ⟨sm7, e0, rfl⟩ := zz
  rw [e0, if_neg (by decide)] at fin
  obtain ⟨ql1, ql2⟩ := part_len 45 r
  unfold colB at fin
  refine ⟨_, rfl, rfl, r, 45, rfl, rfl, by exact Nat.le_trans pl2 hsz, fun t3 ht3 => ?_⟩
  generalize hqt : partS 45 r = qt at fin ql1 ql2 ⊢
  obtain ⟨lo, s2, up⟩ := qt
  dsimp only at fin ql1 ql2 ⊢
  have sm8 := sm7.trans (same_new ht3 (.tup [.str lo, .str s2, .str up]))
  have h8 : (upd G t3 (.tup [.str lo, .str s2, .str up])) t3 = some (.tup [.str lo, .str s2, .str up]) := upd_same
  generalize upd G t3 (.tup [.str lo, .str s2, .str up]) = H8 at sm8 h8 ⊢
  refine ⟨t3, _, rfl, SqT.of h8, rfl, _, _, rfl, _, _, rfl, _, _, rfl, rfl, ?_⟩
  refine ⟨_, rfl, rfl, _, rfl, ?_⟩
  by_cases d1 : hd = kCol
  · rw [decide_eq_true (show V.str hd = V.str (Str.ofString "colour") by rw [d1])]
    rw [decide_eq_true d1, Bool.true_and] at fin
    refine iteT ⟨_, rfl, lo, rfl, by omega, _, _, rfl, rfl, _, rfl, ?_⟩
    by_cases d2 : 1 ≤ numL lo
    · rw [decide_eq_true d2] at fin ⊢
      refine iteT ⟨_, rfl, up, rfl, by omega, _, _, rfl, rfl, _, rfl, ?_⟩
      by_cases d3 : numL lo ≤ numL up
      · rw [decide_eq_true d3] at fin ⊢
        refine iteT ⟨_, rfl, _, _, rfl, rfl, _, rfl, ?_⟩
        by_cases d4 : numL up ≤ n
        · rw [decide_eq_true d4] at fin ⊢
          exact iteT (fin _ _ sm8 rfl)
        · rw [decide_eq_false d4] at fin ⊢
          exact iteF (fin _ _ sm8 rfl)
      · rw [decide_eq_false d3] at fin ⊢
        exact iteF ⟨_, rfl, iteF (fin _ _ sm8 rfl)⟩
    · rw [decide_eq_false d2] at fin ⊢
      exact iteF ⟨_, rfl, iteF (fin _ _ sm8 rfl)⟩
  · rw [decide_eq_false (show ¬ V.str hd = V.str (Str.ofString "colour") from fun e => d1 (by injection e))]
    rw [decide_eq_false d1, Bool.false_and] at fin
    exact iteF (iteF (fin _ _ sm8 rfl))
end
end My
namespace My
open PySem L2
open Blk (sg sg_inj sg_app)
section
variable {P : Program} {w : World} {K : PySem.W.Frag} {mg : Str → Option Value} {base : Heap}
def dueOf (ws : List Str) : Int := match readHead ws with
  | .error i => (i : Int)
  | .ok n => match readTail n (ws.drop 3) 3 [] with
    | .error i => (i : Int)
    | .ok _ => -1
def sp__law_wrong (_K : PySem.W.Frag) : Sp := fun vs H Q _ => ∃ (p : Addr) (ws : List Str), vs = [.ref p] ∧ H p = some (.lst (ws.map V.str)) ∧ (∀ w ∈ ws, w.length ≤ 900) ∧ ws.length ≤ 902 ∧ ∀ H', Same H H' → Q (.int (dueOf ws)) H'
theorem due_err {ws : List Str} {i : Nat} (h : readHead ws = .error i) : dueOf ws = i := by
  unfold dueOf
  rw [h]
theorem seen_iff {n : Int} {l : List Str} {y : Str} (hl : ∀ w ∈ l, ¬ valueOf w n = non) (hy : ¬ valueOf y n = non) : inV (.str (sortL y n)) (l.map fun w => V.str (sortL w n)) = decide (sortOf y ∈ (told n l).map (·.1)) := by
  have e : (l.map fun w => V.str (sortL w n)) = (l.map fun w => sortL w n).map V.str := by rw [List.map_map]; rfl
  have tw : ∀ w, ¬ valueOf w n = non → SrtOk (sortOf w) ∧ sortL w n = trS (sortOf w) := fun w h => by
    rcases agree w n with ⟨a, _⟩ | ⟨_, b⟩
    · exact absurd a h
    · exact b
  have e2 : (told n l).map (·.1) = l.map sortOf := by
    unfold told
    rw [List.map_map]
    rfl
  rw [e, in_strs, e2]
  refine decide_eq_decide.mpr ⟨fun m => ?_, fun m => ?_⟩
  · obtain ⟨w, hw, q⟩ := List.mem_map.mp m
    obtain ⟨o1, e1⟩ := tw w (hl w hw)
    obtain ⟨o3, e3⟩ := tw y hy
    rw [e1, e3] at q
    exact List.mem_map.mpr ⟨w, hw, tr_inj o1 o3 q⟩
  · obtain ⟨w, hw, q⟩ := List.mem_map.mp m
    refine List.mem_map.mpr ⟨w, hw, ?_⟩
    rw [(tw w (hl w hw)).2, (tw y hy).2, q]
theorem sc__law_wrong : FnScope ["_law_words_here", "_law_place", "_law_seen", "_law_sort_here"] ["_law_words_here"] (defScope s__law_wrong) := ⟨rfl, rfl, rfl, by decide +kernel, rfl, by decide +kernel, by decide +kernel⟩
theorem ok__law_wrong {fa cJob cBadLine cBusy cDry cGoesRound cNoHeap cNoPrinter cNotNow cNoWay cNowhere cOver cTooMuch cTwice cUnknown cHallError : Addr} {fd : FuncData} (F : Fun K "_law_wrong" "_law_wrong" s__law_wrong fa fd) (T : Txt K mg cJob cBadLine cBusy cDry cGoesRound cNoHeap cNoPrinter cNotNow cNoWay cNowhere cOver cTooMuch cTwice cUnknown cHallError) (D__law_sort : Dfn P w K mg base 2 "_law_sort" ["_law_word", "_law_pages"] (sp__law_sort K)) (D__law_is_name : Dfn P w K mg base 1 "_law_is_name" ["_law_word"] (sp__law_is_name K)) (D__law_number : Dfn P w K mg base 1 "_law_number" ["_law_word"] (sp__law_number K)) :
    FnOk P w K mg base CX0 3 fa fd ["_law_words_here"] (sp__law_wrong K) := by
  refine F.ok sc__law_wrong (fun vs H Q E h => ?_) (fun cdv A outer s H vs Q E hr h => ?_)
  · obtain ⟨p, ws, rfl, _⟩ := h
    rfl
  obtain ⟨p, ws, rfl, hp, hw, hn, q⟩ := h
  have fin : ∀ (i : Int) H', Same H H' → dueOf ws = i → Q (.int i) H' := fun i H' sm e => by rw [← e]; exact q H' sm
  have lz : (ws.map V.str).length = ws.length := List.length_map _
  refine ⟨_, (pss_cons (ps_for PassesOwn.never rfl (pi_range1 rfl T.range (pa_cons (pe_callB (call_min2 rfl) rfl T.min bt_min (pa_cons pe_int (pa_cons (pe_callB call_len_seq rfl T.len PySem.boot_len (pa_cons (pv 0) pa_nil)) pa_nil))) pa_nil)) (pg_name (i := 1) sc__law_wrong.nd rfl (by first | exact Or.inl rfl | exact Or.inr rfl))
  (pss_one (ps_if (pt_not (pt_truth (pe_callD D__law_is_name (hr.mono (by decide)) rfl (pa_cons (pe_ix ix_listA (pv 0) (pv 1) (fun _ _ => rfl)) pa_nil)) (fun _ => rfl))) (pss_one (ps_ret (pv 1))) pss_nil)))
  (pss_cons (ps_if (PW.pt (pw_and (pt_cmpR op_gt (pe_callB call_len_seq rfl T.len PySem.boot_len (pa_cons (pv 0) pa_nil)) pe_int (nomark _)) (pw_and1 (pt_not (pt_chain op_le op_le pe_int (pe_callD D__law_number (hr.mono (by decide)) rfl (pa_cons (pe_ix ix_list (pv 0) pe_int (fun _ _ => rfl)) pa_nil)) pe_int))))) (pss_one (ps_ret pe_int)) pss_nil)
  (pss_cons (ps_if (pt_cmpR op_lt (pe_callB call_len_seq rfl T.len PySem.boot_len (pa_cons (pv 0) pa_nil)) pe_int (nomark _)) (pss_one (ps_ret (pe_callB call_len_seq rfl T.len PySem.boot_len (pa_cons (pv 0) pa_nil)))) pss_nil)
  (pss_cons (ps_set (i := 2) sc__law_wrong.nd rfl (by first | exact Or.inl rfl | exact Or.inr rfl) (pe_lst pa_nil))
  (pss_cons (ps_for PassesOwn.never rfl (pi_range2 rfl T.range (pa_cons pe_int (pa_cons (pe_callB call_len_seq rfl T.len PySem.boot_len (pa_cons (pv 0) pa_nil)) pa_nil))) (pg_name (i := 1) sc__law_wrong.nd rfl (by first | exact Or.inl rfl | exact Or.inr rfl))
  (pss_cons (ps_set (i := 3) sc__law_wrong.nd rfl (by first | exact Or.inl rfl | exact Or.inr rfl) (pe_callD D__law_sort (hr.mono (by decide)) rfl (pa_cons (pe_ix ix_listA (pv 0) (pv 1) (fun _ _ => rfl)) (pa_cons (pe_callD D__law_number (hr.mono (by decide)) rfl (pa_cons (pe_ix ix_list (pv 0) pe_int (fun _ _ => rfl)) pa_nil)) pa_nil))))
  (pss_cons (ps_if (PW.pt (pw_or (pt_cmpR op_eq (pv 3) pe_str (nomark _)) (pw_or1 (pt_cmpR op_in_seq (pv 3) (pv 2) rfl)))) (pss_one (ps_ret (pv 1))) pss_nil)
  (pss_one (ps_expr (pe_bm PySem.F.plainAttrs_list PySem.F.slot_list_append PySem.F.type_list_append mt_append (pv 2) (pa_cons (pv 3) pa_nil)))))))
  (pss_one (ps_ret (pe_un un_neg pe_int)))))))), ?_⟩
  refine ⟨_, rfl, p, _, rfl, .inl (SqL.of hp), _, _, rfl, _, rfl, ?_⟩
  rw [lz]
  refine ⟨by split <;> omega, by split <;> omega, for_range (fun i σ G => Same H G ∧ (∀ j, j < i → good (ws.getD j cBlank) = true) ∧ ∃ v1 v2 v3 : Option V, σ = [some (.ref p), v1, v2, v3]) ⟨Same.refl H, fun j z => absurd z (Nat.not_lt_zero _), _, _, _, rfl⟩ (fun i σ G hi z => ?_) (fun σ G z => ?_)⟩
  · obtain ⟨sm, pre, v1, v2, v3, rfl⟩ := z
    have li : i < 2 ∧ i < ws.length := by
      split at hi <;> omega
    obtain ⟨y, hy⟩ : ∃ y, ws[i]? = some y := ⟨_, List.getElem?_eq_getElem li.2⟩
    have gd : ws.getD i cBlank = y := by rw [List.getD_eq_getElem?_getD, hy]; rfl
    refine ⟨_, rfl, _, rfl, p, _, _, rfl, rfl, SqL.of (sm _ _ hp), by omega, by rw [lz]; omega, fun v hv => ?_⟩
    obtain rfl : V.str y = v := by
      rw [show ((0 : Int) + (i : Int)).toNat = i by omega, List.getElem?_map, hy] at hv
      exact Option.some.inj hv
    refine ⟨y, rfl, hw y (List.mem_of_getElem? hy), fun H2 s2 => ⟨_, rfl, ?_⟩⟩
    cases gy : good y with
    | true =>
      refine iteF ⟨sm.trans s2, fun j hj => ?_, _, _, _, rfl⟩
      by_cases c : j = i
      · rw [c, gd]; exact gy
      · exact pre j (by omega)
    | false =>
      refine iteT ⟨_, rfl, fin _ _ (sm.trans s2) ?_⟩
      have er : readHead ws = .error i := by
        unfold readHead
        have : i = 0 ∨ i = 1 := by omega
        rcases this with rfl | rfl
        · rw [gd, if_pos gy]
        · rw [pre 0 (by decide), if_neg (by decide), if_neg (by omega), gd, if_pos gy]
      rw [due_err er]
      omega
  obtain ⟨sm, pre, v1, v2, v3, rfl⟩ := z
  have hp1 := sm _ _ hp
  refine ⟨_, rfl, p, _, rfl, .inl (SqL.of hp1), _, _, rfl, rfl, _, rfl, ?_⟩
  rw [lz]
  by_cases c : ws.length < 3
  · rw [decide_eq_false (show ¬ (2 : Int) < (ws.length : Nat) by omega)]
    refine iteF (iteF ?_)
    refine ⟨_, rfl, p, _, rfl, .inl (SqL.of hp1), _, _, rfl, rfl, _, rfl, ?_⟩
    rw [lz, decide_eq_true (show ((ws.length : Nat) : Int) < 3 by omega)]
    refine iteT ⟨_, rfl, p, _, rfl, .inl (SqL.of hp1), ?_⟩
    rw [lz]
    refine fin _ _ sm (due_err ?_)
    unfold readHead
    by_cases c0 : ws = []
    · rw [c0]
      rw [if_pos (by decide +kernel)]
      rfl
    have l1 : 1 ≤ ws.length := by
      cases ws with
      | nil => exact absurd rfl c0
      | cons a b => exact Nat.succ_le_succ (Nat.zero_le _)
    rw [pre 0 (by split <;> omega), if_neg (by decide)]
    by_cases c2 : ws.length < 2
    · rw [if_pos c2]
    · rw [if_neg c2, pre 1 (by split <;> omega), if_neg (by decide), if_pos c]
  rw [decide_eq_true (show (2 : Int) < (ws.length : Nat) by omega)]
  have g0 := pre 0 (by split <;> omega)
  have g1 := pre 1 (by split <;> omega)
  obtain ⟨y, hy⟩ : ∃ y, ws[2]? = some y := ⟨_, List.getElem?_eq_getElem (by omega)⟩
  have ly := hw y (List.mem_of_getElem? hy)
  have g2 : ws.getD 2 cBlank = y := by rw [List.getD_eq_getElem?_getD, hy]; rfl
  have hy2 : (ws.map V.str)[2]? = some (V.str y) := by rw [List.getElem?_map, hy]; rfl
  have eh : readHead ws = match inNum y 1 999 with | .int n => .ok n | _ => .error 2 := by
    unfold readHead
    rw [g0, if_neg (by decide), if_neg (by omega), g1, if_neg (by decide), if_neg c, g2]
    all_goals rfl
  refine iteT ⟨_, rfl, p, _, _, _, rfl, rfl, SqL.of hp1, atI_nat (j := 2) hy2, y, rfl, ly, _, _, rfl, rfl, _, rfl, ?_⟩
  rw [numL_in y 1 999 (by decide)] at eh
  by_cases d1 : 1 ≤ numL y
  · rw [decide_eq_true d1]
    refine iteT ⟨_, _, rfl, rfl, _, rfl, ?_⟩
    by_cases d2 : numL y ≤ 999
    · rw [decide_eq_true d2]
      rw [if_pos ⟨d1, d2⟩] at eh
      refine iteF ?_
      refine ⟨_, rfl, p, _, rfl, .inl (SqL.of hp1), _, _, rfl, rfl, _, rfl, ?_⟩
      rw [lz, decide_eq_false (show ¬ ((ws.length : Nat) : Int) < 3 by omega)]
      refine iteF ⟨small (by decide), fun S nS => ?_⟩
      have hS : H S = none := sm.free nS
      have sm1 := same_on hS sm (.lst [])
      have hS1 : (upd G S (.lst [])) S = some (.lst []) := upd_same
      generalize upd G S (.lst []) = G1 at sm1 hS1 ⊢
      generalize hnn : numL y = n at *
      refine ⟨_, rfl, p, _, rfl, .inl (SqL.of (sm1 _ _ hp)), _, _, rfl, ⟨by decide, by decide, by omega, by rw [lz]; omega⟩, ?_⟩
      rw [lz, show (((ws.length : Nat) : Int) - 3).toNat = (ws.drop 3).length by rw [List.length_drop]; omega]
      refine for_range (fun i σ G' => Same H G' ∧ G' S = some (.lst (((ws.drop 3).take i).map fun w => V.str (sortL w n))) ∧ (∀ w ∈ (ws.drop 3).take i, ¬ valueOf w n = non) ∧ readTail n ((ws.drop 3).drop i) (3 + i) (told n ((ws.drop 3).take i)) = readTail n (ws.drop 3) 3 [] ∧ ∃ v1 v2 : Option V, σ = [some (.ref p), v1, some (.ref S), v2]) ⟨sm1, hS1, fun w hw => absurd hw List.not_mem_nil, rfl, _, _, rfl⟩ (fun i σ G' hi z => ?_) (fun σ G' z => ?_)
      · obtain ⟨sm2, hS2, vals, eT, v1, v2, rfl⟩ := z
        obtain ⟨x, hx⟩ : ∃ x, (ws.drop 3)[i]? = some x := ⟨_, List.getElem?_eq_getElem hi⟩
        have hxw : ws[3 + i]? = some x := by rw [List.getElem?_drop] at hx; exact hx
        have lx := hw x (List.mem_of_getElem? hxw)
        have li := (List.getElem?_eq_some_iff.mp hxw).1
        have hp2 := sm2 _ _ hp
        refine ⟨_, rfl, _, rfl, p, _, _, rfl, rfl, SqL.of hp2, by omega, by rw [lz]; omega, fun v hv => ?_⟩
        obtain rfl : V.str x = v := by
          rw [show ((3 : Int) + (i : Int)).toNat = 3 + i by omega, List.getElem?_map, hxw] at hv
          exact Option.some.inj hv
        refine ⟨_, rfl, p, _, _, _, rfl, rfl, SqL.of hp2, atI_nat (j := 2) hy2, y, rfl, ly, x, _, rfl, lx, fun H3 s3 => ?_⟩
        rw [hnn]
        have sm3 := sm2.trans s3
        have hS3 := s3 _ _ hS2
        have edr : (ws.drop 3).drop i = x :: (ws.drop 3).drop (i + 1) := by
          rw [List.drop_eq_getElem_cons hi]
          congr 1
          exact (List.getElem?_eq_some_iff.mp hx).2
        rw [edr] at eT
        have eT' : (if valueOf x n = non ∨ sortOf x ∈ (told n ((ws.drop 3).take i)).map (·.1) then .error (3 + i) else readTail n ((ws.drop 3).drop (i + 1)) (3 + i + 1) (told n ((ws.drop 3).take i) ++ [(sortOf x, valueOf x n)])) = readTail n (ws.drop 3) 3 [] := eT
        clear eT
        have bad : (valueOf x n = non ∨ sortOf x ∈ (told n ((ws.drop 3).take i)).map (·.1)) → dueOf ws = 3 + (i : Int) := fun cc => by
          rw [if_pos cc] at eT'
          unfold dueOf
          rw [eh]
          dsimp only
          rw [← eT']
          dsimp only
          omega
        refine ⟨_, rfl, rfl, _, rfl, ?_⟩
        rcases agree x n with ⟨a1, a2⟩ | ⟨a1, a2, a3⟩
        · rw [a2, decide_eq_true (show V.str kNone = V.str (Str.ofString "") from rfl)]
          exact iteT (iteT ⟨_, rfl, fin _ _ sm3 (bad (.inl a1))⟩)
        · have ne : ¬ V.str (sortL x n) = V.str (Str.ofString "") := fun e => by
            injection e with e
            rw [a3] at e
            exact a2.ne e
          rw [decide_eq_false ne]
          have sI := seen_iff vals a1
          refine iteF ⟨_, rfl, _, rfl, S, _, rfl, .inl (SqL.of hS3), rfl, ?_, ?_⟩
          · rw [show (((ws.drop 3).take i).map fun w => V.str (sortL w n)) = (((ws.drop 3).take i).map fun w => sortL w n).map V.str by rw [List.map_map]; rfl]
            exact flat_strs _
          show ∃ k, V.bl (inV (.str (sortL x n)) (((ws.drop 3).take i).map fun w => V.str (sortL w n))) = .bl k ∧ _
          rw [sI]
          refine ⟨_, rfl, ?_⟩
          by_cases m : sortOf x ∈ (told n ((ws.drop 3).take i)).map (·.1)
          · rw [decide_eq_true m]
            exact iteT ⟨_, rfl, fin _ _ sm3 (bad (.inr m))⟩
          rw [decide_eq_false m]
          rw [if_neg (fun z => z.elim a1 m)] at eT'
          have tk := take_more hx
          refine iteF ⟨_, rfl, .inl ⟨rfl, _, SqL.of hS3⟩, _, rfl, S, _, _, rfl, rfl, hS3, ?_, same_on hS sm3 _, ?_, fun w hwm => ?_, ?_, _, _, rfl⟩
          · rw [List.length_map, List.length_take, List.length_drop]
            exact small1000 (by omega)
          · rw [upd_same, tk, List.map_append]
            rfl
          · rw [tk] at hwm
            rcases List.mem_append.mp hwm with hwm | hwm
            · exact vals w hwm
            · rw [List.mem_singleton.mp hwm]; exact a1
          · rw [← eT', tk]
            unfold told
            rw [List.map_append]
            rfl
      · obtain ⟨sm2, hS2, vals, eT, v1, v2, rfl⟩ := z
        rw [List.drop_of_length_le (Nat.le_refl _)] at eT
        refine ⟨_, rfl, fin _ _ sm2 ?_⟩
        unfold dueOf
        rw [eh]
        dsimp only
        rw [← eT]
        rfl
    · rw [decide_eq_false d2]
      rw [if_neg (fun z => d2 z.2)] at eh
      exact iteT (fin _ _ sm (due_err eh))
  · rw [decide_eq_false d1]
    rw [if_neg (fun z => d1 z.1)] at eh
    exact iteF ⟨_, rfl, iteT (fin _ _ sm (due_err eh))⟩
end
end My
namespace My
open PySem L2
open Blk (sg sg_inj sg_app)
section
variable {P : Program} {w : World} {K : PySem.W.Frag} {mg : Str → Option Value} {base : Heap}
def sp__law_parted (_K : PySem.W.Frag) : Sp := fun vs H Q _ => ∃ z : Str, vs = [.str z] ∧ z.length ≤ 900 ∧ ∀ p H', Same H H' → H' p = some (.lst ((Txt.split z cBlank).map V.str)) → Q (.ref p) H'
def sp__law_apart (_C cB : Addr) : Sp := fun vs H Q _ => ∃ (z : Str) (i : Nat), vs = [.str z] ∧ z.length ≤ 900 ∧ readJ z = .error i ∧ cB = cB ∧ ∀ H', Same H H' → Q (.bl true) H'
theorem parts_snoc (ws : List Str) (w : Str) : (ws ++ [w]).map V.str = ws.map V.str ++ [V.str w] := by rw [List.map_append]; rfl
theorem ixN_last (n : Nat) : ixN (n + 1) (-1) = some n := by
  unfold ixN
  rw [if_neg (by decide), if_pos (by omega)]
  congr 1
  omega
theorem parts_len (ws : List Str) (w : Str) : ((ws ++ [w]).map V.str).length = ws.length + 1 := by rw [List.length_map, List.length_append]; rfl
theorem last_at (ws : List Str) (w : Str) : atI ((ws ++ [w]).map V.str) (-1) = some (V.str w) := by
  unfold atI
  rw [parts_len, ixN_last]
  show ((ws ++ [w]).map V.str)[ws.length]? = _
  rw [List.getElem?_map, List.getElem?_append_right (Nat.le_refl _), Nat.sub_self]
  rfl
theorem last_set (ws : List Str) (w x : Str) : ((ws ++ [w]).map V.str).set ws.length (V.str x) = (ws ++ [x]).map V.str := by
  rw [parts_snoc, parts_snoc, List.set_append_right _ _ (by rw [List.length_map]; exact Nat.le_refl _), List.length_map, Nat.sub_self]
  rfl
theorem sc__law_parted : FnScope ["_law_line", "_law_words_here", "_law_sign_here"] ["_law_line"] (defScope s__law_parted) := ⟨rfl, rfl, rfl, by decide +kernel, rfl, by decide +kernel, by decide +kernel⟩
theorem ok__law_parted {fa cJob cBadLine cBusy cDry cGoesRound cNoHeap cNoPrinter cNotNow cNoWay cNowhere cOver cTooMuch cTwice cUnknown cHallError : Addr} {fd : FuncData} (F : Fun K "_law_parted" "_law_parted" s__law_parted fa fd) (T : Txt K mg cJob cBadLine cBusy cDry cGoesRound cNoHeap cNoPrinter cNotNow cNoWay cNowhere cOver cTooMuch cTwice cUnknown cHallError)  :
    FnOk P w K mg base CX0 1 fa fd ["_law_line"] (sp__law_parted K) := by
  refine F.ok sc__law_parted (fun vs H Q E h => ?_) (fun cdv A outer s H vs Q E hr h => ?_)
  · obtain ⟨z, rfl, _⟩ := h
    rfl
  obtain ⟨z, rfl, hz, q⟩ := h
  have hsz : z.length ≤ sizeLine := Nat.le_trans hz (small (by decide))
  refine ⟨_, (pss_cons (ps_set (i := 1) sc__law_parted.nd rfl (by first | exact Or.inl rfl | exact Or.inr rfl) (pe_lst (pa_cons pe_str pa_nil)))
  (pss_cons (ps_for PassesOwn.never rfl (pi_str (pv 0)) (pg_name (i := 2) sc__law_parted.nd rfl (by first | exact Or.inl rfl | exact Or.inr rfl))
  (pss_one (ps_if (pt_cmpR op_eq (pv 2) pe_str (nomark _)) (pss_one (ps_expr (pe_bm PySem.F.plainAttrs_list PySem.F.slot_list_append PySem.F.type_list_append mt_append (pv 1) (pa_cons pe_str pa_nil)))) (pss_one (ps_asg (pe_op op_add_str (pe_ix ix_list (pv 1) (pe_un un_neg pe_int) (fun _ _ => rfl)) (pv 2)) (pg_sub (pv 1) (pe_un un_neg pe_int) set_list))))))
  (pss_one (ps_ret (pv 1))))), ?_⟩
  refine ⟨small (by decide), fun p np => ?_⟩
  have sm0 := same_new np (.lst [V.str (Str.ofString "")])
  have hp0 : (upd H p (.lst [V.str (Str.ofString "")])) p = some (.lst (([] ++ [⟨#[]⟩] : List Str).map V.str)) := upd_same
  generalize upd H p (.lst [V.str (Str.ofString "")]) = H0 at sm0 hp0 ⊢
  refine ⟨_, rfl, z, rfl, for_str (z := z) (fun i σ G => Same H G ∧ (∃ ws w, G p = some (.lst ((ws ++ [w]).map V.str)) ∧ Blk.Parts (z.cps.toList.take i) ws w) ∧ ∃ v2 : Option V, σ = [some (.str z), some (.ref p), v2]) ⟨sm0, ⟨[], ⟨#[]⟩, hp0, Blk.Parts.start⟩, _, rfl⟩ (fun i c σ G hc zz => ?_) (fun σ G zz => ?_)⟩
  · obtain ⟨sm, ⟨ws, w, hp, P⟩, v2, rfl⟩ := zz
    have hcl : z.cps.toList[i]? = some c := by simpa using hc
    have ht : z.cps.toList.take (i + 1) = z.cps.toList.take i ++ [c] := by rw [List.take_add_one, hcl]; rfl
    have hm := P.many
    have hl := P.len
    have lt : (z.cps.toList.take i).length ≤ 900 := by
      rw [List.length_take, len_toList]
      omega
    refine ⟨_, rfl, rfl, _, rfl, ?_⟩
    by_cases c32 : c = 32
    · subst c32
      rw [decide_eq_true (show V.str ⟨#[32]⟩ = V.str (Str.ofString " ") by decide +kernel)]
      refine iteT ⟨_, rfl, .inl ⟨rfl, _, SqL.of hp⟩, p, _, _, rfl, rfl, hp, ?_, same_on np sm _, ⟨ws ++ [w], ⟨#[]⟩, ?_, ?_⟩, _, rfl⟩
      · rw [parts_len]
        exact small1000 (by omega)
      · rw [upd_same, parts_snoc (ws ++ [w])]
        rfl
      · rw [ht]
        exact P.blank
    · rw [decide_eq_false (show ¬ V.str ⟨#[c]⟩ = V.str (Str.ofString " ") from fun e => c32 (by
        rw [show Str.ofString " " = (⟨#[32]⟩ : Str) from blank_eq] at e
        injection e with e3
        injection e3 with e4
        exact (List.cons.inj (congrArg Array.toList e4)).1))]
      refine iteF ?_
      refine ⟨_, rfl, 1, rfl, p, _, _, _, rfl, rfl, SqL.of hp, last_at ws w, _, rfl, _, _, rfl, rfl, ?_, ?_⟩
      · exact small (by show w.length + 1 ≤ 1000; omega)
      refine ⟨_, rfl, 1, rfl, p, _, _, _, rfl, rfl, hp, by rw [parts_len]; exact ixN_last _, ?_⟩
      rw [last_set]
      refine ⟨same_on np sm _, ⟨ws, w ++ ⟨#[c]⟩, upd_same, ?_⟩, _, rfl⟩
      rw [ht]
      exact P.sign c32
  · obtain ⟨sm, ⟨ws, w, hp, P⟩, v2, rfl⟩ := zz
    rw [List.take_of_length_le (by rw [Array.length_toList]; exact Nat.le_refl _)] at P
    have e := P.done (b := Txt.split z cBlank) (by rw [blank_eq]; exact split_ne z 32) (fun p hp => by rw [blank_eq] at hp; exact StrLaws.split_free _ 32 p hp) (by rw [blank_eq]; exact StrLaws.join_split z ⟨#[32]⟩)
    rw [e] at hp
    exact ⟨_, rfl, q p G sm hp⟩
theorem sc__law_apart : FnScope ["_law_line", "_law_alone", "e"] ["_law_line"] (defScope s__law_apart) := ⟨rfl, rfl, rfl, by decide +kernel, rfl, by decide +kernel, by decide +kernel⟩
theorem ok__law_apart {fa cJob cBadLine cBusy cDry cGoesRound cNoHeap cNoPrinter cNotNow cNoWay cNowhere cOver cTooMuch cTwice cUnknown cHallError : Addr} {fd : FuncData} (F : Fun K "_law_apart" "_law_apart" s__law_apart fa fd) (T : Txt K mg cJob cBadLine cBusy cDry cGoesRound cNoHeap cNoPrinter cNotNow cNoWay cNowhere cOver cTooMuch cTwice cUnknown cHallError) (D_read_job : DfE P w K mg base 6 "read_job" ["line"] (sp_read_job cJob cBadLine)) :
    FnOk P w K mg base CX0 7 fa fd ["_law_line"] (sp__law_apart cJob cBadLine) := by
  refine F.ok sc__law_apart (fun vs H Q E h => ?_) (fun cdv A outer s H vs Q E hr h => ?_)
  · obtain ⟨z, i, rfl, _⟩ := h
    rfl
  obtain ⟨z, i, rfl, hz, er, _, q⟩ := h
  refine ⟨_, (pss_cons (ps_set (i := 1) sc__law_apart.nd rfl (by first | exact Or.inl rfl | exact Or.inr rfl) pe_bl)
  (pss_cons (ps_try top_nox (fun _ _ _ hP hO => by exact (pss_one (ps_expr (pe_callE D_read_job hP (hr.mono (show 6 ≤ 6 by decide)) rfl (pa_cons (pv 0) pa_nil))))) (ph_as (i := 2) rfl T.mg_HallError sc__law_apart.nd rfl rfl (fun _ => by exact (pss_cons (ps_set (i := 1) sc__law_apart.nd rfl (by first | exact Or.inl rfl | exact Or.inr rfl) (pe_and (pe_callB (call_isGK (K := K) rfl) rfl T.isinstance bt_isi (pa_cons (pv 2) (pa_cons (pe_bltn rfl T.ValueError bt_ValueError (rel_ty _)) pa_nil))) (pe_one (pe_not (pe_callB (call_isGTK (K := K) rfl) rfl T.isinstance bt_isi (pa_cons (pv 2) (pa_cons (pe_tup (pa_cons (pe_glob (v := .ref cBusy) rfl T.mg_Busy rfl) (pa_cons (pe_glob (v := .ref cDry) rfl T.mg_Dry rfl) (pa_cons (pe_glob (v := .ref cGoesRound) rfl T.mg_GoesRound rfl) (pa_cons (pe_glob (v := .ref cNoHeap) rfl T.mg_NoHeap rfl) pa_nil))))) pa_nil)))))))
  (pss_cons (ps_set (i := 1) sc__law_apart.nd rfl (by first | exact Or.inl rfl | exact Or.inr rfl) (pe_and (pv 1) (pe_one (pe_not (pe_callB (call_isGTK (K := K) rfl) rfl T.isinstance bt_isi (pa_cons (pv 2) (pa_cons (pe_tup (pa_cons (pe_glob (v := .ref cNoPrinter) rfl T.mg_NoPrinter rfl) (pa_cons (pe_glob (v := .ref cNotNow) rfl T.mg_NotNow rfl) (pa_cons (pe_glob (v := .ref cNoWay) rfl T.mg_NoWay rfl) (pa_cons (pe_glob (v := .ref cNowhere) rfl T.mg_Nowhere rfl) pa_nil))))) pa_nil)))))))
  (pss_one (ps_set (i := 1) sc__law_apart.nd rfl (by first | exact Or.inl rfl | exact Or.inr rfl) (pe_and (pv 1) (pe_one (pe_not (pe_callB (call_isGTK (K := K) rfl) rfl T.isinstance bt_isi (pa_cons (pv 2) (pa_cons (pe_tup (pa_cons (pe_glob (v := .ref cOver) rfl T.mg_Over rfl) (pa_cons (pe_glob (v := .ref cTooMuch) rfl T.mg_TooMuch rfl) (pa_cons (pe_glob (v := .ref cTwice) rfl T.mg_Twice rfl) (pa_cons (pe_glob (v := .ref cUnknown) rfl T.mg_Unknown rfl) pa_nil))))) pa_nil))))))))))) ph_nil))
  (pss_one (ps_ret (pv 1))))), ?_⟩
  have z4 : 4 ≤ sizeLine := small (by decide)
  have no : ∀ j, j < 13 → j ≠ 0 → PySem.W.kitOne K (.ref cBadLine) (.ref ([cBadLine, cBusy, cDry, cGoesRound, cNoHeap, cNoPrinter, cNotNow, cNoWay, cNowhere, cOver, cTooMuch, cTwice, cUnknown].getD j 0)) = some false := fun j hj ne => by
    have := kitTab_two (i := 0) T.kit (show 0 < 13 by decide) hj
    rw [show (0 == j) = false from beq_eq_false_iff_ne.mpr (Ne.symm ne)] at this
    exact this
  refine ⟨_, rfl, z, rfl, hz, fun f e => absurd (er.symm.trans e) (by intro z; cases z), fun j ej ea H1 sm g => ?_⟩
  refine ⟨cBadLine, ea, rfl, rfl, T.x_BadLine.m, T.xq_HallError, true, T.mh_BadLine_HallError, iteT ?_⟩
  refine ⟨_, rfl, ea, _, _, _, true, rfl, g, T.x_BadLine.i, (fun u r => r), kitTab_val (i := 0) T.kit (show 0 < 13 by decide), true, rfl, iteT ?_⟩
  have clr : ∀ a b c d : Addr, ∀ x ∈ [V.ref a, .ref b, .ref c, .ref d], ∀ u, RelV x u → u = clV x := fun a b c d x hx u r => by
    rcases List.mem_cons.mp hx with rfl | hx
    · exact r
    rcases List.mem_cons.mp hx with rfl | hx
    · exact r
    rcases List.mem_cons.mp hx with rfl | hx
    · exact r
    rw [List.mem_singleton.mp hx] at r ⊢
    exact r
  have any4 : ∀ a b c d : Addr, PySem.W.kitOne K (.ref cBadLine) (.ref a) = some false → PySem.W.kitOne K (.ref cBadLine) (.ref b) = some false → PySem.W.kitOne K (.ref cBadLine) (.ref c) = some false → PySem.W.kitOne K (.ref cBadLine) (.ref d) = some false → PySem.W.kitAny K (.ref cBadLine) ([V.ref a, .ref b, .ref c, .ref d].map clV) = some false := fun a b c d h1 h2 h3 h4 => kitAny_no fun x hx => by
    rcases List.mem_cons.mp hx with rfl | hx
    · exact h1
    rcases List.mem_cons.mp hx with rfl | hx
    · exact h2
    rcases List.mem_cons.mp hx with rfl | hx
    · exact h3
    rw [List.mem_singleton.mp hx]
    exact h4
  refine ⟨_, rfl, z4, fun t1 n1 => ?_⟩
  have s1 := same_new n1 (.tup [V.ref cBusy, .ref cDry, .ref cGoesRound, .ref cNoHeap])
  have g1 := g.keep s1
  refine ⟨ea, _, _, t1, _, false, rfl, g1, T.x_BadLine.i, upd_same, clr _ _ _ _, any4 _ _ _ _ (no 1 (by decide) (by decide)) (no 2 (by decide) (by decide)) (no 3 (by decide) (by decide)) (no 4 (by decide) (by decide)), _, rfl, ?_⟩
  generalize upd H1 t1 (.tup [V.ref cBusy, .ref cDry, .ref cGoesRound, .ref cNoHeap]) = H2 at s1 g1 ⊢
  refine ⟨_, rfl, true, rfl, iteT ⟨_, rfl, z4, fun t2 n2 => ?_⟩⟩
  have s2 := same_new n2 (.tup [V.ref cNoPrinter, .ref cNotNow, .ref cNoWay, .ref cNowhere])
  have g2 := g1.keep s2
  refine ⟨ea, _, _, t2, _, false, rfl, g2, T.x_BadLine.i, upd_same, clr _ _ _ _, any4 _ _ _ _ (no 5 (by decide) (by decide)) (no 6 (by decide) (by decide)) (no 7 (by decide) (by decide)) (no 8 (by decide) (by decide)), _, rfl, ?_⟩
  generalize upd H2 t2 (.tup [V.ref cNoPrinter, .ref cNotNow, .ref cNoWay, .ref cNowhere]) = H3 at s2 g2 ⊢
  refine ⟨_, rfl, true, rfl, iteT ⟨_, rfl, z4, fun t3 n3 => ?_⟩⟩
  have s3 := same_new n3 (.tup [V.ref cOver, .ref cTooMuch, .ref cTwice, .ref cUnknown])
  have g3 := g2.keep s3
  refine ⟨ea, _, _, t3, _, false, rfl, g3, T.x_BadLine.i, upd_same, clr _ _ _ _, any4 _ _ _ _ (no 9 (by decide) (by decide)) (no 10 (by decide) (by decide)) (no 11 (by decide) (by decide)) (no 12 (by decide) (by decide)), _, rfl, ?_⟩
  exact ⟨_, rfl, q _ (((sm.trans s1).trans s2).trans s3)⟩
end
end My
namespace My
open PySem L2
open Blk (sg sg_inj sg_app)
section
variable {P : Program} {w : World} {K : PySem.W.Frag} {mg : Str → Option Value} {base : Heap}
def sp_law (K : PySem.W.Frag) : Sp := fun vs H Q _ => ∃ a : Addr, vs = [.ref a] ∧ Scr K H a ∧ ∀ H', Q (.bl true) H'
def WsBy (H : Hp) (p : Addr) (i : Nat) : Prop := ∃ ws : List Str, H p = some (.lst (ws.map V.str)) ∧ ws.length ≤ 12 + i ∧ ∀ w ∈ ws, w.length ≤ 20 + 20 * i
theorem due_of (z : Str) : (∃ i : Nat, readJ z = .error i ∧ dueOf (Txt.split z cBlank) = i) ∨ ∃ n f, readJ z = .ok f ∧ dueOf (Txt.split z cBlank) = -1 ∧ readHead (Txt.split z cBlank) = .ok n ∧ f.name = (Txt.split z cBlank).getD 0 cBlank ∧ f.asker = (Txt.split z cBlank).getD 1 cBlank ∧ f.pages = n := by
  unfold readJ dueOf
  cases e : readHead (Txt.split z cBlank) with
  | error i => exact .inl ⟨i, rfl, rfl⟩
  | ok n =>
    dsimp only
    cases e2 : readTail n ((Txt.split z cBlank).drop 3) 3 [] with
    | error i => exact .inl ⟨i, rfl, rfl⟩
    | ok t => exact .inr ⟨n, _, rfl, rfl, rfl, rfl, rfl, rfl⟩
theorem iteNE {c A B : Prop} [Decidable c] (hc : c) (h : B) : if (!decide c) = true then A else B := by
  rw [decide_eq_true hc]
  exact h
theorem sc_law : FnScope ["_law_script", "_law_job", "_law_words_here", "_law_j", "_law_line", "_law_due", "_law_place", "_law_found", "e"] ["_law_script"] (defScope s_law) := ⟨rfl, rfl, rfl, by decide +kernel, rfl, by decide +kernel, by decide +kernel⟩
theorem ok_law {fa cJob cBadLine cBusy cDry cGoesRound cNoHeap cNoPrinter cNotNow cNoWay cNowhere cOver cTooMuch cTwice cUnknown cHallError : Addr} {fd : FuncData} (F : Fun K "law" "law" s_law fa fd) (T : Txt K mg cJob cBadLine cBusy cDry cGoesRound cNoHeap cNoPrinter cNotNow cNoWay cNowhere cOver cTooMuch cTwice cUnknown cHallError) (D__law_values : Dfn P w K mg base 4 "_law_values" ["_law_script", "_law_k"] (sp__law_values K)) (D__law_words : Dfn P w K mg base 1 "_law_words" ["_law_job"] (sp__law_words K)) (D__law_parted : Dfn P w K mg base 1 "_law_parted" ["_law_line"] (sp__law_parted K)) (D__law_wrong : Dfn P w K mg base 3 "_law_wrong" ["_law_words_here"] (sp__law_wrong K)) (D_read_job : DfE P w K mg base 6 "read_job" ["line"] (sp_read_job cJob cBadLine)) (D__law_apart : Dfn P w K mg base 7 "_law_apart" ["_law_line"] (sp__law_apart cJob cBadLine)) (D__law_number : Dfn P w K mg base 1 "_law_number" ["_law_word"] (sp__law_number K)) (D__law_by : Dfn P w K mg base 2 "_law_by" ["_law_script", "_law_k", "_law_many"] (sp__law_by K)) (D__law_spoilt : Dfn P w K mg base 4 "_law_spoilt" ["_law_script", "_law_k", "_law_words_here"] (sp__law_spoilt K)) :
    FnOk P w K mg base CX0 8 fa fd ["_law_script"] (sp_law K) := by
  refine F.ok sc_law (fun vs H Q E h => ?_) (fun cdv A outer s H vs Q E hr h => ?_)
  · obtain ⟨a, rfl, _⟩ := h
    rfl
  obtain ⟨a, rfl, hS, q⟩ := h
  have hu0 := hr.units0
  refine ⟨_, (pss_cons (ps_set (i := 1) sc_law.nd rfl (by first | exact Or.inl rfl | exact Or.inr rfl) (pe_callD D__law_values (hr.mono (by decide)) rfl (pa_cons (pv 0) (pa_cons pe_int pa_nil))))
  (pss_cons (ps_set (i := 2) sc_law.nd rfl (by first | exact Or.inl rfl | exact Or.inr rfl) (pe_callD D__law_words (hr.mono (by decide)) rfl (pa_cons (pv 1) pa_nil)))
  (pss_cons (ps_for PassesOwn.never rfl (pi_range1 rfl T.range (pa_cons (pe_op op_add pe_int (pe_callD D__law_by (hr.mono (by decide)) rfl (pa_cons (pv 0) (pa_cons pe_int (pa_cons pe_int pa_nil))))) pa_nil)) (pg_name (i := 3) sc_law.nd rfl (by first | exact Or.inl rfl | exact Or.inr rfl))
  (pss_one (ps_if (pt_cmpR op_gt (pe_callB call_len_seq rfl T.len PySem.boot_len (pa_cons (pv 2) pa_nil)) pe_int (nomark _)) (pss_one (ps_set (i := 2) sc_law.nd rfl (by first | exact Or.inl rfl | exact Or.inr rfl) (pe_callD D__law_spoilt (hr.mono (by decide)) rfl (pa_cons (pv 0) (pa_cons (pe_op op_add pe_int (pe_op op_mul pe_int (pv 3))) (pa_cons (pv 2) pa_nil)))))) pss_nil)))
  (pss_cons (ps_set (i := 4) sc_law.nd rfl (by first | exact Or.inl rfl | exact Or.inr rfl) (pe_bm PySem.F.plainAttrs_str PySem.F.slot_str_join PySem.F.type_str_join mt_join pe_str (pa_cons (pv 2) pa_nil)))
  (pss_cons (ps_set (i := 2) sc_law.nd rfl (by first | exact Or.inl rfl | exact Or.inr rfl) (pe_callD D__law_parted (hr.mono (by decide)) rfl (pa_cons (pv 4) pa_nil)))
  (pss_cons (ps_set (i := 5) sc_law.nd rfl (by first | exact Or.inl rfl | exact Or.inr rfl) (pe_callD D__law_wrong (hr.mono (by decide)) rfl (pa_cons (pv 2) pa_nil)))
  (pss_cons (ps_set (i := 6) sc_law.nd rfl (by first | exact Or.inl rfl | exact Or.inr rfl) (pe_un un_neg pe_int))
  (pss_cons (ps_set (i := 7) sc_law.nd rfl (by first | exact Or.inl rfl | exact Or.inr rfl) pe_non)
  (pss_cons (ps_try top_nox (fun _ _ _ hP hO => by exact (pss_one (ps_set (i := 7) sc_law.nd rfl (by first | exact Or.inl rfl | exact Or.inr rfl) (pe_callE D_read_job hP (hr.mono (show 6 ≤ 7 by decide)) rfl (pa_cons (pv 4) pa_nil))))) (ph_as (i := 8) rfl T.mg_BadLine sc_law.nd rfl rfl (fun _ => by exact (pss_one (ps_set (i := 6) sc_law.nd rfl (by first | exact Or.inl rfl | exact Or.inr rfl) (pe_fldGK (K := K) rfl (pv 8) rfl)))) ph_nil))
  (pss_cons (ps_if (PW.pt (pw_or (pt_not (pt_truth (pe_callB call_isi rfl T.isinstance bt_isi (pa_cons (pv 6) (pa_cons (pe_bltn rfl T.int bt_int (rel_ty _)) pa_nil))) (fun _ => rfl))) (pw_or (pt_truth (pe_callB call_isi rfl T.isinstance bt_isi (pa_cons (pv 6) (pa_cons (pe_bltn rfl T.bool bt_bool (rel_ty _)) pa_nil))) (fun _ => rfl)) (pw_or1 (pt_cmpR op_ne (pv 6) (pv 5) (nomark _)))))) (pss_one (ps_ret pe_bl)) pss_nil)
  (pss_cons (ps_if (pt_cmpR op_ge (pv 5) pe_int (nomark _)) (pss_one (ps_ret (pe_callD D__law_apart (hr.mono (by decide)) rfl (pa_cons (pv 4) pa_nil)))) pss_nil)
  (pss_cons (ps_if (PW.pt (pw_or (pt_cmpR op_ne (pe_fld (pv 7) rfl) (pe_ix ix_list (pv 2) pe_int (fun _ _ => rfl)) (nomark _)) (pw_or1 (pt_cmpR op_ne (pe_fld (pv 7) rfl) (pe_ix ix_list (pv 2) pe_int (fun _ _ => rfl)) (nomark _))))) (pss_one (ps_ret pe_bl)) pss_nil)
  (pss_one (ps_ret (pe_cmpR op_eq (pe_fld (pv 7) rfl) (pe_callD D__law_number (hr.mono (by decide)) rfl (pa_cons (pe_ix ix_list (pv 2) pe_int (fun _ _ => rfl)) pa_nil)) (nomark _)))))))))))))))), ?_⟩
  refine ⟨_, rfl, a, 0, rfl, hS, by decide, by decide, fun t j H1 s1 J due => ?_⟩
  refine ⟨_, rfl, t, j, rfl, J, due, fun p H2 s2 W => ?_⟩
  have S2 := hS.same (s1.trans s2)
  refine ⟨_, rfl, a, 50, 2, rfl, S2, by decide, by decide, by decide, fun r r0 r1 => ?_⟩
  have W2 : WsBy H2 p 0 := by
    obtain ⟨ws, w1, _, w3, w4⟩ := W
    exact ⟨ws, w1, w3, w4⟩
  have lr : (1 + r).toNat ≤ 2 := by omega
  refine ⟨_, _, rfl, rfl, _, rfl, by omega, by omega, for_range (fun i σ G => Same H G ∧ ∃ p, WsBy G p i ∧ ∃ v3, σ = [some (.ref a), some (.ref t), some (.ref p), v3, none, none, none, none, none]) ⟨s1.trans s2, p, W2, _, rfl⟩ (fun i σ G hi zz => ?_) (fun σ G zz => ?_)⟩
  · obtain ⟨sm, p, ⟨ws, h1, h2, h3⟩, v3, rfl⟩ := zz
    have li : i ≤ 1 := by omega
    refine ⟨_, rfl, p, _, rfl, .inl (SqL.of h1), _, _, rfl, rfl, _, rfl, ?_⟩
    rw [List.length_map]
    by_cases c : ws.length = 0
    · rw [decide_eq_false (show ¬ (0 : Int) < (ws.length : Nat) by omega)]
      exact iteF ⟨sm, p, ⟨ws, h1, by omega, fun w hw => by have := h3 w hw; omega⟩, _, rfl⟩
    · rw [decide_eq_true (show (0 : Int) < (ws.length : Nat) by omega)]
      refine iteT ⟨_, rfl, _, rfl, _, _, rfl, rfl, .inl ⟨by decide, by decide⟩, _, _, rfl, rfl, _, rfl, a, _, p, ws, 20 + 20 * i, rfl, hS.same sm, by omega, by omega, h1, by omega, by omega, h3, by omega, by omega, fun p' ws' H' s' k1 k2 k3 => ?_⟩
      exact ⟨sm.trans s', p', ⟨ws', k1, by omega, fun w hw => by have := k3 w hw; omega⟩, _, rfl⟩
  obtain ⟨sm, p, ⟨ws, h1, h2, h3⟩, v3, rfl⟩ := zz
  clear W W2
  have lb : cBlank.length = 1 := by decide +kernel
  have h3 : ∀ w ∈ ws, w.length ≤ 60 := fun w hw => by have := h3 w hw; omega
  have jok : JoinOk cBlank ws = true := by
    unfold JoinOk
    rw [Bool.not_eq_true']
    exact StrLaws.joinFits (B := 60) h3 (by rw [lb]; omega)
  have ll : (Txt.join cBlank ws).length ≤ 900 := by
    have e : (Txt.join cBlank ws).length = (ws.map (·.length)).sum + (ws.length - 1) * cBlank.length := PySem.size_glued _ _
    have := sum_le h3
    rw [e, lb]
    omega
  refine ⟨rfl, _, rfl, _, p, ws, rfl, rfl, SqL.of h1, jok, ?_⟩
  generalize Txt.join cBlank ws = z at ll ⊢
  refine ⟨_, rfl, z, rfl, ll, fun pw H3 s3 hw => ?_⟩
  have wl : ∀ w ∈ Txt.split z cBlank, w.length ≤ 900 := fun w hw => Nat.le_trans (split_part_le z cBlank w hw) ll
  have wn : (Txt.split z cBlank).length ≤ 902 := by
    have := PyProof.Rows.split_le z cBlank
    omega
  refine ⟨_, rfl, pw, _, rfl, hw, wl, wn, fun H4 s4 => ?_⟩
  refine ⟨1, rfl, ?_⟩
  rcases due_of z with ⟨i, ej, ed⟩ | ⟨n, f, ej, ed, eh, en, ea, ep⟩
  · rw [ed]
    refine ⟨_, rfl, z, rfl, ll, fun f ef => absurd (ej.symm.trans ef) (by intro z; cases z), fun i' ei ea H5 s5 g => ?_⟩
    obtain rfl : i = i' := by
      have := ej.symm.trans ei
      injection this
    refine ⟨cBadLine, ea, rfl, rfl, T.x_BadLine.m, T.x_BadLine.m, true, T.mh_BadLine_BadLine, iteT ?_⟩
    refine ⟨_, rfl, ea, _, _, _, rfl, g, T.x_BadLine.i.c, T.x_BadLine.n _ (.head _), rfl, ?_⟩
    refine ⟨_, rfl, _, _, _, true, rfl, TyOf.int _, kit_same _, true, rfl, iteF ?_⟩
    refine ⟨_, rfl, _, _, _, false, rfl, TyOf.int _, kit_int_bool _, false, rfl, iteF ?_⟩
    refine ⟨_, rfl, _, rfl, rfl, _, rfl, ?_⟩
    refine iteNE rfl ?_
    refine ⟨_, rfl, _, _, rfl, rfl, _, rfl, iteYes (by omega) ?_⟩
    exact ⟨_, rfl, z, i, rfl, ll, ej, rfl, fun H6 s6 => q H6⟩
  · rw [ed]
    obtain ⟨wa, wb, wc, wr, ew, _, _, hn⟩ := head_ok eh
    rw [ew] at en ea hw wl
    refine ⟨_, rfl, z, rfl, ll, fun f' ef x H5 s5 JA => ?_, fun i' ei => absurd (ej.symm.trans ei) (by intro z; cases z)⟩
    obtain rfl : f = f' := by
      have := ej.symm.trans ef
      injection this
    refine ⟨_, rfl, _, _, _, true, rfl, TyOf.int _, kit_same _, true, rfl, iteF ?_⟩
    refine ⟨_, rfl, _, _, _, false, rfl, TyOf.int _, kit_int_bool _, false, rfl, iteF ?_⟩
    refine ⟨_, rfl, _, rfl, rfl, _, rfl, ?_⟩
    refine iteNE rfl ?_
    refine ⟨_, rfl, _, _, rfl, rfl, _, rfl, iteNo (by decide) ?_⟩
    obtain ⟨dx, pa, w1, w2, w3, w4, w5, w6, as, hJ, _⟩ := JA.ex
    have hw5 := s5 _ _ (s4 _ _ hw)
    have nn : numL wc = n := by
      rw [numL_in wc 1 999 (by decide)] at hn
      by_cases c : 1 ≤ numL wc ∧ numL wc ≤ 999
      · rw [if_pos c] at hn
        injection hn
      · rw [if_neg c] at hn
        cases hn
    refine ⟨_, rfl, x, _, _, _, _, rfl, hJ, T.cl_Job, T.n_Job_name, rfl, _, rfl, pw, _, _, _, rfl, rfl, SqL.of hw5, atI_nat (j := 0) rfl, rfl, _, rfl, ?_⟩
    refine iteNE (by rw [en]; rfl) ?_
    refine ⟨_, rfl, x, _, _, _, _, rfl, hJ, T.cl_Job, T.n_Job_asker, rfl, _, rfl, pw, _, _, _, rfl, rfl, SqL.of hw5, atI_nat (j := 1) rfl, rfl, _, rfl, ?_⟩
    refine iteNE (by rw [ea]; rfl) ?_
    refine ⟨_, rfl, x, _, _, _, _, rfl, hJ, T.cl_Job, T.n_Job_pages, rfl, _, rfl, pw, _, _, _, rfl, rfl, SqL.of hw5, atI_nat (j := 2) rfl, wc, rfl, wl wc (by simp), rfl, ?_⟩
    rw [ep, nn, decide_eq_true rfl]
    exact q _
end
end My
namespace PySem.W.Fast
theorem tw10639810405569498804:True:=⟨⟩
theorem tw17827710892464164187:True:=⟨⟩
theorem tw17281726293169421903:True:=⟨⟩
theorem tw1618455538148520126:True:=⟨⟩
theorem tw303676967035948357:True:=⟨⟩
theorem tw5825150458771647178:True:=⟨⟩
theorem tw9155979539213797726:True:=⟨⟩
theorem tw9505065645036085069:True:=⟨⟩
theorem tw1895065345430841170:True:=⟨⟩
theorem tw12354574842751537855:True:=⟨⟩
theorem tw5506751779771887641:True:=⟨⟩
theorem tw7247627709299084923:True:=⟨⟩
theorem tw16413340057295768387:True:=⟨⟩
theorem tw7260493809159393951:True:=⟨⟩
theorem tw13334821616081601688:True:=⟨⟩
theorem tw4376299900330181422:True:=⟨⟩
theorem tw6826201111167162495:True:=⟨⟩
theorem tw6154390604068438486:True:=⟨⟩
theorem tw9205015933309422706:True:=⟨⟩
theorem tw3111073366891300973:True:=⟨⟩
theorem tw11362647879208727377:True:=⟨⟩
end PySem.W.Fast
namespace My
open PySem L2
theorem bn1 {p : List Value → Prop} (h : ∀ a0 : Value, p [a0]) (us : List Value) (l : us.length = 1) : p us := match us, l with | [a0], _ => h a0
theorem bn2 {p : List Value → Prop} (h : ∀ a0 a1 : Value, p [a0, a1]) (us : List Value) (l : us.length = 2) : p us := match us, l with | [a0, a1], _ => h a0 a1
theorem bn3 {p : List Value → Prop} (h : ∀ a0 a1 a2 : Value, p [a0, a1, a2]) (us : List Value) (l : us.length = 3) : p us := match us, l with | [a0, a1, a2], _ => h a0 a1 a2
theorem bn11 {p : List Value → Prop} (h : ∀ a0 a1 a2 a3 a4 a5 a6 a7 a8 a9 a10 : Value, p [a0, a1, a2, a3, a4, a5, a6, a7, a8, a9, a10]) (us : List Value) (l : us.length = 11) : p us := match us, l with | [a0, a1, a2, a3, a4, a5, a6, a7, a8, a9, a10], _ => h a0 a1 a2 a3 a4 a5 a6 a7 a8 a9 a10
theorem all_mk {l : PySem.W.OpenLaw} {w : World} {K : PySem.W.Frag} {h : Heap} {mg : Str → Option Value} {fa cJob cBadLine cBusy cDry cGoesRound cNoHeap cNoPrinter cNotNow cNoWay cNowhere cOver cTooMuch cTwice cUnknown cHallError f0 f1 f2 f3 f4 f5 f6 f7 f8 f9 f10 f11 f12 f13 f14 f15 f16 f17 f18 f19 f20 f21 f22 f23 f24 f25 f26 f27 f28 f29 : Addr} (X : K.In h) (G : h.Ns mainGlobals mg) (hfa : mg "law" = some (.ref fa))
    {od0 an0 od1 an1 od2 an2 od3 an3 od4 an4 od5 an5 od6 an6 od7 an7 od8 an8 od9 an9 od10 an10 od11 an11 od12 an12 od13 an13 od14 an14 od15 an15 od16 an16 od17 an17 od18 an18 od19 an19 od20 an20 od21 an21 od22 an22 od23 an23 od24 an24 od25 an25 od26 an26 od27 an27 od28 an28 od29 an29 : Option Addr} {sl0 sl1 sl2 sl3 sl4 sl5 sl6 sl7 sl8 sl9 sl10 sl11 sl12 sl13 sl14 sl15 sl16 sl17 sl18 sl19 sl20 sl21 sl22 sl23 sl24 sl25 sl26 sl27 sl28 sl29 : Array (Option Value)}
    {oc0 kV0 dc0 pm0 cd0 ct0 oc1 kV1 dc1 pm1 cd1 ct1 oc2 kV2 dc2 pm2 cd2 ct2 oc3 kV3 dc3 pm3 cd3 ct3 oc4 kV4 dc4 pm4 cd4 ct4 oc5 kV5 dc5 pm5 cd5 ct5 oc6 kV6 dc6 pm6 cd6 ct6 oc7 kV7 dc7 pm7 cd7 ct7 oc8 kV8 dc8 pm8 cd8 ct8 oc9 kV9 dc9 pm9 cd9 ct9 oc10 kV10 dc10 pm10 cd10 ct10 oc11 kV11 dc11 pm11 cd11 ct11 oc12 kV12 dc12 pm12 cd12 ct12 oc13 kV13 dc13 pm13 cd13 ct13 oc14 kV14 dc14 pm14 cd14 ct14 oc15 kV15 dc15 pm15 cd15 ct15 oc16 kV16 dc16 pm16 cd16 ct16 oc17 kV17 dc17 pm17 cd17 ct17 oc18 kV18 dc18 pm18 cd18 ct18 oc19 kV19 dc19 pm19 cd19 ct19 oc20 kV20 dc20 pm20 cd20 ct20 oc21 kV21 dc21 pm21 cd21 ct21 oc22 kV22 dc22 pm22 cd22 ct22 oc23 kV23 dc23 pm23 cd23 ct23 oc24 kV24 dc24 pm24 cd24 ct24 oc25 kV25 dc25 pm25 cd25 ct25 oc26 kV26 dc26 pm26 cd26 ct26 oc27 kV27 dc27 pm27 cd27 ct27 oc28 kV28 dc28 pm28 cd28 ct28 oc29 kV29 dc29 pm29 cd29 ct29 : Value}
    (aC_Job : PySem.W.nsIn K mainGlobals "Job" = some (some (.ref cJob)))
    (aC_BadLine : PySem.W.nsIn K mainGlobals "BadLine" = some (some (.ref cBadLine)))
    (aC_Busy : PySem.W.nsIn K mainGlobals "Busy" = some (some (.ref cBusy)))
    (aC_Dry : PySem.W.nsIn K mainGlobals "Dry" = some (some (.ref cDry)))
    (aC_GoesRound : PySem.W.nsIn K mainGlobals "GoesRound" = some (some (.ref cGoesRound)))
    (aC_NoHeap : PySem.W.nsIn K mainGlobals "NoHeap" = some (some (.ref cNoHeap)))
    (aC_NoPrinter : PySem.W.nsIn K mainGlobals "NoPrinter" = some (some (.ref cNoPrinter)))
    (aC_NotNow : PySem.W.nsIn K mainGlobals "NotNow" = some (some (.ref cNotNow)))
    (aC_NoWay : PySem.W.nsIn K mainGlobals "NoWay" = some (some (.ref cNoWay)))
    (aC_Nowhere : PySem.W.nsIn K mainGlobals "Nowhere" = some (some (.ref cNowhere)))
    (aC_Over : PySem.W.nsIn K mainGlobals "Over" = some (some (.ref cOver)))
    (aC_TooMuch : PySem.W.nsIn K mainGlobals "TooMuch" = some (some (.ref cTooMuch)))
    (aC_Twice : PySem.W.nsIn K mainGlobals "Twice" = some (some (.ref cTwice)))
    (aC_Unknown : PySem.W.nsIn K mainGlobals "Unknown" = some (some (.ref cUnknown)))
    (aC_HallError : PySem.W.nsIn K mainGlobals "HallError" = some (some (.ref cHallError)))
    (a0 : PySem.W.findIn K (.ref cBadLine) "__init__" = some (some (.ref f0)))
    (i0 : PySem.W.isFn K (.ref f0) = true)
    (l0 : K.lookup f0 = some ⟨oc0, od0, .func (PySem.W.fnOf "__init__" "BadLine.__init__" (defArgs s_BadLine_init) (defBody s_BadLine_init) (defScope s_BadLine_init) .none kV0 dc0 pm0 an0 cd0 ct0), sl0⟩)
    (c0 : PySem.W.codeIn K cd0 "BadLine.__init__" = true)
    (k0 : PySem.W.keepIn K (.ref f0) = true)
    (a1 : PySem.W.nsIn K mainGlobals "words_of" = some (some (.ref f1)))
    (l1 : K.lookup f1 = some ⟨oc1, od1, .func (PySem.W.fnOf "words_of" "words_of" (defArgs s_words_of) (defBody s_words_of) (defScope s_words_of) .none kV1 dc1 pm1 an1 cd1 ct1), sl1⟩)
    (c1 : PySem.W.codeIn K cd1 "words_of" = true)
    (k1 : PySem.W.keepIn K (.ref f1) = true)
    (a2 : PySem.W.nsIn K mainGlobals "made_of" = some (some (.ref f2)))
    (l2 : K.lookup f2 = some ⟨oc2, od2, .func (PySem.W.fnOf "made_of" "made_of" (defArgs s_made_of) (defBody s_made_of) (defScope s_made_of) .none kV2 dc2 pm2 an2 cd2 ct2), sl2⟩)
    (c2 : PySem.W.codeIn K cd2 "made_of" = true)
    (k2 : PySem.W.keepIn K (.ref f2) = true)
    (a3 : PySem.W.nsIn K mainGlobals "is_name" = some (some (.ref f3)))
    (l3 : K.lookup f3 = some ⟨oc3, od3, .func (PySem.W.fnOf "is_name" "is_name" (defArgs s_is_name) (defBody s_is_name) (defScope s_is_name) .none kV3 dc3 pm3 an3 cd3 ct3), sl3⟩)
    (c3 : PySem.W.codeIn K cd3 "is_name" = true)
    (k3 : PySem.W.keepIn K (.ref f3) = true)
    (a4 : PySem.W.nsIn K mainGlobals "is_number" = some (some (.ref f4)))
    (l4 : K.lookup f4 = some ⟨oc4, od4, .func (PySem.W.fnOf "is_number" "is_number" (defArgs s_is_number) (defBody s_is_number) (defScope s_is_number) .none kV4 dc4 pm4 an4 cd4 ct4), sl4⟩)
    (c4 : PySem.W.codeIn K cd4 "is_number" = true)
    (k4 : PySem.W.keepIn K (.ref f4) = true)
    (a5 : PySem.W.nsIn K mainGlobals "number_in" = some (some (.ref f5)))
    (l5 : K.lookup f5 = some ⟨oc5, od5, .func (PySem.W.fnOf "number_in" "number_in" (defArgs s_number_in) (defBody s_number_in) (defScope s_number_in) .none kV5 dc5 pm5 an5 cd5 ct5), sl5⟩)
    (c5 : PySem.W.codeIn K cd5 "number_in" = true)
    (k5 : PySem.W.keepIn K (.ref f5) = true)
    (a6 : PySem.W.nsIn K mainGlobals "is_layout" = some (some (.ref f6)))
    (l6 : K.lookup f6 = some ⟨oc6, od6, .func (PySem.W.fnOf "is_layout" "is_layout" (defArgs s_is_layout) (defBody s_is_layout) (defScope s_is_layout) .none kV6 dc6 pm6 an6 cd6 ct6), sl6⟩)
    (c6 : PySem.W.codeIn K cd6 "is_layout" = true)
    (k6 : PySem.W.keepIn K (.ref f6) = true)
    (a7 : PySem.W.findIn K (.ref cJob) "__init__" = some (some (.ref f7)))
    (i7 : PySem.W.isFn K (.ref f7) = true)
    (l7 : K.lookup f7 = some ⟨oc7, od7, .func (PySem.W.fnOf "__init__" "Job.__init__" (defArgs s_Job_init) (defBody s_Job_init) (defScope s_Job_init) .none kV7 dc7 pm7 an7 cd7 ct7), sl7⟩)
    (c7 : PySem.W.codeIn K cd7 "Job.__init__" = true)
    (k7 : PySem.W.keepIn K (.ref f7) = true)
    (a8 : PySem.W.nsIn K mainGlobals "read_job" = some (some (.ref f8)))
    (l8 : K.lookup f8 = some ⟨oc8, od8, .func (PySem.W.fnOf "read_job" "read_job" (defArgs s_read_job) (defBody s_read_job) (defScope s_read_job) .none kV8 dc8 pm8 an8 cd8 ct8), sl8⟩)
    (c8 : PySem.W.codeIn K cd8 "read_job" = true)
    (k8 : PySem.W.keepIn K (.ref f8) = true)
    (a9 : PySem.W.nsIn K mainGlobals "read_head" = some (some (.ref f9)))
    (l9 : K.lookup f9 = some ⟨oc9, od9, .func (PySem.W.fnOf "read_head" "read_head" (defArgs s_read_head) (defBody s_read_head) (defScope s_read_head) .none kV9 dc9 pm9 an9 cd9 ct9), sl9⟩)
    (c9 : PySem.W.codeIn K cd9 "read_head" = true)
    (k9 : PySem.W.keepIn K (.ref f9) = true)
    (a10 : PySem.W.nsIn K mainGlobals "value_of" = some (some (.ref f10)))
    (l10 : K.lookup f10 = some ⟨oc10, od10, .func (PySem.W.fnOf "value_of" "value_of" (defArgs s_value_of) (defBody s_value_of) (defScope s_value_of) .none kV10 dc10 pm10 an10 cd10 ct10), sl10⟩)
    (c10 : PySem.W.codeIn K cd10 "value_of" = true)
    (k10 : PySem.W.keepIn K (.ref f10) = true)
    (a11 : PySem.W.nsIn K mainGlobals "sort_of" = some (some (.ref f11)))
    (l11 : K.lookup f11 = some ⟨oc11, od11, .func (PySem.W.fnOf "sort_of" "sort_of" (defArgs s_sort_of) (defBody s_sort_of) (defScope s_sort_of) .none kV11 dc11 pm11 an11 cd11 ct11), sl11⟩)
    (c11 : PySem.W.codeIn K cd11 "sort_of" = true)
    (k11 : PySem.W.keepIn K (.ref f11) = true)
    (a12 : PySem.W.nsIn K mainGlobals "read_colour" = some (some (.ref f12)))
    (l12 : K.lookup f12 = some ⟨oc12, od12, .func (PySem.W.fnOf "read_colour" "read_colour" (defArgs s_read_colour) (defBody s_read_colour) (defScope s_read_colour) .none kV12 dc12 pm12 an12 cd12 ct12), sl12⟩)
    (c12 : PySem.W.codeIn K cd12 "read_colour" = true)
    (k12 : PySem.W.keepIn K (.ref f12) = true)
    (a13 : PySem.W.nsIn K mainGlobals "told_job" = some (some (.ref f13)))
    (l13 : K.lookup f13 = some ⟨oc13, od13, .func (PySem.W.fnOf "told_job" "told_job" (defArgs s_told_job) (defBody s_told_job) (defScope s_told_job) .none kV13 dc13 pm13 an13 cd13 ct13), sl13⟩)
    (c13 : PySem.W.codeIn K cd13 "told_job" = true)
    (k13 : PySem.W.keepIn K (.ref f13) = true)
    (a14 : PySem.W.nsIn K mainGlobals "_law_cell_at" = some (some (.ref f14)))
    (l14 : K.lookup f14 = some ⟨oc14, od14, .func (PySem.W.fnOf "_law_cell_at" "_law_cell_at" (defArgs s__law_cell_at) (defBody s__law_cell_at) (defScope s__law_cell_at) .none kV14 dc14 pm14 an14 cd14 ct14), sl14⟩)
    (c14 : PySem.W.codeIn K cd14 "_law_cell_at" = true)
    (k14 : PySem.W.keepIn K (.ref f14) = true)
    (a15 : PySem.W.nsIn K mainGlobals "_law_by" = some (some (.ref f15)))
    (l15 : K.lookup f15 = some ⟨oc15, od15, .func (PySem.W.fnOf "_law_by" "_law_by" (defArgs s__law_by) (defBody s__law_by) (defScope s__law_by) .none kV15 dc15 pm15 an15 cd15 ct15), sl15⟩)
    (c15 : PySem.W.codeIn K cd15 "_law_by" = true)
    (k15 : PySem.W.keepIn K (.ref f15) = true)
    (a16 : PySem.W.nsIn K mainGlobals "_law_sign" = some (some (.ref f16)))
    (l16 : K.lookup f16 = some ⟨oc16, od16, .func (PySem.W.fnOf "_law_sign" "_law_sign" (defArgs s__law_sign) (defBody s__law_sign) (defScope s__law_sign) .none kV16 dc16 pm16 an16 cd16 ct16), sl16⟩)
    (c16 : PySem.W.codeIn K cd16 "_law_sign" = true)
    (k16 : PySem.W.keepIn K (.ref f16) = true)
    (a17 : PySem.W.nsIn K mainGlobals "_law_names" = some (some (.ref f17)))
    (l17 : K.lookup f17 = some ⟨oc17, od17, .func (PySem.W.fnOf "_law_names" "_law_names" (defArgs s__law_names) (defBody s__law_names) (defScope s__law_names) .none kV17 dc17 pm17 an17 cd17 ct17), sl17⟩)
    (c17 : PySem.W.codeIn K cd17 "_law_names" = true)
    (k17 : PySem.W.keepIn K (.ref f17) = true)
    (a18 : PySem.W.nsIn K mainGlobals "_law_values" = some (some (.ref f18)))
    (l18 : K.lookup f18 = some ⟨oc18, od18, .func (PySem.W.fnOf "_law_values" "_law_values" (defArgs s__law_values) (defBody s__law_values) (defScope s__law_values) .none kV18 dc18 pm18 an18 cd18 ct18), sl18⟩)
    (c18 : PySem.W.codeIn K cd18 "_law_values" = true)
    (k18 : PySem.W.keepIn K (.ref f18) = true)
    (a19 : PySem.W.nsIn K mainGlobals "_law_words" = some (some (.ref f19)))
    (l19 : K.lookup f19 = some ⟨oc19, od19, .func (PySem.W.fnOf "_law_words" "_law_words" (defArgs s__law_words) (defBody s__law_words) (defScope s__law_words) .none kV19 dc19 pm19 an19 cd19 ct19), sl19⟩)
    (c19 : PySem.W.codeIn K cd19 "_law_words" = true)
    (k19 : PySem.W.keepIn K (.ref f19) = true)
    (a20 : PySem.W.nsIn K mainGlobals "_law_odd" = some (some (.ref f20)))
    (l20 : K.lookup f20 = some ⟨oc20, od20, .func (PySem.W.fnOf "_law_odd" "_law_odd" (defArgs s__law_odd) (defBody s__law_odd) (defScope s__law_odd) .none kV20 dc20 pm20 an20 cd20 ct20), sl20⟩)
    (c20 : PySem.W.codeIn K cd20 "_law_odd" = true)
    (k20 : PySem.W.keepIn K (.ref f20) = true)
    (a21 : PySem.W.nsIn K mainGlobals "_law_noughts" = some (some (.ref f21)))
    (l21 : K.lookup f21 = some ⟨oc21, od21, .func (PySem.W.fnOf "_law_noughts" "_law_noughts" (defArgs s__law_noughts) (defBody s__law_noughts) (defScope s__law_noughts) .none kV21 dc21 pm21 an21 cd21 ct21), sl21⟩)
    (c21 : PySem.W.codeIn K cd21 "_law_noughts" = true)
    (k21 : PySem.W.keepIn K (.ref f21) = true)
    (a22 : PySem.W.nsIn K mainGlobals "_law_spoilt" = some (some (.ref f22)))
    (l22 : K.lookup f22 = some ⟨oc22, od22, .func (PySem.W.fnOf "_law_spoilt" "_law_spoilt" (defArgs s__law_spoilt) (defBody s__law_spoilt) (defScope s__law_spoilt) .none kV22 dc22 pm22 an22 cd22 ct22), sl22⟩)
    (c22 : PySem.W.codeIn K cd22 "_law_spoilt" = true)
    (k22 : PySem.W.keepIn K (.ref f22) = true)
    (a23 : PySem.W.nsIn K mainGlobals "_law_is_name" = some (some (.ref f23)))
    (l23 : K.lookup f23 = some ⟨oc23, od23, .func (PySem.W.fnOf "_law_is_name" "_law_is_name" (defArgs s__law_is_name) (defBody s__law_is_name) (defScope s__law_is_name) .none kV23 dc23 pm23 an23 cd23 ct23), sl23⟩)
    (c23 : PySem.W.codeIn K cd23 "_law_is_name" = true)
    (k23 : PySem.W.keepIn K (.ref f23) = true)
    (a24 : PySem.W.nsIn K mainGlobals "_law_number" = some (some (.ref f24)))
    (l24 : K.lookup f24 = some ⟨oc24, od24, .func (PySem.W.fnOf "_law_number" "_law_number" (defArgs s__law_number) (defBody s__law_number) (defScope s__law_number) .none kV24 dc24 pm24 an24 cd24 ct24), sl24⟩)
    (c24 : PySem.W.codeIn K cd24 "_law_number" = true)
    (k24 : PySem.W.keepIn K (.ref f24) = true)
    (a25 : PySem.W.nsIn K mainGlobals "_law_sort" = some (some (.ref f25)))
    (l25 : K.lookup f25 = some ⟨oc25, od25, .func (PySem.W.fnOf "_law_sort" "_law_sort" (defArgs s__law_sort) (defBody s__law_sort) (defScope s__law_sort) .none kV25 dc25 pm25 an25 cd25 ct25), sl25⟩)
    (c25 : PySem.W.codeIn K cd25 "_law_sort" = true)
    (k25 : PySem.W.keepIn K (.ref f25) = true)
    (a26 : PySem.W.nsIn K mainGlobals "_law_wrong" = some (some (.ref f26)))
    (l26 : K.lookup f26 = some ⟨oc26, od26, .func (PySem.W.fnOf "_law_wrong" "_law_wrong" (defArgs s__law_wrong) (defBody s__law_wrong) (defScope s__law_wrong) .none kV26 dc26 pm26 an26 cd26 ct26), sl26⟩)
    (c26 : PySem.W.codeIn K cd26 "_law_wrong" = true)
    (k26 : PySem.W.keepIn K (.ref f26) = true)
    (a27 : PySem.W.nsIn K mainGlobals "_law_apart" = some (some (.ref f27)))
    (l27 : K.lookup f27 = some ⟨oc27, od27, .func (PySem.W.fnOf "_law_apart" "_law_apart" (defArgs s__law_apart) (defBody s__law_apart) (defScope s__law_apart) .none kV27 dc27 pm27 an27 cd27 ct27), sl27⟩)
    (c27 : PySem.W.codeIn K cd27 "_law_apart" = true)
    (k27 : PySem.W.keepIn K (.ref f27) = true)
    (a28 : PySem.W.nsIn K mainGlobals "_law_parted" = some (some (.ref f28)))
    (l28 : K.lookup f28 = some ⟨oc28, od28, .func (PySem.W.fnOf "_law_parted" "_law_parted" (defArgs s__law_parted) (defBody s__law_parted) (defScope s__law_parted) .none kV28 dc28 pm28 an28 cd28 ct28), sl28⟩)
    (c28 : PySem.W.codeIn K cd28 "_law_parted" = true)
    (k28 : PySem.W.keepIn K (.ref f28) = true)
    (a29 : PySem.W.nsIn K mainGlobals "law" = some (some (.ref f29)))
    (l29 : K.lookup f29 = some ⟨oc29, od29, .func (PySem.W.fnOf "law" "law" (defArgs s_law) (defBody s_law) (defScope s_law) .none kV29 dc29 pm29 an29 cd29 ct29), sl29⟩)
    (c29 : PySem.W.codeIn K cd29 "law" = true)
    (k29 : PySem.W.keepIn K (.ref f29) = true)
    (pg_Job : PySem.W.plainGet K cJob Str.empty = true)
    (hd_Job : PySem.W.hasDictIn K cJob = true)
    (po_Job : PySem.W.plainOver K cJob = true)
    (sa_Job : PySem.W.findIn K (.ref cJob) "__setattr__" = some (some (.builtin "object.__setattr__")))
    (mk_Job : PySem.W.makesIn K cJob = true)
    (kc_Job : PySem.W.keepIn K (.ref cJob) = true)
    (na_Job_name : PySem.W.findIn K (.ref cJob) "name" = some none)
    (na_Job_asker : PySem.W.findIn K (.ref cJob) "asker" = some none)
    (na_Job_pages : PySem.W.findIn K (.ref cJob) "pages" = some none)
    (na_Job_copies : PySem.W.findIn K (.ref cJob) "copies" = some none)
    (na_Job_layout : PySem.W.findIn K (.ref cJob) "layout" = some none)
    (na_Job_paper : PySem.W.findIn K (.ref cJob) "paper" = some none)
    (na_Job_cover : PySem.W.findIn K (.ref cJob) "cover" = some none)
    (na_Job_colour : PySem.W.findIn K (.ref cJob) "colour" = some none)
    (na_Job_staple : PySem.W.findIn K (.ref cJob) "staple" = some none)
    (na_Job_after : PySem.W.findIn K (.ref cJob) "after" = some none)
    (xc_BadLine : xcls K cBadLine ["place"] = true)
    (xm_BadLine : PySem.W.excMk K cBadLine = true)
    (kc_BadLine : PySem.W.keepIn K (.ref cBadLine) = true)
    (xc_Busy : xcls K cBusy ["job"] = true)
    (xm_Busy : PySem.W.excMk K cBusy = true)
    (kc_Busy : PySem.W.keepIn K (.ref cBusy) = true)
    (xc_Dry : xcls K cDry ["name"] = true)
    (xm_Dry : PySem.W.excMk K cDry = true)
    (kc_Dry : PySem.W.keepIn K (.ref cDry) = true)
    (xc_GoesRound : xcls K cGoesRound ["ring"] = true)
    (xm_GoesRound : PySem.W.excMk K cGoesRound = true)
    (kc_GoesRound : PySem.W.keepIn K (.ref cGoesRound) = true)
    (xc_NoHeap : xcls K cNoHeap ["place"] = true)
    (xm_NoHeap : PySem.W.excMk K cNoHeap = true)
    (kc_NoHeap : PySem.W.keepIn K (.ref cNoHeap) = true)
    (xc_NoPrinter : xcls K cNoPrinter ["job", "lacks"] = true)
    (xm_NoPrinter : PySem.W.excMk K cNoPrinter = true)
    (kc_NoPrinter : PySem.W.keepIn K (.ref cNoPrinter) = true)
    (xc_NotNow : xcls K cNotNow ["found"] = true)
    (xm_NotNow : PySem.W.excMk K cNotNow = true)
    (kc_NotNow : PySem.W.keepIn K (.ref cNotNow) = true)
    (xc_NoWay : xcls K cNoWay ["place"] = true)
    (xm_NoWay : PySem.W.excMk K cNoWay = true)
    (kc_NoWay : PySem.W.keepIn K (.ref cNoWay) = true)
    (xc_Nowhere : xcls K cNowhere ["job"] = true)
    (xm_Nowhere : PySem.W.excMk K cNowhere = true)
    (kc_Nowhere : PySem.W.keepIn K (.ref cNowhere) = true)
    (xc_Over : xcls K cOver ["job"] = true)
    (xm_Over : PySem.W.excMk K cOver = true)
    (kc_Over : PySem.W.keepIn K (.ref cOver) = true)
    (xc_TooMuch : xcls K cTooMuch ["name"] = true)
    (xm_TooMuch : PySem.W.excMk K cTooMuch = true)
    (kc_TooMuch : PySem.W.keepIn K (.ref cTooMuch) = true)
    (xc_Twice : xcls K cTwice ["name"] = true)
    (xm_Twice : PySem.W.excMk K cTwice = true)
    (kc_Twice : PySem.W.keepIn K (.ref cTwice) = true)
    (xc_Unknown : xcls K cUnknown ["name"] = true)
    (xm_Unknown : PySem.W.excMk K cUnknown = true)
    (kc_Unknown : PySem.W.keepIn K (.ref cUnknown) = true)
    (xq_HallError : PySem.W.excMk K cHallError = true)
    (mh_BadLine_BadLine : PySem.W.mroHas K cBadLine (.ref cBadLine) = true)
    (mh_BadLine_HallError : PySem.W.mroHas K cBadLine (.ref cHallError) = true)
    (xcn : PySem.W.specialIn K (.builtin "object.__class__") "__get__" = some (some (.builtin "getset_descriptor.__get__")))
    (xct : PySem.W.takesIn K (.builtin "object.__class__") = some true)
    (xb1 : PySem.W.specialIn K (.ref cHallError) "__getattribute__" = some (some (.builtin "type.__getattribute__")))
    (xb2 : PySem.W.readsIn K cHallError (.type "type") = true)
    (xb3 : PySem.W.findCls K (.ref cHallError) (.type "type") "__init__" = some (.val (.builtin "ValueError.__init__")))
    (xkt : kitTab K [cBadLine, cBusy, cDry, cGoesRound, cNoHeap, cNoPrinter, cNotNow, cNoWay, cNowhere, cOver, cTooMuch, cTwice, cUnknown] cHallError = true)
    {xLETTERS : Str} {tLETTERS : Tok}
    (gLETTERS : PySem.W.nsIn K mainGlobals "LETTERS" = some (some (.str xLETTERS tLETTERS)))
    (eLETTERS : xLETTERS = Str.ofString "abcdefghijklmnopqrstuvwxyz")
    {xFIGURES : Str} {tFIGURES : Tok}
    (gFIGURES : PySem.W.nsIn K mainGlobals "FIGURES" = some (some (.str xFIGURES tFIGURES)))
    (eFIGURES : xFIGURES = Str.ofString "0123456789")
    {xNAME_MOST : Int} {tNAME_MOST : Tok}
    (gNAME_MOST : PySem.W.nsIn K mainGlobals "NAME_MOST" = some (some (.int xNAME_MOST tNAME_MOST)))
    (eNAME_MOST : xNAME_MOST = 12)
    {xNUMBER_MOST : Int} {tNUMBER_MOST : Tok}
    (gNUMBER_MOST : PySem.W.nsIn K mainGlobals "NUMBER_MOST" = some (some (.int xNUMBER_MOST tNUMBER_MOST)))
    (eNUMBER_MOST : xNUMBER_MOST = 9)
    {xUP : Str} {tUP : Tok}
    (gUP : PySem.W.nsIn K mainGlobals "UP" = some (some (.str xUP tUP)))
    (eUP : xUP = Str.ofString "up:")
    {xUP_LEAST : Int} {tUP_LEAST : Tok}
    (gUP_LEAST : PySem.W.nsIn K mainGlobals "UP_LEAST" = some (some (.int xUP_LEAST tUP_LEAST)))
    (eUP_LEAST : xUP_LEAST = 2)
    {xUP_MOST : Int} {tUP_MOST : Tok}
    (gUP_MOST : PySem.W.nsIn K mainGlobals "UP_MOST" = some (some (.int xUP_MOST tUP_MOST)))
    (eUP_MOST : xUP_MOST = 16)
    {xPAGES_MOST : Int} {tPAGES_MOST : Tok}
    (gPAGES_MOST : PySem.W.nsIn K mainGlobals "PAGES_MOST" = some (some (.int xPAGES_MOST tPAGES_MOST)))
    (ePAGES_MOST : xPAGES_MOST = 999)
    {xCOPIES_MOST : Int} {tCOPIES_MOST : Tok}
    (gCOPIES_MOST : PySem.W.nsIn K mainGlobals "COPIES_MOST" = some (some (.int xCOPIES_MOST tCOPIES_MOST)))
    (eCOPIES_MOST : xCOPIES_MOST = 99)
    {xHEAD : Int} {tHEAD : Tok}
    (gHEAD : PySem.W.nsIn K mainGlobals "HEAD" = some (some (.int xHEAD tHEAD)))
    (eHEAD : xHEAD = 3)
    {xCOPIES : Str} {tCOPIES : Tok}
    (gCOPIES : PySem.W.nsIn K mainGlobals "COPIES" = some (some (.str xCOPIES tCOPIES)))
    (eCOPIES : xCOPIES = Str.ofString "x")
    {xCOLOUR : Str} {tCOLOUR : Tok}
    (gCOLOUR : PySem.W.nsIn K mainGlobals "COLOUR" = some (some (.str xCOLOUR tCOLOUR)))
    (eCOLOUR : xCOLOUR = Str.ofString "colour:")
    {xPAPER : Str} {tPAPER : Tok}
    (gPAPER : PySem.W.nsIn K mainGlobals "PAPER" = some (some (.str xPAPER tPAPER)))
    (ePAPER : xPAPER = Str.ofString "paper:")
    {xCOVER : Str} {tCOVER : Tok}
    (gCOVER : PySem.W.nsIn K mainGlobals "COVER" = some (some (.str xCOVER tCOVER)))
    (eCOVER : xCOVER = Str.ofString "cover:")
    {xAFTER : Str} {tAFTER : Tok}
    (gAFTER : PySem.W.nsIn K mainGlobals "AFTER" = some (some (.str xAFTER tAFTER)))
    (eAFTER : xAFTER = Str.ofString "after:")
    {xSTAPLE : Str} {tSTAPLE : Tok}
    (gSTAPLE : PySem.W.nsIn K mainGlobals "STAPLE" = some (some (.str xSTAPLE tSTAPLE)))
    (eSTAPLE : xSTAPLE = Str.ofString "staple")
    {xLAYOUT : Str} {tLAYOUT : Tok}
    (gLAYOUT : PySem.W.nsIn K mainGlobals "LAYOUT" = some (some (.str xLAYOUT tLAYOUT)))
    (eLAYOUT : xLAYOUT = Str.ofString "layout")
    {xONE_COPY : Int} {tONE_COPY : Tok}
    (gONE_COPY : PySem.W.nsIn K mainGlobals "ONE_COPY" = some (some (.int xONE_COPY tONE_COPY)))
    (eONE_COPY : xONE_COPY = 1)
    {xONE_LAYOUT : Str} {tONE_LAYOUT : Tok}
    (gONE_LAYOUT : PySem.W.nsIn K mainGlobals "ONE_LAYOUT" = some (some (.str xONE_LAYOUT tONE_LAYOUT)))
    (eONE_LAYOUT : xONE_LAYOUT = Str.ofString "one")
    {xPLAIN : Str} {tPLAIN : Tok}
    (gPLAIN : PySem.W.nsIn K mainGlobals "PLAIN" = some (some (.str xPLAIN tPLAIN)))
    (ePLAIN : xPLAIN = Str.ofString "plain")
    (z_len : PySem.W.nsIn K mainGlobals "len" = some none)
    (z_range : PySem.W.nsIn K mainGlobals "range" = some none)
    (z_enumerate : PySem.W.nsIn K mainGlobals "enumerate" = some none)
    (z_str : PySem.W.nsIn K mainGlobals "str" = some none)
    (z_int : PySem.W.nsIn K mainGlobals "int" = some none)
    (z_bool : PySem.W.nsIn K mainGlobals "bool" = some none)
    (z_tuple : PySem.W.nsIn K mainGlobals "tuple" = some none)
    (z_list : PySem.W.nsIn K mainGlobals "list" = some none)
    (z_isinstance : PySem.W.nsIn K mainGlobals "isinstance" = some none)
    (z_all : PySem.W.nsIn K mainGlobals "all" = some none)
    (z_min : PySem.W.nsIn K mainGlobals "min" = some none)
    (z_ValueError : PySem.W.nsIn K mainGlobals "ValueError" = some none)
    : ∃ fd : FuncData, (∀ (s : Shared) (v : Value), BindsTo s fd ⟨[v], []⟩ [("_law_script", v)]) ∧ ∀ base : Heap, K.In base → base.Ns mainGlobals mg → FnOk l.prog w K mg base CX0 8 fa fd ["_law_script"] (sp_law K) := by
  have e := hfa.symm.trans (PySem.W.mg_of X G a29)
  cases e
  have F0 := fun_mk (st := s_BadLine_init) l0 c0 k0
  have F1 := fun_mk (st := s_words_of) l1 c1 k1
  have F2 := fun_mk (st := s_made_of) l2 c2 k2
  have F3 := fun_mk (st := s_is_name) l3 c3 k3
  have F4 := fun_mk (st := s_is_number) l4 c4 k4
  have F5 := fun_mk (st := s_number_in) l5 c5 k5
  have F6 := fun_mk (st := s_is_layout) l6 c6 k6
  have F7 := fun_mk (st := s_Job_init) l7 c7 k7
  have F8 := fun_mk (st := s_read_job) l8 c8 k8
  have F9 := fun_mk (st := s_read_head) l9 c9 k9
  have F10 := fun_mk (st := s_value_of) l10 c10 k10
  have F11 := fun_mk (st := s_sort_of) l11 c11 k11
  have F12 := fun_mk (st := s_read_colour) l12 c12 k12
  have F13 := fun_mk (st := s_told_job) l13 c13 k13
  have F14 := fun_mk (st := s__law_cell_at) l14 c14 k14
  have F15 := fun_mk (st := s__law_by) l15 c15 k15
  have F16 := fun_mk (st := s__law_sign) l16 c16 k16
  have F17 := fun_mk (st := s__law_names) l17 c17 k17
  have F18 := fun_mk (st := s__law_values) l18 c18 k18
  have F19 := fun_mk (st := s__law_words) l19 c19 k19
  have F20 := fun_mk (st := s__law_odd) l20 c20 k20
  have F21 := fun_mk (st := s__law_noughts) l21 c21 k21
  have F22 := fun_mk (st := s__law_spoilt) l22 c22 k22
  have F23 := fun_mk (st := s__law_is_name) l23 c23 k23
  have F24 := fun_mk (st := s__law_number) l24 c24 k24
  have F25 := fun_mk (st := s__law_sort) l25 c25 k25
  have F26 := fun_mk (st := s__law_wrong) l26 c26 k26
  have F27 := fun_mk (st := s__law_apart) l27 c27 k27
  have F28 := fun_mk (st := s__law_parted) l28 c28 k28
  have F29 := fun_mk (st := s_law) l29 c29 k29
  have b0 := F0.binds (ps := ["self", "place"]) fun _ _ _ _ _ _ => bn2 fun _ _ => rfl
  have b1 := F1.binds (ps := ["line"]) fun _ _ _ _ _ _ => bn1 fun _ => rfl
  have b2 := F2.binds (ps := ["word", "signs"]) fun _ _ _ _ _ _ => bn2 fun _ _ => rfl
  have b3 := F3.binds (ps := ["word"]) fun _ _ _ _ _ _ => bn1 fun _ => rfl
  have b4 := F4.binds (ps := ["word"]) fun _ _ _ _ _ _ => bn1 fun _ => rfl
  have b5 := F5.binds (ps := ["word", "least", "most"]) fun _ _ _ _ _ _ => bn3 fun _ _ _ => rfl
  have b6 := F6.binds (ps := ["word"]) fun _ _ _ _ _ _ => bn1 fun _ => rfl
  have b7 := F7.binds (ps := ["self", "name", "asker", "pages", "copies", "layout", "paper", "cover", "colour", "staple", "after"]) fun _ _ _ _ _ _ => bn11 fun _ _ _ _ _ _ _ _ _ _ _ => rfl
  have b8 := F8.binds (ps := ["line"]) fun _ _ _ _ _ _ => bn1 fun _ => rfl
  have b9 := F9.binds (ps := ["words"]) fun _ _ _ _ _ _ => bn1 fun _ => rfl
  have b10 := F10.binds (ps := ["word", "pages"]) fun _ _ _ _ _ _ => bn2 fun _ _ => rfl
  have b11 := F11.binds (ps := ["word"]) fun _ _ _ _ _ _ => bn1 fun _ => rfl
  have b12 := F12.binds (ps := ["span", "pages"]) fun _ _ _ _ _ _ => bn2 fun _ _ => rfl
  have b13 := F13.binds (ps := ["words", "pages", "told"]) fun _ _ _ _ _ _ => bn3 fun _ _ _ => rfl
  have b14 := F14.binds (ps := ["_law_script", "_law_k"]) fun _ _ _ _ _ _ => bn2 fun _ _ => rfl
  have b15 := F15.binds (ps := ["_law_script", "_law_k", "_law_many"]) fun _ _ _ _ _ _ => bn3 fun _ _ _ => rfl
  have b16 := F16.binds (ps := ["_law_number_here"]) fun _ _ _ _ _ _ => bn1 fun _ => rfl
  have b17 := F17.binds (ps := ["_law_script", "_law_k", "_law_many"]) fun _ _ _ _ _ _ => bn3 fun _ _ _ => rfl
  have b18 := F18.binds (ps := ["_law_script", "_law_k"]) fun _ _ _ _ _ _ => bn2 fun _ _ => rfl
  have b19 := F19.binds (ps := ["_law_job"]) fun _ _ _ _ _ _ => bn1 fun _ => rfl
  have b20 := F20.binds (ps := ["_law_script", "_law_k"]) fun _ _ _ _ _ _ => bn2 fun _ _ => rfl
  have b21 := F21.binds (ps := ["_law_script", "_law_k", "_law_word"]) fun _ _ _ _ _ _ => bn3 fun _ _ _ => rfl
  have b22 := F22.binds (ps := ["_law_script", "_law_k", "_law_words_here"]) fun _ _ _ _ _ _ => bn3 fun _ _ _ => rfl
  have b23 := F23.binds (ps := ["_law_word"]) fun _ _ _ _ _ _ => bn1 fun _ => rfl
  have b24 := F24.binds (ps := ["_law_word"]) fun _ _ _ _ _ _ => bn1 fun _ => rfl
  have b25 := F25.binds (ps := ["_law_word", "_law_pages"]) fun _ _ _ _ _ _ => bn2 fun _ _ => rfl
  have b26 := F26.binds (ps := ["_law_words_here"]) fun _ _ _ _ _ _ => bn1 fun _ => rfl
  have b27 := F27.binds (ps := ["_law_line"]) fun _ _ _ _ _ _ => bn1 fun _ => rfl
  have b28 := F28.binds (ps := ["_law_line"]) fun _ _ _ _ _ _ => bn1 fun _ => rfl
  have b29 := F29.binds (ps := ["_law_script"]) fun _ _ _ _ _ _ => bn1 fun _ => rfl
  have T : Txt K mg cJob cBadLine cBusy cDry cGoesRound cNoHeap cNoPrinter cNotNow cNoWay cNowhere cOver cTooMuch cTwice cUnknown cHallError := ⟨PySem.W.mg_none_of X G z_len, PySem.W.mg_none_of X G z_range, PySem.W.mg_none_of X G z_enumerate, PySem.W.mg_none_of X G z_str, PySem.W.mg_none_of X G z_int, PySem.W.mg_none_of X G z_bool, PySem.W.mg_none_of X G z_tuple, PySem.W.mg_none_of X G z_list, PySem.W.mg_none_of X G z_isinstance, PySem.W.mg_none_of X G z_all, PySem.W.mg_none_of X G z_min, PySem.W.mg_none_of X G z_ValueError, ⟨⟨tLETTERS, by rw [← eLETTERS]; exact PySem.W.mg_of X G gLETTERS⟩⟩, ⟨⟨tFIGURES, by rw [← eFIGURES]; exact PySem.W.mg_of X G gFIGURES⟩⟩, ⟨⟨tNAME_MOST, by rw [← eNAME_MOST]; exact PySem.W.mg_of X G gNAME_MOST⟩⟩, ⟨⟨tNUMBER_MOST, by rw [← eNUMBER_MOST]; exact PySem.W.mg_of X G gNUMBER_MOST⟩⟩, ⟨⟨tUP, by rw [← eUP]; exact PySem.W.mg_of X G gUP⟩⟩, ⟨⟨tUP_LEAST, by rw [← eUP_LEAST]; exact PySem.W.mg_of X G gUP_LEAST⟩⟩, ⟨⟨tUP_MOST, by rw [← eUP_MOST]; exact PySem.W.mg_of X G gUP_MOST⟩⟩, ⟨⟨tPAGES_MOST, by rw [← ePAGES_MOST]; exact PySem.W.mg_of X G gPAGES_MOST⟩⟩, ⟨⟨tCOPIES_MOST, by rw [← eCOPIES_MOST]; exact PySem.W.mg_of X G gCOPIES_MOST⟩⟩, ⟨⟨tHEAD, by rw [← eHEAD]; exact PySem.W.mg_of X G gHEAD⟩⟩, ⟨⟨tCOPIES, by rw [← eCOPIES]; exact PySem.W.mg_of X G gCOPIES⟩⟩, ⟨⟨tCOLOUR, by rw [← eCOLOUR]; exact PySem.W.mg_of X G gCOLOUR⟩⟩, ⟨⟨tPAPER, by rw [← ePAPER]; exact PySem.W.mg_of X G gPAPER⟩⟩, ⟨⟨tCOVER, by rw [← eCOVER]; exact PySem.W.mg_of X G gCOVER⟩⟩, ⟨⟨tAFTER, by rw [← eAFTER]; exact PySem.W.mg_of X G gAFTER⟩⟩, ⟨⟨tSTAPLE, by rw [← eSTAPLE]; exact PySem.W.mg_of X G gSTAPLE⟩⟩, ⟨⟨tLAYOUT, by rw [← eLAYOUT]; exact PySem.W.mg_of X G gLAYOUT⟩⟩, ⟨⟨tONE_COPY, by rw [← eONE_COPY]; exact PySem.W.mg_of X G gONE_COPY⟩⟩, ⟨⟨tONE_LAYOUT, by rw [← eONE_LAYOUT]; exact PySem.W.mg_of X G gONE_LAYOUT⟩⟩, ⟨⟨tPLAIN, by rw [← ePLAIN]; exact PySem.W.mg_of X G gPLAIN⟩⟩, ⟨pg_Job, hd_Job, po_Job, sa_Job⟩, PySem.W.mg_of X G aC_Job, na_Job_name, na_Job_asker, na_Job_pages, na_Job_copies, na_Job_layout, na_Job_paper, na_Job_cover, na_Job_colour, na_Job_staple, na_Job_after, xq_HallError, mh_BadLine_BadLine, mh_BadLine_HallError, XCl.of xc_BadLine xm_BadLine xcn xct, PySem.W.mg_of X G aC_BadLine, XCl.of xc_Busy xm_Busy xcn xct, PySem.W.mg_of X G aC_Busy, XCl.of xc_Dry xm_Dry xcn xct, PySem.W.mg_of X G aC_Dry, XCl.of xc_GoesRound xm_GoesRound xcn xct, PySem.W.mg_of X G aC_GoesRound, XCl.of xc_NoHeap xm_NoHeap xcn xct, PySem.W.mg_of X G aC_NoHeap, XCl.of xc_NoPrinter xm_NoPrinter xcn xct, PySem.W.mg_of X G aC_NoPrinter, XCl.of xc_NotNow xm_NotNow xcn xct, PySem.W.mg_of X G aC_NotNow, XCl.of xc_NoWay xm_NoWay xcn xct, PySem.W.mg_of X G aC_NoWay, XCl.of xc_Nowhere xm_Nowhere xcn xct, PySem.W.mg_of X G aC_Nowhere, XCl.of xc_Over xm_Over xcn xct, PySem.W.mg_of X G aC_Over, XCl.of xc_TooMuch xm_TooMuch xcn xct, PySem.W.mg_of X G aC_TooMuch, XCl.of xc_Twice xm_Twice xcn xct, PySem.W.mg_of X G aC_Twice, XCl.of xc_Unknown xm_Unknown xcn xct, PySem.W.mg_of X G aC_Unknown, ⟨xb1, xb2, xb3⟩, PySem.W.mg_of X G aC_HallError, xkt⟩
  refine ⟨PySem.W.fnOf "law" "law" (defArgs s_law) (defBody s_law) (defScope s_law) .none kV29 dc29 pm29 an29 cd29 ct29, fun s v => .of_eq rfl, fun base _ _ => ?_⟩
  have D__law_cell_at : Dfn l.prog w K mg base 1 "_law_cell_at" ["_law_script", "_law_k"] (sp__law_cell_at K) := ⟨_, _, ok__law_cell_at F14 T, b14, k14, PySem.W.mg_of X G a14⟩
  have D__law_by : Dfn l.prog w K mg base 2 "_law_by" ["_law_script", "_law_k", "_law_many"] (sp__law_by K) := ⟨_, _, ok__law_by F15 T D__law_cell_at, b15, k15, PySem.W.mg_of X G a15⟩
  have D__law_names : Dfn l.prog w K mg base 3 "_law_names" ["_law_script", "_law_k", "_law_many"] (sp__law_names K) := ⟨_, _, ok__law_names F17 T D__law_by, b17, k17, PySem.W.mg_of X G a17⟩
  have D__law_values : Dfn l.prog w K mg base 4 "_law_values" ["_law_script", "_law_k"] (sp__law_values K) := ⟨_, _, ok__law_values F18 T D__law_names D__law_by, b18, k18, PySem.W.mg_of X G a18⟩
  have D__law_words : Dfn l.prog w K mg base 1 "_law_words" ["_law_job"] (sp__law_words K) := ⟨_, _, ok__law_words F19 T, b19, k19, PySem.W.mg_of X G a19⟩
  have D__law_parted : Dfn l.prog w K mg base 1 "_law_parted" ["_law_line"] (sp__law_parted K) := ⟨_, _, ok__law_parted F28 T, b28, k28, PySem.W.mg_of X G a28⟩
  have D__law_is_name : Dfn l.prog w K mg base 1 "_law_is_name" ["_law_word"] (sp__law_is_name K) := ⟨_, _, ok__law_is_name F23 T, b23, k23, PySem.W.mg_of X G a23⟩
  have D__law_number : Dfn l.prog w K mg base 1 "_law_number" ["_law_word"] (sp__law_number K) := ⟨_, _, ok__law_number F24 T, b24, k24, PySem.W.mg_of X G a24⟩
  have D__law_sort : Dfn l.prog w K mg base 2 "_law_sort" ["_law_word", "_law_pages"] (sp__law_sort K) := ⟨_, _, ok__law_sort F25 T D__law_is_name D__law_number, b25, k25, PySem.W.mg_of X G a25⟩
  have D__law_wrong : Dfn l.prog w K mg base 3 "_law_wrong" ["_law_words_here"] (sp__law_wrong K) := ⟨_, _, ok__law_wrong F26 T D__law_sort D__law_is_name D__law_number, b26, k26, PySem.W.mg_of X G a26⟩
  have D_words_of : Dfn l.prog w K mg base 1 "words_of" ["line"] (sp_words_of K) := ⟨_, _, ok_words_of F1 T, b1, k1, PySem.W.mg_of X G a1⟩
  have D_made_of : Dfn l.prog w K mg base 1 "made_of" ["word", "signs"] (sp_made_of K) := ⟨_, _, ok_made_of F2 T, b2, k2, PySem.W.mg_of X G a2⟩
  have D_is_number : Dfn l.prog w K mg base 2 "is_number" ["word"] (sp_is_number K) := ⟨_, _, ok_is_number F4 T D_made_of, b4, k4, PySem.W.mg_of X G a4⟩
  have D_number_in : Dfn l.prog w K mg base 3 "number_in" ["word", "least", "most"] (sp_number_in K) := ⟨_, _, ok_number_in F5 T D_is_number, b5, k5, PySem.W.mg_of X G a5⟩
  have X_BadLine : MkXD l.prog w K mg base 1 "BadLine" cBadLine ["self", "place"] (sp_one cBadLine "place") := ⟨⟨_, _, ⟨xm_BadLine, a0, i0, kc_BadLine⟩, ok_BadLine_init F0 T, b0, PySem.W.mg_of X G aC_BadLine⟩, by decide⟩
  have D_is_name : Dfn l.prog w K mg base 2 "is_name" ["word"] (sp_is_name K) := ⟨_, _, ok_is_name F3 T D_made_of, b3, k3, PySem.W.mg_of X G a3⟩
  have D_read_head : DfE l.prog w K mg base 4 "read_head" ["words"] (sp_read_head cBadLine) := ⟨_, _, ok_read_head F9 T D_number_in X_BadLine D_is_name, b9, k9, PySem.W.mg_of X G a9⟩
  have okk7 : FnOk l.prog w K mg base CX0 1 _ _ ["self", "name", "asker", "pages", "copies", "layout", "paper", "cover", "colour", "staple", "after"] (sp_Job_init cJob) := ok_Job_init F7 T
  have M_Job : MkD l.prog w K mg base 1 "Job" cJob ["self", "name", "asker", "pages", "copies", "layout", "paper", "cover", "colour", "staple", "after"] (sp_Job_init cJob) := ⟨_, _, ⟨mk_Job, a7, i7, kc_Job⟩, okk7, b7, PySem.W.mg_of X G aC_Job⟩
  have D_told_job : Dfn l.prog w K mg base 3 "told_job" ["words", "pages", "told"] (sp_told_job cJob) := ⟨_, _, ok_told_job F13 T M_Job, b13, k13, PySem.W.mg_of X G a13⟩
  have D_is_layout : Dfn l.prog w K mg base 4 "is_layout" ["word"] (sp_is_layout K) := ⟨_, _, ok_is_layout F6 T D_number_in, b6, k6, PySem.W.mg_of X G a6⟩
  have D_read_colour : Dfn l.prog w K mg base 4 "read_colour" ["span", "pages"] (sp_read_colour K) := ⟨_, _, ok_read_colour F12 T D_number_in, b12, k12, PySem.W.mg_of X G a12⟩
  have D_value_of : Dfn l.prog w K mg base 5 "value_of" ["word", "pages"] (sp_value_of K) := ⟨_, _, ok_value_of F10 T D_is_layout D_number_in D_read_colour D_is_name, b10, k10, PySem.W.mg_of X G a10⟩
  have D_sort_of : Dfn l.prog w K mg base 5 "sort_of" ["word"] (sp_sort_of K) := ⟨_, _, ok_sort_of F11 T D_is_layout, b11, k11, PySem.W.mg_of X G a11⟩
  have D_read_job : DfE l.prog w K mg base 6 "read_job" ["line"] (sp_read_job cJob cBadLine) := ⟨_, _, ok_read_job F8 T D_words_of D_read_head D_told_job D_value_of D_sort_of X_BadLine, b8, k8, PySem.W.mg_of X G a8⟩
  have D__law_apart : Dfn l.prog w K mg base 7 "_law_apart" ["_law_line"] (sp__law_apart cJob cBadLine) := ⟨_, _, ok__law_apart F27 T D_read_job, b27, k27, PySem.W.mg_of X G a27⟩
  have D__law_sign : Dfn l.prog w K mg base 1 "_law_sign" ["_law_number_here"] (sp__law_sign K) := ⟨_, _, ok__law_sign F16 T, b16, k16, PySem.W.mg_of X G a16⟩
  have D__law_odd : Dfn l.prog w K mg base 3 "_law_odd" ["_law_script", "_law_k"] (sp__law_odd K) := ⟨_, _, ok__law_odd F20 T D__law_by, b20, k20, PySem.W.mg_of X G a20⟩
  have D__law_noughts : Dfn l.prog w K mg base 3 "_law_noughts" ["_law_script", "_law_k", "_law_word"] (sp__law_noughts K) := ⟨_, _, ok__law_noughts F21 T D__law_by, b21, k21, PySem.W.mg_of X G a21⟩
  have D__law_spoilt : Dfn l.prog w K mg base 4 "_law_spoilt" ["_law_script", "_law_k", "_law_words_here"] (sp__law_spoilt K) := ⟨_, _, ok__law_spoilt F22 T D__law_by D__law_sign D__law_odd D__law_noughts, b22, k22, PySem.W.mg_of X G a22⟩
  exact ok_law F29 T D__law_values D__law_words D__law_parted D__law_wrong D_read_job D__law_apart D__law_number D__law_by D__law_spoilt
theorem walk {l : PySem.W.OpenLaw} {q : Program} {loose : List Str} {XP : (Str → Option Value) → Heap → Prop} {YP : World → Heap → Prop} {d : DefRec} {K : Params → PySem.W.Frag} (hn : l.most = some 63) (hdf : d.params.defaults = [])
    (hY : ∀ (w : World) (h : Heap), YP w h → (K w.params).In h)
    (F : ∀ (w : World) (mg : Str → Option Value) (fa : Addr) (h : Heap), (K w.params).In h → h.Ns mainGlobals mg → mg d.name = some (.ref fa) →
      ∃ fd : FuncData, (∀ (s : Shared) (u : Value), BindsTo s fd ⟨[u], []⟩ [("_law_script", u)]) ∧ ∀ base : Heap, (K w.params).In base → base.Ns mainGlobals mg → FnOk l.prog w (K w.params) mg base CX0 8 fa fd ["_law_script"] (sp_law (K w.params))) :
    PySem.W.WalkO q loose XP YP l.row.toRowW d [] (fun f vs => PySem.call f vs) :=
  L2.walk_of (n := 63) (k := 8) (x := "_law_script") (CX := fun _ => CX0) (sp := fun w => sp_law (K w.params)) hn (by decide) hdf ⟨rfl, by decide, by decide⟩ hY F (fun _ _ a ns hl _ hS => ⟨a, rfl, ⟨⟨ns, hS, hl⟩⟩, fun _ => rfl⟩) fun _ _ _ _ _ z => z
end My
open PySem PySem.W PyProof.Rows
set_option maxRecDepth 100000 in
set_option maxHeartbeats 0 in
theorem PySem.Challenge.cw_spoolhall_k06_lines_refused_by_place_holds : PySem.Challenge.rw_spoolhall_k06_lines_refused_by_place.Holds := by
  w_on; o_law; k_head; (case hw => w_witness2)
  k_fill
  refine My.walk (l := PySem.Challenge.rw_spoolhall_k06_lines_refused_by_place) rfl rfl (fun w h Y => PySem.W.kIn_of Y) ?F
  case F =>
    intro w mg fa h KX G hmg
    refine' My.all_mk KX G hmg ?aC_Job ?aC_BadLine ?aC_Busy ?aC_Dry ?aC_GoesRound ?aC_NoHeap ?aC_NoPrinter ?aC_NotNow ?aC_NoWay ?aC_Nowhere ?aC_Over ?aC_TooMuch ?aC_Twice ?aC_Unknown ?aC_HallError ?a0 ?i0 ?l0 ?c0 ?k0 ?a1 ?l1 ?c1 ?k1 ?a2 ?l2 ?c2 ?k2 ?a3 ?l3 ?c3 ?k3 ?a4 ?l4 ?c4 ?k4 ?a5 ?l5 ?c5 ?k5 ?a6 ?l6 ?c6 ?k6 ?a7 ?i7 ?l7 ?c7 ?k7 ?a8 ?l8 ?c8 ?k8 ?a9 ?l9 ?c9 ?k9 ?a10 ?l10 ?c10 ?k10 ?a11 ?l11 ?c11 ?k11 ?a12 ?l12 ?c12 ?k12 ?a13 ?l13 ?c13 ?k13 ?a14 ?l14 ?c14 ?k14 ?a15 ?l15 ?c15 ?k15 ?a16 ?l16 ?c16 ?k16 ?a17 ?l17 ?c17 ?k17 ?a18 ?l18 ?c18 ?k18 ?a19 ?l19 ?c19 ?k19 ?a20 ?l20 ?c20 ?k20 ?a21 ?l21 ?c21 ?k21 ?a22 ?l22 ?c22 ?k22 ?a23 ?l23 ?c23 ?k23 ?a24 ?l24 ?c24 ?k24 ?a25 ?l25 ?c25 ?k25 ?a26 ?l26 ?c26 ?k26 ?a27 ?l27 ?c27 ?k27 ?a28 ?l28 ?c28 ?k28 ?a29 ?l29 ?c29 ?k29 ?pg_Job ?hd_Job ?po_Job ?sa_Job ?mk_Job ?kc_Job ?na_Job_name ?na_Job_asker ?na_Job_pages ?na_Job_copies ?na_Job_layout ?na_Job_paper ?na_Job_cover ?na_Job_colour ?na_Job_staple ?na_Job_after ?xc_BadLine ?xm_BadLine ?kc_BadLine ?xc_Busy ?xm_Busy ?kc_Busy ?xc_Dry ?xm_Dry ?kc_Dry ?xc_GoesRound ?xm_GoesRound ?kc_GoesRound ?xc_NoHeap ?xm_NoHeap ?kc_NoHeap ?xc_NoPrinter ?xm_NoPrinter ?kc_NoPrinter ?xc_NotNow ?xm_NotNow ?kc_NotNow ?xc_NoWay ?xm_NoWay ?kc_NoWay ?xc_Nowhere ?xm_Nowhere ?kc_Nowhere ?xc_Over ?xm_Over ?kc_Over ?xc_TooMuch ?xm_TooMuch ?kc_TooMuch ?xc_Twice ?xm_Twice ?kc_Twice ?xc_Unknown ?xm_Unknown ?kc_Unknown ?xq_HallError ?mh_BadLine_BadLine ?mh_BadLine_HallError ?xcn ?xct ?xb1 ?xb2 ?xb3 ?xkt ?gLETTERS ?eLETTERS ?gFIGURES ?eFIGURES ?gNAME_MOST ?eNAME_MOST ?gNUMBER_MOST ?eNUMBER_MOST ?gUP ?eUP ?gUP_LEAST ?eUP_LEAST ?gUP_MOST ?eUP_MOST ?gPAGES_MOST ?ePAGES_MOST ?gCOPIES_MOST ?eCOPIES_MOST ?gHEAD ?eHEAD ?gCOPIES ?eCOPIES ?gCOLOUR ?eCOLOUR ?gPAPER ?ePAPER ?gCOVER ?eCOVER ?gAFTER ?eAFTER ?gSTAPLE ?eSTAPLE ?gLAYOUT ?eLAYOUT ?gONE_COPY ?eONE_COPY ?gONE_LAYOUT ?eONE_LAYOUT ?gPLAIN ?ePLAIN ?z_len ?z_range ?z_enumerate ?z_str ?z_int ?z_bool ?z_tuple ?z_list ?z_isinstance ?z_all ?z_min ?z_ValueError
    (case aC_Job => k_is)
    (case aC_BadLine => k_is)
    (case aC_Busy => k_is)
    (case aC_Dry => k_is)
    (case aC_GoesRound => k_is)
    (case aC_NoHeap => k_is)
    (case aC_NoPrinter => k_is)
    (case aC_NotNow => k_is)
    (case aC_NoWay => k_is)
    (case aC_Nowhere => k_is)
    (case aC_Over => k_is)
    (case aC_TooMuch => k_is)
    (case aC_Twice => k_is)
    (case aC_Unknown => k_is)
    (case aC_HallError => k_is)
    (case a0 => k_is)
    (case i0 => k_is)
    (case l0 => k_is)
    (case c0 => k_is)
    (case k0 => k_is)
    (case a1 => k_is)
    (case l1 => k_is)
    (case c1 => k_is)
    (case k1 => k_is)
    (case a2 => k_is)
    (case l2 => k_is)
    (case c2 => k_is)
    (case k2 => k_is)
    (case a3 => k_is)
    (case l3 => k_is)
    (case c3 => k_is)
    (case k3 => k_is)
    (case a4 => k_is)
    (case l4 => k_is)
    (case c4 => k_is)
    (case k4 => k_is)
    (case a5 => k_is)
    (case l5 => k_is)
    (case c5 => k_is)
    (case k5 => k_is)
    (case a6 => k_is)
    (case l6 => k_is)
    (case c6 => k_is)
    (case k6 => k_is)
    (case a7 => k_is)
    (case i7 => k_is)
    (case l7 => k_is)
    (case c7 => k_is)
    (case k7 => k_is)
    (case a8 => k_is)
    (case l8 => k_is)
    (case c8 => k_is)
    (case k8 => k_is)
    (case a9 => k_is)
    (case l9 => k_is)
    (case c9 => k_is)
    (case k9 => k_is)
    (case a10 => k_is)
    (case l10 => k_is)
    (case c10 => k_is)
    (case k10 => k_is)
    (case a11 => k_is)
    (case l11 => k_is)
    (case c11 => k_is)
    (case k11 => k_is)
    (case a12 => k_is)
    (case l12 => k_is)
    (case c12 => k_is)
    (case k12 => k_is)
    (case a13 => k_is)
    (case l13 => k_is)
    (case c13 => k_is)
    (case k13 => k_is)
    (case a14 => k_is)
    (case l14 => k_is)
    (case c14 => k_is)
    (case k14 => k_is)
    (case a15 => k_is)
    (case l15 => k_is)
    (case c15 => k_is)
    (case k15 => k_is)
    (case a16 => k_is)
    (case l16 => k_is)
    (case c16 => k_is)
    (case k16 => k_is)
    (case a17 => k_is)
    (case l17 => k_is)
    (case c17 => k_is)
    (case k17 => k_is)
    (case a18 => k_is)
    (case l18 => k_is)
    (case c18 => k_is)
    (case k18 => k_is)
    (case a19 => k_is)
    (case l19 => k_is)
    (case c19 => k_is)
    (case k19 => k_is)
    (case a20 => k_is)
    (case l20 => k_is)
    (case c20 => k_is)
    (case k20 => k_is)
    (case a21 => k_is)
    (case l21 => k_is)
    (case c21 => k_is)
    (case k21 => k_is)
    (case a22 => k_is)
    (case l22 => k_is)
    (case c22 => k_is)
    (case k22 => k_is)
    (case a23 => k_is)
    (case l23 => k_is)
    (case c23 => k_is)
    (case k23 => k_is)
    (case a24 => k_is)
    (case l24 => k_is)
    (case c24 => k_is)
    (case k24 => k_is)
    (case a25 => k_is)
    (case l25 => k_is)
    (case c25 => k_is)
    (case k25 => k_is)
    (case a26 => k_is)
    (case l26 => k_is)
    (case c26 => k_is)
    (case k26 => k_is)
    (case a27 => k_is)
    (case l27 => k_is)
    (case c27 => k_is)
    (case k27 => k_is)
    (case a28 => k_is)
    (case l28 => k_is)
    (case c28 => k_is)
    (case k28 => k_is)
    (case a29 => k_is)
    (case l29 => k_is)
    (case c29 => k_is)
    (case k29 => k_is)
    (case pg_Job => k_is)
    (case hd_Job => k_is)
    (case po_Job => k_is)
    (case sa_Job => k_is)
    (case mk_Job => k_is)
    (case kc_Job => k_is)
    (case na_Job_name => k_is)
    (case na_Job_asker => k_is)
    (case na_Job_pages => k_is)
    (case na_Job_copies => k_is)
    (case na_Job_layout => k_is)
    (case na_Job_paper => k_is)
    (case na_Job_cover => k_is)
    (case na_Job_colour => k_is)
    (case na_Job_staple => k_is)
    (case na_Job_after => k_is)
    (case xc_BadLine => kernel_rfl)
    (case xm_BadLine => kernel_rfl)
    (case kc_BadLine => k_is)
    (case xc_Busy => kernel_rfl)
    (case xm_Busy => kernel_rfl)
    (case kc_Busy => k_is)
    (case xc_Dry => kernel_rfl)
    (case xm_Dry => kernel_rfl)
    (case kc_Dry => k_is)
    (case xc_GoesRound => kernel_rfl)
    (case xm_GoesRound => kernel_rfl)
    (case kc_GoesRound => k_is)
    (case xc_NoHeap => kernel_rfl)
    (case xm_NoHeap => kernel_rfl)
    (case kc_NoHeap => k_is)
    (case xc_NoPrinter => kernel_rfl)
    (case xm_NoPrinter => kernel_rfl)
    (case kc_NoPrinter => k_is)
    (case xc_NotNow => kernel_rfl)
    (case xm_NotNow => kernel_rfl)
    (case kc_NotNow => k_is)
    (case xc_NoWay => kernel_rfl)
    (case xm_NoWay => kernel_rfl)
    (case kc_NoWay => k_is)
    (case xc_Nowhere => kernel_rfl)
    (case xm_Nowhere => kernel_rfl)
    (case kc_Nowhere => k_is)
    (case xc_Over => kernel_rfl)
    (case xm_Over => kernel_rfl)
    (case kc_Over => k_is)
    (case xc_TooMuch => kernel_rfl)
    (case xm_TooMuch => kernel_rfl)
    (case kc_TooMuch => k_is)
    (case xc_Twice => kernel_rfl)
    (case xm_Twice => kernel_rfl)
    (case kc_Twice => k_is)
    (case xc_Unknown => kernel_rfl)
    (case xm_Unknown => kernel_rfl)
    (case kc_Unknown => k_is)
    (case xq_HallError => kernel_rfl)
    (case mh_BadLine_BadLine => kernel_rfl)
    (case mh_BadLine_HallError => kernel_rfl)
    (case xcn => k_is)
    (case xct => k_is)
    (case xb1 => k_is)
    (case xb2 => k_is)
    (case xb3 => k_is)
    (case xkt => kernel_rfl)
    (case gLETTERS => k_is)
    (case eLETTERS => first | rfl | decide +kernel)
    (case gFIGURES => k_is)
    (case eFIGURES => first | rfl | decide +kernel)
    (case gNAME_MOST => k_is)
    (case eNAME_MOST => rfl)
    (case gNUMBER_MOST => k_is)
    (case eNUMBER_MOST => rfl)
    (case gUP => k_is)
    (case eUP => first | rfl | decide +kernel)
    (case gUP_LEAST => k_is)
    (case eUP_LEAST => rfl)
    (case gUP_MOST => k_is)
    (case eUP_MOST => rfl)
    (case gPAGES_MOST => k_is)
    (case ePAGES_MOST => rfl)
    (case gCOPIES_MOST => k_is)
    (case eCOPIES_MOST => rfl)
    (case gHEAD => k_is)
    (case eHEAD => rfl)
    (case gCOPIES => k_is)
    (case eCOPIES => first | rfl | decide +kernel)
    (case gCOLOUR => k_is)
    (case eCOLOUR => first | rfl | decide +kernel)
    (case gPAPER => k_is)
    (case ePAPER => first | rfl | decide +kernel)
    (case gCOVER => k_is)
    (case eCOVER => first | rfl | decide +kernel)
    (case gAFTER => k_is)
    (case eAFTER => first | rfl | decide +kernel)
    (case gSTAPLE => k_is)
    (case eSTAPLE => first | rfl | decide +kernel)
    (case gLAYOUT => k_is)
    (case eLAYOUT => first | rfl | decide +kernel)
    (case gONE_COPY => k_is)
    (case eONE_COPY => rfl)
    (case gONE_LAYOUT => k_is)
    (case eONE_LAYOUT => first | rfl | decide +kernel)
    (case gPLAIN => k_is)
    (case ePLAIN => first | rfl | decide +kernel)
    (case z_len => k_is)
    (case z_range => k_is)
    (case z_enumerate => k_is)
    (case z_str => k_is)
    (case z_int => k_is)
    (case z_bool => k_is)
    (case z_tuple => k_is)
    (case z_list => k_is)
    (case z_isinstance => k_is)
    (case z_all => k_is)
    (case z_min => k_is)
    (case z_ValueError => k_is)
#print axioms PySem.Challenge.cw_spoolhall_k06_lines_refused_by_place_holds
