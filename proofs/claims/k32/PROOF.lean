import PyProof.Rows.All
import Wide.All
import OpenK.AllK
import Wide.FinOn
import Lean
import PyProof.EqAt
import PyProof.EqKinds
import PyProof.TupleCall
import PyProof.EnumMake
import PyProof.Draws
import PyProof.InstStoreFacts
import PyProof.ExcArgs
import PyProof.ExcBaseAll.ValueError
import KE.KDictLaws
import OpenK.KOwn
import PyProof.ListRange
import PyProof.AttrMissHeap
import PyProof.MinMaxWalk
import PyProof.WalksMore
import PyProof.NeKinds
import KE.KDictList
import KE.KDictSum
import KE.KEqDict
import PySem.Challenge.RW_spoolhall_k32_jams_and_going_on
set_option Elab.async false
set_option linter.all false
set_option maxRecDepth 100000
namespace L2
open PySem PySem.Spec PyProof.Rows
noncomputable abbrev Key:=Sum Int Str
noncomputable def jGF:Key→Value→Bool
  | .inl k,v=>Value.isInt k v
  | .inr x,v=>Value.isStrOf x v
noncomputable def keyH (w:World):Key→Int
  | .inl k=>hashInt k
  | .inr x=>hashStr w x
theorem jBr:∀ {k:Key} {v:Value},jGF k v=true→(∃ i t,k=Sum.inl i∧v=Value.int i t)∨(∃ x t,k=Sum.inr x∧v=Value.str x t)
  | .inl i,v,h=>by
    obtain ⟨t,e⟩:=Value.isInt_shape (k:=i) (v:=v) h
    exact .inl ⟨i,t,rfl,e⟩
  | .inr x,v,h=>by
    obtain ⟨t,e⟩:=Value.isStrOf_shape (x:=x) (v:=v) h
    exact .inr ⟨x,t,rfl,e⟩
theorem jMv (i:Int) (t:Tok):jGF (.inl i) (.int i t)=true:=by simp [jGF,Value.isInt]
theorem jMw (x:Str) (t:Tok):jGF (.inr x) (.str x t)=true:=by simp [jGF,Value.isStrOf]
theorem key_ll (a b:Int):decide ((Sum.inl a:Key)=Sum.inl b)=(a == b):=by
  by_cases e:a=b
  · subst e;simp
  · have h:¬ (Sum.inl a:Key)=Sum.inl b:=fun q=>e (Sum.inl.inj q)
    rw [decide_eq_false h]
    exact (beq_eq_false_iff_ne.mpr e).symm
theorem key_rr (a b:Str):decide ((Sum.inr a:Key)=Sum.inr b)=decide (a=b):=by
  by_cases e:a=b
  · subst e;simp
  · have h:¬ (Sum.inr a:Key)=Sum.inr b:=fun q=>e (Sum.inr.inj q)
    rw [decide_eq_false h,decide_eq_false e]
theorem key_lr (a:Int) (b:Str):decide ((Sum.inl a:Key)=Sum.inr b)=false:=decide_eq_false (fun q=>nomatch q)
theorem key_rl (a:Str) (b:Int):decide ((Sum.inr a:Key)=Sum.inl b)=false:=decide_eq_false (fun q=>nomatch q)
noncomputable def jBe (prog:Program) (w:World):PySem.KeyKind prog w Key where
  is:=jGF
  hash:=keyH w
  inj:=fun v a b ha hb=>by
    rcases jBr ha with ⟨i,t,rfl,rfl⟩ | ⟨x,t,rfl,rfl⟩
    · rcases jBr hb with ⟨j,u,rfl,e⟩ | ⟨y,u,rfl,e⟩
      · injection e with e1 _;rw [e1]
      · exact nomatch e
    · rcases jBr hb with ⟨j,u,rfl,e⟩ | ⟨y,u,rfl,e⟩
      · exact nomatch e
      · injection e with e1 _;rw [e1]
  byValue:=fun k v h=>by
    rcases jBr h with ⟨i,t,rfl,rfl⟩ | ⟨x,t,rfl,rfl⟩ <;> rfl
  pyHash:=fun hv h=>by
    rcases jBr hv with ⟨i,t,rfl,rfl⟩ | ⟨x,t,rfl,rfl⟩
    · exact wpAny_pyHash_int h
    · exact wpAny_pyHash_str h
  eqBool:=fun hu hv h=>by
    rcases jBr hu with ⟨i,t,rfl,rfl⟩ | ⟨x,t,rfl,rfl⟩
    · rcases jBr hv with ⟨j,u,rfl,rfl⟩ | ⟨y,u,rfl,rfl⟩
      · rw [key_ll] at h;exact wpAny_eqBool_int h
      · rw [key_lr] at h;exact SeqAt.EqAt.int_str i t y u _ _ _ _ h
    · rcases jBr hv with ⟨j,u,rfl,rfl⟩ | ⟨y,u,rfl,rfl⟩
      · rw [key_rl] at h;exact SeqAt.EqAt.str_int x t j u _ _ _ _ h
      · rw [key_rr] at h;exact wpAny_eqBool_str h
  «strs»:=fun k x t v h=>by
    rcases jBr h with ⟨i,u,rfl,e⟩ | ⟨y,u,rfl,e⟩
    · exact nomatch e
    · injection e with e1 _
      subst e1
      cases v <;> rfl
theorem jLo (prog:Program) (w:World) (i:Int) (t:Tok):(jBe prog w).is (.inl i) (.int i t)=true:=jMv i t
theorem jLp (prog:Program) (w:World) (x:Str) (t:Tok):(jBe prog w).is (.inr x) (.str x t)=true:=jMw x t
end L2
namespace L2
open PySem PySem.Spec PyProof.Rows
inductive V where
  | non | bl (b:Bool) | int (i:Int) | str (x:Str) | byt (b:Array UInt8) | flt (b:UInt64) | ref (a:Addr) | ty (n:String)
  deriving DecidableEq
noncomputable def jAB:V→Value→Prop
  | .non,u=>u=Value.none
  | .bl b,u=>u=Value.bool b
  | .int i,u=>∃ t,u=Value.int i t
  | .str x,u=>∃ t,u=Value.str x t
  | .byt b,u=>∃ t,u=Value.bytes b t
  | .flt b,u=>∃ t,u=Value.float b t
  | .ref a,u=>u=Value.ref a
  | .ty n,u=>u=Value.type n
noncomputable abbrev jAI:List V→List Value→Prop:=Paired jAB
theorem jAI.length {xs:List V} {us:List Value} (r:jAI xs us):xs.length=us.length:=Paired.length r
theorem jAI.get:∀ {xs:List V} {us:List Value} {i:Nat} {x:V},jAI xs us→xs[i]?=some x→∃ u,us[i]?=some u∧jAB x u
  | _,_,_,_,.nil,e=>by simp at e
  | _,_,0,_,.cons r _,e=>by simp at e;subst e;exact ⟨_,rfl,r⟩
  | _,_,i + 1,x,.cons _ t,e=>by
    obtain ⟨u,h1,h2⟩:=jAI.get (i:=i) (x:=x) t (by simpa using e)
    exact ⟨u,by simpa using h1,h2⟩
theorem jAI.append:∀ {xs ys:List V} {us ws:List Value},jAI xs us→jAI ys ws→jAI (xs ++ ys) (us ++ ws)
  | _,_,_,_,.nil,s=>s
  | _,_,_,_,.cons r t,s=>.cons r (jAI.append t s)
theorem jAI.take:∀ {xs:List V} {us:List Value} (n:Nat),jAI xs us→jAI (xs.take n) (us.take n)
  | _,_,0,_=>.nil
  | _,_,_ + 1,.nil=>.nil
  | _,_,n + 1,.cons r t=>.cons r (jAI.take n t)
theorem jAI.drop:∀ {xs:List V} {us:List Value} (n:Nat),jAI xs us→jAI (xs.drop n) (us.drop n)
  | _,_,0,r=>r
  | _,_,_ + 1,.nil=>.nil
  | _,_,n + 1,.cons _ t=>jAI.drop n t
noncomputable def jCp:Option V→Option Value→Prop
  | some v,some u=>jAB v u
  | none,none=>True
  | _,_=>False
noncomputable def KV {κ:Type}:List (κ×V)→List (κ×Value)→Prop:=Paired fun (p:κ×V) (q:κ×Value)=>p.1=q.1∧jAB p.2 q.2
noncomputable def kV:Key→V
  | .inl i=>.int i
  | .inr x=>.str x
inductive HO where
  | lst (xs:List V)
  | tup (xs:List V)
  | dK (kvs:List (Key×V)) | dT (kvs:List (List Key×V))
  | set (S:Int→Bool) (n:Nat)
  | ins (C dx:Addr) (fs:List (Str×V))
  | own (x:Addr)
  | xd (fs:List (Str×V))
  | met (f x:Addr)
  | rng (lo hi:Int)
  | frz (o:Obj) (u:HO)
  | tbl (ps:Array Value)
  | ext (φ:Heap→Prop)
noncomputable abbrev Hp:=Addr→Option HO
noncomputable def upd (H:Hp) (a:Addr) (o:HO):Hp:=fun b=>if b=a then some o else H b
theorem jAc {H:Hp} {a:Addr} {o:HO}:upd H a o a=some o:=by unfold upd;rw [if_pos rfl]
theorem jAi {H:Hp} {a b:Addr} {o:HO} (h:b≠a):upd H a o b=H b:=by unfold upd;rw [if_neg h]
theorem jB0 {H:Hp} {a:Addr} {o u:HO}:upd (upd H a o) a u=upd H a u:=by
  funext b;unfold upd;split <;> rfl
theorem jAD {H:Hp} {a b:Addr} {o u:HO} (h:H a=some o) (h':H b=some u) (d:o≠u):a≠b:=by
  intro e;subst e;rw [h] at h';exact d (Option.some.inj h')
theorem jAo {H:Hp} {a b:Addr} {o:HO} (h:H a=some o) (h':H b=none):a≠b:=by
  intro e;subst e;rw [h] at h';cases h'
section
variable (P:Program) (w:World)
noncomputable def jA3 (H:Hp) (h:Heap) (a:Addr):HO→Prop
  | .lst xs=>xs.length≤sizeLine∧∃ (its:List Value) (n:Nat),jAI xs its∧h.get? a=some { cls:=.type "list",data:=.seq its.toArray n }
  | .tup xs=>xs.length≤sizeLine∧∃ its:List Value,jAI xs its∧IsTup h a its.toArray
  | .dK kvs=>kvs.length≤sizeLine∧(a == sysModules)=false∧∃ vs,KV kvs vs∧h.DictOf (jBe P w) a vs
  | .dT kvs=>kvs.length≤sizeLine∧(a == sysModules)=false∧∃ xs:List (List Key×Addr×Value),
      Paired (fun (p:List Key×V) (q:List Key×Addr×Value)=>p.1=q.1∧H q.2.1=some (.tup (p.1.map kV))∧jAB p.2 q.2.2) kvs xs ∧
      ∃ o es ep,h.get? a=some o∧o.ExactDict∧o.data=.dict es ep∧es.toList=xs.map (entryOfKey (tupleKind (jBe P w)))∧(xs.map (·.1)).Nodup
  | .set S n=>h.SetOf (intKind P w) a S n
  | .ins C dx fs=>H dx=some (.own a)∧fs.length≤1000∧dx≠a∧h.get? a=some (PySem.W.instObj C dx) ∧
      ∃ mA,h.Ns1 dx mA∧(∀ f,jCp (fs.lookup f) (mA f))∧PySem.Within mA (fs.map (·.1))
  | .own _=>∃ o,h.get? a=some o
  | .xd fs=>∃ mA,h.Ns1 a mA∧∀ f,jCp (fs.lookup f) (mA f)
  | .rng lo hi=>∃ t u v,h.get? a=some { cls:=.type "range",data:=.fields #[.int lo t,.int hi u,.int 1 v] }
  | .frz o u=>h.get? a=some o∧jA3 H h a u
  | .tbl ps=>h.get? a=some { cls:=.none,data:=.fields ps }
  | .met f x=>h.get? a=some (PySem.W.methodObj (.ref f) (.ref x))
  | .ext φ=>φ h∧(∃ o,h.get? a=some o)∧∀ h1 h2:Heap,φ h1→(∀ o,h1.get? a=some o→h2.get? a=some o)→φ h2
noncomputable def HOk (H:Hp) (h:Heap):Prop:=∀ a o,H a=some o→jA3 P w H h a o
end
section
variable {P:Program} {w:World} {H H':Hp} {h h':Heap} {a:Addr} {o:HO}
theorem jA3.lt (x:jA3 P w H h a o):a < h.objs.size:=by
  cases o with
  | lst xs=>obtain ⟨_,_,_,_,e⟩:=x;exact Heap.lt_size e
  | tup xs=>obtain ⟨_,_,_,p⟩:=x;exact p.lt
  | dK kvs=>obtain ⟨_,_,_,_,o,_,_,e,_⟩:=x;exact Heap.lt_size e
  | dT kvs=>obtain ⟨_,_,_,_,o,_,_,e,_⟩:=x;exact Heap.lt_size e
  | set S n=>obtain ⟨o,_,_,_,e,_⟩:=x;exact Heap.lt_size e
  | ins C dx fs=>obtain ⟨_,_,_,e,_⟩:=x;exact Heap.lt_size e
  | own y=>obtain ⟨_,e⟩:=x;exact Heap.lt_size e
  | xd fs=>obtain ⟨_,⟨_,_,_,e,_⟩,_⟩:=x;exact Heap.lt_size e
  | rng lo hi=>obtain ⟨_,_,_,e⟩:=x;exact Heap.lt_size e
  | frz ob u=>obtain ⟨e,_⟩:=x;exact Heap.lt_size e
  | tbl ps=>exact Heap.lt_size (show h.get? a=some _ from x)
  | met f y=>exact Heap.lt_size (show h.get? a=some _ from x)
  | ext φ=>obtain ⟨_,⟨_,e⟩,_⟩:=x;exact Heap.lt_size e
theorem Paired.mapP {α β:Type} {F G:α→β→Prop}:∀ {l₁:List α} {l₂:List β},Paired F l₁ l₂→(∀ a b,F a b→G a b)→Paired G l₁ l₂
  | _,_,.nil,_=>.nil
  | _,_,.cons r t,f=>.cons (f _ _ r) (Paired.mapP t f)
theorem jA3.stay (x:jA3 P w H h a o) (k:∀ b u,(b=a∨H b=some (.own a))→h.get? b=some u→h'.get? b=some u)
    (ho:∀ b,H b=some (.own a)→H' b=some (.own a)) (ht:∀ b xs,H b=some (.tup xs)→H' b=some (.tup xs)):jA3 P w H' h' a o:=by
  induction o with
  | lst xs=>obtain ⟨z,its,n,r,e⟩:=x;exact ⟨z,its,n,r,k _ _ (.inl rfl) e⟩
  | tup xs=>obtain ⟨z,its,r,ob,e,c⟩:=x;exact ⟨z,its,r,ob,k _ _ (.inl rfl) e,c⟩
  | dK kvs=>obtain ⟨z,y,vs,r,ob,es,ep,e,c⟩:=x;exact ⟨z,y,vs,r,ob,es,ep,k _ _ (.inl rfl) e,c⟩
  | dT kvs =>
    obtain ⟨z,y,xs,r,ob,es,ep,e,c⟩:=x
    exact ⟨z,y,xs,Paired.mapP r fun p q z=>⟨z.1,ht _ _ z.2.1,z.2.2⟩,ob,es,ep,k _ _ (.inl rfl) e,c⟩
  | set S n=>obtain ⟨ob,es,ep,t,e,c⟩:=x;exact ⟨ob,es,ep,t,k _ _ (.inl rfl) e,c⟩
  | ins C dx fs =>
    obtain ⟨d,z,ne,e,mA,⟨od,es,ep,e2,c⟩,r⟩:=x
    exact ⟨ho _ d,z,ne,k _ _ (.inl rfl) e,mA,⟨od,es,ep,k _ _ (.inr d) e2,c⟩,r⟩
  | own y=>obtain ⟨ob,e⟩:=x;exact ⟨ob,k _ _ (.inl rfl) e⟩
  | xd fs=>obtain ⟨mA,⟨od,es,ep,e,c⟩,r⟩:=x;exact ⟨mA,⟨od,es,ep,k _ _ (.inl rfl) e,c⟩,r⟩
  | rng lo hi=>obtain ⟨t,u,v,e⟩:=x;exact ⟨t,u,v,k _ _ (.inl rfl) e⟩
  | frz ob u ih=>obtain ⟨e,q⟩:=x;exact ⟨k _ _ (.inl rfl) e,ih q⟩
  | tbl ps =>
    have e:h.get? a=some { cls:=.none,data:=.fields ps }:=x
    show h'.get? a=some { cls:=.none,data:=.fields ps }
    exact k a _ (.inl rfl) e
  | met f y =>
    have e:h.get? a=some (PySem.W.methodObj (.ref f) (.ref y)):=x
    show h'.get? a=some (PySem.W.methodObj (.ref f) (.ref y))
    exact k a _ (.inl rfl) e
  | ext φ=>obtain ⟨p,⟨o,e⟩,st⟩:=x;exact ⟨st _ _ p fun o q=>k _ _ (.inl rfl) q,⟨o,k _ _ (.inl rfl) e⟩,st⟩
theorem HOk.lt (x:HOk P w H h) (e:H a=some o):a < h.objs.size:=(x a o e).lt
theorem HOk.fresh (x:HOk P w H h) (e:h.objs.size≤a):H a=none:=by
  cases q:H a with
  | none=>rfl
  | some u=>exact absurd (Nat.lt_of_lt_of_le (x.lt q) e) (Nat.lt_irrefl _)
theorem HOk.kept (x:HOk P w H h) (k:∀ b u,h.get? b=some u→h'.get? b=some u):HOk P w H h':=fun a o e =>
  (x a o e).stay (fun b u _ q=>k b u q) (fun _ q=>q) fun _ _ q=>q
theorem HOk.laid (x:HOk P w H h) (k:∀ b u,h.get? b=some u→h'.get? b=some u) (hp:h.objs.size≤a) (new:jA3 P w (upd H a o) h' a o):HOk P w (upd H a o) h':=fun b u e=>by
  have hn:=x.fresh hp
  by_cases hb:b=a
  · subst hb;rw [jAc] at e;cases e;exact new
  · rw [jAi hb] at e
    exact (x b u e).stay (fun c v _ q=>k c v q) (fun c q=>by rw [jAi (jAo q hn)];exact q) fun c xs q=>by rw [jAi (jAo q hn)];exact q
end
noncomputable def Rd (H:Hp) (a:Addr) (u:HO):Prop:=H a=some u∨∃ o,H a=some (.frz o u)
theorem Rd.ok {P:Program} {w:World} {H:Hp} {h:Heap} {a:Addr} {u:HO} (r:Rd H a u) (x:HOk P w H h):jA3 P w H h a u:=by
  rcases r with r | ⟨o,r⟩
  · exact x a u r
  · obtain ⟨_,q⟩:=x a _ r
    exact q
noncomputable def Mut:Option HO→Prop
  | some (.lst _)=>True
  | some (.dK _)=>True
  | some (.dT _)=>True
  | some (.set _ _)=>True
  | some (.ins _ _ _)=>True
  | some (.ext _)=>True
  | _=>False
section
variable {P:Program} {w:World} {H:Hp} {h h':Heap} {x e:Addr} {o':HO}
theorem HOk.write (ok:HOk P w H h) (mu:Mut (H x)) (he:e=x∨H e=some (.own x)) (k:∀ b u,b≠e→h.get? b=some u→h'.get? b=some u) (heo:∃ u,h'.get? e=some u)
    (new:jA3 P w (upd H x o') h' x o'):HOk P w (upd H x o') h':=fun b u q=>by
  have nown:∀ c y,H c=some (.own y)→c≠x:=fun c y r z=>by subst z;rw [r] at mu;exact mu
  have ntup:∀ c xs,H c=some (.tup xs)→c≠x:=fun c xs r z=>by subst z;rw [r] at mu;exact mu
  by_cases hb:b=x
  · subst hb;rw [jAc] at q;cases q;exact new
  · rw [jAi hb] at q
    by_cases hbe:b=e
    · have q':H b=some (.own x):=by
        rcases he with z | z
        · exact absurd (hbe.trans z) hb
        · rw [hbe];exact z
      rw [q] at q';cases q'
      obtain ⟨v,hv⟩:=heo
      exact ⟨v,by rw [hbe];exact hv⟩
    · refine (ok b u q).stay (fun c v hc r=>k c v ?_ r) (fun c r=>by rw [jAi (nown c b r)];exact r) fun c xs r=>by rw [jAi (ntup c xs r)];exact r
      rcases hc with rfl | hc
      · exact hbe
      · rintro rfl
        rcases he with z | z
        · exact nown c b hc z
        · rw [hc] at z;cases z;exact hb rfl
end
structure Un (fs ex:List Addr) (H H':Hp) (h h':Heap):Prop where
  keep:∀ b o,h.get? b=some o→H b=none→b ∉ fs→b ∉ ex→h'.get? b=some o
  slot:∀ b o,h.get? b=some o→H b=none→b∈fs→b ∉ ex→∃ sl,h'.get? b=some { o with slots:=sl }
  free:∀ b o,h.get? b=some o→H b=none→b ∉ ex→H' b=none
  there:∀ b o,h.get? b=some o→b ∉ ex→∃ o',h'.get? b=some o'
  tups:∀ b xs,H b=some (.tup xs)→H' b=some (.tup xs)
  frzs:∀ b o u,H b=some (.frz o u)→H' b=some (.frz o u)
  tbls:∀ b ps,H b=some (.tbl ps)→∃ more,H' b=some (.tbl (ps ++ more))
section
variable {fs fs' ex ex':List Addr} {H H1 H2:Hp} {h h1 h2 h':Heap} {a x e:Addr} {o:HO}
theorem Un.any (u:Un fs ex H H1 h h1) {b:Addr} {ob:Obj} (q:h.get? b=some ob) (n:H b=none) (hx:b ∉ ex):∃ sl,h1.get? b=some { ob with slots:=sl }:=by
  by_cases hb:b∈fs
  · exact u.slot b ob q n hb hx
  · exact ⟨ob.slots,u.keep b ob q n hb hx⟩
theorem Un.kept (k:∀ b u,h.get? b=some u→h'.get? b=some u):Un fs ex H H h h' :=
  ⟨fun b ob q _ _ _=>k b ob q,fun b ob q _ _ _=>⟨ob.slots,k b ob q⟩,fun _ _ _ n _=>n,fun b ob q _=>⟨ob,k b ob q⟩,fun _ _ q=>q,fun _ _ _ q=>q,fun _ ps q=>⟨#[],by rw [q];simp⟩⟩
theorem Un.refl:Un fs ex H H h h:=Un.kept fun _ _ q=>q
theorem Un.laid (k:∀ b u,h.get? b=some u→h'.get? b=some u) (hp:h.objs.size≤a) (hn:H a=none):Un fs ex H (upd H a o) h h' where
  keep:=fun b u q _ _ _=>k b u q
  slot:=fun b u q _ _ _=>⟨u.slots,k b u q⟩
  free:=fun b u q n _=>by rw [jAi (Nat.ne_of_lt (Nat.lt_of_lt_of_le (Heap.lt_size q) hp))];exact n
  there:=fun b u q _=>⟨u,k b u q⟩
  tups:=fun b xs q=>by rw [jAi (jAo q hn)];exact q
  frzs:=fun b u xs q=>by rw [jAi (jAo q hn)];exact q
  tbls:=fun b ps q=>⟨#[],by rw [jAi (jAo q hn),q];simp⟩
theorem Un.write (mu:Mut (H x)) (he:e=x∨H e=some (.own x)) (k:∀ b u,b≠e→h.get? b=some u→h'.get? b=some u) (heo:∃ u,h'.get? e=some u):Un fs ex H (upd H x o) h h':=by
  have hx:∀ b,H b=none→b≠x:=fun b n z=>by subst z;rw [n] at mu;exact mu
  have hb:∀ b,H b=none→b≠e:=fun b n z=>by
    subst z
    rcases he with r | r
    · exact hx b n r
    · rw [n] at r;cases r
  have hm:∀ b u,H b=some u→¬ Mut (some u)→b≠x:=fun b u q nm z=>by subst z;rw [q] at mu;exact nm mu
  refine ⟨fun b u q n _ _=>k b u (hb b n) q,fun b u q n _ _=>⟨u.slots,k b u (hb b n) q⟩,fun b u q n _=>by rw [jAi (hx b n)];exact n,fun b u q _=>?_,
    fun b xs q=>by rw [jAi (hm b _ q fun z=>z)];exact q,fun b u xs q=>by rw [jAi (hm b _ q fun z=>z)];exact q,fun b ps q=>⟨#[],by rw [jAi (hm b _ q fun z=>z),q];simp⟩⟩
  by_cases hbe:b=e
  · subst hbe;exact heo
  · exact ⟨u,k b u hbe q⟩
end
noncomputable def trk (h:Heap) (H:Hp):List Addr:=(List.range h.objs.size).filter fun a=>(H a).isSome
noncomputable def jGG (h:Heap) (H:Hp):Heap:=PySem.W.hideAll h (trk h H)
theorem jMx (h:Heap) (H:Hp):(jGG h H).objs.size=h.objs.size:=PySem.W.hideAll_size _ _
theorem jNg {h:Heap} {H:Hp} {b:Addr} {o:Obj} (e:h.get? b=some o) (n:H b=none):(jGG h H).get? b=some o :=
  PySem.W.hideAll_get _ e fun hm=>by
    have q:(H b).isSome=true:=(List.mem_filter.mp hm).2
    rw [n] at q;simp at q
theorem of_hidT {h:Heap} {H:Hp} {b:Addr} {o:Obj} (e:(jGG h H).get? b=some o):h.get? b=some o∧H b=none:=by
  have e':h.get? b=some o:=PySem.W.of_hideAll (trk h H) e
  refine ⟨e',?_⟩
  cases q:H b with
  | none=>rfl
  | some x =>
    have hm:b∈trk h H:=List.mem_filter.mpr ⟨List.mem_range.mpr (Heap.lt_size e'),by simp [q]⟩
    have z:(jGG h H).get? b=none:=PySem.W.hideAll_none (trk h H) hm
    rw [z] at e;cases e
noncomputable def allNews (g h:Heap) (L:Addr):List (Addr×Obj):=(List.range h.objs.size).filterMap fun a=>if a=L∨(g.get? a).isSome=true then none else (h.get? a).map fun o=>(a,o)
noncomputable def rest (g h:Heap) (L d:Addr):List (Addr×Obj):=(allNews g h L).filter fun p=>decide (p.1≠d)
end L2
namespace L2
open PySem PySem.Spec PyProof.Rows
structure Mod (K:PySem.W.Frag) (mg:Str→Option Value) (base:Heap):Prop where
  kin:K.In base
  glob:base.Ns mainGlobals mg
  blt:∃ mb,base.Ns builtinsNs mb∧∀ x:Str,x≠"__name__"→mb x=bootBuiltins x
  nolimit:base.NoLimit
/-- the context: a def's body (or a comprehension's block) running. base: fixed through the whole law; s₀, H₀: the entry; outer: the frames whose slots others may change (a def's callers); stack: all frames that run;
   ex: iterators that were made ahead of the entry and are walked here (a comprehension's);fn: the names whose cells were made at the entry (a def: all;a comprehension's block: its own);calm: not within an except suite;pn: pins that every state bears;xe: what is wanted of an exception that leaves the code -/
structure Cx where
  prog:Program
  w:World
  K:PySem.W.Frag
  mg:Str→Option Value
  base:Heap
  A:Around
  N:List Str
  s₀:Shared
  H₀:Hp
  env:Env
  outer:List Env
  stack:List Env
  ex:List Addr
  fn:Str→Bool
  calm:Bool
  pn:List (Addr×Obj)
  xe:Value→Shared→Prop
noncomputable def frs (l:List Env):List Addr:=l.filterMap (·.frame)
noncomputable abbrev Cx.fs (X:Cx):List Addr:=frs X.outer
noncomputable def Vis (sc:Scope) (x:Str):Prop:=sc.names.lookup x=some .local∨sc.names.lookup x=some .cell∨sc.names.lookup x=some .free
noncomputable def Loc (sc:Scope) (x:Str):Prop:=sc.names.lookup x=some .local∨sc.names.lookup x=some .cell
noncomputable def Look (env:Env) (h:Heap) (m:Str→Option Value) (x:Str) (u:Value):Prop :=
  (env.kindOf x=some .local∧m x=some u)∨((env.kindOf x=some .cell∨env.kindOf x=some .free)∧∃ c,env.cells.lookup x=some c∧h.IsCell c (some u))
structure Cx.Ok (X:Cx):Prop where
  mod:Mod X.K X.mg X.base
  kind:X.env.scope.kind=.function
  glob:X.env.globals=mainGlobals
  blt:X.env.builtins=builtinsNs
  above:X.s₀.heap.objs.size≤X.env.locals
  inj:∀ x y c,X.env.cells.lookup x=some c→X.env.cells.lookup y=some c→x=y
  has:∀ x,(X.env.kindOf x=some .cell∨X.env.kindOf x=some .free)→∃ c,X.env.cells.lookup x=some c
  cab:∀ x c,X.fn x=true→X.env.cells.lookup x=some c→X.s₀.heap.objs.size≤c
  hd:X.calm=true→X.A.handled=none
  frames:X.A.frames=some X.stack
  stk:X.stack=X.outer∨(X.stack=X.env :: X.outer∧X.env.frame=some X.env.locals)
  exf:∀ b∈X.ex,b≠X.env.locals∧∀ x c,X.env.cells.lookup x=some c→c≠b
  bs:∀ b o,X.base.get? b=some o→X.s₀.heap.get? b=some o∧X.H₀ b=none
  bsz:X.base.objs.size≤X.s₀.heap.objs.size
  noex:∀ b o,X.base.get? b=some o→b ∉ X.ex
  exfs:∀ b∈X.ex,b ∉ X.fs
  funs:X.s₀.heap.FunFrames X.base X.outer
  frf:∀ b∈X.fs,X.H₀ b=none
structure Inv (X:Cx) (pins:List (Addr×Obj)) (σ:List (Option V)) (H:Hp) (s:Shared):Prop where
  ok:X.Ok
  os:s.os=X.s₀.os
  bare:AllBare s.gens
  base:Un X.fs X.ex X.H₀ H X.s₀.heap s.heap
  loc:∃ m,s.heap.Ns X.env.locals m∧∀ (i:Nat) (x:Str) (v:V),X.N[i]?=some x→σ[i]?=some (some v)→Vis X.env.scope x→∃ u,jAB v u∧Look X.env s.heap m x u
  cell:∀ x c,X.env.cells.lookup x=some c→∃ v,s.heap.IsCell c v
  free:H X.env.locals=none
  freeC:∀ x c,X.env.cells.lookup x=some c→H c=none
  pin:∀ p∈X.pn ++ pins,s.heap.get? p.1=some p.2∧H p.1=none∧p.1≠X.env.locals∧p.1 ∉ X.fs∧∀ v,p.2.data≠.cell v
  hok:HOk X.prog X.w H s.heap
  len:σ.length=X.N.length
section
variable {X:Cx} {pins:List (Addr×Obj)} {σ:List (Option V)} {H H':Hp} {s:Shared} {h':Heap}
theorem Cx.Ok.nofr (ok:X.Ok) {b:Addr} {o:Obj} (e:X.base.get? b=some o):b ∉ X.fs:=fun hb=>by
  have:=(ok.funs.mem hb).1
  rw [e] at this;cases this
theorem Inv.bs (I:Inv X pins σ H s):∀ b o,X.base.get? b=some o→s.heap.get? b=some o∧H b=none:=fun b o e =>
  ⟨I.base.keep b o (I.ok.bs b o e).1 (I.ok.bs b o e).2 (I.ok.nofr e) (I.ok.noex b o e),I.base.free b o (I.ok.bs b o e).1 (I.ok.bs b o e).2 (I.ok.noex b o e)⟩
theorem Inv.bk (I:Inv X pins σ H s):∀ b o,X.base.get? b=some o→s.heap.get? b=some o:=fun b o e=>(I.bs b o e).1
theorem Inv.mod (I:Inv X pins σ H s):Mod X.K X.mg X.base:=I.ok.mod
theorem Inv.kIn (I:Inv X pins σ H s):X.K.In s.heap:=I.ok.mod.kin.keeps I.bk
theorem Inv.lt (I:Inv X pins σ H s):X.env.locals < s.heap.objs.size:=let ⟨_,hn,_⟩:=I.loc;hn.lt
theorem Inv.sz (I:Inv X pins σ H s):X.s₀.heap.objs.size≤s.heap.objs.size:=Nat.le_trans I.ok.above (Nat.le_of_lt I.lt)
theorem Inv.nofs (I:Inv X pins σ H s) {a:Addr} (h:s.heap.objs.size≤a):a ∉ X.fs:=fun hb=>by
  obtain ⟨_,o,ho,_⟩:=I.ok.funs.mem hb
  exact absurd (Nat.lt_of_lt_of_le (Heap.lt_size ho) (Nat.le_trans I.sz h)) (Nat.lt_irrefl _)
theorem Inv.cne (I:Inv X pins σ H s):∀ x c,X.env.cells.lookup x=some c→c≠X.env.locals:=fun x c e z=>by
  obtain ⟨v,o,ho,hd⟩:=I.cell x c e
  obtain ⟨m,⟨o',es,ep,ho',hd',_⟩,_⟩:=I.loc
  rw [z,ho'] at ho;cases ho;rw [hd'] at hd;cases hd
theorem Inv.funs (I:Inv X pins σ H s):s.heap.FunFrames X.base X.outer:=by
  have all:∀ (l:List Env),(∀ b∈frs l,b∈X.fs)→X.s₀.heap.FunFrames X.base l→s.heap.FunFrames X.base l:=by
    intro l
    induction l with
    | nil=>intro _ _;trivial
    | cons env r ih =>
      intro hs hl
      obtain ⟨hk,⟨L,o,hf,hn,ho,hd⟩,hr⟩:=hl
      have hL:L∈X.fs:=hs L (by unfold frs;rw [List.filterMap_cons,hf];exact List.mem_cons_self)
      obtain ⟨sl,e⟩:=I.base.slot L o ho (I.ok.frf L hL) hL fun z=>I.ok.exfs L z hL
      exact ⟨hk,⟨L,_,hf,hn,e,hd⟩,ih (fun b hb=>hs b (by unfold frs;rw [List.filterMap_cons,hf];exact List.mem_cons_of_mem _ hb)) hr⟩
  exact all X.outer (fun _ hb=>hb) I.ok.funs
theorem Inv.stack (I:Inv X pins σ H s):s.heap.FunFrames X.base X.stack:=by
  rcases I.ok.stk with e | ⟨e,hf⟩
  · rw [e];exact I.funs
  · rw [e]
    obtain ⟨m,hn,_⟩:=I.loc
    refine .cons (by rw [I.ok.kind];decide) hf hn ?_ I.funs
    exact Heap.get?_none_of_le (Nat.le_trans I.ok.bsz I.ok.above)
theorem Inv.stkSub (I:Inv X pins σ H s):∀ b∈frs X.stack,b∈X.env.locals :: X.fs:=fun b hb=>by
  rcases I.ok.stk with e | ⟨e,hf⟩
  · rw [e] at hb;exact List.mem_cons_of_mem _ hb
  · rw [e] at hb
    unfold frs at hb
    rw [List.filterMap_cons,hf] at hb
    exact hb
theorem Inv.stkFree (I:Inv X pins σ H s):∀ b∈frs X.stack,H b=none:=fun b hb=>by
  rcases List.mem_cons.mp (I.stkSub b hb) with e | hb
  · rw [e];exact I.free
  · obtain ⟨_,o,ho,_⟩:=I.ok.funs.mem hb
    exact I.base.free b o ho (I.ok.frf b hb) fun z=>I.ok.exfs b z hb
theorem Inv.step {g':Array GenState} {t':Nat} {d':Drawn} {ch:List Addr} (I:Inv X pins σ H s)
    (hch:∀ b∈ch,(b∈X.ex∨X.s₀.heap.objs.size≤b)∧b≠X.env.locals∧(∀ x c,X.env.cells.lookup x=some c→c≠b)∧∀ p∈X.pn ++ pins,p.1≠b)
    (keep:∀ b o,b≠X.env.locals→b ∉ X.fs→b ∉ ch→s.heap.get? b=some o→H b=none→h'.get? b=some o)
    (slot:∀ b o,b≠X.env.locals→b∈X.fs→b ∉ ch→s.heap.get? b=some o→H b=none→∃ sl,h'.get? b=some { o with slots:=sl }) (free:∀ b o,b ∉ ch→s.heap.get? b=some o→H b=none→H' b=none)
    (there:∀ b o,b ∉ ch→s.heap.get? b=some o→∃ o',h'.get? b=some o')
    (tups:∀ b xs,H b=some (.tup xs)→H' b=some (.tup xs)) (frzs:∀ b o u,H b=some (.frz o u)→H' b=some (.frz o u)) (tbls:∀ b ps,H b=some (.tbl ps)→∃ more,H' b=some (.tbl (ps ++ more)))
    (ns:∀ m,s.heap.Ns X.env.locals m→h'.Ns X.env.locals m) (hok:HOk X.prog X.w H' h') (hg:AllBare g') :
    Inv X pins σ H' { s with heap:=h',gens:=g',drawn:=d',toks:=t' }:=by
  have neL:∀ b o,X.s₀.heap.get? b=some o→b≠X.env.locals:=fun b o e=>Nat.ne_of_lt (Nat.lt_of_lt_of_le (Heap.lt_size e) I.ok.above)
  have neC:∀ b o,X.s₀.heap.get? b=some o→b ∉ X.ex→b ∉ ch:=fun b o e hx hb=>by
    rcases (hch b hb).1 with z | z
    · exact hx z
    · exact absurd (Nat.lt_of_lt_of_le (Heap.lt_size e) z) (Nat.lt_irrefl _)
  have cellK:∀ x c,X.env.cells.lookup x=some c→∀ v,s.heap.IsCell c v→h'.IsCell c v:=fun x c e v ⟨o,ho,hd⟩=>by
    have nch:c ∉ ch:=fun z=>(hch c z).2.2.1 x c e rfl
    by_cases hc:c∈X.fs
    · obtain ⟨sl,q⟩:=slot c o (I.cne x c e) hc nch ho (I.freeC x c e)
      exact ⟨_,q,hd⟩
    · exact ⟨o,keep c o (I.cne x c e) hc nch ho (I.freeC x c e),hd⟩
  refine ⟨I.ok,I.os,hg,⟨fun b o e n hb hx=>?_,fun b o e n hb hx=>?_,fun b o e n hx=>?_,fun b o e hx=>?_,fun b xs e=>tups b xs (I.base.tups b xs e),fun b o xs e=>frzs b o xs (I.base.frzs b o xs e),fun b ps e=>?_⟩,?_,fun x c e=>?_,?_,fun x c e=>?_,fun p hp=>?_,hok,I.len⟩
  · exact keep b o (neL b o e) hb (neC b o e hx) (I.base.keep b o e n hb hx) (I.base.free b o e n hx)
  · obtain ⟨sl,e1⟩:=I.base.slot b o e n hb hx
    obtain ⟨sl',e2⟩:=slot b _ (neL b o e) hb (neC b o e hx) e1 (I.base.free b o e n hx)
    exact ⟨sl',e2⟩
  · obtain ⟨o',e1⟩:=I.base.there b o e hx
    exact free b o' (neC b o e hx) e1 (I.base.free b o e n hx)
  · obtain ⟨o',e1⟩:=I.base.there b o e hx
    exact there b o' (neC b o e hx) e1
  · obtain ⟨m1,e1⟩:=I.base.tbls b ps e
    obtain ⟨m2,e2⟩:=tbls b _ e1
    exact ⟨m1 ++ m2,by rw [e2,Array.append_assoc]⟩
  · obtain ⟨m,hn,hl⟩:=I.loc
    refine ⟨m,ns m hn,fun i x v e1 e2 e3=>?_⟩
    obtain ⟨u,r,l⟩:=hl i x v e1 e2 e3
    refine ⟨u,r,?_⟩
    rcases l with l | ⟨k,c,e,z⟩
    · exact .inl l
    · exact .inr ⟨k,c,e,cellK x c e _ z⟩
  · obtain ⟨v,z⟩:=I.cell x c e
    exact ⟨v,cellK x c e v z⟩
  · obtain ⟨m,⟨o,_,_,ho,_⟩,_⟩:=I.loc
    exact free _ o (fun z=>(hch _ z).2.1 rfl) ho I.free
  · obtain ⟨v,o,ho,hd⟩:=I.cell x c e
    exact free c o (fun z=>(hch c z).2.2.1 x c e rfl) ho (I.freeC x c e)
  · obtain ⟨e,n,ne,nf,d⟩:=I.pin p hp
    have nch:p.1 ∉ ch:=fun z=>(hch p.1 z).2.2.2 p hp rfl
    exact ⟨keep p.1 p.2 ne nf nch e n,free p.1 p.2 nch e n,ne,nf,d⟩
theorem Inv.un {t':Nat} (I:Inv X pins σ H s) (u:Un X.fs [] H H' s.heap h') (hok:HOk X.prog X.w H' h'):Inv X pins σ H' { s with heap:=h',toks:=t' }:=by
  obtain ⟨m,⟨o,es,ep,ho,r⟩,_⟩:=id I.loc
  obtain ⟨sl,hL⟩:=u.any ho I.free (by simp)
  exact I.step (g':=s.gens) (d':=s.drawn) (ch:=[]) (fun _ z=>nomatch z) (fun b o _ hb _ e n=>u.keep b o e n hb (by simp)) (fun b o _ hb _ e n=>u.slot b o e n hb (by simp)) (fun b o _ e n=>u.free b o e n (by simp)) (fun b o _ e=>u.there b o e (by simp)) u.tups u.frzs u.tbls (fun m' hm=>by
    obtain ⟨o',es',ep',ho',r'⟩:=hm
    rw [ho] at ho';cases ho'
    exact ⟨_,es',ep',hL,r'⟩) hok I.bare
theorem Inv.call {g':Array GenState} {t':Nat} {d':Drawn} {ch:List Addr} (I:Inv X pins σ H s) (u:Un (frs X.stack) ch H H' s.heap h') (hok:HOk X.prog X.w H' h') (hg:AllBare g')
    (hch:∀ b∈ch,(b∈X.ex∨X.s₀.heap.objs.size≤b)∧b≠X.env.locals∧(∀ x c,X.env.cells.lookup x=some c→c≠b)∧∀ p∈X.pn ++ pins,p.1≠b) :
    Inv X pins σ H' { s with heap:=h',gens:=g',drawn:=d',toks:=t' }:=by
  obtain ⟨m,⟨o,es,ep,ho,r⟩,_⟩:=id I.loc
  obtain ⟨sl,hL⟩:=u.any ho I.free fun z=>(hch _ z).2.1 rfl
  exact I.step (ch:=ch) hch (fun b o hL hb hc e n=>u.keep b o e n (fun z=>(List.mem_cons.mp (I.stkSub b z)).elim hL hb) hc) (fun b o _ _ hc e n=>u.any e n hc) (fun b o hc e n=>u.free b o e n hc) (fun b o hc e=>u.there b o e hc) u.tups u.frzs u.tbls (fun m' hm=>by
    obtain ⟨o',es',ep',ho',r'⟩:=hm
    rw [ho] at ho';cases ho'
    exact ⟨_,es',ep',hL,r'⟩) hok hg
theorem Inv.turned {t':Nat} {it:Addr} (I:Inv X pins σ H s) (k:∀ b o,b≠it→s.heap.get? b=some o→h'.get? b=some o) (hn:H it=none) (hL:it≠X.env.locals)
    (h1:it∈X.ex∨X.s₀.heap.objs.size≤it) (h2:∀ x c,X.env.cells.lookup x=some c→c≠it) (h3:∀ p∈X.pn ++ pins,p.1≠it):Inv X pins σ H { s with heap:=h',toks:=t' }:=by
  have nit:∀ b u,H b=some u→b≠it:=fun b u e z=>by rw [z,hn] at e;cases e
  refine I.step (g':=s.gens) (d':=s.drawn) (ch:=[it]) (fun b hb=>?_) (fun b o _ _ hc e _=>k b o (fun z=>hc (by simp [z])) e) (fun b o _ _ hc e _=>⟨o.slots,k b o (fun z=>hc (by simp [z])) e⟩) (fun _ _ _ _ n=>n)
    (fun b o hc e=>⟨o,k b o (fun z=>hc (by simp [z])) e⟩) (fun _ _ e=>e) (fun _ _ _ e=>e) (fun b ps e=>⟨#[],by rw [e];simp⟩) (fun m hm=>?_) (fun b u e=>?_) I.bare
  · have e:b=it:=by simpa using hb
    subst e
    exact ⟨h1,hL,h2,h3⟩
  · obtain ⟨o,es,ep,ho,r⟩:=hm
    exact ⟨o,es,ep,k _ o (Ne.symm hL) ho,r⟩
  · refine (I.hok b u e).stay (fun c v hc q=>k c v ?_ q) (fun _ q=>q) fun _ _ q=>q
    rcases hc with z | z
    · rw [z];exact nit b u e
    · exact nit c _ z
theorem Inv.tok (I:Inv X pins σ H s) (t:Nat):Inv X pins σ H { s with toks:=t }:=I.un (h':=s.heap) (t':=t) Un.refl I.hok
theorem Inv.kept {t':Nat} (I:Inv X pins σ H s) (k:∀ b u,s.heap.get? b=some u→h'.get? b=some u):Inv X pins σ H { s with heap:=h',toks:=t' }:=I.un (Un.kept k) (I.hok.kept k)
theorem Inv.laid {a:Addr} {o:HO} {t':Nat} (I:Inv X pins σ H s) (k:∀ b u,s.heap.get? b=some u→h'.get? b=some u) (hp:s.heap.objs.size≤a) (new:jA3 X.prog X.w (upd H a o) h' a o) :
    Inv X pins σ (upd H a o) { s with heap:=h',toks:=t' }:=I.un (Un.laid k hp (I.hok.fresh hp)) (I.hok.laid k hp new)
theorem Inv.write {x e:Addr} {o:HO} {t':Nat} (I:Inv X pins σ H s) (mu:Mut (H x)) (he:e=x∨H e=some (.own x)) (k:∀ b u,b≠e→s.heap.get? b=some u→h'.get? b=some u) (heo:∃ u,h'.get? e=some u)
    (new:jA3 X.prog X.w (upd H x o) h' x o):Inv X pins σ (upd H x o) { s with heap:=h',toks:=t' }:=I.un (Un.write mu he k heo) (I.hok.write mu he k heo new)
theorem Inv.pins_of {pins':List (Addr×Obj)} (I:Inv X pins σ H s) (h:∀ p∈pins',s.heap.get? p.1=some p.2∧H p.1=none∧p.1≠X.env.locals∧p.1 ∉ X.fs∧∀ v,p.2.data≠.cell v):Inv X pins' σ H s :=
  ⟨I.ok,I.os,I.bare,I.base,I.loc,I.cell,I.free,I.freeC,fun p hp=>(List.mem_append.mp hp).elim (fun z=>I.pin p (List.mem_append_left _ z)) (h p),I.hok,I.len⟩
theorem jHU {N:List Str} (hN:N.Nodup) {i j:Nat} {x:Str} (a:N[i]?=some x) (b:N[j]?=some x):i=j:=by
  obtain ⟨h1,e1⟩:=List.getElem?_eq_some_iff.mp a
  obtain ⟨h2,e2⟩:=List.getElem?_eq_some_iff.mp b
  exact (List.getElem_inj hN).mp (e1.trans e2.symm)
theorem jMy {M:Model} {A:Around} {E:Value→Shared→Prop} {i:Nat} {x:Str} {v:V} {u:Value} {Q:Unit→Shared→Prop} (I:Inv X pins σ H s) (hN:X.N.Nodup) (hi:X.N[i]?=some x) (hx:Loc X.env.scope x) (r:jAB v u)
    (h:∀ s',Inv X pins (σ.set i (some v)) H s'→(∃ a,Heap.SameBut a s.heap s'.heap∧(a=X.env.locals∨X.env.cells.lookup x=some a))→Q () s') (hf:X.fn x=true∨X.env.scope.names.lookup x=some .local:=by first | exact .inl rfl | exact .inr rfl | assumption):wpAny M A (storeName X.env x u) Q E s:=by
  obtain ⟨m,hn,hl⟩:=id I.loc
  have hcls:(X.env.scope.kind == .class || (X.env.scope.kind == .module && X.env.locals != X.env.globals))=false:=by rw [I.ok.kind];rfl
  have hiσ:i < σ.length:=by rw [I.len];exact (List.getElem?_eq_some_iff.mp hi).1
  have cne:=I.cne
  have tracked:∀ {a:Addr} {h':Heap},(∃ o,s.heap.get? a=some o∧H a=none)→Heap.SameBut a s.heap h'→HOk X.prog X.w H h':=fun {a h'} ha hs b ob e=>by
    obtain ⟨_,_,hfree⟩:=ha
    refine (I.hok b ob e).stay (fun c w' hc q=>(hs.2 c ?_).trans q) (fun _ q=>q) fun _ _ q=>q
    rintro rfl
    rcases hc with rfl | hc
    · rw [hfree] at e;cases e
    · rw [hfree] at hc;cases hc
  rcases hx with hk | hk
  · refine wpAny_storeName_local hk hn (fun h' hn' hs=>?_) hcls
    obtain ⟨oL,_,_,hoL,_⟩:=id hn
    refine h _ ⟨I.ok,I.os,I.bare,⟨fun b o e n hb hx=>?_,fun b o e n hb hx=>?_,I.base.free,fun b o e hx=>?_,I.base.tups,I.base.frzs,I.base.tbls⟩,⟨_,hn',fun j y v' e1 e2 e3=>?_⟩,fun y c e=>?_,I.free,I.freeC,fun p hp=>?_,tracked ⟨oL,hoL,I.free⟩ hs,by simpa using I.len⟩ ⟨_,hs,.inl rfl⟩
    · exact (hs.2 b (Nat.ne_of_lt (Nat.lt_of_lt_of_le (Heap.lt_size e) I.ok.above))).trans (I.base.keep b o e n hb hx)
    · obtain ⟨sl,e1⟩:=I.base.slot b o e n hb hx
      exact ⟨sl,(hs.2 b (Nat.ne_of_lt (Nat.lt_of_lt_of_le (Heap.lt_size e) I.ok.above))).trans e1⟩
    · obtain ⟨o',e1⟩:=I.base.there b o e hx
      exact ⟨o',(hs.2 b (Nat.ne_of_lt (Nat.lt_of_lt_of_le (Heap.lt_size e) I.ok.above))).trans e1⟩
    · by_cases hj:j=i
      · subst hj
        rw [hi] at e1;cases e1
        rw [List.getElem?_set_self hiσ] at e2
        cases e2
        exact ⟨u,r,.inl ⟨hk,by simp⟩⟩
      · rw [List.getElem?_set_ne (Ne.symm hj)] at e2
        obtain ⟨u',r',q⟩:=hl j y v' e1 e2 e3
        refine ⟨u',r',?_⟩
        rcases q with ⟨k,e⟩ | ⟨k,c,e,z⟩
        · refine .inl ⟨k,?_⟩
          have:y≠x:=fun e=>hj (jHU hN e1 (e ▸ hi))
          simp [this,e]
        · exact .inr ⟨k,c,e,z.sameBut hs (cne y c e)⟩
    · obtain ⟨w',z⟩:=I.cell y c e
      exact ⟨w',z.sameBut hs (cne y c e)⟩
    · obtain ⟨e,n,ne,nf,d⟩:=I.pin p hp
      exact ⟨(hs.2 p.1 ne).trans e,n,ne,nf,d⟩
  · have hfn:X.fn x=true:=by
      rcases hf with z | z
      · exact z
      · rw [z] at hk;cases hk
    obtain ⟨c,hc⟩:=I.ok.has x (.inl hk)
    obtain ⟨w',z⟩:=I.cell x c hc
    refine wpAny_storeName_cell I.ok.kind hk hc z (fun h' hc' hs=>?_)
    obtain ⟨oc,hoc,hocd⟩:=id z
    refine h { s with heap:=h' } ⟨I.ok,I.os,I.bare,⟨fun b o e n hb hx=>?_,fun b o e n hb hx=>?_,I.base.free,fun b o e hx=>?_,I.base.tups,I.base.frzs,I.base.tbls⟩,⟨m,hn.sameBut hs (Ne.symm (cne x c hc)),fun j y v' e1 e2 e3=>?_⟩,fun y c' e=>?_,I.free,I.freeC,fun p hp=>?_,tracked ⟨oc,hoc,I.freeC x c hc⟩ hs,by simpa using I.len⟩ ⟨c,hs,.inr hc⟩
    · exact (hs.2 b (Nat.ne_of_lt (Nat.lt_of_lt_of_le (Heap.lt_size e) (I.ok.cab x c hfn hc)))).trans (I.base.keep b o e n hb hx)
    · obtain ⟨sl,e1⟩:=I.base.slot b o e n hb hx
      exact ⟨sl,(hs.2 b (Nat.ne_of_lt (Nat.lt_of_lt_of_le (Heap.lt_size e) (I.ok.cab x c hfn hc)))).trans e1⟩
    · obtain ⟨o',e1⟩:=I.base.there b o e hx
      exact ⟨o',(hs.2 b (Nat.ne_of_lt (Nat.lt_of_lt_of_le (Heap.lt_size e) (I.ok.cab x c hfn hc)))).trans e1⟩
    · by_cases hj:j=i
      · subst hj
        rw [hi] at e1;cases e1
        rw [List.getElem?_set_self hiσ] at e2
        cases e2
        exact ⟨u,r,.inr ⟨.inl hk,c,hc,hc'⟩⟩
      · rw [List.getElem?_set_ne (Ne.symm hj)] at e2
        obtain ⟨u',r',q⟩:=hl j y v' e1 e2 e3
        refine ⟨u',r',?_⟩
        rcases q with q | ⟨k,c',e,z'⟩
        · exact .inl q
        · refine .inr ⟨k,c',e,z'.sameBut hs ?_⟩
          rintro rfl
          exact hj (jHU hN e1 (I.ok.inj _ _ _ e hc ▸ hi))
    · by_cases hcc:c'=c
      · subst hcc;exact ⟨_,hc'⟩
      · obtain ⟨w2,z2⟩:=I.cell y c' e
        exact ⟨w2,z2.sameBut hs hcc⟩
    · obtain ⟨e,n,ne,nf,d⟩:=I.pin p hp
      refine ⟨(hs.2 p.1 ?_).trans e,n,ne,nf,d⟩
      intro q
      rw [q,hoc] at e
      have q':oc=p.2:=Option.some.inj e
      exact d w' (by rw [← q'];exact hocd)
theorem jFE {M:Model} {A:Around} {E:Value→Shared→Prop} {i:Nat} {x:Str} {v:V} {u:Value} {Q:Unit→Shared→Prop} (I:Inv X pins σ H s) (hN:X.N.Nodup) (hi:X.N[i]?=some x) (hx:Loc X.env.scope x) (r:jAB v u)
    (h:∀ s',Inv X pins (σ.set i (some v)) H s'→Q () s') (hf:X.fn x=true∨X.env.scope.names.lookup x=some .local:=by first | exact .inl rfl | exact .inr rfl | assumption):wpAny M A (storeName X.env x u) Q E s :=
  jMy I hN hi hx r (fun s' I' _=>h s' I') hf
theorem Inv.call' {s':Shared} {ch:List Addr} (I:Inv X pins σ H s) (ho:s'.os=s.os) (u:Un (frs X.stack) ch H H' s.heap s'.heap) (hok:HOk X.prog X.w H' s'.heap) (hg:AllBare s'.gens)
    (hch:∀ b∈ch,(b∈X.ex∨X.s₀.heap.objs.size≤b)∧b≠X.env.locals∧(∀ x c,X.env.cells.lookup x=some c→c≠b)∧∀ p∈X.pn ++ pins,p.1≠b):Inv X pins σ H' s':=by
  obtain ⟨h',g',d',t',o'⟩:=s'
  have e:o'=s.os:=ho
  subst e
  exact I.call (g':=g') (t':=t') (d':=d') u hok hg hch
end
noncomputable abbrev XK:=Value→Option Addr→Hp→Prop
noncomputable abbrev St:=List (Option V)
noncomputable abbrev VK:=V→Hp→Prop
noncomputable abbrev TE:=St→Hp→VK→Prop
noncomputable abbrev TT:=St→Hp→(Bool→Hp→Prop)→Prop
noncomputable abbrev TA:=St→Hp→(List V→Hp→Prop)→Prop
structure jCq where
  nx:St→Hp→Prop
  rt:VK
  bk:St→Hp→Prop:=fun _ _=>False
  ct:St→Hp→Prop:=fun _ _=>False
noncomputable abbrev TS:=jCq→St→Hp→Prop
noncomputable def EP (X:Cx) (pins:List (Addr×Obj)) (σ:St) (Q:VK) (u:Value) (s':Shared):Prop:=∃ v H',Inv X pins σ H' s'∧jAB v u∧Q v H'
noncomputable def TP (X:Cx) (pins:List (Addr×Obj)) (σ:St) (Q:Bool→Hp→Prop) (b:Bool) (s':Shared):Prop:=∃ H',Inv X pins σ H' s'∧Q b H'
noncomputable def AP (X:Cx) (pins:List (Addr×Obj)) (σ:St) (Q:List V→Hp→Prop) (us:List Value) (s':Shared):Prop:=∃ vs H',Inv X pins σ H' s'∧jAI vs us∧Q vs H'
noncomputable def SP (X:Cx) (pins:List (Addr×Obj)) (D:jCq) (f:Flow) (s':Shared):Prop :=
  match f with
  | .next=>∃ σ' H',Inv X pins σ' H' s'∧D.nx σ' H'
  | .brk=>∃ σ' H',Inv X pins σ' H' s'∧D.bk σ' H'
  | .cont=>∃ σ' H',Inv X pins σ' H' s'∧D.ct σ' H'
  | .ret u=>∃ v σ' H',Inv X pins σ' H' s'∧jAB v u∧D.rt v H'
noncomputable def PE (X:Cx) (e:Expr) (t:TE):Prop :=
  ∀ (pins:List (Addr×Obj)) (s:Shared) (σ:St) (H:Hp) (Q:VK),Inv X pins σ H s→t σ H Q→wpAny (model X.prog X.w) X.A (eval e X.env) (EP X pins σ Q) X.xe s
noncomputable def PT (X:Cx) (e:Expr) (t:TT):Prop :=
  ∀ (pins:List (Addr×Obj)) (s:Shared) (σ:St) (H:Hp) (Q:Bool→Hp→Prop),Inv X pins σ H s→t σ H Q→wpAny (model X.prog X.w) X.A (isTrue e X.env (eval e X.env)) (TP X pins σ Q) X.xe s
noncomputable def PW (X:Cx) (e:Expr) (t:TT):Prop :=
  ∀ (whole:Sem Value) (pins:List (Addr×Obj)) (s:Shared) (σ:St) (H:Hp) (Q:Bool→Hp→Prop),Inv X pins σ H s→t σ H Q→wpAny (model X.prog X.w) X.A (isTrue e X.env whole) (TP X pins σ Q) X.xe s
theorem PW.pt {X:Cx} {e:Expr} {t:TT} (h:PW X e t):PT X e t:=h _
noncomputable def PA (X:Cx) (es:List Expr) (t:TA):Prop :=
  ∀ (pos:Pos) (pins:List (Addr×Obj)) (s:Shared) (σ:St) (H:Hp) (Q:List V→Hp→Prop),Inv X pins σ H s→t σ H Q→wpAny (model X.prog X.w) X.A (spliced (backTo pos (starEach es X.env))) (AP X pins σ Q) X.xe s
noncomputable def PS (X:Cx) (st:Stmt) (t:TS):Prop :=
  ∀ (pins:List (Addr×Obj)) (s:Shared) (σ:St) (H:Hp) (D:jCq),Inv X pins σ H s→t D σ H→wpAny (model X.prog X.w) X.A (exec st X.env) (SP X pins D) X.xe s
noncomputable def PSs (X:Cx) (st:List Stmt) (t:TS):Prop :=
  ∀ (pins:List (Addr×Obj)) (s:Shared) (σ:St) (H:Hp) (D:jCq),Inv X pins σ H s→t D σ H→wpAny (model X.prog X.w) X.A (execs st X.env) (SP X pins D) X.xe s
theorem thn {α:Type} {t:Sem α} {Q Q':α→Shared→Prop} {M:Model} {A:Around} {E:Value→Shared→Prop} {s:Shared} (h:wpAny M A t Q E s) (hQ:∀ a s,Q a s→Q' a s):wpAny M A t Q' E s:=wpAny_mono h hQ fun _ _ x=>x
end L2
namespace L2
open PySem PySem.Spec PyProof.Rows
section
variable {X:Cx}
noncomputable def jGe (i:Nat):TE:=fun σ H Q=>∃ v,σ[i]?=some (some v)∧Q v H
noncomputable def tC (v:V):TE:=fun _ H Q=>Q v H
theorem pe_var {i:Nat} {x:Str} {pos:Pos} (hN:X.N[i]?=some x) (hv:Vis X.env.scope x) (hd:(x == ("__debug__":Str))=false:=by decide) (hcd:(x == ("__classdict__":Str))=false:=by decide):PE X (.Name x pos) (jGe i):=by
  intro pins s σ H Q I h
  obtain ⟨v,e,h⟩:=h
  obtain ⟨m,hn,hl⟩:=I.loc
  obtain ⟨u,r,l⟩:=hl i x v hN e hv
  have fin:EP X pins σ Q u s:=⟨v,H,I,r,h⟩
  rcases l with ⟨hk,hm⟩ | ⟨hk,c,hc,hcell⟩
  · exact wpAny_Name (wpAny_loadName_local I.ok.kind hk hn hm fin) hd
  · rcases hk with hk | hk
    · exact wpAny_Name (wpAny_loadName_cell I.ok.kind hk hc hcell fin) hd
    · exact wpAny_Name (wpAny_loadName_free I.ok.kind hk hc hcell fin hcd) hd
theorem jAg {i j pos}:PE X (.Constant (.int i) j pos) (tC (.int i)):=fun _ _ _ H _ I h=>wpAny_Constant_int ⟨.int i,H,I.tok _,⟨_,rfl⟩,h⟩
theorem jBL {b j pos}:PE X (.Constant (.bool b) j pos) (tC (.bl b)):=fun _ _ _ H _ I h=>Constant_bool ⟨.bl b,H,I,rfl,h⟩
theorem jAY {j pos}:PE X (.Constant .none j pos) (tC .non):=fun _ _ _ H _ I h=>Constant_none ⟨.non,H,I,rfl,h⟩
theorem jAj {x j pos}:PE X (.Constant (.str x) j pos) (tC (.str x)):=fun _ _ _ H _ I h=>Calls.Constant_str ⟨.str x,H,I.tok _,⟨_,rfl⟩,h⟩
noncomputable def Gl (X:Cx) (x:Str):Prop:=X.env.kindOf x=some .globalImplicit
theorem jDM {E:Value→Shared→Prop} {pins:List (Addr×Obj)} {s:Shared} {σ:St} {H:Hp} {x:Str} {u:Value} {pos:Pos} {Q:Value→Shared→Prop} (I:Inv X pins σ H s) (hg:Gl X x) (hm:X.mg x=some u) (h:Q u s)
    (hd:(x == ("__debug__":Str))=false:=by decide):wpAny (model X.prog X.w) X.A (eval (.Name x pos) X.env) Q E s :=
  Calls.Name_function_global I.ok.kind hg (Calls.loadGlobal_global (by rw [I.ok.glob];exact I.mod.glob.keeps I.bk) hm h) hd
theorem jGq {E:Value→Shared→Prop} {pins:List (Addr×Obj)} {s:Shared} {σ:St} {H:Hp} {x:Str} {u:Value} {pos:Pos} {Q:Value→Shared→Prop} (I:Inv X pins σ H s) (hg:Gl X x) (hm:X.mg x=none) (hv:bootBuiltins x=some u) (h:Q u s)
    (hn:x≠"__name__":=by decide) (hd:(x == ("__debug__":Str))=false:=by decide):wpAny (model X.prog X.w) X.A (eval (.Name x pos) X.env) Q E s:=by
  obtain ⟨mb,h1,h2⟩:=I.mod.blt
  exact Calls.Name_function_global I.ok.kind hg (Calls.loadGlobal_builtin (by rw [I.ok.glob];exact I.mod.glob.keeps I.bk) hm (by rw [I.ok.blt];exact h1.keeps I.bk) ((h2 x hn).trans hv) h) hd
theorem jLO {x:Str} {v:V} {u:Value} {pos:Pos} (hg:Gl X x) (hm:X.mg x=some u) (r:jAB v u) (hd:(x == ("__debug__":Str))=false:=by decide):PE X (.Name x pos) (tC v) :=
  fun _ _ _ H _ I h=>jDM I hg hm ⟨v,H,I,r,h⟩ hd
theorem jEk {x:Str} {v:V} {u:Value} {pos:Pos} (hg:Gl X x) (hm:X.mg x=none) (hv:bootBuiltins x=some u) (r:jAB v u) (hn:x≠"__name__":=by decide) (hd:(x == ("__debug__":Str))=false:=by decide):PE X (.Name x pos) (tC v) :=
  fun _ _ _ H _ I h=>jGq I hg hm hv ⟨v,H,I,r,h⟩ hn hd
noncomputable def t2I (ta tb:TE) (k:Int→Int→Hp→Prop):St→Hp→Prop:=fun σ H=>ta σ H fun x H1=>tb σ H1 fun y H2=>∃ i j,x=.int i∧y=.int j∧k i j H2
noncomputable def tAdd (ta tb:TE):TE:=fun σ H Q=>t2I ta tb (fun i j H2=>Q (.int (i + j)) H2) σ H
noncomputable def tSub (ta tb:TE):TE:=fun σ H Q=>t2I ta tb (fun i j H2=>Q (.int (i - j)) H2) σ H
noncomputable def tMul (ta tb:TE):TE:=fun σ H Q=>t2I ta tb (fun i j H2=>(-(2 ^ 64) < i∧i < 2 ^ 64)∧Q (.int (i * j)) H2) σ H
variable {a b:Expr} {ta tb:TE} {pos:Pos}
noncomputable def PC (X:Cx) (op:CmpOp) (a b:Expr) (t:TE):Prop :=
  ∀ (pins:List (Addr×Obj)) (s:Shared) (σ:St) (H:Hp) (Q:VK),Inv X pins σ H s→t σ H Q →
    wpAny (model X.prog X.w) X.A (eval a X.env) (fun v s₁=>wpAny (model X.prog X.w) X.A (eval b X.env) (fun u s₂=>wpAny (model X.prog X.w) X.A (compareOp op v u) (EP X pins σ Q) X.xe s₂) X.xe s₁) X.xe s
theorem jNh (b:Expr) {op:CmpOp} (h:op≠.In) (h2:op≠.NotIn):behindInMarks op b=false:=by
  have e1:(op == CmpOp.In)=false:=by cases op <;> first | rfl | exact absurd rfl h
  have e2:(op == CmpOp.NotIn)=false:=by cases op <;> first | rfl | exact absurd rfl h2
  cases b <;> simp [behindInMarks,e1,e2]
noncomputable def tCmp (p:Int→Int→Bool) (ta tb:TE):TE:=fun σ H Q=>t2I ta tb (fun i j H2=>Q (.bl (p i j)) H2) σ H
noncomputable abbrev tLt:TE→TE→TE:=tCmp fun i j=>decide (i < j)
noncomputable abbrev tLe:TE→TE→TE:=tCmp fun i j=>decide (i≤j)
noncomputable abbrev tGt:TE→TE→TE:=tCmp fun i j=>decide (j < i)
noncomputable abbrev tGe:TE→TE→TE:=tCmp fun i j=>decide (j≤i)
noncomputable abbrev tEqI:TE→TE→TE:=tCmp fun i j=>decide (i=j)
noncomputable abbrev tNeI:TE→TE→TE:=tCmp fun i j=>!decide (i=j)
noncomputable def tIsN (ta:TE):TE:=fun σ H Q=>ta σ H fun x H1=>Q (.bl (decide (x=.non))) H1
noncomputable def tNotN (ta:TE):TE:=fun σ H Q=>ta σ H fun x H1=>Q (.bl (!decide (x=.non))) H1
noncomputable def tB (t:TE):TT:=fun σ H Q=>t σ H fun x H1=>∃ c,x=.bl c∧Q c H1
theorem pt_cmp {op:CmpOp} {t:TE} (h:PC X op a b t) (h1:behindInMarks op b=false:=by first | exact jNh _ (by decide) (by decide) | rfl):PT X (.Compare a [op] [b] pos) (tB t):=by
  intro pins s σ H Q I hw
  refine wpAny_isTrue_Compare1 (thn (h pins s σ H _ I hw) fun v s1 h1=>thn h1 fun u s2 h2=>thn h2 fun c s3 ⟨x,H1,I1,r1,q1⟩=>?_) h1
  obtain ⟨d,rfl,q⟩:=q1
  cases r1
  exact wpAny_truthy_bool ⟨H1,I1,q⟩
variable {tA tB':TT} {rest:List Expr}
noncomputable def tAnd (t u:TT):TT:=fun σ H Q=>t σ H fun c H1=>if c=true then u σ H1 Q else Q false H1
noncomputable def tOr (t u:TT):TT:=fun σ H Q=>t σ H fun c H1=>if c=true then Q true H1 else u σ H1 Q
noncomputable def tNot (t:TT):TT:=fun σ H Q=>t σ H fun c H1=>Q (!c) H1
theorem jCM (ha:PT X a tA):PW X (.BoolOp .And [a] pos) tA:=by
  intro wh pins s σ H Q I h
  refine isTrue_and (thn (ha pins s σ H Q I h) fun c s1 e=>?_)
  cases c with
  | true=>exact isTrue_and_nil e
  | false=>exact e
theorem jCN (ha:PT X a tA):PW X (.BoolOp .Or [a] pos) tA:=by
  intro wh pins s σ H Q I h
  refine isTrue_or (thn (ha pins s σ H Q I h) fun c s1 e=>?_)
  cases c with
  | false=>exact isTrue_or_nil e
  | true=>exact e
theorem jDv (ha:PT X a tA) (hb:PW X (.BoolOp .And (b :: rest) pos) tB'):PW X (.BoolOp .And (a :: b :: rest) pos) (tAnd tA tB'):=by
  intro wh pins s σ H Q I h
  refine isTrue_and (thn (ha pins s σ H _ I h) fun c s1 ⟨H1,I1,q1⟩=>?_)
  cases c with
  | true=>exact hb wh pins s1 σ H1 Q I1 q1
  | false=>exact ⟨H1,I1,q1⟩
theorem jC6 (ha:PT X a tA) (hb:PW X (.BoolOp .Or (b :: rest) pos) tB'):PW X (.BoolOp .Or (a :: b :: rest) pos) (tOr tA tB'):=by
  intro wh pins s σ H Q I h
  refine isTrue_or (thn (ha pins s σ H _ I h) fun c s1 ⟨H1,I1,q1⟩=>?_)
  cases c with
  | true=>exact ⟨H1,I1,q1⟩
  | false=>exact hb wh pins s1 σ H1 Q I1 q1
theorem jCF (ha:PT X a tA):PT X (.UnaryOp .Not a pos) (tNot tA):=by
  intro pins s σ H Q I h
  exact isTrue_not (ha pins s σ H (fun c H1=>Q (!c) H1) I h)
noncomputable def tAndV (ta tb:TE):TE:=fun σ H Q=>ta σ H fun x H1=>∃ c,x=.bl c∧if c=true then tb σ H1 Q else Q (.bl false) H1
noncomputable def tOrV (ta tb:TE):TE:=fun σ H Q=>ta σ H fun x H1=>∃ c,x=.bl c∧if c=true then Q (.bl true) H1 else tb σ H1 Q
noncomputable def tNotV (ta:TE):TE:=fun σ H Q=>ta σ H fun x H1=>∃ c,x=.bl c∧Q (.bl (!c)) H1
theorem jH7 {op} {t:TE} (h:PE X a t):PE X (.BoolOp op [a] pos) t:=fun pins s σ H Q I hw=>BoolOp_one (h pins s σ H Q I hw)
theorem jG0 (ha:PE X a ta) (hb:PE X (.BoolOp .And (b :: rest) pos) tb):PE X (.BoolOp .And (a :: b :: rest) pos) (tAndV ta tb):=by
  intro pins s σ H Q I h
  refine BoolOp_and (thn (ha pins s σ H _ I h) fun v s1 ⟨x,H1,I1,r1,q1⟩=>?_)
  obtain ⟨c,rfl,q1⟩:=q1
  cases r1
  refine wpAny_truthy_bool ?_
  cases c with
  | true=>exact hb pins s1 σ H1 Q I1 q1
  | false=>exact ⟨.bl false,H1,I1,rfl,q1⟩
theorem pe_not (ha:PE X a ta):PE X (.UnaryOp .Not a pos) (tNotV ta):=by
  intro pins s σ H Q I h
  refine UnaryOp_ (thn (ha pins s σ H _ I h) fun v s1 ⟨x,H1,I1,r1,q1⟩=>?_)
  obtain ⟨c,rfl,q1⟩:=q1
  cases r1
  exact not_of (wpAny_truthy_bool ⟨.bl (!c),H1,I1,rfl,q1⟩)
noncomputable def tIf (t:TT) (ta tb:TE):TE:=fun σ H Q=>t σ H fun c H1=>if c=true then ta σ H1 Q else tb σ H1 Q
theorem jDw {c:Expr} (hc:PT X c tA) (ha:PE X a ta) (hb:PE X b tb):PE X (.IfExp c a b pos) (tIf tA ta tb):=by
  intro pins s σ H Q I h
  refine wpAny_IfExp (thn (hc pins s σ H _ I h) fun d s1 ⟨H1,I1,q1⟩=>?_)
  cases d with
  | true=>exact ha pins s1 σ H1 Q I1 q1
  | false=>exact hb pins s1 σ H1 Q I1 q1
end
end L2
namespace L2
open PySem PySem.Spec PyProof.Rows
noncomputable def SqL (K:PySem.W.Frag) (H:Hp) (a:Addr) (xs:List V):Prop :=
  Rd H a (.lst xs) ∨
    ∃ (o:Obj) (its:Array Value) (n:Nat),K.lookup a=some o∧o.cls=.type "list"∧o.dict=none∧o.data=.seq its n∧its.size≤sizeLine∧jAI xs its.toList
noncomputable def SqT (K:PySem.W.Frag) (H:Hp) (a:Addr) (xs:List V):Prop :=
  Rd H a (.tup xs) ∨
    ∃ (o:Obj) (its:Array Value) (n:Nat),K.lookup a=some o∧o.cls=.type "tuple"∧o.data=.seq its n∧its.size≤sizeLine∧jAI xs its.toList
noncomputable def absV:Value→Option V
  | .none=>some .non
  | .bool b=>some (.bl b)
  | .int i _=>some (.int i)
  | .str x _=>some (.str x)
  | .bytes b _=>some (.byt b)
  | .float b _=>some (.flt b)
  | .ref a=>some (.ref a)
  | .type n=>some (.ty n)
  | _=>none
theorem jAB.abs {x:V} {u:Value} (r:jAB x u):absV u=some x:=by
  cases x with
  | non=>cases r;rfl
  | bl _=>cases r;rfl
  | int _=>obtain ⟨t,rfl⟩:=r;rfl
  | str _=>obtain ⟨t,rfl⟩:=r;rfl
  | byt _=>obtain ⟨t,rfl⟩:=r;rfl
  | flt _=>obtain ⟨t,rfl⟩:=r;rfl
  | ref _=>cases r;rfl
  | ty _=>cases r;rfl
theorem jAB.inj {x y:V} {u:Value} (r:jAB x u) (q:jAB y u):x=y:=Option.some.inj (r.abs.symm.trans q.abs)
theorem jAI.inj:∀ {xs ys:List V} {us:List Value},jAI xs us→jAI ys us→xs=ys
  | _,_,_,.nil,.nil=>rfl
  | _,_,_,.cons r t,.cons r' t'=>by rw [r.inj r',jAI.inj t t']
section
variable {X:Cx} {pins:List (Addr×Obj)} {σ:St} {H:Hp} {s:Shared} {a:Addr} {xs ys:List V}
theorem SqL.of {K:PySem.W.Frag} (h:H a=some (.lst xs)):SqL K H a xs:=.inl (.inl h)
theorem SqT.of {K:PySem.W.Frag} (h:H a=some (.tup xs)):SqT K H a xs:=.inl (.inl h)
theorem Inv.list (I:Inv X pins σ H s) (h:SqL X.K H a xs):∃ its:List Value,jAI xs its∧PlainL s.heap a its.toArray∧xs.length≤sizeLine:=by
  rcases h with h | ⟨o,its,n,hk,hc,hd,hs,hz,r⟩
  · obtain ⟨z,its,n,r,e⟩:=h.ok I.hok
    exact ⟨its,r,⟨_,n,e,rfl,rfl,rfl⟩,z⟩
  · refine ⟨its.toList,r,⟨o,n,I.kIn a o hk,hc,hd,by simpa using hs⟩,?_⟩
    have e:=r.length
    simp only [Array.length_toList] at e
    omega
theorem Inv.tuple (I:Inv X pins σ H s) (h:SqT X.K H a xs):∃ its:List Value,jAI xs its∧IsTup s.heap a its.toArray∧xs.length≤sizeLine:=by
  rcases h with h | ⟨o,its,n,hk,hc,hs,hz,r⟩
  · obtain ⟨z,its,r,p⟩:=h.ok I.hok
    exact ⟨its,r,p,z⟩
  · refine ⟨its.toList,r,⟨o,I.kIn a o hk,hc,n,by simpa using hs⟩,?_⟩
    have e:=r.length
    simp only [Array.length_toList] at e
    omega
theorem Inv.list_inj (I:Inv X pins σ H s) (h:SqL X.K H a xs) (h':SqL X.K H a ys):xs=ys:=by
  obtain ⟨its,r,⟨o,n,e,_,_,d⟩,_⟩:=I.list h
  obtain ⟨its',r',⟨o',n',e',_,_,d'⟩,_⟩:=I.list h'
  rw [e] at e';cases e'
  rw [d] at d'
  injection d' with d1 _
  have:its=its':=by simpa using congrArg Array.toList d1
  subst this
  exact r.inj r'
end
noncomputable abbrev Cx.wish (X:Cx) (E:Value→Shared→Prop):Cx:={ X with xe:=E }
noncomputable abbrev Cx.nox (X:Cx):Cx:=X.wish fun _ _=>False
theorem Cx.Ok.wish {X:Cx} (ok:X.Ok) (E:Value→Shared→Prop):(X.wish E).Ok :=
  ⟨ok.mod,ok.kind,ok.glob,ok.blt,ok.above,ok.inj,ok.has,ok.cab,ok.hd,ok.frames,ok.stk,ok.exf,ok.bs,ok.bsz,ok.noex,ok.exfs,ok.funs,ok.frf⟩
theorem Cx.Ok.unwish {X:Cx} {E:Value→Shared→Prop} (ok:(X.wish E).Ok):X.Ok :=
  ⟨ok.mod,ok.kind,ok.glob,ok.blt,ok.above,ok.inj,ok.has,ok.cab,ok.hd,ok.frames,ok.stk,ok.exf,ok.bs,ok.bsz,ok.noex,ok.exfs,ok.funs,ok.frf⟩
section
variable {X:Cx} {pins:List (Addr×Obj)} {σ:St} {H:Hp} {s:Shared} {E:Value→Shared→Prop}
theorem Inv.wish (I:Inv X pins σ H s) (E:Value→Shared→Prop):Inv (X.wish E) pins σ H s:=⟨I.ok.wish E,I.os,I.bare,I.base,I.loc,I.cell,I.free,I.freeC,I.pin,I.hok,I.len⟩
theorem Inv.unwish (I:Inv (X.wish E) pins σ H s):Inv X pins σ H s:=⟨I.ok.unwish,I.os,I.bare,I.base,I.loc,I.cell,I.free,I.freeC,I.pin,I.hok,I.len⟩
theorem SP.unwish {D:jCq} {f:Flow} {s':Shared} (h:SP (X.wish E) pins D f s'):SP X pins D f s':=by
  cases f with
  | next=>obtain ⟨σ',H',I,q⟩:=h;exact ⟨σ',H',I.unwish,q⟩
  | brk=>obtain ⟨σ',H',I,q⟩:=h;exact ⟨σ',H',I.unwish,q⟩
  | cont=>obtain ⟨σ',H',I,q⟩:=h;exact ⟨σ',H',I.unwish,q⟩
  | ret u=>obtain ⟨v,σ',H',I,r,q⟩:=h;exact ⟨v,σ',H',I.unwish,r,q⟩
theorem PSs.nox {st:List Stmt} {t:TS} (h:PSs X.nox st t):PSs X st t:=fun pins s σ H D I hw =>
  wpAny_mono (h pins s σ H D (I.wish _) hw) (fun _ _ q=>q.unwish) fun _ _ z=>False.elim z
end
section
variable {X:Cx} {st:Stmt} {rest:List Stmt} {t u:TS} {e:Expr} {te:TE} {pos:Pos}
noncomputable def tNext:TS:=fun D σ H=>D.nx σ H
noncomputable def jGf (t u:TS):TS:=fun D σ H=>t { D with nx:=u D } σ H
theorem jAz:PSs X [] tNext:=fun _ _ σ H _ I h=>wpAny_execs_nil ⟨σ,H,I,h⟩
theorem jAd (h1:PS X st t) (h2:PSs X rest u):PSs X (st :: rest) (jGf t u):=by
  intro pins s σ H D I h
  refine wpAny_execs_cons (thn (h1 pins s σ H { D with nx:=u D } I h) fun f s1 q=>?_)
  cases f with
  | next =>
    obtain ⟨σ',H',I',q⟩:=q
    exact h2 pins s1 σ' H' D I' q
  | ret v=>exact q
  | brk=>exact q
  | cont=>exact q
theorem jAf (h1:PS X st t):PSs X [st] t:=by
  intro pins s σ H D I h
  refine wpAny_execs_cons (thn (h1 pins s σ H D I h) fun f s1 q=>?_)
  cases f with
  | next=>exact wpAny_execs_nil q
  | ret v=>exact q
  | brk=>exact q
  | cont=>exact q
noncomputable def tBreak:TS:=fun D σ H=>D.bk σ H
noncomputable def tCont:TS:=fun D σ H=>D.ct σ H
theorem Inv.quiet {pins:List (Addr×Obj)} {σ:St} {H:Hp} {s:Shared} (I:Inv X pins σ H s):interactive X.env=false:=by simp [interactive,I.ok.kind]
noncomputable def tDrop (te:TE):TS:=fun D σ H=>te σ H fun _ H1=>D.nx σ H1
theorem jAN (he:PE X e te) (hs:swapsWith e none pos.line X.env=pure false:=by rfl):PS X (.Expr e pos) (tDrop te):=by
  intro pins s σ H D I h
  exact wpAny_Expr_any (thn (he pins s σ H _ I h) fun v s1 ⟨x,H1,I1,r1,q1⟩=>⟨σ,H1,I1,q1⟩) I.quiet hs
noncomputable def tRet (te:TE):TS:=fun D σ H=>te σ H D.rt
theorem jAp (he:PE X e te):PS X (.Return (some e) pos) (tRet te):=by
  intro pins s σ H D I h
  exact wpAny_Return_some (thn (he pins s σ H _ I h) fun v s1 ⟨x,H1,I1,r1,q1⟩=>⟨x,σ,H1,I1,r1,q1⟩)
noncomputable def tRetN:TS:=fun D _ H=>D.rt .non H
noncomputable def tIfS (c:TT) (t u:TS):TS:=fun D σ H=>c σ H fun b H1=>if b=true then t D σ H1 else u D σ H1
theorem jAJ {c:Expr} {a b:List Stmt} {tc:TT} (hc:PT X c tc) (ha:PSs X a t) (hb:PSs X b u):PS X (.If c a b pos) (tIfS tc t u):=by
  intro pins s σ H D I h
  refine wpAny_If (thn (hc pins s σ H _ I h) fun d s1 ⟨H1,I1,q1⟩=>?_)
  cases d with
  | true=>exact ha pins s1 σ H1 D I1 q1
  | false=>exact hb pins s1 σ H1 D I1 q1
noncomputable def tNever:TS:=fun _ _ _=>False
end
noncomputable abbrev TG:=V→St→Hp→(St→Hp→Prop)→Prop
noncomputable abbrev TGs:=List V→St→Hp→(St→Hp→Prop)→Prop
noncomputable def PG (X:Cx) (target:Expr) (t:TG):Prop :=
  ∀ (pins:List (Addr×Obj)) (s:Shared) (σ:St) (H:Hp) (v:V) (u:Value) (Q:St→Hp→Prop),Inv X pins σ H s→jAB v u→t v σ H Q →
    wpAny (model X.prog X.w) X.A (assign target X.env u) (fun _ s'=>∃ σ' H',Inv X pins σ' H' s'∧Q σ' H') X.xe s
noncomputable def PGs (X:Cx) (ts:List Expr) (t:TGs):Prop :=
  ∀ (pins:List (Addr×Obj)) (s:Shared) (σ:St) (H:Hp) (vs:List V) (us:List Value) (Q:St→Hp→Prop),Inv X pins σ H s→jAI vs us→t vs σ H Q →
    wpAny (model X.prog X.w) X.A (assignInOrder ((assignEach ts X.env).map (·.2)) us) (fun _ s'=>∃ σ' H',Inv X pins σ' H' s'∧Q σ' H') X.xe s
noncomputable abbrev TSet:=V→V→V→Hp→(Hp→Prop)→Prop
noncomputable def PSet (X:Cx) (t:TSet):Prop :=
  ∀ (pins:List (Addr×Obj)) (s:Shared) (σ:St) (H:Hp) (o i v:V) (ov iv u:Value) (Q:Hp→Prop),Inv X pins σ H s→jAB o ov→jAB i iv→jAB v u→t o i v H Q →
    wpAny (model X.prog X.w) X.A (setItem ov iv u) (fun _ s'=>∃ H',Inv X pins σ H' s'∧Q H') X.xe s
noncomputable abbrev TIp:=V→V→Hp→VK→Prop
noncomputable def PIp (X:Cx) (op:Operator) (t:TIp):Prop :=
  ∀ (pins:List (Addr×Obj)) (s:Shared) (σ:St) (H:Hp) (x y:V) (v u:Value) (Q:VK),Inv X pins σ H s→jAB x v→jAB y u→t x y H Q →
    wpAny (model X.prog X.w) X.A (inplaceOp op v u) (EP X pins σ Q) X.xe s
section
variable {X:Cx} {pos:Pos}
noncomputable def jFk (i:Nat):TG:=fun v σ H Q=>Q (σ.set i (some v)) H
theorem jBA {i:Nat} {x:Str} (hN:X.N.Nodup) (hi:X.N[i]?=some x) (hx:Loc X.env.scope x) (hf:X.fn x=true∨X.env.scope.names.lookup x=some .local:=by first | exact .inl rfl | exact .inr rfl | assumption):PG X (.Name x pos) (jFk i):=by
  intro pins s σ H v u Q I r h
  exact wpAny_assign_Name (jFE I hN hi hx r (fun s' I'=>⟨_,H,I',h⟩) hf)
noncomputable def gNil:TGs:=fun vs σ H Q=>vs=[]∧Q σ H
noncomputable def gCons (t:TG) (u:TGs):TGs:=fun vs σ H Q=>∃ v r,vs=v :: r∧t v σ H fun σ' H'=>u r σ' H' Q
theorem jHk:PGs X [] gNil:=by
  intro pins s σ H vs us Q I r h
  obtain ⟨e,h⟩:=h
  subst e
  cases r
  exact assignInOrder_nil ⟨σ,H,I,h⟩
theorem jDx {e:Expr} {es:List Expr} {t:TG} {u:TGs} (h1:PG X e t) (h2:PGs X es u)
    (hs:(assignEach (e :: es) X.env).map (·.2)=assign e X.env :: (assignEach es X.env).map (·.2):=by rfl):PGs X (e :: es) (gCons t u):=by
  intro pins s σ H vs us Q I r h
  obtain ⟨v,vr,e1,h⟩:=h
  subst e1
  cases r with
  | cons r rr =>
    rw [hs]
    refine assignInOrder_cons (thn (h1 pins s σ H _ _ _ I r h) fun _ s1 ⟨σ1,H1,I1,q1⟩=>?_)
    exact h2 pins s1 σ1 H1 _ _ Q I1 rr q1
noncomputable def gTup (K:PySem.W.Frag) (n:Nat) (t:TGs):TG:=fun v σ H Q=>∃ a xs,v=.ref a∧SqT K H a xs∧xs.length=n∧t xs σ H Q
theorem jH8 {es:List Expr} {k:Nat} {t:TGs} {n:Nat} (hc:X.calm=true) (h:PGs X es t)
    (hn:(assignEach es X.env).length=n:=by rfl) (hst:(assignEach es X.env).findIdx? (·.1)=none:=by rfl):PG X (.Tuple es k pos) (gTup X.K n t):=by
  intro pins s σ H v u Q I r hw
  obtain ⟨a,xs,e1,hq,hl,hw⟩:=hw
  subst e1
  cases r
  obtain ⟨its,rv,ht,hz⟩:=I.tuple hq
  refine assign_Tuple_tuple (I.ok.hd hc) ht (by simp [hn,← hl,rv.length]) hst fun h' hx=>?_
  have I1:Inv X pins σ H { s with heap:=h' }:=I.kept (t':=s.toks) fun b o e=>hx b o (Nat.ne_of_lt (Heap.lt_size e)) e
  exact h pins _ σ H xs _ Q I1 (by simpa using rv) hw
noncomputable def gSub (to ti:TE) (t:TSet):TG:=fun v σ H Q=>to σ H fun o H1=>ti σ H1 fun i H2=>t o i v H2 fun H3=>Q σ H3
noncomputable def tAsg (te:TE) (g:TG):TS:=fun D σ H=>te σ H fun x H1=>g x σ H1 D.nx
theorem jAE {i:Nat} {x:Str} {e:Expr} {te:TE} {pos':Pos} (hN:X.N.Nodup) (hi:X.N[i]?=some x) (hx:Loc X.env.scope x) (he:PE X e te) (hs:swapsWith e (some (.Name x pos')) pos.line X.env=pure false:=by rfl) (hf:X.fn x=true∨X.env.scope.names.lookup x=some .local:=by first | exact .inl rfl | exact .inr rfl | assumption) :
    PS X (.Assign [.Name x pos'] e pos) (tAsg te (jFk i)):=by
  intro pins s σ H D I h
  refine wpAny_Assign_Name (thn (he pins s σ H _ I h) fun v s1 ⟨y,H1,I1,r1,q1⟩=>?_) hs
  exact jFE I1 hN hi hx r1 (fun s2 I2=>⟨_,H1,I2,q1⟩) hf
noncomputable def tPar (i j:Nat) (ta:TA):TS:=fun D σ H=>ta σ H fun vs H1=>∃ v w,vs=[v,w]∧D.nx ((σ.set i (some v)).set j (some w)) H1
noncomputable def tAug (i:Nat) (te:TE) (ti:TIp):TS:=fun D σ H=>∃ x,σ[i]?=some (some x)∧te σ H fun y H1=>ti x y H1 fun z H2=>D.nx (σ.set i (some z)) H2
noncomputable def tAugS (to ti te:TE) (tget:V→V→Hp→VK→Prop) (tip:TIp) (tset:TSet):TS:=fun D σ H=>to σ H fun o H1=>ti σ H1 fun i H2=>tget o i H2 fun x H3=>te σ H3 fun y H4=>tip x y H4 fun z H5=>tset o i z H5 fun H6=>D.nx σ H6
noncomputable def PGet (X:Cx) (t:V→V→Hp→VK→Prop):Prop :=
  ∀ (pins:List (Addr×Obj)) (s:Shared) (σ:St) (H:Hp) (o i:V) (ov iv:Value) (Q:VK),Inv X pins σ H s→jAB o ov→jAB i iv→t o i H Q →
    wpAny (model X.prog X.w) X.A (getItem ov iv) (EP X pins σ Q) X.xe s
noncomputable def ipI (f:Int→Int→Int):TIp:=fun x y H Q=>∃ i j,x=.int i∧y=.int j∧Q (.int (f i j)) H
theorem ip_add:PIp X .Add (ipI fun i j=>i + j):=by
  intro pins s σ H x y v u Q I r1 r2 h
  obtain ⟨i,j,e1,e2,q⟩:=h
  subst e1;subst e2
  obtain ⟨t,rfl⟩:=r1
  obtain ⟨t',rfl⟩:=r2
  exact iadd_int ⟨.int _,H,I.tok _,⟨_,rfl⟩,q⟩
end
section
variable {X:Cx} {pos:Pos}
noncomputable def tWhile (c:TT) (tb:TS):TS:=fun D σ H=>∃ W:Nat→St→Hp→Prop,(∃ m,W m σ H)∧∀ m σ H,W m σ H →
  c σ H fun b H1=>if b=true then ∃ N:St→Hp→Prop,(∀ σ' H',N σ' H'→∃ m',m' < m∧W m' σ' H')∧tb { D with nx:=N,ct:=N,bk:=D.nx } σ H1 else D.nx σ H1
theorem jNi {c:Expr} {body:List Stmt} {tc:TT} {tb:TS} (hp:PassesOwn (model X.prog X.w) X.A X.env X.xe) (hc:PT X c tc) (hb:PSs X body tb):PS X (.While c body [] pos) (tWhile tc tb):=by
  intro pins s σ H D I h
  obtain ⟨W,⟨m0,w0⟩,turn⟩:=h
  refine wpAny_While (codeAny_whileLoop (fun n s'=>∃ σ' H',Inv X pins σ' H' s'∧W n σ' H') ?_ m0 ⟨σ,H,I,w0⟩)
  rintro n s1 ⟨σ1,H1,I1,w1⟩
  refine wpAny_passesOwn hp (thn (hc pins s1 σ1 H1 _ I1 (turn n σ1 H1 w1)) fun b s2 ⟨H2,I2,q2⟩=>?_)
  cases b with
  | true =>
    obtain ⟨N,hN,q2⟩:=q2
    rw [if_pos rfl]
    refine wpAny_passesOwn hp (thn (hb pins s2 σ1 H2 _ I2 q2) fun f s3 q3=>?_)
    cases f with
    | next =>
      obtain ⟨σ3,H3,I3,n3⟩:=q3
      obtain ⟨m',hm,w3⟩:=hN σ3 H3 n3
      exact ⟨m',hm,σ3,H3,I3,w3⟩
    | cont =>
      obtain ⟨σ3,H3,I3,n3⟩:=q3
      obtain ⟨m',hm,w3⟩:=hN σ3 H3 n3
      exact ⟨m',hm,σ3,H3,I3,w3⟩
    | brk=>exact q3
    | ret v=>exact q3
  | false =>
    rw [if_neg Bool.false_ne_true]
    exact wpAny_execs_nil ⟨σ1,H2,I2,q2⟩
end
structure It where
  go:Nat→Hp→Prop
  yld:Nat→Hp→V→Hp→Prop
  stop:Nat→Hp→Prop
noncomputable def jGH (X:Cx) (pins:List (Addr×Obj)) (H:Hp) (b:Addr):Prop :=
  H b=none∧b≠X.env.locals∧b ∉ X.fs∧(b∈X.ex∨X.s₀.heap.objs.size≤b)∧(∀ x c,X.env.cells.lookup x=some c→c≠b)∧∀ p∈X.pn ++ pins,p.1≠b
theorem Inv.fpOk {X:Cx} {pins:List (Addr×Obj)} {σ:St} {H H':Hp} {s:Shared} {b:Addr} (I:Inv X pins σ H s) (hb:s.heap.objs.size≤b) (hn:H' b=none):jGH X pins H' b:=by
  refine ⟨hn,Nat.ne_of_gt (Nat.lt_of_lt_of_le I.lt hb),I.nofs hb,.inr (Nat.le_trans I.sz hb),fun x c e z=>?_,fun p hp z=>?_⟩
  · obtain ⟨v,q⟩:=I.cell x c e
    exact absurd (Nat.lt_of_lt_of_le q.lt (by rw [z];exact hb)) (Nat.lt_irrefl _)
  · exact absurd (Nat.lt_of_lt_of_le (Heap.lt_size (I.pin p hp).1) (by rw [z];exact hb)) (Nat.lt_irrefl _)
structure Turn (P:Program) (w:World) (K:PySem.W.Frag) (tg:Expr) (J:It) (fp:List Addr) (it:Addr) (tn:Nat→Heap→Prop):Prop where
  mem:it∈fp
  obj:∀ i h,tn i h→∀ b∈fp,∃ o,h.get? b=some o∧∀ v,o.data≠.cell v
  keep:∀ i h h',tn i h→(∀ b∈fp,∀ o,h.get? b=some o→h'.get? b=some o)→tn i h'
  item:∀ (X:Cx),X.prog=P→X.w=w→X.K=K→X.calm=true→∀ (i:Nat) (pins:List (Addr×Obj)) (s:Shared) (σ:St) (H:Hp) (E:Value→Shared→Prop),Inv X pins σ H s→(∀ b∈fp,jGH X pins H b)→tn i s.heap→J.go i H →
    wpAny (model P w) X.A (pyNext (.ref it)) (fun r s1=>∃ u,r=some u ∧
      wpAny (model P w) X.A (letOwnedTupleGo tg (.ref it) u) (fun _ s2=>∃ x H',Inv X pins σ H' s2∧jAB x u∧J.yld i H x H'∧tn (i + 1) s2.heap∧∀ b∈fp,H' b=none) E s1) E s
  done:∀ (X:Cx),X.prog=P→X.w=w→X.K=K→X.calm=true→∀ (i:Nat) (pins:List (Addr×Obj)) (s:Shared) (σ:St) (H:Hp) (E:Value→Shared→Prop),Inv X pins σ H s→(∀ b∈fp,jGH X pins H b)→tn i s.heap→J.stop i H →
    wpAny (model P w) X.A (pyNext (.ref it)) (fun r s1=>r=none∧Inv X pins σ H s1) E s
  self:∀ (A:Around) (i:Nat) (s:Shared) (Q:Value→Shared→Prop) (E:Value→Shared→Prop),tn i s.heap→Q (.ref it) s→wpAny (model P w) A (pyIter (.ref it)) Q E s
noncomputable abbrev TI:=St→Hp→(It→Hp→Prop)→Prop
noncomputable def PIE (X:Cx) (pins:List (Addr×Obj)) (σ:St) (tg:Expr) (R:It→Hp→Prop) (itv:Value) (s2:Shared):Prop :=
  ∃ (it:Addr) (fp:List Addr) (tn:Nat→Heap→Prop) (J:It) (H':Hp),itv=.ref it∧Inv X pins σ H' s2∧Turn X.prog X.w X.K tg J fp it tn∧tn 0 s2.heap∧(∀ b∈fp,jGH X pins H' b)∧R J H'
noncomputable def PI (X:Cx) (tg iter:Expr) (wi:TI):Prop :=
  ∀ (pins:List (Addr×Obj)) (s:Shared) (σ:St) (H:Hp) (R:It→Hp→Prop),Inv X pins σ H s→wi σ H R →
    wpAny (model X.prog X.w) X.A (eval iter X.env) (fun v s1=>wpAny (model X.prog X.w) X.A (pyIter v) (PIE X pins σ tg R) X.xe s1) X.xe s
theorem jKg {M:Model} {A:Around} {E:Value→Shared→Prop} {s:Shared} {tg:Expr} {it:Addr} {u:Value} {o:Obj} {n:String} {vs:Array Value} {Q:Unit→Shared→Prop} (ho:s.heap.get? it=some o) (hc:o.cls=.type n) (hd:o.data=.fields vs)
    (hn:["enumerate","zip","dict_itemiterator","dict_reverseitemiterator","odict_iterator","itertools.zip_longest","itertools.pairwise"].contains n=false) (hQ:Q () s):wpAny M A (letOwnedTupleGo tg (.ref it) u) Q E s:=by
  unfold letOwnedTupleGo
  cases tg <;> first
    | exact wpAny_pure hQ
    | (cases u <;> first
        | exact wpAny_pure hQ
        | (refine wpAny_bind (wpAny_load ho ?_)
           rw [hc,hd]
           show wpAny M A (if (["enumerate","zip","dict_itemiterator","dict_reverseitemiterator","odict_iterator","itertools.zip_longest","itertools.pairwise"].contains n && vs[0]? == some (rawInt _))=true then _ else _) Q E s
           rw [if_neg (by intro h;rw [hn,Bool.false_and] at h;cases h)]
           exact wpAny_pure hQ))
noncomputable def Itl (K:PySem.W.Frag) (a:Addr):It :=
  ⟨fun i H=>∃ xs x,SqL K H a xs∧xs[i]?=some x,fun i H x H'=>H'=H∧∀ xs,SqL K H a xs→xs[i]?=some x,fun i H=>∃ xs,SqL K H a xs∧xs.length≤i⟩
noncomputable def Itt (K:PySem.W.Frag) (a:Addr):It :=
  ⟨fun i H=>∃ xs x,SqT K H a xs∧xs[i]?=some x,fun i H x H'=>H'=H∧∀ xs,SqT K H a xs→xs[i]?=some x,fun i H=>∃ xs,SqT K H a xs∧xs.length≤i⟩
noncomputable def Itr (lo:Int) (n:Nat):It:=⟨fun i _=>i < n,fun i H x H'=>H'=H∧x=.int (lo + i),fun i _=>n≤i⟩
theorem jMz {P:Program} {w:World} {K:PySem.W.Frag} {tg:Expr} (a it:Addr):Turn P w K tg (Itl K a) [it] it (fun i h=>h.IsListIter it a i) where
  mem:=by simp
  obj:=fun i h st b hb=>by
    have e:b=it:=by simpa using hb
    subst e
    obtain ⟨o,e,c,d⟩:=st
    exact ⟨o,e,fun v z=>by rw [d] at z;cases z⟩
  keep:=fun i h h' st k=>st.at fun o e=>k it (by simp) o e
  item:=by
    intro X hP hw hK hc i pins s σ H E I hf st hg
    subst hP hw hK
    obtain ⟨xs,x,hq,hx⟩:=hg
    obtain ⟨its,rv,p,hz⟩:=I.list hq
    obtain ⟨u,hu,ru⟩:=rv.get hx
    obtain ⟨f0,f1,f2,f3,f4,f5⟩:=hf it (by simp)
    refine wpAny_pyNext_list_item st p.isList (x:=u) (by simpa using hu) fun h' st' sb=>?_
    have I1:Inv X pins σ H { s with heap:=h' }:=I.turned (t':=s.toks) (fun b o hb e=>(sb.2 b hb).trans e) f0 f1 f3 f4 f5
    obtain ⟨o,e,c,d⟩:=id st'
    exact ⟨u,rfl,jKg (s:={ s with heap:=h' }) e c d (by decide) ⟨x,H,I1,ru,⟨rfl,fun ys hy=>by rw [I.list_inj hy hq];exact hx⟩,st',fun b hb=>(hf b hb).1⟩⟩
  done:=by
    intro X hP hw hK hc i pins s σ H E I hf st hg
    subst hP hw hK
    obtain ⟨xs,hq,hx⟩:=hg
    obtain ⟨its,rv,p,hz⟩:=I.list hq
    obtain ⟨f0,f1,f2,f3,f4,f5⟩:=hf it (by simp)
    have hl:=rv.length
    exact wpAny_pyNext_list_end (I.ok.hd hc) st p.isList (by simp;omega) fun h' eb=>⟨rfl,I.turned (t':=s.toks) (fun b o hb e=>eb b o hb e) f0 f1 f3 f4 f5⟩
  self:=fun _ _ _ _ _ st h=>wpAny_pyIter_listiter st h
theorem jMa {P:Program} {w:World} {K:PySem.W.Frag} {tg:Expr} (it:Addr) (lo:Int) (n:Nat):Turn P w K tg (Itr lo n) [it] it (fun i h=>IsRangeIter h it (lo + (i:Nat) * 1) ((n:Int) - (i:Nat)) 1) where
  mem:=by simp
  obj:=fun i h st b hb=>by
    have e:b=it:=by simpa using hb
    subst e
    exact ⟨_,st,fun v z=>by
      have z':Data.fields _=Data.cell v:=z
      cases z'⟩
  keep:=fun i h h' st k=>k it (by simp) _ st
  item:=by
    intro X hP hw hK hc i pins s σ H E I hf st hg
    subst hP hw hK
    obtain ⟨f0,f1,f2,f3,f4,f5⟩:=hf it (by simp)
    have W:=Walks.range (prog:=X.prog) (w:=X.w) (I.ok.hd hc) it lo 1 n
    refine W.item i s _ _ hg st fun v h' tk hv st' kk=>?_
    obtain ⟨t,rfl⟩:=hv
    have I1:Inv X pins σ H { s with heap:=h',toks:=tk }:=I.turned (fun b o hb e=>kk b o (by simpa using hb) e) f0 f1 f3 f4 f5
    refine ⟨_,rfl,jKg (s:={ s with heap:=h',toks:=tk }) (n:="range_iterator") st' rfl rfl (by decide) ⟨.int (lo + i),H,I1,⟨t,?_⟩,⟨rfl,rfl⟩,st',fun b hb=>(hf b hb).1⟩⟩
    rw [Int.mul_one]
  done:=by
    intro X hP hw hK hc i pins s σ H E I hf st hg
    subst hP hw hK
    obtain ⟨f0,f1,f2,f3,f4,f5⟩:=hf it (by simp)
    exact wpAny_pyNext_range_end (I.ok.hd hc) st (by have:n≤i:=hg;omega) fun h' eb=>⟨rfl,I.turned (t':=s.toks) (fun b o hb e=>eb b o hb e) f0 f1 f3 f4 f5⟩
  self:=fun _ _ _ _ _ st h=>wpAny_pyIter_rangeiter st h
end L2
namespace L2
open PySem PySem.Spec PyProof.Rows
section
variable {X:Cx} {tg:Expr}
noncomputable def iList (K:PySem.W.Frag) (tl:TE):TI:=fun σ H R=>tl σ H fun x H1=>∃ a,x=.ref a∧(∃ xs,SqL K H1 a xs)∧R (Itl K a) H1
noncomputable def iTup (K:PySem.W.Frag) (tl:TE):TI:=fun σ H R=>tl σ H fun x H1=>∃ a,x=.ref a∧(∃ xs,SqT K H1 a xs)∧R (Itt K a) H1
theorem jCO {l:Expr} {tl:TE} (hl:PE X l tl):PI X tg l (iList X.K tl):=by
  intro pins s σ H R I h
  refine thn (hl pins s σ H _ I h) fun v s1 ⟨x,H1,I1,r1,q1⟩=>?_
  obtain ⟨a,e,⟨xs,hq⟩,q⟩:=q1
  subst e
  cases r1
  obtain ⟨its,rv,p,hz⟩:=I1.list hq
  refine wpAny_pyIter_list p.isList ?_
  refine ⟨s1.heap.objs.size,[s1.heap.objs.size],_,_,H1,rfl,I1.kept (t':=s1.toks) fun b o e=>Heap.get?_push_of_some _ e,jMz a _,⟨_,Heap.get?_push_size _ rfl,rfl,rfl⟩,fun b hb=>?_,q⟩
  have e:b=s1.heap.objs.size:=by simpa using hb
  subst e
  exact I1.fpOk (Nat.le_refl _) (I1.hok.fresh (Nat.le_refl _))
theorem jKp {pins:List (Addr×Obj)} {σ:St} {H:Hp} {s:Shared} {R:It→Hp→Prop} {E:Value→Shared→Prop} {lo hi:Int} {t u v:Tok} {tk:Nat} (I:Inv X pins σ H s) (h1:-(2 ^ 62)≤lo) (h2:lo < 2 ^ 62) (h3:-(2 ^ 62)≤hi) (h4:hi < 2 ^ 62)
    (q:R (Itr lo (hi - lo).toNat) H):wpAny (model X.prog X.w) X.A (pyIter (.ref s.heap.objs.size)) (PIE X pins σ tg R) E { s with heap:=s.heap.push { cls:=.type "range",data:=.fields #[.int lo t,.int hi u,.int 1 v] },toks:=tk }:=by
  refine wpAny_pyIter_range (IsRange.new ..) (small_one h1 h2 h3 h4) ?_
  have I1:Inv X pins σ H { s with heap:=s.heap.push { cls:=.type "range",data:=.fields #[.int lo t,.int hi u,.int 1 v] },toks:=tk }:=I.kept fun b o e=>Heap.get?_push_of_some _ e
  refine ⟨(s.heap.push { cls:=.type "range",data:=.fields #[.int lo t,.int hi u,.int 1 v] }).objs.size,[(s.heap.push { cls:=.type "range",data:=.fields #[.int lo t,.int hi u,.int 1 v] }).objs.size],_,_,H,rfl,
    I1.kept (t':=tk) fun b o e=>Heap.get?_push_of_some _ e,jMa _ lo (hi - lo).toNat,?_,fun b hb=>?_,q⟩
  · have e1:lo + ((0:Nat):Int) * 1=lo:=by simp
    have e2:(((hi - lo).toNat:Nat):Int) - ((0:Nat):Int)=Builtin.Range.rangeSize lo hi 1:=by rw [rangeSize_one];split <;> omega
    show IsRangeIter _ _ (lo + ((0:Nat):Int) * 1) ((((hi - lo).toNat:Nat):Int) - ((0:Nat):Int)) 1
    rw [e1,e2]
    exact Heap.get?_push_size _ rfl
  · have e:b=(s.heap.push { cls:=.type "range",data:=.fields #[.int lo t,.int hi u,.int 1 v] }).objs.size:=by simpa using hb
    subst e
    exact I1.fpOk (Nat.le_refl _) (I1.hok.fresh (Nat.le_refl _))
noncomputable def iRng1 (ta:TA):TI:=fun σ H R=>ta σ H fun vs H1=>∃ j:Int,vs=[.int j]∧-(2 ^ 62)≤j∧j < 2 ^ 62∧R (Itr 0 j.toNat) H1
noncomputable def iRng2 (ta:TA):TI:=fun σ H R=>ta σ H fun vs H1=>∃ i j:Int,vs=[.int i,.int j]∧(-(2 ^ 62)≤i∧i < 2 ^ 62∧-(2 ^ 62)≤j∧j < 2 ^ 62)∧R (Itr i (j - i).toNat) H1
theorem jEl {a:Expr} {ta:TA} {p pos:Pos} (hg:Gl X "range") (hm:X.mg "range"=none) (ha:PA X [a] ta) (hs:starEach [a] X.env=[(false,eval a X.env)]:=by rfl):PI X tg (.Call (.Name "range" p) [a] [] pos) (iRng1 ta):=by
  intro pins s σ H R I h
  refine Call_ (jGq I hg hm boot_range (PyProof.Rows.callWith_type1 (thn (ha pos pins s σ H _ I h) fun us s1 ⟨vs,H1,I1,r1,q1⟩=>?_) hs rfl))
  obtain ⟨j,e,q1,q2,q⟩:=q1
  subst e
  cases r1 with
  | cons r rr =>
    cases rr
    obtain ⟨t,rfl⟩:=r
    exact call_range_1 (jKp I1 (by omega) (by omega) q1 q2 (by simpa using q))
theorem jMA {a b:Expr} {ta:TA} {p pos:Pos} (hg:Gl X "range") (hm:X.mg "range"=none) (ha:PA X [a,b] ta) (hs:starEach [a,b] X.env=[(false,eval a X.env),(false,eval b X.env)]:=by rfl) (hs2:starEach [b] X.env=[(false,eval b X.env)]:=by rfl) :
    PI X tg (.Call (.Name "range" p) [a,b] [] pos) (iRng2 ta):=by
  intro pins s σ H R I h
  refine Call_ (jGq I hg hm boot_range (PyProof.Rows.callWith_type1 (thn (ha pos pins s σ H _ I h) fun us s1 ⟨vs,H1,I1,r1,q1⟩=>?_) (by rw [hs,hs2]) (by rw [hs2];rfl)))
  obtain ⟨i,j,e,⟨q1,q2,q3,q4⟩,q⟩:=q1
  subst e
  cases r1 with
  | cons r rr =>
    cases rr with
    | cons r' rr =>
      cases rr
      obtain ⟨t,rfl⟩:=r
      obtain ⟨t',rfl⟩:=r'
      exact call_range_2 (jKp I1 q1 q2 q3 q4 q)
noncomputable def tFor (wi:TI) (g:TG) (tb:TS):TS:=fun D σ H=>wi σ H fun J H1=>∃ W:Nat→Nat→St→Hp→Prop,(∃ m,W 0 m σ H1)∧∀ i m σ H,W i m σ H →
  (J.stop i H∧D.nx σ H)∨(J.go i H∧∃ N:St→Hp→Prop,(∀ σ' H',N σ' H'→∃ m',m' < m∧W (i + 1) m' σ' H')∧∀ x H',J.yld i H x H'→g x σ H' fun σ2 H2=>tb { D with nx:=N,ct:=N,bk:=D.nx } σ2 H2)
noncomputable def jG1 (fp:List Addr) (h:Heap):List (Addr×Obj):=fp.filterMap fun b=>(h.get? b).map fun o=>(b,o)
theorem jFl {fp:List Addr} {h:Heap} {b:Addr} {o:Obj} (hb:b∈fp) (e:h.get? b=some o):(b,o)∈jG1 fp h:=List.mem_filterMap.mpr ⟨b,hb,by rw [e];rfl⟩
theorem jMB {fp:List Addr} {h:Heap} {p:Addr×Obj} (hp:p∈jG1 fp h):p.1∈fp∧h.get? p.1=some p.2:=by
  obtain ⟨b,hb,e⟩:=List.mem_filterMap.mp hp
  cases q:h.get? b with
  | none=>rw [q] at e;cases e
  | some o =>
    rw [q] at e
    have e':(b,o)=p:=Option.some.inj e
    subst e'
    exact ⟨hb,q⟩
theorem Inv.pinned {pins:List (Addr×Obj)} {σ:St} {H:Hp} {s:Shared} {fp:List Addr} (I:Inv X pins σ H s) (hf:∀ b∈fp,jGH X pins H b) (ho:∀ b∈fp,∃ o,s.heap.get? b=some o∧∀ v,o.data≠.cell v):Inv X (pins ++ jG1 fp s.heap) σ H s :=
  I.pins_of fun p hp=>(List.mem_append.mp hp).elim (fun z=>I.pin p (List.mem_append_right _ z)) fun z=>by
    obtain ⟨hb,e⟩:=jMB z
    obtain ⟨f0,f1,f2,_⟩:=hf p.1 hb
    obtain ⟨o,e',d⟩:=ho p.1 hb
    rw [e] at e';cases e'
    exact ⟨e,f0,f1,f2,d⟩
theorem Inv.unpinned {pins pl:List (Addr×Obj)} {σ:St} {H:Hp} {s:Shared} (I:Inv X (pins ++ pl) σ H s):Inv X pins σ H s:=I.pins_of fun p hp=>I.pin p (List.mem_append_right _ (List.mem_append_left _ hp))
theorem jD5 {iter:Expr} {body:List Stmt} {wi:TI} {g:TG} {tb:TS} {pos:Pos} (hp:PassesOwn (model X.prog X.w) X.A X.env X.xe) (hc:X.calm=true) (hi:PI X tg iter wi) (hg:PG X tg g) (hb:PSs X body tb)
    (hs:∀ x,foldedSetIterable iter X.env x=pure x:=by intro _;rfl):PS X (.For tg iter body [] pos) (tFor wi g tb):=by
  intro pins s σ H D I h
  refine wpAny_For (thn (hi pins s σ H _ I h) fun v s1 h1=>thn h1 fun itv s2 h2=>?_) hs
  obtain ⟨it,fp,tn,J,H2,e,I2,T,st2,f2,W,⟨m0,w0⟩,turn⟩:=h2
  subst e
  -- what stays true of the iterator's objects through the loop
  have stat:∀ {H':Hp},(∀ b∈fp,H' b=none)→∀ b∈fp,jGH X pins H' b:=fun hn b hb=>⟨hn b hb,(f2 b hb).2⟩
  refine codeAny_forLoop_any (fun n s'=>∃ i σ' H',Inv X pins σ' H' s'∧tn i s'.heap∧(∀ b∈fp,H' b=none)∧W i n σ' H') ?_ m0 ⟨0,σ,H2,I2,st2,fun b hb=>(f2 b hb).1,w0⟩
  rintro n s3 ⟨i,σ3,H3,I3,st3,fr3,w3⟩
  rcases turn i n σ3 H3 w3 with ⟨stop,qn⟩ | ⟨go,N,hN,step⟩
  · refine wpAny_passesOwn hp (thn (T.done X rfl rfl rfl hc i pins s3 σ3 H3 X.xe I3 (stat fr3) st3 stop) fun r s4 ⟨hr,I4⟩=>?_)
    subst hr
    exact wpAny_execs_nil ⟨σ3,H3,I4,qn⟩
  · refine wpAny_passesOwn hp (thn (T.item X rfl rfl rfl hc i pins s3 σ3 H3 X.xe I3 (stat fr3) st3 go) fun r s4 ⟨u,hr,h4⟩=>?_)
    subst hr
    refine wpAny_passesOwn hp (thn h4 fun _ s5 ⟨x,H5,I5,r5,y5,st5,fr5⟩=>?_)
    have I5':=I5.pinned (stat fr5) (T.obj _ _ st5)
    refine wpAny_passesOwn hp (thn (hg _ s5 σ3 H5 x u _ I5' r5 (step x H5 y5)) fun _ s6 ⟨σ6,H6,I6,q6⟩=>?_)
    refine wpAny_passesOwn hp (thn (hb _ s6 σ6 H6 _ I6 q6) fun f s7 q7=>?_)
    have again:∀ {σ7:St} {H7:Hp},Inv X (pins ++ jG1 fp s5.heap) σ7 H7 s7→N σ7 H7→∃ m,m < n∧∃ i σ' H',Inv X pins σ' H' s7∧tn i s7.heap∧(∀ b∈fp,H' b=none)∧W i m σ' H':=fun {σ7 H7} I7 n7=>by
      obtain ⟨m',hm,w7⟩:=hN σ7 H7 n7
      refine ⟨m',hm,i + 1,σ7,H7,I7.unpinned,T.keep _ _ _ st5 fun b hb o e=>(I7.pin (b,o) (List.mem_append_right _ (List.mem_append_right _ (jFl hb e)))).1,fun b hb=>?_,w7⟩
      obtain ⟨o,e,d⟩:=T.obj _ _ st5 b hb
      exact (I7.pin (b,o) (List.mem_append_right _ (List.mem_append_right _ (jFl hb e)))).2.1
    cases f with
    | next=>obtain ⟨σ7,H7,I7,n7⟩:=q7;exact again I7 n7
    | cont=>obtain ⟨σ7,H7,I7,n7⟩:=q7;exact again I7 n7
    | brk=>obtain ⟨σ7,H7,I7,q7⟩:=q7;exact ⟨σ7,H7,I7.unpinned,q7⟩
    | ret v=>obtain ⟨x7,σ7,H7,I7,r7,q7⟩:=q7;exact ⟨x7,σ7,H7,I7.unpinned,r7,q7⟩
end
theorem jEe {K:PySem.W.Frag} {a:Addr} {xs:List V} {g:TG} {tb:TS} {D:jCq} {σ:St} {H:Hp} (Pv:Nat→St→Hp→Prop) (h0:Pv 0 σ H) (hl:∀ i σ H,i≤xs.length→Pv i σ H→SqL K H a xs)
    (hs:∀ i x σ H,xs[i]?=some x→Pv i σ H→g x σ H fun σ2 H2=>tb { D with nx:=Pv (i + 1),ct:=Pv (i + 1),bk:=D.nx } σ2 H2) (hd:∀ σ H,Pv xs.length σ H→D.nx σ H) :
    ∃ W:Nat→Nat→St→Hp→Prop,(∃ m,W 0 m σ H)∧∀ i m σ H,W i m σ H →
      ((Itl K a).stop i H∧D.nx σ H)∨((Itl K a).go i H∧∃ N:St→Hp→Prop,(∀ σ' H',N σ' H'→∃ m',m' < m∧W (i + 1) m' σ' H')∧∀ x H',(Itl K a).yld i H x H'→g x σ H' fun σ2 H2=>tb { D with nx:=N,ct:=N,bk:=D.nx } σ2 H2):=by
  refine ⟨fun i m σ H=>m=xs.length - i∧i≤xs.length∧Pv i σ H,⟨xs.length,by simp,Nat.zero_le _,h0⟩,?_⟩
  rintro i m σ H ⟨rfl,hi,p⟩
  have q:=hl i σ H hi p
  by_cases hlt:i < xs.length
  · refine .inr ⟨⟨xs,xs[i],q,by simp [hlt]⟩,Pv (i + 1),fun σ' H' p'=>⟨xs.length - (i + 1),by omega,rfl,hlt,p'⟩,fun x H' y=>?_⟩
    obtain ⟨e,y⟩:=y
    subst e
    exact hs i x σ _ (y xs q) p
  · have e:i=xs.length:=by omega
    subst e
    exact .inl ⟨⟨xs,q,Nat.le_refl _⟩,hd σ H p⟩
theorem jG2 {lo:Int} {n:Nat} {g:TG} {tb:TS} {D:jCq} {σ:St} {H:Hp} (Pv:Nat→St→Hp→Prop) (h0:Pv 0 σ H)
    (hs:∀ i σ H,i < n→Pv i σ H→g (.int (lo + i)) σ H fun σ2 H2=>tb { D with nx:=Pv (i + 1),ct:=Pv (i + 1),bk:=D.nx } σ2 H2) (hd:∀ σ H,Pv n σ H→D.nx σ H) :
    ∃ W:Nat→Nat→St→Hp→Prop,(∃ m,W 0 m σ H)∧∀ i m σ H,W i m σ H →
      ((Itr lo n).stop i H∧D.nx σ H)∨((Itr lo n).go i H∧∃ N:St→Hp→Prop,(∀ σ' H',N σ' H'→∃ m',m' < m∧W (i + 1) m' σ' H')∧∀ x H',(Itr lo n).yld i H x H'→g x σ H' fun σ2 H2=>tb { D with nx:=N,ct:=N,bk:=D.nx } σ2 H2):=by
  refine ⟨fun i m σ H=>m=n - i∧i≤n∧Pv i σ H,⟨n,by simp,Nat.zero_le _,h0⟩,?_⟩
  rintro i m σ H ⟨rfl,hi,p⟩
  by_cases hlt:i < n
  · refine .inr ⟨hlt,Pv (i + 1),fun σ' H' p'=>⟨n - (i + 1),by omega,rfl,hlt,p'⟩,fun x H' y=>?_⟩
    obtain ⟨e,y⟩:=y
    subst e y
    exact hs i σ _ hlt p
  · have e:i=n:=by omega
    subst e
    exact .inl ⟨Nat.le_refl _,hd σ H p⟩
end L2
namespace L2
open PySem PySem.Spec PyProof.Rows
noncomputable abbrev R2:=V→V→Hp→VK→Prop
noncomputable def OpR (X:Cx) (f:Value→Value→Sem Value) (r:R2):Prop :=
  ∀ (pins:List (Addr×Obj)) (s:Shared) (σ:St) (H:Hp) (x y:V) (v u:Value) (Q:VK),Inv X pins σ H s→jAB x v→jAB y u→r x y H Q →
    wpAny (model X.prog X.w) X.A (f v u) (EP X pins σ Q) X.xe s
noncomputable def UnR (X:Cx) (f:Value→Sem Value) (r:V→Hp→VK→Prop):Prop :=
  ∀ (pins:List (Addr×Obj)) (s:Shared) (σ:St) (H:Hp) (x:V) (v:Value) (Q:VK),Inv X pins σ H s→jAB x v→r x H Q →
    wpAny (model X.prog X.w) X.A (f v) (EP X pins σ Q) X.xe s
noncomputable def CallR (X:Cx) (f:Value) (r:List V→Hp→VK→Prop):Prop :=
  ∀ (pins:List (Addr×Obj)) (s:Shared) (σ:St) (H:Hp) (xs:List V) (us:List Value) (Q:VK),Inv X pins σ H s→jAI xs us→r xs H Q →
    wpAny (model X.prog X.w) X.A (call f us) (EP X pins σ Q) X.xe s
noncomputable def TruR (X:Cx) (r:V→Hp→(Bool→Hp→Prop)→Prop):Prop :=
  ∀ (pins:List (Addr×Obj)) (s:Shared) (σ:St) (H:Hp) (x:V) (v:Value) (Q:Bool→Hp→Prop),Inv X pins σ H s→jAB x v→r x H Q →
    wpAny (model X.prog X.w) X.A (truthy v) (TP X pins σ Q) X.xe s
noncomputable def tOp (r:R2) (ta tb:TE):TE:=fun σ H Q=>ta σ H fun x H1=>tb σ H1 fun y H2=>r x y H2 Q
noncomputable def tUn (r:V→Hp→VK→Prop) (ta:TE):TE:=fun σ H Q=>ta σ H fun x H1=>r x H1 Q
noncomputable def rI (C:Int→Int→Prop) (g:Int→Int→V):R2:=fun x y H Q=>∃ i j,x=.int i∧y=.int j∧C i j∧Q (g i j) H
noncomputable def rI0 (g:Int→Int→V):R2:=fun x y H Q=>∃ i j,x=.int i∧y=.int j∧Q (g i j) H
noncomputable def rU (g:Int→V):V→Hp→VK→Prop:=fun x H Q=>∃ i,x=.int i∧Q (g i) H
section
variable {X:Cx} {a b c:Expr} {ta tb tc:TE} {pos:Pos}
theorem binT (ha:PE X a ta) (hb:PE X b tb) {pins:List (Addr×Obj)} {s:Shared} {σ:St} {H:Hp} {R:V→V→Hp→Prop} (I:Inv X pins σ H s)
    (h:ta σ H fun x H1=>tb σ H1 fun y H2=>R x y H2) {Q:Value→Shared→Prop} {f:Value→Value→Sem Value}
    (hf:∀ v u s2 x y H2,Inv X pins σ H2 s2→jAB x v→jAB y u→R x y H2→wpAny (model X.prog X.w) X.A (f v u) Q X.xe s2) :
    wpAny (model X.prog X.w) X.A (eval a X.env) (fun v s₁=>wpAny (model X.prog X.w) X.A (eval b X.env) (fun u s₂=>wpAny (model X.prog X.w) X.A (f v u) Q X.xe s₂) X.xe s₁) X.xe s:=by
  refine thn (ha pins s σ H _ I h) fun v s1 ⟨x,H1,I1,r1,q1⟩=>?_
  refine thn (hb pins s1 σ H1 _ I1 q1) fun u s2 ⟨y,H2,I2,r2,q2⟩=>?_
  exact hf v u s2 x y H2 I2 r1 r2 q2
theorem jAF {op:Operator} {r:R2} (ho:OpR X (binaryOp op) r) (ha:PE X a ta) (hb:PE X b tb):PE X (.BinOp a op b pos) (tOp r ta tb):=by
  intro pins s σ H Q I h
  exact wpAny_BinOp (binT ha hb I h fun v u s2 x y H2 I2 rx ry q=>ho pins s2 σ H2 x y v u Q I2 rx ry q)
theorem opI {f:Value→Value→Sem Value} {C:Int→Int→Prop} {g:Int→Int→Int}
    (rule:∀ (i j:Int) (t u:Tok) (s:Shared) (Q:Value→Shared→Prop) (E:Value→Shared→Prop),C i j→Q (.int (g i j) s.toks) { s with toks:=s.toks + 1 }→wpAny (model X.prog X.w) X.A (f (.int i t) (.int j u)) Q E s) :
    OpR X f (rI C fun i j=>.int (g i j)):=by
  intro pins s σ H x y v u Q I rx ry h
  obtain ⟨i,j,rfl,rfl,hc,q⟩:=h
  obtain ⟨t,rfl⟩:=rx
  obtain ⟨t',rfl⟩:=ry
  exact rule i j t t' s _ _ hc ⟨.int (g i j),H,I.tok _,⟨_,rfl⟩,q⟩
theorem opI0 {f:Value→Value→Sem Value} {g:Int→Int→Int}
    (rule:∀ (i j:Int) (t u:Tok) (s:Shared) (Q:Value→Shared→Prop) (E:Value→Shared→Prop),Q (.int (g i j) s.toks) { s with toks:=s.toks + 1 }→wpAny (model X.prog X.w) X.A (f (.int i t) (.int j u)) Q E s) :
    OpR X f (rI0 fun i j=>.int (g i j)):=by
  intro pins s σ H x y v u Q I rx ry h
  obtain ⟨i,j,rfl,rfl,q⟩:=h
  obtain ⟨t,rfl⟩:=rx
  obtain ⟨t',rfl⟩:=ry
  exact rule i j t t' s _ _ ⟨.int (g i j),H,I.tok _,⟨_,rfl⟩,q⟩
theorem opB0 {f:Value→Value→Sem Value} {g:Int→Int→Bool}
    (rule:∀ (i j:Int) (t u:Tok) (s:Shared) (Q:Value→Shared→Prop) (E:Value→Shared→Prop),Q (.bool (g i j)) s→wpAny (model X.prog X.w) X.A (f (.int i t) (.int j u)) Q E s) :
    OpR X f (rI0 fun i j=>.bl (g i j)):=by
  intro pins s σ H x y v u Q I rx ry h
  obtain ⟨i,j,rfl,rfl,q⟩:=h
  obtain ⟨t,rfl⟩:=rx
  obtain ⟨t',rfl⟩:=ry
  exact rule i j t t' s _ _ ⟨.bl (g i j),H,I,rfl,q⟩
noncomputable def CDiv (i j:Int):Prop:=0 < j∧j < 1073741824
noncomputable def CDivN (i j:Int):Prop:=j≠0∧j.natAbs < 1073741824
noncomputable def CPow (i j:Int):Prop:=0≤j∧j≤1000000∧i.natAbs < 2 ^ 64
noncomputable def CMul (i j:Int):Prop:=(-(2 ^ 64) < i∧i < 2 ^ 64)∨(-(2 ^ 64) < j∧j < 2 ^ 64)
theorem CMul.ok {i j:Int} (h:CMul i j):IntMulOk i j:=by
  rcases h with ⟨h1,h2⟩ | ⟨h1,h2⟩
  · exact .of_left (intBits_le_64 h1 h2)
  · exact .of_right (intBits_le_64 h1 h2)
theorem jA0:OpR X (binaryOp .Add) (rI0 fun i j=>.int (i + j)):=opI0 fun _ _ _ _ _ _ _ q=>add_int q
theorem jE5:OpR X (binaryOp .Sub) (rI0 fun i j=>.int (i - j)):=opI0 fun _ _ _ _ _ _ _ q=>sub_int q
theorem jFF:OpR X (binaryOp .Mult) (rI CMul fun i j=>.int (i * j)):=opI fun _ _ _ _ _ _ _ hc q=>mul_int q hc.ok
theorem jHl:OpR X (binaryOp .FloorDiv) (rI CDiv fun i j=>.int (i / j)):=opI fun i j _ _ _ _ _ hc q=>by
  have h1:(0:Int) < j:=hc.1
  have h2:j < 1073741824:=hc.2
  exact floordiv_int (by omega) (by rw [Int.fdiv_eq_ediv_of_nonneg i (by omega)];exact q) (.inl (PyProof.noPylong_small (by omega)))
theorem jCG:OpR X (binaryOp .Mod) (rI (fun _ j=>0 < j) fun i j=>.int (i % j)):=opI fun i j _ _ _ _ _ hc q=>by
  have h1:(0:Int) < j:=hc
  exact mod_int' (by omega) (by rw [Int.fmod_eq_emod_of_nonneg i (by omega)];exact q)
theorem op_pow:OpR X (binaryOp .Pow) (rI CPow fun i j=>.int (i ^ j.toNat)):=opI fun _ _ _ _ _ _ _ hc q=>pow_int_small hc.1 hc.2.1 hc.2.2 q
end
noncomputable def scal:V→V→Bool
  | .non,.non=>true | .non,.int _=>true | .int _,.non=>true | .non,.bl _=>true | .bl _,.non=>true | .non,.str _=>true | .str _,.non=>true
  | .int _,.int _=>true | .bl _,.bl _=>true | .str _,.str _=>true | .byt _,.byt _=>true
  | .int _,.str _=>true | .str _,.int _=>true | .bl _,.str _=>true | .str _,.bl _=>true
  | _,_=>false
noncomputable def rEq:R2:=fun x y H Q=>scal x y=true∧Q (.bl (decide (x=y))) H
noncomputable def rNe:R2:=fun x y H Q=>scal x y=true∧Q (.bl (!decide (x=y))) H
theorem jLP {i j:Int}:decide (V.int i=V.int j)=(i == j):=by
  rw [Bool.eq_iff_iff]
  simp
theorem jMC {i j:Bool}:decide (V.bl i=V.bl j)=(i == j):=by
  rw [Bool.eq_iff_iff]
  simp
theorem jLQ {i j:Str}:decide (V.str i=V.str j)=(i == j):=by
  rw [Bool.eq_iff_iff]
  simp
theorem jLR {i j:Array UInt8}:decide (V.byt i=V.byt j)=(i.toList == j.toList):=by
  rw [Bool.eq_iff_iff]
  cases i
  cases j
  simp
section
variable {X:Cx} {a b c:Expr} {ta tb tc:TE} {pos:Pos}
theorem jAX {pins:List (Addr×Obj)} {σ:St} {H:Hp} {s:Shared} {Q:VK} {k k':Bool} (I:Inv X pins σ H s) (q:Q (.bl k) H) (e:k=k'):EP X pins σ Q (.bool k') s:=by
  subst e
  exact ⟨.bl k,H,I,rfl,q⟩
theorem jA_:OpR X (compareOp .Eq) rEq:=by
  intro pins s σ H x y v u Q I rx ry h
  obtain ⟨hs,q⟩:=h
  cases x with
  | non =>
    cases rx
    cases y with
    | non=>cases ry;exact PySem.EqNone.eq_none_none (jAX I q (by simp))
    | bl j=>cases ry;exact PySem.EqNone.eq_none_bool (jAX I q (by simp))
    | int j=>obtain ⟨t',rfl⟩:=ry;exact PySem.EqNone.eq_none_int (jAX I q (by simp))
    | str j=>obtain ⟨t',rfl⟩:=ry;exact PySem.EqNone.eq_none_str (jAX I q (by simp))
    | _=>exact absurd (show false=true from hs) Bool.false_ne_true
  | bl i =>
    cases rx
    cases y with
    | non=>cases ry;exact PySem.EqNone.eq_bool_none (jAX I q (by simp))
    | bl j=>cases ry;exact eq_bool (jAX I q jMC)
    | str j=>obtain ⟨t',rfl⟩:=ry;exact PySem.EqMixed.eq_bool_str (jAX I q (by simp))
    | _=>exact absurd (show false=true from hs) Bool.false_ne_true
  | int i =>
    obtain ⟨t,rfl⟩:=rx
    cases y with
    | non=>cases ry;exact PySem.EqNone.eq_int_none (jAX I q (by simp))
    | int j=>obtain ⟨t',rfl⟩:=ry;exact eq_int (jAX I q jLP)
    | str j=>obtain ⟨t',rfl⟩:=ry;exact PySem.EqMixed.eq_int_str (jAX I q (by simp))
    | _=>exact absurd (show false=true from hs) Bool.false_ne_true
  | str i =>
    obtain ⟨t,rfl⟩:=rx
    cases y with
    | non=>cases ry;exact PySem.EqNone.eq_str_none (jAX I q (by simp))
    | bl j=>cases ry;exact PySem.EqMixed.eq_str_bool (jAX I q (by simp))
    | int j=>obtain ⟨t',rfl⟩:=ry;exact PySem.EqMixed.eq_str_int (jAX I q (by simp))
    | str j=>obtain ⟨t',rfl⟩:=ry;exact eq_str (jAX I q jLQ)
    | _=>exact absurd (show false=true from hs) Bool.false_ne_true
  | byt i =>
    obtain ⟨t,rfl⟩:=rx
    cases y with
    | byt j=>obtain ⟨t',rfl⟩:=ry;exact PySem.W.eq_bytes (jAX I q jLR)
    | _=>exact absurd (show false=true from hs) Bool.false_ne_true
  | _=>cases y <;> exact absurd (show false=true from hs) Bool.false_ne_true
theorem jD_:OpR X (compareOp .NotEq) rNe:=by
  intro pins s σ H x y v u Q I rx ry h
  obtain ⟨hs,q⟩:=h
  cases x with
  | non =>
    cases rx
    cases y with
    | non=>cases ry;exact PySem.EqNone.ne_none_none (jAX I q (by simp))
    | bl j=>cases ry;exact PySem.EqNone.ne_none_bool (jAX I q (by simp))
    | int j=>obtain ⟨t',rfl⟩:=ry;exact PySem.EqNone.ne_none_int (jAX I q (by simp))
    | str j=>obtain ⟨t',rfl⟩:=ry;exact PySem.EqNone.ne_none_str (jAX I q (by simp))
    | _=>exact absurd (show false=true from hs) Bool.false_ne_true
  | bl i =>
    cases rx
    cases y with
    | non=>cases ry;exact PySem.EqNone.ne_bool_none (jAX I q (by simp))
    | bl j=>cases ry;exact ne_bool (jAX I q (congrArg not jMC))
    | str j=>obtain ⟨t',rfl⟩:=ry;exact PySem.EqMixed.ne_bool_str (jAX I q (by simp))
    | _=>exact absurd (show false=true from hs) Bool.false_ne_true
  | int i =>
    obtain ⟨t,rfl⟩:=rx
    cases y with
    | non=>cases ry;exact PySem.EqNone.ne_int_none (jAX I q (by simp))
    | int j=>obtain ⟨t',rfl⟩:=ry;exact ne_int (jAX I q (congrArg not jLP))
    | str j=>obtain ⟨t',rfl⟩:=ry;exact PySem.EqMixed.ne_int_str (jAX I q (by simp))
    | _=>exact absurd (show false=true from hs) Bool.false_ne_true
  | str i =>
    obtain ⟨t,rfl⟩:=rx
    cases y with
    | non=>cases ry;exact PySem.EqNone.ne_str_none (jAX I q (by simp))
    | bl j=>cases ry;exact PySem.EqMixed.ne_str_bool (jAX I q (by simp))
    | int j=>obtain ⟨t',rfl⟩:=ry;exact PySem.EqMixed.ne_str_int (jAX I q (by simp))
    | str j=>obtain ⟨t',rfl⟩:=ry;exact ne_str (jAX I q (congrArg not jLQ))
    | _=>exact absurd (show false=true from hs) Bool.false_ne_true
  | byt i =>
    obtain ⟨t,rfl⟩:=rx
    cases y with
    | byt j=>obtain ⟨t',rfl⟩:=ry;exact PySem.W.ne_bytes (jAX I q (congrArg not jLR))
    | _=>exact absurd (show false=true from hs) Bool.false_ne_true
  | _=>cases y <;> exact absurd (show false=true from hs) Bool.false_ne_true
theorem jHm:OpR X (compareOp .Lt) (rI0 fun i j=>.bl (decide (i < j))):=opB0 fun _ _ _ _ _ _ _ q=>lt_int q
theorem op_le:OpR X (compareOp .LtE) (rI0 fun i j=>.bl (decide (i≤j))):=opB0 fun _ _ _ _ _ _ _ q=>le_int q
theorem jHn:OpR X (compareOp .Gt) (rI0 fun i j=>.bl (decide (j < i))):=opB0 fun _ _ _ _ _ _ _ q=>gt_int q
theorem jGr:OpR X (compareOp .Is) (fun x y H Q=>y=.non∧Q (.bl (decide (x=.non))) H):=by
  intro pins s σ H x y v u Q I rx ry h
  obtain ⟨rfl,q⟩:=h
  cases ry
  refine is_none_gen (jAX I q ?_)
  cases x <;> first
    | (cases rx;rfl)
    | (obtain ⟨t,rfl⟩:=rx;rfl)
theorem jHo:OpR X (compareOp .IsNot) (fun x y H Q=>y=.non∧Q (.bl (!decide (x=.non))) H):=by
  intro pins s σ H x y v u Q I rx ry h
  obtain ⟨rfl,q⟩:=h
  cases ry
  refine isnot_none_gen (jAX I q ?_)
  cases x <;> first
    | (cases rx;rfl)
    | (obtain ⟨t,rfl⟩:=rx;rfl)
noncomputable def isObj:HO→Bool
  | .lst _=>true
  | .ins _ _ _=>true
  | _=>false
theorem OpR.or {f:Value→Value→Sem Value} {r r':R2} (h:OpR X f r) (h':OpR X f r'):OpR X f (fun x y H Q=>r x y H Q∨r' x y H Q):=by
  intro pins s σ H x y v u Q I rx ry q
  rcases q with q | q
  · exact h pins s σ H x y v u Q I rx ry q
  · exact h' pins s σ H x y v u Q I rx ry q
theorem jAw (b:Expr) {op:CmpOp} (h:op≠.In:=by decide) (h2:op≠.NotIn:=by decide):behindInMarks op b=false:=by
  have e1:(op == CmpOp.In)=false:=by cases op <;> first | rfl | exact absurd rfl h
  have e2:(op == CmpOp.NotIn)=false:=by cases op <;> first | rfl | exact absurd rfl h2
  cases b <;> simp [behindInMarks,e1,e2]
theorem jFz {op:CmpOp} {r:R2} (ho:OpR X (compareOp op) r) (ha:PE X a ta) (hb:PE X b tb) (hm:behindInMarks op b=false):PE X (.Compare a [op] [b] pos) (tOp r ta tb):=by
  intro pins s σ H Q I h
  exact wpAny_Compare1 (binT ha hb I h fun v u s2 x y H2 I2 rx ry q=>ho pins s2 σ H2 x y v u Q I2 rx ry q) hm
noncomputable def jH9 (t:TE):TT:=fun σ H Q=>t σ H fun x H'=>∃ k,x=.bl k∧Q k H'
theorem jAu {op:CmpOp} {r:R2} (ho:OpR X (compareOp op) r) (ha:PE X a ta) (hb:PE X b tb) (hm:behindInMarks op b=false):PT X (.Compare a [op] [b] pos) (jH9 (tOp r ta tb)):=by
  intro pins s σ H Q I h
  refine wpAny_isTrue_Compare1 (thn (ha pins s σ H _ I h) fun v s1 ⟨x,H1,I1,r1,q1⟩=>thn (hb pins s1 σ H1 _ I1 q1) fun u s2 ⟨y,H2,I2,r2,q2⟩ =>
    thn (ho pins s2 σ H2 x y v u _ I2 r1 r2 q2) fun c s3 ⟨z,H3,I3,r3,k,e,q3⟩=>?_) hm
  subst e
  cases r3
  exact wpAny_truthy_bool ⟨H3,I3,q3⟩
noncomputable def tChain (r r':R2) (ta tb tc:TE):TE:=fun σ H Q=>ta σ H fun x H1=>tb σ H1 fun y H2=>r x y H2 fun z H3=>∃ k,z=.bl k ∧
  (if k=true then tc σ H3 fun w' H4=>r' y w' H4 Q else Q (.bl false) H3)
theorem jNj {op op':CmpOp} {r r':R2} (ho:OpR X (compareOp op) r) (ho':OpR X (compareOp op') r') (ha:PE X a ta) (hb:PE X b tb) (hc:PE X c tc)
    (hm:lastMarks [op,op'] [b,c]=false:=by with_unfolding_all rfl):PE X (.Compare a [op,op'] [b,c] pos) (tChain r r' ta tb tc):=by
  intro pins s σ H Q I h
  refine Compare_chain (thn (ha pins s σ H _ I h) fun v s1 ⟨x,H1,I1,r1,q1⟩=>chain_link (thn (hb pins s1 σ H1 _ I1 q1) fun u s2 ⟨y,H2,I2,r2,q2⟩ =>
    thn (ho pins s2 σ H2 x y v u _ I2 r1 r2 q2) fun d s3 ⟨z,H3,I3,r3,k,e,q3⟩=>?_)) hm
  subst e
  cases r3
  refine wpAny_truthy_bool ?_
  cases k with
  | false=>exact ite_ff ⟨.bl false,H3,I3,rfl,q3⟩
  | true=>exact ite_tt (chain_last (thn (hc pins s3 σ H3 _ I3 q3) fun w' s4 ⟨z',H4,I4,r4,q4⟩=>ho' pins s4 σ H4 y z' u w' Q I4 r2 r4 q4))
noncomputable def TruV (K:PySem.W.Frag) (x:V) (H:Hp) (k:Bool):Prop :=
  match x with
  | .non=>k=false
  | .bl b=>k=b
  | .int i=>k=(i != 0)
  | .str y=>y.length≤sizeLine∧k=((y.length:Int) != 0)
  | .byt y=>y.size≤sizeLine∧k=((y.size:Int) != 0)
  | .ref p=>(∃ xs,SqL K H p xs∧k=!xs.isEmpty)∨(∃ xs,SqT K H p xs∧k=!xs.isEmpty)∨∃ kvs,H p=some (.dK kvs)∧k=!kvs.isEmpty
  | _=>False
theorem jMb {κ:Type} {kvs:List (κ×V)} {vs:List (κ×Value)} (r:KV kvs vs):(!vs.isEmpty)=!kvs.isEmpty:=by
  cases r <;> rfl
theorem jH_ {xs:List V} {its:List Value} (r:jAI xs its):(!its.toArray.isEmpty)=!xs.isEmpty:=by
  cases r <;> simp
theorem jGs:(sizeLine:Nat) < 2 ^ 63:=by rw [sizeLine_eq];decide
theorem tru_ok:TruR X (fun x H Q=>∃ k,TruV X.K x H k∧Q k H):=by
  intro pins s σ H x v Q I rx h
  obtain ⟨k,e,q⟩:=h
  have hl:=jGs
  have hs:sizeLine=16777216:=sizeLine_eq
  cases x with
  | non =>
    cases rx
    have e':k=false:=e
    subst e'
    exact truthy_none ⟨H,I,q⟩
  | bl b =>
    cases rx
    have e':k=b:=e
    subst e'
    exact wpAny_truthy_bool ⟨H,I,q⟩
  | int i =>
    obtain ⟨t,rfl⟩:=rx
    have e':k=(i != 0):=e
    subst e'
    exact PySem.P.truthy_int ⟨H,I,q⟩
  | str y =>
    obtain ⟨t,rfl⟩:=rx
    obtain ⟨hy,e'⟩:y.length≤sizeLine∧k=((y.length:Int) != 0):=e
    subst e'
    exact PySem.P.truthy_str (by omega) ⟨H,I.tok _,q⟩
  | byt y =>
    obtain ⟨t,rfl⟩:=rx
    obtain ⟨hy,e'⟩:y.size≤sizeLine∧k=((y.size:Int) != 0):=e
    subst e'
    exact PySem.W.truthy_bytes (by omega) ⟨H,I.tok _,q⟩
  | ref p =>
    cases rx
    have e':(∃ xs,SqL X.K H p xs∧k=!xs.isEmpty)∨(∃ xs,SqT X.K H p xs∧k=!xs.isEmpty)∨∃ kvs,H p=some (.dK kvs)∧k=!kvs.isEmpty:=e
    rcases e' with ⟨xs,hx,e'⟩ | ⟨xs,hx,e'⟩ | ⟨kvs,hx,e'⟩
    · subst e'
      obtain ⟨its,r,pl,hz⟩:=I.list hx
      have hlen:=r.length
      exact wpAny_truthy_list pl.isList (by simp only [List.size_toArray];omega) ⟨H,I.tok _,by rw [jH_ r];exact q⟩
    · subst e'
      obtain ⟨its,r,pl,hz⟩:=I.tuple hx
      have hlen:=r.length
      exact truthy_tuple pl (by simp only [List.size_toArray];omega) ⟨H,I.tok _,by rw [jH_ r];exact q⟩
    · subst e'
      obtain ⟨hz,hS,vs,r,m⟩:kvs.length≤sizeLine∧(p == sysModules)=false∧∃ vs,KV kvs vs∧s.heap.DictOf (jBe X.prog X.w) p vs:=I.hok p _ hx
      have hlen:kvs.length=vs.length:=Paired.length r
      exact wpAny_truthy_dict hS m (by omega) ⟨H,I.tok _,by rw [jMb r];exact q⟩
  | _=>exact (show False from e).elim
theorem jAQ (ha:PE X a ta) (he:∀ whole,isTrue a X.env whole=(do let v ← whole;standAt a.pos;holding [v] (truthy v))) :
    PT X a (fun σ H Q=>ta σ H fun x H'=>∃ k,TruV X.K x H' k∧Q k H'):=by
  intro pins s σ H Q I h
  exact isTrue_plain (thn (ha pins s σ H _ I h) fun v s1 ⟨x,H1,I1,r1,q1⟩=>tru_ok pins s1 σ H1 x v Q I1 r1 q1) (he _)
theorem jIa:OpR X (binaryOp .Add) (fun x y H Q=>∃ i j,x=.str i∧y=.str j∧i.length + j.length≤sizeLine∧Q (.str (i ++ j)) H):=by
  intro pins s σ H x y v u Q I rx ry h
  obtain ⟨i,j,rfl,rfl,hz,q⟩:=h
  obtain ⟨t,rfl⟩:=rx
  obtain ⟨t',rfl⟩:=ry
  exact add_str (fun t' tk=>⟨.str (i ++ j),H,I.tok _,⟨_,rfl⟩,q⟩) hz
noncomputable def PlainIxT (b:Expr):Prop:=∀ o i,subscripted b false o i=operate [o,i] (getItem o i)
theorem jFm {x:V} {us:List Value} (r:jAI [x] us):∃ u,us=[u]∧jAB x u:=by
  cases r with
  | cons r1 r2=>cases r2;exact ⟨_,rfl,r1⟩
theorem vals2 {x y:V} {us:List Value} (r:jAI [x,y] us):∃ u w',us=[u,w']∧jAB x u∧jAB y w':=by
  cases r with
  | cons r1 r2 =>
    cases r2 with
    | cons r3 r4=>cases r4;exact ⟨_,_,rfl,r1,r3⟩
theorem jJw (hc:X.calm=true):CallR X (.builtin "max") (fun xs H Q=>∃ i j,xs=[.int i,.int j]∧Q (.int (if j > i then j else i)) H):=by
  intro pins s σ H xs us Q I r h
  obtain ⟨i,j,rfl,q⟩:=h
  obtain ⟨u,w',rfl,⟨t,rfl⟩,⟨t',rfl⟩⟩:=vals2 r
  refine max_two_ints (I.ok.hd hc) fun h' tk k=>⟨_,H,I.kept k,?_,q⟩
  by_cases hj:j > i
  · rw [if_pos hj,if_pos hj];exact ⟨_,rfl⟩
  · rw [if_neg hj,if_neg hj];exact ⟨_,rfl⟩
theorem jKq:CallR X (.type "str") (fun xs H Q=>∃ i,xs=[.int i]∧i.natAbs.log2 < 1920∧Q (.str (toString i)) H):=by
  intro pins s σ H xs us Q I r h
  obtain ⟨i,rfl,hz,q⟩:=h
  obtain ⟨u,rfl,t,rfl⟩:=jFm r
  exact PySem.P.str_of_int hz ⟨.str _,H,I.tok _,⟨_,rfl⟩,q⟩
noncomputable def LenV (K:PySem.W.Frag) (x:V) (H:Hp) (n:Nat):Prop :=
  match x with
  | .str y=>y.length≤sizeLine∧n=y.length
  | .byt y=>y.size≤sizeLine∧n=y.size
  | .ref p=>(∃ xs,SqL K H p xs∧n=xs.length)∨∃ xs,SqT K H p xs∧n=xs.length
  | _=>False
end
end L2
namespace L2
open PySem PySem.Spec PyProof.Rows
structure ObjM (h:Heap) (x dx C:Addr) (mA:Str→Option Value):Prop where
  obj:h.get? x=some (PySem.W.instObj C dx)
  ns:h.Ns1 dx mA
  ne:dx≠x
theorem lookIn_ns {h:Heap} {dx:Addr} {mA:Str→Option Value} (n:h.Ns1 dx mA):∃ od,h.get? dx=some od∧∀ name,PySem.W.lookIn name od=some (mA name):=by
  obtain ⟨o,es,ep,ho,hd,hk,_,hm⟩:=n
  refine ⟨o,ho,fun name=>?_⟩
  have e:=hm name
  unfold nsFind findBy at e
  rw [← Array.find?_toList] at e
  unfold PySem.W.lookIn
  rw [hd]
  dsimp only
  split
  · rename_i y q
    rw [q] at e
    exact congrArg some e
  · rename_i q
    rw [q] at e
    have a:es.toList.any (·.refKey)=false:=by
      rw [List.any_eq_false]
      intro y hy
      obtain ⟨z,t,hkey⟩:=hk y (Array.mem_toList_iff.mp hy)
      simp [DictEntry.refKey,hkey]
    have a':¬ es.toList.any (·.refKey)=true:=by rw [a];exact Bool.false_ne_true
    rw [if_neg a']
    exact congrArg some e
theorem ObjM.look {h:Heap} {x dx C:Addr} {mA:Str→Option Value} (I:ObjM h x dx C mA):∃ od,PySem.W.InstAt h x (PySem.W.instObj C dx) C (some od)∧∀ name,PySem.W.lookIn name od=some (mA name) :=
  let ⟨od,ho,hl⟩:=lookIn_ns I.ns
  ⟨od,⟨I.obj,rfl,rfl,ho⟩,hl⟩
section
variable {prog:Program} {w:World} {A:Around} {E:Value→Shared→Prop} {s:Shared} {K:PySem.W.Frag} {x dx C f:Addr} {mA:Str→Option Value} {name:Str} {v:Value}
theorem get_map {expr:Bool} {Q:Value→Shared→Prop} (X:K.In s.heap) (I:ObjM s.heap x dx C mA) (hg:PySem.W.plainGet K C name=true) (hh:PySem.W.hasDictIn K C=true)
    (ha:PySem.W.findIn K (.ref C) name=some none) (hv:mA name=some v) (hv':PySem.W.handedIn v=true) (h:Q v { s with toks:=s.toks + 1 }) :
    wpAny (model prog w) A (getAttr (.ref x) name expr) Q E s:=by
  obtain ⟨od,J,hl⟩:=I.look
  exact PySem.W.get_value X J (PySem.W.plainGet_of hg).1 (PySem.W.findObj_own hh ha rfl (by rw [hl,hv])) hv' h
theorem jNk {pl:Sem Bool} {Q:Value×List Value→Shared→Prop} (X:K.In s.heap) (I:ObjM s.heap x dx C mA) (hg:PySem.W.plainGet K C name=true)
    (hf:PySem.W.findIn K (.ref C) name=some (some (.ref f))) (ht:PySem.W.isFn K (.ref f)=true) (hv:mA name=none) (h:Q (.ref f,[.ref x]) s) :
    wpAny (model prog w) A (getMethod (.ref x) name pl) Q E s:=by
  obtain ⟨od,J,hl⟩:=I.look
  exact PySem.W.method_fn X J (PySem.W.plainGet_of hg).1 (PySem.W.plainGet_of hg).2 hf (beq_iff_eq.mp ht) (by show (PySem.W.lookIn name od).map (·.isSome)=some false;rw [hl,hv];rfl) h
theorem set_map {ns:List Str} {Q:Unit→Shared→Prop} (X:K.In s.heap) (I:ObjM s.heap x dx C mA)
    (hs:PySem.W.findIn K (.ref C) "__setattr__"=some (some (.builtin "object.__setattr__"))) (hp:PySem.W.plainOver K C=true) (ht:PySem.W.takerIn K C name=some none) (hh:PySem.W.hasDictIn K C=true)
    (hw:PySem.Within mA ns) (hsz:ns.length≤sizeLine)
    (h:∀ h',ObjM h' x dx C (fun y=>if y=name then some v else mA y)→Heap.SameBut dx s.heap h'→Q () { s with heap:=h',toks:=s.toks + 2 }) :
    wpAny (model prog w) A (setAttr (.ref x) name v) Q E s:=by
  obtain ⟨od,J,hl⟩:=I.look
  refine PySem.W.set_plain X J hs (PySem.W.osa_open (s:={ s with toks:=s.toks + 1 }) (r:=none) X J hp ht fun b=>?_)
  obtain ⟨cd,hc,hd'⟩:=PySem.W.any_some hh
  have hx:s.heap.get? x=some ⟨.ref C,some dx,.plain,#[]⟩:=I.obj
  refine wpAny_bind (wpAny_pure (wpAny_bind (wpAny_bind (wpAny_loadPart hx (wpAny_bind (PySem.W.Looks.here (s:={ s with toks:=s.toks + 1 }) (PySem.W.looks_clsIn X hc) ?_))))))
  rw [hd']
  refine wpAny_pure (a:=some dx) (wpAny_bind (wpAny_pure (wpAny_bind ?_)))
  refine wpAny_nsSet1 (s:={ s with toks:=s.toks + 1 }) I.ns fun h' hn2 hs2=>?_
  obtain ⟨oD,esD,epD,hoD,hdD,hcD⟩:=hn2.count (PySem.Within.cons name v hw)
  refine wpAny_bind (wpAny_lookBehind hoD (by rw [hdD];exact pastItsLine_dict (Nat.le_trans hcD (by rw [List.length_cons];omega))) ?_)
  exact wpAny_pure (h _ ⟨(hs2.2 _ (Ne.symm I.ne)).trans I.obj,hn2,I.ne⟩ hs2)
theorem jNl {R:Result→Shared→Prop} {vs:List Value} {kw:List (Str×Value)} (X:K.In s.heap) (hm:PySem.W.makesIn K C=true)
    (hi:PySem.W.findIn K (.ref C) "__init__"=some (some (.ref f))) (hf:PySem.W.typeIn K (.ref f)=some (.type "function"))
    (h:codeAny (model prog w) (A.under (.builtin "type.__call__" ⟨.ref C :: vs,kw⟩)) (.call (.ref f) ⟨.ref (s.heap.objs.size + 1) :: vs,kw⟩) (PySem.W.InitBack (s.heap.objs.size + 1) R)
      { s with heap:=(s.heap.push PySem.W.emptyDict).push (PySem.W.instObj C s.heap.objs.size) }) :
    codeAny (model prog w) A (.call (.ref C) ⟨vs,kw⟩) R s:=by
  obtain ⟨hh,g,d,t,os⟩:=s
  exact PySem.W.make_core (PySem.W.makes_of X hm) (PySem.W.looks_findIn X hi) (fun self=>PySem.W.bind_fn X self hf) (.inl rfl) h
end
noncomputable def jBi (f:Str) (v:V):List (Str×V)→List (Str×V)
  | []=>[(f,v)]
  | (g,x) :: r=>if g=f then (g,v) :: r else (g,x) :: jBi f v r
theorem jGg (f g:Str) (v:V):∀ fs:List (Str×V),(jBi f v fs).lookup g=if g=f then some v else fs.lookup g
  | []=>by
    show List.lookup g [(f,v)]=_
    by_cases h:g=f
    · have hb:(g == f)=true:=beq_iff_eq.mpr h
      simp only [List.lookup,hb,if_pos h]
    · have hb:(g == f)=false:=beq_eq_false_iff_ne.mpr h
      simp only [List.lookup,hb,if_neg h]
  | (k,x) :: r=>by
    have ih:=jGg f g v r
    rw [show jBi f v ((k,x) :: r)=(if k=f then (k,v) :: r else (k,x) :: jBi f v r) from rfl]
    by_cases hk:k=f
    · rw [if_pos hk]
      by_cases h:g=k
      · have hb:(g == k)=true:=beq_iff_eq.mpr h
        simp only [List.lookup,hb,if_pos (h.trans hk)]
      · have hb:(g == k)=false:=beq_eq_false_iff_ne.mpr h
        simp only [List.lookup,hb,if_neg (fun e:g=f=>h (e.trans hk.symm))]
    · rw [if_neg hk]
      by_cases h:g=k
      · have hb:(g == k)=true:=beq_iff_eq.mpr h
        simp only [List.lookup,hb,if_neg (fun e:g=f=>hk (h.symm.trans e))]
      · have hb:(g == k)=false:=beq_eq_false_iff_ne.mpr h
        simp only [List.lookup,hb]
        exact ih
theorem jE6 (f:Str) (v:V):∀ fs:List (Str×V),f∈(jBi f v fs).map (·.1)∧∀ g,g∈fs.map (·.1)→g∈(jBi f v fs).map (·.1)
  | []=>⟨by simp [jBi],fun g h=>by simp at h⟩
  | (k,x) :: r=>by
    obtain ⟨i1,i2⟩:=jE6 f v r
    rw [show jBi f v ((k,x) :: r)=(if k=f then (k,v) :: r else (k,x) :: jBi f v r) from rfl]
    by_cases hk:k=f
    · rw [if_pos hk]
      subst hk
      exact ⟨by simp,fun g h=>by simpa using h⟩
    · rw [if_neg hk]
      refine ⟨?_,fun g h=>?_⟩
      · rw [List.map_cons]
        exact List.mem_cons_of_mem _ i1
      · rw [List.map_cons] at h ⊢
        rcases List.mem_cons.mp h with e | e
        · exact List.mem_cons.mpr (.inl e)
        · exact List.mem_cons_of_mem _ (i2 g e)
theorem jGh (f:Str) (v:V):∀ fs:List (Str×V),(jBi f v fs).length≤fs.length + 1
  | []=>by simp [jBi]
  | (k,x) :: r=>by
    have ih:=jGh f v r
    rw [show jBi f v ((k,x) :: r)=(if k=f then (k,v) :: r else (k,x) :: jBi f v r) from rfl]
    by_cases hk:k=f
    · rw [if_pos hk,List.length_cons,List.length_cons];omega
    · rw [if_neg hk,List.length_cons,List.length_cons];omega
theorem jCp.some_of {v:V} {o:Option Value} (r:jCp (some v) o):∃ u,o=some u∧jAB v u:=by
  cases o with
  | none=>exact (show False from r).elim
  | some u=>exact ⟨u,rfl,r⟩
theorem jCp.none_of {o:Option Value} (r:jCp none o):o=none:=by
  cases o with
  | none=>rfl
  | some u=>exact (show False from r).elim
theorem jJx {v:V} {u:Value} (r:jAB v u):PySem.W.handedIn u=true:=by
  cases v with
  | non=>cases (show u=Value.none from r);rfl
  | bl b=>cases (show u=Value.bool b from r);rfl
  | int i=>obtain ⟨t,e⟩:=(show ∃ t,u=Value.int i t from r);cases e;rfl
  | str x=>obtain ⟨t,e⟩:=(show ∃ t,u=Value.str x t from r);cases e;rfl
  | byt b=>obtain ⟨t,e⟩:=(show ∃ t,u=Value.bytes b t from r);cases e;rfl
  | flt b=>obtain ⟨t,e⟩:=(show ∃ t,u=Value.float b t from r);cases e;rfl
  | ref a=>cases (show u=Value.ref a from r);rfl
  | ty n=>cases (show u=Value.type n from r);rfl
section
variable {P:Program} {w:World} {H H':Hp} {h h':Heap} {a C dx:Addr} {fs fs':List (Str×V)}
theorem jHp (hok:HOk P w H h) (e:H a=some (.ins C dx fs)):∃ mA,ObjM h a dx C mA∧(∀ f,jCp (fs.lookup f) (mA f))∧PySem.Within mA (fs.map (·.1))∧fs.length≤1000∧H dx=some (.own a):=by
  obtain ⟨d,z,ne,ob,mA,n,r,q⟩:=(show jA3 P w H h a (.ins C dx fs) from hok a _ e)
  exact ⟨mA,⟨ob,n,ne⟩,r,q,z,d⟩
end
structure Cls (K:PySem.W.Frag) (C:Addr):Prop where
  pg:PySem.W.plainGet K C Str.empty=true
  hd:PySem.W.hasDictIn K C=true
  po:PySem.W.plainOver K C=true
  sa:PySem.W.findIn K (.ref C) "__setattr__"=some (some (.builtin "object.__setattr__"))
theorem Cls.get {K:PySem.W.Frag} {C:Addr} (c:Cls K C) (f:Str):PySem.W.plainGet K C f=true:=c.pg
noncomputable def jAy (K:PySem.W.Frag) (C:Addr) (f:Str):Prop:=PySem.W.findIn K (.ref C) f=some none
theorem jAy.taker {K:PySem.W.Frag} {C:Addr} {f:Str} (n:jAy K C f):PySem.W.takerIn K C f=some none:=by
  unfold PySem.W.takerIn
  rw [show PySem.W.findIn K (.ref C) f=some none from n]
  rfl
structure Con (K:PySem.W.Frag) (C:Addr) (f:Str) (v:V) (u:Value):Prop where
  at_:PySem.W.findIn K (.ref C) f=some (some u)
  rel:jAB v u
  get:PySem.W.specialIn K u "__get__"=some none
  cp:PySem.W.copiedNames.contains f=false
structure Meth (K:PySem.W.Frag) (C:Addr) (m:Str) (f:Addr):Prop where
  at_:PySem.W.findIn K (.ref C) m=some (some (.ref f))
  fn:PySem.W.isFn K (.ref f)=true
  kp:PySem.W.keepIn K (.ref f)=true
section
variable {X:Cx} {pins:List (Addr×Obj)} {σ:St} {H:Hp} {s:Shared} {a C dx:Addr} {fs:List (Str×V)} {f:Str} {v:V} {A:Around} {E:Value→Shared→Prop}
theorem jIb {b:Bool} {Q:Value→Shared→Prop} (I:Inv X pins σ H s) (e:H a=some (.ins C dx fs)) (c:Cls X.K C) (n:jAy X.K C f) (l:fs.lookup f=some v)
    (h:∀ u s',Inv X pins σ H s'→jAB v u→Q u s'):wpAny (model X.prog X.w) A (getAttr (.ref a) f b) Q E s:=by
  obtain ⟨mA,O,r,_,_,_⟩:=jHp I.hok e
  obtain ⟨u,hu,ru⟩:=jCp.some_of (v:=v) (o:=mA f) (by rw [← l];exact r f)
  exact get_map I.kIn O (c.get f) c.hd n hu (jJx ru) (h u _ (I.tok _) ru)
theorem jIc {m:Str} {g:Addr} {pl:Sem Bool} {Q:Value×List Value→Shared→Prop} (I:Inv X pins σ H s) (e:H a=some (.ins C dx fs)) (c:Cls X.K C) (k:Meth X.K C m g) (l:fs.lookup m=none)
    (h:Q (.ref g,[.ref a]) s):wpAny (model X.prog X.w) A (getMethod (.ref a) m pl) Q E s:=by
  obtain ⟨mA,O,r,_,_,_⟩:=jHp I.hok e
  have hn:mA m=none:=jCp.none_of (by rw [← l];exact r m)
  exact jNk I.kIn O (c.get m) k.at_ k.fn hn h
theorem jId {y:V} {u:Value} {Q:Unit→Shared→Prop} (I:Inv X pins σ H s) (e:H a=some (.ins C dx fs)) (c:Cls X.K C) (n:jAy X.K C f) (hl:fs.length < 1000) (ry:jAB y u)
    (h:∀ s',Inv X pins σ (upd H a (.ins C dx (jBi f y fs))) s'→Q () s'):wpAny (model X.prog X.w) A (setAttr (.ref a) f u) Q E s:=by
  obtain ⟨mA,O,r,wi,_,ho⟩:=jHp I.hok e
  have hz:(fs.map (·.1)).length≤sizeLine:=by rw [List.length_map,sizeLine_eq];omega
  refine set_map I.kIn O c.sa c.po n.taker c.hd wi hz fun h' O' sb=>h _ ?_
  have hd:∃ o,h'.get? dx=some o:=let ⟨o,_,_,e',_⟩:=O'.ns;⟨o,e'⟩
  refine I.write (x:=a) (e:=dx) (by rw [e];exact True.intro) (.inr ho) (fun b q hb z=>(sb.2 b hb).trans z) hd ?_
  refine ⟨by rw [jAi O.ne];exact ho,?_,O.ne,O'.obj,_,O'.ns,fun g=>?_,fun g hg=>?_⟩
  · have:=jGh f y fs;omega
  · show jCp ((jBi f y fs).lookup g) (if g=f then some u else mA g)
    rw [jGg]
    by_cases q:g=f
    · rw [if_pos q,if_pos q];exact ry
    · rw [if_neg q,if_neg q];exact r g
  · by_cases q:g=f
    · rw [q];exact (jE6 f y fs).1
    · refine (jE6 f y fs).2 g (wi g fun z=>hg ?_)
      show (if g=f then some u else mA g)=none
      rw [if_neg q];exact z
theorem Inv.made (I:Inv X pins σ H s):Inv X pins σ (upd (upd H s.heap.objs.size (.own (s.heap.objs.size + 1))) (s.heap.objs.size + 1) (.ins C s.heap.objs.size []))
    { s with heap:=(s.heap.push PySem.W.emptyDict).push (PySem.W.instObj C s.heap.objs.size) }:=by
  have e1:(s.heap.push PySem.W.emptyDict).get? s.heap.objs.size=some PySem.W.emptyDict:=Heap.get?_push_size s.heap rfl
  have e2:((s.heap.push PySem.W.emptyDict).push (PySem.W.instObj C s.heap.objs.size)).get? (s.heap.objs.size + 1)=some (PySem.W.instObj C s.heap.objs.size):=by
    have:=Heap.get?_push_size (s.heap.push PySem.W.emptyDict) (o:=PySem.W.instObj C s.heap.objs.size) rfl
    rwa [Heap.size_push] at this
  have e3:(s.heap.push PySem.W.emptyDict).Ns s.heap.objs.size (fun _=>none):=⟨PySem.W.emptyDict,#[],_,e1,rfl,(fun e he=>absurd he (by simp)),fun _=>rfl⟩
  have I1:=I.laid (a:=s.heap.objs.size) (o:=.own (s.heap.objs.size + 1)) (h':=s.heap.push PySem.W.emptyDict) (t':=s.toks) (fun b u q=>Heap.get?_push_of_some _ q) (Nat.le_refl _) ⟨_,e1⟩
  refine I1.laid (a:=s.heap.objs.size + 1) (o:=.ins C s.heap.objs.size []) (t':=s.toks) (fun b u q=>Heap.get?_push_of_some _ q) (Nat.le_of_eq (Heap.size_push _ _)) ?_
  have ne:s.heap.objs.size≠s.heap.objs.size + 1:=Nat.ne_of_lt (Nat.lt_succ_self _)
  refine ⟨by rw [jAi ne,jAc],Nat.zero_le _,ne,e2,fun _=>none,(Heap.Ns1.of_empty e3).at fun o q=>Heap.get?_push_of_some _ q,fun _=>True.intro,fun y hy=>absurd rfl hy⟩
theorem jLS {prog:Program} {w:World} {env:Env} {e:Expr} {f:Str} {pos:Pos} {s:Shared} {Q:Value→Shared→Prop} (hb:attributeBase e f env (eval e env)=eval e env)
    (h:wpAny (model prog w) A (eval e env) (fun o s₁=>wpAny (model prog w) A (getAttr o f true) Q E s₁) E s):wpAny (model prog w) A (eval (.Attribute e f pos) env) Q E s :=
  Attribute_any_ h (by rw [arm_eval_Attribute,hb])
end
noncomputable def tFld (K:PySem.W.Frag) (ta:TE) (f:Str):TE:=fun σ H Q=>ta σ H fun x H1=>∃ a C dx fs v,x=.ref a∧H1 a=some (.ins C dx fs)∧Cls K C∧jAy K C f∧fs.lookup f=some v∧Q v H1
noncomputable def tCon (K:PySem.W.Frag) (ta:TE) (f:Str):TE:=fun σ H Q=>ta σ H fun x H1=>∃ a C dx fs v u,x=.ref a∧H1 a=some (.ins C dx fs)∧Cls K C∧Con K C f v u∧fs.lookup f=none∧Q v H1
noncomputable def sFld (K:PySem.W.Frag) (ta tv:TE) (f:Str):TS:=fun D σ H=>tv σ H fun y H1=>ta σ H1 fun x H2=>∃ a C dx fs,x=.ref a∧H2 a=some (.ins C dx fs)∧Cls K C∧jAy K C f∧fs.length < 1000 ∧
  D.nx σ (upd H2 a (.ins C dx (jBi f y fs)))
noncomputable def InOp (X:Cx) (op:Operator) (rd:V→V→Hp→VK→Prop):Prop :=
  ∀ (pins:List (Addr×Obj)) (s:Shared) (σ:St) (H:Hp) (x y:V) (u v:Value) (Q:VK),Inv X pins σ H s→jAB x u→jAB y v→rd x y H Q→wpAny (model X.prog X.w) X.A (inplaceOp op u v) (EP X pins σ Q) X.xe s
noncomputable def sFldAug (K:PySem.W.Frag) (ta tv:TE) (rd:V→V→Hp→VK→Prop) (f:Str):TS:=fun D σ H=>ta σ H fun x H1=>∃ a C dx fs v,x=.ref a∧H1 a=some (.ins C dx fs)∧Cls K C∧jAy K C f∧fs.lookup f=some v ∧
  tv σ H1 fun y H2=>rd v y H2 fun z H3=>∃ dx' fs',H3 a=some (.ins C dx' fs')∧fs'.length < 1000∧D.nx σ (upd H3 a (.ins C dx' (jBi f z fs')))
section
variable {X:Cx} {o e value:Expr} {f:Str} {pos pos' tpos:Pos} {ta tv:TE}
theorem jAs (he:PE X e ta) (hb:attributeBase e f X.env (eval e X.env)=eval e X.env):PE X (.Attribute e f pos) (tFld X.K ta f):=by
  intro pins s σ H Q I h
  refine jLS hb (thn (he pins s σ H _ I h) fun u s1 ⟨x,H1,I1,rx,a,C,dx,fs,v,ex,ea,c,n,l,q⟩=>?_)
  subst ex
  obtain rfl:u=Value.ref a:=rx
  exact jIb I1 ea c n l fun u' s2 I2 ru=>⟨v,H1,I2,ru,q⟩
theorem jAL (ha:PE X o ta) (hv:PE X value tv) (hs:swapsWith value (some (.Attribute o f pos')) pos.line X.env=pure false):PS X (.Assign [.Attribute o f pos'] value pos) (sFld X.K ta tv f):=by
  intro pins s σ H D I h
  refine plainObj_wpAny_Assign_Attribute (thn (hv pins s σ H _ I h) fun u s1 ⟨y,H1,I1,ry,q⟩=>thn (ha pins s1 σ H1 _ I1 q) fun ov s2 ⟨x,H2,I2,rx,a,C,dx,fs,ex,ea,c,n,l,q2⟩=>?_) hs
  subst ex
  obtain rfl:ov=Value.ref a:=rx
  exact jId I2 ea c n l ry fun s3 I3=>⟨σ,_,I3,q2⟩
theorem jMD {op:Operator} {rd:V→V→Hp→VK→Prop} (ha:PE X o ta) (hv:PE X value tv) (hop:InOp X op rd):PS X (.AugAssign (.Attribute o f tpos) op value pos) (sFldAug X.K ta tv rd f):=by
  intro pins s σ H D I h
  refine wpAny_AugAssign_AttributeAny (thn (ha pins s σ H _ I h) fun ov s1 ⟨x,H1,I1,rx,a,C,dx,fs,v,ex,ea,c,n,l,q⟩=>?_)
  subst ex
  obtain rfl:ov=Value.ref a:=rx
  refine jIb I1 ea c n l fun u s2 I2 ru=>thn (hv pins s2 σ H1 _ I2 q) fun w3 s3 ⟨y,H2,I3,ry,q3⟩=>thn (hop pins s3 σ H2 v y u w3 _ I3 ru ry q3) fun w4 s4 ⟨z,H3,I4,rz,dx',fs',ea',l',q4⟩=>?_
  exact jId I4 ea' c n l' rz fun s5 I5=>⟨σ,_,I5,q4⟩
noncomputable def rAdd:V→V→Hp→VK→Prop:=fun x y H Q=>∃ i j,x=.int i∧y=.int j∧Q (.int (i + j)) H
noncomputable def rSub:V→V→Hp→VK→Prop:=fun x y H Q=>∃ i j,x=.int i∧y=.int j∧Q (.int (i - j)) H
theorem in_add:InOp X .Add rAdd:=by
  rintro pins s σ H x y u v Q I rx ry ⟨i,j,rfl,rfl,q⟩
  obtain ⟨t,rfl⟩:=(show ∃ t,u=Value.int i t from rx)
  obtain ⟨t',rfl⟩:=(show ∃ t',v=Value.int j t' from ry)
  exact PyProof.Rows.iadd_int ⟨.int (i + j),H,I.tok _,⟨_,rfl⟩,q⟩
theorem in_sub:InOp X .Sub rSub:=by
  rintro pins s σ H x y u v Q I rx ry ⟨i,j,rfl,rfl,q⟩
  obtain ⟨t,rfl⟩:=(show ∃ t,u=Value.int i t from rx)
  obtain ⟨t',rfl⟩:=(show ∃ t',v=Value.int j t' from ry)
  exact PyProof.Rows.isub_int ⟨.int (i - j),H,I.tok _,⟨_,rfl⟩,q⟩
end
section
variable {X:Cx} {pins:List (Addr×Obj)} {σ:St} {H:Hp} {s:Shared} {A:Around} {E:Value→Shared→Prop} {Q:Value→Shared→Prop} {c:Value} {b:Bool}
inductive jBU (K:PySem.W.Frag) (H:Hp):V→Value→Prop where
  | non:jBU K H .non (.type "NoneType")
  | bl (x:Bool):jBU K H (.bl x) (.type "bool")
  | int (i:Int):jBU K H (.int i) (.type "int")
  | str (x:Str):jBU K H (.str x) (.type "str")
  | flt (x:UInt64):jBU K H (.flt x) (.type "float")
  | lst {a:Addr} {xs:List V} (e:H a=some (.lst xs)):jBU K H (.ref a) (.type "list")
  | frz {a:Addr} {o:Obj} {xs:List V} (e:H a=some (.frz o (.lst xs))):jBU K H (.ref a) (.type "list")
  | tup {a:Addr} {xs:List V} (e:H a=some (.tup xs)):jBU K H (.ref a) (.type "tuple")
  | dK {a:Addr} {kvs:List (Key×V)} (e:H a=some (.dK kvs)):jBU K H (.ref a) (.type "dict")
  | dT {a:Addr} {kvs:List (List Key×V)} (e:H a=some (.dT kvs)):jBU K H (.ref a) (.type "dict")
  | ins {a C dx:Addr} {fs:List (Str×V)} (e:H a=some (.ins C dx fs)) (cl:Cls K C) (ha:PySem.W.findIn K (.ref C) "__class__"=some (some (.builtin "object.__class__")))
      (hn:PySem.W.specialIn K (.builtin "object.__class__") "__get__"=some (some (.builtin "getset_descriptor.__get__"))) (htk:PySem.W.takesIn K (.builtin "object.__class__")=some true)
      (hm:PySem.W.mroIn K C (.type "object")=some true):jBU K H (.ref a) (.ref C)
theorem jME {x:V} {u t:Value} (I:Inv X pins σ H s) (rx:jAB x u) (ty:jBU X.K H x t) (e:PySem.W.kitOne X.K t c=some b) (h:∀ tk,Q (.bool b) { s with toks:=tk }) :
    wpAny (model X.prog X.w) A (call (.builtin "isinstance") [u,c]) Q E s:=by
  cases ty with
  | non=>cases (show u=Value.none from rx);exact PySem.W.kia_one PySem.W.kitx_none I.kIn True.intro e (fun z=>nomatch z) h
  | bl y=>cases (show u=Value.bool y from rx);exact PySem.W.kia_one PySem.W.kitx_bool I.kIn True.intro e (fun z=>nomatch z) h
  | int i=>obtain ⟨t,q⟩:=(show ∃ t,u=Value.int i t from rx);cases q;exact PySem.W.kia_one PySem.W.kitx_int I.kIn True.intro e (fun z=>nomatch z) h
  | str y=>obtain ⟨t,q⟩:=(show ∃ t,u=Value.str y t from rx);cases q;exact PySem.W.kia_one PySem.W.kitx_str I.kIn True.intro e (fun z=>nomatch z) h
  | flt y=>obtain ⟨t,q⟩:=(show ∃ t,u=Value.float y t from rx);cases q;exact PySem.W.kia_one PySem.W.kitx_float I.kIn True.intro e (fun z=>nomatch z) h
  | @lst a xs ea =>
    cases (show u=Value.ref a from rx)
    obtain ⟨_,_,n,_,h1⟩:=(show jA3 X.prog X.w H s.heap a (.lst xs) from I.hok a _ ea)
    exact PySem.W.kia_one PySem.W.kitx_list I.kIn ⟨_,h1,rfl⟩ e (fun z=>nomatch z) h
  | @frz a ob xs ea =>
    cases (show u=Value.ref a from rx)
    obtain ⟨_,_,_,n,_,h1⟩:=(show jA3 X.prog X.w H s.heap a (.frz ob (.lst xs)) from I.hok a _ ea)
    exact PySem.W.kia_one PySem.W.kitx_list I.kIn ⟨_,h1,rfl⟩ e (fun z=>nomatch z) h
  | @tup a xs ea =>
    cases (show u=Value.ref a from rx)
    obtain ⟨_,_,_,p⟩:=(show jA3 X.prog X.w H s.heap a (.tup xs) from I.hok a _ ea)
    obtain ⟨o,h1,h2,_⟩:=p
    exact PySem.W.kia_one PySem.W.kitx_tuple I.kIn ⟨o,h1,h2⟩ e (fun z=>nomatch z) h
  | @dK a kvs ea =>
    cases (show u=Value.ref a from rx)
    obtain ⟨_,_,vs,_,p⟩:=(show jA3 X.prog X.w H s.heap a (.dK kvs) from I.hok a _ ea)
    obtain ⟨o,es,ep,h1,h2,_⟩:=p
    exact PySem.W.kia_one PySem.W.kitx_dict I.kIn ⟨o,h1,h2.1⟩ e (fun z=>nomatch z) h
  | @dT a kvs ea =>
    cases (show u=Value.ref a from rx)
    obtain ⟨_,_,xs,_,o,es,ep,h1,h2,_⟩:=(show jA3 X.prog X.w H s.heap a (.dT kvs) from I.hok a _ ea)
    exact PySem.W.kia_one PySem.W.kitx_dict I.kIn ⟨o,h1,h2.1⟩ e (fun z=>nomatch z) h
  | @ins a C dx fs ea cl ha hn htk hm =>
    cases (show u=Value.ref a from rx)
    obtain ⟨mA,O,_⟩:=jHp I.hok ea
    obtain ⟨od,J,_⟩:=O.look
    exact PySem.W.kia_one (PySem.W.kitx_own (cl.get _) cl.hd ha hn htk hm) I.kIn J e (fun z=>nomatch z) h
end
end L2
namespace L2
open PySem PySem.Spec PyProof.Rows
structure jBc (k:Nat) (A:Around):Prop where
  hd:A.handled=none
  dp:A.depth + 3 * k + 5 < recursionLimit
  un:A.units + 16 * k + 200 < cLine
theorem jBc.mono {j k:Nat} {A:Around} (r:jBc k A) (h:j≤k):jBc j A:=⟨r.hd,by have:=r.dp;omega,by have:=r.un;omega⟩
theorem jBc.deeper {k:Nat} {A:Around} (r:jBc (k + 1) A) (env:Env):jBc k (A.deeper env) :=
  ⟨r.hd,by have:=r.dp;show A.depth + 1 + 3 * k + 5 < _;omega,by have:=r.un;show A.units + 3 + 16 * k + 200 < _;omega⟩
theorem jMc {A:Around} {C:Addr} {us:List Value} {kw:List (Str×Value)}:(A.under (.builtin "type.__call__" ⟨.ref C :: us,kw⟩)).depth=A.depth + 1:=by
  first | rfl | simp [Around.under,Code.weight,Code.isCreation,Code.isGuard,Code.isCaller,Code.frames,Code.isFrame,guardIds]
theorem jMd {A:Around} {C:Addr} {us:List Value} {kw:List (Str×Value)}:(A.under (.builtin "type.__call__" ⟨.ref C :: us,kw⟩)).units=A.units + 1:=by
  first | rfl | simp [Around.under,Code.cUnits,Code.frames,Code.isFrame]
theorem jBc.make {k:Nat} {A:Around} (r:jBc (k + 1) A) (C:Addr) (us:List Value) (kw:List (Str×Value)):jBc k (A.under (.builtin "type.__call__" ⟨.ref C :: us,kw⟩)) :=
  ⟨r.hd,by have:=r.dp;rw [jMc];omega,by have:=r.un;rw [jMd];omega⟩
theorem jBc.depth {k:Nat} {A:Around} (r:jBc k A):A.depth < recursionLimit:=by have:=r.dp;omega
theorem jBc.units {k:Nat} {A:Around} (r:jBc k A):A.units + 64 < cLine:=by have:=r.un;omega
noncomputable def tNil:TA:=fun _ H Q=>Q [] H
noncomputable def tCons (ta:TE) (tr:TA):TA:=fun σ H Q=>ta σ H fun x H1=>tr σ H1 fun xs H2=>Q (x :: xs) H2
section
variable {X:Cx} {e:Expr} {es:List Expr} {te:TE} {t:TA} {pos:Pos}
theorem jAe:PA X [] tNil:=fun _ _ _ _ H Q I h=>Calls.spliced_nil ⟨[],H,I,.nil,h⟩
theorem jAa (ha:PE X e te) (hr:PA X es t) (hs:starEach (e :: es) X.env=(false,eval e X.env) :: starEach es X.env:=by rfl):PA X (e :: es) (tCons te t):=by
  intro pos pins s σ H Q I h
  rw [hs]
  show wpAny _ _ (spliced ((false,eval e X.env) :: backTo pos (starEach es X.env))) _ _ s
  refine Calls.spliced_cons (thn (ha pins s σ H _ I h) fun u s1 ⟨x,H1,I1,r1,q1⟩=>?_)
  exact thn (hr pos pins s1 σ H1 _ I1 q1) fun us s2 ⟨xs,H2,I2,r2,q2⟩=>⟨x :: xs,H2,I2,.cons r1 r2,q2⟩
noncomputable def tTup (t:TA):TE:=fun σ H Q=>t σ H fun xs H1=>xs.length≤sizeLine∧∀ p,H1 p=none→Q (.ref p) (upd H1 p (.tup xs))
noncomputable def tLst (t:TA):TE:=fun σ H Q=>t σ H fun xs H1=>xs.length≤sizeLine∧∀ p,H1 p=none→Q (.ref p) (upd H1 p (.lst xs))
theorem jAV {x1} (h:PA X es t):PE X (.Tuple es x1 pos) (tTup t):=by
  intro pins s σ H Q I hq
  refine wpAny_Tuple_spliced (thn (h pos pins s σ H _ I hq) fun us s1 ⟨xs,H1,I1,r,z,q⟩=>⟨by rw [← r.length];exact z,?_⟩)
  have hf:H1 s1.heap.objs.size=none:=I1.hok.fresh (Nat.le_refl _)
  refine ⟨.ref s1.heap.objs.size,upd H1 s1.heap.objs.size (.tup xs),I1.laid (t':=s1.toks) (fun b u e=>Heap.get?_push_of_some _ e) (Nat.le_refl _) ?_,rfl,q _ hf⟩
  exact ⟨z,us,r,⟨_,Heap.get?_push_size _ rfl,rfl,_,rfl⟩⟩
theorem jAZ (h:PA X es t):PE X (.List es pos) (tLst t):=by
  intro pins s σ H Q I hq
  refine wpAny_List_spliced (thn (h pos pins s σ H _ I hq) fun us s1 ⟨xs,H1,I1,r,z,q⟩=>⟨by rw [← r.length];exact z,?_⟩)
  have hf:H1 s1.heap.objs.size=none:=I1.hok.fresh (Nat.le_refl _)
  refine ⟨.ref s1.heap.objs.size,upd H1 s1.heap.objs.size (.lst xs),I1.laid (t':=s1.toks) (fun b u e=>Heap.get?_push_of_some _ e) (Nat.le_refl _) ?_,rfl,q _ hf⟩
  exact ⟨z,us,0,r,Heap.get?_push_size _ rfl⟩
end
noncomputable abbrev Sp:=List V→Hp→VK→XK→Prop
noncomputable abbrev CXT:=List Env→Hp→Shared→XK→Value→Shared→Prop
structure Env0 (P:Program) (w:World) (K:PySem.W.Frag) (mg:Str→Option Value) (base:Heap) (A:Around) (outer:List Env) (s:Shared) (H:Hp):Prop where
  frames:A.frames=some outer
  mod:Mod K mg base
  bs:∀ b o,base.get? b=some o→s.heap.get? b=some o∧H b=none
  bsz:base.objs.size≤s.heap.objs.size
  funs:s.heap.FunFrames base outer
  frf:∀ b∈frs outer,H b=none
  hok:HOk P w H s.heap
  bare:AllBare s.gens
noncomputable def CE (outer:List Env) (P:Program) (w:World) (H:Hp) (s:Shared) (Q:VK) (u:Value) (s':Shared):Prop :=
  ∃ v H',s'.os=s.os∧AllBare s'.gens∧Un (frs outer) [] H H' s.heap s'.heap∧HOk P w H' s'.heap∧jAB v u∧Q v H'
noncomputable def CR (CX:CXT) (outer:List Env) (P:Program) (w:World) (H:Hp) (s:Shared) (Q:VK) (E:XK) (r:Result) (s':Shared):Prop :=
  match r with
  | .ok (.ret u)=>CE outer P w H s Q u s'
  | .ok _=>False
  | .error e=>CX outer H s E e s'
structure jAh (P:Program) (w:World) (K:PySem.W.Frag) (mg:Str→Option Value) (base:Heap) (CX:CXT) (k:Nat) (f:Addr) (fd:FuncData) (ps:List Str) (sp:Sp):Prop where
  len:∀ vs H Q E,sp vs H Q E→vs.length=ps.length
  run:∀ (A:Around) (outer:List Env) (s:Shared) (H:Hp) (args:Args) (us:List Value) (vs:List V) (Q:VK) (E:XK),jBc k A→Env0 P w K mg base A outer s H→BindsTo s fd args (ps.zip us)→jAI vs us→sp vs H Q E →
    codeAny (model P w) A (.call (.ref f) args) (CR CX outer P w H s Q E) s
theorem jAh.mono {P:Program} {w:World} {K:PySem.W.Frag} {mg:Str→Option Value} {base:Heap} {CX:CXT} {j k:Nat} {f:Addr} {fd:FuncData} {ps:List Str} {sp:Sp} (F:jAh P w K mg base CX j f fd ps sp) (h:j≤k) :
    jAh P w K mg base CX k f fd ps sp:=⟨F.len,fun A outer s H args us vs Q E hr=>F.run A outer s H args us vs Q E (hr.mono h)⟩
theorem Env0.make {P:Program} {w:World} {K:PySem.W.Frag} {mg:Str→Option Value} {base:Heap} {A:Around} {outer:List Env} {s:Shared} {H:Hp} (e:Env0 P w K mg base A outer s H) (C:Addr) (us:List Value) (kw:List (Str×Value)) :
    Env0 P w K mg base (A.under (.builtin "type.__call__" ⟨.ref C :: us,kw⟩)) outer s H:=⟨by first | exact e.frames | (simpa [Around.under,Code.envs,Code.isFrame,pushEnvs] using e.frames),e.mod,e.bs,e.bsz,e.funs,e.frf,e.hok,e.bare⟩
section
variable {X:Cx} {pins:List (Addr×Obj)} {σ:St} {H:Hp} {s s':Shared}
theorem Inv.env0 (I:Inv X pins σ H s):Env0 X.prog X.w X.K X.mg X.base X.A X.stack s H :=
  ⟨I.ok.frames,I.ok.mod,I.bs,Nat.le_trans I.ok.bsz I.sz,I.stack,I.stkFree,I.hok,I.bare⟩
theorem Inv.after {Q:VK} {u:Value} (I:Inv X pins σ H s) (h:CE X.stack X.prog X.w H s Q u s'):EP X pins σ Q u s':=by
  obtain ⟨v,H',os,bare,un,hok,r,q⟩:=h
  obtain ⟨hh,g,d,t,os'⟩:=s'
  obtain rfl:os'=s.os:=os
  exact ⟨v,H',I.call (h':=hh) (g':=g) (d':=d) (t':=t) (ch:=[]) un hok bare (fun b z=>absurd z (by simp)),r,q⟩
end
noncomputable def tCall (sp:Sp) (dvs:List V) (E:XK) (t:TA):TE:=fun σ H Q=>t σ H fun vs H1=>sp (vs ++ dvs) H1 Q E
noncomputable def tMeth (C:Addr) (m:Str) (sp:Sp) (dvs:List V) (E:XK) (ta:TE) (t:TA):TE:=fun σ H Q=>ta σ H fun x H1=>∃ a dx fs,x=.ref a∧H1 a=some (.ins C dx fs)∧fs.lookup m=none ∧
  t σ H1 fun vs H2=>sp (x :: (vs ++ dvs)) H2 Q E
noncomputable def jKh (C:Addr) (sp:Sp) (dvs:List V) (E:XK) (t:TA):TE:=fun σ H Q=>t σ H fun vs H1=>∀ x dx,H1 x=none→H1 dx=none→dx≠x →
  sp (.ref x :: (vs ++ dvs)) (upd (upd H1 dx (.own x)) x (.ins C dx [])) (fun v H2=>v=.non∧Q (.ref x) H2) E
noncomputable def jCo (K:PySem.W.Frag) (fd:FuncData) (ps:List Str) (ds:List Value):Prop :=
  ∀ (s:Shared) (us:List Value),K.In s.heap→(us ++ ds).length=ps.length→BindsTo s fd ⟨us,[]⟩ (ps.zip (us ++ ds))
theorem jCo.all {K:PySem.W.Frag} {fd:FuncData} {ps:List Str} (h:∀ us:List Value,us.length=ps.length→bindArgs fd ⟨us,[]⟩=pure (ps.zip us)):jCo K fd ps []:=fun s us _ hl=>by
  rw [List.append_nil] at hl ⊢
  exact .of_eq (h us hl)
noncomputable def jE7 (CX:CXT) (X:Cx) (E:XK):Prop:=∀ (pins:List (Addr×Obj)) (σ:St) (H:Hp) (s:Shared) (e:Value) (s':Shared),Inv X pins σ H s→CX X.stack H s E e s'→X.xe e s'
section
variable {X:Cx} {CX:CXT} {k:Nat} {f C:Addr} {fd:FuncData} {ps:List Str} {sp:Sp} {dvs:List V} {ds:List Value} {E:XK} {x m:Str} {p pos apos:Pos} {e o:Expr} {es:List Expr} {ta:TE} {t:TA}
theorem jMF {pins:List (Addr×Obj)} {σ:St} {H:Hp} {s:Shared} {Q:VK} {us:List Value} {vs:List V} (F:jAh X.prog X.w X.K X.mg X.base CX k f fd ps sp) (hr:jBc k X.A) (hb:jCo X.K fd ps ds) (hd:jAI dvs ds) (hx:jE7 CX X E)
    (I:Inv X pins σ H s) (r:jAI vs us) (h:sp (vs ++ dvs) H Q E):wpAny (model X.prog X.w) X.A (call (.ref f) us) (EP X pins σ Q) X.xe s:=by
  have r2:jAI (vs ++ dvs) (us ++ ds):=r.append hd
  have hl:(us ++ ds).length=ps.length:=by rw [← r2.length];exact F.len _ _ _ _ h
  refine wpAny_call (codeAny_mono (F.run X.A X.stack s H ⟨us,[]⟩ (us ++ ds) (vs ++ dvs) Q E hr I.env0 (hb s us I.kIn hl) r2 h) fun r s' hq=>?_)
  cases r with
  | error e=>exact hx pins σ H s e s' I hq
  | ok fl =>
    cases fl with
    | ret u=>exact I.after hq
    | next=>exact False.elim hq
    | brk=>exact False.elim hq
    | cont=>exact False.elim hq
theorem pe_call (F:jAh X.prog X.w X.K X.mg X.base CX k f fd ps sp) (hr:jBc k X.A) (hg:Gl X x) (hm:X.mg x=some (.ref f)) (hk:PySem.W.keepIn X.K (.ref f)=true) (hb:jCo X.K fd ps ds) (hd:jAI dvs ds) (hx:jE7 CX X E)
    (ha:PA X (e :: es) t) (hdb:(x == ("__debug__":Str))=false:=by decide) (he:starEach (e :: es) X.env=(false,eval e X.env) :: starEach es X.env:=by rfl) (hpl:(backTo pos (starEach es X.env)).any (·.1)=false:=by rfl) :
    PE X (.Call (.Name x p) (e :: es) [] pos) (tCall sp dvs E t):=by
  intro pins s σ H Q I h
  refine wpAny_Call_Name_kw (jDM I hg hm ?_ hdb)
  refine PySem.W.callWith_K (h₀:=X.base) I.ok.mod.kin hk (thn (ha pos pins s σ H _ I h) fun us s1 ⟨vs,H1,I1,r,q⟩=>⟨I1.kIn,?_⟩) he hpl
  exact jMF F hr hb hd hx I1 r q
structure Mk (K:PySem.W.Frag) (C f:Addr):Prop where
  makes:PySem.W.makesIn K C=true
  init:PySem.W.findIn K (.ref C) "__init__"=some (some (.ref f))
  fn:PySem.W.isFn K (.ref f)=true
  kp:PySem.W.keepIn K (.ref C)=true
theorem jKr {pins:List (Addr×Obj)} {σ:St} {H:Hp} {s:Shared} {Q:VK} {us:List Value} {vs:List V} (M:Mk X.K C f) (F:jAh X.prog X.w X.K X.mg X.base CX k f fd ps sp) (hr:jBc (k + 1) X.A) (hb:jCo X.K fd ps ds) (hd:jAI dvs ds)
    (hx:jE7 CX X E) (I:Inv X pins σ H s) (r:jAI vs us)
    (h:∀ x dx,H x=none→H dx=none→dx≠x→sp (.ref x :: (vs ++ dvs)) (upd (upd H dx (.own x)) x (.ins C dx [])) (fun v H2=>v=.non∧Q (.ref x) H2) E) :
    wpAny (model X.prog X.w) X.A (call (.ref C) us) (EP X pins σ Q) X.xe s:=by
  have hq:=h (s.heap.objs.size + 1) s.heap.objs.size (I.hok.fresh (Nat.le_succ _)) (I.hok.fresh (Nat.le_refl _)) (Nat.ne_of_lt (Nat.lt_succ_self _))
  have I2:=Inv.made (C:=C) I
  have r2:jAI (V.ref (s.heap.objs.size + 1) :: (vs ++ dvs)) (Value.ref (s.heap.objs.size + 1) :: (us ++ ds)):=.cons rfl (r.append hd)
  have hl:(Value.ref (s.heap.objs.size + 1) :: us ++ ds).length=ps.length:=by
    have e:=r2.length
    rw [F.len _ _ _ _ hq] at e
    exact e.symm
  refine wpAny_call (jNl (f:=f) I.kIn M.makes M.init (beq_iff_eq.mp M.fn) (codeAny_mono (F.run _ X.stack _ _ ⟨Value.ref (s.heap.objs.size + 1) :: us,[]⟩ (Value.ref (s.heap.objs.size + 1) :: (us ++ ds)) _ _ E (hr.make C us [])
    (I2.env0.make C us []) (hb _ (Value.ref (s.heap.objs.size + 1) :: us) I2.kIn hl) r2 hq) fun r s' hq'=>?_))
  cases r with
  | error e=>exact hx pins σ _ _ e s' I2 hq'
  | ok fl =>
    cases fl with
    | ret u =>
      obtain ⟨v,H',I3,rv,ev,q3⟩:=I2.after hq'
      subst ev
      exact ⟨rv,⟨V.ref (s.heap.objs.size + 1),H',I3,rfl,q3⟩⟩
    | next=>exact False.elim hq'
    | brk=>exact False.elim hq'
    | cont=>exact False.elim hq'
theorem pe_make (M:Mk X.K C f) (F:jAh X.prog X.w X.K X.mg X.base CX k f fd ps sp) (hr:jBc (k + 1) X.A) (hg:Gl X x) (hm:X.mg x=some (.ref C)) (hb:jCo X.K fd ps ds) (hd:jAI dvs ds) (hx:jE7 CX X E)
    (ha:PA X (e :: es) t) (hdb:(x == ("__debug__":Str))=false:=by decide) (he:starEach (e :: es) X.env=(false,eval e X.env) :: starEach es X.env:=by rfl) (hpl:(backTo pos (starEach es X.env)).any (·.1)=false:=by rfl) :
    PE X (.Call (.Name x p) (e :: es) [] pos) (jKh C sp dvs E t):=by
  intro pins s σ H Q I h
  refine wpAny_Call_Name_kw (jDM I hg hm ?_ hdb)
  refine PySem.W.callWith_K (h₀:=X.base) I.ok.mod.kin M.kp (thn (ha pos pins s σ H _ I h) fun us s1 ⟨vs,H1,I1,r,q⟩=>⟨I1.kIn,?_⟩) he hpl
  exact jKr M F hr hb hd hx I1 r q
theorem jNm (M:Mk X.K C f) (F:jAh X.prog X.w X.K X.mg X.base CX k f fd ps sp) (hr:jBc (k + 1) X.A) (hg:Gl X x) (hm:X.mg x=some (.ref C)) (hb:jCo X.K fd ps ds) (hd:jAI dvs ds) (hx:jE7 CX X E)
    (hdb:(x == ("__debug__":Str))=false:=by decide):PE X (.Call (.Name x p) [] [] pos) (jKh C sp dvs E tNil):=by
  intro pins s σ H Q I h
  refine wpAny_Call_Name_kw (jDM I hg hm ?_ hdb)
  exact PySem.W.callWith_K0 I.kIn M.kp (jKr (us:=[]) M F hr hb hd hx I .nil h)
end
noncomputable def PK (X:Cx) (kws:List Keyword) (t:TA):Prop :=
  ∀ (pos:Pos) (pins:List (Addr×Obj)) (s:Shared) (σ:St) (H:Hp) (Q:List V→Hp→Prop),Inv X pins σ H s→t σ H Q→wpAny (model X.prog X.w) X.A (evalAll ((backToKw pos (keywordEach kws X.env)).map (·.2))) (AP X pins σ Q) X.xe s
section
variable {X:Cx} {CX:CXT} {k:Nat} {f C:Addr} {fd:FuncData} {ps ks:List Str} {sp:Sp} {E:XK} {x m:Str} {p pos apos kpos:Pos} {e o:Expr} {es:List Expr} {kws:List Keyword} {te ta:TE} {t tk:TA} {nm:Option Str}
structure KBinds (K:PySem.W.Frag) (fd:FuncData) (ps ks:List Str) (g:List Value→List Value→List Value) (gV:List V→List V→List V):Prop where
  to:∀ (s:Shared) (us ws:List Value),K.In s.heap→(g us ws).length=ps.length→BindsTo s fd ⟨us,ks.zip ws⟩ (ps.zip (g us ws))
  rel:∀ {vs:List V} {us:List Value} {zs:List V} {ws:List Value},jAI vs us→jAI zs ws→jAI (gV vs zs) (g us ws)
noncomputable def tCallK (sp:Sp) (gV:List V→List V→List V) (E:XK) (t tk:TA):TE:=fun σ H Q=>t σ H fun vs H1=>tk σ H1 fun zs H2=>sp (gV vs zs) H2 Q E
variable {g:List Value→List Value→List Value} {gV:List V→List V→List V}
end
structure jAn (N P:List Str) (sc:Scope):Prop where
  kind:sc.kind=.function
  co:sc.isCoroutine=false
  gen:sc.isGenerator=false
  nd:N.Nodup
  pre:N.take P.length=P
  par:∀ x∈P,sc.names.lookup x=some .local∨sc.names.lookup x=some .cell
  nofree:∀ y∈sc.names,y.2≠.free
theorem jJy {kindOf:Str→Option NameKind} {x:Str}:∀ {binds:List (Str×Value)} {m:Str→Option Value},(∀ v,(x,v) ∉ binds)→bindL kindOf binds m x=m x
  | [],_,_=>rfl
  | (n,v) :: r,m,h=>by
    unfold bindL
    rw [jJy fun w hw=>h w (List.mem_cons_of_mem _ hw)]
    split
    · have:x≠n:=by rintro rfl;exact h v List.mem_cons_self
      simp [this]
    · rfl
theorem jJz {kindOf:Str→Option NameKind} {x:Str}:∀ {binds:List (Str×Value)} {m:Str→Option Value},(∀ v,(x,v) ∉ binds)→bindC kindOf binds m x=m x
  | [],_,_=>rfl
  | (n,v) :: r,m,h=>by
    unfold bindC
    rw [jJz fun w hw=>h w (List.mem_cons_of_mem _ hw)]
    split
    · rfl
    · have:x≠n:=by rintro rfl;exact h v List.mem_cons_self
      simp [this]
theorem jJA {kindOf:Str→Option NameKind} {x:Str} {v:Value}:∀ {P:List Str} {vs:List Value} {i:Nat} {m:Str→Option Value},P.Nodup→P[i]?=some x→vs[i]?=some v→kindOf x=some .local →
    bindL kindOf (P.zip vs) m x=some v
  | [],_,_,_,_,h,_,_=>by simp at h
  | _ :: _,[],_,_,_,_,h,_=>by simp at h
  | p :: P,w :: vs,0,m,nd,h1,h2,hk=>by
    simp at h1 h2;subst h1;subst h2
    show bindL kindOf ((p,w) :: P.zip vs) m p=_
    unfold bindL
    rw [jJy fun v hv=>(List.nodup_cons.mp nd).1 (List.of_mem_zip hv).1,if_pos hk]
    simp
  | p :: P,w :: vs,i + 1,m,nd,h1,h2,hk=>by
    show bindL kindOf ((p,w) :: P.zip vs) m x=_
    unfold bindL
    exact jJA (i:=i) (List.nodup_cons.mp nd).2 (by simpa using h1) (by simpa using h2) hk
theorem jJB {kindOf:Str→Option NameKind} {x:Str} {v:Value}:∀ {P:List Str} {vs:List Value} {i:Nat} {m:Str→Option Value},P.Nodup→P[i]?=some x→vs[i]?=some v→kindOf x≠some .local →
    bindC kindOf (P.zip vs) m x=some v
  | [],_,_,_,_,h,_,_=>by simp at h
  | _ :: _,[],_,_,_,_,h,_=>by simp at h
  | p :: P,w :: vs,0,m,nd,h1,h2,hk=>by
    simp at h1 h2;subst h1;subst h2
    show bindC kindOf ((p,w) :: P.zip vs) m p=_
    unfold bindC
    rw [jJz fun v hv=>(List.nodup_cons.mp nd).1 (List.of_mem_zip hv).1,if_neg hk]
    simp
  | p :: P,w :: vs,i + 1,m,nd,h1,h2,hk=>by
    show bindC kindOf ((p,w) :: P.zip vs) m x=_
    unfold bindC
    exact jJB (i:=i) (List.nodup_cons.mp nd).2 (by simpa using h1) (by simpa using h2) hk
noncomputable def jFn (N:List Str) (vs:List V):St:=vs.map some ++ List.replicate (N.length - vs.length) none
noncomputable def jG3 (CX:CXT) (P:Program) (w:World) (K:PySem.W.Frag) (mg:Str→Option Value) (base:Heap) (N:List Str) (qual:Str) (scope:Scope) (f:Addr) (cd:Value) (A:Around) (outer:List Env) (s:Shared) (H:Hp) (E:XK):Cx where
  prog:=P
  w:=w
  K:=K
  mg:=mg
  base:=base
  A:=A.deeper (envOfC qual scope s.heap.objs.size f cd)
  N:=N
  s₀:=s
  H₀:=H
  env:=envOfC qual scope s.heap.objs.size f cd
  outer:=outer
  stack:=envOfC qual scope s.heap.objs.size f cd :: outer
  ex:=[]
  calm:=true
  fn:=fun _=>true
  pn:=[]
  xe:=fun e s'=>wpAny (model P w) (A.deeper (envOfC qual scope s.heap.objs.size f cd)) (leaving (envOfC qual scope s.heap.objs.size f cd) e) (fun _ s''=>CX outer H s E e s'') (fun e' s''=>CX outer H s E e' s'') s'
theorem jKs {sc:Scope} {n:Nat} {x:Str} (h:sc.names.lookup x=some .cell):∃ c,(cellsFrom n sc.names []).lookup x=some c:=by
  have q:=PySem.W.cellsFrom_some sc.names n [] (.inl h)
  exact Option.isSome_iff_exists.mp q
theorem jMG {CX:CXT} {P:Program} {w:World} {K:PySem.W.Frag} {mg:Str→Option Value} {base:Heap} {N ps:List Str} {qual:Str} {scope:Scope} {f:Addr} {cd:Value} {A:Around} {outer:List Env} {s s1:Shared} {H:Hp} {E:XK} {us:List Value} {vs:List V}
    (S:jAn N ps scope) (hd:A.handled=none) (e0:Env0 P w K mg base A outer s H) (hl:vs.length=ps.length) (r:jAI vs us)
    (x:InCallC s s.heap.objs.size (bindL (envOfC qual scope s.heap.objs.size f cd).kindOf (ps.zip us) fun _=>none) (cellsFrom (s.heap.objs.size + 1) scope.names []) (bindC (envOfC qual scope s.heap.objs.size f cd).kindOf (ps.zip us) fun _=>none) s1) :
    Inv (jG3 CX P w K mg base N qual scope f cd A outer s H E) [] (jFn N vs) H s1:=by
  have hpl:ps.length≤N.length:=by have:=congrArg List.length S.pre;rw [List.length_take] at this;omega
  obtain ⟨h1,tk,rfl,hk⟩:=x.done
  have noA:∀ b:Addr,b ∉ (jG3 CX P w K mg base N qual scope f cd A outer s H E).ex:=fun b z=>absurd (show b∈([]:List Addr) from z) (by simp)
  refine ⟨⟨e0.mod,S.kind,rfl,rfl,Nat.le_refl _,fun y z c h1 h2=>?_,fun y hy=>?_,fun y c _ h=>?_,fun _=>hd,Around.frames_deeper e0.frames,.inr ⟨rfl,rfl⟩,fun b z=>absurd z (noA b),e0.bs,e0.bsz,fun b _ _=>noA b,fun b z=>absurd z (noA b),e0.funs,e0.frf⟩,
    rfl,e0.bare,Un.kept hk,⟨_,x.toInCall.ns,fun i y v h1 h2 h3=>?_⟩,fun y c h=>⟨_,x.cell y c h⟩,e0.hok.fresh (Nat.le_refl _),fun y c h=>?_,fun p hp=>absurd (show p∈([]:List (Addr×Obj)) from hp) (by simp),e0.hok.kept hk,?_⟩
  · exact name_of_addr x.apart (PySem.mem_of_lookup h1) (PySem.mem_of_lookup h2)
  · have hy:scope.names.lookup y=some .cell∨scope.names.lookup y=some .free:=hy
    rcases hy with hy | hy
    · exact jKs hy
    · exact absurd rfl (S.nofree _ (PySem.mem_of_lookup hy))
  · exact Nat.le_of_lt (x.above y c (PySem.mem_of_lookup h))
  · have hi:i < vs.length:=by
      unfold jFn at h2
      by_cases hi:i < vs.length
      · exact hi
      · rw [List.getElem?_append_right (by simpa using hi)] at h2
        rw [List.getElem?_replicate] at h2
        split at h2 <;> cases h2
    have ha:vs[i]?=some v:=by
      unfold jFn at h2
      rw [List.getElem?_append_left (by simpa using hi),List.getElem?_map] at h2
      cases e:vs[i]? with
      | none=>rw [e] at h2;cases h2
      | some a=>rw [e] at h2;cases h2;rfl
    obtain ⟨u,hu,rv⟩:=r.get ha
    have hp:ps[i]?=some y:=by
      rw [← S.pre,List.getElem?_take_of_lt (by omega)];exact h1
    have ndP:ps.Nodup:=by rw [← S.pre];exact S.nd.sublist (List.take_sublist _ _)
    refine ⟨u,rv,?_⟩
    rcases S.par y (List.mem_of_getElem? hp) with k | k
    · exact .inl ⟨k,jJA ndP hp hu k⟩
    · obtain ⟨c,e⟩:=jKs (n:=s.heap.objs.size + 1) k
      refine .inr ⟨.inl k,c,e,?_⟩
      have q:=x.cell y c e
      rw [jJB ndP hp hu (by show scope.names.lookup y≠_;rw [k];decide)] at q
      exact q
  · exact e0.hok.fresh (Nat.le_of_lt (x.above y c (PySem.mem_of_lookup h)))
  · unfold jFn
    show _=N.length
    rw [List.length_append,List.length_map,List.length_replicate]
    omega
theorem fn_of {CX:CXT} {P:Program} {w:World} {K:PySem.W.Frag} {mg:Str→Option Value} {base:Heap} {k:Nat} {f:Addr} {name qual:Str} {params:Arguments} {body:List Stmt} {scope:Scope} {dV kV doc pm cdv ct oc:Value} {an od:Option Addr}
    {osl:Array (Option Value)} {N ps:List Str} {sp:Sp} (lk:K.lookup f=some ⟨oc,od,.func (PySem.W.fnOf name qual params body scope dV kV doc pm an cdv ct),osl⟩) (hcd:PySem.W.codeIn K cdv qual=true) (S:jAn N ps scope)
    (len:∀ vs H Q E,sp vs H Q E→vs.length=ps.length)
    (hbody:∀ (A:Around) (outer:List Env) (s:Shared) (H:Hp) (vs:List V) (Q:VK) (E:XK),jBc k (A.deeper (envOfC qual scope s.heap.objs.size f cdv))→sp vs H Q E →
      ∃ t,PSs (jG3 CX P w K mg base N qual scope f cdv A outer s H E) body t∧t { nx:=fun _ H'=>Q .non H',rt:=Q } (jFn N vs) H) :
    jAh P w K mg base CX (k + 1) f (PySem.W.fnOf name qual params body scope dV kV doc pm an cdv ct) ps sp:=by
  refine ⟨len,fun A outer s H args us vs Q E hr e0 hb r hsp=>?_⟩
  have hl:=len _ _ _ _ hsp
  have KX:K.In s.heap:=e0.mod.kin.keeps fun b o e=>(e0.bs b o e).1
  have lim:s.heap.NoLimit:=e0.mod.nolimit.keeps fun b o e=>(e0.bs b o e).1
  have hkind:∀ y∈ps.zip us,scope.names.lookup y.1=some .local∨(scope.names.lookup y.1=some .cell∧((cellsFrom (s.heap.objs.size + 1) scope.names []).lookup y.1).isSome=true):=fun ⟨n,v⟩ hy=>by
    rcases S.par n (List.of_mem_zip hy).1 with q | q
    · exact .inl q
    · exact .inr ⟨q,PySem.W.cellsFrom_some _ _ _ (.inl q)⟩
  refine codeAny_call_function hr.depth (KX _ _ lk) rfl S.co S.gen rfl (PySem.W.codeRec_of KX hcd) (hb _ _ _ _ ?_)
  refine wpAny_newFunctionEnv_cells S.kind hkind fun env he s1 x=>?_
  subst he
  refine ⟨lim.keeps x.toInCall.keep,codeAny_func ?_⟩
  obtain ⟨t,ht,hq⟩:=hbody A outer s H vs Q E (hr.deeper _) hsp
  have I:Inv (jG3 CX P w K mg base N qual scope f cdv A outer s H E) [] (jFn N vs) H s1:=jMG S hr.hd e0 hl r x
  refine wpAny_mono (ht [] s1 (jFn N vs) H _ I hq) (fun fl s' hs=>?_) fun e s' hs=>hs
  have fin:∀ {σ':St} {H':Hp} {v:V} {u:Value},Inv (jG3 CX P w K mg base N qual scope f cdv A outer s H E) [] σ' H' s'→jAB v u→Q v H'→CE outer P w H s Q u s' :=
    fun {σ' H' v u} J rv q=>⟨v,H',J.os,J.bare,J.base,J.hok,rv,q⟩
  cases fl with
  | ret u =>
    obtain ⟨v,σ',H',J,rv,q⟩:=hs
    exact fin J rv q
  | next =>
    obtain ⟨σ',H',J,q⟩:=hs
    exact fin (v:=V.non) (u:=Value.none) J rfl q
  | brk =>
    obtain ⟨_,_,_,q⟩:=hs
    exact False.elim q
  | cont =>
    obtain ⟨_,_,_,q⟩:=hs
    exact False.elim q
end L2
namespace L2
open PySem PySem.Spec PyProof.Rows
section
variable {X:Cx} {x:Str} {p pos:Pos} {e:Expr} {es:List Expr} {t:TA} {id T:String} {r:List V→Hp→VK→Prop}
noncomputable def tCB (r:List V→Hp→VK→Prop) (t:TA):TE:=fun σ H Q=>t σ H fun vs H1=>r vs H1 Q
theorem jAP (hc:CallR X (.builtin id) r) (hg:Gl X x) (hm:X.mg x=none) (hv:bootBuiltins x=some (.builtin id)) (ha:PA X (e :: es) t) (hn:x≠"__name__":=by decide) (hdb:(x == ("__debug__":Str))=false:=by decide)
    (he:starEach (e :: es) X.env=(false,eval e X.env) :: starEach es X.env:=by rfl) (hpl:(backTo pos (starEach es X.env)).any (·.1)=false:=by rfl):PE X (.Call (.Name x p) (e :: es) [] pos) (tCB r t):=by
  intro pins s σ H Q I h
  refine wpAny_Call_Name_kw (jGq I hg hm hv ?_ hn hdb)
  exact PyProof.Rows.callWith_builtin1 (thn (ha pos pins s σ H _ I h) fun us s1 ⟨vs,H1,I1,r1,q1⟩=>hc pins s1 σ H1 vs us Q I1 r1 q1) he hpl
theorem jC4 (hc:CallR X (.type T) r) (hg:Gl X x) (hm:X.mg x=none) (hv:bootBuiltins x=some (.type T)) (ha:PA X (e :: es) t) (hn:x≠"__name__":=by decide) (hdb:(x == ("__debug__":Str))=false:=by decide)
    (he:starEach (e :: es) X.env=(false,eval e X.env) :: starEach es X.env:=by rfl) (hpl:(backTo pos (starEach es X.env)).any (·.1)=false:=by rfl):PE X (.Call (.Name x p) (e :: es) [] pos) (tCB r t):=by
  intro pins s σ H Q I h
  refine wpAny_Call_Name_kw (jGq I hg hm hv ?_ hn hdb)
  exact PyProof.Rows.callWith_type1 (thn (ha pos pins s σ H _ I h) fun us s1 ⟨vs,H1,I1,r1,q1⟩=>hc pins s1 σ H1 vs us Q I1 r1 q1) he hpl
end
end L2
namespace HT
open PySem PyProof.Rows
noncomputable def lexLt:List Int→List Int→Bool
  | [],[]=>false
  | [],_ :: _=>true
  | _ :: _,[]=>false
  | x :: xs,y :: ys=>if x=y then lexLt xs ys else decide (x < y)
section
open PySem.SeqAt
open PySem.AutoSeq1 (wpAny_loadPart')
open PySem.MeetsSeq PySem.MeetsSeq2 PySem.MeetsSeq3
end
section
variable {prog:Program} {w:World} {A:Around} {E:Value→Shared→Prop} {s:Shared}
noncomputable def sIx (n d:Nat):Option Int→Nat
  | none=>d
  | some v=>if v < 0 then (v + (n:Int)).toNat else min v.toNat n
theorem sIx_none (n d:Nat):sIx n d none=d:=rfl
theorem sIx_nat (n d k:Nat):sIx n d (some (k:Int))=min k n:=by
  show (if (k:Int) < 0 then ((k:Int) + (n:Int)).toNat else min (k:Int).toNat n)=min k n
  rw [if_neg (by omega),Int.toNat_natCast]
theorem sIx_le (n d:Nat) (hd:d≤n) (o:Option Int):sIx n d o≤n:=by
  cases o with
  | none=>exact hd
  | some v =>
    show (if v < 0 then (v + (n:Int)).toNat else min v.toNat n)≤n
    by_cases hv:v < 0
    · rw [if_pos hv];omega
    · rw [if_neg hv];exact Nat.min_le_right _ _
theorem jLT (v:Int) (n d:Nat):(if v < 0 then max (v + (n:Int)) 0 else min v (n:Int))=((sIx n d (some v):Nat):Int):=by
  show (if v < 0 then max (v + (n:Int)) 0 else min v (n:Int))=(((if v < 0 then (v + (n:Int)).toNat else min v.toNat n):Nat):Int)
  by_cases hv:v < 0
  · simp only [if_pos hv];omega
  · simp only [if_neg hv];omega
theorem jMe (lo hi:Option Int) (n:Nat):Builtin.Slice.sliceAdjust lo hi 1 (n:Int)=(((sIx n 0 lo:Nat):Int),((sIx n n hi:Nat):Int)):=by
  have h1:¬ ((1:Int) < 0):=by omega
  unfold Builtin.Slice.sliceAdjust
  simp only [h1,if_false]
  refine Prod.ext ?_ ?_
  · cases lo with
    | none=>rfl
    | some v=>exact jLT v n 0
  · cases hi with
    | none=>rfl
    | some v=>exact jLT v n n
theorem jMf (i j:Nat):Builtin.Slice.slicePlaces (i:Int) (j:Int) 1=j - i:=by
  unfold Builtin.Slice.slicePlaces
  have h1:(1:Int) > 0:=by omega
  simp only [h1,if_true,Int.ediv_one]
  split <;> omega
theorem jIe {v:Value} {o:Option Int} {Q:Option Int→Shared→Prop} (p:IsPart v o) (h:Q o s):wpAny (model prog w) A (Builtin.Slice.slicePartIndex v) Q E s:=by
  cases p with
  | none=>exact slicePart_none h
  | int i t=>exact slicePart_int h
theorem jHV {sl:Addr} {vl vu:Value} {lo hi:Option Int} {n:Nat} {Q:Int×Int×Nat→Shared→Prop} (hs:s.heap.IsSliceOf sl vl vu .none) (pl:IsPart vl lo) (pu:IsPart vu hi)
    (h:Q (((sIx n 0 lo:Nat):Int),1,sIx n n hi - sIx n 0 lo) s):wpAny (model prog w) A (Builtin.Slice.sliceApplied (.ref sl) (pure (n:Int))) Q E s:=by
  obtain ⟨os,hos,hcs,hds⟩:=id hs
  unfold Builtin.Slice.sliceApplied Builtin.Slice.sliceFields
  refine wpAny_bind (wpAny_bind (wpAny_field hos hds (x:=vl) rfl (wpAny_bind (wpAny_field hos hds (x:=vu) rfl (wpAny_bind (wpAny_field hos hds (x:=.none) rfl (wpAny_pure ?_)))))))
  refine wpAny_bind (slicePart_none ?_)
  show wpAny _ _ (if ((1:Int) == 0)=true then _ else _) _ _ s
  rw [if_neg (by decide)]
  refine wpAny_bind (jIe pl (wpAny_bind (jIe pu (wpAny_bind (wpAny_pure ?_)))))
  show wpAny _ _ (match Builtin.Slice.sliceAdjust lo hi 1 (n:Int) with | (lo,hi)=>pure (lo,(1:Int),Builtin.Slice.slicePlaces lo hi 1)) _ _ s
  rw [jMe lo hi n]
  show wpAny _ _ (pure (((sIx n 0 lo:Nat):Int),(1:Int),Builtin.Slice.slicePlaces ((sIx n 0 lo:Nat):Int) ((sIx n n hi:Nat):Int) 1)) _ _ s
  rw [jMf]
  exact wpAny_pure h
theorem jNn (xs:Array Value) (i k:Nat):((List.range k).filterMap fun (m:Nat)=>xs[((i:Int) + (m:Int) * 1).toNat]?).toArray=((xs.toList.drop i).take k).toArray:=by
  have e:(fun (m:Nat)=>xs[((i:Int) + (m:Int) * 1).toNat]?)=fun m=>xs[i + m]?:=by
    funext m
    have:((i:Int) + (m:Int) * 1).toNat=i + m:=by omega
    rw [this]
  rw [e]
  have:=pick_run xs i k
  rw [List.filterMap_map] at this
  have e2:((fun x=>xs[x]?) ∘ fun x=>i + x)=fun m=>xs[i + m]?:=rfl
  rw [e2] at this
  rw [this]
theorem getItem_tuple_cut {t sl:Addr} {items:Array Value} {vl vu:Value} {lo hi:Option Int} {Q:Value→Shared→Prop} (ht:IsTup s.heap t items) (hs:s.heap.IsSliceOf sl vl vu .none) (pl:IsPart vl lo) (pu:IsPart vu hi)
    (hw:¬ (sIx items.size 0 lo=0∧sIx items.size items.size hi=items.size))
    (h:Q (.ref s.heap.objs.size) { s with heap:=s.heap.push { cls:=.type "tuple",data:=.seq ((items.toList.drop (sIx items.size 0 lo)).take (sIx items.size items.size hi - sIx items.size 0 lo)).toArray } })
    (hsz:items.size≤sizeLine):wpAny (model prog w) A (getItem (.ref t) (.ref sl)) Q E s:=by
  have htake:sizeOk (.seq ((items.toList.drop (sIx items.size 0 lo)).take (sIx items.size items.size hi - sIx items.size 0 lo)).toArray):=by
    show ((items.toList.drop (sIx items.size 0 lo)).take (sIx items.size items.size hi - sIx items.size 0 lo)).toArray.size≤sizeLine
    rw [List.size_toArray,List.length_take,List.length_drop,Array.length_toList]
    omega
  have hj:sIx items.size items.size hi≤items.size:=sIx_le _ _ (Nat.le_refl _) hi
  obtain ⟨os,hos,hcs,hds⟩:=id hs
  have hTs:s.TypeIs (.ref sl) "slice":=⟨os,hos,hcs⟩
  unfold getItem
  try with_reducible refine wpAny_holding ?_
  first | refine wpAny_bind (wpAny_pure ?_) | skip
  refine wpAny_bind (wpAny_sequenceKey ht.typeIs (by decide) ?_)
  refine wpAny_bind (wpAny_callSpecial?_slot (name:=Str.ofString "__getitem__") ht.typeIs PyProof.Rows.slot_tuple_getitem
    (wpAny_call_entry PyProof.Rows.slot_tuple_getitem ht.typeIs entry_tuple_getitem ?_ (args_tuple_getitem _ _)))
  show wpAny _ _ (Builtin.Tuple.tupleItemsOf (.ref t) >>= _) _ _ s
  refine wpAny_bind (tupleItemsOf_ ht ?_)
  refine wpAny_bind (wpAny_typeOf hTs ?_)
  rw [if_pos (by decide)]
  refine wpAny_bind (jHV hs pl pu ?_)
  have hno:¬ ((((sIx items.size 0 lo:Nat):Int) == 0 && (1:Int) == 1 && (sIx items.size items.size hi - sIx items.size 0 lo) == items.size)=true):=by
    intro q
    rw [Bool.and_eq_true,Bool.and_eq_true] at q
    have q1:((sIx items.size 0 lo:Nat):Int)=0:=eq_of_beq q.1.1
    have q2:sIx items.size items.size hi - sIx items.size 0 lo=items.size:=eq_of_beq q.2
    exact hw ⟨by omega,by omega⟩
  show wpAny _ _ (if (((sIx items.size 0 lo:Nat):Int) == 0 && (1:Int) == 1 && (sIx items.size items.size hi - sIx items.size 0 lo) == items.size)=true then _ else _) _ _ s
  rw [if_neg hno,jNn]
  first
    | exact wpAny_bind (m:=Builtin.Tuple.tupleExact _) (wpAny_newObj_type (wpAny_pure ⟨_,rfl,wpAny_pure h⟩) htake)
    | exact wpAny_bind (m:=Builtin.Tuple.tupleExact _) (wpAny_newObj_type (wpAny_bind (wpAny_pure (wpAny_pure ⟨_,rfl,wpAny_pure h⟩))) htake)
    | exact wpAny_bind (wpAny_bind (m:=Builtin.Tuple.tupleExact _) (wpAny_newObj_type (wpAny_pure (wpAny_pure ⟨_,rfl,wpAny_pure h⟩)) htake))
    | exact wpAny_bind (wpAny_bind (m:=Builtin.Tuple.tupleExact _) (wpAny_newObj_type (wpAny_pure ⟨_,rfl,wpAny_pure h⟩) htake))
end
end HT
namespace L2
open PySem PySem.Spec PyProof.Rows
noncomputable abbrev TO:=St→Hp→(Option Int→Hp→Prop)→Prop
noncomputable def PO (X:Cx) (e:Option Expr) (t:TO):Prop :=
  ∀ (pins:List (Addr×Obj)) (s:Shared) (σ:St) (H:Hp) (Q:Option Int→Hp→Prop),Inv X pins σ H s→t σ H Q →
    wpAny (model X.prog X.w) X.A (evalPart e X.env) (fun u s'=>∃ o H',Inv X pins σ H' s'∧IsPart u o∧Q o H') X.xe s
noncomputable def tNoPart:TO:=fun _ H Q=>Q none H
noncomputable def tPart (t:TE):TO:=fun σ H Q=>t σ H fun x H1=>∃ i,x=.int i∧Q (some i) H1
section
variable {X:Cx} {e:Expr} {te:TE} {lo hi:Option Expr} {tl th:TO} {pos p2:Pos}
theorem jDa:PO X none tNoPart:=by
  intro pins s σ H Q I h
  rw [evalPart_none]
  exact wpAny_pure ⟨none,H,I,.none,h⟩
theorem jDb (h:PE X e te):PO X (some e) (tPart te):=by
  intro pins s σ H Q I hw
  rw [evalPart_some]
  refine thn (h pins s σ H _ I hw) fun u s1 ⟨x,H1,I1,r1,q1⟩=>?_
  obtain ⟨i,rfl,q⟩:=q1
  obtain ⟨t,rfl⟩:=r1
  exact ⟨some i,H1,I1,.int i t,q⟩
noncomputable def SlR (X:Cx) (r:V→Option Int→Option Int→Hp→VK→Prop):Prop :=
  ∀ (pins:List (Addr×Obj)) (s:Shared) (σ:St) (H:Hp) (x:V) (v vl vu:Value) (lo hi:Option Int) (sl:Addr) (Q:VK),Inv X pins σ H s→jAB x v→s.heap.IsSliceOf sl vl vu .none→IsPart vl lo→IsPart vu hi→r x lo hi H Q →
    ∃ T id,typeLookup (.type T) "__getitem__"=pure (some (.builtin id))∧s.TypeIs v T∧wpAny (model X.prog X.w) X.A (getItem v (.ref sl)) (EP X pins σ Q) X.xe s
noncomputable def tSl (r:V→Option Int→Option Int→Hp→VK→Prop) (te:TE) (tl th:TO):TE:=fun σ H Q=>te σ H fun x H1=>tl σ H1 fun l H2=>th σ H2 fun u H3=>r x l u H3 Q
theorem jCI {r:V→Option Int→Option Int→Hp→VK→Prop} (hr:SlR X r) (he:PE X e te) (hl:PO X lo tl) (hu:PO X hi th):PE X (.Subscript e (.Slice lo hi none p2) pos) (tSl r te tl th):=by
  intro pins s σ H Q I h
  refine Subscript_ (thn (he pins s σ H _ I h) fun v s1 ⟨x,H1,I1,r1,q1⟩=>?_)
  refine wpAny_Slice (thn (hl pins s1 σ H1 _ I1 q1) fun vl s2 ⟨l,H2,I2,pl,q2⟩=>thn (hu pins s2 σ H2 _ I2 q2) fun vu s3 ⟨u,H3,I3,pu,q3⟩=>?_)
  rw [evalPart_none]
  refine wpAny_pure ?_
  have I4:Inv X pins σ H3 { s3 with heap:=s3.heap.push { cls:=.type "slice",data:=.fields #[vl,vu,.none] } }:=I3.kept (t':=s3.toks) fun b ob q=>Heap.get?_push_of_some _ q
  obtain ⟨T,id,hT,ht,hg⟩:=hr pins { s3 with heap:=s3.heap.push { cls:=.type "slice",data:=.fields #[vl,vu,.none] } } σ H3 x v vl vu l u s3.heap.objs.size Q I4 r1 (Heap.IsSliceOf.new ..) pl pu q3
  show wpAny (model X.prog X.w) X.A (subscriptTail e (.Slice lo hi none p2) v (.ref s3.heap.objs.size)) (EP X pins σ Q) X.xe { s3 with heap:=s3.heap.push { cls:=.type "slice",data:=.fields #[vl,vu,.none] } }
  exact tail_any (ops:=[.ref s3.heap.objs.size,v]) ht hT hg (by with_unfolding_all rfl)
noncomputable def jGi (xs:List V) (lo hi:Option Int):List V:=(xs.drop (HT.sIx xs.length 0 lo)).take (HT.sIx xs.length xs.length hi - HT.sIx xs.length 0 lo)
theorem jHN (xs:List V) (lo hi:Option Int):(jGi xs lo hi).length≤xs.length:=by
  unfold jGi
  rw [List.length_take,List.length_drop]
  omega
noncomputable def rSlT (K:PySem.W.Frag):V→Option Int→Option Int→Hp→VK→Prop:=fun x lo hi H Q=>∃ a xs,x=.ref a∧SqT K H a xs ∧
  ¬ (HT.sIx xs.length 0 lo=0∧HT.sIx xs.length xs.length hi=xs.length)∧∀ p,H p=none→Q (.ref p) (upd H p (.tup (jGi xs lo hi)))
theorem jMH:SlR X (rSlT X.K):=by
  intro pins s σ H x v vl vu lo hi sl Q I rx hs pl pu h
  obtain ⟨a,xs,rfl,hx,hw,q⟩:=h
  cases rx
  obtain ⟨its,r,ht,hz⟩:=I.tuple hx
  have hlen:its.toArray.size=xs.length:=by rw [List.size_toArray];exact r.length.symm
  refine ⟨"tuple",_,PyProof.Rows.slot_tuple_getitem.lookup,ht.typeIs,?_⟩
  refine HT.getItem_tuple_cut ht hs pl pu (by rw [hlen];exact hw) ?_ (by rw [hlen];exact hz)
  rw [hlen]
  refine ⟨.ref s.heap.objs.size,_,I.laid (t':=s.toks) (o:=.tup (jGi xs lo hi)) (fun b ob q=>Heap.get?_push_of_some _ q) (Nat.le_refl _) ?_,rfl,q _ (I.hok.fresh (Nat.le_refl _))⟩
  exact ⟨Nat.le_trans (jHN xs lo hi) hz,_,(r.drop (HT.sIx xs.length 0 lo)).take (HT.sIx xs.length xs.length hi - HT.sIx xs.length 0 lo),IsTup.new _ _⟩
noncomputable def rLtT (K:PySem.W.Frag):R2:=fun x y H Q=>∃ a b ns ms,x=.ref a∧y=.ref b∧SqT K H a (ns.map V.int)∧SqT K H b (ms.map V.int)∧Q (.bl (HT.lexLt ns ms)) H
noncomputable def rCatT (K:PySem.W.Frag):R2:=fun x y H Q=>∃ a b xs ys,x=.ref a∧y=.ref b∧SqT K H a xs∧SqT K H b ys∧xs≠[]∧xs.length + ys.length≤sizeLine ∧
  (ys=[]→Q (.ref a) H)∧(ys≠[]→∀ p,H p=none→Q (.ref p) (upd H p (.tup (xs ++ ys))))
end
end L2
namespace L2
open PySem PySem.Spec PyProof.Rows
noncomputable def ixN (n:Nat) (i:Int):Option Nat:=if 0≤i then (if i < n then some i.toNat else none) else if -(n:Int)≤i then some (i + n).toNat else none
noncomputable def atI {α:Type} (xs:List α) (i:Int):Option α:=(ixN xs.length i).bind fun j=>xs[j]?
theorem ixN_seq {n:Nat} {i:Int} {j:Nat} (h:ixN n i=some j):seqIndex? i n=some j∧j < n∧-(n:Int)≤i∧i < n:=by
  unfold ixN at h
  by_cases h0:0≤i
  · rw [if_pos h0] at h
    by_cases h1:i < n
    · rw [if_pos h1] at h
      have e:i.toNat=j:=Option.some.inj h
      exact ⟨by rw [seqIndex_of h0 h1,e],by omega,by omega,h1⟩
    · rw [if_neg h1] at h;cases h
  · rw [if_neg h0] at h
    by_cases h1:-(n:Int)≤i
    · rw [if_pos h1] at h
      have e:(i + n).toNat=j:=Option.some.inj h
      exact ⟨by rw [seqIndex_neg (by omega) h1,e],by omega,h1,by omega⟩
    · rw [if_neg h1] at h;cases h
theorem jI0 {α:Type} {xs:List α} {i:Int} {v:α} (h:atI xs i=some v):∃ j,seqIndex? i xs.length=some j∧xs[j]?=some v∧j < xs.length∧-(xs.length:Int)≤i∧i < xs.length:=by
  unfold atI at h
  cases e:ixN xs.length i with
  | none=>rw [e] at h;cases h
  | some j =>
    rw [e] at h
    obtain ⟨h1,h2,h3,h4⟩:=ixN_seq e
    exact ⟨j,h1,h,h2,h3,h4⟩
theorem jAC {α:Type} {xs:List α} {j:Nat} {v:α} (h:xs[j]?=some v):atI xs (j:Int)=some v:=by
  have hj:j < xs.length:=(List.getElem?_eq_some_iff.mp h).1
  have e:ixN xs.length (j:Int)=some j:=by
    unfold ixN
    rw [if_pos (by omega),if_pos (by omega)];simp
  unfold atI;rw [e];exact h
noncomputable def jLU (b:Expr):Prop:=∀ o i,subscripted b false o i=operate [o,i] (getItem o i)
noncomputable def IxR (X:Cx) (r:R2):Prop :=
  ∀ (value slice:Expr) (pins:List (Addr×Obj)) (s:Shared) (σ:St) (H:Hp) (x y:V) (v u:Value) (Q:VK),Inv X pins σ H s→jAB x v→jAB y u→r x y H Q →
    subscripted slice false v u=operate [v,u] (getItem v u)→wpAny (model X.prog X.w) X.A (subscriptTail value slice v u) (EP X pins σ Q) X.xe s
noncomputable def MtR (X:Cx) (id:String) (r:V→List V→Hp→VK→Prop):Prop :=
  ∀ (pins:List (Addr×Obj)) (s:Shared) (σ:St) (H:Hp) (x:V) (xs:List V) (v:Value) (us:List Value) (Q:VK),Inv X pins σ H s→jAB x v→jAI xs us→r x xs H Q →
    wpAny (model X.prog X.w) X.A (call (.builtin id) (v :: us)) (EP X pins σ Q) X.xe s
section
variable {X:Cx} {a b:Expr} {ta tb:TE} {pos:Pos}
theorem jAG {r:R2} (hr:IxR X r) (ha:PE X a ta) (hb:PE X b tb) (hs:jLU b):PE X (.Subscript a b pos) (tOp r ta tb):=by
  intro pins s σ H Q I h
  exact Subscript_ (binT ha hb I h fun v u s2 x y H2 I2 rx ry q=>hr a b pins s2 σ H2 x y v u Q I2 rx ry q (hs _ _))
noncomputable def rIxL (K:PySem.W.Frag):R2:=fun x y H Q=>∃ p xs i v,x=.ref p∧y=.int i∧SqL K H p xs∧atI xs i=some v∧Q v H
noncomputable def rIxT (K:PySem.W.Frag):R2:=fun x y H Q=>∃ p xs i v,x=.ref p∧y=.int i∧SqT K H p xs∧atI xs i=some v∧Q v H
noncomputable def rIxS:R2:=fun x y H Q=>∃ z i c,x=.str z∧y=.int i∧z.length≤sizeLine∧atI z.cps.toList i=some c∧Q (.str ⟨#[c]⟩) H
theorem jDN:IxR X (rIxL X.K):=by
  intro value slice pins s σ H x y v u Q I rx ry h hs
  obtain ⟨p,xs,i,z,rfl,rfl,hq,he,q⟩:=h
  cases rx
  obtain ⟨t,rfl⟩:=ry
  obtain ⟨its,r,pl,hz⟩:=I.list hq
  obtain ⟨j,h1,h2,h3,h4,h5⟩:=jI0 he
  obtain ⟨w,ew,rw'⟩:=r.get h2
  have hl:=r.length
  have hn:=jGs
  have fin:EP X pins σ Q w s:=⟨z,H,I,rw',q⟩
  by_cases h0:0≤i
  · have hj:i.toNat=j:=by
      rw [seqIndex_of h0 h5] at h1
      exact Option.some.inj h1
    exact item_listR pl.isList h0 (by omega) (by rw [hj];simpa using ew) fin hs
  · have hj:(i + (its.toArray.size:Int)).toNat=j:=by
      rw [seqIndex_neg (by omega) h4] at h1
      rw [List.size_toArray,← hl]
      exact Option.some.inj h1
    exact subscriptTail_builtinR (x:=w) pl.isList.typeIs slot_list_getitem.lookup
      (wpAny_getItem_list_neg (Q:=fun r s'=>r=w∧EP X pins σ Q r s') pl.isList (by omega) (by rw [List.size_toArray] <;> omega) (by omega) (by rw [hj];simpa using ew) ⟨rfl,fin⟩) hs
theorem jAM:IxR X (rIxT X.K):=by
  intro value slice pins s σ H x y v u Q I rx ry h hs
  obtain ⟨p,xs,i,z,rfl,rfl,hq,he,q⟩:=h
  cases rx
  obtain ⟨t,rfl⟩:=ry
  obtain ⟨its,r,pl,hz⟩:=I.tuple hq
  obtain ⟨j,h1,h2,h3,h4,h5⟩:=jI0 he
  obtain ⟨w,ew,rw'⟩:=r.get h2
  have hl:=r.length
  have hn:=jGs
  have fin:EP X pins σ Q w s:=⟨z,H,I,rw',q⟩
  exact subscriptTail_builtinR (x:=w) pl.typeIs slot_tuple_getitem.lookup
    (getItem_tuple (j:=j) (Q:=fun r s'=>r=w∧EP X pins σ Q r s') pl (by omega) (by omega) (by rw [List.size_toArray,← hl];exact h1) (by simpa using ew) ⟨rfl,fin⟩) hs
theorem ix_str:IxR X rIxS:=by
  intro value slice pins s σ H x y v u Q I rx ry h hs
  obtain ⟨z,i,c,rfl,rfl,hz,he,q⟩:=h
  obtain ⟨t,rfl⟩:=rx
  obtain ⟨t',rfl⟩:=ry
  obtain ⟨j,h1,h2,h3,h4,h5⟩:=jI0 he
  have hl:z.cps.toList.length=z.length:=by simp [Str.length]
  rw [hl] at h1 h4 h5
  have hn:=jGs
  exact tail_any (typeIs_str s z t) slot_str_getitem.lookup (getItem_str (c:=c) (by
    have e1:decide (i < -(2 ^ 63:Int))=false:=decide_eq_false (by omega)
    have e2:decide (i ≥ 2 ^ 63)=false:=decide_eq_false (by omega)
    rw [e1,e2,Bool.or_false]) (by rw [h1];simpa using h2) ⟨.str ⟨#[c]⟩,H,I.tok _,⟨_,rfl⟩,q⟩) hs
noncomputable def rIx (K:PySem.W.Frag):R2:=fun x y H Q=>rIxL K x y H Q∨rIxT K x y H Q∨rIxS x y H Q
noncomputable def rSetL:V→V→V→Hp→(Hp→Prop)→Prop:=fun o i v H Q=>∃ p xs k j,o=.ref p∧i=.int k∧H p=some (.lst xs)∧ixN xs.length k=some j∧Q (upd H p (.lst (xs.set j v)))
theorem jKt (lo hi:Option Int) (n:Nat):(sliceBounds lo hi none n).1=((HT.sIx n 0 lo:Nat):Int)∧(sliceBounds lo hi none n).2.1=((HT.sIx n n hi:Nat):Int)∧(sliceBounds lo hi none n).2.2=1:=by
  refine ⟨?_,?_,rfl⟩
  · cases lo with
    | none=>simp [sliceBounds,HT.sIx]
    | some i =>
      simp only [sliceBounds,HT.sIx,Option.getD_none,show (1:Int) > 0 by decide,if_true]
      by_cases h:i < 0
      · simp only [h,if_true] <;> omega
      · simp only [h,if_false] <;> omega
  · cases hi with
    | none=>simp [sliceBounds,HT.sIx]
    | some i =>
      simp only [sliceBounds,HT.sIx,Option.getD_none,show (1:Int) > 0 by decide,if_true]
      by_cases h:i < 0
      · simp only [h,if_true] <;> omega
      · simp only [h,if_false] <;> omega
theorem jJV (its:List Value) (lo hi:Option Int):slicePick its.toArray lo hi none=((its.drop (HT.sIx its.length 0 lo)).take (HT.sIx its.length its.length hi - HT.sIx its.length 0 lo)).toArray:=by
  obtain ⟨h1,h2,h3⟩:=jKt lo hi its.toArray.size
  unfold slicePick
  rw [h1,h2,h3]
  simp only [sliceRange_one,pick_run,List.size_toArray] <;> rfl
noncomputable def rSlL (K:PySem.W.Frag):V→Option Int→Option Int→Hp→VK→Prop:=fun x lo hi H Q=>∃ a xs,x=.ref a∧SqL K H a xs∧∀ p,H p=none→Q (.ref p) (upd H p (.lst (jGi xs lo hi)))
theorem jGt:SlR X (rSlL X.K):=by
  intro pins s σ H x v vl vu lo hi sl Q I rx hs pl pu h
  obtain ⟨a,xs,rfl,hx,q⟩:=h
  cases rx
  obtain ⟨its,r,ht,hz⟩:=I.list hx
  have hlen:=r.length
  refine ⟨"list",_,slot_list_getitem.lookup,ht.isList.typeIs,?_⟩
  refine wpAny_getItem_list_slice ht.isList hs pl pu .none (by simp) ?_ (by rw [List.size_toArray] <;> omega)
  rw [jJV,← hlen]
  refine ⟨.ref s.heap.objs.size,_,I.laid (t':=s.toks) (o:=.lst (jGi xs lo hi)) (fun b ob q=>Heap.get?_push_of_some _ q) (Nat.le_refl _) ?_,rfl,q _ (I.hok.fresh (Nat.le_refl _))⟩
  exact ⟨Nat.le_trans (jHN xs lo hi) hz,_,0,(r.drop (HT.sIx xs.length 0 lo)).take (HT.sIx xs.length xs.length hi - HT.sIx xs.length 0 lo),Heap.get?_push_size _ rfl⟩
noncomputable def jBt:V→Bool
  | .non=>true
  | .bl _=>true
  | .int _=>true
  | .str _=>true
  | _=>false
noncomputable def eqV:V→V→Bool
  | .non,.non=>true
  | .bl a,.bl b=>a == b
  | .bl a,.int b=>(if a then 1 else 0) == b
  | .int a,.bl b=>a == (if b then 1 else 0)
  | .int a,.int b=>a == b
  | .str a,.str b=>a == b
  | _,_=>false
theorem jKu {A:Around} {s:Shared} {y x:V} {u v:Value} (ry:jAB y u) (rx:jAB x v) (fy:jBt y=true) (fx:jBt x=true):SeqAt.EqAt A s u v (eqV y x):=by
  cases y with
  | non =>
    cases ry
    cases x with
    | non=>cases rx;exact SeqAt.EqAt.same _
    | bl b=>cases rx;exact SeqAt.EqAt.none_bool b
    | int b=>obtain ⟨t,rfl⟩:=rx;exact SeqAt.EqAt.none_int b t
    | str b=>obtain ⟨t,rfl⟩:=rx;exact SeqAt.EqAt.none_str b t
    | _=>exact absurd (show false=true from fx) Bool.false_ne_true
  | bl a =>
    cases ry
    cases x with
    | non=>cases rx;exact SeqAt.EqAt.bool_none a
    | bl b=>cases rx;exact SeqAt.EqAt.bool_bool a b
    | int b=>obtain ⟨t,rfl⟩:=rx;exact SeqAt.EqAt.bool_int a b t
    | str b=>obtain ⟨t,rfl⟩:=rx;exact SeqAt.EqAt.bool_str a b t
    | _=>exact absurd (show false=true from fx) Bool.false_ne_true
  | int a =>
    obtain ⟨t',rfl⟩:=ry
    cases x with
    | non=>cases rx;exact SeqAt.EqAt.int_none a t'
    | bl b=>cases rx;exact SeqAt.EqAt.int_bool a t' b
    | int b=>obtain ⟨t,rfl⟩:=rx;exact SeqAt.EqAt.int_int a t' b t
    | str b=>obtain ⟨t,rfl⟩:=rx;exact SeqAt.EqAt.int_str a t' b t
    | _=>exact absurd (show false=true from fx) Bool.false_ne_true
  | str a =>
    obtain ⟨t',rfl⟩:=ry
    cases x with
    | non=>cases rx;exact SeqAt.EqAt.str_none a t'
    | bl b=>cases rx;exact SeqAt.EqAt.str_bool a t' b
    | int b=>obtain ⟨t,rfl⟩:=rx;exact SeqAt.EqAt.str_int a t' b t
    | str b=>obtain ⟨t,rfl⟩:=rx;exact SeqAt.EqAt.str_str a t' b t
    | _=>exact absurd (show false=true from fx) Bool.false_ne_true
  | _=>exact absurd (show false=true from fy) Bool.false_ne_true
noncomputable def eqU (x:V) (u:Value):Bool:=match u with
  | .none=>eqV .non x
  | .bool b=>eqV (.bl b) x
  | .int i _=>eqV (.int i) x
  | .str z _=>eqV (.str z) x
  | _=>false
theorem jMI {x y:V} {u:Value} (r:jAB y u) (f:jBt y=true):eqU x u=eqV y x:=by
  cases y with
  | non=>cases r;rfl
  | bl b=>cases r;rfl
  | int i=>obtain ⟨t,rfl⟩:=r;rfl
  | str z=>obtain ⟨t,rfl⟩:=r;rfl
  | _=>exact absurd (show false=true from f) Bool.false_ne_true
theorem jI1 {x:V}:∀ {xs:List V} {us:List Value},jAI xs us→xs.all jBt=true→us.any (eqU x)=xs.any fun y=>eqV y x
  | _,_,.nil,_=>rfl
  | y :: xs,u :: us,.cons r t,f=>by
    rw [List.all_cons,Bool.and_eq_true] at f
    rw [List.any_cons,List.any_cons,jMI r f.1,jI1 t f.2]
theorem jHW {A:Around} {s:Shared} {x:V} {v:Value} (rx:jAB x v) (fx:jBt x=true):∀ {xs:List V} {us:List Value},jAI xs us→xs.all jBt=true→∀ u∈us,SeqAt.EqAt A s u v (eqU x u)
  | _,_,.nil,_=>fun u hu=>by cases hu
  | y :: xs,u :: us,.cons r t,f=>fun u' hu=>by
    rw [List.all_cons,Bool.and_eq_true] at f
    rcases List.mem_cons.mp hu with rfl | hu
    · rw [jMI r f.1];exact jKu r rx f.1 fx
    · exact jHW rx fx t f.2 u' hu
noncomputable def inV (x:V) (xs:List V):Bool:=xs.any fun y=>eqV y x
noncomputable def rIn (K:PySem.W.Frag) (neg:Bool):R2:=fun x y H Q=>∃ p xs,y=.ref p∧(SqL K H p xs∨SqT K H p xs)∧jBt x=true∧xs.all jBt=true∧Q (.bl (if neg then !inV x xs else inV x xs)) H
theorem jJC:OpR X (compareOp .In) (rIn X.K false):=by
  intro pins s σ H x y v u Q I rx ry h
  obtain ⟨p,xs,rfl,hq,fx,fs,q⟩:=h
  cases ry
  rcases hq with hq | hq
  · obtain ⟨its,r,pl,hz⟩:=I.list hq
    refine SeqAt.in_listAt (eqU x) pl.isList (fun w hw=>jHW rx fx r fs w (by simpa using hw)) ⟨.bl _,H,I,rfl,?_⟩
    rw [show its.toArray.any (eqU x)=its.any (eqU x) by simp,jI1 r fs]
    exact q
  · obtain ⟨its,r,pl,hz⟩:=I.tuple hq
    refine SeqAt.in_tupleAt (eqU x) pl (fun w hw=>jHW rx fx r fs w (by simpa using hw)) ⟨.bl _,H,I,rfl,?_⟩
    rw [show its.toArray.any (eqU x)=its.any (eqU x) by simp,jI1 r fs]
    exact q
theorem jAS:CallR X (.builtin "len") (fun xs H Q=>∃ p ys,xs=[.ref p]∧(SqL X.K H p ys∨SqT X.K H p ys)∧Q (.int ys.length) H):=by
  intro pins s σ H xs us Q I r h
  obtain ⟨p,ys,rfl,hq,q⟩:=h
  obtain ⟨u,rfl,rx⟩:=jFm r
  cases rx
  have hn:=jGs
  rcases hq with hq | hq
  · obtain ⟨its,r',pl,hz⟩:=I.list hq
    have hlen:=r'.length
    exact Calls.call_len_list pl.isList (by simp only [List.size_toArray] <;> omega) ⟨.int ys.length,H,I.tok _,⟨s.toks + 1,by rw [List.size_toArray,hlen]⟩,q⟩
  · obtain ⟨its,r',pl,hz⟩:=I.tuple hq
    have hlen:=r'.length
    exact len_tuple pl (by simp only [List.size_toArray] <;> omega) ⟨.int ys.length,H,I.tok _,⟨s.toks + 1,by rw [List.size_toArray,hlen]⟩,q⟩
theorem jKv:CallR X (.builtin "len") (fun xs H Q=>∃ z,xs=[.str z]∧z.length≤sizeLine∧Q (.int z.length) H):=by
  intro pins s σ H xs us Q I r h
  obtain ⟨z,rfl,hz,q⟩:=h
  obtain ⟨u,rfl,t,rfl⟩:=jFm r
  have hn:=jGs
  exact len_str (by omega) ⟨.int z.length,H,I.tok _,⟨_,rfl⟩,q⟩
theorem jKw:CallR X (.type "list") (fun xs H Q=>∃ p ys,xs=[.ref p]∧(SqL X.K H p ys∨SqT X.K H p ys)∧∀ l,H l=none→Q (.ref l) (upd H l (.lst ys))):=by
  intro pins s σ H xs us Q I r h
  obtain ⟨p,ys,rfl,hq,q⟩:=h
  obtain ⟨u,rfl,rx⟩:=jFm r
  cases rx
  have fin:∀ (its:List Value),jAI ys its→ys.length≤sizeLine→∀ (h':Heap) (c':Nat),(∀ b o',s.heap.get? b=some o'→h'.get? b=some o') →
      h'.get? s.heap.objs.size=some { cls:=.type "list",dict:=none,data:=.seq its.toArray c',slots:=#[] }→EP X pins σ Q (.ref s.heap.objs.size) { s with heap:=h' }:=fun its r' hz h' c' kp e =>
    ⟨.ref s.heap.objs.size,_,I.laid (t':=s.toks) kp (Nat.le_refl _) (show jA3 X.prog X.w _ h' _ (.lst ys) from ⟨hz,its,c',r',e⟩),rfl,q _ (I.hok.fresh (Nat.le_refl _))⟩
  rcases hq with hq | hq
  · obtain ⟨its,r',pl,hz⟩:=I.list hq
    have hlen:=r'.length
    obtain ⟨o,ho,hc,n,hd⟩:=pl.isList
    exact call_list_seq p (.inl rfl) ho hc hd (fun h' c' kp e=>fin its r' hz h' c' kp e) (by simp only [List.size_toArray] <;> omega)
  · obtain ⟨its,r',pl,hz⟩:=I.tuple hq
    have hlen:=r'.length
    obtain ⟨o,ho,hc,n,hd⟩:=pl
    exact call_list_seq p (.inr rfl) ho hc hd (fun h' c' kp e=>fin its r' hz h' c' kp e) (by simp only [List.size_toArray] <;> omega)
theorem jJW:CallR X (.type "tuple") (fun xs H Q=>∃ p ys,xs=[.ref p]∧((SqL X.K H p ys∧∀ l,H l=none→Q (.ref l) (upd H l (.tup ys)))∨(SqT X.K H p ys∧Q (.ref p) H))):=by
  intro pins s σ H xs us Q I r h
  obtain ⟨p,ys,rfl,h⟩:=h
  obtain ⟨u,rfl,rx⟩:=jFm r
  cases rx
  rcases h with ⟨hq,q⟩ | ⟨hq,q⟩
  · obtain ⟨its,r',pl,hz⟩:=I.list hq
    have hlen:=r'.length
    refine call_tuple_list pl.isList (fun h' kp=>?_) (by simp only [List.size_toArray] <;> omega)
    have I1:Inv X pins σ H { s with heap:=h' }:=I.kept (t':=s.toks) kp
    have I2:Inv X pins σ (upd H h'.objs.size (.tup ys)) { s with heap:=h'.push { cls:=.type "tuple",data:=.seq its.toArray } } :=
      I1.laid (t':=s.toks) (fun b o e=>Heap.get?_push_of_some _ e) (Nat.le_refl _) (show jA3 X.prog X.w _ _ _ (.tup ys) from ⟨hz,its,r',IsTup.new _ _⟩)
    exact ⟨.ref h'.objs.size,_,I2,rfl,q _ (I1.hok.fresh (Nat.le_refl _))⟩
  · obtain ⟨its,r',pl,hz⟩:=I.tuple hq
    exact call_tuple_same pl ⟨.ref p,H,I,rfl,q⟩
noncomputable def tyV (K:PySem.W.Frag) (T:String) (x:V) (H:Hp):Prop:=match x with
  | .str _=>T="str"
  | .int _=>T="int"
  | .ref p=>(T="list"∧∃ xs,SqL K H p xs)∨(T="tuple"∧∃ o,K.lookup p=some o∧o.cls=.type "tuple"∧o.dict=none) ∨
      (T="dict"∧((∃ kvs,H p=some (.dK kvs))∨∃ kvs,H p=some (.dT kvs)))∨(T="set"∧∃ S n,H p=some (.set S n))
  | _=>False
theorem tyV_is {pins:List (Addr×Obj)} {σ:St} {H:Hp} {s:Shared} {T:String} {x:V} {v:Value} (I:Inv X pins σ H s) (r:jAB x v) (ty:tyV X.K T x H) :
    s.TypeIs v T∧∀ a,v=.ref a→∃ ob,s.heap.get? a=some ob∧ob.dict=none:=by
  cases x with
  | str z =>
    obtain ⟨t,rfl⟩:=r
    cases (show T="str" from ty)
    exact ⟨typeIs_str s z t,fun _ e=>nomatch e⟩
  | int i =>
    obtain ⟨t,rfl⟩:=r
    cases (show T="int" from ty)
    exact ⟨typeIs_int s i t,fun _ e=>nomatch e⟩
  | ref p =>
    cases r
    rcases ty with ⟨rfl,xs,hq⟩ | ⟨rfl,o,hk,hc,hd⟩ | ⟨rfl,hk⟩ | ⟨rfl,S,n,hk⟩
    · obtain ⟨its,_,pl,_⟩:=I.list hq
      refine ⟨pl.isList.typeIs,fun a e=>?_⟩
      cases e
      obtain ⟨o,n,e,c,hd,_⟩:=pl
      exact ⟨o,e,hd⟩
    · refine ⟨⟨o,I.kIn p o hk,hc⟩,fun a e=>?_⟩
      cases e
      exact ⟨o,I.kIn _ o hk,hd⟩
    · have z:∃ o,s.heap.get? p=some o∧o.ExactDict:=by
        rcases hk with ⟨kvs,hk⟩ | ⟨kvs,hk⟩
        · obtain ⟨_,_,_,_,o,_,_,e,ex,_⟩:=I.hok p _ hk
          exact ⟨o,e,ex⟩
        · obtain ⟨_,_,_,_,o,_,_,e,ex,_⟩:=I.hok p _ hk
          exact ⟨o,e,ex⟩
      obtain ⟨o,e,ex⟩:=z
      refine ⟨⟨o,e,ex.1⟩,fun a e2=>?_⟩
      cases e2
      exact ⟨o,e,ex.2.1⟩
    · obtain ⟨o,_,_,_,e,ex,_⟩:=I.hok p _ hk
      refine ⟨⟨o,e,ex.1⟩,fun a e2=>?_⟩
      cases e2
      exact ⟨o,e,ex.2.1⟩
  | _=>exact False.elim ty
noncomputable def tBM0 (K:PySem.W.Frag) (T:String) (r:V→List V→Hp→VK→Prop) (to:TE):TE:=fun σ H Q=>to σ H fun x H1=>tyV K T x H1∧r x [] H1 Q
noncomputable def tBM (K:PySem.W.Frag) (T:String) (r:V→List V→Hp→VK→Prop) (to:TE) (t:TA):TE:=fun σ H Q=>to σ H fun x H1=>tyV K T x H1∧t σ H1 fun xs H2=>r x xs H2 Q
variable {o e:Expr} {es:List Expr} {to:TE} {t:TA} {name:Str} {apos cpos:Pos} {T id:String} {r:V→List V→Hp→VK→Prop}
theorem jKi (pa:PlainAttrs T) (slot:Slot T name id) (hty:typeOf (.builtin id)=pure (.type "method_descriptor")) (hm:MtR X id r) (ho:PE X o to) (ha:PA X (e :: es) t)
    (hbase:attributeBase o name X.env (eval o X.env)=eval o X.env:=by rfl)
    (hfew:((backTo cpos (starEach (e :: es) X.env)).all (fun x=>!x.1) && (backToKw cpos (keywordEach [] X.env)).all (fun x=>x.1.isSome)
      && decide ((e :: es).length + ([]:List Keyword).length + (if ([]:List Keyword).isEmpty then 0 else 1) < 30))=true:=by rfl)
    (hline:(apos.endLine == cpos.line)=true:=by rfl) (hs:starEach (e :: es) X.env=(false,eval e X.env) :: starEach es X.env:=by rfl) (hplain:(backTo cpos (starEach es X.env)).any (·.1)=false:=by rfl) :
    PE X (.Call (.Attribute o name apos) (e :: es) [] cpos) (tBM X.K T r to t):=by
  intro pins s σ H Q I h
  refine wpAny_Call_method_late hbase hfew hline rfl (thn (ho pins s σ H _ I h) fun v s1 ⟨x,H1,I1,r1,ty,q1⟩=>?_)
  obtain ⟨h1,h2⟩:=tyV_is I1 r1 ty
  refine ⟨T,id,pa,slot,hty,h1,h2,?_⟩
  have hA:=ha cpos pins s1 σ H1 _ I1 q1
  rw [hs] at hA ⊢
  refine Calls.callWith_builtin (by show (false || (backTo cpos (starEach es X.env)).any (·.1))=false;rw [hplain] <;> rfl) (Calls.evalArgs_plain ?_)
  exact thn hA fun us s2 ⟨vs,H2,I2,r2,q2⟩=>hm pins s2 σ H2 x vs v us Q I2 r1 r2 q2
/- xs.append(e), list.index on a module's tuple .. are MtR facts of 06m -/
end
end L2
namespace L2
open PySem PySem.Spec PyProof.Rows
noncomputable def MtM (X:Cx) (id:String) (r:V→List V→Hp→VK→Prop):Prop :=
  ∀ (pins:List (Addr×Obj)) (s:Shared) (σ:St) (H:Hp) (x:V) (xs:List V) (v:Value) (us:List Value) (Q:VK),Inv X pins σ H s→jAB x v→jAI xs us→r x xs H Q →
    wpAny (model X.prog X.w) X.A (call (.builtin id) (v :: us)) (EP X pins σ Q) X.xe s
theorem jAI.one:∀ {x:V} {us:List Value},jAI [x] us→∃ u,us=[u]∧jAB x u
  | _,_,.cons r .nil=>⟨_,rfl,r⟩
theorem jAI.eraseIdx:∀ {xs:List V} {us:List Value} (i:Nat),jAI xs us→jAI (xs.eraseIdx i) (us.eraseIdx i)
  | _,_,_,.nil=>.nil
  | _,_,0,.cons _ t=>t
  | _,_,i + 1,.cons r t=>.cons r (jAI.eraseIdx i t)
theorem jAI.rep {xs:List V} {us:List Value} (h:jAI xs us):∀ k:Nat,jAI (List.replicate k xs).flatten (List.replicate k us).flatten
  | 0=>.nil
  | k + 1=>by
    rw [List.replicate_succ,List.replicate_succ,List.flatten_cons,List.flatten_cons]
    exact jAI.append h (jAI.rep h k)
theorem jJD {α:Type}:∀ (l:List α) (i:Nat),(l.eraseIdx i).length≤l.length
  | [],_=>Nat.le_refl _
  | _ :: _,0=>Nat.le_succ _
  | _ :: r,i + 1=>Nat.succ_le_succ (jJD r i)
theorem jJE (its:List Value):∀ (k:Nat) (acc:List Value),
    List.foldl (fun x1 x2=>x1 ++ x2) acc.toArray (List.replicate k its.toArray)=(acc ++ (List.replicate k its).flatten).toArray
  | 0,acc=>by simp
  | k + 1,acc=>by
    have e:acc.toArray ++ its.toArray=(acc ++ its).toArray:=by simp
    have e2:(acc ++ its) ++ (List.replicate k its).flatten=acc ++ (List.replicate (k + 1) its).flatten:=by
      rw [List.replicate_succ,List.flatten_cons,List.append_assoc]
    rw [← e2,← jJE its k (acc ++ its),← e,List.replicate_succ,List.foldl_cons]
section
variable {X:Cx} {pins:List (Addr×Obj)} {σ:St} {H:Hp} {s:Shared} {l b:Addr} {xs ys zs:List V}
theorem Inv.lset {its its':List Value} {n:Nat} {f:Array Value→Array Value} {t':Nat} (I:Inv X pins σ H s) (hH:H l=some (.lst xs))
    (e:s.heap.get? l=some { cls:=.type "list",data:=.seq its.toArray n }) (hf:f its.toArray=its'.toArray) (hv:jAI ys its') (hz:ys.length≤sizeLine) :
    Inv X pins σ (upd H l (.lst ys)) { s with heap:=s.heap.update l (Obj.mapSeq f),toks:=t' }:=by
  have q:=PySem.IsL.update e f
  rw [hf] at q
  refine I.write (x:=l) (e:=l) (by rw [hH];exact trivial) (.inl rfl) (fun b' u hb hu=>(Heap.get?_update_other s.heap (Obj.mapSeq f) (Ne.symm hb)).trans hu) ⟨_,q⟩ ?_
  exact ⟨hz,its',_,hv,q⟩
theorem Inv.lnew {its:List Value} {t':Nat} (I:Inv X pins σ H s) (hv:jAI ys its) (hz:ys.length≤sizeLine) :
    Inv X pins σ (upd H s.heap.objs.size (.lst ys)) { s with heap:=s.heap.push { cls:=.type "list",data:=.seq its.toArray },toks:=t' } :=
  I.laid (fun _ _ q=>Heap.get?_push_of_some _ q) (Nat.le_refl _) ⟨hz,its,0,hv,Heap.get?_push_size _ rfl⟩
theorem Inv.fresh (I:Inv X pins σ H s):H s.heap.objs.size=none:=I.hok.fresh (Nat.le_refl _)
theorem Inv.lstM (I:Inv X pins σ H s) (hH:H l=some (.lst xs)):xs.length≤sizeLine∧∃ (its:List Value) (n:Nat),jAI xs its∧xs.length=its.length∧s.heap.get? l=some { cls:=.type "list",data:=.seq its.toArray n }:=by
  obtain ⟨z,its,n,r,e⟩:=I.hok l _ hH
  exact ⟨z,its,n,r,r.length,e⟩
theorem jKx {n:Nat} (h:n≤sizeLine):Builtin.List.listTooLong n=false:=by
  unfold Builtin.List.listTooLong
  exact decide_eq_false (by omega)
end
section
variable {X:Cx}
noncomputable def rAppend:V→List V→Hp→VK→Prop:=fun x vs H Q=>∃ l xs y,x=.ref l∧vs=[y]∧H l=some (.lst xs)∧xs.length < sizeLine∧Q .non (upd H l (.lst (xs ++ [y])))
theorem jJF:MtM X "list.append" rAppend:=by
  intro pins s σ H x vs v us Q I rx rv h
  obtain ⟨l,xs,y,rfl,rfl,hH,hz,q⟩:=h
  cases rx
  obtain ⟨u,rfl,ru⟩:=rv.one
  obtain ⟨z,its,n,r,hl,e⟩:=I.lstM hH
  refine call_meets F.slot_list_append ⟨_,e,rfl⟩ F.entry_list_append (F.args_list_append_2 _ _) (PySem.list_append l its.toArray n u (by rw [List.size_toArray];omega)) ⟨e,?_⟩
  refine ⟨.non,_,I.lset (its':=its ++ [u]) hH e (by simp) (r.append (.cons ru .nil)) ?_,rfl,q⟩
  rw [List.length_append,List.length_singleton]
  omega
noncomputable def rExtend:V→List V→Hp→VK→Prop:=fun x vs H Q=>∃ l b xs zs,x=.ref l∧vs=[.ref b]∧H l=some (.lst xs)∧H b=some (.lst zs)∧xs.length + zs.length≤sizeLine∧Q .non (upd H l (.lst (xs ++ zs)))
theorem jMJ:MtM X "list.extend" rExtend:=by
  intro pins s σ H x vs v us Q I rx rv h
  obtain ⟨l,b,xs,zs,rfl,rfl,hH,hB,hz,q⟩:=h
  cases rx
  obtain ⟨u,rfl,ru⟩:=rv.one
  cases ru
  obtain ⟨z,its,n,r,hl,e⟩:=I.lstM hH
  obtain ⟨z2,its2,n2,r2,hl2,e2⟩:=I.lstM hB
  have hsz:its.toArray.size + its2.toArray.size≤sizeLine:=by rw [List.size_toArray,List.size_toArray];omega
  have hlong:¬ (!its.toArray.isEmpty && Builtin.List.listTooLong (its.toArray.size + its2.toArray.size))=true:=by
    rw [jKx hsz,Bool.and_false]
    exact Bool.false_ne_true
  refine call_meets F.slot_list_extend ⟨_,e,rfl⟩ F.entry_list_extend (F.args_list_extend_2 _ _)
    (AutoSeq1.list_extend_list_list_0 l its.toArray n b its2.toArray n2 hlong (by rw [List.size_toArray];omega) (by omega)) ⟨e,e2,?_⟩
  refine ⟨.non,_,I.lset (its':=its ++ its2) hH e (by simp) (r.append r2) ?_,rfl,q⟩
  rw [List.length_append]
  omega
noncomputable def rPop:V→List V→Hp→VK→Prop:=fun x vs H Q=>∃ l xs y,x=.ref l∧vs=[]∧H l=some (.lst xs)∧xs[xs.length - 1]?=some y∧Q y (upd H l (.lst xs.dropLast))
noncomputable def rPopAt:V→List V→Hp→VK→Prop:=fun x vs H Q=>∃ l xs i k y,x=.ref l∧vs=[.int i]∧H l=some (.lst xs)∧-(2 ^ 63)≤i∧i < 2 ^ 63∧seqIndex? i xs.length=some k∧xs[k]?=some y∧Q y (upd H l (.lst (xs.eraseIdx k)))
theorem jNo:MtM X "list.pop" rPopAt:=by
  intro pins s σ H x vs v us Q I rx rv h
  obtain ⟨l,xs,i,k,y,rfl,rfl,hH,h1,h2,hk,hy,q⟩:=h
  cases rx
  obtain ⟨u,rfl,ru⟩:=rv.one
  obtain ⟨t,rfl⟩:=ru
  obtain ⟨z,its,n,r,hl,e⟩:=I.lstM hH
  obtain ⟨w,hw,rw'⟩:=r.get hy
  refine call_meets F.slot_list_pop ⟨_,e,rfl⟩ F.entry_list_pop (F.args_list_pop_2 _ _)
    (MeetsSeq.list_pop_at l its.toArray n i t k w (fitsIndex_both h1 h2) (by rw [List.size_toArray,← hl];exact hk) (by rw [← Array.getElem?_toList];exact hw) (by rw [List.size_toArray];omega)) ⟨e,?_⟩
  refine ⟨y,_,I.lset (its':=its.eraseIdx k) hH e ?_ (r.eraseIdx k) ?_,rw',q⟩
  · show its.toArray.eraseIdxIfInBounds k=(its.eraseIdx k).toArray
    rw [List.eraseIdxIfInBounds_toArray]
  · have:=jJD xs k
    omega
noncomputable def rReverse:V→List V→Hp→VK→Prop:=fun x vs H Q=>∃ l xs,x=.ref l∧vs=[]∧H l=some (.lst xs)∧Q .non (upd H l (.lst xs.reverse))
noncomputable def rClear:V→List V→Hp→VK→Prop:=fun x vs H Q=>∃ l xs,x=.ref l∧vs=[]∧H l=some (.lst xs)∧Q .non (upd H l (.lst []))
noncomputable def rCat:R2:=fun x y H Q=>∃ l b xs zs,x=.ref l∧y=.ref b∧H l=some (.lst xs)∧H b=some (.lst zs)∧xs.length + zs.length≤sizeLine∧∀ p,H p=none→Q (.ref p) (upd H p (.lst (xs ++ zs)))
theorem jKy:OpR X (binaryOp .Add) rCat:=by
  intro pins s σ H x y v u Q I rx ry h
  obtain ⟨l,b,xs,zs,rfl,rfl,hH,hB,hz,q⟩:=h
  cases rx
  cases ry
  obtain ⟨z,its,n,r,hl,e⟩:=I.lstM hH
  obtain ⟨z2,its2,n2,r2,hl2,e2⟩:=I.lstM hB
  refine PySem.P.add_list e e2 ?_ (by rw [List.size_toArray,List.size_toArray];omega)
  have ea:its.toArray ++ its2.toArray=(its ++ its2).toArray:=by simp
  rw [ea]
  exact ⟨.ref _,_,I.lnew (t':=s.toks) (r.append r2) (by rw [List.length_append];omega),rfl,q _ I.fresh⟩
noncomputable def rRep:R2:=fun x y H Q=>∃ l k xs,x=.ref l∧y=.int k∧H l=some (.lst xs)∧-(2 ^ 63)≤k∧k < 2 ^ 63∧xs.length * k.toNat≤sizeLine ∧
  ∀ p,H p=none→Q (.ref p) (upd H p (.lst (List.replicate k.toNat xs).flatten))
theorem len_rep {α:Type} (xs:List α) (k:Nat):(List.replicate k xs).flatten.length=k * xs.length:=by
  induction k with
  | zero=>simp
  | succ k ih=>rw [List.replicate_succ,List.flatten_cons,List.length_append,ih,Nat.succ_mul,Nat.add_comm]
theorem op_rep:OpR X (binaryOp .Mult) rRep:=by
  intro pins s σ H x y v u Q I rx ry h
  obtain ⟨l,k,xs,rfl,rfl,hH,h1,h2,hz,q⟩:=h
  cases rx
  obtain ⟨t,rfl⟩:=ry
  obtain ⟨z,its,n,r,hl,e⟩:=I.lstM hH
  have hlen:its.toArray.size * k.toNat≤sizeLine:=by rw [List.size_toArray,← hl];exact hz
  have hcap:¬ its.toArray.size * k.toNat > (2 ^ 63 - 1) / 8:=by
    have:(sizeLine:Nat)≤(2 ^ 63 - 1) / 8:=by decide
    omega
  have hfit:¬ (!Builtin.List.listFitsIndex k)=true:=by
    rw [fitsIndex_both h1 h2]
    exact Bool.false_ne_true
  have hlong:¬ Builtin.List.listTooLong (its.toArray.size * k.toNat)=true:=by
    rw [jKx hlen]
    exact Bool.false_ne_true
  have hnew:List.foldl (fun x1 x2=>x1 ++ x2) #[] (List.replicate (if its.toArray.isEmpty=true then 0 else k.toNat) its.toArray)=(List.replicate k.toNat its).flatten.toArray:=by
    have f0:∀ m:Nat,List.foldl (fun x1 x2=>x1 ++ x2) #[] (List.replicate m its.toArray)=(List.replicate m its).flatten.toArray:=fun m=>by
      have:=jJE its m []
      rw [List.nil_append] at this
      exact this
    rw [f0]
    cases its with
    | nil=>simp
    | cons a r'=>rw [if_neg (by simp)]
  refine wpAny_binaryOp_repeat_ref (T:="list") (U:="int") (by decide) ⟨_,e,rfl⟩ (fun s'=>typeIs_int s' k t) noFill_list_mul F.fills_int_mul F.slot_int_rmul repeat_list F.slot_int_index.lookup
    (call_meets F.slot_int_rmul (typeIs_int s k t) F.entry_int_rmul (F.args_int_rmul_2 _ _) (int___rmul___int_list k t l its.toArray n)
      ⟨e,rfl,⟨_,e,rfl⟩,call_meets F.slot_list_mul ⟨_,e,rfl⟩ F.entry_list_mul (F.args_list_mul_2 _ _) (AutoListH.list___mul___list_int_3 l its.toArray n k t hfit hcap hlong) ⟨e,?_⟩⟩)
  rw [hnew]
  exact ⟨.ref _,_,I.lnew (t':=s.toks) (r.rep k.toNat) (by rw [len_rep,Nat.mul_comm];exact hz),rfl,q _ I.fresh⟩
end
section
variable {prog:Program} {w:World} {A:Around} {E:Value→Shared→Prop} {s:Shared}
set_option maxRecDepth 100000 in
end
section
variable {X:Cx}
end
end L2
namespace Att
open PySem PySem.W PySem.Calls PyProof.Rows
theorem jIf {P:Params} {h:Heap}:∀ (ns:List Int) (vs:List Value),WellAll P h vs (ns.map WData.int)→IntsAre vs ns:=by
  intro ns
  induction ns with
  | nil =>
    intro vs w
    rw [List.map_nil] at w
    cases w
    exact .nil
  | cons n ns ih =>
    intro vs w
    rw [List.map_cons] at w
    cases w with
    | cons a b =>
      cases a
      exact .cons _ _ (ih _ b)
theorem jMK {l:OpenLaw} {n:Nat} (hn:l.most=some n) {P:Params} {h:Heap} {args:List WData} {vals:List Value}
    (hpre:l.row.toRowW.claim.pre args=true) (hwl:WellAll P h vals args) :
    ∃ a vs ns,vals=[Value.ref a]∧args=[WData.list (ns.map WData.int)]∧h.get? a=some { cls:=.type "list",data:=.seq vs.toArray }∧IntsAre vs ns∧ns.length≤n:=by
  have hsh:WShape.hasAll [] args [.list .int]=true:=(pre_splitW hpre).1
  have hc:l.pre.holds [] { args:=args }=true:=(pre_splitW hpre).2
  obtain ⟨d,r,rfl,h1,h2⟩:=hasAllW_cons hsh
  obtain rfl:=hasAllW_nil h2
  obtain ⟨xs,rfl,h3⟩:=hasW_list h1
  obtain ⟨ns,rfl⟩:=items_int h3
  have hlen:ns.length≤n:=by
    unfold OpenLaw.pre at hc
    have h4:(WTm.not (.lt (.lit (.int (n:Int))) (.len (.arg 0)))).holds [] { args:=[.list (ns.map .int)] }=true:=by
      have h4:=(holds_andW hc).1
      rw [hn] at h4
      exact h4
    have h5:=condW_of h4 (w_not (w_lt w_lit (w_len_list (w_arg rfl))))
    rw [List.length_map] at h5
    refine Nat.le_of_not_lt fun q=>?_
    have q':(n:Int) < ((ns.length:Nat):Int):=by omega
    first
      | (rw [decide_eq_true q'] at h5;exact absurd h5 (by decide))
      | (simp at h5;omega)
  cases hwl with
  | cons w1 w2 =>
    cases w2
    cases w1 with
    | list ho hall=>exact ⟨_,_,ns,rfl,rfl,ho,jIf ns _ hall,hlen⟩
theorem jML (l:OpenLaw) (args:List WData):l.row.toRowW.claim.post args (.bool true) args=true :=
  postW_of (r:=l.row.toRowW) (X:=(true == true))
    (show WShape.has [] (.bool true) .bool=true by first | rfl | decide | simp [WShape.has,WShape.arms,WShape.armsAll])
    (show (WTm.eq .res (.lit (.bool true))).value [] { args:=args,res:=some (.bool true),after:=args }=some (.bool (true == true)) from w_eq_bool (w_res rfl) w_lit) rfl
theorem attach_call {l:OpenLaw} {n:Nat} {q:Program} {loose:List Str} {XP:(Str→Option Value)→Heap→Prop} {YP:World→Heap→Prop} {d:DefRec}
    (hn:l.most=some n) (hdf:d.params.defaults=[])
    (call:∀ (w:World) (s₀ s₁:Shared) (mg mb:Str→Option Value) (fa:Addr) (o:Obj) (pm cd doc:Value) (a:Addr) (vs:List Value) (ns:List Int),
      Ground q loose [] XP w s₀ mg mb s₁.heap→YP w s₁.heap →
      s₁.heap.get? fa=some o→o.data=.func (docDef d.name d.params d.body d.scope pm cd doc)→s₁.heap.CodeRec cd d.name→mg d.name=some (.ref fa) →
      s₁.heap.get? a=some { cls:=.type "list",data:=.seq vs.toArray }→IntsAre vs ns→ns.length≤n→s₁.gens=#[] →
      codeAny (model l.prog w) callerA (.call (.ref fa) ⟨[.ref a],[]⟩) (fun r s'=>r=.ok (.ret (.bool true))∧OldK s₁.heap s'.heap∧s'.os=s₁.os∧AllBare s'.gens) s₁) :
    WalkO q loose XP YP l.row.toRowW d [] (fun f vs=>PySem.call f vs):=by
  intro w s₀ s₁ mg mb G Y fa o pm cd doc dV kV ho hd hcd hD hmg hg args vals as hpre hlay hrd hwl hlo
  obtain rfl:dV=.none:=Dflts.none hD hdf
  obtain rfl:kV=.none:=Dflts.noKw hD
  obtain ⟨a,vs,ns,rfl,rfl,hobj,hints,hlen⟩:=jMK hn hpre hwl
  refine enter_call (codeAny_mono (call w s₀ s₁ mg mb fa o pm cd doc a vs ns G Y ho (fd_plain hd) hcd hmg hobj hints hlen hg) fun r s' hq=>?_)
  obtain ⟨rfl,h2,h3,h4⟩:=hq
  exact ⟨.inl ⟨.bool true,.bool true,[],rfl,fun _=>rfl,.bool true,jML l _,fun _=>⟨List.Pairwise.nil,fun _ hm=>(nomatch hm)⟩⟩,h2,h3,h4⟩
section
variable {prog:Program} {w:World} {A:Around} {E:Value→Shared→Prop} {s:Shared} {K:Frag}
noncomputable def noObjs (h:Heap):Heap:={ h with objs:=#[] }
noncomputable def ledger (h:Heap) (L d:Addr):List (Addr×Obj):=(List.range h.objs.size).filterMap fun a=>if a=L∨a=d then none else (h.get? a).map fun o=>(a,o)
end
end Att
namespace L2
open PySem PySem.Spec PyProof.Rows
theorem jJG:∀ {vs:List Value} {ns:List Int},IntsAre vs ns→jAI (ns.map V.int) vs
  | _,_,.nil=>.nil
  | _,_,.cons n t h=>.cons ⟨t,rfl⟩ (jJG h)
noncomputable def Only (H:Hp):Prop:=∀ b,H b=none∨∃ o xs,H b=some (.frz o (.lst xs))
theorem jNp {P:Program} {w:World} {K:PySem.W.Frag} {mg mb:Str→Option Value} {CX:CXT} {k:Nat} {fa a:Addr} {fd:FuncData} {x:Str} {sp:Sp} {s₁:Shared} {vs:List Value} {ns:List Int}
    (KX:K.In s₁.heap) (hns:s₁.heap.Ns mainGlobals mg) (hb:s₁.heap.Ns builtinsNs mb) (hbb:∀ x:Str,x≠"__name__"→mb x=bootBuiltins x) (hlim:s₁.heap.NoLimit) (hg:s₁.gens=#[])
    (ha:s₁.heap.get? a=some { cls:=.type "list",data:=.seq vs.toArray }) (hi:IntsAre vs ns) (hl:ns.length≤sizeLine) (hr:jBc k callerA)
    (F:∀ base:Heap,K.In base→base.Ns mainGlobals mg→jAh P w K mg base CX k fa fd [x] sp) (hbind:∀ (s:Shared) (u:Value),BindsTo s fd ⟨[u],[]⟩ [(x,u)])
    (hsp:∀ H:Hp,Only H→SqL K H a (ns.map V.int)→sp [.ref a] H (fun v _=>v=.bl true) fun _ _ _=>False)
    (hCX:∀ H e s',CX [] H s₁ (fun _ _ _=>False) e s'→False) :
    codeAny (model P w) callerA (.call (.ref fa) ⟨[.ref a],[]⟩) (fun r s'=>r=.ok (.ret (.bool true))∧OldK s₁.heap s'.heap∧s'.os=s₁.os∧AllBare s'.gens) s₁:=by
  have rv:=jJG hi
  have lenV:=hi.length
  -- from an abstract heap in which nothing but the script may be tracked
  have core:∀ H:Hp,Only H→SqL K H a (ns.map V.int)→HOk P w H s₁.heap→(∀ b,H b≠none→b=a)→(H a≠none→K.lookup a=none) →
      codeAny (model P w) callerA (.call (.ref fa) ⟨[.ref a],[]⟩) (fun r s'=>r=.ok (.ret (.bool true))∧OldK s₁.heap s'.heap∧s'.os=s₁.os∧AllBare s'.gens) s₁:=by
    intro H hO hS hok hA hK
    have base_of:∀ {b:Addr} {o:Obj},s₁.heap.get? b=some o→H b=none→(jGG s₁.heap H).get? b=some o:=fun e n=>jNg e n
    have noA:∀ {b:Addr} {o:Obj} {es:Array DictEntry} {ep:Nat},s₁.heap.get? b=some o→o.data=.dict es ep→H b=none:=fun {b o es ep} e d=>by
      cases q:H b with
      | none=>rfl
      | some u =>
        have e':b=a:=hA b (by rw [q];simp)
        subst e'
        rw [ha] at e;cases e
        have d':Data.seq vs.toArray _=Data.dict es ep:=d
        cases d'
    have nsK:∀ {b:Addr} {m:Str→Option Value},s₁.heap.Ns b m→(jGG s₁.heap H).Ns b m:=fun {b m} ⟨o,es,ep,e,d,r⟩=>⟨o,es,ep,base_of e (noA e d),d,r⟩
    have hKb:K.In (jGG s₁.heap H):=fun b o e=>base_of (KX b o e) (by
      cases q:H b with
      | none=>rfl
      | some u =>
        have e':b=a:=hA b (by rw [q];simp)
        subst e'
        rw [hK (by rw [q];simp)] at e;cases e)
    have hM:Mod K mg (jGG s₁.heap H):=⟨hKb,nsK hns,⟨mb,nsK hb,hbb⟩,let ⟨mc,h1,h2⟩:=hlim;⟨mc,nsK h1,h2⟩⟩
    have e0:Env0 P w K mg (jGG s₁.heap H) callerA [] s₁ H:=⟨rfl,hM,fun b o e=>of_hidT e,Nat.le_of_eq (jMx _ _),trivial,fun b hb=>absurd (show b∈([]:List Addr) from hb) (by simp),hok,.of_eq hg⟩
    refine codeAny_mono ((F _ hKb (nsK hns)).run callerA [] s₁ H ⟨[.ref a],[]⟩ [.ref a] [.ref a] _ _ hr e0 (hbind s₁ (.ref a)) (.cons rfl .nil) (hsp H hO hS)) fun r s' h=>?_
    cases r with
    | error e=>exact (hCX H e s' h).elim
    | ok fl =>
      cases fl with
      | next=>exact False.elim h
      | brk=>exact False.elim h
      | cont=>exact False.elim h
      | ret u =>
        obtain ⟨v,H',os,bare,un,hok',r',q⟩:=h
        have q':v=.bl true:=q
        subst q'
        obtain rfl:u=Value.bool true:=r'
        refine ⟨rfl,OldK.of_keep fun b o e=>?_,os,bare⟩
        cases q:H b with
        | none=>exact un.keep b o e q (by intro z;exact absurd (show b∈([]:List Addr) from z) (by simp)) (by simp)
        | some u =>
          rcases hO b with z | ⟨ob,xs,z⟩
          · rw [q] at z;cases z
          · have z2:=un.frzs b ob _ z
            obtain ⟨e1,_⟩:=hok b _ z
            obtain ⟨e2,_⟩:=hok' b _ z2
            rw [e] at e1;cases e1
            exact e2
  cases hk:K.lookup a with
  | some o =>
    -- the script is one of the module's own objects
    have e:=KX a o hk
    rw [ha] at e
    cases e
    refine core (fun _=>none) (fun _=>.inl rfl) (.inr ⟨_,vs.toArray,_,hk,rfl,rfl,rfl,by rw [List.size_toArray,lenV];exact hl,by simpa using rv⟩) (fun b u z=>by have z':(none:Option HO)=some u:=z;cases z') (fun b z=>absurd rfl z) fun z=>absurd rfl z
  | none =>
    refine core (fun b=>if b=a then some (.frz { cls:=.type "list",data:=.seq vs.toArray } (.lst (ns.map V.int))) else none) (fun b=>?_) (.inl (.inr ⟨{ cls:=.type "list",data:=.seq vs.toArray },if_pos rfl⟩)) (fun b u z=>?_) (fun b z=>?_) fun _=>hk
    · by_cases hb:b=a
      · exact .inr ⟨_,_,if_pos hb⟩
      · exact .inl (if_neg hb)
    · by_cases hb:b=a
      · have z':=(if_pos hb).symm.trans z
        cases z'
        subst hb
        exact ⟨ha,by rw [List.length_map];exact hl,vs,_,rv,ha⟩
      · have z':=(if_neg hb).symm.trans z
        cases z'
    · by_cases hb:b=a
      · exact hb
      · exact absurd (if_neg hb) z
end L2
namespace L2
open PySem PySem.Spec PyProof.Rows
noncomputable abbrev KOf {K:PySem.W.Frag} {h:Heap} (_:K.In h):PySem.W.Frag:=K
theorem walk_of {l:PySem.W.OpenLaw} {n k:Nat} {q:Program} {loose:List Str} {XP:(Str→Option Value)→Heap→Prop} {YP:World→Heap→Prop} {d:DefRec} {K:Params→PySem.W.Frag} {CX:World→CXT} {sp:World→Sp} {x:Str}
    (hn:l.most=some n) (hn2:n≤sizeLine) (hdf:d.params.defaults=[]) (hr:jBc k callerA)
    (hY:∀ (w:World) (h:Heap),YP w h→(K w.params).In h)
    (F:∀ (w:World) (mg:Str→Option Value) (fa:Addr) (h:Heap),(K w.params).In h→h.Ns mainGlobals mg→mg d.name=some (.ref fa) →
      ∃ fd:FuncData,(∀ (s:Shared) (u:Value),BindsTo s fd ⟨[u],[]⟩ [(x,u)]) ∧
        ∀ base:Heap,(K w.params).In base→base.Ns mainGlobals mg→jAh l.prog w (K w.params) mg base (CX w) k fa fd [x] (sp w))
    (hsp:∀ (w:World) (H:Hp) (a:Addr) (ns:List Int),ns.length≤n→Only H→SqL (K w.params) H a (ns.map V.int)→sp w [.ref a] H (fun v _=>v=.bl true) fun _ _ _=>False)
    (hCX:∀ (w:World) (H:Hp) (s:Shared) (e:Value) (s':Shared),CX w [] H s (fun _ _ _=>False) e s'→False) :
    PySem.W.WalkO q loose XP YP l.row.toRowW d [] (fun f vs=>PySem.call f vs):=by
  refine Att.attach_call hn hdf fun w s₀ s₁ mg mb fa o pm cd doc a vs ns G Y ho hd hcd hmg hobj hints hlen hg=>?_
  have KX:=hY w _ Y
  obtain ⟨fd,hb,hF⟩:=F w mg fa _ KX G.T.g hmg
  exact jNp KX G.T.g G.T.b G.T.builtins G.T.nolimit hg hobj hints (Nat.le_trans hlen hn2) hr hF hb (fun H hO hS=>hsp w H a ns hlen hO hS) fun H e s'=>hCX w H s₁ e s'
end L2
/- THE LAST THEOREM (shape; LID, My.* are yours):
   My.Adr: a structure of the addresses that your layer names (classes,functions);My.Txt K t: a structure (Prop) of the equations over K;
   My.txt_mk:{K} {implicit addresses ..} (e1:nsIn K mainGlobals "law"=some (some (.ref f))) (e2:K.lookup f=some ⟨oc,od,.func (fnOf "law" "law" params body scope dV kV doc pm an cdv ct),sl⟩) (e3:codeIn K cdv "law"=true) ..:∃ t,My.Txt K t
set_option maxRecDepth 100000 in
set_option maxHeartbeats 0 in
theorem PySem.Challenge.cw_LID_holds : PySem.Challenge.rw_LID.Holds := by
  w_on;o_law;k_head;(case hw=>w_witness2)
  k_fill
  refine L2.walk_of (l:=PySem.Challenge.rw_LID) (n:=63) (k:=40) (x:="script") (CX:=fun w=>..) (sp:=fun _=>My.sp_law) rfl (by decide) rfl ⟨rfl,by decide,by decide⟩ (fun w h Y=>PySem.W.kIn_of Y) ?F ?S ?C
  case F =>
    intro w mg fa h KX G hmg
    have T:∃ t,My.Txt (L2.KOf KX) t:=by
      dsimp only [L2.KOf]                          -- K must stand as «<heap const> w.params» for k_is
      refine' My.txt_mk ?e1 ?e2 ?e3 ..
      (case e1 => PySem.W.k_is)                    -- in the order: a name -> its address -> its object -> its parts
      (case e2=>PySem.W.k_is)
      ..
    obtain ⟨t,T⟩:=T
    have e0:=hmg.symm.trans (PySem.W.mg_of KX G T.law)
    cases e0                                       -- fa is the law's own address
    exact ⟨_, fun s u => .of_eq rfl, fun base kb nb => My.law_fn T kb nb⟩     -- if «.of_eq rfl» comes too early: refine' ⟨_, ?b, fun base kb nb => My.law_fn T kb nb⟩; exact fun s u => .of_eq rfl
  case S=>exact fun w H a ns hl hO hS=>..
  case C=>exact ..
(the tactic k_is has no namespace: write k_is) -/
namespace L2
open PySem PySem.Spec PyProof.Rows
noncomputable def jAt (s:Stmt) (j:Nat):Stmt:=match s with
  | .ClassDef _ _ _ body _ _ _ _ _ _ _=>body.getD j (.Pass ⟨0,0,0,0⟩)
  | _=>.Pass ⟨0,0,0,0⟩
noncomputable def jAm (s:Stmt):Arguments:=match s with
  | .FunctionDef _ a _ _ _ _ _ _ _ _=>a
  | _=>{ posonlyargs:=[],args:=[],vararg:=none,kwonlyargs:=[],kw_defaults:=[],kwarg:=none,defaults:=[] }
noncomputable def jAk (s:Stmt):List Stmt:=match s with
  | .FunctionDef _ _ b _ _ _ _ _ _ _=>b
  | _=>[]
noncomputable def jAb (s:Stmt):Scope:=match s with
  | .FunctionDef _ _ _ _ _ _ sc _ _ _=>sc
  | _=>{ kind:=.function,names:=[],isGenerator:=false,isCoroutine:=false }
noncomputable abbrev CX0:CXT:=fun _ _ _ _ _ _=>False
noncomputable abbrev E0:XK:=fun _ _ _=>False
theorem jIg {X:Cx}:jE7 CX0 X E0:=fun _ _ _ _ _ _ _ h=>h.elim
structure Fun (K:PySem.W.Frag) (x qual:Str) (st:Stmt) (f:Addr) (fd:FuncData):Prop where
  ex:∃ (oc:Value) (od:Option Addr) (kV doc pm:Value) (an:Option Addr) (cdv ct:Value) (osl:Array (Option Value)),
    fd=PySem.W.fnOf x qual (jAm st) (jAk st) (jAb st) .none kV doc pm an cdv ct∧K.lookup f=some ⟨oc,od,.func fd,osl⟩∧PySem.W.codeIn K cdv qual=true
  kp:PySem.W.keepIn K (.ref f)=true
section
variable {P:Program} {w:World} {K:PySem.W.Frag} {mg:Str→Option Value} {base:Heap} {fa yQ yZ yX yY yV yJ yW yU yK yG cQ cZ cV cK cG vQ vZ vX vY:Addr} {fd:FuncData}
theorem Fun.ok {x qual:Str} {st:Stmt} {f:Addr} {fd:FuncData} {N ps:List Str} {k:Nat} {sp:Sp} (F:Fun K x qual st f fd) (S:jAn N ps (jAb st)) (len:∀ vs H Q E,sp vs H Q E→vs.length=ps.length)
    (hbody:∀ (cdv:Value) (A:Around) (outer:List Env) (s:Shared) (H:Hp) (vs:List V) (Q:VK) (E:XK),jBc k (A.deeper (envOfC qual (jAb st) s.heap.objs.size f cdv))→sp vs H Q E →
      ∃ t,PSs (jG3 CX0 P w K mg base N qual (jAb st) f cdv A outer s H E).nox (jAk st) t∧t { nx:=fun _ H'=>Q .non H',rt:=Q } (jFn N vs) H):jAh P w K mg base CX0 (k + 1) f fd ps sp:=by
  obtain ⟨oc,od,kV,doc,pm,an,cdv,ct,osl,rfl,lk,hcd⟩:=F.ex
  refine fn_of lk hcd S len fun A outer s H vs Q E hr hsp=>?_
  obtain ⟨t,h,q⟩:=hbody cdv A outer s H vs Q E hr hsp
  exact ⟨t,h.nox,q⟩
theorem Fun.binds {x qual:Str} {st:Stmt} {f:Addr} {fd:FuncData} {ps:List Str} (F:Fun K x qual st f fd)
    (h:∀ (kV doc pm:Value) (an:Option Addr) (cdv ct:Value) (us:List Value),us.length=ps.length→bindArgs (PySem.W.fnOf x qual (jAm st) (jAk st) (jAb st) .none kV doc pm an cdv ct) ⟨us,[]⟩=pure (ps.zip us)):jCo K fd ps []:=by
  obtain ⟨oc,od,kV,doc,pm,an,cdv,ct,osl,rfl,lk,hcd⟩:=F.ex
  exact .all (h kV doc pm an cdv ct)
theorem jAq {x qual:Str} {st:Stmt} {f:Addr} {oc:Value} {od an:Option Addr} {osl:Array (Option Value)} {kV doc pm cdv ct:Value} (l:K.lookup f=some ⟨oc,od,.func (PySem.W.fnOf x qual (jAm st) (jAk st) (jAb st) .none kV doc pm an cdv ct),osl⟩)
    (c:PySem.W.codeIn K cdv qual=true) (k:PySem.W.keepIn K (.ref f)=true):Fun K x qual st f (PySem.W.fnOf x qual (jAm st) (jAk st) (jAb st) .none kV doc pm an cdv ct):=⟨⟨oc,od,kV,doc,pm,an,cdv,ct,osl,rfl,l,c⟩,k⟩
end
theorem jBb {n:Nat} (h:n≤1000):n < sizeLine:=Nat.lt_of_le_of_lt h (by decide)
section
variable {X:Cx}
theorem pv (i:Nat) {x:Str} {pos:Pos} (hN:X.N[i]?=some x:=by rfl) (hv:Vis X.env.scope x:=by first | exact Or.inl rfl | exact Or.inr (Or.inl rfl) | exact Or.inr (Or.inr rfl)) (hd:(x == ("__debug__":Str))=false:=by decide)
    (hcd:(x == ("__classdict__":Str))=false:=by decide):PE X (.Name x pos) (jGe i):=pe_var hN hv hd hcd
end
theorem jAT {A B:Prop} (h:B):if false=true then A else B:=by
  rw [if_neg Bool.false_ne_true]
  exact h
theorem jA6 {A B:Prop} (h:A):if true=true then A else B:=by
  rw [if_pos rfl]
  exact h
theorem jCi {c A B:Prop} [Decidable c] (h1:c→A) (h2:¬ c→B):if c then A else B:=by
  by_cases h:c
  · rw [if_pos h]
    exact h1 h
  · rw [if_neg h]
    exact h2 h
theorem jKj {c A B:Prop} [Decidable c] (hc:c) (h:B):if (!decide c)=true then A else B:=by
  rw [decide_eq_true hc]
  exact jAT h
noncomputable def jAr (H H':Hp):Prop:=∀ b o,H b=some o→H' b=some o
theorem jAr.refl (H:Hp):jAr H H:=fun _ _ h=>h
theorem jAr.trans {H H1 H2:Hp} (a:jAr H H1) (b:jAr H1 H2):jAr H H2:=fun c o h=>b c o (a c o h)
theorem jAr.free {H H':Hp} (e:jAr H H') {l:Addr} (h:H' l=Option.none):H l=Option.none:=by
  cases q:H l with
  | none=>rfl
  | some o =>
    rw [e l o q] at h
    cases h
theorem jAr.seq {K:PySem.W.Frag} {H H':Hp} {a:Addr} {xs:List V} (e:jAr H H') (h:SqL K H a xs):SqL K H' a xs:=by
  rcases h with (h | ⟨o,h⟩) | h
  · exact .inl (.inl (e _ _ h))
  · exact .inl (.inr ⟨o,e _ _ h⟩)
  · exact .inr h
end L2
set_option maxHeartbeats 4000000
namespace L2
open PySem PySem.Spec PyProof.Rows
section
variable {κ:Type} [DecidableEq κ]
noncomputable def jCJ (kvs:List (κ×V)) (k:κ):Option V:=(kvs.find? fun kv=>decide (kv.1=k)).map (·.2)
noncomputable def jCK (kvs:List (κ×V)) (k:κ) (v:V):List (κ×V) :=
  if (kvs.any fun kv=>decide (kv.1=k))=true then kvs.map (fun kv=>if kv.1=k then (kv.1,v) else kv) else kvs ++ [(k,v)]
noncomputable def dropK (kvs:List (κ×V)) (k:κ):List (κ×V):=kvs.filter fun kv=>decide (kv.1≠k)
theorem jHX {p:κ×V} {r:List (κ×V)} {k:κ} (e:p.1=k):jCJ (p :: r) k=some p.2:=by simp [jCJ,List.find?_cons,e]
theorem jHY {p:κ×V} {r:List (κ×V)} {k:κ} (e:¬ p.1=k):jCJ (p :: r) k=jCJ r k:=by simp [jCJ,List.find?_cons,e]
theorem jKz (k:κ):∀ kvs:List (κ×V),(kvs.any fun kv=>decide (kv.1=k))=(jCJ kvs k).isSome
  | []=>rfl
  | p :: r=>by
    rw [List.any_cons]
    by_cases e:p.1=k
    · simp only [jHX e,decide_eq_true e,Bool.true_or,Option.isSome_some]
    · rw [jHY e,decide_eq_false e,Bool.false_or];exact jKz k r
theorem jGj (kvs:List (κ×V)) (k:κ) (v:V):(jCK kvs k v).length≤kvs.length + 1:=by
  unfold jCK
  split
  · rw [List.length_map];omega
  · rw [List.length_append,List.length_cons,List.length_nil];omega
theorem jCp.isSome_eq {o:Option V} {u:Option Value} (r:jCp o u):o.isSome=u.isSome:=by
  cases o with
  | none=>cases u with
    | none=>rfl
    | some _=>exact (show False from r).elim
  | some _=>cases u with
    | none=>exact (show False from r).elim
    | some _=>rfl
theorem KV.val {kvs:List (κ×V)} {vs:List (κ×Value)} (r:KV kvs vs) (k:κ):jCp (jCJ kvs k) (valueAt vs k):=by
  unfold KV at r
  induction r with
  | nil=>exact True.intro
  | @cons p q ps qs h t ih =>
    obtain ⟨h1,h2⟩:=h
    by_cases e:p.1=k
    · have e':q.1=k:=h1.symm.trans e
      have b:valueAt (q :: qs) k=some q.2:=by simp [valueAt,List.find?_cons,e']
      rw [jHX e,b];exact h2
    · have e':¬ q.1=k:=fun z=>e (h1.trans z)
      have b:valueAt (q :: qs) k=valueAt qs k:=by simp [valueAt,List.find?_cons,e']
      rw [jHY e,b];exact ih
theorem KV.any {kvs:List (κ×V)} {vs:List (κ×Value)} (r:KV kvs vs) (k:κ):(kvs.any fun kv=>decide (kv.1=k))=vs.any fun kv=>decide (kv.1=k):=by
  unfold KV at r
  induction r with
  | nil=>rfl
  | cons h t ih=>rw [List.any_cons,List.any_cons,ih,h.1]
theorem KV.repl {kvs:List (κ×V)} {vs:List (κ×Value)} (r:KV kvs vs) (k:κ) {y:V} {u:Value} (ry:jAB y u) :
    KV (kvs.map fun kv=>if kv.1=k then (kv.1,y) else kv) (vs.map fun kv=>if kv.1=k then (kv.1,u) else kv):=by
  unfold KV at r ⊢
  induction r with
  | nil=>exact .nil
  | @cons p q ps qs h t ih =>
    rw [List.map_cons,List.map_cons]
    refine .cons ?_ ih
    obtain ⟨h1,h2⟩:=h
    by_cases e:p.1=k
    · rw [if_pos e,if_pos (h1.symm.trans e)];exact ⟨h1,ry⟩
    · rw [if_neg e,if_neg (fun z=>e (h1.trans z))];exact ⟨h1,h2⟩
theorem KV.put {kvs:List (κ×V)} {vs:List (κ×Value)} (r:KV kvs vs) (k:κ) {y:V} {u:Value} (ry:jAB y u):KV (jCK kvs k y) (stored vs k u):=by
  unfold jCK stored
  rw [r.any k]
  by_cases e:(vs.any fun kv=>decide (kv.1=k))=true
  · rw [if_pos e,if_pos e];exact r.repl k ry
  · rw [if_neg e,if_neg e];exact Paired.snoc r ⟨rfl,ry⟩
theorem KV.keys {kvs:List (κ×V)} {vs:List (κ×Value)} (r:KV kvs vs):kvs.map (·.1)=vs.map (·.1):=by
  unfold KV at r
  induction r with
  | nil=>rfl
  | cons h t ih=>rw [List.map_cons,List.map_cons,ih,h.1]
theorem KV.length {kvs:List (κ×V)} {vs:List (κ×Value)} (r:KV kvs vs):kvs.length=vs.length:=Paired.length r
end
theorem jHq {P:Program} {w:World} {k:Key} {u:Value} (r:jAB (kV k) u):(jBe P w).is k u=true:=by
  cases k with
  | inl i=>obtain ⟨t,e⟩:=(show ∃ t,u=Value.int i t from r);subst e;exact jLo P w i t
  | inr x=>obtain ⟨t,e⟩:=(show ∃ t,u=Value.str x t from r);subst e;exact jLp P w x t
theorem jJH {P:Program} {w:World}:∀ {ks:List Key} {us:List Value},jAI (ks.map kV) us→ItemsAre (jBe P w) ks us
  | [],_,r=>by rw [List.map_nil] at r;cases r;exact .nil
  | k :: ks,_,r=>by
    rw [List.map_cons] at r
    cases r with
    | cons h t=>exact .cons (jHq h) (jJH t)
noncomputable abbrev KT (H:Hp):List (List Key×V)→List (List Key×Addr×Value)→Prop:=Paired fun p q=>p.1=q.1∧H q.2.1=some (.tup (p.1.map kV))∧jAB p.2 q.2.2
theorem KT.val {H:Hp} {kvs:List (List Key×V)} {xs:List (List Key×Addr×Value)} (r:KT H kvs xs) (k:List Key):jCp (jCJ kvs k) ((atKey xs k).map (·.2)):=by
  induction r with
  | nil=>exact True.intro
  | @cons p q ps qs h t ih =>
    obtain ⟨h1,_,h2⟩:=h
    by_cases e:p.1=k
    · have e':q.1=k:=h1.symm.trans e
      have b:atKey (q :: qs) k=some q.2:=by simp [atKey,List.find?_cons,e']
      rw [jHX e,b];exact h2
    · have e':¬ q.1=k:=fun z=>e (h1.trans z)
      have b:atKey (q :: qs) k=atKey qs k:=by simp [atKey,List.find?_cons,e']
      rw [jHY e,b];exact ih
theorem KT.repl {H:Hp} {kvs:List (List Key×V)} {xs:List (List Key×Addr×Value)} (r:KT H kvs xs) (k:List Key) {y:V} {u:Value} (ry:jAB y u) :
    KT H (kvs.map fun kv=>if kv.1=k then (kv.1,y) else kv) (xs.map (putAt k u)):=by
  induction r with
  | nil=>exact .nil
  | @cons p q ps qs h t ih =>
    rw [List.map_cons,List.map_cons]
    refine .cons ?_ ih
    obtain ⟨h1,h2,h3⟩:=h
    unfold putAt
    by_cases e:p.1=k
    · rw [if_pos e,if_pos (h1.symm.trans e)];exact ⟨h1,h2,ry⟩
    · rw [if_neg e,if_neg (fun z=>e (h1.trans z))];exact ⟨h1,h2,h3⟩
theorem KT.put {H:Hp} {kvs:List (List Key×V)} {xs:List (List Key×Addr×Value)} (r:KT H kvs xs) (k:List Key) {b:Addr} {y:V} {u:Value} (hb:H b=some (.tup (k.map kV))) (ry:jAB y u) :
    KT H (jCK kvs k y) (storedH xs k b u):=by
  have e:(kvs.any fun kv=>decide (kv.1=k))=(atKey xs k).isSome:=by
    rw [jKz,(r.val k).isSome_eq,Option.isSome_map]
  unfold jCK storedH
  rw [e]
  by_cases q:(atKey xs k).isSome=true
  · rw [if_pos q,if_pos q];exact r.repl k ry
  · rw [if_neg q,if_neg q];exact Paired.snoc r ⟨rfl,hb,ry⟩
theorem KT.keeps {H H':Hp} {kvs:List (List Key×V)} {xs:List (List Key×Addr×Value)} (r:KT H kvs xs) (ht:∀ b ys,H b=some (.tup ys)→H' b=some (.tup ys)):KT H' kvs xs :=
  Paired.mapP r fun _ _ z=>⟨z.1,ht _ _ z.2.1,z.2.2⟩
section
variable {P:Program} {w:World} {H:Hp} {h:Heap} {a:Addr}
theorem rd_of {u:HO} (ok:HOk P w H h) (e:Rd H a u):jA3 P w H h a u:=e.ok ok
theorem jIh {kvs:List (Key×V)} (ok:HOk P w H h) (e:Rd H a (.dK kvs)):kvs.length≤sizeLine∧(a == sysModules)=false∧∃ vs,KV kvs vs∧h.DictOf (jBe P w) a vs :=
  show jA3 P w H h a (.dK kvs) from rd_of ok e
theorem jKk {kvs:List (Key×V)} (ok:HOk P w H h) (e:H a=some (.dK kvs)):kvs.length≤sizeLine∧(a == sysModules)=false∧∃ vs,KV kvs vs∧h.DictOf (jBe P w) a vs:=jIh ok (.inl e)
theorem jIi {ks:List Key} (ok:HOk P w H h) (e:H a=some (.tup (ks.map kV))):(tupleKind (jBe P w)).is h ks a:=by
  obtain ⟨_,its,r,o,h1,h2,n,h3⟩:=(show jA3 P w H h a (.tup (ks.map kV)) from ok a _ e)
  exact ⟨o,its.toArray,n,h1,h2,h3,by simpa using jJH r⟩
theorem jKl {kvs:List (List Key×V)} (ok:HOk P w H h) (e:Rd H a (.dT kvs)):kvs.length≤sizeLine∧(a == sysModules)=false ∧
    ∃ xs,KT H kvs xs∧h.DictOfH (tupleKind (jBe P w)) a xs:=by
  obtain ⟨z,y,xs,r,o,es,ep,h1,h2,h3,h4,h5⟩:=(show jA3 P w H h a (.dT kvs) from rd_of ok e)
  refine ⟨z,y,xs,r,o,es,ep,h1,h2,h3,h4,fun x hx=>?_,h5⟩
  have all:∀ {l:List (List Key×V)} {m:List (List Key×Addr×Value)},KT H l m→∀ x∈m,(tupleKind (jBe P w)).is h x.1 x.2.1:=by
    intro l m q
    induction q with
    | nil=>intro x hx;exact nomatch hx
    | @cons p q ps qs hq t ih =>
      intro x hx
      rcases List.mem_cons.mp hx with e | hx
      · subst e
        exact jIi ok (by rw [← hq.1];exact hq.2.1)
      · exact ih x hx
  exact all r x hx
theorem dt_of {kvs:List (List Key×V)} (ok:HOk P w H h) (e:H a=some (.dT kvs)):kvs.length≤sizeLine∧(a == sysModules)=false ∧
    ∃ xs,KT H kvs xs∧h.DictOfH (tupleKind (jBe P w)) a xs:=jKl ok (.inl e)
end
noncomputable def jBM (H:Hp) (a:Addr) (y:V) (r:Option V):Prop :=
  (∃ kvs k,Rd H a (.dK kvs)∧y=kV k∧r=jCJ kvs k)∨∃ kvs k b,Rd H a (.dT kvs)∧y=.ref b∧H b=some (.tup (k.map kV))∧r=jCJ kvs k
noncomputable def jDy (H:Hp) (a:Addr) (y v:V) (H':Hp):Prop :=
  (∃ kvs k,H a=some (.dK kvs)∧y=kV k∧kvs.length < sizeLine∧H'=upd H a (.dK (jCK kvs k v))) ∨
  ∃ kvs k b,H a=some (.dT kvs)∧y=.ref b∧H b=some (.tup (k.map kV))∧kvs.length < sizeLine∧H'=upd H a (.dT (jCK kvs k v))
theorem jBM.k {H:Hp} {a:Addr} {kvs:List (Key×V)} {k:Key} (e:H a=some (.dK kvs)):jBM H a (kV k) (jCJ kvs k):=.inl ⟨kvs,k,.inl e,rfl,rfl⟩
theorem jDy.k {H:Hp} {a:Addr} {kvs:List (Key×V)} {k:Key} {v:V} (e:H a=some (.dK kvs)) (hl:kvs.length < sizeLine):jDy H a (kV k) v (upd H a (.dK (jCK kvs k v))):=.inl ⟨kvs,k,e,rfl,hl,rfl⟩
section
variable {X:Cx} {pins:List (Addr×Obj)} {σ:St} {H:Hp} {s:Shared} {a:Addr} {y v:V} {u r:Value} {o:Option V} {A:Around} {E:Value→Shared→Prop}
theorem Inv.big (I:Inv X pins σ H s):sysModules < s.heap.objs.size:=by
  have h:mainGlobals < s.heap.objs.size:=(I.mod.glob.keeps I.bk).lt
  exact Nat.lt_trans (by decide) h
theorem jJI {Q:Value→Shared→Prop} (hu:A.units + 1 < cLine) (I:Inv X pins σ H s) (g:jBM H a y (some v)) (ry:jAB y u) (h:∀ w' s',Inv X pins σ H s'→jAB v w'→Q w' s') :
    wpAny (model X.prog X.w) A (getItem (.ref a) u) Q E s:=by
  rcases g with ⟨kvs,k,e,ey,l⟩ | ⟨kvs,k,b,e,ey,eb,l⟩
  · subst ey
    obtain ⟨z,hd,vs,rel,dd⟩:=jIh I.hok e
    obtain ⟨w',hw,rw'⟩:=jCp.some_of (v:=v) (o:=valueAt vs k) (by rw [l];exact rel.val k)
    exact wpAny_getItem_of (jHq ry) dd.mapOf hw (h w' _ (I.tok _) rw')
  · subst ey
    cases (show u=Value.ref b from ry)
    obtain ⟨z,hd,xs,rel,dd⟩:=jKl I.hok e
    obtain ⟨w',hw,rw'⟩:=jCp.some_of (v:=v) (o:=(atKey xs k).map (·.2)) (by rw [l];exact rel.val k)
    obtain ⟨p,hp,hp2⟩:=Option.map_eq_some_iff.mp hw
    refine wpAny_getItem_heap (tupleKind_room_in1 hu) (jIi I.hok eb) dd hp ?_
    rw [hp2]
    exact h w' _ (I.tok _) rw'
theorem d_notIn {Q:Value→Shared→Prop} (hu:A.units + 1 < cLine) (I:Inv X pins σ H s) (g:jBM H a y o) (ry:jAB y u) (h:∀ s',Inv X pins σ H s'→Q (.bool (!o.isSome)) s') :
    wpAny (model X.prog X.w) A (compareOp .NotIn u (.ref a)) Q E s:=by
  rcases g with ⟨kvs,k,e,ey,l⟩ | ⟨kvs,k,b,e,ey,eb,l⟩
  · subst ey
    obtain ⟨z,hd,vs,rel,dd⟩:=jIh I.hok e
    refine wpAny_notIn_of (jHq ry) hd dd.mapOf ?_
    rw [← (rel.val k).isSome_eq,← l]
    exact h _ (I.tok _)
  · subst ey
    cases (show u=Value.ref b from ry)
    obtain ⟨z,hd,xs,rel,dd⟩:=jKl I.hok e
    refine wpAny_notIn_heap (tupleKind_room_in1 hu) (jIi I.hok eb) hd dd ?_
    have q:=(rel.val k).isSome_eq
    rw [Option.isSome_map] at q
    rw [← q,← l]
    exact h _ (I.tok _)
theorem jHr {h':Heap} {t':Nat} {ob:HO} (I:Inv X pins σ H s) (mu:Mut (H a)) (hs:Heap.SameBut a s.heap h') (he:∃ q,h'.get? a=some q) (new:jA3 X.prog X.w (upd H a ob) h' a ob) :
    Inv X pins σ (upd H a ob) { s with heap:=h',toks:=t' } :=
  I.write (x:=a) (e:=a) mu (.inl rfl) (fun b q hb z=>(hs.2 b hb).trans z) he new
theorem jG4 {P:Program} {w:World} {H':Hp} {h':Heap} {kvs:List (Key×V)} {vs:List (Key×Value)} (z:kvs.length≤sizeLine) (hd:(a == sysModules)=false) (rel:KV kvs vs) (dd:h'.DictOf (jBe P w) a vs) :
    jA3 P w H' h' a (.dK kvs):=⟨z,hd,vs,rel,dd⟩
theorem jJJ {H':Hp} {Q:Unit→Shared→Prop} (hu:A.units + 1 < cLine) (I:Inv X pins σ H s) (g:jDy H a y v H') (ry:jAB y u) (rv:jAB v r) (h:∀ s',Inv X pins σ H' s'→Q () s') :
    wpAny (model X.prog X.w) A (setItem (.ref a) u r) Q E s:=by
  rcases g with ⟨kvs,k,e,ey,l,eH⟩ | ⟨kvs,k,b,e,ey,eb,l,eH⟩
  · subst ey eH
    obtain ⟨z,hd,vs,rel,dd⟩:=jKk I.hok e
    have hz:vs.length≤sizeLine:=by rw [← rel.length];exact z
    have hl:(jCK kvs k v).length≤sizeLine:=by have:=jGj kvs k v;omega
    refine wpAny_setItem_pairs (hsz:=hz) (jHq ry) dd fun h' dd' hs=>h _ ?_
    have he:∃ q,h'.get? a=some q:=let ⟨q,_,_,hq,_⟩:=dd';⟨q,hq⟩
    exact jHr I (by rw [e];exact True.intro) hs he (jG4 hl hd (rel.put k rv) dd')
  · subst ey eH
    cases (show u=Value.ref b from ry)
    obtain ⟨z,hd,xs,rel,dd⟩:=dt_of I.hok e
    have hz:xs.length≤sizeLine:=by rw [← Paired.length rel];exact z
    have hl:(jCK kvs k v).length≤sizeLine:=by have:=jGj kvs k v;omega
    refine wpAny_setItem_heap (hsz:=hz) (tupleKind_room_in1 hu) (jIi I.hok eb) dd fun h' dd' hs=>h _ ?_
    obtain ⟨q,es,ep,hq,h2,h3,h4,_,h5⟩:=dd'
    refine jHr I (by rw [e];exact True.intro) hs ⟨q,hq⟩ ⟨hl,hd,_,(rel.put k eb rv).keeps fun c ys ec=>?_,q,es,ep,hq,h2,h3,h4,h5⟩
    rw [jAi (jAD ec e (fun z=>nomatch z))]
    exact ec
end
section
variable {X:Cx} {pins:List (Addr×Obj)} {σ:St} {H:Hp} {s:Shared} {a:Addr} {kvs:List (Key×V)} {k:Key} {u:Value} {A:Around} {E:Value→Shared→Prop}
end
noncomputable def NoSl (i:Expr):Prop:=∀ ov iv,subscripted i false ov iv=operate [ov,iv] (getItem ov iv)
theorem subD_of {prog:Program} {w:World} {A:Around} {E:Value→Shared→Prop} {s:Shared} {env:Env} {value slice:Expr} {pos:Pos} {T id:String} {Q:Value→Shared→Prop}
    (hl:typeLookup (.type T) "__getitem__"=pure (some (.builtin id))) (hs:NoSl slice)
    (h:wpAny (model prog w) A (eval value env) (fun o s₁=>wpAny (model prog w) A (eval slice env) (fun i s₂=>s₂.TypeIs o T∧wpAny (model prog w) A (getItem o i) Q E s₂) E s₁) E s) :
    wpAny (model prog w) A (eval (.Subscript value slice pos) env) Q E s:=by
  refine Subscript_ (wpAny_mono h (fun o s₁ h₁=>wpAny_mono h₁ (fun i s₂ h₂=>?_) fun _ _ x=>x) fun _ _ x=>x)
  obtain ⟨hT,h₂⟩:=h₂
  unfold subscriptTail
  refine wpAny_bind ?_
  rw [getitemInPython_of_ne hT.not_modules]
  refine wpAny_bind (wpAny_specialOf hT hl ?_)
  have fin:wpAny (model prog w) A (subscripted slice false o i) (fun r s₃=>wpAny (model prog w) A (letTemporaryGo value o r >>= fun _=>pure r) Q E s₃) E s₂:=by
    rw [hs o i]
    exact wpAny_operating (wpAny_mono h₂ (fun r s₃ h₃=>wpAny_bind (wpAny_letTemporaryGo (wpAny_pure h₃))) fun _ _ x=>x)
  first
    | exact wpAny_pure (wpAny_bind fin)
    | exact wpAny_bind (wpAny_pure (wpAny_bind fin))
    | exact wpAny_bind fin
theorem jLq {X:Cx} {pins:List (Addr×Obj)} {σ:St} {H:Hp} {s:Shared} {a:Addr} {y:V} {o:Option V} (I:Inv X pins σ H s) (g:jBM H a y o):s.TypeIs (.ref a) "dict":=by
  rcases g with ⟨kvs,k,e,_,_⟩ | ⟨kvs,k,b,e,_,_,_⟩
  · obtain ⟨_,_,vs,_,dd⟩:=jIh I.hok e
    exact dd.typeIs
  · obtain ⟨_,_,xs,_,dd⟩:=jKl I.hok e
    exact dd.typeIs
noncomputable def tDGet (td ty:TE):TE:=fun σ H Q=>td σ H fun x H1=>ty σ H1 fun y H2=>∃ a v,x=.ref a∧jBM H2 a y (some v)∧Q v H2
noncomputable def tDIn (ty td:TE):TE:=fun σ H Q=>ty σ H fun y H1=>td σ H1 fun x H2=>∃ a o,x=.ref a∧jBM H2 a y o∧Q (.bl o.isSome) H2
noncomputable def tDNotIn (ty td:TE):TE:=fun σ H Q=>ty σ H fun y H1=>td σ H1 fun x H2=>∃ a o,x=.ref a∧jBM H2 a y o∧Q (.bl (!o.isSome)) H2
noncomputable def sDPut (td ty tv:TE):TS:=fun D σ H=>tv σ H fun v H1=>td σ H1 fun x H2=>ty σ H2 fun y H3=>∃ a H4,x=.ref a∧jDy H3 a y v H4∧D.nx σ H4
noncomputable def sDAug (td ty tv:TE) (rd:V→V→Hp→VK→Prop):TS:=fun D σ H=>td σ H fun x H1=>ty σ H1 fun y H2=>∃ a v,x=.ref a∧jBM H2 a y (some v) ∧
  tv σ H2 fun y2 H3=>rd v y2 H3 fun z H4=>∃ H5,jDy H4 a y z H5∧D.nx σ H5
noncomputable def sDDel (td ty:TE):TS:=fun D σ H=>td σ H fun x H1=>ty σ H1 fun y H2=>∃ a kvs k,x=.ref a∧H2 a=some (.dK kvs)∧y=kV k∧(jCJ kvs k).isSome=true∧D.nx σ (upd H2 a (.dK (dropK kvs k)))
section
variable {X:Cx} {o i e value:Expr} {pos pos' tpos:Pos} {td ty tv:TE}
theorem jAK (hu:X.A.units + 1 < cLine) (ho:PE X o td) (hi:PE X i ty) (hs:NoSl i):PE X (.Subscript o i pos) (tDGet td ty):=by
  intro pins s σ H Q I h
  refine subD_of PySem.F.slot_dict_getitem.lookup hs (thn (ho pins s σ H _ I h) fun u s1 ⟨x,H1,I1,rx,q1⟩=>thn (hi pins s1 σ H1 _ I1 q1) fun iv s2 ⟨y,H2,I2,ry,a,v,ex,g,q2⟩=>?_)
  subst ex
  obtain rfl:u=Value.ref a:=rx
  exact ⟨jLq I2 g,jJI hu I2 g ry fun w' s3 I3 rw'=>⟨v,H2,I3,rw',q2⟩⟩
theorem jMM (hu:X.A.units + 1 < cLine) (hi:PE X i ty) (ho:PE X o td):PC X .NotIn i o (tDNotIn ty td):=by
  intro pins s σ H Q I h
  refine thn (hi pins s σ H _ I h) fun iv s1 ⟨y,H1,I1,ry,q1⟩=>thn (ho pins s1 σ H1 _ I1 q1) fun u s2 ⟨x,H2,I2,rx,a,ov,ex,g,q2⟩=>?_
  subst ex
  obtain rfl:u=Value.ref a:=rx
  exact d_notIn hu I2 g ry fun s3 I3=>⟨.bl (!ov.isSome),H2,I3,rfl,q2⟩
theorem jCP (hu:X.A.units + 1 < cLine) (ho:PE X o td) (hi:PE X i ty) (hv:PE X value tv) (hs:swapsWith value (some (.Subscript o i pos')) pos.line X.env=pure false) :
    PS X (.Assign [.Subscript o i pos'] value pos) (sDPut td ty tv):=by
  intro pins s σ H D I h
  refine wpAny_Assign_Subscript (thn (hv pins s σ H _ I h) fun r s1 ⟨v,H1,I1,rv,q1⟩=>thn (ho pins s1 σ H1 _ I1 q1) fun u s2 ⟨x,H2,I2,rx,q2⟩=>thn (hi pins s2 σ H2 _ I2 q2) fun iv s3 ⟨y,H3,I3,ry,a,H4,ex,g,q3⟩=>?_) hs
  subst ex
  obtain rfl:u=Value.ref a:=rx
  exact jJJ hu I3 g ry rv fun s4 I4=>⟨σ,H4,I4,q3⟩
theorem jLV {op:Operator} {rd:V→V→Hp→VK→Prop} (hu:X.A.units + 1 < cLine) (ho:PE X o td) (hi:PE X i ty) (hv:PE X value tv) (hop:InOp X op rd)
    (ha:∀ ov iv new,augStore i ov iv new=(do holding [new,ov,iv] (setItem ov iv new);release [new,ov,iv] [];pure .next)):PS X (.AugAssign (.Subscript o i tpos) op value pos) (sDAug td ty tv rd):=by
  intro pins s σ H D I h
  refine wpAny_AugAssign_SubscriptAny (thn (ho pins s σ H _ I h) fun u s1 ⟨x,H1,I1,rx,q1⟩=>thn (hi pins s1 σ H1 _ I1 q1) fun iv s2 ⟨y,H2,I2,ry,a,v,ex,g,q2⟩=>?_) ha
  subst ex
  obtain rfl:u=Value.ref a:=rx
  refine jJI hu I2 g ry fun w' s3 I3 rw'=>thn (hv pins s3 σ H2 _ I3 q2) fun w2 s4 ⟨y2,H3,I4,ry2,q3⟩=>thn (hop pins s4 σ H3 v y2 w' w2 _ I4 rw' ry2 q3) fun w3 s5 ⟨z,H4,I5,rz,H5,g5,q4⟩=>?_
  exact jJJ hu I5 g5 ry rz fun s6 I6=>⟨σ,H5,I6,q4⟩
end
theorem jNq {P:Program} {w:World} {H:Hp} (h:Heap) (hb:sysModules < h.objs.size):jA3 P w H (h.push { cls:=.type "dict",data:=.dict #[] }) h.objs.size (.dK []) :=
  ⟨Nat.zero_le _,beq_eq_false_iff_ne.mpr (Ne.symm (Nat.ne_of_lt hb)),[],.nil,Heap.DictOf.new h⟩
noncomputable def tDNewK:TE:=fun _ H Q=>∀ p,H p=none→Q (.ref p) (upd H p (.dK []))
noncomputable def tDNewT:TE:=fun _ H Q=>∀ p,H p=none→Q (.ref p) (upd H p (.dT []))
section
variable {X:Cx} {pos:Pos}
end
noncomputable def jKA:List (TE×TE)→St→Hp→(List (V×V)→Hp→Prop)→Prop
  | [],_,H,Q=>Q [] H
  | (tk,tv) :: r,σ,H,Q=>tk σ H fun x H1=>tv σ H1 fun y H2=>jKA r σ H2 fun ps H3=>Q ((x,y) :: ps) H3
noncomputable abbrev VV:List (V×V)→List (Value×Value)→Prop:=Paired fun p q=>jAB p.1 q.1∧jAB p.2 q.2
noncomputable def PPs (X:Cx) (pos:Pos) (keys:List (Option Expr)) (values:List Expr) (trs:List (TE×TE)):Prop :=
  ∀ (pins:List (Addr×Obj)) (s:Shared) (σ:St) (H:Hp) (Q:List (V×V)→Hp→Prop),Inv X pins σ H s→jKA trs σ H Q →
    wpAny (model X.prog X.w) X.A (evalPairs (pairTrees keys values X.env pos)) (fun vs s'=>∃ ps H',Inv X pins σ H' s'∧VV ps vs∧Q ps H') X.xe s
theorem jHs {X:Cx} {pos:Pos}:PPs X pos [] [] []:=fun pins s σ H Q I h=>pairTrees_nil_walk ⟨[],H,I,.nil,h⟩
theorem jBu {X:Cx} {pos:Pos} {k v:Expr} {ks:List (Option Expr)} {vs:List Expr} {tk tv:TE} {trs:List (TE×TE)} (hk:PE X k tk) (hv:PE X v tv) (hr:PPs X pos ks vs trs) :
    PPs X pos (some k :: ks) (v :: vs) ((tk,tv) :: trs):=fun pins s σ H Q I h =>
  pairTrees_cons_walk (thn (hk pins s σ H _ I h) fun u s1 ⟨x,H1,I1,rx,q1⟩=>thn (hv pins s1 σ H1 _ I1 q1) fun w2 s2 ⟨y,H2,I2,ry,q2⟩ =>
    thn (hr pins s2 σ H2 _ I2 q2) fun ws s3 ⟨ps,H3,I3,rel,q3⟩=>⟨(x,y) :: ps,H3,I3,.cons ⟨rx,ry⟩ rel,q3⟩)
noncomputable def jC_ (kvs more:List (Key×V)):List (Key×V):=more.foldl (fun acc kv=>jCK acc kv.1 kv.2) kvs
theorem KV.merge:∀ {more:List (Key×V)} {rs:List (Key×Value)} {kvs:List (Key×V)} {vs:List (Key×Value)},KV more rs→KV kvs vs→KV (jC_ kvs more) (merged vs rs):=by
  intro more rs kvs vs r
  unfold KV at r
  induction r generalizing kvs vs with
  | nil=>intro q;exact q
  | @cons p q ps qs h t ih =>
    intro r0
    have e:KV (jCK kvs p.1 p.2) (stored vs q.1 q.2):=by
      have:=r0.put p.1 h.2
      rw [← h.1];exact this
    exact ih e
theorem jFf:∀ (more kvs:List (Key×V)),(jC_ kvs more).length≤kvs.length + more.length
  | [],kvs=>by show kvs.length≤kvs.length + 0;omega
  | p :: r,kvs=>by
    have h1:=jFf r (jCK kvs p.1 p.2)
    have h2:=jGj kvs p.1 p.2
    show (jC_ (jCK kvs p.1 p.2) r).length≤_
    rw [List.length_cons];omega
theorem jIj {P:Program} {w:World}:∀ {kvs:List (Key×V)} {ws:List (Value×Value)},VV (kvs.map fun kv=>(kV kv.1,kv.2)) ws→∃ rs,Carries (jBe P w) ws rs∧KV kvs rs
  | [],_,r=>by rw [List.map_nil] at r;cases r;exact ⟨[],True.intro,.nil⟩
  | p :: kvs,_,r=>by
    rw [List.map_cons] at r
    cases r with
    | @cons a b as bs h t =>
      obtain ⟨rs,c,q⟩:=jIj (P:=P) (w:=w) t
      obtain ⟨b1,b2⟩:=b
      exact ⟨(p.1,b2) :: rs,⟨jHq h.1,rfl,c⟩,.cons ⟨rfl,h.2⟩ q⟩
noncomputable def tDisp (trs:List (TE×TE)):TE:=fun σ H Q=>∀ p,H p=none→jKA trs σ (upd H p (.dK [])) fun ps H2=>H2 p=some (.dK [])∧∃ kvs:List (Key×V),ps=kvs.map (fun kv=>(kV kv.1,kv.2))∧kvs.length≤15∧Q (.ref p) (upd H2 p (.dK (jC_ [] kvs)))
theorem jHt {X:Cx} {pos:Pos} {keys:List (Option Expr)} {values:List Expr} {trs:List (TE×TE)} (h:PPs X pos keys values trs) (hall:keys.all (·.isSome)=true) (hl:keys.length=values.length) (h0:keys≠[])
    (h15:keys.length≤15):PE X (.Dict keys values pos) (tDisp trs):=by
  intro pins s σ H Q I q
  have hn:=I.hok.fresh (Nat.le_refl s.heap.objs.size)
  have I1:=I.laid (a:=s.heap.objs.size) (o:=.dK []) (h':=s.heap.push { cls:=.type "dict",data:=.dict #[] }) (t':=s.toks) (fun _ _ q=>Heap.get?_push_of_some _ q) (Nat.le_refl _) (jNq s.heap I.big)
  refine wpAny_Dict_walk (knd:=jBe X.prog X.w) hall hl h0 h15 (thn (h pins _ σ _ _ I1 (q _ hn)) fun ws s2 ⟨ps,H2,I2,rel,e,kvs,ep,lk,q2⟩=>?_)
  subst ep
  obtain ⟨rs,c,rk⟩:=jIj (P:=X.prog) (w:=X.w) rel
  obtain ⟨z,hd,vs0,r0,dd⟩:=jKk I2.hok e
  cases r0
  refine ⟨rs,c,dd,fun h' dd' hs=>⟨.ref s.heap.objs.size,_,?_,rfl,q2⟩⟩
  have hz:(jC_ [] kvs).length≤sizeLine:=by
    have h1:=jFf kvs []
    rw [List.length_nil] at h1
    rw [sizeLine_eq];omega
  have he:∃ q,h'.get? s.heap.objs.size=some q:=let ⟨q,_,_,hq,_⟩:=dd';⟨q,hq⟩
  exact jHr I2 (by rw [e];exact True.intro) hs he (jG4 hz hd (rk.merge .nil) dd')
structure M1 (X:Cx) (o:Expr) (m:Str) (apos:Pos) (e:Expr) (cpos:Pos):Prop where
  base:attributeBase o m X.env (eval o X.env)=eval o X.env
  few:((backTo cpos (starEach [e] X.env)).all (fun x=>!x.1) && (backToKw cpos (keywordEach [] X.env)).all (fun x=>x.1.isSome)
    && decide (([e]:List Expr).length + ([]:List Keyword).length + (if ([]:List Keyword).isEmpty then 0 else 1) < 30))=true
  line:(apos.endLine == cpos.line)=true
  trees:backTo cpos (starEach [e] X.env)=[(false,eval e X.env)]
structure M2 (X:Cx) (o:Expr) (m:Str) (apos:Pos) (e f:Expr) (cpos:Pos):Prop where
  base:attributeBase o m X.env (eval o X.env)=eval o X.env
  few:((backTo cpos (starEach [e,f] X.env)).all (fun x=>!x.1) && (backToKw cpos (keywordEach [] X.env)).all (fun x=>x.1.isSome)
    && decide (([e,f]:List Expr).length + ([]:List Keyword).length + (if ([]:List Keyword).isEmpty then 0 else 1) < 30))=true
  line:(apos.endLine == cpos.line)=true
  trees:backTo cpos (starEach [e,f] X.env)=[(false,eval e X.env),(false,eval f X.env)]
noncomputable def IsD (H:Hp) (a:Addr):Prop:=(∃ kvs,Rd H a (.dK kvs))∨∃ kvs,Rd H a (.dT kvs)
section
variable {X:Cx} {pins:List (Addr×Obj)} {σ:St} {H:Hp} {s:Shared} {a:Addr} {y d:V} {u r:Value} {o:Option V} {A:Around} {E:Value→Shared→Prop}
end
noncomputable def tDGet1 (td ty:TE):TE:=fun σ H Q=>td σ H fun x H1=>∃ a,x=.ref a∧IsD H1 a∧ty σ H1 fun y H2=>∃ o,jBM H2 a y o∧Q (o.getD .non) H2
noncomputable def tDGet2 (td ty tx:TE):TE:=fun σ H Q=>td σ H fun x H1=>∃ a,x=.ref a∧IsD H1 a∧ty σ H1 fun y H2=>tx σ H2 fun z H3=>∃ o,jBM H3 a y o∧Q (o.getD z) H3
noncomputable def tDPop1 (td ty:TE):TE:=fun σ H Q=>td σ H fun x H1=>∃ a,x=.ref a∧IsD H1 a∧ty σ H1 fun y H2=>∃ kvs k v,H2 a=some (.dK kvs)∧y=kV k∧jCJ kvs k=some v∧Q v (upd H2 a (.dK (dropK kvs k)))
noncomputable def tDPop2 (td ty tx:TE):TE:=fun σ H Q=>td σ H fun x H1=>∃ a,x=.ref a∧IsD H1 a∧ty σ H1 fun y H2=>tx σ H2 fun z H3=>∃ kvs k,H3 a=some (.dK kvs)∧y=kV k ∧
  (∀ v,jCJ kvs k=some v→Q v (upd H3 a (.dK (dropK kvs k))))∧(jCJ kvs k=none→Q z H3)
section
variable {X:Cx} {o e f:Expr} {apos cpos:Pos} {td ty tx:TE}
end
section
variable {X:Cx} {pins:List (Addr×Obj)} {σ:St} {H:Hp} {s:Shared} {a:Addr} {kvs:List (Key×V)} {A:Around} {E:Value→Shared→Prop}
theorem jNr {Q:Value→Shared→Prop} (I:Inv X pins σ H s) (e:Rd H a (.dK kvs)) (h:∀ p s',H p=none→Inv X pins σ (upd H p (.dK kvs)) s'→Q (.ref p) s'):wpAny (model X.prog X.w) A (call (.type "dict") [.ref a]) Q E s:=by
  obtain ⟨z,hd,vs,rel,dd⟩:=jIh I.hok e
  refine kt_call_dict hd dd (by rw [← rel.length];exact z) fun h' dd' hs=>?_
  refine h _ _ (I.hok.fresh (Nat.le_refl _)) (I.laid (a:=s.heap.objs.size) (o:=.dK kvs) (t':=s.toks) (fun b q hq=>?_) (Nat.le_refl _) (jG4 z (beq_eq_false_iff_ne.mpr (Ne.symm (Nat.ne_of_lt I.big))) rel dd'))
  exact (hs.2 b (Nat.ne_of_lt (Heap.lt_size hq))).trans (Heap.get?_push_of_some _ hq)
end
section
variable {X:Cx} {pins:List (Addr×Obj)} {σ:St} {H:Hp} {s:Shared} {a:Addr} {y:V} {u:Value} {A:Around} {E:Value→Shared→Prop}
end
end L2
namespace L2
open PySem PySem.Spec PyProof.Rows
section
variable {X:Cx}
end
section
variable {κ:Type} [DecidableEq κ]
end
end L2
namespace Blk
open PySem
noncomputable def J:List (List Nat)→List Nat
  | []=>[]
  | [x]=>x
  | x :: y :: r=>x ++ 32 :: J (y :: r)
noncomputable def C:List Nat→List (List Nat)
  | []=>[[]]
  | c :: r=>if c=32 then [] :: C r else match C r with
    | []=>[[c]]
    | p :: ps=>(c :: p) :: ps
noncomputable def sg (x:Str):List Nat:=x.cps.toList
theorem sg_inj {x y:Str} (h:sg x=sg y):x=y:=by
  obtain ⟨a⟩:=x
  obtain ⟨b⟩:=y
  have e:a.toList=b.toList:=h
  rw [Array.toList_inj.mp e]
theorem sg_app (x y:Str):sg (x ++ y)=sg x ++ sg y:=Array.toList_append ..
structure Parts (pre:List Nat) (ws:List Str) (w:Str):Prop where
  free:∀ p∈ws ++ [w],32 ∉ sg p
  join:((ws.map sg).map (· ++ [32])).flatten ++ sg w=pre
  many:ws.length≤pre.length
  len:w.length≤pre.length
end Blk
namespace L2
open PySem PySem.Spec PyProof.Rows
theorem small {n:Nat} (h:n≤1000):n≤sizeLine:=Nat.le_of_lt (jBb h)
theorem jMg (z:Str):z.cps.toList.length=z.length:=by simp [Str.length]
theorem at_in {α:Type} {xs:List α} {i:Int} (h0:0≤i) (h1:i < (xs.length:Int)):∃ v,xs[i.toNat]?=some v∧atI xs i=some v:=by
  have hk:i.toNat < xs.length:=by omega
  have q:atI xs ((i.toNat:Nat):Int)=some xs[i.toNat]:=jAC (List.getElem?_eq_getElem hk)
  have e:((i.toNat:Nat):Int)=i:=by omega
  rw [e] at q
  exact ⟨_,List.getElem?_eq_getElem hk,q⟩
theorem jLW:bootBuiltins "list"=some (.type "list"):=by decide +kernel
theorem jMN:bootBuiltins "str"=some (.type "str"):=by decide +kernel
theorem jLX:bootBuiltins "bool"=some (.type "bool"):=by decide +kernel
theorem jKB:bootBuiltins "int"=some (.type "int"):=by decide +kernel
theorem jE8:bootBuiltins "isinstance"=some (.builtin "isinstance"):=by decide +kernel
theorem jMO:bootBuiltins "max"=some (.builtin "max"):=by decide +kernel
theorem jGI:bootBuiltins "tuple"=some (.type "tuple"):=by decide +kernel
theorem jE9 (n:String):jAB (.ty n) (.type n):=rfl
theorem rel_str (x:Str) (t:Tok):jAB (.str x) (.str x t):=⟨t,rfl⟩
theorem rel_int (x:Int) (t:Tok):jAB (.int x) (.int x t):=⟨t,rfl⟩
noncomputable def Itx (z:Str):It:=⟨fun i _=>i < z.cps.size,fun i H x H'=>H'=H∧∃ c,z.cps[i]?=some c∧x=.str ⟨#[c]⟩,fun i _=>i=z.cps.size⟩
section
variable {X:Cx} {tg:Expr}
noncomputable def iStr (tl:TE):TI:=fun σ H R=>tl σ H fun x H1=>∃ z,x=.str z∧R (Itx z) H1
end
section
variable {X:Cx}
noncomputable def rIxSA:R2:=fun x y H Q=>∃ z i,x=.str z∧y=.int i∧z.length≤sizeLine∧0≤i∧i < ((z.length:Nat):Int)∧∀ c,z.cps.toList[i.toNat]?=some c→Q (.str ⟨#[c]⟩) H
theorem ix_strA:IxR X rIxSA:=by
  intro value slice pins s σ H x y v u Q I rx ry h hs
  obtain ⟨z,i,rfl,rfl,hz,h0,h1,q⟩:=h
  obtain ⟨c,e1,e2⟩:=at_in (xs:=z.cps.toList) h0 (by rw [jMg];exact h1)
  exact ix_str value slice pins s σ H _ _ v u Q I rx ry ⟨z,i,c,rfl,rfl,hz,e2,q c e1⟩ hs
noncomputable def rIsi (K:PySem.W.Frag):List V→Hp→VK→Prop:=fun xs H Q=>∃ x n t b,xs=[x,.ty n]∧jBU K H x t∧PySem.W.kitOne K t (.type n)=some b∧Q (.bl b) H
theorem jDz:CallR X (.builtin "isinstance") (rIsi X.K):=by
  intro pins s σ H xs us Q I r h
  obtain ⟨x,n,t,b,rfl,ty,e,q⟩:=h
  obtain ⟨u,w',rfl,r1,r2⟩:=vals2 r
  cases (show w'=Value.type n from r2)
  exact jME I r1 ty e fun tk=>⟨.bl b,H,I.tok tk,rfl,q⟩
theorem jEf {K:PySem.W.Frag} (n:String):PySem.W.kitOne K (.type n) (.type n)=some true:=by
  unfold PySem.W.kitOne
  rw [if_pos (beq_self_eq_true _)]
noncomputable def eqVs (xs ys:List V):Bool:=xs.length == ys.length && (List.range xs.length).all fun j=>eqV (xs.getD j .non) (ys.getD j .non)
theorem jEm {xs:List V} {us:List Value} (r:jAI xs us) (j:Nat) (h:j < us.toArray.size):jAB (xs.getD j .non) (us.toArray[j]):=by
  have hl:=r.length
  have h':j < us.length:=by simpa using h
  have h2:j < xs.length:=by omega
  obtain ⟨u,e1,e2⟩:=r.get (List.getElem?_eq_getElem h2)
  rw [List.getD_eq_getElem?_getD,List.getElem?_eq_getElem h2]
  have e3:us.toArray[j]=u:=by
    rw [List.getElem?_eq_getElem h'] at e1
    simpa using Option.some.inj e1
  rw [e3]
  exact e2
noncomputable def rEqL (K:PySem.W.Frag) (neg:Bool):R2:=fun x y H Q=>∃ p q xs ys,x=.ref p∧y=.ref q∧SqL K H p xs∧SqL K H q ys∧xs.all jBt=true∧ys.all jBt=true∧Q (.bl (if neg then !eqVs xs ys else eqVs xs ys)) H
theorem jKC {x:V} (f:jBt x=true):eqV x x=true:=by
  cases x with
  | non=>rfl
  | bl b=>exact beq_self_eq_true b
  | int i=>exact beq_self_eq_true i
  | str z=>exact beq_self_eq_true z
  | _=>exact absurd (show false=true from f) Bool.false_ne_true
noncomputable def rSplit:V→List V→Hp→VK→Prop:=fun x vs H Q=>∃ z y,x=.str z∧vs=[.str y]∧(y.length == 0)=false∧z.length + 2≤sizeLine∧∀ p,H p=none→Q (.ref p) (upd H p (.lst ((Txt.split z y).map V.str)))
end
theorem jAl {H:Hp} {p:Addr} (h:H p=none) (o:HO):jAr H (upd H p o):=fun b u q=>by rw [jAi (jAo q h)];exact q
theorem jEn {H H':Hp} {p:Addr} (h:H p=none) (e:jAr H H') (o:HO):jAr H (upd H' p o):=fun b u q=>by rw [jAi (jAo q h)];exact e b u q
end L2
namespace L2
open PySem PySem.Spec PyProof.Rows
noncomputable def jE_ (cells:List (Str×Addr)):List (Str×NameKind)→List (Str×Addr)→List (Str×Addr)
  | [],acc=>acc
  | (n,k) :: r,acc=>jE_ cells r (if (k == .free)=true then (n,(cells.lookup n).getD 0) :: acc else acc)
theorem jGW {scope:Scope} {env:Env} (h:∀ p∈scope.names,p.2=.free→(env.cells.lookup p.1).isSome=true):closureFor scope env=pure (jE_ env.cells scope.names []):=by
  obtain ⟨kd,names,g1,g2,more⟩:=scope
  simp only [closureFor]
  dsimp only at h ⊢
  generalize ([]:List (Str×Addr))=acc
  induction names generalizing acc with
  | nil=>rfl
  | cons p r ih =>
    obtain ⟨n,k⟩:=p
    have hr:∀ p∈r,p.2=.free→(env.cells.lookup p.1).isSome=true:=fun p hp=>h p (List.mem_cons_of_mem _ hp)
    have ih':=ih hr
    simp only [jE_]
    by_cases hk:k=.free
    · subst hk
      obtain ⟨c,hc⟩:=Option.isSome_iff_exists.mp (h (n,.free) List.mem_cons_self rfl)
      have hc':List.lookup n env.cells=some c:=hc
      rw [show (NameKind.free == NameKind.free)=true from rfl,if_pos rfl,hc']
      have e:cellOf env n=pure c:=by unfold cellOf;rw [hc']
      have q:=ih' ((n,c) :: acc)
      simp only [List.forIn_cons,beq_self_eq_true,if_true,e,pure_bind,Option.getD_some]
      exact q
    · have hb:(k == NameKind.free)=false:=by simpa using hk
      have q:=ih' acc
      simp only [List.forIn_cons,hb,Bool.false_eq_true,if_false,pure_bind]
      exact q
theorem jJK {cells:List (Str×Addr)} {y:Str} {c:Addr}:∀ (names:List (Str×NameKind)) (acc:List (Str×Addr)),(∀ p∈names,p.2=.free→(cells.lookup p.1).isSome=true) →
    (∀ y c,acc.lookup y=some c→cells.lookup y=some c)→(jE_ cells names acc).lookup y=some c→cells.lookup y=some c
  | [],_,_,ha,h=>ha _ _ h
  | (n,k) :: r,acc,hn,ha,h=>by
    refine jJK r _ (fun p hp=>hn p (List.mem_cons_of_mem _ hp)) (fun y c hy=>?_) h
    by_cases hk:(k == NameKind.free)=true
    · rw [if_pos hk] at hy
      rw [List.lookup_cons] at hy
      by_cases e:(y == n)=true
      · rw [e] at hy
        obtain ⟨d,hd⟩:=Option.isSome_iff_exists.mp (hn (n,k) List.mem_cons_self (by simpa using hk))
        have hd':cells.lookup n=some d:=hd
        have hy':(cells.lookup n).getD 0=c:=Option.some.inj hy
        rw [hd'] at hy'
        rw [eq_of_beq e,hd']
        exact congrArg some hy'
      · rw [Bool.eq_false_iff.mpr e] at hy
        exact ha y c hy
    · rw [if_neg hk] at hy
      exact ha y c hy
theorem jGJ {cells:List (Str×Addr)} {y:Str}:∀ (names:List (Str×NameKind)) (acc:List (Str×Addr)),((acc.lookup y).isSome=true∨(y,NameKind.free)∈names)→((jE_ cells names acc).lookup y).isSome=true
  | [],acc,h=>h.elim id (fun z=>by cases z)
  | (n,k) :: r,acc,h=>by
    refine jGJ r _ ?_
    rcases h with h | h
    · refine .inl ?_
      by_cases hk:(k == NameKind.free)=true
      · rw [if_pos hk,List.lookup_cons]
        by_cases e:(y == n)=true
        · rw [e];rfl
        · rw [Bool.eq_false_iff.mpr e];exact h
      · rw [if_neg hk];exact h
    · rcases List.mem_cons.mp h with e | h
      · cases e
        refine .inl ?_
        rw [if_pos (show (NameKind.free == NameKind.free)=true from rfl),List.lookup_cons,beq_self_eq_true]
        rfl
      · exact .inr h
noncomputable def jFG (X:Cx) (scope:Scope) (N':List Str) (C:Addr) (ex:List Addr) (s₂:Shared) (H₂:Hp):Cx where
  prog:=X.prog
  w:=X.w
  K:=X.K
  mg:=X.mg
  base:=X.base
  A:=X.A
  N:=N'
  s₀:=s₂
  H₀:=H₂
  env:=compEnvC scope (jE_ X.env.cells scope.names []) C X.env
  outer:=X.stack
  stack:=X.stack
  ex:=ex
  fn:=fun _=>false
  calm:=X.calm
  pn:=[]
  xe:=fun _ _=>False
noncomputable def jFA (X:Cx) (scope:Scope):List (Str×Nat)→Prop
  | []=>True
  | p :: r=>(X.N[p.2]?=some p.1∧X.env.kindOf p.1=some .cell∧(relabel scope X.env).names.lookup p.1=some .cell∧(p.1,NameKind.free)∈scope.names)∧jFA X scope r
theorem jFA.at {X:Cx} {scope:Scope}:∀ {fr:List (Str×Nat)},jFA X scope fr→∀ p∈fr,X.N[p.2]?=some p.1∧X.env.kindOf p.1=some .cell∧(relabel scope X.env).names.lookup p.1=some .cell∧(p.1,NameKind.free)∈scope.names
  | [],_,p,hp=>by cases hp
  | _ :: _,h,p,hp=>by
    rcases List.mem_cons.mp hp with e | hp
    · rw [e];exact h.1
    · exact jFA.at h.2 p hp
noncomputable def inSt (frees:List (Str×Nat)) (σ:St) (x:Option V):St:=x :: frees.map fun p=>(σ[p.2]?).join
noncomputable def PIfs (X:Cx) (ifs:List Expr) (t:TT):Prop :=
  ∀ (pins:List (Addr×Obj)) (s:Shared) (σ:St) (H:Hp) (Q:Bool→Hp→Prop),Inv X pins σ H s→t σ H Q →
    wpAny (model X.prog X.w) X.A (forIn ifs true fun c r=>if r=true then do let ok ← isTrue c X.env (eval c X.env);pure (ForInStep.yield ok) else pure (ForInStep.yield r)) (TP X pins σ Q) X.xe s
theorem jEg {X:Cx}:PIfs X [] (fun _ H Q=>Q true H):=fun _ _ _ H _ I h=>wpAny_tests_nil ⟨H,I,h⟩
theorem jHZ {X:Cx} {c:Expr} {t:TT} (h:PT X c t):PIfs X [c] t:=fun pins s σ H Q I hw=>wpAny_tests_one (h pins s σ H Q I hw)
noncomputable def jKm (J:It) (tc:TT) (te:TE) (σf:Option V→St) (H1:Hp) (Q:VK):Prop:=∀ D,H1 D=none →
  ∃ W:Nat→Nat→List V→Hp→Prop,(∃ m,W 0 m [] (upd H1 D (.lst [])))∧∀ i m ys H2,W i m ys H2→H2 D=some (.lst ys) ∧
    ((J.stop i H2∧Q (.ref D) H2)∨(J.go i H2∧ys.length < sizeLine∧∀ x H3,J.yld i H2 x H3→tc (σf (some x)) H3 fun b H4 =>
      if b=true then te (σf (some x)) H4 fun y H5=>H5 D=some (.lst ys)∧∃ m',m' < m∧W (i + 1) m' (ys ++ [y]) (upd H5 D (.lst (ys ++ [y]))) else ∃ m',m' < m∧W (i + 1) m' ys H4))
section
variable {prog:Program} {w:World} {A:Around} {R:Result→Shared→Prop} {s:Shared}
theorem jMP {elt target iter:Expr} {ifs:List Expr} {scope:Scope} {pos:Pos} {it acc:Value} {env:Env} (I:Nat→Shared→Prop)
    (turn:∀ n s,I n s→wpAny (model prog w) A (pyNext it) (fun r s₁=>match r with
      | none=>R (.ok .next) s₁
      | some v=>wpAny (model prog w) A (letOwnedTupleGo target it v) (fun _ s₁'=>wpAny (model prog w) A (assign target env v) (fun _ s₂ =>
          wpAny (model prog w) A (forIn ifs true fun c r=>if r=true then do let ok ← isTrue c env (eval c env);pure (ForInStep.yield ok) else pure (ForInStep.yield r)) (fun ok s₃ =>
            if ok=true then wpAny (model prog w) A (eval elt env) (fun x s₄ =>
              wpAny (model prog w) A (call (.builtin "list.append") [acc,x]) (fun _ s₅=>∃ m,m < n∧I m s₅) (fun _ _=>False) s₄) (fun _ _=>False) s₃
            else ∃ m,m < n∧I m s₃) (fun _ _=>False) s₂) (fun _ _=>False) s₁') (fun _ _=>False) s₁) (fun _ _=>False) s)
    (n:Nat) (h:I n s) :
    codeAny (model prog w) A (.compLoop (.ListComp elt [⟨target,iter,ifs,0⟩] scope pos) 0 it acc env) R s:=by
  have no:∀ {α:Type} {t:Sem α} {Q:α→Shared→Prop} {E:Value→Shared→Prop} {s:Shared},wpAny (model prog w) A t Q (fun _ _=>False) s→wpAny (model prog w) A t Q E s:=fun h=>wpAny_mono h (fun _ _ q=>q) fun _ _ f=>f.elim
  refine codeAny_loop rfl I (fun n s hI=>?_) n h
  show wpAny _ A ((compTurn (.ListComp elt [⟨target,iter,ifs,0⟩] scope pos) 0 it acc env).onRaise (fun x=>do noteFrame x env;theTreesLotGoes x)) _ _ s
  refine wpAny_noted ?_
  rw [compTurn_list]
  refine wpAny_bind (wpAny_standAt (wpAny_bind (wpAny_mono (turn n s hI) (fun r s₁ h₁=>?_) fun _ _ h'=>h'.elim)))
  cases r with
  | none=>exact wpAny_pure h₁
  | some v =>
    refine wpAny_bind (wpAny_mono h₁ (fun _ s₁' h₁'=>?_) fun _ _ h'=>h'.elim)
    refine wpAny_bind (wpAny_mono h₁' (fun _ s₂ h₂=>wpAny_bind (wpAny_mono h₂ (fun ok s₃ h₃=>?_) fun _ _ h'=>h'.elim)) fun _ _ h'=>h'.elim)
    cases ok with
    | false=>exact wpAny_pure ⟨rfl,h₃⟩
    | true =>
      exact wpAny_bind (wpAny_bind (wpAny_mono h₃ (fun x s₄ h₄=>wpAny_bind (wpAny_mono h₄ (fun _ s₅ h₅=>wpAny_pure (wpAny_pure ⟨rfl,h₅⟩)) fun _ _ h'=>h'.elim)) fun _ _ h'=>h'.elim))
end
section
variable {X:Cx} {elt iter:Expr} {x:Str} {px pos:Pos} {ifs:List Expr} {scope:Scope} {frees:List (Str×Nat)} {tc:TT} {te:TE}
structure jKD (X:Cx) (scope:Scope) (x:Str) (frees:List (Str×Nat)):Prop where
  cell:∀ y∈scope.names,y.2≠.cell
  kind:scope.kind=.function
  own:scope.names.lookup x=some .local
  names:∀ y∈scope.names,y.2=.local→scope.names.lookup y.1=some .local
  fr:jFA X scope frees
  nd:(x :: frees.map (·.1)).Nodup
  cl:∀ p∈scope.names,p.2=.free→(X.env.cells.lookup p.1).isSome=true
  calm:X.calm=true
theorem jKE {scope:Scope} {env:Env} {y:Str} (hc:∀ y∈scope.names,y.2≠.cell) (h:(relabel scope env).names.lookup y=some .cell∨(relabel scope env).names.lookup y=some .free):(y,NameKind.free)∈scope.names:=by
  have key:∀ k,(relabel scope env).names.lookup y=some k→k≠.local→k=.cell∨k=.free→(y,NameKind.free)∈scope.names:=fun k hk _ hkk=>by
    have hm:=PySem.mem_of_lookup hk
    obtain ⟨⟨n,k0⟩,hm0,e⟩:=List.mem_map.mp hm
    by_cases hcond:(k0 == NameKind.free && env.scope.kind == .function && env.kindOf n == some .cell)=true
    · have e':(n,NameKind.cell)=(y,k):=by rw [← e];exact (if_pos hcond).symm
      have hk0:k0=.free:=by
        rw [Bool.and_eq_true,Bool.and_eq_true] at hcond
        exact eq_of_beq hcond.1.1
      have en:n=y:=congrArg Prod.fst e'
      rw [← en,← hk0]
      exact hm0
    · have e':(n,k0)=(y,k):=by rw [← e];exact (if_neg hcond).symm
      have en:n=y:=congrArg Prod.fst e'
      have ek:k0=k:=congrArg Prod.snd e'
      rcases hkk with hkk | hkk
      · exact absurd (ek.trans hkk) (hc _ hm0)
      · rw [← en,← hkk,← ek]
        exact hm0
  rcases h with h | h
  · exact key _ h (by decide) (.inl rfl)
  · exact key _ h (by decide) (.inr rfl)
theorem jJL {pins:List (Addr×Obj)} {σ:St} {H1:Hp} {s₂:Shared} {it:Addr} {fp:List Addr} {tn:Nat→Heap→Prop} {J:It} {Q:VK} {RR:Value→Addr→Result→Shared→Prop} {E:Value→Shared→Prop}
    (O:jKD X scope x frees) (hc:∀ C ex s₂ H₂,PIfs (jFG X scope (x :: frees.map (·.1)) C ex s₂ H₂) ifs tc) (he:∀ C ex s₂ H₂,PE (jFG X scope (x :: frees.map (·.1)) C ex s₂ H₂) elt te)
    (I:Inv X pins σ H1 s₂) (T:Turn X.prog X.w X.K (.Name x px) J fp it tn) (st:tn 0 s₂.heap) (hf:∀ b∈fp,jGH X pins H1 b) (hB:jKm J tc te (inSt frees σ) H1 Q)
    (hRR:∀ D C H' s',Inv X pins σ H' s'→(∃ m,s'.heap.Ns C m)→jGH X pins H' C→Q (.ref D) H'→RR (.ref D) C (.ok .next) s') :
    wpAny (model X.prog X.w) X.A (newList []) (fun acc s₃=>wpAny (model X.prog X.w) X.A (newFunctionEnv scope X.env.globals (jE_ X.env.cells scope.names []) [] X.env.qual none .none (some X.env)) (fun cenv s₄ =>
      codeAny (model X.prog X.w) X.A (.compStart (.ListComp elt [⟨.Name x px,iter,ifs,0⟩] scope pos) 0 (.ref it) acc { cenv with scope:=relabel scope X.env }) (RR acc cenv.locals) s₄) E s₃) E s₂:=by
  refine wpAny_newObj_type (wpAny_newFunctionEnv O.cell (by intro y hy;simp at hy) (fun h₁ hns₁ hsb₁=>?_) O.kind)
  dsimp only at hns₁ hsb₁ ⊢
  generalize hH2:s₂.heap.push { cls:=.type "list",dict:=none,data:=.seq ([]:List Value).toArray }=H2 at hns₁ hsb₁ ⊢
  have hC:H2.objs.size=s₂.heap.objs.size + 1:=by rw [← hH2,Heap.size_push]
  have hDC:s₂.heap.objs.size≠H2.objs.size:=by rw [hC];exact Nat.ne_of_lt (Nat.lt_succ_self _)
  have hCle:s₂.heap.objs.size≤H2.objs.size:=by rw [hC];exact Nat.le_succ _
  have below:∀ b,b < s₂.heap.objs.size→b≠H2.objs.size∧b≠s₂.heap.objs.size:=fun b hb=>⟨by rw [hC];exact Nat.ne_of_lt (Nat.lt_succ_of_lt hb),Nat.ne_of_lt hb⟩
  have old:∀ b o,s₂.heap.get? b=some o→h₁.get? b=some o:=fun b o e=>hsb₁.extBut b o (below b (Heap.lt_size e)).1 (Heap.get?_push_of_some _ (hH2 ▸ Heap.get?_push_of_some _ e))
  have hacc:h₁.get? s₂.heap.objs.size=some { cls:=.type "list",data:=.seq ([]:List Value).toArray }:=hsb₁.extBut _ _ hDC (Heap.get?_push_of_some _ (hH2 ▸ Heap.get?_push_size _ rfl))
  have nD:H1 s₂.heap.objs.size=none:=I.hok.fresh (Nat.le_refl _)
  obtain ⟨W,⟨m0,w0⟩,hW⟩:=hB s₂.heap.objs.size nD
  -- the block's context and its first state
  let X':Cx:=jFG X scope (x :: frees.map (·.1)) H2.objs.size fp s₂ H1
  have inC:∀ y c,(jE_ X.env.cells scope.names []).lookup y=some c→X.env.cells.lookup y=some c:=fun y c h=>jJK scope.names [] O.cl (fun y c h=>by cases h) h
  have fpl:∀ b∈fp,b < s₂.heap.objs.size:=fun b hb=>by
    obtain ⟨o,e,_⟩:=T.obj _ _ st b hb
    exact Heap.lt_size e
  have ok':X'.Ok:=by
    refine ⟨I.ok.mod,O.kind,I.ok.glob,I.ok.blt,hCle,fun y z c h1 h2=>I.ok.inj y z c (inC y c h1) (inC z c h2),fun y hy=>?_,fun y c h _=>(by cases h),I.ok.hd,I.ok.frames,.inl rfl,fun b hb=>?_,I.bs,Nat.le_trans I.ok.bsz I.sz,fun b o e hb=>?_,fun b hb z=>?_,I.stack,I.stkFree⟩
    · exact Option.isSome_iff_exists.mp (jGJ scope.names [] (.inr (jKE O.cell hy)))
    · exact ⟨(below b (fpl b hb)).1,fun y c h=>(hf b hb).2.2.2.2.1 y c (inC y c h)⟩
    · rcases (hf b hb).2.2.2.1 with z | z
      · exact I.ok.noex b o e z
      · exact absurd (Nat.lt_of_lt_of_le (Nat.lt_of_lt_of_le (Heap.lt_size e) I.ok.bsz) z) (Nat.lt_irrefl _)
    · exact (List.mem_cons.mp (I.stkSub b z)).elim (hf b hb).2.1 (hf b hb).2.2.1
  have hok1:HOk X.prog X.w (upd H1 s₂.heap.objs.size (.lst [])) h₁:=I.hok.laid old (Nat.le_refl _) ⟨Nat.zero_le _,[],0,.nil,hacc⟩
  have I0:∀ tk,Inv X' [] (inSt frees σ none) (upd H1 s₂.heap.objs.size (.lst [])) { s₂ with heap:=h₁,toks:=tk }:=fun tk=>by
    refine ⟨ok',rfl,I.bare,Un.laid old (Nat.le_refl _) nD,⟨_,hns₁,fun i y v h1 h2 h3=>?_⟩,fun y c h=>?_,?_,fun y c h=>?_,fun p hp=>absurd (show p∈([]:List (Addr×Obj)) from hp) (by simp),hok1,?_⟩
    · cases i with
      | zero =>
        have h2':(none:Option V)=some v:=Option.some.inj h2
        cases h2'
      | succ j =>
        have h1':(frees.map (·.1))[j]?=some y:=h1
        have h2':(frees.map fun p=>(σ[p.2]?).join)[j]?=some (some v):=h2
        rw [List.getElem?_map] at h1' h2'
        cases e:frees[j]? with
        | none=>rw [e] at h1';cases h1'
        | some p =>
          rw [e] at h1' h2'
          have e1:p.1=y:=Option.some.inj h1'
          have e2:(σ[p.2]?).join=some v:=Option.some.inj h2'
          obtain ⟨g1,g2,g3,g4⟩:=O.fr.at p (List.mem_of_getElem? e)
          have e3:σ[p.2]?=some (some v):=by
            cases q:σ[p.2]? with
            | none=>rw [q] at e2;cases e2
            | some o=>rw [q] at e2;exact congrArg some e2
          obtain ⟨m,hn,hl⟩:=I.loc
          obtain ⟨u,r,l⟩:=hl p.2 p.1 v g1 e3 (.inr (.inl g2))
          refine ⟨u,r,?_⟩
          rcases l with ⟨k,_⟩ | ⟨_,c,hc1,hc2⟩
          · rw [g2] at k;cases k
          · obtain ⟨c2,hc3⟩:=Option.isSome_iff_exists.mp (jGJ (cells:=X.env.cells) scope.names [] (.inr g4))
            have hc4:=inC _ _ hc3
            rw [hc1] at hc4
            cases hc4
            rw [← e1]
            refine .inr ⟨.inl g3,c,hc3,?_⟩
            obtain ⟨o,ho,hd⟩:=hc2
            exact ⟨o,old c o ho,hd⟩
    · obtain ⟨v,o,ho,hd⟩:=I.cell y c (inC y c h)
      exact ⟨v,o,old c o ho,hd⟩
    · show upd H1 s₂.heap.objs.size (.lst []) H2.objs.size=none
      rw [jAi (Ne.symm hDC)]
      exact I.hok.fresh hCle
    · obtain ⟨v,o,ho,hd⟩:=I.cell y c (inC y c h)
      rw [jAi (below c (Heap.lt_size ho)).2]
      exact I.freeC y c (inC y c h)
    · show (inSt frees σ none).length=(x :: frees.map (·.1)).length
      simp [inSt]
  have stat:∀ {H':Hp},(∀ b∈fp,H' b=none)→∀ b∈fp,jGH X' [] H' b:=fun hn b hb =>
    ⟨hn b hb,(below b (fpl b hb)).1,fun z=>(List.mem_cons.mp (I.stkSub b z)).elim (hf b hb).2.1 (hf b hb).2.2.1,.inl hb,fun y c h=>(hf b hb).2.2.2.2.1 y c (inC y c h),fun p hp=>absurd (show p∈([]:List (Addr×Obj)) from hp) (by simp)⟩
  have hst₁:tn 0 h₁:=T.keep _ _ _ st fun b _ o e=>old b o e
  have fr0:∀ b∈fp,(upd H1 s₂.heap.objs.size (.lst [])) b=none:=fun b hb=>by
    rw [jAi (below b (fpl b hb)).2]
    exact (hf b hb).1
  have loop:∀ tk,codeAny (model X.prog X.w) X.A (.compLoop (.ListComp elt [⟨.Name x px,iter,ifs,0⟩] scope pos) 0 (.ref it) (.ref s₂.heap.objs.size) X'.env) (RR (.ref s₂.heap.objs.size) H2.objs.size) { s₂ with heap:=h₁,toks:=tk }:=fun tk=>by
    refine jMP (fun n s'=>∃ i ys o H',Inv X' [] (inSt frees σ o) H' s'∧tn i s'.heap∧(∀ b∈fp,H' b=none)∧W i n ys H') ?_ m0 ⟨0,[],none,_,I0 tk,hst₁,fr0,w0⟩
    rintro n s3 ⟨i,ys,o3,H3,I3,st3,fr3,w3⟩
    obtain ⟨hD3,alt⟩:=hW i n ys H3 w3
    rcases alt with ⟨stop,q⟩ | ⟨go,hlt,step⟩
    · refine thn (T.done X' rfl rfl rfl O.calm i [] s3 _ H3 _ I3 (stat fr3) st3 stop) fun r s4 ⟨hr,I4⟩=>?_
      subst hr
      have J4:Inv X pins σ H3 s4:=I.call' (ch:=fp) I4.os I4.base I4.hok I4.bare fun b hb=>⟨(hf b hb).2.2.2.1,(hf b hb).2.1,(hf b hb).2.2.2.2.1,(hf b hb).2.2.2.2.2⟩
      obtain ⟨m4,hn4,_⟩:=I4.loc
      exact hRR _ _ H3 s4 J4 ⟨m4,hn4⟩ (I.fpOk hCle I4.free) q
    · refine thn (T.item X' rfl rfl rfl O.calm i [] s3 _ H3 _ I3 (stat fr3) st3 go) fun r s4 ⟨u,hr,h4⟩=>?_
      subst hr
      refine thn h4 fun _ s5 ⟨v,H5,I5,r5,y5,st5,fr5⟩=>?_
      have I5':=I5.pinned (stat fr5) (T.obj _ _ st5)
      have tail:∀ {σ7:St} {H7:Hp} {s7:Shared},Inv X' ([] ++ jG1 fp s5.heap) σ7 H7 s7→Inv X' [] σ7 H7 s7∧tn (i + 1) s7.heap∧∀ b∈fp,H7 b=none:=fun {σ7 H7 s7} I7=>by
        refine ⟨I7.unpinned,T.keep _ _ _ st5 fun b hb o e=>(I7.pin (b,o) (List.mem_append_right _ (List.mem_append_right _ (jFl hb e)))).1,fun b hb=>?_⟩
        obtain ⟨o,e,d⟩:=T.obj _ _ st5 b hb
        exact (I7.pin (b,o) (List.mem_append_right _ (List.mem_append_right _ (jFl hb e)))).2.1
      have hg:PG X' (.Name x px) (jFk 0):=jBA O.nd rfl (Or.inl (lookup_relabel_local O.own)) (.inr (lookup_relabel_local O.own))
      refine thn (hg _ s5 _ H5 v u (fun σ6 H6=>σ6=inSt frees σ (some v)∧H6=H5) I5' r5 ⟨rfl,rfl⟩) fun _ s6 ⟨σ6,H6,I6,e6,e6'⟩=>?_
      subst e6 e6'
      refine thn (hc _ _ _ _ _ s6 _ _ _ I6 (step v _ y5)) fun b s7 ⟨H7,I7,q7⟩=>?_
      cases b with
      | false =>
        obtain ⟨m',hm,w7⟩:=(show ∃ m',m' < n∧W (i + 1) m' ys H7 from q7)
        obtain ⟨t1,t2,t3⟩:=tail I7
        exact ⟨m',hm,i + 1,ys,some v,H7,t1,t2,t3,w7⟩
      | true =>
        refine thn (he _ _ _ _ _ s7 _ _ _ I7 q7) fun y s8 ⟨y',H8,I8,r8,hD8,m',hm,w8⟩=>?_
        refine thn (jJF (X:=X') _ s8 _ H8 (.ref s₂.heap.objs.size) [y'] _ [y] (fun _ H9=>H9=upd H8 s₂.heap.objs.size (.lst (ys ++ [y']))) I8 rfl (.cons r8 .nil) ⟨_,_,_,rfl,rfl,hD8,hlt,rfl⟩) fun _ s9 ⟨_,H9,I9,_,e9⟩=>?_
        subst e9
        obtain ⟨t1,t2,t3⟩:=tail I9
        exact ⟨m',hm,i + 1,ys ++ [y'],some v,_,t1,t2,t3,w8⟩
  exact codeAny_compStart_list (loop _) (T.self _ 0 _ _ _ hst₁ (loop _))
noncomputable def tComp (frees:List (Str×Nat)) (tc:TT) (te:TE) (wi:TI):TE:=fun σ H Q=>wi σ H fun J H1=>jKm J tc te (inSt frees σ) H1 Q
theorem jEo {wi:TI} (O:jKD X scope x frees) (hxe:X.xe=fun _ _=>False) (hi:PI X (.Name x px) iter wi)
    (hc:∀ C ex s₂ H₂,PIfs (jFG X scope (x :: frees.map (·.1)) C ex s₂ H₂) ifs tc) (he:∀ C ex s₂ H₂,PE (jFG X scope (x :: frees.map (·.1)) C ex s₂ H₂) elt te)
    (hs:∀ x,foldedSetIterable iter X.env x=pure x:=by intro _;rfl):PE X (.ListComp elt [⟨.Name x px,iter,ifs,0⟩] scope pos) (tComp frees tc te wi):=by
  intro pins s σ H Q I h
  rw [eval_ListComp]
  refine wpAny_comprehension_free (use:=none) rfl hs (jGW O.cl) O.kind O.names (thn (hi pins s σ H _ I h) fun xv s₁ h₁=>thn h₁ fun itv s₂ h₂=>?_)
  obtain ⟨it,fp,tn,J,H2,e,I2,T,st2,f2,hB⟩:=h₂
  subst e
  refine jJL (RR:=fun acc C=>compPost (model X.prog X.w) X.A X.xe none (EP X pins σ Q) acc C) O hc he I2 T st2 f2 hB ?_
  intro D C H' s' I' hn hC q
  obtain ⟨m,hn⟩:=hn
  refine ⟨m,hn,fun h' hs'=>?_⟩
  exact ⟨.ref D,H',I'.turned (t':=s'.toks) (fun b o hb e=>hs'.extBut b o hb e) hC.1 hC.2.1 hC.2.2.2.1 hC.2.2.2.2.1 hC.2.2.2.2.2,rfl,q⟩
theorem jLY {wi:TI} {i:Nat} {y:Str} {py spos:Pos} (O:jKD X scope x frees) (hN:X.N.Nodup) (hiy:X.N[i]?=some y) (hy:X.env.kindOf y=some .local) (hsw:swapsWith (.ListComp elt [⟨.Name x px,iter,ifs,0⟩] scope pos) (some (.Name y py)) spos.line X.env=pure true)
    (hi:PI X (.Name x px) iter wi) (hc:∀ C ex s₂ H₂,PIfs (jFG X scope (x :: frees.map (·.1)) C ex s₂ H₂) ifs tc) (he:∀ C ex s₂ H₂,PE (jFG X scope (x :: frees.map (·.1)) C ex s₂ H₂) elt te)
    (hs:∀ x,foldedSetIterable iter X.env x=pure x:=by intro _;rfl):PS X (.Assign [.Name y py] (.ListComp elt [⟨.Name x px,iter,ifs,0⟩] scope pos) spos) (tAsg (tComp frees tc te wi) (jFk i)):=by
  intro pins s σ H D I h
  rw [exec_Assign_Name_used _ _ _ _ hsw]
  refine wpAny_bind (wpAny_standAt (wpAny_bind ?_))
  show wpAny _ X.A (do let _ ← comprehension (.ListComp elt [⟨.Name x px,iter,ifs,0⟩] scope pos) scope X.env _ (newList []) false (eval iter X.env) (some (assign (.Name y py) X.env))) _ _ s
  refine wpAny_bind (wpAny_mono (wpAny_comprehension_free (use:=some (assign (.Name y py) X.env)) (Q:=fun _ s'=>SP X pins D .next s') rfl hs (jGW O.cl) O.kind O.names
    (thn (hi pins s σ H _ I h) fun xv s₁ h₁=>thn h₁ fun itv s₂ h₂=>?_)) (fun _ s' hq=>wpAny_pure (wpAny_pure hq)) fun _ _ e=>e)
  obtain ⟨it,fp,tn,J,H2,e,I2,T,st2,f2,hB⟩:=h₂
  subst e
  refine jJL (RR:=fun acc C=>compPost (model X.prog X.w) X.A X.xe (some (assign (.Name y py) X.env)) (fun _ s'=>SP X pins D .next s') acc C) O hc he I2 T st2 f2 hB ?_
  intro A C H' s' I' hn hC q
  obtain ⟨m,hn⟩:=hn
  obtain ⟨oC,es,ep,hoC,hdC,hr⟩:=id hn
  have I'':Inv X (pins ++ [(C,oC)]) σ H' s':=I'.pins_of fun p hp=>(List.mem_append.mp hp).elim (fun z=>I'.pin p (List.mem_append_right _ z)) fun z=>by
    rw [List.mem_singleton.mp z]
    exact ⟨hoC,hC.1,hC.2.1,hC.2.2.1,fun v e=>by rw [hdC] at e;cases e⟩
  show wpAny _ X.A (assign (.Name y py) X.env (.ref A)) _ _ _
  refine wpAny_assign_Name (jFE I'' hN hiy (.inl hy) (v:=.ref A) rfl (fun s3 I3=>?_) (.inr hy))
  have hC3:=(I3.pin (C,oC) (List.mem_append_right _ (List.mem_append_right _ (List.mem_singleton.mpr rfl)))).1
  have J3:Inv X pins (σ.set i (some (.ref A))) H' s3:=I3.unpinned
  refine ⟨m,⟨oC,es,ep,hC3,hdC,hr⟩,fun h' hs'=>?_⟩
  exact ⟨_,H',J3.turned (t':=s3.toks) (fun b o hb e=>hs'.extBut b o hb e) hC.1 hC.2.1 hC.2.2.2.1 hC.2.2.2.2.1 hC.2.2.2.2.2,q⟩
end
end L2
namespace L2
open PySem PySem.Spec PyProof.Rows
section
variable {X:Cx}
noncomputable def rSlS:V→Option Int→Option Int→Hp→VK→Prop:=fun x lo hi H Q=>∃ z,x=.str z∧z.length≤sizeLine∧Q (.str (Txt.slice z lo hi)) H
theorem jLZ {v:Value} {o:Option Int} (p:IsPart v o):∃ l:Option (Int×Tok),v=partValue l∧l.map (·.1)=o:=by
  cases p with
  | none=>exact ⟨none,rfl,rfl⟩
  | int i t=>exact ⟨some (i,t),rfl,rfl⟩
theorem jKF:SlR X rSlS:=by
  intro pins s σ H x v vl vu lo hi sl Q I rx hs pl pu h
  obtain ⟨z,rfl,hz,q⟩:=h
  obtain ⟨t,rfl⟩:=rx
  obtain ⟨l,rfl,rfl⟩:=jLZ pl
  obtain ⟨u,rfl,rfl⟩:=jLZ pu
  exact ⟨"str",_,F.slot_str_getitem.lookup,typeIs_str _ _ _,wpAny_getItem_str_slice (l:=l) (u:=u) (st:=none) hs rfl
    (post_val_or_str ⟨Nat.le_trans (Txt.slice_le z _ _) hz,fun t' k=>⟨.str _,H,I.tok _,⟨t',rfl⟩,q⟩⟩)⟩
end
structure Seq (J:It) (H1:Hp) (xs:List V):Prop where
  go:∀ i H,jAr H1 H→i < xs.length→J.go i H
  yld:∀ i H x H',jAr H1 H→i < xs.length→J.yld i H x H'→H'=H∧xs[i]?=some x
  stop:∀ H,jAr H1 H→J.stop xs.length H
theorem jFW (lo:Int) (n:Nat) (H1:Hp):Seq (Itr lo n) H1 ((List.range n).map fun i=>V.int (lo + (i:Nat))) where
  go:=fun i H _ h=>by
    rw [List.length_map,List.length_range] at h
    exact h
  yld:=fun i H x H' _ hi h=>by
    obtain ⟨e,hx⟩:=h
    refine ⟨e,?_⟩
    rw [List.length_map,List.length_range] at hi
    rw [List.getElem?_map,List.getElem?_range hi,hx]
    rfl
  stop:=fun H _=>by
    show n≤_
    rw [List.length_map,List.length_range]
    exact Nat.le_refl _
theorem jGK {K:PySem.W.Frag} {a:Addr} {xs:List V} {H1:Hp} (h:SqL K H1 a xs):Seq (Itl K a) H1 xs where
  go:=fun i H e hi=>⟨xs,xs[i],e.seq h,List.getElem?_eq_getElem hi⟩
  yld:=fun i H x H' e _ y=>⟨y.1,y.2 xs (e.seq h)⟩
  stop:=fun H e=>⟨xs,e.seq h,Nat.le_refl _⟩
theorem jJM {α:Type} {xs:List α} {i:Nat} {x:α} (h:xs[i]?=some x):xs.take (i + 1)=xs.take i ++ [x]:=by
  rw [List.take_succ,h]
  rfl
theorem jFa {J:It} {tc:TT} {te:TE} {σf:Option V→St} {H1:Hp} {Q:VK} {xs:List V} (S:Seq J H1 xs) (p:V→Bool) (g:V→V) (hz:xs.length < sizeLine)
    (hc:∀ x∈xs,∀ (H':Hp) (R:Bool→Hp→Prop),jAr H1 H'→R (p x) H'→tc (σf (some x)) H' R)
    (he:∀ x∈xs,∀ (H':Hp) (R:VK),jAr H1 H'→p x=true→R (g x) H'→te (σf (some x)) H' R)
    (q:∀ D H',jAr H1 H'→H1 D=none→H' D=some (.lst ((xs.filter p).map g))→Q (.ref D) H'):jKm J tc te σf H1 Q:=by
  intro D hD
  refine ⟨fun i m ys H2=>m=xs.length - i∧i≤xs.length∧jAr H1 H2∧H2 D=some (.lst ys)∧ys=((xs.take i).filter p).map g,⟨xs.length,rfl,Nat.zero_le _,jAl hD _,jAc,rfl⟩,?_⟩
  rintro i m ys H2 ⟨rfl,hi,sm,hD2,rfl⟩
  refine ⟨hD2,?_⟩
  by_cases hlt:i < xs.length
  · refine .inr ⟨S.go i H2 sm hlt,?_,fun x H3 y=>?_⟩
    · rw [List.length_map]
      refine Nat.lt_of_le_of_lt (List.length_filter_le _ _) ?_
      rw [List.length_take]
      omega
    · obtain ⟨e,hx⟩:=S.yld i H2 x H3 sm hlt y
      subst e
      have mem:x∈xs:=List.mem_of_getElem? hx
      refine hc x mem _ _ sm ?_
      cases hp:p x with
      | false =>
        refine jAT ⟨xs.length - (i + 1),by omega,rfl,hlt,sm,hD2,?_⟩
        rw [jJM hx,List.filter_append,List.filter_cons_of_neg (by rw [hp];decide),List.filter_nil,List.append_nil]
      | true =>
        refine jA6 (he x mem _ _ sm hp ⟨hD2,xs.length - (i + 1),by omega,rfl,hlt,jEn hD sm _,jAc,?_⟩)
        rw [jJM hx,List.filter_append,List.filter_cons_of_pos hp,List.filter_nil,List.map_append]
        rfl
  · have e:i=xs.length:=by omega
    subst e
    refine .inl ⟨S.stop H2 sm,q D H2 sm hD ?_⟩
    rw [hD2,List.take_of_length_le (Nat.le_refl _)]
noncomputable def jNs (cells:List (Str×Addr)) (names:List (Str×NameKind)):Bool:=names.all fun p=>if (p.2 == NameKind.free)=true then (cells.lookup p.1).isSome else true
theorem jBs {cells:List (Str×Addr)} {names:List (Str×NameKind)} (h:jNs cells names=true):∀ p∈names,p.2=.free→(cells.lookup p.1).isSome=true:=fun p hp hk=>by
  have q:=(List.all_eq_true.mp h) p hp
  rw [hk,show (NameKind.free == NameKind.free)=true from rfl,if_pos rfl] at q
  exact q
end L2
namespace L2
open PySem PySem.Spec PyProof.Rows
section
variable {X:Cx}
theorem jGX:CallR X (.type "int") (fun xs H Q=>∃ z n,xs=[.str z]∧PySem.intText? z=some n∧z.length≤640∧Q (.int n) H):=by
  intro pins s σ H xs us Q I r h
  obtain ⟨z,n,rfl,hn,hl,q⟩:=h
  obtain ⟨u,rfl,t,rfl⟩:=jFm r
  exact PySem.W.KIN.call_text hn hl ⟨.int n,H,I.tok _,⟨_,rfl⟩,q⟩
theorem jKG (K:PySem.W.Frag):PySem.W.kitOne K (.type "int") (.type "bool")=some false:=by
  have e1:PySem.W.kitMeta "bool"=true:=by decide +kernel
  have e2:PySem.W.subIn K (.type "int") (.type "bool")=some false:=by
    show (fastBuiltinMro "int").map (·.contains (Value.type "bool"))=some false
    decide +kernel
  show (if (Value.type "int" == Value.type "bool")=true then some true else (if PySem.W.kitMeta "bool"=true then PySem.W.subIn K (.type "int") (.type "bool") else none))=some false
  rw [if_neg (by decide),if_pos e1]
  exact e2
noncomputable def rIxLA (K:PySem.W.Frag):R2:=fun x y H Q=>∃ p xs i,x=.ref p∧y=.int i∧SqL K H p xs∧0≤i∧i < ((xs.length:Nat):Int)∧∀ v,xs[i.toNat]?=some v→Q v H
theorem jBV:IxR X (rIxLA X.K):=by
  intro value slice pins s σ H x y v u Q I rx ry h hs
  obtain ⟨p,xs,i,rfl,rfl,hq,h0,h1,q⟩:=h
  obtain ⟨c,e1,e2⟩:=at_in (xs:=xs) h0 h1
  exact jDN value slice pins s σ H _ _ v u Q I rx ry ⟨p,xs,i,c,rfl,rfl,hq,e2,q c e1⟩ hs
noncomputable def intV:V→Bool
  | .int _=>true
  | _=>false
end
end L2
namespace L2
open PySem PySem.Spec PyProof.Rows
section
variable {X:Cx}
noncomputable def PSk (X:Cx) (st:Stmt) (t:TS):Prop :=
  ∀ (pins:List (Addr×Obj)) (s:Shared) (σ:St) (H:Hp) (D:jCq),Inv X pins σ H s→1≤s.toks→t D σ H→wpAny (model X.prog X.w) X.A (exec st X.env) (SP X pins D) X.xe s
noncomputable def PSsK (X:Cx) (st:List Stmt) (t:TS):Prop :=
  ∀ (pins:List (Addr×Obj)) (s:Shared) (σ:St) (H:Hp) (D:jCq),Inv X pins σ H s→1≤s.toks→t D σ H→wpAny (model X.prog X.w) X.A (execs st X.env) (SP X pins D) X.xe s
noncomputable def PEk (X:Cx) (e:Expr) (t:TE):Prop :=
  ∀ (pins:List (Addr×Obj)) (s:Shared) (σ:St) (H:Hp) (Q:VK),Inv X pins σ H s→1≤s.toks→t σ H Q→wpAny (model X.prog X.w) X.A (eval e X.env) (EP X pins σ Q) X.xe s
noncomputable def PE1 (X:Cx) (e:Expr) (t:TE):Prop :=
  ∀ (pins:List (Addr×Obj)) (s:Shared) (σ:St) (H:Hp) (Q:VK),Inv X pins σ H s→t σ H Q→wpAny (model X.prog X.w) X.A (eval e X.env) (fun u s'=>1≤s'.toks∧EP X pins σ Q u s') X.xe s
noncomputable def PS1 (X:Cx) (st:Stmt) (t:TS):Prop :=
  ∀ (pins:List (Addr×Obj)) (s:Shared) (σ:St) (H:Hp) (D:jCq),Inv X pins σ H s→t D σ H→wpAny (model X.prog X.w) X.A (exec st X.env) (fun f s'=>1≤s'.toks∧SP X pins D f s') X.xe s
noncomputable def tRepl (y z:Str) (to:TE):TE:=fun σ H Q=>to σ H fun v H1=>∃ x,v=.str x∧x.length + (x.length + 1) * z.length≤16777216∧∀ u:Str,u.length≤x.length + (x.length + 1) * z.length→Q (.str u) H1
end
end L2
namespace L2
open PySem PySem.Spec PyProof.Rows
section
variable {prog:Program} {w:World} {A:Around} {E:Value→Shared→Prop} {s:Shared}
set_option maxHeartbeats 2000000 in
end
end L2
namespace L2
open PySem PySem.Spec PyProof.Rows
section
variable {prog:Program} {w:World} {A:Around} {E:Value→Shared→Prop} {s:Shared}
end
end L2
namespace L2
open PySem PySem.Spec PyProof.Rows
section
variable {prog:Program} {w:World} {A:Around} {E:Value→Shared→Prop} {s:Shared}
end
noncomputable def Ite (K:PySem.W.Frag) (a:Addr) (j:Int):It :=
  ⟨fun i H=>∃ xs x,SqL K H a xs∧xs[i]?=some x,fun i H x H'=>∃ p y,x=.ref p∧H p=none∧H'=upd H p (.tup [.int (j + (i:Nat)),y])∧∀ xs,SqL K H a xs→xs[i]?=some y,fun i H=>∃ xs,SqL K H a xs∧xs.length=i⟩
section
variable {X:Cx} {elts:List Expr} {x1:Nat} {tpos:Pos}
noncomputable def iEnumK (K:PySem.W.Frag) (tl:TA) (tj:TA):TI:=fun σ H R=>tl σ H fun vs H1=>tj σ H1 fun zs H2=>∃ a j,vs=[.ref a]∧zs=[.int j]∧(∃ xs,SqL K H2 a xs)∧Builtin.SmallTypes.fitsIndex j=true∧R (Ite K a j) H2
noncomputable def iEnum (K:PySem.W.Frag) (tl:TA):TI:=fun σ H R=>tl σ H fun vs H1=>∃ a,vs=[.ref a]∧(∃ xs,SqL K H1 a xs)∧R (Ite K a 0) H1
end
end L2
namespace L2
open PySem PySem.Spec PyProof.Rows
section
variable {X:Cx} {pins:List (Addr×Obj)} {σ:St} {H:Hp} {s:Shared} {d:Addr} {kvs:List (Key×V)}
theorem Inv.freeze (I:Inv X pins σ H s) (h:H d=some (.dK kvs)):∃ o,s.heap.get? d=some o∧Inv X pins σ (upd H d (.frz o (.dK kvs))) s:=by
  obtain ⟨z,hd,vs,r,o,es,ep,e,c⟩:=I.hok d _ h
  have mu:Mut (H d):=by rw [h];trivial
  refine ⟨o,e,I.un (h':=s.heap) (t':=s.toks) (Un.write mu (.inl rfl) (fun _ _ _ q=>q) ⟨o,e⟩) (I.hok.write mu (.inl rfl) (fun _ _ _ q=>q) ⟨o,e⟩ ⟨e,z,hd,vs,r,o,es,ep,e,c⟩)⟩
theorem Inv.thaw {o:Obj} (I:Inv X pins σ H s) (h:H d=some (.frz o (.dK kvs))) (h0:∀ o u,X.H₀ d≠some (.frz o u)):Inv X pins σ (upd H d (.dK kvs)) s:=by
  have nn:∀ b,H b=none→b≠d:=fun b q z=>by rw [z,h] at q;cases q
  refine ⟨I.ok,I.os,I.bare,⟨I.base.keep,I.base.slot,fun b o' e n hx=>?_,I.base.there,fun b xs e=>?_,fun b o' u e=>?_,fun b ps e=>?_⟩,I.loc,I.cell,?_,fun x c e=>?_,fun p hp=>?_,fun b u e=>?_,I.len⟩
  · have q:=I.base.free b o' e n hx
    rw [jAi (nn b q)]
    exact q
  · have q:=I.base.tups b xs e
    rw [jAi (jAD q h (by intro z;cases z))]
    exact q
  · have q:=I.base.frzs b o' u e
    rw [jAi (fun z=>h0 o' u (by rw [← z];exact e))]
    exact q
  · obtain ⟨more,q⟩:=I.base.tbls b ps e
    refine ⟨more,?_⟩
    rw [jAi (jAD q h (by intro z;cases z))]
    exact q
  · rw [jAi (nn _ I.free)]
    exact I.free
  · rw [jAi (nn _ (I.freeC x c e))]
    exact I.freeC x c e
  · obtain ⟨a,b,c⟩:=I.pin p hp
    exact ⟨a,by rw [jAi (nn _ b)];exact b,c⟩
  · by_cases hb:b=d
    · subst hb
      rw [jAc] at e
      cases e
      obtain ⟨q,ok⟩:=I.hok b _ h
      exact ok
    · rw [jAi hb] at e
      exact (I.hok b u e).stay (fun _ _ _ q=>q) (fun c q=>by rw [jAi (jAD q h (by intro z;cases z))];exact q) (fun c xs q=>by rw [jAi (jAD q h (by intro z;cases z))];exact q)
theorem Inv.unfrozen (I:Inv X pins σ H s) (h:H d=some (.dK kvs)):∀ o u,X.H₀ d≠some (.frz o u):=fun o u e=>by
  have q:=I.base.frzs d o u e
  rw [h] at q
  cases q
noncomputable def tFrz (t:TE):TE:=fun σ H Q=>∃ (d:Addr) (kvs:List (Key×V)),H d=some (.dK kvs)∧∀ o,t σ (upd H d (.frz o (.dK kvs))) fun v H'=>H' d=some (.frz o (.dK kvs))∧Q v (upd H' d (.dK kvs))
theorem pe_frz {e:Expr} {t:TE} (h:PE X e t):PE X e (tFrz t):=by
  intro pins s σ H Q I hw
  obtain ⟨d,kvs,hd,q⟩:=hw
  obtain ⟨o,eo,I1⟩:=I.freeze hd
  refine thn (h pins s σ _ _ I1 (q o)) fun v s1 ⟨x,H1,I2,r,hz,q2⟩=>?_
  exact ⟨x,_,I2.thaw hz (I.unfrozen hd),r,q2⟩
noncomputable def sFrz (t:TS):TS:=fun D σ H=>∃ (d:Addr) (kvs:List (Key×V)),H d=some (.dK kvs)∧∀ o,t { nx:=fun σ' H'=>H' d=some (.frz o (.dK kvs))∧D.nx σ' (upd H' d (.dK kvs)),rt:=fun v H'=>H' d=some (.frz o (.dK kvs))∧D.rt v (upd H' d (.dK kvs)),bk:=fun σ' H'=>H' d=some (.frz o (.dK kvs))∧D.bk σ' (upd H' d (.dK kvs)),ct:=fun σ' H'=>H' d=some (.frz o (.dK kvs))∧D.ct σ' (upd H' d (.dK kvs)) } σ (upd H d (.frz o (.dK kvs)))
end
noncomputable def Itd (d:Addr) (o:Obj) (kvs:List (Key×V)):It :=
  ⟨fun i H=>H d=some (.frz o (.dK kvs))∧i < kvs.length,fun i H x H'=>H'=H∧∃ k v,kvs[i]?=some (k,v)∧x=kV k,fun i H=>H d=some (.frz o (.dK kvs))∧kvs.length=i⟩
theorem rel_key {k:Key} {v:Value} (h:jGF k v=true):jAB (kV k) v:=by
  rcases jBr h with ⟨i,t,rfl,rfl⟩ | ⟨x,t,rfl,rfl⟩
  · exact ⟨t,rfl⟩
  · exact ⟨t,rfl⟩
theorem jMQ {P:Program} {w:World} {K:PySem.W.Frag} {tg:Expr} (d it:Addr) (o:Obj) (kvs:List (Key×V)) {vs:List (Key×Value)} {es:Array DictEntry} {ep:Nat} (rk:KV kvs vs) (hd:o.ExactDict) (he:o.data=.dict es ep) (hk:KeysOf (jBe P w) es) (hp:Pairs (jBe P w) es.toList vs) (nd:(vs.map (·.1)).Nodup) :
    Turn P w K tg (Itd d o kvs) [it] it (fun i h=>h.IsKeyIter it d i vs.length ep) where
  mem:=by simp
  obj:=fun i h st b hb=>by
    have e:b=it:=by simpa using hb
    subst e
    obtain ⟨o,e,c,d⟩:=st
    exact ⟨o,e,fun v z=>by rw [d] at z;cases z⟩
  keep:=fun i h h' st k=>st.at fun o e=>k it (by simp) o e
  item:=by
    intro X hP hw hK hc i pins s σ H E I hf st hg
    subst hP hw hK
    obtain ⟨hz,hi⟩:=hg
    obtain ⟨eo,_⟩:=I.hok d _ hz
    obtain ⟨f0,f1,f2,f3,f4,f5⟩:=hf it (by simp)
    have hl:=KV.length rk
    have hi2:i < vs.length:=by omega
    have ev:vs[i]?=some (vs[i].1,vs[i].2):=List.getElem?_eq_getElem hi2
    have ks:kvs[i]?=some (kvs[i].1,kvs[i].2):=List.getElem?_eq_getElem hi
    have keq:kvs[i].1=vs[i].1:=by
      have q:=KV.keys rk
      have q1:(kvs.map (·.1))[i]?=(vs.map (·.1))[i]?:=by rw [q]
      rw [List.getElem?_map,List.getElem?_map,ks,ev] at q1
      exact Option.some.inj q1
    refine wpAny_pyNext_dict_item st ⟨o,es,eo,hd,he,hk,hp,nd⟩ ev fun key h' hkey st' sb=>?_
    have I1:Inv X pins σ H { s with heap:=h' }:=I.turned (t':=s.toks) (fun b o hb e=>(sb.2 b hb).trans e) f0 f1 f3 f4 f5
    obtain ⟨o2,e2,c2,d2⟩:=id st'
    refine ⟨key,rfl,jKg (s:={ s with heap:=h' }) e2 c2 d2 (by decide) ⟨kV kvs[i].1,H,I1,?_,⟨rfl,_,_,ks,rfl⟩,st',fun b hb=>(hf b hb).1⟩⟩
    rw [keq]
    exact rel_key hkey
  done:=by
    intro X hP hw hK hc i pins s σ H E I hf st hg
    subst hP hw hK
    obtain ⟨hz,hi⟩:=hg
    obtain ⟨eo,_⟩:=I.hok d _ hz
    obtain ⟨f0,f1,f2,f3,f4,f5⟩:=hf it (by simp)
    have hl:=KV.length rk
    have hin:vs[i]?=none:=List.getElem?_eq_none (by omega)
    exact wpAny_pyNext_dict_end (I.ok.hd hc) st ⟨o,es,eo,hd,he,hk,hp,nd⟩ hin fun h' eb=>⟨rfl,I.turned (t':=s.toks) (fun b o hb e=>eb b o hb e) f0 f1 f3 f4 f5⟩
  self:=fun _ _ _ _ _ st h=>wpAny_pyIter_keyiter st h
section
variable {X:Cx} {tg:Expr}
noncomputable def iDict (tl:TE):TI:=fun σ H R=>tl σ H fun x H1=>∃ d o kvs,x=.ref d∧H1 d=some (.frz o (.dK kvs))∧R (Itd d o kvs) H1
theorem pi_dict {l:Expr} {tl:TE} (hl:PE X l tl):PI X tg l (iDict tl):=by
  intro pins s σ H R I h
  refine thn (hl pins s σ H _ I h) fun v s1 ⟨x,H1,I1,r1,q1⟩=>?_
  obtain ⟨d,o,kvs,rfl,hz,q⟩:=q1
  cases r1
  obtain ⟨eo,z,hd,vs,rk,o',es,ep,e',xd,dt,ko,pr,nd⟩:=I1.hok d _ hz
  rw [eo] at e'
  cases e'
  refine wpAny_pyIter_dict hd ⟨o,es,eo,xd,dt,ko,pr,nd⟩ ?_
  refine ⟨s1.heap.objs.size,[s1.heap.objs.size],_,_,H1,rfl,I1.kept (t':=s1.toks) fun b o e=>Heap.get?_push_of_some _ e,jMQ d _ o kvs rk xd dt ko pr nd,⟨_,Heap.get?_push_size _ rfl,rfl,rfl⟩,fun b hb=>?_,q⟩
  have e:b=s1.heap.objs.size:=by simpa using hb
  subst e
  exact I1.fpOk (Nat.le_refl _) (I1.hok.fresh (Nat.le_refl _))
theorem jNt {d:Addr} {o:Obj} {kvs:List (Key×V)} {H1:Hp} (h:H1 d=some (.frz o (.dK kvs))):Seq (Itd d o kvs) H1 (kvs.map fun p=>kV p.1) where
  go:=fun i H e hi=>⟨e _ _ h,by rw [List.length_map] at hi;exact hi⟩
  yld:=fun i H x H' e _ y=>by
    obtain ⟨a,k,v,b,c⟩:=y
    refine ⟨a,?_⟩
    rw [List.getElem?_map,b,c]
    rfl
  stop:=fun H e=>⟨e _ _ h,by rw [List.length_map]⟩
noncomputable def rInsert:V→List V→Hp→VK→Prop:=fun x vs H Q=>∃ l xs i y,x=.ref l∧vs=[.int i,y]∧H l=some (.lst xs)∧0≤i∧i≤((xs.length:Nat):Int)∧xs.length < sizeLine∧Q .non (upd H l (.lst (xs.take i.toNat ++ y :: xs.drop i.toNat)))
structure Dfn (P:Program) (w:World) (K:PySem.W.Frag) (mg:Str→Option Value) (base:Heap) (k:Nat) (x:Str) (ps:List Str) (sp:Sp):Prop where
  ex:∃ f fd,jAh P w K mg base CX0 k f fd ps sp∧jCo K fd ps []∧PySem.W.keepIn K (.ref f)=true∧mg x=some (.ref f)
theorem jAA {k:Nat} {x:Str} {ps:List Str} {sp:Sp} {e:Expr} {es:List Expr} {t:TA} {p pos:Pos} (D:Dfn X.prog X.w X.K X.mg X.base k x ps sp) (hr:jBc k X.A) (hg:Gl X x) (ha:PA X (e :: es) t) (hdb:(x == ("__debug__":Str))=false:=by decide)
    (he:starEach (e :: es) X.env=(false,eval e X.env) :: starEach es X.env:=by rfl) (hpl:(backTo pos (starEach es X.env)).any (·.1)=false:=by rfl):PE X (.Call (.Name x p) (e :: es) [] pos) (tCall sp [] E0 t):=by
  obtain ⟨f,fd,F,b,kp,m⟩:=D.ex
  exact pe_call F hr hg m kp b .nil jIg ha hdb he hpl
structure GS (mg:Str→Option Value) (x:Str) (z:Str):Prop where
  ex:∃ t,mg x=some (.str z t)
structure GI (mg:Str→Option Value) (x:Str) (z:Int):Prop where
  ex:∃ t,mg x=some (.int z t)
theorem jDO {x z:Str} {pos:Pos} (G:GS X.mg x z) (hg:Gl X x) (hd:(x == ("__debug__":Str))=false:=by decide):PE X (.Name x pos) (tC (.str z)):=by
  obtain ⟨t,e⟩:=G.ex
  exact jLO hg e (rel_str _ _) hd
theorem jFo {x:Str} {z:Int} {pos:Pos} (G:GI X.mg x z) (hg:Gl X x) (hd:(x == ("__debug__":Str))=false:=by decide):PE X (.Name x pos) (tC (.int z)):=by
  obtain ⟨t,e⟩:=G.ex
  exact jLO hg e (rel_int _ _) hd
end
end L2
namespace L2
open PySem PySem.Spec PyProof.Rows
section
variable {X:Cx}
structure MkD (P:Program) (w:World) (K:PySem.W.Frag) (mg:Str→Option Value) (base:Heap) (k:Nat) (x:Str) (C:Addr) (ps:List Str) (sp:Sp):Prop where
  ex:∃ f fd,Mk K C f∧jAh P w K mg base CX0 k f fd ps sp∧jCo K fd ps []∧mg x=some (.ref C)
theorem jDA {k:Nat} {x:Str} {C:Addr} {ps:List Str} {sp:Sp} {e:Expr} {es:List Expr} {t:TA} {p pos:Pos} (D:MkD X.prog X.w X.K X.mg X.base k x C ps sp) (hr:jBc (k + 1) X.A) (hg:Gl X x) (ha:PA X (e :: es) t) (hdb:(x == ("__debug__":Str))=false:=by decide)
    (he:starEach (e :: es) X.env=(false,eval e X.env) :: starEach es X.env:=by rfl) (hpl:(backTo pos (starEach es X.env)).any (·.1)=false:=by rfl):PE X (.Call (.Name x p) (e :: es) [] pos) (jKh C sp [] E0 t):=by
  obtain ⟨f,fd,M,F,b,m⟩:=D.ex
  exact pe_make M F hr hg m b .nil jIg ha hdb he hpl
structure MtD (P:Program) (w:World) (K:PySem.W.Frag) (mg:Str→Option Value) (base:Heap) (k:Nat) (m:Str) (C:Addr) (ps:List Str) (sp:Sp):Prop where
  ex:∃ f fd,Meth K C m f∧jAh P w K mg base CX0 k f fd ps sp∧jCo K fd ps []
theorem jMR {K:PySem.W.Frag} {a:Expr} {ta:TE} (hK:X.K=K) (ha:PE X a ta) (he:∀ whole,isTrue a X.env whole=(do let v ← whole;standAt a.pos;holding [v] (truthy v))):PT X a (fun σ H Q=>ta σ H fun x H'=>∃ k,TruV K x H' k∧Q k H'):=by
  subst hK
  exact jAQ ha he
theorem pe_ixK {K:PySem.W.Frag} {a b:Expr} {ta tb:TE} {pos:Pos} {r:PySem.W.Frag→R2} (hK:X.K=K) (hr:IxR X (r X.K)) (ha:PE X a ta) (hb:PE X b tb) (hs:jLU b):PE X (.Subscript a b pos) (tOp (r K) ta tb):=by
  subst hK
  exact jAG hr ha hb hs
theorem pe_fldK {K:PySem.W.Frag} {e:Expr} {ta:TE} {f:Str} {pos:Pos} (hK:X.K=K) (he:PE X e ta) (hb:attributeBase e f X.env (eval e X.env)=eval e X.env):PE X (.Attribute e f pos) (tFld K ta f):=by
  subst hK
  exact jAs he hb
noncomputable def tAt (t:TS):TS:=fun D σ H=>∃ σ',σ=σ'∧t D σ' H
theorem jG5 {K:PySem.W.Frag} {a b:String} (h1:(Value.type a == Value.type b)=false) (h2:PySem.W.kitMeta b=true) (h3:(fastBuiltinMro a).map (·.contains (Value.type b))=some false):PySem.W.kitOne K (.type a) (.type b)=some false:=by
  show (if (Value.type a == Value.type b)=true then some true else (if PySem.W.kitMeta b=true then PySem.W.subIn K (.type a) (.type b) else none))=some false
  rw [h1,if_neg (by decide),if_pos h2]
  exact h3
end
end L2
namespace PySem.W
open PySem PySem.Spec PySem.Calls PyProof.Rows Builtin Builtin.ObjectAttr Builtin.Getset_descriptor
noncomputable abbrev jFp:List Value:=[.type "ValueError",.type "Exception",.type "BaseException",.type "object"]
noncomputable def excMk (K:Frag) (C:Addr):Bool:=match K.lookup C with
  | some ⟨.type "type",_,.cls cd,sls⟩=>(match cd.mro,sls.toList with
    | .ref C' :: tlm,[_,_,_,_,some (.builtin n),_]=>C' == C && n == "ValueError.__new__" && !cd.hasDel && tailIn K jFp tlm
    | _,_=>false)
  | _=>false
noncomputable def ExcAt (h:Heap) (C:Addr) (tlm:List Value):Prop:=∃ N nm q bs hdct sn sub ab col dd q0 q1 q2 q3 q5,h.get? C=some (excClassObj nm q C N bs tlm hdct sn sub ab col dd q0 q1 q2 q3 q5 "ValueError.__new__")
theorem jG6 {K:Frag} {h:Heap} {C:Addr} (X:K.In h) (q:excMk K C=true):∃ tlm,ExcAt h C tlm∧OwnTail h jFp tlm:=by
  unfold excMk at q
  split at q
  · rename_i dd cd sls ho
    split at q
    · rename_i C' tlm q0 q1 q2 q3 n q5 hmm hss
      simp only [beq_iff_eq,Bool.and_eq_true,Bool.not_eq_true'] at q
      obtain ⟨⟨⟨rfl,rfl⟩,hdel⟩,ht⟩:=q
      obtain ⟨nm,bs,mro,ns,qun,hd,sn,sub,ab,col,del⟩:=cd
      dsimp only at hmm hdel
      subst hmm hdel
      have hsl:sls=#[q0,q1,q2,q3,some (.builtin "ValueError.__new__"),q5]:=by
        obtain ⟨l⟩:=sls
        simp only at hss
        rw [hss]
      subst hsl
      exact ⟨tlm,⟨ns,nm,qun,bs,hd,sn,sub,ab,col,dd,q0,q1,q2,q3,q5,X _ _ ho⟩,tail_of_in X ht⟩
    · cases q
  · cases q
noncomputable abbrev excTup (us:List Value):Obj:={ cls:=.type "tuple",data:=.seq us.toArray }
noncomputable abbrev excNew (C t0:Addr):Obj:={ cls:=.ref C,data:=.fields #[.ref t0,.none,.none,.none,.bool false,.none] }
section
variable {prog:Program} {w:World} {A:Around} {K:Frag} {C f:Addr} {R:Result→Shared→Prop} {h:Heap} {g:Array GenState} {d:Drawn} {t:Nat} {os:OsState}
theorem make_X {us:List Value} (X:K.In h) (e:excMk K C=true) (hi:findIn K (.ref C) "__init__"=some (some (.ref f))) (hf:typeIn K (.ref f)=some (.type "function")) (hrest:us.length≤sizeLine)
    (hq:codeAny (model prog w) (A.under (.builtin "type.__call__" ⟨.ref C :: us,[]⟩)) (.call (.ref f) ⟨.ref (h.objs.size + 1) :: us,[]⟩) (InitBack (h.objs.size + 1) R) ⟨(h.push (excTup us)).push (excNew C h.objs.size),g,d,t,os⟩) :
    codeAny (model prog w) A (.call (.ref C) ⟨us,[]⟩) R ⟨h,g,d,t,os⟩:=by
  obtain ⟨tlm,⟨N,nm,q,bs,hdct,sn,sub,ab,col,dd,q0,q1,q2,q3,q5,hCl⟩,T⟩:=jG6 X e
  have FB:=PySem.F.excBase_ValueError
  have f1:=tc_lookup
  have f2:=tc_bind (.ref C)
  have hTy:(⟨h,g,d,t,os⟩:Shared).TypeIs (.ref C) "type":=⟨_,hCl,rfl⟩
  refine codeAny_of_tree ?_
  show wpAny (model prog w) A.in1 (callAny (.ref C) _) _ _ _
  repeat (any_goals (first | assumption | with_reducible refine wpAny_loadPart_at hCl ?_ | wp_step))
  refine ⟨rfl,?_⟩
  refine codeAny_call_builtin_at (Code.quiet_builtin _ (by decide +kernel)) entry_typeCall (wpAny_check_type_call_sub hCl ?_)
  repeat (first | with_reducible refine wpAny_loadPart_at hCl ?_ | with_reducible refine wpAny_madeBy_exc hCl ?_ | wp_step)
  refine codeAny_call_builtin_code (Code.quiet_builtin _ FB.quiet) (wpAny_check_new_subT FB T hCl ?_)
  refine codeAny_exc_new_subT FB T hCl ?_ hrest
  show wpAny _ _ _ _ _ _
  have k:∀ b o,h.get? b=some o→((h.push (excTup us)).push (excNew C h.objs.size)).get? b=some o:=fun b o e=>Heap.get?_push_of_some _ (Heap.get?_push_of_some _ e)
  have hx:((h.push (excTup us)).push (excNew C h.objs.size)).get? (h.objs.size + 1)=some (excNew C h.objs.size):=by heap_get
  have t1:Looks (model prog w) ((h.push (excTup us)).push (excNew C h.objs.size)) (typeOf (.ref (h.objs.size + 1))) (.ref C):=(Looks.ld hx).andThen .now
  have hcc:(Value.ref C :: tlm).contains (.ref C)=true:=by simp
  have s0:Looks (model prog w) h (isSubtype (.ref C) (.ref C)) true:=by
    intro A Q E s kk qq
    obtain ⟨h1,g1,d1,tk1,os1⟩:=s
    exact wpAny_isSubtype_exc (kk _ _ hCl) (by rw [hcc];exact qq)
  have s1:=s0.keeps k
  have i1:=(looks_findIn (M:=model prog w) X hi).keeps k
  have b1:=(bind_fn (M:=model prog w) X (.ref (h.objs.size + 1)) hf).keeps k
  have hC₁:=k _ _ hCl
  unfold isInstance
  refine wpAny_bind (wpAny_bind (t1.here (s1.here ?_)))
  simp only [Bool.false_eq_true,Bool.not_true,if_false]
  refine wpAny_bind (wpAny_holding ?_);unfold callSpecial? specialOf
  refine wpAny_bind (wpAny_bind (t1.here ?_))
  refine i1.here ?_
  refine wpAny_holding (wpAny_bind (b1.here ?_))
  refine wpAny_bind (wpAny_call ?_)
  refine codeAny_mono hq fun r s' zz=>?_
  rcases r with e | (v | _ | _ | _) <;> first | exact zz | exact zz.elim | skip
  obtain ⟨rfl,zz⟩:=zz
  exact wpAny_pure (wpAny_pure zz)
end
end PySem.W
namespace PySem.W
open PySem PySem.Spec PySem.Calls PyProof.Rows Builtin Builtin.ObjectAttr Builtin.Getset_descriptor
noncomputable def jG7:List Value→Bool
  | .ref _ :: r=>jG7 r
  | .type n :: r=>(.type n :: r) == jFp
  | _=>false
theorem jJN (self:Value):∀ {l:List Value},jG7 l=true→refuseLoop self "__setattr__" l=pure ()
  | .ref c :: r,e=>by rw [refuseLoop_ref];exact jJN self (show jG7 r=true from e)
  | .type n :: r,e=>by rw [show Value.type n :: r=jFp from beq_iff_eq.mp e];exact PySem.F.store_ValueError.passes self
theorem jKH {b:String} (hbb:jFp.contains (.type b)=true):∀ {l:List Value},jG7 l=true→l.contains (.type b)=true
  | .ref c :: r,e=>by rw [List.contains_cons,jKH hbb (l:=r) e,Bool.or_true]
  | .type n :: r,e=>by rw [show Value.type n :: r=jFp from beq_iff_eq.mp e];exact hbb
noncomputable def excOver (K:Frag) (C:Addr):Bool:=(clsIn K C).any fun cdt=>jG7 cdt.mro
section
variable {prog:Program} {w:World} {A:Around} {K:Frag} {C x:Addr} {s:Shared} {R:Result→Shared→Prop}
theorem osa_X {ox:Obj} {od:Option Obj} {nm:Str} {tk:Tok} {v:Value} {r:Option Value} (X:K.In s.heap) (I:InstAt s.heap x ox C od) (hp:excOver K C=true) (ht:takerIn K C nm=some r)
    (go:∀ b,wpAny (model prog w) A.in1 (match r with | some a=>setByDescriptor a (.ref x) v | none=>storeInOwnDict (.ref x) (.ref C) (.str nm tk) nm v b)
      (fun fi s'=>match fi with | .done f=>R (.ok f) s' | .again c'=>c'.quiet=true∧codeAny (model prog w) A c' R s') (fun e s'=>R (.error e) s') s) :
    codeAny (model prog w) A (.call (.builtin "object.__setattr__") ⟨[.ref x,.str nm tk,v],[]⟩) R s:=by
  have SFo:=PySem.F.store_object
  obtain ⟨cdt,hcd,hov⟩:=any_some hp
  have nem:cdt.mro.isEmpty=false:=by cases q:cdt.mro with | nil=>rw [q] at hov;cases hov | cons _ _=>rfl
  have sub:Looks (model prog w) s.heap (isInstance (.ref x) (.type "object")) true:=I.type.andThen (looks_mroIn X (by unfold mroIn;rw [hcd,Option.bind_some,if_neg (by rw [nem];decide),jKH (by decide +kernel) hov]))
  refine codeAny_call_builtin SFo.slot.plain SFo.entry (@check_slot (model prog w) _ _ s "object.__setattr__" "object" "__setattr__" (.ref x) [.str nm tk,v] [] _ SFo.kind SFo.split sub (SFo.args (.ref x) (.str nm tk) v) ?_)
  obtain ⟨atr,ha,hrr⟩:=Option.bind_eq_some_iff.mp ht
  have hmr:Looks (model prog w) s.heap (mroOf (.ref C)) cdt.mro:=(looks_clsIn X hcd).andThen .now
  have l3:Looks (model prog w) s.heap (storeTaker? atr) r:=by
    cases atr with
    | none=>cases hrr;exact .now
    | some a =>
      obtain ⟨b,hbb,rfl⟩:=Option.map_eq_some_iff.mp hrr
      refine (looks_takesIn X hbb).andThen ?_
      cases b <;> exact .now
  rw [osa_eq,refuse_eq]
  refine wpAny_bind (wpAny_bind (I.type.here (wpAny_bind (hmr.here ?_))))
  rw [jJN _ hov]
  refine wpAny_pure (wpAny_bind (I.type.here (wpAny_bind ((looks_findIn X ha).here (wpAny_bind (l3.here ?_))))))
  exact go _
variable {E:Value→Shared→Prop} {vs:Array Value} {sl:Array (Option Value)} {nm:Str} {v:Value}
theorem setX_new {Q:Unit→Shared→Prop} (X:K.In s.heap) (hx:s.heap.get? x=some ⟨.ref C,none,.fields vs,sl⟩) (hs:findIn K (.ref C) "__setattr__"=some (some (.builtin "object.__setattr__")))
    (hp:excOver K C=true) (ht:takerIn K C nm=some none) (hh:hasDictIn K C=true)
    (h:∀ h',h'.get? x=some ⟨.ref C,some s.heap.objs.size,.fields vs,sl⟩→h'.Ns1 s.heap.objs.size (fun y=>if y=nm then some v else none)→(∀ b o,b≠x→s.heap.get? b=some o→h'.get? b=some o) →
      Q () { s with heap:=h',toks:=s.toks + 2 }):wpAny (model prog w) A (setAttr (.ref x) nm v) Q E s:=by
  have J:InstAt s.heap x ⟨.ref C,none,.fields vs,sl⟩ C none:=⟨hx,rfl,rfl,True.intro⟩
  refine set_plain X J hs (osa_X (s:={ s with toks:=s.toks + 1 }) (r:=none) X J hp ht fun b=>?_)
  obtain ⟨cdt,hcd,hdc⟩:=any_some hh
  refine wpAny_bind (wpAny_pure (wpAny_bind (wpAny_bind (wpAny_loadPart hx (wpAny_bind (Looks.here (s:={ s with toks:=s.toks + 1 }) (looks_clsIn X hcd) ?_))))))
  rw [hdc]
  have hxz:x≠s.heap.objs.size:=Nat.ne_of_lt (Heap.lt_size hx)
  have hx1:(s.heap.push { cls:=.type "dict",data:=.dict #[] }).get? x=some ⟨.ref C,none,.fields vs,sl⟩:=Heap.get?_push_of_some _ hx
  refine wpAny_bind (wpAny_alloc (wpAny_bind (wpAny_update hx1 ?_)))
  refine wpAny_pure (a:=some s.heap.objs.size) ?_
  have hx2:((s.heap.push { cls:=.type "dict",data:=.dict #[] }).update x fun o=>{ cls:=o.cls,dict:=some s.heap.objs.size,data:=o.data,slots:=o.slots }).get? x=some ⟨.ref C,some s.heap.objs.size,.fields vs,sl⟩:=by
    rw [Heap.get?_update_self _ hx1 rfl]
  have hgx:((s.heap.push { cls:=.type "dict",data:=.dict #[] }).update x fun o=>{ cls:=o.cls,dict:=some s.heap.objs.size,data:=o.data,slots:=o.slots }).get? s.heap.objs.size=some { cls:=.type "dict",data:=.dict #[] } :=
    (Heap.get?_update_ne _ _ _ _ hxz.symm).trans (Heap.get?_push_at rfl rfl)
  have hnd:((s.heap.push { cls:=.type "dict",data:=.dict #[] }).update x fun o=>{ cls:=o.cls,dict:=some s.heap.objs.size,data:=o.data,slots:=o.slots }).Ns s.heap.objs.size (fun _=>none) :=
    ⟨_,#[],_,hgx,rfl,fun e he=>absurd he (by simp),fun _=>rfl⟩
  refine wpAny_bind (wpAny_pure (wpAny_bind (wpAny_nsSet1 (Heap.Ns1.of_empty hnd) fun h' hn' hs'=>?_)))
  obtain ⟨oD,esD,epD,hoE,hdE,hcE⟩:=hn'.count (Within.cons nm v Within.nil)
  refine wpAny_bind (wpAny_lookBehind hoE (by rw [hdE];exact pastItsLine_dict (Nat.le_trans hcE (by rw [List.length_cons,List.length_nil,sizeLine_eq];omega))) ?_)
  refine wpAny_pure (h h' ((hs'.2 x hxz).trans hx2) hn' fun b o hbb q=>?_)
  exact (hs'.2 b (Nat.ne_of_lt (Heap.lt_size q))).trans ((Heap.get?_update_ne _ _ _ _ hbb).trans (Heap.get?_push_of_some _ q))
theorem setX_old {Q:Unit→Shared→Prop} {dxa:Addr} {mA:Str→Option Value} {ns:List Str} (X:K.In s.heap) (hx:s.heap.get? x=some ⟨.ref C,some dxa,.fields vs,sl⟩) (hn:s.heap.Ns1 dxa mA) (hne:dxa≠x)
    (hs:findIn K (.ref C) "__setattr__"=some (some (.builtin "object.__setattr__"))) (hp:excOver K C=true) (ht:takerIn K C nm=some none) (hh:hasDictIn K C=true) (hw:Within mA ns) (hsz:ns.length < sizeLine)
    (h:∀ h',h'.Ns1 dxa (fun y=>if y=nm then some v else mA y)→(∀ b o,b≠dxa→s.heap.get? b=some o→h'.get? b=some o) →
      Q () { s with heap:=h',toks:=s.toks + 2 }):wpAny (model prog w) A (setAttr (.ref x) nm v) Q E s:=by
  obtain ⟨od,hov,hl⟩:=L2.lookIn_ns hn
  have J:InstAt s.heap x ⟨.ref C,some dxa,.fields vs,sl⟩ C (some od):=⟨hx,rfl,rfl,hov⟩
  refine set_plain X J hs (osa_X (s:={ s with toks:=s.toks + 1 }) (r:=none) X J hp ht fun b=>?_)
  obtain ⟨cdt,hcd,hdc⟩:=any_some hh
  refine wpAny_bind (wpAny_pure (wpAny_bind (wpAny_bind (wpAny_loadPart hx (wpAny_bind (Looks.here (s:={ s with toks:=s.toks + 1 }) (looks_clsIn X hcd) ?_))))))
  rw [hdc]
  refine wpAny_pure (a:=some dxa) (wpAny_bind (wpAny_pure (wpAny_bind ?_)))
  refine wpAny_nsSet1 (s:={ s with toks:=s.toks + 1 }) hn fun h' hn' hs'=>?_
  obtain ⟨oD,esD,epD,hoE,hdE,hcE⟩:=hn'.count (Within.cons nm v hw)
  refine wpAny_bind (wpAny_lookBehind hoE (by rw [hdE];exact pastItsLine_dict (Nat.le_trans hcE (by rw [List.length_cons];omega))) ?_)
  exact wpAny_pure (h h' hn' fun b o hbb q=>(hs'.2 b hbb).trans q)
end
end PySem.W
namespace PySem.W
open PySem PySem.Spec PySem.Calls PyProof.Rows Builtin Builtin.ObjectAttr Builtin.Getset_descriptor
section
variable {prog:Program} {w:World} {A:Around} {K:Frag} {C x:Addr} {s:Shared} {E:Value→Shared→Prop} {ox:Obj} {od:Option Obj} {nm:Str} {v:Value} {Q:Value→Shared→Prop} {expr:Bool}
theorem jNu {h:Heap} {g:Array GenState} {d:Drawn} {t:Nat} {os:OsState} {tk:Tok} {R:Result→Shared→Prop} (X:K.In h) (I:InstAt h x ox C od) (hp:excOver K C=true) (hf:findObj K C od nm=some (.value v)) (hq:R (.ok (.ret v)) ⟨h,g,d,t,os⟩) :
    codeAny (model prog w) A (.call (.builtin "BaseException.__getattribute__") ⟨[.ref x,.str nm tk],[]⟩) R ⟨h,g,d,t,os⟩:=by
  obtain ⟨cdt,hcd,hov⟩:=any_some hp
  have nem:cdt.mro.isEmpty=false:=by cases q:cdt.mro with | nil=>rw [q] at hov;cases hov | cons _ _=>rfl
  have sub:Looks (model prog w) h (isInstance (.ref x) (.type "BaseException")) true:=I.type.andThen (looks_mroIn X (by unfold mroIn;rw [hcd,Option.bind_some,if_neg (by rw [nem];decide),jKH (by decide +kernel) hov]))
  have l0:=I.type (M:=model prog w)
  have l1:=looks_find (M:=model prog w) X I hf
  refine codeAny_call_builtin (by decide +kernel) PySem.F.entry_bexc_ga (@check_slot (model prog w) _ _ _ "BaseException.__getattribute__" "BaseException" "__getattribute__" (.ref x) [.str nm tk] [] _ (by decide +kernel) (by decide +kernel) sub (PySem.F.args_bexc_ga (.ref x) (.str nm tk)) ?_)
  refine wpAny_bind (wpAny_pure (wpAny_bind (wpAny_pure (wpAny_bind (l0.at (wpAny_bind (l1.at ?_)))))))
  exact wpAny_pure hq
theorem getX (X:K.In s.heap) (I:InstAt s.heap x ox C od) (hga:findIn K (.ref C) "__getattribute__"=some (some (.builtin "BaseException.__getattribute__"))) (hgn:findIn K (.ref C) "__getattr__"=some none) (hp:excOver K C=true)
    (hf:findObj K C od nm=some (.value v)) (hhd:handedIn v=true) (h:Q v { s with toks:=s.toks + 1 }):wpAny (model prog w) A (getAttr (.ref x) nm expr) Q E s:=by
  obtain ⟨hp',g,d,t,os⟩:=s
  have l0:=I.type (M:=model prog w)
  have l1:=looks_findIn (M:=model prog w) X hga
  have l2:=looks_findIn (M:=model prog w) X hgn
  have f3:bindSpecial (.builtin "BaseException.__getattribute__") (.ref x)=pure (.builtin "BaseException.__getattribute__",[.ref x]) :=
    (Slot.of (T:="ValueError") (name:="__getattribute__") (owner:="BaseException") (n:="__getattribute__") (by rw [typeLookup_type,builtinLookup_eq_fast];kernel_rfl) (by decide +kernel) (by decide +kernel) (by decide +kernel)
      (.inl (by decide +kernel)) (by rw [isSubtype_type];kernel_rfl)).bind (.ref x)
  have hxo:(expr && onTheHeap (Value.builtin "BaseException.__getattribute__"))=false:=by cases expr <;> rfl
  unfold getAttr getAttrBy
  refine wpAny_bind (wpAny_mkText (wpAny_holding (wpAny_bind (l0.at (wpAny_bind (l1.at ?_))))))
  have hx2:(onTheHeap (Value.ref C) && Value.builtin "BaseException.__getattribute__" == Value.builtin "object.__getattribute__")=false:=by
    rw [show (Value.builtin "BaseException.__getattribute__" == Value.builtin "object.__getattribute__")=false by decide +kernel,Bool.and_false]
  dsimp only at l0 l1 l2 X I h ⊢
  rw [hx2,if_neg Bool.false_ne_true]
  unfold getAttrByItsOwn
  refine wpAny_bind (l2.at ?_)
  repeat (any_goals first | assumption | wp_step)
  refine jNu X I hp hf ?_
  show wpAny (model prog w) A (handedOut v) _ _ _
  rw [handedOut_of hhd];exact wpAny_pure h
end
end PySem.W
namespace L2
open PySem PyProof.Rows PySem.Spec PySem.Calls
noncomputable def XO (e C:Addr) (d:Option Addr):HO:=.ext fun h=>∃ t0,h.get? e=some ⟨.ref C,d,.fields #[.ref t0,.none,.none,.none,.bool false,.none],#[]⟩
noncomputable def XC (e C:Addr) (d:Option Addr):HO:=.ext fun h=>∃ vs sl,h.get? e=some ⟨.ref C,d,.fields vs,sl⟩∧vs[2]?=some .none
noncomputable def XD (a:Addr) (fs:List (Str×V)):HO:=.ext fun h=>fs.length≤1000∧∃ mA,h.Ns1 a mA∧(∀ f,jCp (fs.lookup f) (mA f))∧PySem.Within mA (fs.map (·.1))
noncomputable def IsX (H:Hp) (e C:Addr) (d:Option Addr):Prop:=H e=some (XO e C d)∨H e=some (XC e C d)
section
variable {P:Program} {w:World} {H:Hp} {h:Heap} {e C a:Addr} {d:Option Addr} {fs:List (Str×V)}
theorem xo_ok {t0:Addr} (q:h.get? e=some ⟨.ref C,d,.fields #[.ref t0,.none,.none,.none,.bool false,.none],#[]⟩):jA3 P w H h e (XO e C d) :=
  ⟨⟨t0,q⟩,⟨_,q⟩,fun _ _ ⟨t,z⟩ k=>⟨t,k _ z⟩⟩
theorem xc_ok {vs:Array Value} {sl:Array (Option Value)} (q:h.get? e=some ⟨.ref C,d,.fields vs,sl⟩) (c:vs[2]?=some .none):jA3 P w H h e (XC e C d) :=
  ⟨⟨vs,sl,q,c⟩,⟨_,q⟩,fun _ _ ⟨v,s,z,c⟩ k=>⟨v,s,k _ z,c⟩⟩
theorem xd_ok {mA:Str→Option Value} (l:fs.length≤1000) (n:h.Ns1 a mA) (r:∀ f,jCp (fs.lookup f) (mA f)) (wi:PySem.Within mA (fs.map (·.1))):jA3 P w H h a (XD a fs) :=
  ⟨⟨l,mA,n,r,wi⟩,let ⟨o,_,_,q,_⟩:=n;⟨o,q⟩,fun _ _ ⟨l,m,n,r,z⟩ k=>⟨l,m,n.at k,r,z⟩⟩
theorem jG8 (hok:HOk P w H h) (q:H e=some (XO e C d)):∃ t0,h.get? e=some ⟨.ref C,d,.fields #[.ref t0,.none,.none,.none,.bool false,.none],#[]⟩ :=
  (show jA3 P w H h e (XO e C d) from hok e _ q).1
theorem jMS (hok:HOk P w H h) (q:IsX H e C d):∃ vs sl,h.get? e=some ⟨.ref C,d,.fields vs,sl⟩∧vs[2]?=some .none:=by
  rcases q with q | q
  · obtain ⟨t,z⟩:=jG8 hok q;exact ⟨_,_,z,rfl⟩
  · exact (show jA3 P w H h e (XC e C d) from hok e _ q).1
theorem jKn (hok:HOk P w H h) (q:IsX H e C d):∃ vs sl,h.get? e=some ⟨.ref C,d,.fields vs,sl⟩:=let ⟨vs,sl,z,_⟩:=jMS hok q;⟨vs,sl,z⟩
theorem jMT (hok:HOk P w H h) (q:H a=some (XD a fs)):fs.length≤1000∧∃ mA,h.Ns1 a mA∧(∀ f,jCp (fs.lookup f) (mA f))∧PySem.Within mA (fs.map (·.1)) :=
  (show jA3 P w H h a (XD a fs) from hok a _ q).1
end
structure jEP (K:PySem.W.Frag) (C:Addr):Prop where
  hd:PySem.W.hasDictIn K C=true
  po:PySem.W.excOver K C=true
  sa:PySem.W.findIn K (.ref C) "__setattr__"=some (some (.builtin "object.__setattr__"))
  ga:PySem.W.findIn K (.ref C) "__getattribute__"=some (some (.builtin "BaseException.__getattribute__"))
  gn:PySem.W.findIn K (.ref C) "__getattr__"=some none
section
variable {X:Cx} {pins:List (Addr×Obj)} {σ:St} {H:Hp} {s:Shared} {a C dx:Addr} {d:Option Addr} {fs:List (Str×V)} {f:Str} {v y:V} {u:Value} {A:Around} {E:Value→Shared→Prop}
theorem getX_ok {b:Bool} {Q:Value→Shared→Prop} (I:Inv X pins σ H s) (e:IsX H a C (some dx)) (ed:H dx=some (XD dx fs)) (c:jEP X.K C) (n:jAy X.K C f) (l:fs.lookup f=some v)
    (h:∀ u s',Inv X pins σ H s'→jAB v u→Q u s'):wpAny (model X.prog X.w) A (getAttr (.ref a) f b) Q E s:=by
  obtain ⟨vs,sl,hx⟩:=jKn I.hok e
  obtain ⟨_,mA,hn,r,_⟩:=jMT I.hok ed
  obtain ⟨u,hu,ru⟩:=jCp.some_of (v:=v) (o:=mA f) (by rw [← l];exact r f)
  obtain ⟨od,ho,hl⟩:=lookIn_ns hn
  exact PySem.W.getX I.kIn (ox:=⟨.ref C,some dx,.fields vs,sl⟩) (od:=some od) ⟨hx,rfl,rfl,ho⟩ c.ga c.gn c.po (PySem.W.findObj_own c.hd n rfl (by rw [hl,hu])) (jJx ru) (h u _ (I.tok _) ru)
theorem jNv {Q:Unit→Shared→Prop} (I:Inv X pins σ H s) (e:H a=some (XO a C none)) (c:jEP X.K C) (n:jAy X.K C f) (ry:jAB y u)
    (h:∀ dx s',H dx=none→dx≠a→Inv X pins σ (upd (upd H dx (XD dx [(f,y)])) a (XO a C (some dx))) s'→Q () s'):wpAny (model X.prog X.w) A (setAttr (.ref a) f u) Q E s:=by
  obtain ⟨t0,hx⟩:=jG8 I.hok e
  refine PySem.W.setX_new I.kIn hx c.sa c.po n.taker c.hd fun h' h1 h2 h3=>?_
  have hf:=I.hok.fresh (Nat.le_refl s.heap.objs.size)
  have hne:s.heap.objs.size≠a:=fun z=>by rw [z,e] at hf;cases hf
  obtain ⟨od,es,ep,q1,q2,q3⟩:=id h2
  have hfr:od.isFreed=false:=(Heap.get?_some_iff.mp q1).2
  have g1:(s.heap.push od).get? s.heap.objs.size=some od:=Heap.get?_push_size s.heap hfr
  have I1:Inv X pins σ (upd H s.heap.objs.size (XD s.heap.objs.size [(f,y)])) { s with heap:=s.heap.push od,toks:=s.toks }:=by
    refine I.laid (fun b o q=>Heap.get?_push_of_some _ q) (Nat.le_refl _) (xd_ok (by simp) (h2.at fun o q=>?_) (fun g=>?_) (fun g hg=>?_))
    · rw [q1] at q;cases q;exact g1
    · show jCp ([(f,y)].lookup g) (if g=f then some u else none)
      by_cases z:g=f
      · have hb:(g == f)=true:=beq_iff_eq.mpr z
        simp only [List.lookup,hb,if_pos z];exact ry
      · have hb:(g == f)=false:=beq_eq_false_iff_ne.mpr z
        simp only [List.lookup,hb,if_neg z];exact True.intro
    · by_cases z:g=f
      · rw [z];exact .head _
      · exact absurd (if_neg z) hg
  refine h s.heap.objs.size _ hf hne (I1.write (x:=a) (e:=a) (t':=s.toks + 2) (h':=h') (by rw [jAi (Ne.symm hne),e];exact True.intro) (.inl rfl) (fun b o hb q=>?_) ⟨_,h1⟩ (xo_ok h1))
  by_cases z:b=s.heap.objs.size
  · subst z;rw [g1] at q;cases q;exact q1
  · have hb':s.heap.get? b=some o:=by rw [← q];exact (Heap.get?_push_ne _ _ _ z).symm
    exact h3 b o hb hb'
theorem jNw {Q:Unit→Shared→Prop} (I:Inv X pins σ H s) (e:IsX H a C (some dx)) (ed:H dx=some (XD dx fs)) (hne:dx≠a) (c:jEP X.K C) (n:jAy X.K C f) (hl:fs.length < 1000) (ry:jAB y u)
    (h:∀ s',Inv X pins σ (upd H dx (XD dx (jBi f y fs))) s'→Q () s'):wpAny (model X.prog X.w) A (setAttr (.ref a) f u) Q E s:=by
  obtain ⟨vs,sl,hx⟩:=jKn I.hok e
  obtain ⟨_,mA,hn,r,wi⟩:=jMT I.hok ed
  refine PySem.W.setX_old I.kIn hx hn hne c.sa c.po n.taker c.hd wi (by rw [List.length_map,sizeLine_eq];omega) fun h' h1 h2=>h _ ?_
  refine I.write (x:=dx) (e:=dx) (by rw [ed];exact True.intro) (.inl rfl) h2 (let ⟨o,_,_,q,_⟩:=h1;⟨o,q⟩) (xd_ok ?_ h1 (fun g=>?_) (fun g hg=>?_))
  · have:=jGh f y fs;omega
  · show jCp ((jBi f y fs).lookup g) (if g=f then some u else mA g)
    rw [jGg]
    by_cases q:g=f
    · rw [if_pos q,if_pos q];exact ry
    · rw [if_neg q,if_neg q];exact r g
  · by_cases q:g=f
    · rw [q];exact (jE6 f y fs).1
    · refine (jE6 f y fs).2 g (wi g fun z=>hg ?_)
      show (if g=f then some u else mA g)=none
      rw [if_neg q];exact z
end
end L2
namespace PySem.W
open PySem PySem.Spec PySem.Calls PyProof.Rows Builtin Builtin.ObjectAttr Builtin.Getset_descriptor
section
variable {prog:Program} {w:World} {A:Around} {K:Frag} {C x t0:Addr} {s:Shared} {E:Value→Shared→Prop} {od:Option Addr} {Q:Value→Shared→Prop}
theorem initX {us:List Value} (X:K.In s.heap) (hx:s.heap.get? x=some ⟨.ref C,od,.fields #[.ref t0,.none,.none,.none,.bool false,.none],#[]⟩) (e:excMk K C=true) (hz:us.length≤sizeLine)
    (h:∀ h',h'.get? x=some ⟨.ref C,od,.fields #[.ref s.heap.objs.size,.none,.none,.none,.bool false,.none],#[]⟩→(∀ b o,b≠x→s.heap.get? b=some o→h'.get? b=some o)→Q .none { s with heap:=h' }) :
    wpAny (model prog w) A (call (.builtin "ValueError.__init__") (.ref x :: us)) Q E s:=by
  obtain ⟨bm,⟨N,nm,q,bs,hdct,sn,sub,ab,col,dd,k0,k1,k2,k3,k5,hC⟩,T⟩:=jG6 X e
  have FB:=PySem.F.excBase_ValueError
  obtain ⟨hp,g,d,t,os⟩:=s
  refine wpAny_call (codeAny_call_builtin FB.init.plain FB.initEntry (wpAny_check_init_subT FB T hC hx rfl ?_))
  delta Builtin.«BaseException.__init__»
  dsimp only
  rw [if_neg (by simp)]
  unfold Builtin.BaseException.bexcPut newTuple
  have hx1:=Heap.get?_push_of_some (h:=hp) { cls:=.type "tuple",data:=.seq us.toArray } hx
  refine wpAny_bind (wpAny_newObj_type (wpAny_bind (wpAny_bind (wpAny_field hx1 rfl rfl (wpAny_bind (wpAny_setField hx1 rfl (by show 0 < 6;decide) ?_))))) (by show us.toArray.size≤sizeLine;rw [List.size_toArray];exact hz))
  refine wpAny_letGo (wpAny_pure (h _ ?_ fun b o hb hq=>?_))
  · rw [Heap.get?_update_self _ hx1 rfl]
    rfl
  · exact (Heap.get?_update_ne _ _ _ _ hb).trans (Heap.get?_push_of_some _ hq)
end
end PySem.W
namespace PySem.W
open PySem PySem.Spec PySem.Calls PyProof.Rows Builtin Builtin.ObjectAttr Builtin.Getset_descriptor
section
variable {prog:Program} {w:World} {A:Around} {K:Frag} {C x:Addr} {s:Shared} {E:Value→Shared→Prop} {ox:Obj} {od:Obj}
structure ClsAt (K:Frag) (C:Addr):Prop where
  hd:hasDictIn K C=true
  po:excOver K C=true
  ga:findIn K (.ref C) "__getattribute__"=some (some (.builtin "BaseException.__getattribute__"))
  gn:findIn K (.ref C) "__getattr__"=some none
  ca:findIn K (.ref C) "__class__"=some (some (.builtin "object.__class__"))
  cn:specialIn K (.builtin "object.__class__") "__get__"=some (some (.builtin "getset_descriptor.__get__"))
  ct:takesIn K (.builtin "object.__class__")=some true
end
end PySem.W
namespace L2
open PySem PyProof.Rows PySem.Spec PySem.Calls
theorem jEP.at {K:PySem.W.Frag} {C:Addr} (c:jEP K C) (ca:PySem.W.findIn K (.ref C) "__class__"=some (some (.builtin "object.__class__")))
    (cn:PySem.W.specialIn K (.builtin "object.__class__") "__get__"=some (some (.builtin "getset_descriptor.__get__"))) (ct:PySem.W.takesIn K (.builtin "object.__class__")=some true):PySem.W.ClsAt K C :=
  ⟨c.hd,c.po,c.ga,c.gn,ca,cn,ct⟩
theorem jNx {H:Hp} {a:Addr} {o:HO} (e:H a=some o):upd H a o=H:=by
  funext b
  unfold upd
  by_cases q:b=a
  · rw [if_pos q,q,e]
  · rw [if_neg q]
structure MkX (K:PySem.W.Frag) (C f:Addr):Prop where
  makes:PySem.W.excMk K C=true
  init:PySem.W.findIn K (.ref C) "__init__"=some (some (.ref f))
  fn:PySem.W.isFn K (.ref f)=true
  kp:PySem.W.keepIn K (.ref C)=true
noncomputable def jMU (C:Addr) (sp:Sp) (E:XK) (t:TA):TE:=fun σ H Q=>t σ H fun vs H1=>∀ x,H1 x=none→sp (.ref x :: vs) (upd H1 x (XO x C none)) (fun v H2=>v=.non∧Q (.ref x) H2) E
section
variable {X:Cx} {CX:CXT} {k:Nat} {f C:Addr} {fd:FuncData} {ps:List Str} {sp:Sp} {E:XK} {x m:Str} {p pos apos:Pos} {e o:Expr} {es:List Expr} {ta:TE} {t:TA}
theorem Inv.madeX {pins:List (Addr×Obj)} {σ:St} {H:Hp} {s:Shared} {us:List Value} (I:Inv X pins σ H s) :
    Inv X pins σ (upd H (s.heap.objs.size + 1) (XO (s.heap.objs.size + 1) C none)) { s with heap:=(s.heap.push (PySem.W.excTup us)).push (PySem.W.excNew C s.heap.objs.size) }:=by
  have e2:((s.heap.push (PySem.W.excTup us)).push (PySem.W.excNew C s.heap.objs.size)).get? (s.heap.objs.size + 1)=some (PySem.W.excNew C s.heap.objs.size):=by
    have:=Heap.get?_push_size (s.heap.push (PySem.W.excTup us)) (o:=PySem.W.excNew C s.heap.objs.size) rfl
    rwa [Heap.size_push] at this
  have I1:=I.kept (h':=s.heap.push (PySem.W.excTup us)) (t':=s.toks) (fun b u q=>Heap.get?_push_of_some _ q)
  exact I1.laid (a:=s.heap.objs.size + 1) (t':=s.toks) (fun b u q=>Heap.get?_push_of_some _ q) (Nat.le_of_eq (Heap.size_push _ _)) (xo_ok e2)
theorem jMV {pins:List (Addr×Obj)} {σ:St} {H:Hp} {s:Shared} {Q:VK} {us:List Value} {vs:List V} (M:MkX X.K C f) (F:jAh X.prog X.w X.K X.mg X.base CX k f fd ps sp) (hr:jBc (k + 1) X.A) (hb:jCo X.K fd ps [])
    (hx:jE7 CX X E) (hz:ps.length≤1000) (I:Inv X pins σ H s) (r:jAI vs us)
    (h:∀ x,H x=none→sp (.ref x :: vs) (upd H x (XO x C none)) (fun v H2=>v=.non∧Q (.ref x) H2) E) :
    wpAny (model X.prog X.w) X.A (call (.ref C) us) (EP X pins σ Q) X.xe s:=by
  have hq:=h (s.heap.objs.size + 1) (I.hok.fresh (Nat.le_succ _))
  have I2:=Inv.madeX (C:=C) (us:=us) I
  have r2:jAI (V.ref (s.heap.objs.size + 1) :: vs) (Value.ref (s.heap.objs.size + 1) :: us):=.cons rfl r
  have hl:(Value.ref (s.heap.objs.size + 1) :: us).length=ps.length:=by
    have e:=r2.length
    rw [F.len _ _ _ _ hq] at e
    exact e.symm
  have hb2:=hb { s with heap:=(s.heap.push (PySem.W.excTup us)).push (PySem.W.excNew C s.heap.objs.size) } (Value.ref (s.heap.objs.size + 1) :: us) I2.kIn (by rw [List.append_nil];exact hl)
  rw [List.append_nil] at hb2
  refine wpAny_call (PySem.W.make_X (f:=f) I.kIn M.makes M.init (beq_iff_eq.mp M.fn) (by rw [List.length_cons] at hl;rw [sizeLine_eq];omega) (codeAny_mono (F.run _ X.stack _ _ ⟨Value.ref (s.heap.objs.size + 1) :: us,[]⟩ (Value.ref (s.heap.objs.size + 1) :: us) _ _ E (hr.make C us [])
    (I2.env0.make C us []) hb2 r2 hq) fun r s' hq'=>?_))
  cases r with
  | error e=>exact hx pins σ _ _ e s' I2 hq'
  | ok fl =>
    cases fl with
    | ret u =>
      obtain ⟨v,H',I3,rv,ev,q3⟩:=I2.after hq'
      subst ev
      exact ⟨rv,⟨V.ref (s.heap.objs.size + 1),H',I3,rfl,q3⟩⟩
    | next=>exact False.elim hq'
    | brk=>exact False.elim hq'
    | cont=>exact False.elim hq'
theorem jNy (M:MkX X.K C f) (F:jAh X.prog X.w X.K X.mg X.base CX k f fd ps sp) (hr:jBc (k + 1) X.A) (hg:Gl X x) (hm:X.mg x=some (.ref C)) (hb:jCo X.K fd ps []) (hx:jE7 CX X E) (hz:ps.length≤1000)
    (ha:PA X (e :: es) t) (hdb:(x == ("__debug__":Str))=false:=by decide) (he:starEach (e :: es) X.env=(false,eval e X.env) :: starEach es X.env:=by rfl) (hpl:(backTo pos (starEach es X.env)).any (·.1)=false:=by rfl) :
    PE X (.Call (.Name x p) (e :: es) [] pos) (jMU C sp E t):=by
  intro pins s σ H Q I h
  refine wpAny_Call_Name_kw (jDM I hg hm ?_ hdb)
  refine PySem.W.callWith_K (h₀:=X.base) I.ok.mod.kin M.kp (thn (ha pos pins s σ H _ I h) fun us s1 ⟨vs,H1,I1,r,q⟩=>⟨I1.kIn,?_⟩) he hpl
  exact jMV M F hr hb hx hz I1 r q
structure InX (K:PySem.W.Frag) (B:Addr):Prop where
  sp:PySem.W.specialIn K (.ref B) "__getattribute__"=some (some (.builtin "type.__getattribute__"))
  rd:PySem.W.readsIn K B (.type "type")=true
  fc:PySem.W.findCls K (.ref B) (.type "type") "__init__"=some (.val (.builtin "ValueError.__init__"))
noncomputable def tInX (K:PySem.W.Frag) (t:TA):TE:=fun σ H Q=>t σ H fun vs H1=>∃ a C d xs,vs=.ref a :: xs∧xs.length≤1000∧H1 a=some (XO a C d)∧PySem.W.excMk K C=true∧Q .non H1
theorem jEQ {B:Addr} {pl:Sem Bool} (J:InX X.K B) (hg:Gl X x) (hm:X.mg x=some (.ref B)) (ha:PA X (e :: es) t) (hdb:(x == ("__debug__":Str))=false:=by decide)
    (hst:starEach (e :: es) X.env=(false,eval e X.env) :: starEach es X.env:=by rfl) (hpl:(backTo pos (starEach es X.env)).any (·.1)=false:=by rfl)
    (ht:eval (.Call (.Attribute (.Name x p) "__init__" apos) (e :: es) [] pos) X.env=(do
      let ov ← eval (.Name x p) X.env
      standAt apos.atName
      let (f,first) ← holding [ov] (getMethod ov "__init__" pl)
      callWith pos f first (backTo pos (starEach (e :: es) X.env)) (backToKw pos (keywordEach [] X.env))):=by rfl) :
    PE X (.Call (.Attribute (.Name x p) "__init__" apos) (e :: es) [] pos) (tInX X.K t):=by
  intro pins s σ H Q I h
  refine PySem.W.methodCall_KW (pl:=pl) (jDM I hg hm ?_ hdb) ht
  refine PySem.W.method_cls I.kIn J.sp (PySem.W.cls_value I.kIn J.rd J.fc rfl ?_)
  have hA:=ha pos pins _ σ H _ (I.tok (s.toks + 1)) h
  show wpAny _ _ (callWith pos (.builtin "ValueError.__init__") [] (backTo pos (starEach (e :: es) X.env)) []) _ _ _
  rw [hst] at hA ⊢
  refine Calls.callWith_builtin (by show (false || (backTo pos (starEach es X.env)).any (·.1))=false;rw [hpl] <;> rfl) (Calls.evalArgs_plain ?_)
  refine thn hA fun us s2 ⟨vs,H2,I2,r2,a,C,d,xs,ev,hl,ea,mk,q⟩=>?_
  subst ev
  cases r2 with
  | cons ru rr =>
    cases ru
    obtain ⟨t0,hx⟩:=jG8 I2.hok ea
    refine PySem.W.initX I2.kIn hx mk (by rw [← rr.length,sizeLine_eq];omega) fun h' h1 h2=>⟨.non,H2,?_,rfl,q⟩
    have:=I2.write (x:=a) (e:=a) (o:=XO a C d) (t':=s2.toks) (h':=h') (by rw [ea];exact True.intro) (.inl rfl) h2 ⟨_,h1⟩ (xo_ok h1)
    rwa [jNx ea] at this
end
end L2
namespace L2
open PySem PyProof.Rows PySem.Spec PySem.Calls
noncomputable def XF (H:Hp) (e C:Addr) (fs:List (Str×V)):Prop:=∃ dx,H e=some (XO e C (some dx))∧H dx=some (XD dx fs)∧dx≠e
noncomputable def sFldX (K:PySem.W.Frag) (ta tv:TE) (f:Str):TS:=fun D σ H=>tv σ H fun y H1=>ta σ H1 fun x H2 =>
  (∃ a C,x=.ref a∧H2 a=some (XO a C none)∧jEP K C∧jAy K C f∧∀ dx,H2 dx=none→dx≠a→D.nx σ (upd (upd H2 dx (XD dx [(f,y)])) a (XO a C (some dx)))) ∨
  (∃ a C dx fs,x=.ref a∧IsX H2 a C (some dx)∧H2 dx=some (XD dx fs)∧dx≠a∧jEP K C∧jAy K C f∧fs.length < 1000∧D.nx σ (upd H2 dx (XD dx (jBi f y fs))))
noncomputable def tFldX (K:PySem.W.Frag) (ta:TE) (f:Str):TE:=fun σ H Q=>ta σ H fun x H1=>∃ a C fs v,x=.ref a∧XF H1 a C fs∧jEP K C∧jAy K C f∧fs.lookup f=some v∧Q v H1
structure ClsI (K:PySem.W.Frag) (C:Addr):Prop where
  c:jEP K C
  ca:PySem.W.findIn K (.ref C) "__class__"=some (some (.builtin "object.__class__"))
  cn:PySem.W.specialIn K (.builtin "object.__class__") "__get__"=some (some (.builtin "getset_descriptor.__get__"))
  ct:PySem.W.takesIn K (.builtin "object.__class__")=some true
noncomputable def clV:V→Value
  | .ref a=>.ref a
  | .ty n=>.type n
  | _=>.none
noncomputable def rIsX (K:PySem.W.Frag):List V→Hp→VK→Prop:=fun xs H Q=>∃ a C fs c b,xs=[.ref a,c]∧XF H a C fs∧ClsI K C∧(∀ u,jAB c u→u=clV c)∧PySem.W.kitOne K (.ref C) (clV c)=some b∧Q (.bl b) H
noncomputable def rUpd:V→List V→Hp→VK→Prop:=fun x vs H Q=>∃ d e kvs more,x=.ref d∧vs=[.ref e]∧H d=some (.dK kvs)∧H e=some (.dK more)∧d≠e∧kvs.length + more.length≤1000∧Q .non (upd H d (.dK (jC_ kvs more)))
section
variable {X:Cx} {o e value:Expr} {f:Str} {pos pos' tpos:Pos} {ta tv:TE}
theorem jFB (ha:PE X o ta) (hv:PE X value tv) (hs:swapsWith value (some (.Attribute o f pos')) pos.line X.env=pure false):PS X (.Assign [.Attribute o f pos'] value pos) (sFldX X.K ta tv f):=by
  intro pins s σ H D I h
  refine plainObj_wpAny_Assign_Attribute (thn (hv pins s σ H _ I h) fun u s1 ⟨y,H1,I1,ry,q⟩=>thn (ha pins s1 σ H1 _ I1 q) fun ov s2 ⟨x,H2,I2,rx,q2⟩=>?_) hs
  rcases q2 with ⟨a,C,ex,ea,c,n,q3⟩ | ⟨a,C,dx,fs,ex,ea,ed,ne,c,n,l,q3⟩
  · subst ex
    obtain rfl:ov=Value.ref a:=rx
    exact jNv I2 ea c n ry fun dx s3 h1 h2 I3=>⟨σ,_,I3,q3 dx h1 h2⟩
  · subst ex
    obtain rfl:ov=Value.ref a:=rx
    exact jNw I2 ea ed ne c n l ry fun s3 I3=>⟨σ,_,I3,q3⟩
theorem jMW:MtR X "dict.update" rUpd:=by
  intro pins s σ H x vs v us Q I rx rv h
  obtain ⟨d,e,kvs,more,rfl,rfl,hd,he,ne,hz,q⟩:=h
  cases rx
  obtain ⟨u,rfl,r1⟩:=jFm rv
  cases (show u=Value.ref e from r1)
  obtain ⟨z1,m1,vs1,k1,d1⟩:=jKk I.hok hd
  obtain ⟨z2,m2,vs2,k2,d2⟩:=jKk I.hok he
  have l1:=k1.length
  have l2:=k2.length
  refine call_meetsIn PySem.F.slot_dict_update d1.typeIs PySem.F.entry_dict_update (PySem.F.args_dict_update_2 _ _) (meets_dict_update (jBe X.prog X.w) d e ne m2)
    ⟨vs1,vs2,d1,d2,(by rw [← l1,← l2,sizeLine_eq];omega),fun h' hm _ hs=>⟨.non,_,?_,rfl,q⟩⟩
  have hl:(jC_ kvs more).length≤sizeLine:=by
    have:=jFf more kvs
    rw [sizeLine_eq];omega
  exact jHr I (by rw [hd];exact True.intro) hs (let ⟨o,_,_,hq,_⟩:=hm;⟨o,hq⟩) (jG4 hl m1 (k2.merge k1) hm)
end
end L2
namespace L2
open PySem PyProof.Rows PySem.Spec PySem.Calls
noncomputable def Deq (K:PySem.W.Frag) (H:Hp):Nat→V→V→Prop
  | 0,x,y=>x=y∧jBt x=true
  | n + 1,x,y=>(x=y∧jBt x=true)∨∃ a b xs ys,x=.ref a∧y=.ref b∧((SqL K H a xs∧SqL K H b ys)∨(SqT K H a xs∧SqT K H b ys))∧xs.length=ys.length∧∀ j,j < xs.length→Deq K H n (xs.getD j .non) (ys.getD j .non)
theorem jGL {X:Cx} {pins:List (Addr×Obj)} {σ:St} {H:Hp} {s:Shared} (I:Inv X pins σ H s):∀ (n:Nat) (A:Around) (x y:V) (u v:Value),A.units + n < cLine→Deq X.K H n x y→jAB x u→jAB y v→SeqAt.EqAt A s u v true
  | 0,A,x,y,u,v,_,⟨e,f⟩,rx,ry=>by
    subst e
    have:=jKu (A:=A) (s:=s) rx ry f f
    rwa [jKC f] at this
  | n + 1,A,x,y,u,v,hu,h,rx,ry=>by
    rcases h with ⟨e,f⟩ | ⟨a,b,xs,ys,rfl,rfl,hs,hl,he⟩
    · subst e
      have:=jKu (A:=A) (s:=s) rx ry f f
      rwa [jKC f] at this
    · cases rx
      cases ry
      by_cases hab:a=b
      · subst hab;exact SeqAt.EqAt.same _
      have hu1:A.in1.units + n < cLine:=by
        have:A.in1.units=A.units + 1:=by first | rfl | exact Around.units_in1 A
        omega
      refine SeqAt.EqAt.of_refs hab ?_
      rcases hs with ⟨h1,h2⟩ | ⟨h1,h2⟩
      · obtain ⟨its,r1,l1,_⟩:=I.list h1
        obtain ⟨jts,r2,l2,_⟩:=I.list h2
        have e1:=r1.length
        have e2:=r2.length
        have:=SeqAt.RcAt.lists (A:=A) (e:=fun _=>true) l1.isList l2.isList (by simp;omega) (by omega) (fun j q1 q2=>jGL I n A.in1 _ _ _ _ hu1 (he j (by simp at q1;omega)) (jEm r1 j q1) (jEm r2 j q2))
        rwa [show (List.range its.toArray.size).all (fun _=>true)=true from List.all_eq_true.mpr fun _ _=>rfl] at this
      · obtain ⟨its,r1,l1,_⟩:=I.tuple h1
        obtain ⟨jts,r2,l2,_⟩:=I.tuple h2
        have e1:=r1.length
        have e2:=r2.length
        have:=SeqAt.RcAt.tuples (A:=A) (e:=fun _=>true) l1 l2 (by omega) (fun j q1 q2=>jGL I n A.in1 _ _ _ _ hu1 (he j (by simp at q1;omega)) (jEm r1 j q1) (jEm r2 j q2))
        rw [show (List.range (min its.toArray.size jts.toArray.size)).all (fun _=>true)=true from List.all_eq_true.mpr fun _ _=>rfl,Bool.true_and,beq_iff_eq.mpr (by simp;omega)] at this
        exact this
noncomputable def rEqD (K:PySem.W.Frag) (n:Nat):R2:=fun x y H Q=>∃ a b xs ys,x=.ref a∧y=.ref b∧SqL K H a xs∧SqL K H b ys∧xs.length=ys.length∧(∀ j,j < xs.length→Deq K H n (xs.getD j .non) (ys.getD j .non))∧Q (.bl true) H
structure jCQ (P:Program) (w:World) (K:PySem.W.Frag) (mg:Str→Option Value) (base:Heap) (k:Nat) (x:Str) (C:Addr) (ps:List Str) (sp:Sp):Prop where
  ex:∃ f fd,MkX K C f∧jAh P w K mg base CX0 k f fd ps sp∧jCo K fd ps []∧mg x=some (.ref C)
  few:ps.length≤1000
theorem jBo {X:Cx} {k:Nat} {x:Str} {C:Addr} {ps:List Str} {sp:Sp} {e:Expr} {es:List Expr} {t:TA} {p pos:Pos} (D:jCQ X.prog X.w X.K X.mg X.base k x C ps sp) (hr:jBc (k + 1) X.A) (hg:Gl X x) (ha:PA X (e :: es) t) (hdb:(x == ("__debug__":Str))=false:=by decide)
    (he:starEach (e :: es) X.env=(false,eval e X.env) :: starEach es X.env:=by rfl) (hpl:(backTo pos (starEach es X.env)).any (·.1)=false:=by rfl):PE X (.Call (.Name x p) (e :: es) [] pos) (jMU C sp E0 t):=by
  obtain ⟨f,fd,M,F,b,m⟩:=D.ex
  exact jNy M F hr hg m b jIg D.few ha hdb he hpl
noncomputable def jG9 (K:PySem.W.Frag) (C:Addr) (fs:List Str):Bool :=
  PySem.W.hasDictIn K C && PySem.W.excOver K C && PySem.W.findIn K (.ref C) "__setattr__" == some (some (.builtin "object.__setattr__")) && PySem.W.findIn K (.ref C) "__getattribute__" == some (some (.builtin "BaseException.__getattribute__")) &&
  PySem.W.findIn K (.ref C) "__getattr__" == some none && PySem.W.findIn K (.ref C) "__class__" == some (some (.builtin "object.__class__")) && fs.all fun f=>PySem.W.findIn K (.ref C) f == some none
structure XCl (K:PySem.W.Frag) (C:Addr) (fs:List Str):Prop where
  i:ClsI K C
  n:∀ f∈fs,jAy K C f
  m:PySem.W.excMk K C=true
theorem XCl.of {K:PySem.W.Frag} {C:Addr} {fs:List Str} (h:jG9 K C fs=true) (m:PySem.W.excMk K C=true) (cn:PySem.W.specialIn K (.builtin "object.__class__") "__get__"=some (some (.builtin "getset_descriptor.__get__"))) (ct:PySem.W.takesIn K (.builtin "object.__class__")=some true):XCl K C fs:=by
  unfold jG9 at h
  simp only [Bool.and_eq_true,beq_iff_eq,List.all_eq_true] at h
  obtain ⟨⟨⟨⟨⟨⟨h1,h2⟩,h3⟩,h4⟩,h5⟩,h6⟩,h7⟩:=h
  exact ⟨⟨⟨h1,h2,h3,h4,h5⟩,h6,cn,ct⟩,fun f hf=>h7 f hf,m⟩
end L2
namespace L2
open PySem PyProof.Rows PySem.Spec PySem.Calls
noncomputable def jMX (K:PySem.W.Frag) (cs:List Addr) (b:Addr):Bool :=
  (List.range cs.length).all fun i=>PySem.W.kitOne K (.ref (cs.getD i 0)) (.ref b) == some true && PySem.W.kitOne K (.ref (cs.getD i 0)) (.type "ValueError") == some true && (List.range cs.length).all fun j=>PySem.W.kitOne K (.ref (cs.getD i 0)) (.ref (cs.getD j 0)) == some (i == j)
theorem jMh {kvs:List (Key×V)} {k:Key} {v:V} (h:k ∉ kvs.map (·.1)):jCK kvs k v=kvs ++ [(k,v)]:=by
  unfold jCK
  rw [if_neg]
  intro e
  obtain ⟨p,hp,he⟩:=List.any_eq_true.mp e
  exact h (List.mem_map.mpr ⟨p,hp,of_decide_eq_true he⟩)
theorem jGM:∀ {more kvs:List (Key×V)} {ks:List Key},kvs.map (·.1) ++ more.map (·.1)=ks→ks.Nodup→jC_ kvs more=kvs ++ more
  | [],kvs,ks,_,_=>(List.append_nil _).symm
  | p :: r,kvs,ks,e,n=>by
    subst e
    have hn:p.1 ∉ kvs.map (·.1):=fun z=>by
      rw [List.map_cons,List.nodup_append] at n
      exact n.2.2 _ z _ (.head _) rfl
    show jC_ (jCK kvs p.1 p.2) r=_
    rw [jMh hn,jGM (more:=r) (kvs:=kvs ++ [(p.1,p.2)]) rfl (by rw [List.map_append,List.append_assoc];exact n),List.append_assoc]
    rfl
noncomputable def spC (m:Nat):Sp:=fun vs H Q _ =>
  (1≤m∧∃ z:Str,vs=[.str z]∧Q (.str z) H) ∨
  (2≤m∧∃ (a:Addr) (zs:List Str),vs=[.ref a]∧H a=some (.lst (zs.map V.str))∧zs.length≤100∧∀ p H',jAr H H'→H p=none→H' p=some (.lst (zs.map V.str))→Q (.ref p) H') ∨
  (3≤m∧∃ (a l:Addr) (z:Str) (zs:List Str),vs=[.ref a]∧H a=some (.tup [.str z,.ref l])∧H l=some (.lst (zs.map V.str))∧zs.length≤100 ∧
    ∀ p q H',jAr H H'→H p=none→H q=none→H' p=some (.tup [.str z,.ref q])→H' q=some (.lst (zs.map V.str))→Q (.ref p) H') ∨
  (4≤m∧∃ (a b l:Addr) (z:Str) (zs:List Str),vs=[.ref a]∧H a=some (.lst [.ref b])∧H b=some (.tup [.str z,.ref l])∧H l=some (.lst (zs.map V.str))∧zs.length≤100 ∧
    ∀ r p q H',jAr H H'→H r=none→H' r=some (.lst [.ref p])→H' p=some (.tup [.str z,.ref q])→H' q=some (.lst (zs.map V.str))→Q (.ref r) H')
end L2
namespace PySem.W
open PySem
structure Noted (e:Addr) (cl:Value) (d:Option Addr) (fr:List Addr) (off:Addr→Prop) (h h':Heap):Prop where
  exc:∃ vs sl T oT ts,h'.get? e=some ⟨cl,d,.fields vs,sl⟩∧vs[1]?=some (.ref T)∧T≠e∧h.objs.size≤T∧h'.get? T=some oT∧oT.data=.fields ts∧ts[3]?=some .none
  keep:∀ b o,b≠e→¬ off b→b ∉ fr→h.get? b=some o→h'.get? b=some o
  slot:∀ b o,b≠e→¬ off b→h.get? b=some o→∃ sl,h'.get? b=some { o with slots:=sl }
  ctx:∀ o o' vs vs',h.get? e=some o→h'.get? e=some o'→o.data=.fields vs→o'.data=.fields vs'→vs'[2]?=vs[2]?
noncomputable abbrev jKo (ws:Array Value):Obj:={ cls:=.type "traceback",dict:=none,data:=.fields ws }
section
variable {M:Model} {E:Value→Shared→Prop} {A:Around} {s:Shared}
theorem jJO {bh:Heap} {env:Env} {outer:List Env} {L e:Addr} {cl head:Value} {d:Option Addr} {vs:Array Value} {sl:Array (Option Value)} {hadNext:Bool} {Q:Unit→Shared→Prop}
    (hA:A.frames=some (env :: outer)) (hl:s.heap.FunFrames bh (env :: outer)) (hf:env.frame=some L) (he:s.heap.get? e=some ⟨cl,d,.fields vs,sl⟩) (hz:1 < vs.size)
    (k:∀ h',Noted e cl d ((env :: outer).filterMap (·.frame)) (fun _=>False) s.heap h'→Q () { s with heap:=h' }) :
    wpAny M A (do let fo ← frameOf env;let pl ← entryPlaceOf L hadNext;let tb ← EntryCells.newEntry head fo .none (rawInt L) .none pl;setField (.ref e) 1 tb) (fun _ s1=>wpAny M A (setFlight (.ref e) none) Q E s1) E s:=by
  have eno:e ∉ (env :: outer).filterMap (·.frame):=fun z=>by
    obtain ⟨_,ob,q1,q2⟩:=hl.mem z
    rw [he] at q1
    cases q1
    exact q2 vs rfl
  refine wpAny_bind (wpAny_frameOf_fun hA hl hf fun g so=>?_)
  refine wpAny_bind (wpAny_entryPlaceOf fun pla hpl=>?_)
  unfold EntryCells.newEntry;unfold newFields
  refine (wpAny_bind (wpAny_newObj_type ?_ (hpl.sizeOk5 _ _ _ _ _)))
  generalize hws:([head,.ref L,.none,rawInt L,.none] ++ (if pla.isEmpty then List.replicate 6 Value.none else pla)).toArray=ws
  have wz:3 < ws.size:=by
    rw [← hws]
    simp only [List.size_toArray,List.length_append,List.length_cons,List.length_nil]
    omega
  have e1:g.get? e=some ⟨cl,d,.fields vs,sl⟩:=(so.2.1 e eno).trans he
  have nT:g.objs.size≠e:=Nat.ne_of_gt (Heap.lt_size e1)
  have e2:(g.push (jKo ws)).get? e=_:=Heap.get?_push_of_some (h:=g) (jKo ws) e1
  refine wpAny_setField e2 rfl hz ?_
  generalize hu:(g.push (jKo ws)).update e (Obj.mapFields (·.setIfInBounds 1 (Value.ref g.objs.size)))=g2
  have e3:g2.get? e=some ⟨cl,d,.fields (vs.setIfInBounds 1 (.ref g.objs.size)),sl⟩:=by
    rw [← hu]
    exact Heap.get?_update_self _ e2 rfl
  have t3:g2.get? g.objs.size=some (jKo ws):=by
    rw [← hu,Heap.get?_update_other _ _ (Ne.symm nT)]
    exact Heap.get?_push_size g rfl
  have o3:∀ b ob,b≠e→g.get? b=some ob→g2.get? b=some ob:=fun b ob hb q=>by
    rw [← hu,Heap.get?_update_other _ _ (Ne.symm hb)]
    exact Heap.get?_push_of_some _ q
  unfold setFlight
  refine wpAny_bind (wpAny_field e3 rfl (x:=.ref g.objs.size) (by simp [hz]) ?_)
  rw [if_pos (by simp)]
  refine wpAny_setField t3 rfl wz (k _ ⟨?_,fun b ob hb _ hx q=>?_,fun b ob hb _ q=>?_,fun o o' ws' vs' q1 q2 q3 q4=>?_⟩)
  · refine ⟨vs.setIfInBounds 1 (.ref g.objs.size),sl,g.objs.size,_,_,?_,by simp [hz],nT,?_,Heap.get?_update_self _ t3 rfl,rfl,by simp [wz]⟩
    · rw [Heap.get?_update_other _ _ nT]
      exact e3
    · exact Nat.le_of_eq so.1.symm
  · have q1:g.get? b=some ob:=(so.2.1 b hx).trans q
    rw [Heap.get?_update_other _ _ (Nat.ne_of_gt (Heap.lt_size q1))]
    exact o3 b ob hb q1
  · obtain ⟨s1,q1⟩:=so.2.2 b ob q
    refine ⟨s1,?_⟩
    rw [Heap.get?_update_other _ _ (Nat.ne_of_gt (Heap.lt_size q1))]
    exact o3 b _ hb q1
  · rw [Heap.get?_update_other _ _ nT,e3] at q2
    rw [he] at q1
    cases q1
    cases q2
    cases q3
    cases q4
    simp
noncomputable def HeadAt (h:Heap) (e T:Addr):Prop:=T≠e∧∃ oT ts,h.get? T=some oT∧oT.data=.fields ts∧ts[3]?=some .none
theorem note_fly {bh:Heap} {env:Env} {outer:List Env} {L e:Addr} {cl:Value} {d:Option Addr} {vs:Array Value} {sl:Array (Option Value)} {off:Addr→Prop} {Q:Unit→Shared→Prop}
    (hA:A.frames=some (env :: outer)) (hl:s.heap.FunFrames bh (env :: outer)) (hf:env.frame=some L) (he:s.heap.get? e=some ⟨cl,d,.fields vs,sl⟩)
    (hv:vs[1]?=some .none∨∃ T,vs[1]?=some (.ref T)∧HeadAt s.heap e T∧off T)
    (k:∀ h',Noted e cl d ((env :: outer).filterMap (·.frame)) off s.heap h'→Q () { s with heap:=h' }) :
    wpAny M A (noteFrame (.ref e) env) (fun _ s1=>wpAny M A (setFlight (.ref e) none) Q E s1) E s:=by
  unfold noteFrame
  simp only [hf]
  rcases hv with hv | ⟨T,hv,⟨nT,oT,ts,hT,dT,h3⟩,ho⟩
  · refine wpAny_bind (wpAny_field he rfl hv ?_)
    rw [if_neg (by decide)]
    exact jJO hA hl hf he (Array.getElem?_eq_some_iff.mp hv).1 fun h' n=>k h' ⟨n.exc,fun b o h1 _=>n.keep b o h1 (fun z=>z),fun b o h1 _=>n.slot b o h1 (fun z=>z),n.ctx⟩
  · refine wpAny_bind (wpAny_field he rfl hv ?_)
    rw [if_pos (by simp)]
    refine wpAny_bind (wpAny_field hT dT h3 ?_)
    rw [if_neg (by simp [rawInt])]
    refine wpAny_bind (wpAny_setField hT dT (Array.getElem?_eq_some_iff.mp h3).1 ?_)
    generalize hu:s.heap.update T (Obj.mapFields (·.setIfInBounds 3 Value.none))=g
    have oth:∀ b,b≠T→g.get? b=s.heap.get? b:=fun b hb=>by rw [← hu];exact Heap.get?_update_other _ _ (Ne.symm hb)
    have hz:g.objs.size=s.heap.objs.size:=by rw [← hu];exact Heap.size_after_update ..
    refine jJO (s:={ s with heap:=g }) hA (hl.of_keeps fun b o q nf=>⟨o,(oth b fun z=>?_).trans q,rfl⟩) hf ((oth e (Ne.symm nT)).trans he) (Array.getElem?_eq_some_iff.mp hv).1 fun h' n=>k h' ⟨?_,fun b o h1 h2 h3 q=>?_,fun b o h1 h2 q=>?_,fun o o' ws vs' q1=>n.ctx o o' ws vs' ((oth e (Ne.symm nT)).trans q1)⟩
    · rw [z,hT] at q
      cases q
      exact nf ts dT
    · obtain ⟨vs',sl',T',o',ts',x1,x2,x3,x4,x5⟩:=n.exc
      exact ⟨vs',sl',T',o',ts',x1,x2,x3,by rw [← hz];exact x4,x5⟩
    · exact n.keep b o h1 (fun z=>z) h3 ((oth b fun z=>h2 (z ▸ ho)).trans q)
    · exact n.slot b o h1 (fun z=>z) ((oth b fun z=>h2 (z ▸ ho)).trans q)
end
end PySem.W
namespace L2
open PySem PyProof.Rows PySem.Spec PySem.Calls
noncomputable def TrX (n:Nat) (H:Hp) (ea:Addr) (h:Heap):Prop:=∃ cl d vs sl T,h.get? ea=some ⟨cl,d,.fields vs,sl⟩∧vs[1]?=some (.ref T)∧PySem.W.HeadAt h ea T∧n≤T∧H T=none
noncomputable def CXe (P:Program) (w:World):CXT:=fun outer H s E e s'=>∃ ea C d H',e=.ref ea∧s'.os=s.os∧AllBare s'.gens∧Un (frs outer) [] H H' s.heap s'.heap∧HOk P w H' s'.heap∧H' ea=some (XC ea C d) ∧
  TrX s.heap.objs.size H' ea s'.heap∧E (.ref C) (some ea) H'
noncomputable def TrI (X:Cx) (pins:List (Addr×Obj)) (H:Hp) (ea:Addr) (h:Heap):Prop:=∃ cl d vs sl T,h.get? ea=some ⟨cl,d,.fields vs,sl⟩∧vs[1]?=some (.ref T)∧PySem.W.HeadAt h ea T∧X.s₀.heap.objs.size≤T∧H T=none ∧
  T≠X.env.locals∧(∀ x c,X.env.cells.lookup x=some c→c≠T)∧∀ p∈X.pn ++ pins,p.1≠T
structure Top (X:Cx):Prop where
  ex:X.ex=[]
  stk:X.stack=X.env :: X.outer
  fr:X.env.frame=some X.env.locals
noncomputable def jEp (X:Cx) (G:St→XK):Prop:=∀ (pins:List (Addr×Obj)) (σ:St) (H:Hp) (s:Shared) (e:Value) (s':Shared),Inv X pins σ H s→CXe X.prog X.w X.stack H s (G σ) e s'→X.xe e s'
noncomputable def jL0 (X:Cx) (G:St→XK):Prop:=∀ (pins:List (Addr×Obj)) (σ:St) (H:Hp) (s:Shared) (ea C:Addr) (d:Option Addr),Inv X pins σ H s→H ea=some (XO ea C d)→G σ (.ref C) (some ea) (upd H ea (XC ea C d))→X.xe (.ref ea) s
noncomputable abbrev G0:St→XK:=fun _ _ _ _=>False
theorem jA7 {X:Cx}:jEp X G0:=fun _ _ _ _ _ _ _ ⟨_,_,_,_,_,_,_,_,_,_,_,z⟩=>z.elim
section
variable {X:Cx} {pins:List (Addr×Obj)} {σ:St} {H H':Hp} {s s':Shared} {ea C:Addr} {d:Option Addr} {h':Heap}
theorem Inv.flew {E:XK} {e:Value} (I:Inv X pins σ H s) (c:CXe X.prog X.w X.stack H s E e s'):∃ ea C d H',e=.ref ea∧Inv X pins σ H' s'∧H' ea=some (XC ea C d)∧TrI X pins H' ea s'.heap∧E (.ref C) (some ea) H':=by
  obtain ⟨ea,C,d,H',rfl,ho,hb,un,ok,hx,⟨cl,d',vs,sl,T,g1,g2,g3,g4,g5⟩,q⟩:=c
  refine ⟨ea,C,d,H',rfl,I.call' ho un ok hb (fun b z=>absurd z (by simp)),hx,⟨cl,d',vs,sl,T,g1,g2,g3,Nat.le_trans I.sz g4,g5,fun z=>?_,fun x c hc z=>?_,fun p hp z=>?_⟩,q⟩
  · have lt:=I.lt
    rw [← z] at lt
    exact absurd (Nat.lt_of_lt_of_le lt g4) (Nat.lt_irrefl _)
  · obtain ⟨v,o,q1,_⟩:=I.cell x c hc
    have lt:=Heap.lt_size q1
    rw [z] at lt
    exact absurd (Nat.lt_of_lt_of_le lt g4) (Nat.lt_irrefl _)
  · have lt:=Heap.lt_size (I.pin p hp).1
    rw [z] at lt
    exact absurd (Nat.lt_of_lt_of_le lt g4) (Nat.lt_irrefl _)
theorem Inv.noted {off:Addr→Prop} (t:Top X) (I:Inv X pins σ H s) (hx:H ea=some (XC ea C d))
    (ht:∀ T,off T→X.s₀.heap.objs.size≤T∧H T=none∧T≠X.env.locals∧(∀ x c,X.env.cells.lookup x=some c→c≠T)∧∀ p∈X.pn ++ pins,p.1≠T) (h1:∀ T U,off T→off U→T=U)
    (n:PySem.W.Noted ea (.ref C) d (X.env :: X.outer |>.filterMap (·.frame)) off s.heap h'):Inv X pins σ H { s with heap:=h' }∧TrI X pins H ea h':=by
  have fr:∀ b,b∈(X.env :: X.outer).filterMap (·.frame) ↔ b=X.env.locals∨b∈X.fs:=fun b=>by
    rw [List.filterMap_cons,t.fr]
    exact List.mem_cons
  have frn:∀ b,b∈(X.env :: X.outer).filterMap (·.frame)→H b=none:=fun b hb=>I.stkFree b (by rw [t.stk];exact hb)
  obtain ⟨vs,sl,T,oT,ts,x1,x2,x3,x4,x5,x6,x7⟩:=n.exc
  have nea:∀ b,H b=none→b≠ea:=fun b hb z=>by rw [z,hx] at hb;cases hb
  obtain ⟨ch,hch⟩:∃ ch:List Addr,(∀ b∈ch,off b)∧∀ b,off b→b∈ch:=by
    by_cases z:∃ T,off T
    · obtain ⟨T,hT⟩:=z
      exact ⟨[T],fun b hb=>by rw [List.mem_singleton.mp hb];exact hT,fun b hb=>by rw [h1 b T hb hT];exact List.mem_singleton.mpr rfl⟩
    · exact ⟨[],fun b hb=>absurd hb (by simp),fun b hb=>absurd ⟨b,hb⟩ z⟩
  have I':Inv X pins σ H { s with heap:=h',gens:=s.gens,drawn:=s.drawn,toks:=s.toks }:=by
    refine I.step (ch:=ch) (fun b hb=>?_) (fun b o h1 h2 h3 q hn=>?_) (fun b o h1 h2 h3 q hn=>?_) (fun _ _ _ _ q=>q) (fun b o h3 q=>?_) (fun _ _ q=>q) (fun _ _ _ q=>q) (fun b ps q=>⟨#[],by rw [q];simp⟩) (fun m hm=>?_) (fun b u hb=>?_) I.bare
    · obtain ⟨a1,_,a3,a4,a5⟩:=ht b (hch.1 b hb)
      exact ⟨.inr a1,a3,a4,a5⟩
    · exact n.keep b o (nea b hn) (fun z=>h3 (hch.2 b z)) (fun z=>((fr b).mp z).elim h1 h2) q
    · exact n.slot b o (nea b hn) (fun z=>h3 (hch.2 b z)) q
    · by_cases z:b=ea
      · rw [z];exact ⟨_,x1⟩
      · obtain ⟨l,q1⟩:=n.slot b o z (fun z=>h3 (hch.2 b z)) q
        exact ⟨_,q1⟩
    · obtain ⟨o,es,ep,ho,r⟩:=hm
      obtain ⟨l,q1⟩:=n.slot _ o (nea _ I.free) (fun z=>(ht _ z).2.2.1 rfl) ho
      exact ⟨_,es,ep,q1,r⟩
    · by_cases z:b=ea
      · subst z
        rw [hx] at hb
        cases hb
        obtain ⟨vs0,sl0,g0,c0⟩:=jMS I.hok (.inr hx)
        exact xc_ok x1 ((n.ctx _ _ _ _ g0 x1 rfl rfl).trans c0)
      · refine (I.hok b u hb).stay (fun c v hc q=>n.keep c v ?_ (fun z=>?_) (fun z=>?_) q) (fun _ q=>q) fun _ _ q=>q
        · rcases hc with rfl | hc
          · exact z
          · intro z
            rw [z,hx] at hc
            cases hc
        · have hn:=(ht c z).2.1
          rcases hc with rfl | hc
          · rw [hb] at hn;cases hn
          · rw [hc] at hn;cases hn
        · have hn:=frn c z
          rcases hc with rfl | hc
          · rw [hb] at hn;cases hn
          · rw [hc] at hn;cases hn
  have lt:=I.lt
  refine ⟨I',.ref C,d,vs,sl,T,x1,x2,⟨x3,oT,ts,x5,x6,x7⟩,Nat.le_trans I.sz x4,I.hok.fresh x4,fun z=>?_,fun x c hc z=>?_,fun p hp z=>?_⟩
  · rw [← z] at lt
    exact absurd (Nat.lt_of_lt_of_le lt x4) (Nat.lt_irrefl _)
  · obtain ⟨v,o,q1,_⟩:=I.cell x c hc
    have lt:=Heap.lt_size q1
    rw [z] at lt
    exact absurd (Nat.lt_of_lt_of_le lt x4) (Nat.lt_irrefl _)
  · have lt:=Heap.lt_size (I.pin p hp).1
    rw [z] at lt
    exact absurd (Nat.lt_of_lt_of_le lt x4) (Nat.lt_irrefl _)
theorem jJP {Q:Unit→Shared→Prop} {E:Value→Shared→Prop} (t:Top X) (I:Inv X pins σ H s) (hx:H ea=some (XC ea C d)) (tr:TrI X pins H ea s.heap)
    (k:∀ s',Inv X pins σ H s'→TrI X pins H ea s'.heap→Q () s') :
    wpAny (model X.prog X.w) X.A (noteFrame (.ref ea) X.env) (fun _ s1=>wpAny (model X.prog X.w) X.A (setFlight (.ref ea) none) Q E s1) E s:=by
  obtain ⟨cl,d',vs,sl,T,g1,g2,g3,g4⟩:=tr
  obtain ⟨vs',sl',q⟩:=jKn I.hok (.inr hx)
  rw [g1] at q
  cases q
  refine PySem.W.note_fly (bh:=X.base) (off:=fun b=>b=T) (outer:=X.outer) (by rw [← t.stk];exact I.ok.frames) (by rw [← t.stk];exact I.stack) t.fr g1 (.inr ⟨T,g2,g3,rfl⟩) fun h' n=>?_
  obtain ⟨a,b⟩:=I.noted (off:=fun b=>b=T) t hx (fun U z=>(show U=T from z) ▸ g4) (fun _ _ p q=>p.trans q.symm) n
  exact k _ a b
theorem jMY {Q:Unit→Shared→Prop} {E:Value→Shared→Prop} (t:Top X) (I:Inv X pins σ H s) (hx:H ea=some (XO ea C d))
    (k:∀ s',Inv X pins σ (upd H ea (XC ea C d)) s'→TrI X pins (upd H ea (XC ea C d)) ea s'.heap→Q () s') :
    wpAny (model X.prog X.w) X.A (noteFrame (.ref ea) X.env) (fun _ s1=>wpAny (model X.prog X.w) X.A (setFlight (.ref ea) none) Q E s1) E s:=by
  obtain ⟨t0,g1⟩:=jG8 I.hok hx
  have I1:Inv X pins σ (upd H ea (XC ea C d)) { s with heap:=s.heap,toks:=s.toks }:=I.write (x:=ea) (e:=ea) (by rw [hx];exact True.intro) (.inl rfl) (fun _ _ _ q=>q) ⟨_,g1⟩ (xc_ok g1 rfl)
  refine PySem.W.note_fly (bh:=X.base) (off:=fun _=>False) (outer:=X.outer) (by rw [← t.stk];exact I.ok.frames) (by rw [← t.stk];exact I.stack) t.fr g1 (.inl rfl) fun h' n=>?_
  obtain ⟨a,b⟩:=I1.noted t jAc (fun _ z=>z.elim) (fun _ _ z=>z.elim) n
  exact k _ a b
theorem TrI.tr (t:TrI X pins H ea h'):TrX X.s₀.heap.objs.size H ea h':=let ⟨cl,d,vs,sl,T,a,b,c,e,f,_⟩:=t;⟨cl,d,vs,sl,T,a,b,c,e,f⟩
end
section
variable {P:Program} {w:World} {K:PySem.W.Frag} {mg:Str→Option Value} {base:Heap} {fa yQ yZ yX yY yV yJ yW yU yK yG cQ cZ cV cK cG vQ vZ vX vY:Addr} {fd:FuncData} {N ps:List Str} {qual x:Str} {scope:Scope} {f:Addr} {cd:Value} {A:Around} {outer:List Env} {s:Shared} {H:Hp} {E:XK} {k:Nat}
noncomputable abbrev cxE (P:Program) (w:World) (K:PySem.W.Frag) (mg:Str→Option Value) (base:Heap) (N:List Str) (qual:Str) (scope:Scope) (f:Addr) (cd:Value) (A:Around) (outer:List Env) (s:Shared) (H:Hp) (E:XK):Cx :=
  jG3 (CXe P w) P w K mg base N qual scope f cd A outer s H E
theorem jL1:Top (cxE P w K mg base N qual scope f cd A outer s H E):=⟨rfl,rfl,rfl⟩
theorem jFC:PassesOwn (model P w) (cxE P w K mg base N qual scope f cd A outer s H E).A (cxE P w K mg base N qual scope f cd A outer s H E).env (cxE P w K mg base N qual scope f cd A outer s H E).xe:=PassesOwn.leaving
theorem jAx:jEp (cxE P w K mg base N qual scope f cd A outer s H E) (fun _=>E):=by
  intro pins σ H1 s1 e s2 I c
  obtain ⟨ea,C,d,H2,rfl,I2,hx,tr,q⟩:=I.flew c
  show wpAny _ _ (leaving _ _) _ _ _
  unfold leaving
  refine wpAny_bind (jJP jL1 I2 hx tr fun s3 I3 t3=>?_)
  exact ⟨ea,C,d,H2,rfl,I3.os,I3.bare,I3.base,I3.hok,hx,t3.tr,q⟩
theorem jBp:jL0 (cxE P w K mg base N qual scope f cd A outer s H E) (fun _=>E):=by
  intro pins σ H1 s1 ea C d I hx q
  show wpAny _ _ (leaving _ _) _ _ _
  unfold leaving
  refine wpAny_bind (jMY jL1 I hx fun s3 I3 t3=>?_)
  exact ⟨ea,C,d,_,rfl,I3.os,I3.bare,I3.base,I3.hok,jAc,t3.tr,q⟩
theorem Fun.okE {st:Stmt} {fd:FuncData} {sp:Sp} (F:Fun K x qual st f fd) (S:jAn N ps (jAb st)) (len:∀ vs H Q E,sp vs H Q E→vs.length=ps.length)
    (hbody:∀ (cdv:Value) (A:Around) (outer:List Env) (s:Shared) (H:Hp) (vs:List V) (Q:VK) (E:XK),jBc k (A.deeper (envOfC qual (jAb st) s.heap.objs.size f cdv))→sp vs H Q E →
      ∃ t,PSs (cxE P w K mg base N qual (jAb st) f cdv A outer s H E) (jAk st) t∧t { nx:=fun _ H'=>Q .non H',rt:=Q } (jFn N vs) H):jAh P w K mg base (CXe P w) (k + 1) f fd ps sp:=by
  obtain ⟨oc,od,kV,doc,pm,an,cdv,ct,osl,rfl,lk,hcd⟩:=F.ex
  exact fn_of lk hcd S len fun A outer s H vs Q E hr hsp=>hbody cdv A outer s H vs Q E hr hsp
theorem jAh.lift {CX:CXT} {fd:FuncData} {sp:Sp} (F:jAh P w K mg base CX0 k f fd ps sp):jAh P w K mg base CX k f fd ps sp :=
  ⟨F.len,fun A outer s H args us vs Q E hr e0 hb r h=>codeAny_mono (F.run A outer s H args us vs Q E hr e0 hb r h) fun r s' q=>match r,q with
    | .ok (.ret _),q=>q
    | .ok .next,q=>q
    | .ok .brk,q=>q
    | .ok .cont,q=>q
    | .error _,q=>False.elim q⟩
structure DfE (P:Program) (w:World) (K:PySem.W.Frag) (mg:Str→Option Value) (base:Heap) (k:Nat) (x:Str) (ps:List Str) (sp:Sp):Prop where
  ex:∃ f fd,jAh P w K mg base (CXe P w) k f fd ps sp∧jCo K fd ps []∧PySem.W.keepIn K (.ref f)=true∧mg x=some (.ref f)
structure MtE (P:Program) (w:World) (K:PySem.W.Frag) (mg:Str→Option Value) (base:Heap) (k:Nat) (m:Str) (C:Addr) (ps:List Str) (sp:Sp):Prop where
  ex:∃ f fd,Meth K C m f∧jAh P w K mg base (CXe P w) k f fd ps sp∧jCo K fd ps []
end
noncomputable def tCallE (sp:Sp) (G:St→XK) (t:TA):TE:=fun σ H Q=>t σ H fun vs H1=>sp vs H1 Q (G σ)
noncomputable def jKI (P:Program) (w:World) (K:PySem.W.Frag) (mg:Str→Option Value) (base:Heap) (k:Nat) (m:Str) (G:St→XK) (ta:TE) (t:TA):TE:=fun σ H Q=>ta σ H fun x H1=>∃ a C dx fs ps sp,x=.ref a∧H1 a=some (.ins C dx fs)∧fs.lookup m=none∧Cls K C∧MtE P w K mg base k m C ps sp ∧
  t σ H1 fun vs H2=>sp (x :: vs) H2 Q (G σ)
section
variable {X:Cx} {k:Nat} {ps:List Str} {sp:Sp} {G:St→XK} {x m:Str} {p pos apos:Pos} {e o:Expr} {es:List Expr} {ta:TE} {t:TA}
theorem jI2 {pins:List (Addr×Obj)} {σ:St} {H:Hp} {s:Shared} {Q:VK} {us:List Value} {vs:List V} {f:Addr} {fd:FuncData} (F:jAh X.prog X.w X.K X.mg X.base (CXe X.prog X.w) k f fd ps sp) (hr:jBc k X.A) (hb:jCo X.K fd ps []) (hx:jEp X G)
    (I:Inv X pins σ H s) (r:jAI vs us) (h:sp vs H Q (G σ)):wpAny (model X.prog X.w) X.A (call (.ref f) us) (EP X pins σ Q) X.xe s:=by
  have hl:us.length=ps.length:=by rw [← r.length];exact F.len _ _ _ _ h
  have hb2:=hb s us I.kIn (by rw [List.append_nil];exact hl)
  rw [List.append_nil] at hb2
  refine wpAny_call (codeAny_mono (F.run X.A X.stack s H ⟨us,[]⟩ us vs Q (G σ) hr I.env0 hb2 r h) fun r s' hq=>?_)
  cases r with
  | error e=>exact hx pins σ H s e s' I hq
  | ok fl =>
    cases fl with
    | ret u=>exact I.after hq
    | next=>exact False.elim hq
    | brk=>exact False.elim hq
    | cont=>exact False.elim hq
theorem jNz (D:DfE X.prog X.w X.K X.mg X.base k x ps sp) (hx:jEp X G) (hr:jBc k X.A) (hg:Gl X x) (ha:PA X (e :: es) t) (hdb:(x == ("__debug__":Str))=false:=by decide)
    (he:starEach (e :: es) X.env=(false,eval e X.env) :: starEach es X.env:=by rfl) (hpl:(backTo pos (starEach es X.env)).any (·.1)=false:=by rfl):PE X (.Call (.Name x p) (e :: es) [] pos) (tCallE sp G t):=by
  intro pins s σ H Q I h
  obtain ⟨f,fd,F,b,kp,hm⟩:=D.ex
  refine wpAny_Call_Name_kw (jDM I hg hm ?_ hdb)
  refine PySem.W.callWith_K (h₀:=X.base) I.ok.mod.kin kp (thn (ha pos pins s σ H _ I h) fun us s1 ⟨vs,H1,I1,r,q⟩=>⟨I1.kIn,?_⟩) he hpl
  exact jI2 F hr b hx I1 r q
theorem jAU {pl:Sem Bool} (k:Nat) (hx:jEp X G) (hr:jBc k X.A) (he:PE X o ta) (ha:PA X (e :: es) t)
    (hst:starEach (e :: es) X.env=(false,eval e X.env) :: starEach es X.env:=by rfl) (hpl:(backTo pos (starEach es X.env)).any (·.1)=false:=by rfl)
    (ht:eval (.Call (.Attribute o m apos) (e :: es) [] pos) X.env=(do
      let ov ← eval o X.env
      standAt apos.atName
      let (f,first) ← holding [ov] (getMethod ov m pl)
      callWith pos f first (backTo pos (starEach (e :: es) X.env)) (backToKw pos (keywordEach [] X.env))):=by rfl) :
    PE X (.Call (.Attribute o m apos) (e :: es) [] pos) (jKI X.prog X.w X.K X.mg X.base k m G ta t):=by
  intro pins s σ H Q I h
  refine PySem.W.methodCall_KW (pl:=pl) (thn (he pins s σ H _ I h) fun u s1 ⟨x,H1,I1,rx,a,C,dx,fs,ps,sp,ex,ea,l,c,D,q⟩=>?_) ht
  subst ex
  obtain rfl:u=Value.ref a:=rx
  obtain ⟨f,fd,hm,F,b⟩:=D.ex
  refine jIc I1 ea c hm l ?_
  refine PySem.W.callWith_K (first:=[.ref a]) (h₀:=X.base) I.ok.mod.kin hm.kp (thn (ha pos pins s1 σ H1 _ I1 q) fun us s2 ⟨vs,H2,I2,r,q2⟩=>⟨I2.kIn,?_⟩) hst hpl
  exact jI2 (us:=.ref a :: us) (vs:=.ref a :: vs) F hr b hx I2 (.cons rfl r) q2
theorem jAv {pl:Sem Bool} (k:Nat) (hx:jEp X G) (hr:jBc k X.A) (he:PE X o ta)
    (ht:eval (.Call (.Attribute o m apos) [] [] pos) X.env=(do
      let ov ← eval o X.env
      standAt apos.atName
      let (f,first) ← holding [ov] (getMethod ov m pl)
      callWith pos f first (backTo pos (starEach [] X.env)) (backToKw pos (keywordEach [] X.env))):=by rfl) :
    PE X (.Call (.Attribute o m apos) [] [] pos) (jKI X.prog X.w X.K X.mg X.base k m G ta tNil):=by
  intro pins s σ H Q I h
  refine PySem.W.methodCall_KW (pl:=pl) (thn (he pins s σ H _ I h) fun u s1 ⟨x,H1,I1,rx,a,C,dx,fs,ps,sp,ex,ea,l,c,D,q⟩=>?_) ht
  subst ex
  obtain rfl:u=Value.ref a:=rx
  obtain ⟨f,fd,hm,F,b⟩:=D.ex
  refine jIc I1 ea c hm l ?_
  exact PySem.W.callWith_K0 (first:=[.ref a]) I1.kIn hm.kp (jI2 (us:=[.ref a]) (vs:=[.ref a]) F hr b hx I1 (.cons rfl .nil) q)
end
end L2
namespace PySem.W
open PySem PyProof.Rows PySem.Spec PySem.Calls
noncomputable def mroHas (K:Frag) (C:Addr) (c:Value):Bool:=match K.lookup C with
  | some ⟨_,_,.cls cd,_⟩=>cd.mro.contains c
  | _=>false
theorem jI3 {K:Frag} {h:Heap} {C:Addr} (X:K.In h) (q:excMk K C=true):∃ tlm,ExcAt h C tlm∧OwnTail h jFp tlm∧∀ c,mroHas K C c=(Value.ref C :: tlm).contains c:=by
  obtain ⟨tlm,hE,T⟩:=jG6 X q
  refine ⟨tlm,hE,T,fun c=>?_⟩
  unfold mroHas
  cases hk:K.lookup C with
  | none =>
    unfold excMk at q
    rw [hk] at q
    cases q
  | some o =>
    obtain ⟨N,nm,q,bs,hdct,sn,sub,ab,col,dd,q0,q1,q2,q3,q5,hCl⟩:=hE
    have z:=X _ _ hk
    rw [hCl] at z
    cases z
    rfl
section
variable {M:Model} {A:Around} {E:Value→Shared→Prop} {env:Env} {K:Frag}
theorem exc_match {h:Heap} {g:Array GenState} {d:Drawn} {t:Nat} {os:OsState} {e C D:Addr} {oe:Obj} {Q:Bool→Shared→Prop} (X:K.In h) (qC:excMk K C=true) (qD:excMk K D=true) (he:h.get? e=some oe) (hc:oe.cls=.ref C)
    (hq:Q (mroHas K C (.ref D)) ⟨h,g,d,t,os⟩):wpAny M A (excMatches (.ref e) (.ref D)) Q E ⟨h,g,d,t,os⟩:=by
  obtain ⟨tl,⟨N,nm,q,bs,hdct,sn,sub,ab,col,dd,q0,q1,q2,q3,q5,hC⟩,_,mh⟩:=jI3 X qC
  obtain ⟨tl',⟨N',nm',q',bs',hdct',sn',sub',ab',col',dd',q0',q1',q2',q3',q5',hD⟩,T,_⟩:=jI3 X qD
  have hB:(Value.ref D :: tl').contains (.type "BaseException")=true:=by
    rw [List.contains_cons,T.hasType (show jFp.contains (.type "BaseException")=true from by decide +kernel),Bool.or_true]
  rw [mh] at hq
  have f:=tc_notTuple
  unfold excMatches
  repeat (first | (with_reducible refine wpAny_loadPart_at he ?_;rw [hc]) | with_reducible refine wpAny_loadPart_at hD ?_ | (with_reducible refine wpAny_isSubtype_exc hD ?_;rw [hB]) | with_reducible refine wpAny_isSubtype_exc hC ?_ | wp_step)
  all_goals (cases hb:(Value.ref C :: tl).contains (.ref D) <;> (rw [hb] at hq;wp_walk;exact hq))
theorem raise_X {s:Shared} {x:Sem Value} {Q:Flow→Shared→Prop} (hh:A.handled=none)
    (h:wpAny M A x (fun v s1=>∃ e C d t0,v=.ref e∧K.In s1.heap∧excMk K C=true∧s1.heap.get? e=some ⟨.ref C,d,.fields #[.ref t0,.none,.none,.none,.bool false,.none],#[]⟩∧E (.ref e) s1) E s) :
    wpAny M A (raiseStmt env (some x) none) Q E s := by  -- raised here
  unfold raiseStmt
  refine wpAny_bind (wpAny_mono h (fun v s1 h1=>?_) fun _ _ x=>x)
  obtain ⟨e,C,d,t0,rfl,X,qC,he,hE⟩:=h1
  obtain ⟨tl,⟨N,nm,q,bs,hdct,sn,sub,ab,col,dd,q0,q1,q2,q3,q5,hC⟩,T,_⟩:=jI3 X qC
  have hB:(Value.ref C :: tl).contains (.type "BaseException")=true:=by
    rw [List.contains_cons,T.hasType (show jFp.contains (.type "BaseException")=true from by decide +kernel),Bool.or_true]
  obtain ⟨hp,g,d',tk,os⟩:=s1
  repeat (first | with_reducible refine wpAny_loadPart_at he ?_ | with_reducible refine wpAny_loadPart_at hC ?_ | (with_reducible refine wpAny_isSubtype_exc hC ?_;rw [hB]) | wp_step)
  exact (wpAny_raiseNew_none hh hE)
end
end PySem.W
namespace L2
open PySem PyProof.Rows PySem.Spec PySem.Calls
noncomputable def tRaise (K:PySem.W.Frag) (G:St→XK) (te:TE):TS:=fun _ σ H=>te σ H fun v H1=>∃ ea C d,v=.ref ea∧H1 ea=some (XO ea C d)∧PySem.W.excMk K C=true∧G σ (.ref C) (some ea) (upd H1 ea (XC ea C d))
noncomputable abbrev Cx.caught (X:Cx) (ea:Addr):Cx:={ X with A:=X.A.mark (some (.ref ea)),calm:=false,xe:=fun _ _=>False }
noncomputable abbrev Cx.inTry (X:Cx) (ps:List (Addr×Obj)) (xe:Value→Shared→Prop):Cx:={ X with pn:=X.pn ++ ps,xe:=xe }
section
variable {X:Cx} {pins:List (Addr×Obj)} {σ:St} {H:Hp} {s:Shared} {ea:Addr}
theorem jBB {G:St→XK} {e:Expr} {te:TE} {pos:Pos} (hR:jL0 X G) (hc:X.calm=true) (he:PE X e te):PS X (.Raise (some e) none pos) (tRaise X.K G te):=by
  intro pins s σ H D I h
  show wpAny _ _ (do standAt pos;raiseStmt X.env (some (do let v ← eval e X.env;standAt pos;pure v)) none) _ _ s
  refine wpAny_bind (wpAny_standAt (PySem.W.raise_X (K:=X.K) (I.ok.hd hc) (wpAny_bind (thn (he pins s σ H _ I h) fun v s1 ⟨x,H1,I1,rx,ea,C,d,ex,hx,mk,q⟩=>wpAny_bind (wpAny_standAt (wpAny_pure ?_))))))
  subst ex
  obtain rfl:v=Value.ref ea:=rx
  obtain ⟨t0,g1⟩:=jG8 I1.hok hx
  exact ⟨ea,C,d,t0,rfl,I1.kIn,mk,g1,hR pins σ H1 s1 ea C d I1 hx q⟩
theorem Cx.Ok.caught (ok:X.Ok):(X.caught ea).Ok :=
  ⟨ok.mod,ok.kind,ok.glob,ok.blt,ok.above,ok.inj,ok.has,ok.cab,(fun z=>nomatch z),ok.frames,ok.stk,ok.exf,ok.bs,ok.bsz,ok.noex,ok.exfs,ok.funs,ok.frf⟩
theorem Inv.caught (I:Inv X pins σ H s):Inv (X.caught ea) pins σ H s:=⟨I.ok.caught,I.os,I.bare,I.base,I.loc,I.cell,I.free,I.freeC,I.pin,I.hok,I.len⟩
theorem Inv.uncaught (o:X.Ok) (I:Inv (X.caught ea) pins σ H s):Inv X pins σ H s:=⟨o,I.os,I.bare,I.base,I.loc,I.cell,I.free,I.freeC,I.pin,I.hok,I.len⟩
theorem Cx.Ok.inTry {ps:List (Addr×Obj)} {xe:Value→Shared→Prop} (ok:X.Ok):(X.inTry ps xe).Ok :=
  ⟨ok.mod,ok.kind,ok.glob,ok.blt,ok.above,ok.inj,ok.has,ok.cab,ok.hd,ok.frames,ok.stk,ok.exf,ok.bs,ok.bsz,ok.noex,ok.exfs,ok.funs,ok.frf⟩
theorem Inv.inTry {xe:Value→Shared→Prop} (I:Inv X pins σ H s):Inv (X.inTry pins xe) [] σ H s:=⟨I.ok.inTry,I.os,I.bare,I.base,I.loc,I.cell,I.free,I.freeC,fun p hp=>I.pin p (by rw [← List.append_nil (X.pn ++ pins)];exact hp),I.hok,I.len⟩
theorem Inv.outTry {ps:List (Addr×Obj)} {xe:Value→Shared→Prop} (o:X.Ok) (I:Inv (X.inTry ps xe) pins σ H s):Inv X ps σ H s:=⟨o,I.os,I.bare,I.base,I.loc,I.cell,I.free,I.freeC,fun p hp=>I.pin p (List.mem_append_left _ hp),I.hok,I.len⟩
theorem SP.outTry {ps:List (Addr×Obj)} {xe:Value→Shared→Prop} {D:jCq} {f:Flow} {s':Shared} (o:X.Ok) (h:SP (X.inTry ps xe) pins D f s'):SP X ps D f s':=by
  cases f with
  | next=>obtain ⟨σ',H',I,q⟩:=h;exact ⟨σ',H',I.outTry o,q⟩
  | brk=>obtain ⟨σ',H',I,q⟩:=h;exact ⟨σ',H',I.outTry o,q⟩
  | cont=>obtain ⟨σ',H',I,q⟩:=h;exact ⟨σ',H',I.outTry o,q⟩
  | ret u=>obtain ⟨v,σ',H',I,r,q⟩:=h;exact ⟨v,σ',H',I.outTry o,r,q⟩
theorem jMZ {M:Model} {A:Around} {E:Value→Shared→Prop} {i:Nat} {n:Str} {v:V} {Q:Unit→Shared→Prop} (I:Inv X pins σ H s) (hN:X.N.Nodup) (hi:X.N[i]?=some n) (hx:X.env.scope.names.lookup n=some .local) (hv:σ[i]?=some (some v))
    (h:∀ s',Inv X pins (σ.set i none) H s'→Q () s'):wpAny M A (unbindName X.env n) Q E s:=by
  obtain ⟨m,hn,hl⟩:=id I.loc
  obtain ⟨u,_,lk⟩:=hl i n v hi hv (.inl hx)
  have hm:m n=some u:=by
    rcases lk with ⟨_,e⟩ | ⟨k,_⟩
    · exact e
    · have kx:X.env.kindOf n=some .local:=hx
      rw [kx] at k
      rcases k with k | k <;> cases k
  have hcls:(X.env.scope.kind == .class || (X.env.scope.kind == .module && X.env.locals != X.env.globals))=false:=by rw [I.ok.kind];rfl
  have iσ:i < σ.length:=by rw [I.len];exact (List.getElem?_eq_some_iff.mp hi).1
  refine wpAny_unbindName_local hx hn hm hcls fun h' u' hn' hs=>h _ ?_
  obtain ⟨oLo,_,_,hoLo,_⟩:=id hn
  have ne0:∀ b o,X.s₀.heap.get? b=some o→b≠X.env.locals:=fun b o e=>Nat.ne_of_lt (Nat.lt_of_lt_of_le (Heap.lt_size e) I.ok.above)
  refine ⟨I.ok,I.os,I.bare,⟨fun b o e nn hb he=>(hs.2 b (ne0 b o e)).trans (I.base.keep b o e nn hb he),fun b o e nn hb he=>?_,I.base.free,fun b o e he=>?_,I.base.tups,I.base.frzs,I.base.tbls⟩,⟨_,hn',fun j y w' e1 e2 e3=>?_⟩,fun y c e=>?_,I.free,I.freeC,fun p hp=>?_,fun b ob e=>?_,by simpa using I.len⟩
  · obtain ⟨sl,q⟩:=I.base.slot b o e nn hb he
    exact ⟨sl,(hs.2 b (ne0 b o e)).trans q⟩
  · obtain ⟨o',q⟩:=I.base.there b o e he
    exact ⟨o',(hs.2 b (ne0 b o e)).trans q⟩
  · have hj:j≠i:=fun z=>by
      subst z
      rw [List.getElem?_set_self iσ] at e2
      cases e2
    rw [List.getElem?_set_ne (Ne.symm hj)] at e2
    obtain ⟨u2,r2,q⟩:=hl j y w' e1 e2 e3
    refine ⟨u2,r2,?_⟩
    rcases q with ⟨k,e⟩ | ⟨k,c,e,z⟩
    · refine .inl ⟨k,?_⟩
      have hy:y≠n:=fun z=>hj (jHU hN e1 (z ▸ hi))
      show (if y=n then u' else m y)=some u2
      rw [if_neg hy]
      exact e
    · exact .inr ⟨k,c,e,z.sameBut hs (I.cne y c e)⟩
  · obtain ⟨w',z⟩:=I.cell y c e
    exact ⟨w',z.sameBut hs (I.cne y c e)⟩
  · obtain ⟨e,nn,ne,nf,dd⟩:=I.pin p hp
    exact ⟨(hs.2 p.1 ne).trans e,nn,ne,nf,dd⟩
  · refine (I.hok b ob e).stay (fun c w' hc q=>(hs.2 c ?_).trans q) (fun _ q=>q) fun _ _ q=>q
    rintro rfl
    rcases hc with rfl | hc
    · rw [I.free] at e;cases e
    · rw [I.free] at hc;cases hc
end
noncomputable abbrev TH:=jCq→St→Hp→Addr→Addr→Prop
noncomputable def PH (X:Cx) (hs:List ExceptHandler) (t:TH):Prop:=∀ (pins:List (Addr×Obj)) (s:Shared) (σ:St) (H:Hp) (D:jCq) (ea C:Addr) (d:Option Addr),Inv X pins σ H s→H ea=some (XC ea C d)→TrI X pins H ea s.heap→t D σ H C ea →
  wpAny (model X.prog X.w) X.A (handleBy (.ref ea) X.env hs) (SP X pins D) X.xe s
noncomputable def tNoH:TH:=fun _ _ _ _ _=>False
noncomputable def jCq.less (D:jCq) (i:Nat):jCq:={ nx:=fun σ H=>D.nx (σ.set i none) H,rt:=D.rt,bk:=fun σ H=>D.bk (σ.set i none) H,ct:=fun σ H=>D.ct (σ.set i none) H }
noncomputable def tAs (K:PySem.W.Frag) (B:Addr) (i:Nat) (ts:TS) (tr:TH):TH:=fun D σ H C ea=>PySem.W.excMk K C=true∧PySem.W.excMk K B=true∧∃ b,PySem.W.mroHas K C (.ref B)=b∧if b=true then ts (D.less i) (σ.set i (some (.ref ea))) H else tr D σ H C ea
noncomputable def tTry (tb:(St→XK)→TS) (th:TH):TS:=fun D σ H=>tb (fun σ' c oa H'=>∃ C ea,c=.ref C∧oa=some ea∧th D σ' H' C ea) D σ H
section
variable {X:Cx}
theorem ph_nil:PH X [] tNoH:=fun _ _ _ _ _ _ _ _ _ _ _ h=>h.elim
theorem ph_as {x n:Str} {B:Addr} {i:Nat} {b₀:Stmt} {suite:List Stmt} {ts:TS} {tr:TH} {np hpos:Pos} {rest:List ExceptHandler} (hg:Gl X x) (hm:X.mg x=some (.ref B)) (hN:X.N.Nodup) (hi:X.N[i]?=some n) (hl:X.env.scope.names.lookup n=some .local)
    (hs:∀ ea,PSs (X.caught ea) (b₀ :: suite) ts) (hr:PH X rest tr) (hd:(x == ("__debug__":Str))=false:=by decide):PH X (.ExceptHandler (some (.Name x np)) (some n) (b₀ :: suite) hpos :: rest) (tAs X.K B i ts tr):=by
  intro pins s σ H D ea C d I hx tr h
  obtain ⟨mC,mB,b,hb,h⟩:=h
  have I1:Inv (X.caught ea) pins σ H s:=I.caught
  refine wpAny_handleBy_cons (codeAny_handlers_test (jDM I1 hg hm ?_ hd)) (by intro q;cases q)
  obtain ⟨vs,sl,g1⟩:=jKn I.hok (.inr hx)
  refine PySem.W.exc_match (K:=X.K) I.kIn mC mB g1 rfl ?_
  rw [hb]
  cases b with
  | false=>exact hr pins s σ H D ea C d I hx tr h
  | true =>
    show codeAny _ _ _ _ _
    refine (codeAny_handlers_suite_as ?_)
    obtain ⟨cl,d',vs',sl',T,g1',g2,⟨nT,oT,ts',gT,dT,h3⟩,g4,g5,g6,g7,g8⟩:=tr
    rw [g1] at g1'
    cases g1'
    unfold setFlight
    refine wpAny_bind (wpAny_field g1 rfl g2 ?_)
    rw [if_pos (by simp)]
    refine wpAny_setField gT dT (Array.getElem?_eq_some_iff.mp h3).1 ?_
    have I2:Inv (X.caught ea) pins σ H { s with heap:=s.heap.update T (Obj.mapFields (·.setIfInBounds 3 ((none:Option Addr).elim Value.none fun f=>rawInt f))),toks:=s.toks } :=
      I1.turned (it:=T) (fun b o hb q=>by rw [Heap.get?_update_other _ _ (Ne.symm hb)];exact q) g5 g6 (.inr g4) g7 g8
    refine jFE (X:=X.caught ea) I2 hN hi (.inl hl) (v:=.ref ea) rfl (fun s3 I3=>?_) (.inr hl)
    refine wpAny_mono (hs ea pins s3 _ H (D.less i) I3 h) (fun f s4 q=>?_) fun _ _ z=>False.elim z
    have fin:∀ {σ':St} {H':Hp} {Q:Shared→Prop},Inv (X.caught ea) pins σ' H' s4→(∀ s5,Inv X pins (σ'.set i none) H' s5→Q s5)→wpAny (model X.prog X.w) X.A (do bindName X.env n .none;unbindBehindTheSuite X.env n hpos) (fun _ s5=>Q s5) X.xe s4:=fun {σ' H' Q} J k=>by
      have J':=J.uncaught I.ok
      refine wpAny_bind (wpAny_bindName (jFE J' hN hi (.inl hl) (v:=.non) rfl (fun s5 I5=>?_) (.inr hl)))
      unfold unbindBehindTheSuite
      refine wpAny_onRaise (jMZ I5 hN hi hl (List.getElem?_set_self (by rw [J'.len];exact (List.getElem?_eq_some_iff.mp hi).1)) fun s6 I6=>k s6 ?_)
      rwa [List.set_set] at I6
    cases f with
    | next=>obtain ⟨σ',H',J,q⟩:=q;exact fin (Q:=fun s5=>SP X pins D .next s5) J fun s5 I5=>⟨_,H',I5,q⟩
    | brk=>obtain ⟨σ',H',J,q⟩:=q;exact fin (Q:=fun s5=>SP X pins D .brk s5) J fun s5 I5=>⟨_,H',I5,q⟩
    | cont=>obtain ⟨σ',H',J,q⟩:=q;exact fin (Q:=fun s5=>SP X pins D .cont s5) J fun s5 I5=>⟨_,H',I5,q⟩
    | ret u=>obtain ⟨v,σ',H',J,r,q⟩:=q;exact fin (Q:=fun s5=>SP X pins D (.ret u) s5) J fun s5 I5=>⟨v,_,H',I5,r,q⟩
theorem ps_try {body:List Stmt} {h₀:ExceptHandler} {hs:List ExceptHandler} {pos:Pos} {tb:(St→XK)→TS} {th:TH} (t:Top X)
    (hb:∀ (ps:List (Addr×Obj)) (xe:Value→Shared→Prop) (G:St→XK),jEp (X.inTry ps xe) G→PassesOwn (model X.prog X.w) X.A X.env xe→PSs (X.inTry ps xe) body (tb G))
    (hh:PH X (h₀ :: hs) th):PS X (.Try body (h₀ :: hs) [] [] pos) (tTry tb th):=by
  intro pins s σ H D I h
  have o:=I.ok
  refine wpAny_Try_except (thn (hb pins _ _ ?_ PassesOwn.looking [] s σ H D I.inTry h) fun f s1 q=>?_)
  · intro ps2 σ2 H2 s2 e s3 I2 c
    obtain ⟨ea,C,d,H3,rfl,I3,hx,tr,C',ea',e1,e2,q⟩:=I2.flew c
    cases e1
    cases e2
    have tr':TrI X pins H3 ea s3.heap:=let ⟨a1,a2,a3,a4,a5,b1,b2,b3,b4,b5,b6,b7,b8⟩:=tr;⟨a1,a2,a3,a4,a5,b1,b2,b3,b4,b5,b6,b7,fun p hp=>b8 p (List.mem_append_left _ hp)⟩
    exact jJP t (I3.outTry o) hx tr' fun s4 I4 t4=>hh pins s4 σ2 H3 D ea C d I4 hx t4 q
  · have q':=q.outTry o
    cases f with
    | next=>exact wpAny_execs_nil q'
    | brk=>exact q'
    | cont=>exact q'
    | ret u=>exact q'
end
end L2
namespace L2
open PySem PyProof.Rows PySem.Spec PySem.Calls
noncomputable def XG (H:Hp) (e C:Addr) (fs:List (Str×V)):Prop:=∃ dx,IsX H e C (some dx)∧H dx=some (XD dx fs)∧dx≠e
theorem XF.raised {H:Hp} {e C:Addr} {fs:List (Str×V)} (x:XF H e C fs):∃ dx,H e=some (XO e C (some dx))∧XG (L2.upd H e (XC e C (some dx))) e C fs :=
  let ⟨d,a,b,c⟩:=x
  ⟨d,a,d,.inr jAc,by rw [jAi c];exact b,c⟩
noncomputable def rIsO (K:PySem.W.Frag):List V→Hp→VK→Prop:=fun xs H Q=>∃ x c t b,xs=[x,c]∧jBU K H x t∧(∀ u,jAB c u→u=clV c)∧PySem.W.kitOne K t (clV c)=some b∧Q (.bl b) H
noncomputable def rIsG (K:PySem.W.Frag):List V→Hp→VK→Prop:=fun xs H Q=>∃ a C fs c b,xs=[.ref a,c]∧XG H a C fs∧ClsI K C∧(∀ u,jAB c u→u=clV c)∧PySem.W.kitOne K (.ref C) (clV c)=some b∧Q (.bl b) H
noncomputable def rIsGT (K:PySem.W.Frag):List V→Hp→VK→Prop:=fun xs H Q=>∃ a C fs tp cs b,xs=[.ref a,.ref tp]∧XG H a C fs∧ClsI K C∧H tp=some (.tup cs)∧(∀ c∈cs,∀ u,jAB c u→u=clV c)∧PySem.W.kitAny K (.ref C) (cs.map clV)=some b∧Q (.bl b) H
noncomputable def tFldG (K:PySem.W.Frag) (ta:TE) (f:Str):TE:=fun σ H Q=>ta σ H fun x H1=>∃ a C fs v,x=.ref a∧XG H1 a C fs∧jEP K C∧jAy K C f∧fs.lookup f=some v∧Q v H1
section
variable {X:Cx} {e o:Expr} {es:List Expr} {f x:Str} {p pos apos:Pos} {ta:TE} {t:TA} {k:Nat} {ps:List Str} {sp:Sp}
theorem pe_fldG (he:PE X e ta) (hb:attributeBase e f X.env (eval e X.env)=eval e X.env):PE X (.Attribute e f pos) (tFldG X.K ta f):=by
  intro pins s σ H Q I h
  refine jLS hb (thn (he pins s σ H _ I h) fun u s1 ⟨x,H1,I1,rx,a,C,fs,v,ex,⟨dx,ea,ed,_⟩,c,n,l,q⟩=>?_)
  subst ex
  obtain rfl:u=Value.ref a:=rx
  exact getX_ok I1 ea ed c n l fun u' s2 I2 ru=>⟨v,H1,I2,ru,q⟩
structure InO (K:PySem.W.Frag) (B f:Addr):Prop where
  sp:PySem.W.specialIn K (.ref B) "__getattribute__"=some (some (.builtin "type.__getattribute__"))
  rd:PySem.W.readsIn K B (.type "type")=true
  fc:PySem.W.findCls K (.ref B) (.type "type") "__init__"=some (.val (.ref f))
structure InD (P:Program) (w:World) (K:PySem.W.Frag) (mg:Str→Option Value) (base:Heap) (k:Nat) (x:Str) (B:Addr) (ps:List Str) (sp:Sp):Prop where
  ex:∃ f fd,InO K B f∧jAh P w K mg base CX0 k f fd ps sp∧jCo K fd ps []∧PySem.W.keepIn K (.ref f)=true∧mg x=some (.ref B)
theorem jER {B:Addr} {pl:Sem Bool} (D:InD X.prog X.w X.K X.mg X.base k x B ps sp) (hr:jBc k X.A) (hg:Gl X x) (ha:PA X (e :: es) t) (hdb:(x == ("__debug__":Str))=false:=by decide)
    (hst:starEach (e :: es) X.env=(false,eval e X.env) :: starEach es X.env:=by rfl) (hpl:(backTo pos (starEach es X.env)).any (·.1)=false:=by rfl)
    (ht:eval (.Call (.Attribute (.Name x p) "__init__" apos) (e :: es) [] pos) X.env=(do
      let ov ← eval (.Name x p) X.env
      standAt apos.atName
      let (f,first) ← holding [ov] (getMethod ov "__init__" pl)
      callWith pos f first (backTo pos (starEach (e :: es) X.env)) (backToKw pos (keywordEach [] X.env))):=by rfl) :
    PE X (.Call (.Attribute (.Name x p) "__init__" apos) (e :: es) [] pos) (tCall sp [] E0 t):=by
  intro pins s σ H Q I h
  obtain ⟨f,fd,J,F,b,kp,hm⟩:=D.ex
  refine PySem.W.methodCall_KW (pl:=pl) (jDM I hg hm ?_ hdb) ht
  refine PySem.W.method_cls I.kIn J.sp (PySem.W.cls_value I.kIn J.rd J.fc rfl ?_)
  refine PySem.W.callWith_K (first:=[]) (h₀:=X.base) I.ok.mod.kin kp (thn (ha pos pins _ σ H _ (I.tok (s.toks + 1)) h) fun us s1 ⟨vs,H1,I1,r,q⟩=>⟨I1.kIn,?_⟩) hst hpl
  exact jMF F hr b .nil jIg I1 r q
theorem jDB {C:Addr} (D:MkD X.prog X.w X.K X.mg X.base k x C ps sp) (hr:jBc (k + 1) X.A) (hg:Gl X x) (hdb:(x == ("__debug__":Str))=false:=by decide):PE X (.Call (.Name x p) [] [] pos) (jKh C sp [] E0 tNil):=by
  obtain ⟨f,fd,M,F,b,m⟩:=D.ex
  exact jNm M F hr hg m b .nil jIg hdb
end
section
variable {P:Program} {w:World} {K:PySem.W.Frag} {mg:Str→Option Value} {base:Heap} {fa yQ yZ yX yY yV yJ yW yU yK yG cQ cZ cV cK cG vQ vZ vX vY:Addr} {fd:FuncData} {j k:Nat} {x m:Str} {C:Addr} {ps:List Str} {sp:Sp}
theorem MtE.mono (D:MtE P w K mg base j m C ps sp) (h:j≤k):MtE P w K mg base k m C ps sp:=let ⟨f,fd,a,b,c⟩:=D.ex;⟨f,fd,a,b.mono h,c⟩
end
end L2
namespace L2
open PySem PyProof.Rows PySem.Spec PySem.Calls
structure OwnTy (K:PySem.W.Frag) (C:Addr):Prop where
  ha:PySem.W.findIn K (.ref C) "__class__"=some (some (.builtin "object.__class__"))
  hn:PySem.W.specialIn K (.builtin "object.__class__") "__get__"=some (some (.builtin "getset_descriptor.__get__"))
  tk:PySem.W.takesIn K (.builtin "object.__class__")=some true
  hm:PySem.W.mroIn K C (.type "object")=some true
theorem top_nox {CX:CXT} {P:Program} {w:World} {K:PySem.W.Frag} {mg:Str→Option Value} {base:Heap} {N:List Str} {qual:Str} {scope:Scope} {f:Addr} {cd:Value} {A:Around} {outer:List Env} {s:Shared} {H:Hp} {E:XK} :
    Top (jG3 CX P w K mg base N qual scope f cd A outer s H E).nox:=⟨rfl,rfl,rfl⟩
end L2
namespace L2
open PySem PyProof.Rows PySem.Spec PySem.Calls
section
variable {X:Cx} {P:Program} {w:World} {K:PySem.W.Frag} {mg:Str→Option Value} {base:Heap} {G:St→XK} {m:Str} {pos apos:Pos} {e o:Expr} {es:List Expr} {ta:TE} {t:TA}
theorem jM0 {pl:Sem Bool} (q:X.prog=P∧X.w=w∧X.K=K∧X.mg=mg∧X.base=base) (k:Nat) (hx:jEp X G) (hr:jBc k X.A) (he:PE X o ta) (ha:PA X (e :: es) t)
    (hst:starEach (e :: es) X.env=(false,eval e X.env) :: starEach es X.env:=by rfl) (hpl:(backTo pos (starEach es X.env)).any (·.1)=false:=by rfl)
    (ht:eval (.Call (.Attribute o m apos) (e :: es) [] pos) X.env=(do
      let ov ← eval o X.env
      standAt apos.atName
      let (f,first) ← holding [ov] (getMethod ov m pl)
      callWith pos f first (backTo pos (starEach (e :: es) X.env)) (backToKw pos (keywordEach [] X.env))):=by rfl) :
    PE X (.Call (.Attribute o m apos) (e :: es) [] pos) (jKI P w K mg base k m G ta t):=by
  obtain ⟨rfl,rfl,rfl,rfl,rfl⟩:=q
  exact jAU (pl:=pl) k hx hr he ha hst hpl ht
end
end L2
namespace L2
open PySem PyProof.Rows PySem.Spec PySem.Calls
section
variable {X:Cx} {K:PySem.W.Frag} {e:Expr} {f:Str} {pos:Pos} {ta:TE}
theorem jH0 (h:X.K=K) (he:PE X e ta) (hb:attributeBase e f X.env (eval e X.env)=eval e X.env):PE X (.Attribute e f pos) (tFldG K ta f):=by
  subst h
  exact pe_fldG he hb
end
end L2
namespace L2
open PySem PySem.Spec PyProof.Rows
noncomputable def Its (lo d:Int) (n:Nat):It:=⟨fun i _=>i < n,fun i H x H'=>H'=H∧x=.int (lo + i * d),fun i _=>n≤i⟩
theorem jLr {P:Program} {w:World} {K:PySem.W.Frag} {tg:Expr} (it:Addr) (lo d:Int) (n:Nat):Turn P w K tg (Its lo d n) [it] it (fun i h=>IsRangeIter h it (lo + (i:Nat) * d) ((n:Int) - (i:Nat)) d) where
  mem:=by simp
  obj:=fun i h st b hb=>by
    have e:b=it:=by simpa using hb
    subst e
    exact ⟨_,st,fun v z=>nomatch (show Data.fields _=Data.cell v from z)⟩
  keep:=fun i h h' st k=>k it (by simp) _ st
  item:=by
    intro X hP hw hK hc i pins s σ H E I hf st hg
    subst hP hw hK
    obtain ⟨f0,f1,f2,f3,f4,f5⟩:=hf it (by simp)
    have W:=Walks.range (prog:=X.prog) (w:=X.w) (I.ok.hd hc) it lo d n
    refine W.item i s _ _ hg st fun v h' tk hv st' kk=>?_
    obtain ⟨t,rfl⟩:=hv
    have I1:Inv X pins σ H { s with heap:=h',toks:=tk }:=I.turned (fun b o hb e=>kk b o (by simpa using hb) e) f0 f1 f3 f4 f5
    exact ⟨_,rfl,jKg (s:={ s with heap:=h',toks:=tk }) (n:="range_iterator") st' rfl rfl (by decide) ⟨.int (lo + i * d),H,I1,⟨t,rfl⟩,⟨rfl,rfl⟩,st',fun b hb=>(hf b hb).1⟩⟩
  done:=by
    intro X hP hw hK hc i pins s σ H E I hf st hg
    subst hP hw hK
    obtain ⟨f0,f1,f2,f3,f4,f5⟩:=hf it (by simp)
    exact wpAny_pyNext_range_end (I.ok.hd hc) st (by have:n≤i:=hg;omega) fun h' eb=>⟨rfl,I.turned (t':=s.toks) (fun b o hb e=>eb b o hb e) f0 f1 f3 f4 f5⟩
  self:=fun _ _ _ _ _ st h=>wpAny_pyIter_rangeiter st h
theorem jMi (lo d:Int) (n:Nat) (H1:Hp):Seq (Its lo d n) H1 ((List.range n).map fun i=>V.int (lo + (i:Nat) * d)) where
  go:=fun i H _ hi=>by
    rw [List.length_map,List.length_range] at hi
    exact hi
  yld:=fun i H x H' _ hi y=>by
    obtain ⟨e,hx⟩:=y
    refine ⟨e,?_⟩
    rw [List.length_map,List.length_range] at hi
    rw [List.getElem?_map,List.getElem?_range hi,hx]
    rfl
  stop:=fun H _=>by
    show n≤_
    rw [List.length_map,List.length_range]
    exact Nat.le_refl _
theorem jMj {a b d:Int} (ha:-(2 ^ 60)≤a) (ha':a < 2 ^ 60) (hb:-(2 ^ 60)≤b) (hb':b < 2 ^ 60) (hd:0 < d) (hd':d < 2 ^ 29):Builtin.Range.small a b d=true:=by
  unfold Builtin.Range.small Builtin.Range.rangeSize
  simp only [Builtin.Range.rangeFitsLong,Bool.and_eq_true,Bool.or_eq_true,decide_eq_true_eq,beq_iff_eq,show d > 0 from hd,if_true]
  by_cases h:a < b
  · have h1:(b - a - 1) / d≤b - a - 1:=Int.ediv_le_self _ (by omega)
    have h2:0≤(b - a - 1) / d:=Int.ediv_nonneg (by omega) (by omega)
    have h3:d * ((b - a - 1) / d)≤b - a - 1:=Int.mul_ediv_self_le (by omega)
    simp only [if_pos h]
    omega
  · simp only [if_neg h]
    omega
section
variable {X:Cx} {tg:Expr}
theorem jM1 {pins:List (Addr×Obj)} {σ:St} {H:Hp} {s:Shared} {R:It→Hp→Prop} {E:Value→Shared→Prop} {lo hi d:Int} {t u v:Tok} {tk:Nat} (I:Inv X pins σ H s) (hs:Builtin.Range.small lo hi d=true) (h0:0≤Builtin.Range.rangeSize lo hi d)
    (q:R (Its lo d (Builtin.Range.rangeSize lo hi d).toNat) H):wpAny (model X.prog X.w) X.A (pyIter (.ref s.heap.objs.size)) (PIE X pins σ tg R) E { s with heap:=s.heap.push { cls:=.type "range",data:=.fields #[.int lo t,.int hi u,.int d v] },toks:=tk }:=by
  refine wpAny_pyIter_range (IsRange.new ..) hs ?_
  have I1:Inv X pins σ H { s with heap:=s.heap.push { cls:=.type "range",data:=.fields #[.int lo t,.int hi u,.int d v] },toks:=tk }:=I.kept fun b o e=>Heap.get?_push_of_some _ e
  refine ⟨(s.heap.push { cls:=.type "range",data:=.fields #[.int lo t,.int hi u,.int d v] }).objs.size,[(s.heap.push { cls:=.type "range",data:=.fields #[.int lo t,.int hi u,.int d v] }).objs.size],_,_,H,rfl,
    I1.kept (t':=tk) fun b o e=>Heap.get?_push_of_some _ e,jLr _ lo d _,?_,fun b hb=>?_,q⟩
  · have e1:lo + ((0:Nat):Int) * d=lo:=by simp
    have e2:(((Builtin.Range.rangeSize lo hi d).toNat:Nat):Int) - ((0:Nat):Int)=Builtin.Range.rangeSize lo hi d:=by omega
    show IsRangeIter _ _ (lo + ((0:Nat):Int) * d) ((((Builtin.Range.rangeSize lo hi d).toNat:Nat):Int) - ((0:Nat):Int)) d
    rw [e1,e2]
    exact (Heap.get?_push_size _ rfl)
  · have e:b=(s.heap.push { cls:=.type "range",data:=.fields #[.int lo t,.int hi u,.int d v] }).objs.size:=by simpa using hb
    subst e
    exact I1.fpOk (Nat.le_refl _) (I1.hok.fresh (Nat.le_refl _))
noncomputable def iRng3 (ta:TA):TI:=fun σ H R=>ta σ H fun vs H1=>∃ i j d:Int,vs=[.int i,.int j,.int d]∧(-(2 ^ 60)≤i∧i < 2 ^ 60∧-(2 ^ 60)≤j∧j < 2 ^ 60∧0 < d∧d < 2 ^ 29)∧R (Its i d (if i < j then (j - i - 1) / d + 1 else 0).toNat) H1
theorem jM2 {a b c:Expr} {ta:TA} {p pos:Pos} (hg:Gl X "range") (hm:X.mg "range"=none) (ha:PA X [a,b,c] ta) (hs:starEach [a,b,c] X.env=[(false,eval a X.env),(false,eval b X.env),(false,eval c X.env)]:=by rfl) (hs2:starEach [b,c] X.env=[(false,eval b X.env),(false,eval c X.env)]:=by rfl) :
    PI X tg (.Call (.Name "range" p) [a,b,c] [] pos) (iRng3 ta):=by
  intro pins s σ H R I h
  refine Call_ (jGq I hg hm boot_range (PyProof.Rows.callWith_type1 (thn (ha pos pins s σ H _ I h) fun us s1 ⟨vs,H1,I1,r1,q1⟩=>?_) (by rw [hs,hs2]) (by rw [hs2];rfl)))
  obtain ⟨i,j,d,e,⟨q1,q2,q3,q4,q5,q6⟩,q⟩:=q1
  subst e
  obtain ⟨u1,u2,u3,rfl,x1,x2,x3⟩:∃ u1 u2 u3,us=[u1,u2,u3]∧jAB (.int i) u1∧jAB (.int j) u2∧jAB (.int d) u3:=by
    cases r1 with
    | cons x1 rr =>
      cases rr with
      | cons x2 rr =>
        cases rr with
        | cons x3 rr =>
          cases rr
          exact ⟨_,_,_,rfl,x1,x2,x3⟩
  obtain ⟨t1,rfl⟩:=x1
  obtain ⟨t2,rfl⟩:=x2
  obtain ⟨t3,rfl⟩:=x3
  have er:Builtin.Range.rangeSize i j d=if i < j then (j - i - 1) / d + 1 else 0:=by
    unfold Builtin.Range.rangeSize;rw [if_pos (show d > 0 from q5)]
  refine call_range_3 (by omega) (jM1 I1 (jMj q1 q2 q3 q4 q5 q6) ?_ (by rw [er];exact q)) (Or.inl (PyProof.noPylong_small (by omega)))
  rw [er]
  split
  · have:=Int.ediv_nonneg (a:=j - i - 1) (b:=d) (by omega) (by omega)
    omega
  · exact Int.le_refl _
end
end L2
namespace L2
open PySem PySem.Spec PyProof.Rows
noncomputable def New (H H':Hp) (G:Hp→Prop):Prop:=∃ S:Addr→Prop,(∀ b,S b→H b=none∧∃ o,H' b=some o)∧∀ H3,(∀ b,S b→H3 b=H' b)→G H3
theorem jFH {J:It} {tc:TT} {te:TE} {σf:Option V→St} {H1:Hp} {Q:VK} {xs:List V} (S:Seq J H1 xs) (G:V→V→Hp→Prop) (hz:xs.length < sizeLine)
    (hc:∀ x∈xs,∀ (H':Hp) (R:Bool→Hp→Prop),jAr H1 H'→R true H'→tc (σf (some x)) H' R)
    (he:∀ x∈xs,∀ (H':Hp) (R:VK),jAr H1 H'→(∀ y H'',jAr H' H''→New H' H'' (G x y)→R y H'')→te (σf (some x)) H' R)
    (q:∀ D H' ys,jAr H1 H'→H1 D=none→H' D=some (.lst ys)→ys.length=xs.length→(∀ (i:Nat) x y,xs[i]?=some x→ys[i]?=some y→G x y H')→Q (.ref D) H'):jKm J tc te σf H1 Q:=by
  intro D hD
  refine ⟨fun i m ys H2=>m=xs.length - i∧i≤xs.length∧jAr H1 H2∧H2 D=some (.lst ys)∧ys.length=i∧∀ (k:Nat) x y,xs[k]?=some x→ys[k]?=some y→∃ Z:Addr→Prop,(∀ b,Z b→b≠D∧∃ o,H2 b=some o)∧∀ H3,(∀ b,Z b→H3 b=H2 b)→G x y H3,
    ⟨xs.length,rfl,Nat.zero_le _,jAl hD _,jAc,rfl,fun k x y _ e=>by simp at e⟩,?_⟩
  rintro i m ys H2 ⟨rfl,hi,sm,hD2,hl,hg⟩
  refine ⟨hD2,?_⟩
  by_cases hlt:i < xs.length
  · refine .inr ⟨S.go i H2 sm hlt,by omega,fun x H3 y=>?_⟩
    obtain ⟨e,hx⟩:=S.yld i H2 x H3 sm hlt y
    subst e
    have mem:x∈xs:=List.mem_of_getElem? hx
    refine hc x mem _ _ sm (jA6 (he x mem _ _ sm fun yv H5 s5 ny=>⟨s5 _ _ hD2,xs.length - (i + 1),by omega,rfl,hlt,jEn hD (sm.trans s5) _,jAc,by rw [List.length_append,hl];rfl,fun k x' y' ex ey=>?_⟩))
    by_cases hk:k < i
    · rw [List.getElem?_append_left (by omega)] at ey
      obtain ⟨Z,z1,z2⟩:=hg k x' y' ex ey
      refine ⟨Z,fun b hb=>?_,fun H6 h6=>z2 H6 fun b hb=>?_⟩
      · obtain ⟨nb,o,ho⟩:=z1 b hb
        exact ⟨nb,o,by rw [jAi nb];exact s5 _ _ ho⟩
      · obtain ⟨nb,o,ho⟩:=z1 b hb
        rw [h6 b hb,jAi nb,s5 _ _ ho,ho]
    · have ek:k=i:=by
        have:=(List.getElem?_eq_some_iff.mp ey).1
        rw [List.length_append,hl] at this
        have:k < i + 1:=this
        omega
      subst ek
      rw [List.getElem?_append_right (by omega),hl,Nat.sub_self] at ey
      obtain rfl:yv=y':=Option.some.inj ey
      obtain rfl:x=x':=Option.some.inj (hx.symm.trans ex)
      obtain ⟨Z,z1,z2⟩:=ny
      have nD:∀ b,Z b→b≠D:=fun b hb e=>by
        have:=(z1 b hb).1
        rw [e,hD2] at this
        cases this
      refine ⟨Z,fun b hb=>?_,fun H6 h6=>z2 H6 fun b hb=>?_⟩
      · obtain ⟨_,o,ho⟩:=z1 b hb
        exact ⟨nD b hb,o,by rw [jAi (nD b hb)];exact ho⟩
      · rw [h6 b hb,jAi (nD b hb)]
  · have e:i=xs.length:=by omega
    refine .inl ⟨by rw [e];exact S.stop H2 sm,q D H2 ys sm hD hD2 (by omega) fun k x y ex ey=>?_⟩
    obtain ⟨Z,_,z2⟩:=hg k x y ex ey
    exact z2 H2 fun _ _=>rfl
end L2
namespace L2
open PySem PySem.Spec PyProof.Rows
noncomputable def ofVal:Value→V
  | .bool b=>.bl b
  | .int i _=>.int i
  | .str x _=>.str x
  | .bytes b _=>.byt b
  | .float b _=>.flt b
  | .ref a=>.ref a
  | .type n=>.ty n
  | _=>.non
noncomputable def rIndex:V→List V→Hp→VK→Prop:=fun x vs H Q=>∃ l xs y j,x=.ref l∧vs=[y]∧H l=some (.lst xs)∧xs.all jBt=true∧jBt y=true∧xs.length≤1000∧j < xs.length∧eqV (xs.getD j .non) y=true∧(∀ m,m < j→eqV (xs.getD m .non) y=false)∧Q (.int (j:Nat)) H
end L2
namespace L2
open PySem PyProof.Rows PySem.Spec PySem.Calls
noncomputable def rDq (K:PySem.W.Frag) (n:Nat) (b:Bool):R2:=fun x y H Q=>∃ a c xs ys,x=.ref a∧y=.ref c∧((SqL K H a xs∧SqL K H c ys)∨(SqT K H a xs∧SqT K H c ys))∧xs.length=ys.length∧(∀ j,j < xs.length→Deq K H n (xs.getD j .non) (ys.getD j .non))∧Q (.bl b) H
theorem jJQ {A:Around} {n:Nat} (h:A.units + (n + 1) < cLine):A.in1.units + n < cLine:=by
  have:A.in1.units=A.units + 1:=by first | rfl | exact Around.units_in1 _
  omega
theorem jGN {X:Cx} {n:Nat} (hu:X.A.units + (n + 1) < cLine):OpR X (compareOp .NotEq) (rDq X.K n false):=by
  intro pins s σ H x y v u Q I rx ry h
  obtain ⟨a,c,xs,ys,rfl,rfl,hs,hl,he,q⟩:=h
  cases rx
  cases ry
  rcases hs with ⟨h1,h2⟩ | ⟨h1,h2⟩
  · obtain ⟨its,r1,l1,_⟩:=I.list h1
    obtain ⟨jts,r2,l2,_⟩:=I.list h2
    have e1:=r1.length
    have e2:=r2.length
    have:=SeqAt.RcNeAt.lists (A:=X.A) (e:=fun _=>true) l1.isList l2.isList (by simp;omega) (by omega) (fun j q1 q2=>jGL I n X.A.in1 _ _ _ _ (jJQ hu) (he j (by simp at q1;omega)) (jEm r1 j q1) (jEm r2 j q2))
    rw [show (List.range its.toArray.size).all (fun _=>true)=true from List.all_eq_true.mpr fun _ _=>rfl] at this
    exact this X.prog X.w _ _ ⟨.bl false,H,I,rfl,q⟩
  · obtain ⟨its,r1,l1,_⟩:=I.tuple h1
    obtain ⟨jts,r2,l2,_⟩:=I.tuple h2
    have e1:=r1.length
    have e2:=r2.length
    have:=SeqAt.RcNeAt.tuples (A:=X.A) (e:=fun _=>true) l1 l2 (by omega) (fun j q1 q2=>jGL I n X.A.in1 _ _ _ _ (jJQ hu) (he j (by simp at q1;omega)) (jEm r1 j q1) (jEm r2 j q2))
    rw [show (List.range (min its.toArray.size jts.toArray.size)).all (fun _=>true)=true from List.all_eq_true.mpr fun _ _=>rfl,Bool.true_and,beq_iff_eq.mpr (by simp;omega)] at this
    exact this X.prog X.w _ _ ⟨.bl false,H,I,rfl,q⟩
end L2
namespace L2
open PySem PyProof.Rows PySem.Spec PySem.Calls
theorem jEh {A:Around} {k:Nat} (hr:jBc k A) (n:Nat) (h:n≤60):A.units + (n + 1) < cLine:=Nat.lt_of_le_of_lt (Nat.add_le_add_left (by omega:n + 1≤64) _) hr.units
end L2
namespace L2
open PySem PyProof.Rows PySem.Spec PySem.Calls
noncomputable def inSt2 (frees:List (Str×Nat)) (σ:St) (x y:Option V):St:=x :: y :: frees.map fun p=>(σ[p.2]?).join
noncomputable def CompB2 (K:PySem.W.Frag) (J:It) (tc:TT) (te:TE) (σf:Option V→Option V→St) (H1:Hp) (Q:VK):Prop:=∀ D,H1 D=none →
  ∃ W:Nat→Nat→List V→Hp→Prop,(∃ m,W 0 m [] (upd H1 D (.lst [])))∧∀ i m ys H2,W i m ys H2→H2 D=some (.lst ys) ∧
    ((J.stop i H2∧Q (.ref D) H2)∨(J.go i H2∧ys.length < sizeLine∧∀ z H3,J.yld i H2 z H3→∃ a x x2,z=.ref a∧SqT K H3 a [x,x2]∧tc (σf (some x) (some x2)) H3 fun b H4 =>
      if b=true then te (σf (some x) (some x2)) H4 fun y H5=>H5 D=some (.lst ys)∧∃ m',m' < m∧W (i + 1) m' (ys ++ [y]) (upd H5 D (.lst (ys ++ [y]))) else ∃ m',m' < m∧W (i + 1) m' ys H4))
section
variable {X:Cx} {elt iter:Expr} {x x2:Str} {px px2 tp pos:Pos} {kk:Nat} {ifs:List Expr} {scope:Scope} {frees:List (Str×Nat)} {tc:TT} {te:TE}
structure CompOk2 (X:Cx) (scope:Scope) (x x2:Str) (frees:List (Str×Nat)):Prop where
  cell:∀ y∈scope.names,y.2≠.cell
  kind:scope.kind=.function
  own:scope.names.lookup x=some .local
  own2:scope.names.lookup x2=some .local
  names:∀ y∈scope.names,y.2=.local→scope.names.lookup y.1=some .local
  fr:jFA X scope frees
  nd:(x :: x2 :: frees.map (·.1)).Nodup
  cl:∀ p∈scope.names,p.2=.free→(X.env.cells.lookup p.1).isSome=true
  calm:X.calm=true
noncomputable def tComp2 (K:PySem.W.Frag) (frees:List (Str×Nat)) (tc:TT) (te:TE) (wi:TI):TE:=fun σ H Q=>wi σ H fun J H1=>CompB2 K J tc te (inSt2 frees σ) H1 Q
end
end L2
namespace L2
open PySem PySem.Spec PyProof.Rows
noncomputable def rngV (i:Int) (n:Nat):List V:=(List.range n).map fun k=>V.int (i + (k:Nat))
section
variable {X:Cx}
noncomputable def tListRange (ta:TA):TE:=fun σ H Q=>ta σ H fun vs H1=>∃ i j:Int,vs=[.int i,.int j]∧(-(2 ^ 62)≤i∧i < 2 ^ 62∧-(2 ^ 62)≤j∧j < 2 ^ 62)∧(j - i).toNat≤sizeLine∧(j - i).toNat≤2 ^ 24∧∀ l,H1 l=none→Q (.ref l) (upd H1 l (.lst (rngV i (j - i).toNat)))
end
end L2
namespace L2
open PySem PySem.Spec PyProof.Rows
noncomputable def rListOf (K:PySem.W.Frag):List V→Hp→VK→Prop:=fun xs H Q=>∃ p ys,xs=[.ref p]∧(SqL K H p ys∨SqT K H p ys)∧∀ l,H l=none→Q (.ref l) (upd H l (.lst ys))
end L2
namespace PySem
open Sem (wp)
theorem jI4:typeLookup (.type "list") "keys"=pure none:=am_miss_of_fast (by decide +kernel)
theorem jLs {prog:Program} {w:World} {A:Around} {E:Value→Shared→Prop} {s:Shared} {a:Addr} {xs:Array Value} {n:Nat} {Q:Option Value→Shared→Prop}
    (hx:s.heap.get? a=some { cls:=.type "list",dict:=none,data:=.seq xs n }) (hA:A.handled=none)
    (h:∀ h' tk,(∀ b ob,s.heap.get? b=some ob→h'.get? b=some ob)→Q none { s with heap:=h',toks:=tk }) :
    wpAny (model prog w) A (getAttr? (.ref a) "keys") Q E s:=by
  obtain ⟨hp,g,d,tk,os⟩:=s
  have hT:∀ tk',(⟨hp,g,d,tk',os⟩:Shared).TypeIs (.ref a) "list":=fun _=>⟨_,hx,rfl⟩
  have g1:=sub_AttributeError
  have g3:=F.slot_list_getattribute.lookup
  have g4:=F.slot_list_getattribute.bind (.ref a)
  have g5:=am_list_getattr_none
  unfold getAttr? getAttrBy? getAttrBy
  repeat (any_goals (first | assumption | exact hT _ | ((with_reducible show wpAny _ _ (call (Value.builtin "list.__getattribute__") _ _) _ _ _);refine call_meets F.slot_list_getattribute (hT _) am_entry_list_getattribute (F.args_list_getattribute_2 _ _) (meets_getattribute_miss_list a xs n _ "keys" _ jI4 (by decide +kernel) (by size_fits)) ⟨hx,hA,fun h' tk' e hx=>?_⟩) | wp_step))
  obtain ⟨t',u',he⟩:=hx.there
  show wpAny (model prog w) A (getattributeRaised _ _ _ _ _ _ _) _ _ _
  have hTe:∀ tk',(⟨h',g,d,tk',os⟩:Shared).TypeIs (.ref e) "AttributeError":=fun _=>⟨_,he,rfl⟩
  unfold getattributeRaised
  repeat (any_goals (first | assumption | exact hTe _ | wp_step))
  exact h _ _ hx.keeps
end PySem
namespace PySem
open Sem (wp)
theorem jFI:entryFor table "dict.update.loop"=some Builtin.«dict.update.loop»:=entryFor_of_tree (by kernel_rfl)
theorem jC7:plainId "dict.update.loop"=true:=by decide +kernel
section
variable {prog:Program} {w:World} {K:Type} [DecidableEq K] {knd:KeyKind prog w K} {A:Around} {R:Result→Shared→Prop}
noncomputable def jD6 (ps:List (K×Value)):List (K×Value):=ps.foldl (fun acc p=>stored acc p.1 p.2) []
theorem jMk (kvs:List (K×Value)) (k:K) (v:Value):(stored kvs k v).length≤kvs.length + 1:=by
  unfold stored
  split
  · rw [List.length_map];exact Nat.le_succ _
  · rw [List.length_append];exact Nat.le_refl _
theorem jLt (ps:List (K×Value)) (p:K×Value):jD6 (ps ++ [p])=stored (jD6 ps) p.1 p.2:=by
  unfold jD6
  rw [List.foldl_append]
  rfl
theorem jJR:∀ (ps acc:List (K×Value)),(ps.foldl (fun acc p=>stored acc p.1 p.2) acc).length≤acc.length + ps.length
  | [],_=>Nat.le_refl _
  | p :: r,acc=>by
    have h1:=jJR r (stored acc p.1 p.2)
    have h2:=jMk acc p.1 p.2
    rw [List.foldl_cons,List.length_cons]
    omega
theorem jMl {h₀:Heap} {l it D:Addr} {items:Array Value} {ps:List (K×Value)} (hA:A.handled=none) (hl:h₀.IsList l items) (nit:h₀.get? it=none) (nD:h₀.get? D=none) (ne:it≠D)
    (hn:items.size=ps.length) (hi:∀ (i:Nat) p,ps[i]?=some p→∃ t key,items[i]?=some (.ref t)∧knd.is p.1 key=true∧h₀.IsTuple t #[key,p.2]) (hz:ps.length≤sizeLine) :
    ∀ (k i:Nat) (s:Shared) (tk:Tok),ps.length - i=k→i≤ps.length→s.heap.IsListIter it l i→(∀ b o,h₀.get? b=some o→s.heap.get? b=some o)→s.heap.DictOf knd D (jD6 (ps.take i)) →
      (∀ h' tk',(∀ b o,b≠it→b≠D→s.heap.get? b=some o→h'.get? b=some o)→h'.DictOf knd D (jD6 ps)→R (.ok (.ret .none)) { s with heap:=h',toks:=tk' }) →
      codeAny (model prog w) A (.builtin "dict.update.loop" ⟨[.ref D,.ref it,.int i tk,.none],[]⟩) R s:=by
  intro k
  induction k with
  | zero =>
    intro i s tk hk hi' hit kp hD hR
    have e:i=ps.length:=by omega
    subst e
    refine codeAny_builtin jFI ?_
    rw [Around.under_plainId jC7 _]
    show wpAny _ A.in1 (pyNext (.ref it) >>= _) _ _ s
    refine wpAny_bind (wpAny_pyNext_list_end (i:=ps.length) (items:=items) hA hit ?_ ?_ fun h' hx=>?_)
    · exact let ⟨o,ho,r⟩:=hl;⟨o,kp _ _ ho,r⟩
    · exact Array.getElem?_eq_none (by omega)
    · show wpAny _ A.in1 (Builtin.Dict.addKeywords D [] >>= fun _=>ret Value.none) _ _ _
      refine wpAny_bind (wpAny_pure (wpAny_pure (hR h' s.toks (fun b o nb _ e=>hx b o nb e) ?_)))
      rw [List.take_length] at hD
      exact hD.extBut hx (Ne.symm ne)
  | succ k ih =>
    intro i s tk hk hi' hit kp hD hR
    obtain ⟨p,hp⟩:∃ p,ps[i]?=some p:=⟨_,List.getElem?_eq_getElem (by omega)⟩
    obtain ⟨t,key,ht,hkey,htup⟩:=hi i p hp
    refine codeAny_builtin jFI ?_
    rw [Around.under_plainId jC7 _]
    show wpAny _ A.in1 (pyNext (.ref it) >>= _) _ _ s
    refine wpAny_bind (wpAny_pyNext_list_item (i:=i) (items:=items) hit (let ⟨o,ho,r⟩:=hl;⟨o,kp _ _ ho,r⟩) ht fun h' hit' hs=>?_)
    have kp':∀ b o,h₀.get? b=some o→h'.get? b=some o:=fun b o e=>(hs.2 b (fun z=>by rw [z,nit] at e;cases e)).trans (kp b o e)
    obtain ⟨ot,hot,hct,nt,hdt⟩:=htup
    have hot':=kp' _ _ hot
    have hT:(⟨h',s.gens,s.drawn,s.toks,s.os⟩:Shared).TypeIs (.ref t) "tuple":=⟨_,hot',hct⟩
    have tk1:ps.take (i + 1)=ps.take i ++ [p]:=by rw [List.take_add_one,hp];rfl
    have pz:(jD6 (ps.take i)).length≤sizeLine:=by
      have h1:=jJR (ps.take i) []
      rw [List.length_take] at h1
      unfold jD6
      simp only [List.length_nil] at h1
      omega
    show wpAny _ A.in1 (holding [Value.ref t] _ >>= _) _ _ _
    refine wpAny_bind (wpAny_holding ?_)
    refine wpAny_bind (wpAny_tryCatch ?_)
    unfold Builtin.Dict.pairItems
    refine wpAny_bind (wpAny_typeOf hT ?_)
    rw [if_pos (by decide)]
    refine wpAny_bind (wpAny_seqItems hot' hdt (wpAny_pure ?_))
    show wpAny _ A.in1 (holding [key,p.2] (dictSet D key p.2)) _ _ _
    refine wpAny_holding ?_
    have hD':Heap.DictOf knd h' D (jD6 (ps.take i)):=hD.sameBut hs (Ne.symm ne)
    refine wpAny_dictSet_pairs (s:=⟨h',s.gens,s.drawn,s.toks,s.os⟩) (hsz:=pz) hkey hD' fun h2 hD2 hs2=>?_
    rw [← jLt,← tk1] at hD2
    refine wpAny_pure ⟨plainId_quiet jC7 _,?_⟩
    have hit2:h2.IsListIter it l (i + 1):=let ⟨o,ho,r⟩:=hit';⟨o,(hs2.2 it ne).trans ho,r⟩
    refine ih (i + 1) ⟨h2,s.gens,s.drawn,s.toks + 1,s.os⟩ 0 (by omega) (by omega) hit2 (fun b o e=>(hs2.2 b (fun z=>by rw [z,nD] at e;cases e)).trans (kp' b o e)) hD2 fun h3 tk3 k3 hD3=>?_
    exact hR h3 tk3 (fun b o n1 n2 e=>k3 b o n1 n2 ((hs2.2 b n2).trans ((hs.2 b n1).trans e))) hD3
theorem jJX {E:Value→Shared→Prop} {s:Shared} {l:Addr} {items:Array Value} {n:Nat} {ps:List (K×Value)} {Q:Value→Shared→Prop} (hA:A.handled=none) (hx:s.heap.get? l=some { cls:=.type "list",dict:=none,data:=.seq items n })
    (hn:items.size=ps.length) (hi:∀ (i:Nat) p,ps[i]?=some p→∃ t key,items[i]?=some (.ref t)∧knd.is p.1 key=true∧s.heap.IsTuple t #[key,p.2]) (hz:ps.length≤sizeLine)
    (h:∀ h' tk,(∀ b o,s.heap.get? b=some o→h'.get? b=some o)→h'.DictOf knd s.heap.objs.size (jD6 ps)→Q (.ref s.heap.objs.size) { s with heap:=h',toks:=tk }) :
    wpAny (model prog w) A (call (.type "dict") [.ref l]) Q E s:=by
  refine callType_codes (Q₁:=fun obj s₁=>obj=.ref s.heap.objs.size∧s₁={ s with heap:=s.heap.push { cls:=.type "dict",data:=.dict #[] } }) F.kt_called_dict (F.kt_typeCall_dict_1 _) F.entry_dict_init (kt_code_dict_new _ ⟨rfl,rfl⟩) ?_
  rintro obj s₁ ⟨rfl,rfl⟩
  have hnew:(s.heap.push { cls:=.type "dict",data:=.dict #[] }).DictOf knd s.heap.objs.size []:=Heap.DictOf.new s.heap
  have hx':(s.heap.push { cls:=.type "dict",data:=.dict #[] }).get? l=some { cls:=.type "list",dict:=none,data:=.seq items n }:=Heap.get?_push_of_some _ hx
  refine ⟨hnew.typeIs,F.args_dict_init_2 _ _,?_⟩
  unfold Builtin.«dict.__init__»
  refine wpAny_bind ?_
  unfold Builtin.Dict.selfAndRest
  refine wpAny_bind (wpAny_notOrdered_dict hnew.typeIs ?_)
  show wpAny _ _ (pure (s.heap.objs.size,[Value.ref l])) _ _ _
  refine wpAny_pure ?_
  show wpAny _ _ (Builtin.Dict.updateFrom "dict.__init__" s.heap.objs.size (.ref l) [] .none) _ _ _
  unfold Builtin.Dict.updateFrom
  refine wpAny_bind (wpAny_typeOf (T:="list") ⟨_,hx',rfl⟩ ?_)
  rw [if_pos (by decide)]
  refine wpAny_bind (jLs hx' hA fun h1 tk1 k1=>?_)
  simp only [Option.isNone_none,if_true]
  refine wpAny_bind (wpAny_rule (wpAny_bind (wpAny_pyIter_list (items:=items) ⟨_,k1 _ _ hx',rfl,n,rfl⟩ ?_)))
  have hsz:s.heap.objs.size < h1.objs.size:=by
    obtain ⟨o,_,_,ho,_⟩:=hnew
    exact Heap.lt_size (k1 _ _ ho)
  refine wpAny_pure ⟨plainId_quiet jC7 _,?_⟩
  have keep:∀ b o,s.heap.get? b=some o→(h1.push { cls:=.type "list_iterator",data:=.fields #[.ref l,.int 0 0] }).get? b=some o:=fun b o e=>Heap.get?_push_of_some _ (k1 _ _ (Heap.get?_push_of_some _ e))
  refine jMl (A:=A.in1) (R:=wants (fun r s₂=>r=Value.none∧Q (Value.ref s.heap.objs.size) s₂) E) (h₀:=s.heap) (l:=l) (items:=items) (ps:=ps) hA ⟨_,hx,rfl,n,rfl⟩ (Heap.get?_none_of_le (Nat.le_of_lt hsz)) (Heap.get?_none_of_le (Nat.le_refl _)) (Ne.symm (Nat.ne_of_lt hsz)) hn hi hz ps.length 0 ⟨h1.push { cls:=.type "list_iterator",data:=.fields #[.ref l,.int 0 0] },s.gens,s.drawn,tk1,s.os⟩ 0 (Nat.sub_zero _) (Nat.zero_le _) ⟨_,Heap.get?_push_size _ rfl,rfl,rfl⟩ keep ?_ fun h' tk' k' hD'=>?_
  · obtain ⟨o,es,ep,ho,r⟩:=hnew
    exact ⟨o,es,ep,Heap.get?_push_of_some _ (k1 _ _ ho),r⟩
  · refine ⟨rfl,h h' tk' (fun b o e=>k' b o ?_ ?_ (keep b o e)) hD'⟩
    · intro z
      exact absurd (Heap.lt_size e) (by rw [z];exact Nat.not_lt.mpr (Nat.le_of_lt hsz))
    · intro z
      exact absurd (Heap.lt_size e) (by rw [z];exact Nat.lt_irrefl _)
end
end PySem
namespace L2
open PySem PySem.Spec PyProof.Rows
theorem kv_mk:∀ {kvs:List (Key×V)} {us:List Value},(kvs.map (·.2)).length=us.length→(∀ (i:Nat) q u,kvs[i]?=some q→us[i]?=some u→jAB q.2 u)→∃ vs:List (Key×Value),KV kvs vs∧vs.map (·.1)=kvs.map (·.1)∧vs.map (·.2)=us
  | [],[],_,_=>⟨[],.nil,rfl,rfl⟩
  | q :: r,u :: us,e,h=>by
    obtain ⟨vs,h1,h2,h3⟩:=kv_mk (kvs:=r) (us:=us) (Nat.succ.inj e) fun i q u e1 e2=>h (i + 1) q u e1 e2
    exact ⟨(q.1,u) :: vs,.cons ⟨rfl,h 0 q u rfl rfl⟩ h1,by rw [List.map_cons,List.map_cons,h2],by rw [List.map_cons,h3]⟩
  | [],_ :: _,e,_=>nomatch e
  | _ :: _,[],e,_=>nomatch e
noncomputable def jMm (K:PySem.W.Frag):List V→Hp→VK→Prop:=fun xs H Q=>∃ p ts kvs,xs=[.ref p]∧H p=some (.lst ts)∧ts.length=kvs.length∧(∀ (i:Nat) y (q:Key×V),ts[i]?=some y→kvs[i]?=some q→∃ t,y=.ref t∧SqT K H t [kV q.1,q.2])∧(kvs.map (·.1)).Nodup ∧
  ∀ d,H d=none→Q (.ref d) (upd H d (.dK kvs))
theorem jIk {X:Cx} (hc:X.calm=true):CallR X (.type "dict") (jMm X.K):=by
  intro pins s σ H xs us Q I r h
  obtain ⟨p,ts,kvs,rfl,hp,lt,ht,nd,q⟩:=h
  obtain ⟨u,rfl,rx⟩:=jFm r
  cases rx
  obtain ⟨hz,its,n,rv,e⟩:=Rd.ok (u:=.lst ts) (.inl hp) I.hok
  have li:=rv.length
  have at1:∀ (i:Nat) q,kvs[i]?=some q→∃ t key w',its[i]?=some (.ref t)∧jAB (kV q.1) key∧jAB q.2 w'∧s.heap.IsTuple t #[key,w']:=fun i q eq=>by
    have hi:i < kvs.length:=(List.getElem?_eq_some_iff.mp eq).1
    obtain ⟨y,ey⟩:∃ y,ts[i]?=some y:=⟨_,List.getElem?_eq_getElem (by omega)⟩
    obtain ⟨t,rfl,hq⟩:=ht i y q ey eq
    obtain ⟨u,eu,ru⟩:=jAI.get rv ey
    cases ru
    obtain ⟨jt,rj,tj,_⟩:=I.tuple hq
    cases rj with
    | cons r1 rr =>
      cases rr with
      | cons r2 rr =>
        cases rr
        exact ⟨t,_,_,eu,r1,r2,tj⟩
  obtain ⟨ws,lw,gw⟩:∃ ws:List Value,ws.length=kvs.length∧∀ (i:Nat) q u,kvs[i]?=some q→ws[i]?=some u→jAB q.2 u∧∃ t key,its[i]?=some (.ref t)∧jAB (kV q.1) key∧s.heap.IsTuple t #[key,u]:=by
    have ch:∀ i:Fin kvs.length,∃ w',jAB (kvs[i]).2 w'∧∃ t key,its[i.1]?=some (.ref t)∧jAB (kV (kvs[i]).1) key∧s.heap.IsTuple t #[key,w']:=fun i=>by
      obtain ⟨t,key,w',h1,h2,h3,h4⟩:=at1 i.1 kvs[i] (List.getElem?_eq_getElem i.2)
      exact ⟨w',h3,t,key,h1,h2,h4⟩
    refine ⟨List.ofFn fun i=>Classical.choose (ch i),List.length_ofFn,fun i q u e1 e2=>?_⟩
    obtain ⟨hi,rfl⟩:=List.getElem?_eq_some_iff.mp e1
    rw [List.getElem?_ofFn,dif_pos hi] at e2
    obtain rfl:=Option.some.inj e2
    exact Classical.choose_spec (ch ⟨i,hi⟩)
  obtain ⟨vs,kv,k1,k2⟩:=kv_mk (kvs:=kvs) (us:=ws) (by rw [List.length_map,lw]) fun i q u e1 e2=>(gw i q u e1 e2).1
  have lv:vs.length=kvs.length:=by rw [← List.length_map (f:=(·.1)),k1,List.length_map]
  refine jJX (knd:=jBe X.prog X.w) (ps:=vs) (I.ok.hd hc) e (by rw [List.size_toArray];omega) (fun i p ep=>?_) (by omega) fun h' tk keep hd=>?_
  · have hi:i < vs.length:=(List.getElem?_eq_some_iff.mp ep).1
    have e1:kvs[i]?=some kvs[i]:=List.getElem?_eq_getElem (by omega)
    have e2:ws[i]?=some p.2:=by rw [← k2,List.getElem?_map,ep];rfl
    have e3:kvs[i].1=p.1:=by
      have h1:(vs.map (·.1))[i]?=some p.1:=by rw [List.getElem?_map,ep];rfl
      rw [k1,List.getElem?_map,e1] at h1
      exact Option.some.inj h1
    obtain ⟨_,t,key,h1,h2,h3⟩:=gw i _ _ e1 e2
    refine ⟨t,key,by rw [List.getElem?_toArray];exact h1,?_,h3⟩
    rw [← e3]
    exact jHq h2
  · rw [show jD6 vs=vs from merged_nil_of_nodup vs (by rw [k1];exact nd)] at hd
    refine ⟨.ref s.heap.objs.size,_,I.laid (t':=tk) keep (Nat.le_refl _) (jG4 (by omega) (beq_eq_false_iff_ne.mpr (Ne.symm (Nat.ne_of_lt I.big))) kv hd),rfl,q _ (I.hok.fresh (Nat.le_refl _))⟩
noncomputable def rDictOf:List V→Hp→VK→Prop:=fun xs H Q=>∃ a kvs,xs=[.ref a]∧Rd H a (.dK kvs)∧∀ d,H d=none→Q (.ref d) (upd H d (.dK kvs))
theorem jGu {X:Cx}:CallR X (.type "dict") rDictOf:=by
  intro pins s σ H xs us Q I r h
  obtain ⟨a,kvs,rfl,e,q⟩:=h
  obtain ⟨u,rfl,rx⟩:=jFm r
  cases rx
  exact jNr I e fun p s' hp I'=>⟨.ref p,_,I',rfl,q p hp⟩
theorem jI5:bootBuiltins "dict"=some (.type "dict"):=by decide +kernel
end L2
namespace L2
open PySem PyProof.Rows PySem.Spec PySem.Calls
section
variable {X:Cx}
noncomputable def rGetL:V→V→Hp→VK→Prop:=fun o i H Q=>∃ p xs k,o=.ref p∧i=.int k∧H p=some (.lst xs)∧0≤k∧k < ((xs.length:Nat):Int)∧∀ v,xs[k.toNat]?=some v→Q v H
noncomputable def rEqT (K:PySem.W.Frag) (neg:Bool):R2:=fun x y H Q=>∃ p q xs ys,x=.ref p∧y=.ref q∧SqT K H p xs∧SqT K H q ys∧xs.length=ys.length∧xs.all jBt=true∧ys.all jBt=true∧Q (.bl (if neg then !eqVs xs ys else eqVs xs ys)) H
end
end L2
namespace L2
open PySem PySem.Spec PyProof.Rows
section
variable {X:Cx}
noncomputable def tPl (K:PySem.W.Frag) (B:Addr) (ts:TS) (tr:TH):TH:=fun D σ H C ea=>PySem.W.excMk K C=true∧PySem.W.excMk K B=true∧∃ b,PySem.W.mroHas K C (.ref B)=b∧if b=true then ts D σ H else tr D σ H C ea
end
end L2
namespace L2
open PySem PyProof.Rows PySem.Spec PySem.Calls
section
variable {X:Cx}
noncomputable def rNeS (K:PySem.W.Frag):R2:=fun x y H Q=>(∃ a i xs,x=.ref a∧y=.str i∧(SqL K H a xs∨SqT K H a xs)∧Q (.bl true) H)∨rNe x y H Q
end
end L2
namespace L2
open PySem PySem.Spec PyProof.Rows
end L2
namespace L2
open PySem PySem.Spec PyProof.Rows
section
variable {X:Cx}
noncomputable def rListDict:List V→Hp→VK→Prop:=fun xs H Q=>∃ p kvs,xs=[.ref p]∧H p=some (.dK kvs)∧∀ l,H l=none→Q (.ref l) (upd H l (.lst (kvs.map fun q=>kV q.1)))
end
end L2
namespace L2
open PySem PySem.Spec PyProof.Rows
section
variable {X:Cx}
noncomputable def rSortedL (K:PySem.W.Frag):List V→Hp→VK→Prop:=fun xs H Q=>∃ p ss,xs=[.ref p]∧SqL K H p (ss.map V.str)∧ss.length < 64∧∀ l ss',H l=none→List.Perm ss' ss→sortedS ss'=true→Q (.ref l) (upd H l (.lst (ss'.map V.str)))
end
end L2
namespace L2
open PySem PySem.Calls PyProof.Rows PyProof.V PySem.Spec PySem.W
end L2
namespace L2
open PySem PySem.Spec PyProof.Rows
section
variable {X:Cx}
noncomputable def rCount:V→List V→Hp→VK→Prop:=fun x vs H Q=>∃ l xs y,x=.ref l∧vs=[y]∧H l=some (.lst xs)∧xs.all jBt=true∧jBt y=true∧Q (.int ((xs.countP fun z=>eqV z y:Nat):Int)) H
noncomputable def rSortedD:List V→Hp→VK→Prop:=fun xs H Q=>∃ p kvs ss,xs=[.ref p]∧H p=some (.dK kvs)∧kvs.map (fun q=>kV q.1)=ss.map V.str∧ss.length < 64∧∀ l ss',H l=none→List.Perm ss' ss→sortedS ss'=true→Q (.ref l) (upd H l (.lst (ss'.map V.str)))
end
end L2
namespace L2
open PySem PySem.Spec PyProof.Rows
section
variable {X:Cx}
noncomputable def rSIndex:V→List V→Hp→VK→Prop:=fun x vs H Q=>∃ z y i rest,x=.str z∧vs=[.str y]∧Builtin.Str.occurrences z y 0 z.length 1=i :: rest∧Q (.int ((i:Nat):Int)) H
end
end L2
namespace L2
open PySem PyProof.Rows PySem.Spec PySem.Calls
section
variable {X:Cx}
noncomputable def rSetD:V→List V→Hp→VK→Prop:=fun x vs H Q=>∃ d kvs k y,x=.ref d∧vs=[kV k,y]∧H d=some (.dK kvs)∧kvs.length < 1000∧(∀ u,jCJ kvs k=some u→Q u H)∧(jCJ kvs k=none→Q y (upd H d (.dK (kvs ++ [(k,y)]))))
noncomputable def hasD (kb:List (Key×V)) (p:Key×V):Bool:=match jCJ kb p.1 with
  | some y=>eqV p.2 y
  | none=>false
noncomputable def eqD (ka kb:List (Key×V)):Bool:=ka.length == kb.length && ka.all (hasD kb)
noncomputable def rEqDk (neg:Bool):R2:=fun x y H Q=>∃ a b ka kb,x=.ref a∧y=.ref b∧H a=some (.dK ka)∧H b=some (.dK kb)∧(∀ p∈ka,jBt p.2=true)∧(∀ p∈kb,jBt p.2=true)∧Q (.bl (if neg then !eqD ka kb else eqD ka kb)) H
noncomputable def pickV (xs:List V) (lo hi st:Option Int):List V:=(sliceRange (sliceBounds lo hi st xs.length).1 (sliceBounds lo hi st xs.length).2.1 (sliceBounds lo hi st xs.length).2.2).filterMap (xs[·]?)
noncomputable def tSl3 (K:PySem.W.Frag) (te:TE) (tl th ts:TO):TE:=fun σ H Q=>te σ H fun x H1=>tl σ H1 fun l H2=>th σ H2 fun u H3=>ts σ H3 fun c H4=>∃ a xs,x=.ref a∧SqL K H4 a xs∧c≠some 0∧∀ p,H4 p=none→Q (.ref p) (upd H4 p (.lst (pickV xs l u c)))
noncomputable def thirds (n:Nat):List Nat:=(List.range n).filter fun k=>k % 3 == 1
end
end L2
namespace L2
open PySem PyProof.Rows PySem.Spec PySem.Calls
section
variable {X:Cx}
end
end L2
namespace My
open PySem L2
noncomputable def fig:List Nat:=List.range' 48 10
noncomputable def isnum (z:Str):Bool:=decide ((1:Int)≤(z.length:Nat)) && decide (((z.length:Nat):Int)≤9) && (z.cps.toList.all fun c=>decide (c∈fig)) && (decide (z=⟨#[48]⟩) || !decide (z.cps.toList.headD 0=48))
noncomputable def val (z:Str):Int:=((NumText.digitsVal z.cps.toList:Nat):Int)
noncomputable def wr (z:Str):V:=if isnum z=true then .int (val z) else .non
noncomputable def jIl (z:Str) (lo hi:Int):V:=if (isnum z && decide (lo≤val z) && decide (val z≤hi))=true then .int (val z) else .non
noncomputable def low:List Nat:=List.range' 97 26
noncomputable def jGk (z:Str):Bool:=decide ((1:Int)≤(z.length:Nat)) && decide (((z.length:Nat):Int)≤12) && decide (z.cps.toList.headD 0∈low) && z.cps.toList.all fun c=>decide (c∈low ++ fig)
noncomputable def lay (z:Str):Bool:=decide (z=Str.ofString "both") || (Txt.startswith z (Str.ofString "up:") && decide (¬ jIl (Txt.slice z (some 3) none) 2 16=V.non))
noncomputable def goods:List V:=(((List.range 15).map fun i=>V.int (2 + ((i:Nat):Int))).filter fun _=>true).map fun v=>match v with | .int n=>V.str (Str.ofString "up:" ++ Str.ofString (toString n)) | _=>.non
noncomputable def jM3:List Str:=(List.range 15).map fun i=>Str.ofString "up:" ++ Str.ofString (toString (2 + ((i:Nat):Int)))
end My
namespace My
open PySem L2
open Blk (sg sg_inj sg_app)
noncomputable def Jc (c:Nat):List (List Nat)→List Nat
  | []=>[]
  | [x]=>x
  | x :: y :: r=>x ++ c :: Jc c (y :: r)
noncomputable def Cc (c:Nat):List Nat→List (List Nat)
  | []=>[[]]
  | d :: r=>if d=c then [] :: Cc c r else match Cc c r with
    | []=>[[d]]
    | p :: ps=>(d :: p) :: ps
noncomputable def tn (n:Int):Str:=Str.ofString (toString n)
end My
namespace My
open PySem L2
open Blk (sg sg_inj sg_app)
inductive VO where
  | v (x:V) | pair (a b:Int)
  deriving DecidableEq
noncomputable def non:VO:=.v .non
noncomputable abbrev cX:Str:=Str.ofString "x"
noncomputable abbrev cCol:Str:=Str.ofString "colour:"
noncomputable abbrev cPap:Str:=Str.ofString "paper:"
noncomputable abbrev cCov:Str:=Str.ofString "cover:"
noncomputable abbrev cAft:Str:=Str.ofString "after:"
noncomputable abbrev cSta:Str:=Str.ofString "staple"
noncomputable abbrev cLay:Str:=Str.ofString "layout"
noncomputable abbrev yZ:Str:=Str.ofString "one"
noncomputable abbrev cPla:Str:=Str.ofString "plain"
noncomputable abbrev cDash:Str:=Str.ofString "-"
noncomputable abbrev jFb:Str:=Str.ofString " "
noncomputable def rst (z p:Str):Str:=Txt.slice z (some ((p.length:Nat):Int)) none
noncomputable def readCol (span:Str) (pages:Int):VO:=match Txt.split span cDash with
  | [a,b]=>(match jIl a 1 pages with
    | .int f=>(match jIl b f pages with
      | .int l=>.pair f l
      | _=>non)
    | _=>non)
  | _=>non
noncomputable def jIm:List Str:=[cPap,cCov,cAft]
noncomputable def four:List Str:=[cX,cCol,cPap,cCov]
noncomputable def jI6 (z:Str) (pages:Int):VO :=
  if z=cSta then .v (.bl true) else if lay z=true then .v (.str z) else if Txt.startswith z cX=true then .v (jIl (rst z cX) 1 99) else if Txt.startswith z cCol=true then readCol (rst z cCol) pages
  else match jIm.find? (fun p=>Txt.startswith z p && jGk (rst z p)) with
    | some p=>.v (.str (rst z p))
    | none=>non
noncomputable def jKJ (z:Str):Str:=if lay z=true then cLay else (four.find? fun p=>Txt.startswith z p).getD z
noncomputable def jKK (pages:Int):List Str→Nat→List (Str×VO)→Except Nat (List (Str×VO))
  | [],_,t=>.ok t
  | w :: r,p,t=>if jI6 w pages=non∨jKJ w∈t.map (·.1) then .error p else jKK pages r (p + 1) (t ++ [(jKJ w,jI6 w pages)])
noncomputable def jHu (t:List (Str×VO)) (k:Str):Option VO:=(t.find? fun p=>decide (p.1=k)).map (·.2)
structure JF where
  name:Str
  asker:Str
  pages:Int
  copies:VO
  layout:VO
  paper:VO
  cover:VO
  colour:VO
  staple:VO
  after:List VO
noncomputable def jNA (ws:List Str):Except Nat Int :=
  if jGk (ws.getD 0 jFb)=false then .error 0 else if ws.length < 2 then .error ws.length else if jGk (ws.getD 1 jFb)=false then .error 1 else if ws.length < 3 then .error ws.length else
  match jIl (ws.getD 2 jFb) 1 999 with
  | .int n=>.ok n
  | _=>.error 2
noncomputable def toldJob (ws:List Str) (pages:Int) (t:List (Str×VO)):JF :=
  { name:=ws.getD 0 jFb,asker:=ws.getD 1 jFb,pages:=pages,copies:=(jHu t cX).getD (.v (.int 1)),layout:=(jHu t cLay).getD (.v (.str yZ)),paper:=(jHu t cPap).getD (.v (.str cPla)),cover:=(jHu t cCov).getD non,colour:=(jHu t cCol).getD non,
    staple:=(jHu t cSta).getD (.v (.bl false)),after:=(t.filter fun p=>Txt.startswith p.1 cAft).map (·.2) }
noncomputable def readJ (z:Str):Except Nat JF:=match jNA (Txt.split z jFb) with
  | .error p=>.error p
  | .ok n=>match jKK n ((Txt.split z jFb).drop 3) 3 [] with
    | .error p=>.error p
    | .ok t=>.ok (toldJob (Txt.split z jFb) n t)
structure Jb where
  name:Str
  asker:Str
  pages:Int
  copies:Int
  layout:Str
  paper:Str
  cover:Option Str
  colour:Option (Int×Int)
  staple:Bool
  after:List Str
structure Jb.Ok (j:Jb):Prop where
  name:jGk j.name=true
  asker:jGk j.asker=true
  p0:1≤j.pages
  p1:j.pages≤999
  c0:1≤j.copies
  c1:j.copies≤99
  lay:j.layout∈yZ :: Str.ofString "both" :: jM3
  paper:jGk j.paper=true
  cover:∀ z,j.cover=some z→jGk z=true
  colour:∀ a b,j.colour=some (a,b)→1≤a∧a≤b∧b≤j.pages
  after:∀ z∈j.after,jGk z=true
  nd:j.after.Nodup
  few:j.after.length≤3
noncomputable def Jb.jf (j:Jb):JF:={ name:=j.name,asker:=j.asker,pages:=j.pages,copies:=.v (.int j.copies),layout:=.v (.str j.layout),paper:=.v (.str j.paper),cover:=(match j.cover with | some z=>.v (.str z) | none=>non),colour:=(match j.colour with | some (a,b)=>.pair a b | none=>non),staple:=.v (.bl j.staple),after:=j.after.map fun z=>.v (.str z) }
noncomputable def Jb.ents (j:Jb) (told:Bool):List (Bool×Str×Str×VO) :=
  [(!decide (j.copies=1) || told,cX ++ tn j.copies,cX,.v (.int j.copies)),(!decide (j.layout=yZ),j.layout,cLay,.v (.str j.layout)),
   (j.colour.isSome,cCol ++ tn (j.colour.getD (1,1)).1 ++ cDash ++ tn (j.colour.getD (1,1)).2,cCol,.pair (j.colour.getD (1,1)).1 (j.colour.getD (1,1)).2),
   (!decide (j.paper=cPla) || told,cPap ++ j.paper,cPap,.v (.str j.paper)),(j.cover.isSome,cCov ++ j.cover.getD cPla,cCov,.v (.str (j.cover.getD cPla))),(j.staple,cSta,cSta,.v (.bl true))]
noncomputable def Jb.words (j:Jb) (told:Bool):List Str:=((j.ents told).filter (·.1)).map (·.2.1)
noncomputable def Jb.afts (j:Jb):List Str:=j.after.map fun n=>cAft ++ n
end My
namespace My
open PySem L2
open Blk (sg sg_inj sg_app)
noncomputable def sorts:List Str:=[cX,cLay,cCol,cPap,cCov,cSta]
noncomputable def told (pages:Int) (M:List Str):List (Str×VO):=M.map fun w=>(jKJ w,jI6 w pages)
structure Mix (ws as M:List Str):Prop where
  perm:M.Perm (ws ++ as)
  afts:(M.filter fun w=>Txt.startswith w cAft)=as
noncomputable def Jb.head (j:Jb):List Str:=[j.name,j.asker,tn j.pages]
end My
namespace My
open PySem L2
open Blk (sg sg_inj sg_app)
noncomputable def jEv (H:Hp) (x:V):VO→Prop
  | .v y=>x=y
  | .pair a b=>∃ p,x=.ref p∧H p=some (.tup [.int a,.int b])
noncomputable def TR (H:Hp) (q:Key×V) (p:Str×VO):Prop:=q.1=Sum.inr p.1∧jEv H q.2 p.2
structure Told (H:Hp) (D:Addr) (kvs:List (Key×V)) (t:List (Str×VO)):Prop where
  at_:H D=some (.dK kvs)
  rel:Paired (TR H) kvs t
  nd:(t.map (·.1)).Nodup
noncomputable def luV (kvs:List (Key×V)):V→V
  | .str s=>(jCJ kvs (Sum.inr s:Key)).getD .non
  | _=>.non
noncomputable def afterP:V→Bool
  | .str x=>Txt.startswith x cAft
  | _=>false
noncomputable def jEi (a b c d e f g h i j:V):List (Str×V):=[("name",a),("asker",b),("pages",c),("copies",d),("layout",e),("paper",f),("cover",g),("colour",h),("staple",i),("after",j)]
theorem jCj {f:Str} {v:V}:∀ {fs:List (Str×V)},¬ f∈fs.map (·.1)→jBi f v fs=fs ++ [(f,v)]
  | [],_=>rfl
  | (g,u) :: r,h=>by
    have h1:¬ g=f:=fun e=>h (by rw [← e];exact List.mem_cons_self)
    show (if g=f then _ else (g,u) :: jBi f v r)=_
    rw [if_neg h1,jCj fun m=>h (List.mem_cons_of_mem _ m)]
    rfl
structure JobAt (C:Addr) (H:Hp) (x:Addr) (f:JF):Prop where
  ex:∃ (dx pa:Addr) (d e p g h i:V) (as:List V),H x=some (.ins C dx (jEi (.str f.name) (.str f.asker) (.int f.pages) d e p g h i (.ref pa)))∧jEv H d f.copies∧jEv H e f.layout∧jEv H p f.paper∧jEv H g f.cover∧jEv H h f.colour∧jEv H i f.staple ∧
    H pa=some (.tup as)∧Paired (fun a o=>jEv H a o) as f.after
theorem jKL (xs:List V) (k:Nat):jGi xs (some (k:Int)) none=xs.drop k:=by
  unfold jGi
  rw [HT.sIx_nat,HT.sIx_none]
  by_cases h:k≤xs.length
  · rw [Nat.min_eq_left h]
    exact List.take_of_length_le (by rw [List.length_drop];omega)
  · rw [Nat.min_eq_right (by omega),List.drop_of_length_le (Nat.le_refl _),List.drop_of_length_le (by omega),List.take_nil]
theorem jKM (xs:List V) (k:Nat):jGi xs none (some (k:Int))=xs.take k:=by
  unfold jGi
  rw [HT.sIx_nat,HT.sIx_none]
  by_cases h:k≤xs.length
  · rw [Nat.min_eq_left h]
    rfl
  · rw [Nat.min_eq_right (by omega),List.drop_zero,Nat.sub_zero,List.take_of_length_le (Nat.le_refl _),List.take_of_length_le (by omega)]
end My
namespace My
open PySem L2
open Blk (sg sg_inj sg_app)
noncomputable def nmC (f r:Nat) (size place l:Nat):List Nat:=(f :: List.replicate (size - 1) r).set place l
noncomputable def nm (f r:Nat) (size place l:Nat):Str:=⟨(nmC f r size place l).toArray⟩
noncomputable def ltr (s:Nat) (j:Nat):Nat:=97 + (s + 5 * j) % 26
noncomputable def nms (f r size place s:Nat) (m:Nat):List Str:=(List.range m).map fun j=>nm f r size place (ltr s j)
structure NamesOk (ns:List Str) (m:Nat):Prop where
  len:ns.length=m
  jGk:∀ z∈ns,jGk z=true
  nd:ns.Nodup
noncomputable def six:List Str:=[Str.ofString "x2",Str.ofString "staple",Str.ofString "both",Str.ofString "up2",Str.ofString "plain",Str.ofString "after"]
noncomputable def one (c:Nat):Str:=⟨#[c]⟩
noncomputable def optV:Option Str→V
  | some z=>.str z
  | none=>.non
structure Due (H:Hp) (t:Addr) (j:Jb):Prop where
  ex:∃ (vc:V) (pa:Addr),H t=some (.tup [.str j.name,.str j.asker,.int j.pages,.int j.copies,.str j.layout,.str j.paper,optV j.cover,vc,.bl j.staple,.ref pa])∧jEv H vc j.jf.colour∧H pa=some (.tup (j.after.map V.str))
end My
namespace My
open PySem L2
open Blk (sg sg_inj sg_app)
structure Mid (ws as:List Str) (A:Nat) (M:List Str):Prop where
  perm:M.Perm (ws ++ as)
  le:A≤M.length
  pre:((M.take A).filter fun w=>Txt.startswith w cAft)=as
  post:((M.drop A).filter fun w=>Txt.startswith w cAft)=[]
end My
namespace My
open PySem L2
inductive Ly where
  | one | both | up (n:Nat)
noncomputable def Ly.Ok:Ly→Prop
  | .up n=>2≤n∧n≤16
  | _=>True
noncomputable def Ly.cells:Ly→Nat
  | .up n=>n
  | _=>1
noncomputable def Ly.backs:Ly→Bool
  | .one=>false
  | _=>true
noncomputable def Ly.per (l:Ly):Nat:=if l.backs=true then 2 * l.cells else l.cells
noncomputable def upT (n:Nat):Str:=Str.ofString "up:" ++ Str.ofString (toString (n:Int))
noncomputable def Ly.text:Ly→Str
  | .one=>Str.ofString "one"
  | .both=>Str.ofString "both"
  | .up n=>upT n
noncomputable def jGv (f:Int) (m:Nat) (n:Int):List Int:=(List.range m).map fun i=>if f + (i:Nat)≤n then f + (i:Nat) else 0
noncomputable def jFc (l:Ly) (n f:Int):List Int×List Int:=(jGv f l.cells n,if l.backs=true then jGv (f + l.cells) l.cells n else List.replicate l.cells 0)
noncomputable def jCk (l:Ly) (n:Nat):Nat:=(n - 1) / l.per + 1
noncomputable def jEw (l:Ly) (n:Nat):List (List Int×List Int):=(List.range (jCk l n)).map fun i=>jFc l n (1 + (i:Nat) * (l.per:Int))
theorem Ly.cells_pos {l:Ly} (h:l.Ok):1≤l.cells∧l.cells≤16:=by
  cases l with
  | one=>exact ⟨by decide,by decide⟩
  | both=>exact ⟨by decide,by decide⟩
  | up n=>exact ⟨Nat.le_trans (by decide) h.1,h.2⟩
theorem Ly.per_pos {l:Ly} (h:l.Ok):1≤l.per∧l.per≤32:=by
  have:=Ly.cells_pos h
  unfold Ly.per
  split <;> omega
noncomputable def jL2 (n:Nat):Bool:=PySem.intText? (Txt.slice (upT n) (some 3) none) == some (n:Int) && decide ((Txt.slice (upT n) (some 3) none).length≤10) && decide (upT n≠Str.ofString "one") && decide (upT n≠Str.ofString "both") && decide ((upT n).length≤10)
theorem up_all:((List.range 17).drop 2).all jL2=true:=by decide +kernel
theorem jM4 {n:Nat} (h1:2≤n) (h2:n≤16):PySem.intText? (Txt.slice (upT n) (some 3) none)=some (n:Int)∧(Txt.slice (upT n) (some 3) none).length≤10∧upT n≠Str.ofString "one"∧upT n≠Str.ofString "both"∧(upT n).length≤10:=by
  have:=List.all_eq_true.mp up_all n (by
    have:n=((List.range 17).drop 2)[n - 2]'(by simp;omega):=by simp;omega
    rw [this]
    exact List.getElem_mem _)
  unfold jL2 at this
  simp only [Bool.and_eq_true,beq_iff_eq,decide_eq_true_eq] at this
  exact ⟨this.1.1.1.1,this.1.1.1.2,this.1.1.2,this.1.2,this.2⟩
end My
namespace My
open PySem L2
noncomputable def top (i:Nat):Stmt:=PySem.Challenge.pw_spoolhall_k32_jams_and_going_on.main.body.getD i (.Pass ⟨0,0,0,0⟩)
noncomputable abbrev jB1:Stmt:=jAt (top 3) 0
noncomputable abbrev jCr:Stmt:=jAt (top 4) 0
noncomputable abbrev jB2:Stmt:=jAt (top 5) 0
noncomputable abbrev jDP:Stmt:=jAt (top 6) 0
noncomputable abbrev jDc:Stmt:=jAt (top 7) 0
noncomputable abbrev jB3:Stmt:=jAt (top 8) 0
noncomputable abbrev jCR:Stmt:=top 14
noncomputable abbrev jCs:Stmt:=jAt (top 15) 0
noncomputable abbrev jBq:Stmt:=jAt (top 15) 1
noncomputable abbrev jCt:Stmt:=jAt (top 15) 2
noncomputable abbrev jBm:Stmt:=jAt (top 15) 3
noncomputable abbrev jDQ:Stmt:=jAt (top 16) 0
noncomputable abbrev jDd:Stmt:=jAt (top 17) 0
noncomputable abbrev jB4:Stmt:=jAt (top 18) 0
noncomputable abbrev jDe:Stmt:=top 19
noncomputable abbrev jDf:Stmt:=top 22
noncomputable abbrev jDR:Stmt:=top 23
noncomputable abbrev jES:Stmt:=top 24
noncomputable abbrev jCu:Stmt:=top 25
noncomputable abbrev jCS:Stmt:=jAt (top 30) 0
noncomputable abbrev jB5:Stmt:=jAt (top 30) 1
noncomputable abbrev jDg:Stmt:=jAt (top 30) 2
noncomputable abbrev jCT:Stmt:=jAt (top 30) 3
noncomputable abbrev jCv:Stmt:=jAt (top 30) 4
noncomputable abbrev jCU:Stmt:=jAt (top 30) 5
noncomputable abbrev jCV:Stmt:=jAt (top 31) 0
noncomputable abbrev jDh:Stmt:=jAt (top 31) 1
noncomputable abbrev jCw:Stmt:=jAt (top 31) 2
noncomputable abbrev jCx:Stmt:=jAt (top 32) 0
noncomputable abbrev jCy:Stmt:=jAt (top 32) 1
noncomputable abbrev jB6:Stmt:=jAt (top 32) 2
noncomputable abbrev jDi:Stmt:=jAt (top 33) 0
noncomputable abbrev jDj:Stmt:=jAt (top 33) 1
noncomputable abbrev jDS:Stmt:=jAt (top 35) 0
noncomputable abbrev jDT:Stmt:=jAt (top 35) 1
noncomputable abbrev jDk:Stmt:=jAt (top 35) 2
noncomputable abbrev jEq:Stmt:=jAt (top 35) 3
noncomputable abbrev jET:Stmt:=jAt (top 35) 4
noncomputable abbrev jDl:Stmt:=jAt (top 35) 5
noncomputable abbrev jDU:Stmt:=jAt (top 35) 6
noncomputable abbrev jB7:Stmt:=jAt (top 35) 7
noncomputable abbrev jDV:Stmt:=jAt (top 35) 8
noncomputable abbrev jDW:Stmt:=jAt (top 35) 10
noncomputable abbrev jEr:Stmt:=jAt (top 35) 11
noncomputable abbrev jBC:Stmt:=jAt (top 35) 12
noncomputable abbrev jBj:Stmt:=jAt (top 35) 13
noncomputable abbrev jCz:Stmt:=jAt (top 35) 14
noncomputable abbrev jEs:Stmt:=jAt (top 35) 15
noncomputable abbrev jCA:Stmt:=jAt (top 35) 16
noncomputable abbrev jB8:Stmt:=jAt (top 35) 17
noncomputable abbrev jDX:Stmt:=jAt (top 37) 0
noncomputable abbrev jCW:Stmt:=jAt (top 39) 0
noncomputable abbrev jCX:Stmt:=jAt (top 39) 1
noncomputable abbrev jEx:Stmt:=jAt (top 39) 2
noncomputable abbrev jCY:Stmt:=jAt (top 39) 3
noncomputable abbrev jBD:Stmt:=jAt (top 39) 4
noncomputable abbrev jDm:Stmt:=jAt (top 39) 5
noncomputable abbrev jBQ:Stmt:=jAt (top 39) 6
noncomputable abbrev jBE:Stmt:=jAt (top 39) 7
noncomputable abbrev jB9:Stmt:=jAt (top 44) 0
noncomputable abbrev jBF:Stmt:=jAt (top 44) 1
noncomputable abbrev jBk:Stmt:=jAt (top 44) 3
noncomputable abbrev jBG:Stmt:=jAt (top 44) 5
noncomputable abbrev jB_:Stmt:=jAt (top 44) 6
noncomputable abbrev jCa:Stmt:=jAt (top 44) 7
noncomputable abbrev jA9:Stmt:=jAt (top 44) 8
noncomputable abbrev jCb:Stmt:=jAt (top 44) 9
noncomputable abbrev jCc:Stmt:=jAt (top 44) 10
noncomputable abbrev jBH:Stmt:=jAt (top 44) 11
noncomputable abbrev jCB:Stmt:=jAt (top 44) 12
noncomputable abbrev jBR:Stmt:=jAt (top 44) 13
noncomputable abbrev jCd:Stmt:=jAt (top 44) 14
noncomputable abbrev jCe:Stmt:=jAt (top 44) 15
noncomputable abbrev jCf:Stmt:=top 46
noncomputable abbrev jDY:Stmt:=top 47
noncomputable abbrev jDn:Stmt:=top 48
noncomputable abbrev jDo:Stmt:=top 49
noncomputable abbrev jEt:Stmt:=top 50
noncomputable abbrev jDp:Stmt:=top 51
noncomputable abbrev jDZ:Stmt:=top 52
noncomputable abbrev jDq:Stmt:=top 53
noncomputable abbrev jCg:Stmt:=top 54
noncomputable abbrev jDr:Stmt:=top 55
noncomputable abbrev jD0:Stmt:=top 56
noncomputable abbrev jCC:Stmt:=top 57
noncomputable abbrev jDs:Stmt:=top 58
noncomputable abbrev jCZ:Stmt:=top 59
noncomputable abbrev jCD:Stmt:=top 60
noncomputable abbrev jBS:Stmt:=top 61
noncomputable abbrev jFq:Stmt:=top 62
structure Txt (K:PySem.W.Frag) (mg:Str→Option Value) (yQ yZ yX yY yV yJ yW yU yK yG cQ cZ cV cK cG vQ vZ vX vY:Addr):Prop where
  len:mg "len"=none
  range:mg "range"=none
  str:mg "str"=none
  int:mg "int"=none
  bool:mg "bool"=none
  tuple:mg "tuple"=none
  list:mg "list"=none
  isinstance:mg "isinstance"=none
  max:mg "max"=none
  dict:mg "dict"=none
  ValueError:mg "ValueError"=none
  SLIP:GI mg "SLIP" (-1)
  UP:GS mg "UP" (Str.ofString "up:")
  NOTHING:GI mg "NOTHING" (0)
  FIRST_PAGE:GI mg "FIRST_PAGE" (1)
  COVER_SHEET:GI mg "COVER_SHEET" (0)
  READY:GS mg "READY" (Str.ofString "ready")
  JAMMED:GS mg "JAMMED" (Str.ofString "jammed")
  OFF:GS mg "OFF" (Str.ofString "off")
  BLACK:GS mg "BLACK" (Str.ofString "black")
  COLOUR:GS mg "COLOUR" (Str.ofString "colour")
  WITHIN:GS mg "WITHIN" (Str.ofString "within")
  cl_Layout:Cls K yQ
  mg_Layout:mg "Layout"=some (.ref yQ)
  n_Layout_cells:jAy K yQ "cells"
  n_Layout_backs:jAy K yQ "backs"
  cl_One:Cls K yZ
  mg_One:mg "One"=some (.ref yZ)
  n_One_cells:jAy K yZ "cells"
  n_One_backs:jAy K yZ "backs"
  cl_Both:Cls K yX
  mg_Both:mg "Both"=some (.ref yX)
  n_Both_cells:jAy K yX "cells"
  n_Both_backs:jAy K yX "backs"
  cl_Several:Cls K yY
  mg_Several:mg "Several"=some (.ref yY)
  n_Several_cells:jAy K yY "cells"
  n_Several_backs:jAy K yY "backs"
  cl_State:Cls K yV
  mg_State:mg "State"=some (.ref yV)
  n_State_word:jAy K yV "word"
  cl_Ready:Cls K yJ
  mg_Ready:mg "Ready"=some (.ref yJ)
  n_Ready_word:jAy K yJ "word"
  cl_Jammed:Cls K yW
  mg_Jammed:mg "Jammed"=some (.ref yW)
  n_Jammed_word:jAy K yW "word"
  cl_Away:Cls K yU
  mg_Away:mg "Away"=some (.ref yU)
  n_Away_word:jAy K yU "word"
  n_Away_jammed:jAy K yU "jammed"
  cl_Run:Cls K yK
  mg_Run:mg "Run"=some (.ref yK)
  n_Run_job:jAy K yK "job"
  n_Run_inks:jAy K yK "inks"
  n_Run_passed:jAy K yK "passed"
  n_Run_printer:jAy K yK "printer"
  n_Run_slipped:jAy K yK "slipped"
  n_Run_broken:jAy K yK "broken"
  cl_Job:Cls K yG
  mg_Job:mg "Job"=some (.ref yG)
  n_Job_name:jAy K yG "name"
  n_Job_asker:jAy K yG "asker"
  n_Job_pages:jAy K yG "pages"
  n_Job_copies:jAy K yG "copies"
  n_Job_layout:jAy K yG "layout"
  n_Job_paper:jAy K yG "paper"
  n_Job_cover:jAy K yG "cover"
  n_Job_colour:jAy K yG "colour"
  n_Job_staple:jAy K yG "staple"
  n_Job_after:jAy K yG "after"
  cl_Stock:Cls K cQ
  mg_Stock:mg "Stock"=some (.ref cQ)
  n_Stock_rooms:jAy K cQ "rooms"
  n_Stock_amounts:jAy K cQ "amounts"
  cl_Printer:Cls K cZ
  mg_Printer:mg "Printer"=some (.ref cZ)
  n_Printer_name:jAy K cZ "name"
  n_Printer_can:jAy K cZ "can"
  n_Printer_path:jAy K cZ "path"
  n_Printer_rooms:jAy K cZ "rooms"
  n_Printer_trays:jAy K cZ "trays"
  n_Printer_inks:jAy K cZ "inks"
  n_Printer_state:jAy K cZ "state"
  n_Printer_inside:jAy K cZ "inside"
  mh_NotNow_NotNow:PySem.W.mroHas K cK (.ref cK)=true
  mh_Over_NotNow:PySem.W.mroHas K vZ (.ref cK)=false
  mh_Over_Over:PySem.W.mroHas K vZ (.ref vZ)=true
  mh_TooMuch_NotNow:PySem.W.mroHas K cG (.ref cK)=false
  mh_TooMuch_Over:PySem.W.mroHas K cG (.ref vZ)=false
  mh_TooMuch_TooMuch:PySem.W.mroHas K cG (.ref cG)=true
  x_Unknown:XCl K cV ["name"]
  mg_Unknown:mg "Unknown"=some (.ref cV)
  x_NotNow:XCl K cK ["found"]
  mg_NotNow:mg "NotNow"=some (.ref cK)
  x_TooMuch:XCl K cG ["name"]
  mg_TooMuch:mg "TooMuch"=some (.ref cG)
  x_Dry:XCl K vQ ["name"]
  mg_Dry:mg "Dry"=some (.ref vQ)
  x_Over:XCl K vZ ["job"]
  mg_Over:mg "Over"=some (.ref vZ)
  x_Nowhere:XCl K vX ["job"]
  mg_Nowhere:mg "Nowhere"=some (.ref vX)
  in_HallError:InX K vY
  mg_HallError:mg "HallError"=some (.ref vY)
  kit:jMX K [cV,cK,cG,vQ,vZ,vX] vY=true
end My
seal L2.PE L2.PS L2.PSs L2.PT L2.PW L2.PA L2.PI L2.PG L2.PGs L2.PSet L2.PIfs L2.PO L2.PK L2.CallR L2.OpR L2.IxR L2.SlR L2.UnR
namespace My
open PySem L2
open Blk (sg sg_inj sg_app)
section
variable {P:Program} {w:World} {K:PySem.W.Frag} {mg:Str→Option Value} {base:Heap} {fa yQ yZ yX yY yV yJ yW yU yK yG cQ cZ cV cK cG vQ vZ vX vY:Addr} {fd:FuncData}
structure Scr (K:PySem.W.Frag) (H:Hp) (a:Addr):Prop where
  ex:∃ ns:List Int,SqL K H a (ns.map V.int)∧ns.length≤63
end
end My
namespace My
open PySem L2
open Blk (sg sg_inj sg_app)
section
variable {P:Program} {w:World} {K:PySem.W.Frag} {mg:Str→Option Value} {base:Heap} {fa yQ yZ yX yY yV yJ yW yU yK yG cQ cZ cV cK cG vQ vZ vX vY:Addr} {fd:FuncData}
noncomputable def jI7 (x:Addr) (H H':Hp):Prop:=∀ b o,b≠x→H b=some o→H' b=some o
noncomputable def jA8 (C:Addr) (f:Str):Sp:=fun vs H Q _=>∃ (x:Addr) (y:V),vs=[.ref x,y]∧H x=some (XO x C none)∧∀ H',jI7 x H H'→XF H' x C [(f,y)]→Q .non H'
theorem jEU {H:Hp} {x dx:Addr} {o u:HO} (hd:H dx=none):jI7 x H (upd (upd H dx o) x u):=fun b v hb e=>by
  rw [jAi hb,jAi (jAo e hd)];exact e
theorem jGw {H:Hp} {x dx C:Addr} {fs:List (Str×V)} (hx:dx≠x):XF (upd (upd H dx (XD dx fs)) x (XO x C (some dx))) x C fs:=⟨dx,jAc,by rw [jAi hx,jAc],hx⟩
theorem jM5 {H H':Hp} {x:Addr} {o:HO} (hx:H x=none) (k:jI7 x (upd H x o) H'):jAr H H':=fun b v e=>by
  have hb:b≠x:=jAo e hx
  exact k b v hb (by rw [jAi hb];exact e)
theorem jBl {K:PySem.W.Frag} {C:Addr} {f:Str} {y:V} {H:Hp} {E:XK} (mk:PySem.W.excMk K C=true) (h:∀ ea H',jAr H H'→H ea=none→XG H' ea C [(f,y)]→E (.ref C) (some ea) H') :
    ∀ x,H x=none→jA8 C f (.ref x :: [y]) (upd H x (XO x C none)) (fun v H2=>v=.non∧∃ ea C' d,V.ref x=.ref ea∧H2 ea=some (XO ea C' d)∧PySem.W.excMk K C'=true∧E (.ref C') (some ea) (upd H2 ea (XC ea C' d))) E0:=by
  intro x nx
  refine ⟨x,y,rfl,jAc,fun H' kb xf=>⟨rfl,?_⟩⟩
  obtain ⟨dx,a,g⟩:=xf.raised
  exact ⟨x,C,some dx,rfl,a,mk,h x _ (jEn nx (jM5 nx kb) _) nx g⟩
theorem jEy {c A B:Prop} [Decidable c] (hc:c) (h:A):if decide c=true then A else B:=by
  rw [if_pos (decide_eq_true hc)]
  exact h
theorem jBy {c A B:Prop} [Decidable c] (hc:¬ c) (h:B):if decide c=true then A else B:=by
  rw [if_neg (by rw [decide_eq_false hc];decide)]
  exact h
theorem iteNN {c A B:Prop} [Decidable c] (hc:¬ c) (h:A):if (!decide c)=true then A else B:=by
  rw [decide_eq_false hc]
  exact h
end
end My
namespace My
open PySem L2
open Blk (sg sg_inj sg_app)
section
variable {P:Program} {w:World} {K:PySem.W.Frag} {mg:Str→Option Value} {base:Heap} {fa yQ yZ yX yY yV yJ yW yU yK yG cQ cZ cV cK cG vQ vZ vX vY:Addr} {fd:FuncData}
theorem jIn:jAn ["self","name"] ["self","name"] (jAb jB1):=⟨rfl,rfl,rfl,by decide +kernel,rfl,by decide +kernel,by decide +kernel⟩
theorem jIo (F:Fun K "__init__" "Unknown.__init__" jB1 fa fd) (T:Txt K mg yQ yZ yX yY yV yJ yW yU yK yG cQ cZ cV cK cG vQ vZ vX vY)  :
    jAh P w K mg base CX0 1 fa fd ["self","name"] (jA8 cV "name"):=by
  refine F.ok jIn (fun vs H Q E h=>?_) (fun cdv A outer s H vs Q E hr h=>?_)
  · obtain ⟨x,y,rfl,_⟩:=h
    rfl
  obtain ⟨x,y,rfl,hx,q⟩:=h
  refine ⟨_,(jAd (jAN (jEQ T.in_HallError rfl T.mg_HallError (jAa (pv 0) (jAa (pv 1) jAe))))
  (jAf (jFB (pv 0) (pv 1) rfl))),?_⟩
  refine ⟨_,rfl,_,rfl,x,_,none,[y],rfl,(by simp),hx,T.x_Unknown.m,?_⟩
  refine ⟨_,rfl,_,rfl,.inl ⟨x,_,rfl,hx,T.x_Unknown.i.c,T.x_Unknown.n _ (.head _),fun dx nd ne=>?_⟩⟩
  exact q _ (jEU nd) (jGw ne)
theorem jIp:jAn ["self","name"] ["self","name"] (jAb jB2):=⟨rfl,rfl,rfl,by decide +kernel,rfl,by decide +kernel,by decide +kernel⟩
theorem jIq (F:Fun K "__init__" "TooMuch.__init__" jB2 fa fd) (T:Txt K mg yQ yZ yX yY yV yJ yW yU yK yG cQ cZ cV cK cG vQ vZ vX vY)  :
    jAh P w K mg base CX0 1 fa fd ["self","name"] (jA8 cG "name"):=by
  refine F.ok jIp (fun vs H Q E h=>?_) (fun cdv A outer s H vs Q E hr h=>?_)
  · obtain ⟨x,y,rfl,_⟩:=h
    rfl
  obtain ⟨x,y,rfl,hx,q⟩:=h
  refine ⟨_,(jAd (jAN (jEQ T.in_HallError rfl T.mg_HallError (jAa (pv 0) (jAa (pv 1) jAe))))
  (jAf (jFB (pv 0) (pv 1) rfl))),?_⟩
  refine ⟨_,rfl,_,rfl,x,_,none,[y],rfl,(by simp),hx,T.x_TooMuch.m,?_⟩
  refine ⟨_,rfl,_,rfl,.inl ⟨x,_,rfl,hx,T.x_TooMuch.i.c,T.x_TooMuch.n _ (.head _),fun dx nd ne=>?_⟩⟩
  exact q _ (jEU nd) (jGw ne)
theorem jLu:jAn ["self","name"] ["self","name"] (jAb jDP):=⟨rfl,rfl,rfl,by decide +kernel,rfl,by decide +kernel,by decide +kernel⟩
theorem jLv (F:Fun K "__init__" "Dry.__init__" jDP fa fd) (T:Txt K mg yQ yZ yX yY yV yJ yW yU yK yG cQ cZ cV cK cG vQ vZ vX vY)  :
    jAh P w K mg base CX0 1 fa fd ["self","name"] (jA8 vQ "name"):=by
  refine F.ok jLu (fun vs H Q E h=>?_) (fun cdv A outer s H vs Q E hr h=>?_)
  · obtain ⟨x,y,rfl,_⟩:=h
    rfl
  obtain ⟨x,y,rfl,hx,q⟩:=h
  refine ⟨_,(jAd (jAN (jEQ T.in_HallError rfl T.mg_HallError (jAa (pv 0) (jAa (pv 1) jAe))))
  (jAf (jFB (pv 0) (pv 1) rfl))),?_⟩
  refine ⟨_,rfl,_,rfl,x,_,none,[y],rfl,(by simp),hx,T.x_Dry.m,?_⟩
  refine ⟨_,rfl,_,rfl,.inl ⟨x,_,rfl,hx,T.x_Dry.i.c,T.x_Dry.n _ (.head _),fun dx nd ne=>?_⟩⟩
  exact q _ (jEU nd) (jGw ne)
theorem jBg {f:Str} {v:V}:∀ {fs:List (Str×V)},¬ f∈fs.map (·.1)→jBi f v fs=fs ++ [(f,v)]
  | [],_=>rfl
  | (g,u) :: r,h=>by
    have h1:¬ g=f:=fun e=>h (by rw [← e];exact List.mem_cons_self)
    show (if g=f then _ else (g,u) :: jBi f v r)=_
    rw [if_neg h1,jBg fun m=>h (List.mem_cons_of_mem _ m)]
    rfl
noncomputable def dI (ps:List (Str×Int)):List (Key×V):=ps.map fun p=>(Sum.inr p.1,V.int p.2)
theorem jJY {l:List Str} (h:l.Nodup):(l.map (Sum.inr:Str→Key)).Nodup:=by
  induction l with
  | nil=>exact List.nodup_nil
  | cons a r ih =>
    rw [List.nodup_cons] at h
    rw [List.map_cons,List.nodup_cons]
    refine ⟨fun m=>?_,ih h.2⟩
    obtain ⟨b,hb,e⟩:=List.mem_map.mp m
    cases e
    exact h.1 hb
noncomputable def jEa (C:Addr):Sp:=fun vs H Q _=>∃ (x dx a:Addr) (rs:List (Str×Int)),vs=[.ref x,.ref a]∧H x=some (.ins C dx [])∧H a=some (.dK (dI rs))∧(rs.map (·.1)).Nodup∧rs.length≤1000 ∧
  ∀ r m H',(∀ b u,b≠x→H b=some u→H' b=some u)→H r=none→H m=none→r≠m→H' x=some (.ins C dx [("rooms",.ref r),("amounts",.ref m)])→H' r=some (.dK (dI rs))→H' m=some (.dK (dI (rs.map fun p=>(p.1,0))))→Q .non H'
theorem jJZ:jAn ["self","rooms"] ["self","rooms"] (jAb jCW):=⟨rfl,rfl,rfl,by decide +kernel,rfl,by decide +kernel,by decide +kernel⟩
theorem jJ0 (F:Fun K "__init__" "Stock.__init__" jCW fa fd) (T:Txt K mg yQ yZ yX yY yV yJ yW yU yK yG cQ cZ cV cK cG vQ vZ vX vY)  :
    jAh P w K mg base CX0 1 fa fd ["self","rooms"] (jEa cQ):=by
  refine F.ok jJZ (fun vs H Q E h=>?_) (fun cdv A outer s H vs Q E hr h=>?_)
  · obtain ⟨x,dx,a,rs,rfl,_⟩:=h
    rfl
  obtain ⟨x,dx,a,rs,rfl,hx,ha,nd,l1,q⟩:=h
  refine ⟨_,(jAd (jAL (pv 0) (jC4 jGu rfl T.dict jI5 (jAa (pv 1) jAe)) rfl)
  (jAf (jAL (pv 0) (pe_frz (jC4 (jIk rfl) rfl T.dict jI5 (jAa (jEo (frees:=[]) ⟨by decide +kernel,rfl,rfl,by decide +kernel,trivial,by decide +kernel,jBs rfl,rfl⟩ rfl (pi_dict (pv 1)) (fun _ _ _ _=>jEg) (fun _ _ _ _=>by exact (jAV (jAa (pv 0) (jAa jAg jAe))))) jAe))) rfl))),?_⟩
  have z2:2≤sizeLine:=small (by decide)
  refine ⟨_,rfl,a,_,rfl,.inl ha,fun r nr=>?_⟩
  have nrx:x≠r:=jAo hx nr
  have nra:a≠r:=jAo ha nr
  have nax:a≠x:=jAD ha hx (by intro z;cases z)
  refine ⟨_,rfl,x,cQ,dx,_,rfl,(by rw [jAi nrx];exact hx),T.cl_Stock,T.n_Stock_rooms,(by show 0 < 1000;decide),?_⟩
  rw [jBg (by show ¬ ("rooms":Str)∈([]:List Str);decide +kernel),List.nil_append]
  have k1:∀ b u,b≠x→H b=some u→upd (upd H r (.dK (dI rs))) x (.ins cQ dx [("rooms",.ref r)]) b=some u:=fun b u nb e=>by rw [jAi nb,jAi (jAo e nr)];exact e
  have hr1:upd (upd H r (.dK (dI rs))) x (.ins cQ dx [("rooms",.ref r)]) r=some (.dK (dI rs)):=by rw [jAi (Ne.symm nrx),jAc]
  have hx1:upd (upd H r (.dK (dI rs))) x (.ins cQ dx [("rooms",.ref r)]) x=some (.ins cQ dx [("rooms",.ref r)]):=jAc
  generalize upd (upd H r (.dK (dI rs))) x (.ins cQ dx [("rooms",.ref r)])=H1 at k1 hr1 hx1 ⊢
  refine ⟨a,dI rs,k1 _ _ nax ha,fun o=>?_⟩
  refine ⟨_,rfl,a,o,dI rs,rfl,jAc,?_⟩
  have zr:((dI rs).map fun p=>kV p.1).length=rs.length:=by unfold dI;rw [List.length_map,List.length_map]
  refine jFH (jNt jAc) (fun n y H'=>∃ t,y=.ref t∧H' t=some (.tup [n,.int 0])) (by rw [zr];exact jBb l1) (fun x _ H' R _ rr=>rr) (fun n _ H' R _ rr=>⟨_,rfl,z2,fun t nt=>rr _ _ (jAl nt _) ⟨fun z=>z=t,fun b hb=>by subst hb;exact ⟨nt,_,jAc⟩,fun H3 h3=>⟨t,rfl,by rw [h3 t rfl];exact jAc⟩⟩⟩) (fun D H2 ys s2 nD hD ly gy=>?_)
  have k2:∀ b u,b≠a→H1 b=some u→H2 b=some u:=fun b u nb e=>s2 b u (by rw [jAi nb];exact e)
  have ha2:=s2 _ _ (jAc (H:=H1) (a:=a) (o:=.frz o (.dK (dI rs))))
  have nd':((dI (rs.map fun p=>(p.1,0))).map (·.1)).Nodup:=by
    have e:(dI (rs.map fun p=>(p.1,(0:Int)))).map (·.1)=(rs.map (·.1)).map (Sum.inr:Str→Key):=by
      unfold dI
      rw [List.map_map,List.map_map,List.map_map]
      rfl
    rw [e]
    exact jJY nd
  refine ⟨D,ys,dI (rs.map fun p=>(p.1,0)),rfl,hD,?_,fun i y kv e1 e2=>?_,nd',fun m nm=>⟨?_,?_⟩⟩
  · rw [ly,zr]
    unfold dI
    rw [List.length_map,List.length_map]
  · unfold dI at e2
    rw [List.map_map,List.getElem?_map] at e2
    obtain ⟨p,ep,rfl⟩:=Option.map_eq_some_iff.mp e2
    have ex:((dI rs).map fun p=>kV p.1)[i]?=some (.str p.1):=by
      unfold dI
      rw [List.map_map,List.getElem?_map,ep]
      rfl
    obtain ⟨t,rfl,ht⟩:=gy i _ y ex e1
    exact ⟨t,rfl,SqT.of ht⟩
  · rw [jAi (jAo ha2 nm)]
    exact ha2
  have nma:a≠m:=jAo ha2 nm
  have hx2:=k2 _ _ (Ne.symm nax) hx1
  have nmx:x≠m:=jAo hx2 nm
  have hr2:=k2 _ _ (Ne.symm nra) hr1
  have nmr:r≠m:=jAo hr2 nm
  refine ⟨_,rfl,x,cQ,dx,_,rfl,(by rw [jAi (Ne.symm nax),jAi nmx];exact hx2),T.cl_Stock,T.n_Stock_amounts,(by show 1 < 1000;decide),?_⟩
  rw [jBg (by show ¬ ("amounts":Str)∈(["rooms"]:List Str);decide +kernel)]
  have nm1:H m=none:=by
    cases e:H m with
    | none=>rfl
    | some u =>
      have:H2 m=some u:=k2 m u (Ne.symm nma) (k1 m u (Ne.symm nmx) e)
      rw [nm] at this
      cases this
  refine q r m _ (fun b u nb e=>?_) nr nm1 nmr jAc ?_ ?_
  · rw [jAi nb]
    by_cases hb:b=a
    · subst hb
      rw [jAc]
      rw [ha] at e
      exact e
    · have e2:=k2 b u hb (k1 b u nb e)
      rw [jAi hb,jAi (jAo e2 nm)]
      exact e2
  · rw [jAi (Ne.symm nrx),jAi (Ne.symm nra),jAi nmr]
    exact hr2
  · rw [jAi (Ne.symm nmx),jAi (Ne.symm nma),jAc]
theorem jM6 {rs:List (Str×Int)} {n:Str}:jCJ (dI rs) (Sum.inr n:Key)=(rs.lookup n).map V.int:=by
  induction rs with
  | nil=>rfl
  | cons p r ih =>
    obtain ⟨k,v⟩:=p
    show ((((Sum.inr k:Key),V.int v) :: dI r).find? fun kv=>decide (kv.1=Sum.inr n)).map (·.2)=_
    rw [List.find?_cons,List.lookup_cons]
    by_cases h:k=n
    · subst h
      rw [decide_eq_true rfl,beq_self_eq_true]
      rfl
    · rw [decide_eq_false (show ¬ (((Sum.inr k:Key),V.int v).1=Sum.inr n) from fun z=>h (Sum.inr.inj z)),beq_eq_false_iff_ne.mpr (Ne.symm h)]
      exact ih
theorem jFD {H:Hp} {m:Addr} {am:List (Str×Int)} {n:Str} {v:Int} (e:H m=some (.dK (dI am))) (l:am.lookup n=some v):jBM H m (.str n) (some (.int v)):=by
  have:=jBM.k (k:=Sum.inr n) e
  rw [jM6,l] at this
  exact this
theorem jEu {rs:List (Str×Int)} {n:Str} {v:Int} (h:rs.lookup n=some v):n∈rs.map (·.1):=List.mem_map.mpr ⟨(n,v),PySem.mem_of_lookup h,rfl⟩
theorem jFX {rs:List (Str×Int)} {n:Str} (h:rs.lookup n=none):¬ n∈rs.map (·.1):=by
  intro m
  obtain ⟨p,hp,e⟩:=List.mem_map.mp m
  rw [List.lookup_eq_none_iff] at h
  have:=h p hp
  rw [e] at this
  simp at this
theorem look_in {rs:List (Str×Int)} {n:Str} (h:n∈rs.map (·.1)):(rs.lookup n).isNone=false:=by
  cases e:rs.lookup n with
  | none=>exact absurd h (jFX e)
  | some v=>rfl
theorem jNB {rs:List (Str×Int)} {n:Str} (h:¬ n∈rs.map (·.1)):(rs.lookup n).isNone=true:=by
  cases e:rs.lookup n with
  | none=>rfl
  | some v=>exact absurd (jEu e) h
noncomputable def jGx (C:Addr) (H:Hp) (x:Addr) (rs am:List (Str×Int)):Prop:=∃ dx r m,H x=some (.ins C dx [("rooms",.ref r),("amounts",.ref m)])∧H r=some (.dK (dI rs))∧H m=some (.dK (dI am))∧r≠m
noncomputable def jG_ (cU:Addr) (n:Str) (H:Hp) (E:XK):Prop:=∀ ea H',jAr H H'→XG H' ea cU [("name",.str n)]→E (.ref cU) (some ea) H'
noncomputable def jGy (C cU:Addr):Sp:=fun vs H Q E=>∃ x rs am n,vs=[.ref x,.str n]∧jGx C H x rs am∧(n∈rs.map (·.1)→Q .non H)∧(¬ n∈rs.map (·.1)→jG_ cU n H E)
theorem jJ1:jAn ["self","name"] ["self","name"] (jAb jCY):=⟨rfl,rfl,rfl,by decide +kernel,rfl,by decide +kernel,by decide +kernel⟩
theorem jJ2 (F:Fun K "know" "Stock.know" jCY fa fd) (T:Txt K mg yQ yZ yX yY yV yJ yW yU yK yG cQ cZ cV cK cG vQ vZ vX vY) (X_Unknown:jCQ P w K mg base 1 "Unknown" cV ["self","name"] (jA8 cV "name")) :
    jAh P w K mg base (CXe P w) 3 fa fd ["self","name"] (jGy cQ cV):=by
  refine F.okE jJ1 (fun vs H Q E h=>?_) (fun cdv A outer s H vs Q E hr h=>?_)
  · obtain ⟨x,rs,am,n,rfl,_⟩:=h
    rfl
  obtain ⟨x,rs,am,n,rfl,⟨dx,r,m,hx,hr',hm,ne⟩,q1,q2⟩:=h
  have hu:=jEh hr 0 (by decide)
  refine ⟨_,(jAf (jAJ (pt_cmp (jMM hu (pv 1) (jAs (pv 0) rfl))) (jAf (jBB jBp rfl (jBo X_Unknown (hr.mono (by decide)) rfl (jAa (pv 1) jAe)))) jAz)),?_⟩
  refine ⟨_,rfl,_,rfl,x,cQ,dx,_,_,rfl,hx,T.cl_Stock,T.n_Stock_rooms,rfl,r,_,rfl,jBM.k (k:=Sum.inr n) hr',_,rfl,?_⟩
  rw [jM6]
  cases e:rs.lookup n with
  | some v=>exact jAT (q1 (jEu e))
  | none=>exact jA6 ⟨_,rfl,jBl T.x_Unknown.m fun ea H' sm _ g=>q2 (jFX e) ea H' sm g⟩
noncomputable def jHv (C cU:Addr):Sp:=fun vs H Q E=>∃ x rs am n,vs=[.ref x,.str n]∧jGx C H x rs am∧(∀ v,n∈rs.map (·.1)→am.lookup n=some v→Q (.int v) H)∧(n∈rs.map (·.1)→∃ v,am.lookup n=some v)∧(¬ n∈rs.map (·.1)→jG_ cU n H E)
noncomputable def sp_room (C cU:Addr):Sp:=fun vs H Q E=>∃ x rs am n,vs=[.ref x,.str n]∧jGx C H x rs am∧(∀ v,rs.lookup n=some v→Q (.int v) H)∧(¬ n∈rs.map (·.1)→jG_ cU n H E)
theorem jJ3:jAn ["self","name"] ["self","name"] (jAb jCX):=⟨rfl,rfl,rfl,by decide +kernel,rfl,by decide +kernel,by decide +kernel⟩
theorem jJ4 (F:Fun K "held" "Stock.held" jCX fa fd) (T:Txt K mg yQ yZ yX yY yV yJ yW yU yK yG cQ cZ cV cK cG vQ vZ vX vY) (D_Stock_know:MtE P w K mg base 3 "know" cQ ["self","name"] (jGy cQ cV)) :
    jAh P w K mg base (CXe P w) 4 fa fd ["self","name"] (jHv cQ cV):=by
  refine F.okE jJ3 (fun vs H Q E h=>?_) (fun cdv A outer s H vs Q E hr h=>?_)
  · obtain ⟨x,rs,am,n,rfl,_⟩:=h
    rfl
  obtain ⟨x,rs,am,n,rfl,S,q1,q0,q2⟩:=h
  have hu:=jEh hr 0 (by decide)
  obtain ⟨dx,r,m,hx,hr',hm,ne⟩:=id S
  refine ⟨_,(jAd (jAN (jAU 3 jAx (hr.mono (by decide)) (pv 0) (jAa (pv 1) jAe)))
  (jAf (jAp (jAK hu (jAs (pv 0) rfl) (pv 1) (fun _ _=>rfl))))),?_⟩
  refine ⟨_,rfl,x,_,dx,_,_,_,rfl,hx,rfl,T.cl_Stock,D_Stock_know,_,rfl,x,rs,am,n,rfl,S,fun hn=>?_,q2⟩
  obtain ⟨v,ev⟩:=q0 hn
  exact ⟨_,rfl,x,cQ,dx,_,_,rfl,hx,T.cl_Stock,T.n_Stock_amounts,rfl,_,rfl,m,_,rfl,jFD hm ev,q1 v hn ev⟩
noncomputable def GiftAt (H:Hp) (y:V) (g:Str×Int):Prop:=∃ t,y=.ref t∧H t=some (.tup [.str g.1,.int g.2])
noncomputable def jHw (H:Hp) (p:Addr) (ws:List (Str×Int)):Prop:=∃ ts,H p=some (.lst ts)∧ts.length=ws.length∧∀ (i:Nat) y g,ts[i]?=some y→ws[i]?=some g→GiftAt H y g
noncomputable def jBx (rs ws:List (Str×Int)):Option Str:=(ws.find? fun g=>(rs.lookup g.1).isNone).map (·.1)
theorem jFr {α:Type} {f:α→Bool}:∀ {l:List α} {i:Nat} {a:α},l[i]?=some a→(∀ j b,j < i→l[j]?=some b→f b=false)→f a=true→l.find? f=some a
  | [],_,_,h,_,_=>by simp at h
  | b :: r,0,a,h,_,k=>by
    obtain rfl:b=a:=Option.some.inj h
    rw [List.find?_cons,k]
  | b :: r,i + 1,a,h,g,k=>by
    have hb:f b=false:=g 0 b (Nat.succ_pos _) rfl
    rw [List.find?_cons,hb]
    exact jFr (i:=i) h (fun j c hj e=>g (j + 1) c (Nat.succ_lt_succ hj) e) k
theorem jI8 {α:Type} {f:α→Bool} {l:List α} (h:∀ (j:Nat) b,l[j]?=some b→f b=false):l.find? f=none:=by
  rw [List.find?_eq_none]
  intro x hx
  obtain ⟨j,hj⟩:=List.mem_iff_getElem?.mp hx
  rw [h j x hj]
  decide
noncomputable def jD7 (C cU:Addr):Sp:=fun vs H Q E=>∃ x p rs am ws,vs=[.ref x,.ref p]∧jGx C H x rs am∧jHw H p ws∧(jBx rs ws=none→Q .non H)∧(∀ n,jBx rs ws=some n→jG_ cU n H E)
theorem jFj:jAn ["self","rows","row"] ["self","rows"] (jAb jBD):=⟨rfl,rfl,rfl,by decide +kernel,rfl,by decide +kernel,by decide +kernel⟩
theorem jHD (F:Fun K "know_all" "Stock.know_all" jBD fa fd) (T:Txt K mg yQ yZ yX yY yV yJ yW yU yK yG cQ cZ cV cK cG vQ vZ vX vY) (D_Stock_know:MtE P w K mg base 3 "know" cQ ["self","name"] (jGy cQ cV)) :
    jAh P w K mg base (CXe P w) 4 fa fd ["self","rows"] (jD7 cQ cV):=by
  refine F.okE jFj (fun vs H Q E h=>?_) (fun cdv A outer s H vs Q E hr h=>?_)
  · obtain ⟨x,p,rs,am,ws,rfl,_⟩:=h
    rfl
  obtain ⟨x,p,rs,am,ws,rfl,S,⟨ts,hp,lt,gt⟩,q1,q2⟩:=h
  have hu:=jEh hr 0 (by decide)
  obtain ⟨dx,r,m,hx,hr',hm,ne⟩:=id S
  refine ⟨_,(jAf (jD5 jFC rfl (jCO (pv 1)) (jBA (i:=2) jFj.nd rfl (by first | exact Or.inl rfl | exact Or.inr rfl))
  (jAf (jAN (jAU 3 jAx (hr.mono (by decide)) (pv 0) (jAa (jAG jAM (pv 2) jAg (fun _ _=>rfl)) jAe)))))),?_⟩
  refine ⟨_,rfl,p,rfl,⟨_,SqL.of hp⟩,jEe (K:=K) (a:=p) (xs:=ts) (fun i σ H'=>H'=H∧(∀ (j:Nat) g,j < i→ws[j]?=some g→(rs.lookup g.1).isNone=false)∧∃ v,σ=[some (.ref x),some (.ref p),v]) ⟨rfl,fun j g hj=>absurd hj (Nat.not_lt_zero j),_,rfl⟩ (fun i σ H' _ z=>by rw [z.1];exact SqL.of hp) (fun i y σ H' hy z=>?_) (fun σ H' z=>?_)⟩
  · obtain ⟨rfl,kn,v,rfl⟩:=z
    obtain ⟨g,eg⟩:∃ g,ws[i]?=some g:=⟨_,List.getElem?_eq_getElem (by rw [← lt];exact (List.getElem?_eq_some_iff.mp hy).1)⟩
    obtain ⟨t,rfl,ht⟩:=gt i y g hy eg
    refine ⟨_,rfl,x,_,dx,_,_,_,rfl,hx,rfl,T.cl_Stock,D_Stock_know,?_⟩
    refine ⟨_,rfl,t,_,_,_,rfl,rfl,SqT.of ht,jAC (j:=0) rfl,x,rs,am,g.1,rfl,S,fun hn=>⟨rfl,fun j g' hj e=>?_,_,rfl⟩,fun hn=>q2 g.1 ?_⟩
    · by_cases hji:j < i
      · exact kn j g' hji e
      · have:j=i:=by omega
        subst this
        rw [eg] at e
        obtain rfl:=Option.some.inj e
        exact look_in hn
    · unfold jBx
      rw [jFr eg (fun j b hj e=>kn j b hj e) (jNB hn)]
      rfl
  · obtain ⟨rfl,kn,v,rfl⟩:=z
    refine q1 ?_
    unfold jBx
    rw [jI8 fun j g e=>kn j g (by rw [lt];exact (List.getElem?_eq_some_iff.mp e).1) e]
    rfl
noncomputable def jC0 (C:Addr) (H:Hp) (x r m:Addr) (rs am:List (Str×Int)):Prop:=(∃ dx,H x=some (.ins C dx [("rooms",.ref r),("amounts",.ref m)]))∧H r=some (.dK (dI rs))∧H m=some (.dK (dI am))∧r≠m
theorem jC0.at {C:Addr} {H:Hp} {x r m:Addr} {rs am:List (Str×Int)} (h:jC0 C H x r m rs am):jGx C H x rs am:=let ⟨⟨dx,e1⟩,e2,e3,n⟩:=h;⟨dx,r,m,e1,e2,e3,n⟩
noncomputable def jBh (am:List (Str×Int)) (n:Str) (v:Int):List (Str×Int):=am.map fun p=>if p.1=n then (p.1,v) else p
noncomputable def jBX (s:Int) (am ws:List (Str×Int)):List (Str×Int):=ws.foldl (fun am g=>jBh am g.1 ((am.lookup g.1).getD 0 + s * g.2)) am
theorem jHa (am:List (Str×Int)) (n:Str) (v:Int):(jBh am n v).map (·.1)=am.map (·.1):=by
  unfold jBh
  rw [List.map_map]
  refine List.map_congr_left fun p _=>?_
  show (if p.1=n then (p.1,v) else p).1=p.1
  split <;> rfl
theorem jM7 {am:List (Str×Int)} {n:Str} {v:Int} (h:n∈am.map (·.1)):jCK (dI am) (Sum.inr n:Key) (.int v)=dI (jBh am n v):=by
  have hany:((dI am).any fun kv=>decide (kv.1=(Sum.inr n:Key)))=true:=by
    obtain ⟨p,hp,e⟩:=List.mem_map.mp h
    refine List.any_eq_true.mpr ⟨(Sum.inr p.1,V.int p.2),List.mem_map.mpr ⟨p,hp,rfl⟩,decide_eq_true ?_⟩
    rw [e]
  unfold jCK
  rw [if_pos hany]
  unfold dI jBh
  rw [List.map_map,List.map_map]
  refine List.map_congr_left fun p _=>?_
  show (if (Sum.inr p.1:Key)=Sum.inr n then ((Sum.inr p.1:Key),V.int v) else (Sum.inr p.1,V.int p.2))=(Sum.inr (if p.1=n then (p.1,v) else p).1,V.int (if p.1=n then (p.1,v) else p).2)
  by_cases e:p.1=n
  · rw [if_pos (by rw [e]),if_pos e]
  · rw [if_neg (fun z=>e (Sum.inr.inj z)),if_neg e]
noncomputable def jBT (rs am ws:List (Str×Int)):Option Str:=(ws.find? fun g=>decide ((rs.lookup g.1).getD 0 < (am.lookup g.1).getD 0 + g.2)).map (·.1)
noncomputable def jBY (am ws:List (Str×Int)):Option Str:=(ws.find? fun g=>decide ((am.lookup g.1).getD 0 < g.2)).map (·.1)
noncomputable def jEz (C cU cN:Addr) (s:Int) (bad:List (Str×Int)→List (Str×Int)→List (Str×Int)→Option Str):Sp:=fun vs H Q E=>∃ x r m p rs am ws,vs=[.ref x,.ref p]∧jC0 C H x r m rs am∧am.map (·.1)=rs.map (·.1)∧am.length≤1000∧p≠m∧jHw H p ws ∧
  (∀ n,jBx rs ws=some n→jG_ cU n H E)∧(∀ n,jBx rs ws=none→bad rs am ws=some n→jG_ cN n H E) ∧
  (jBx rs ws=none→bad rs am ws=none→∀ H',(∀ b u,b≠m→H b=some u→H' b=some u)→jC0 C H' x r m rs (jBX s am ws)→Q .non H')
theorem jD8 (s:Int):∀ (ws am:List (Str×Int)),(jBX s am ws).map (·.1)=am.map (·.1)
  | [],_=>rfl
  | g :: r,am=>by
    show (jBX s (jBh am g.1 ((am.lookup g.1).getD 0 + s * g.2)) r).map (·.1)=_
    rw [jD8 s r,jHa]
theorem jHO (s:Int) (am ws:List (Str×Int)) (g:Str×Int):jBX s am (ws ++ [g])=jBh (jBX s am ws) g.1 (((jBX s am ws).lookup g.1).getD 0 + s * g.2):=by
  unfold jBX
  rw [List.foldl_append]
  rfl
theorem jFY {rs am:List (Str×Int)} {n:Str} {v:Int} (e:am.map (·.1)=rs.map (·.1)) (h:rs.lookup n=some v):∃ w,am.lookup n=some w:=by
  cases l:am.lookup n with
  | some w=>exact ⟨w,rfl⟩
  | none=>exact absurd (e ▸ jEu h) (jFX l)
theorem jEA {rs ws:List (Str×Int)} (h:jBx rs ws=none) {j:Nat} {g:Str×Int} (e:ws[j]?=some g):∃ v,rs.lookup g.1=some v:=by
  unfold jBx at h
  have h1:=List.find?_eq_none.mp (Option.map_eq_none_iff.mp h) g (List.mem_of_getElem? e)
  cases l:rs.lookup g.1 with
  | some v=>exact ⟨v,rfl⟩
  | none=>rw [l] at h1;exact absurd rfl h1
theorem jCl:jAn ["self","gifts","name","many"] ["self","gifts"] (jAb jBQ):=⟨rfl,rfl,rfl,by decide +kernel,rfl,by decide +kernel,by decide +kernel⟩
theorem jH1 (F:Fun K "put_all" "Stock.put_all" jBQ fa fd) (T:Txt K mg yQ yZ yX yY yV yJ yW yU yK yG cQ cZ cV cK cG vQ vZ vX vY) (X_TooMuch:jCQ P w K mg base 1 "TooMuch" cG ["self","name"] (jA8 cG "name")) (D_Stock_know_all:MtE P w K mg base 4 "know_all" cQ ["self","rows"] (jD7 cQ cV)) :
    jAh P w K mg base (CXe P w) 5 fa fd ["self","gifts"] (jEz cQ cV cG 1 jBT):=by
  refine F.okE jCl (fun vs H Q E h=>?_) (fun cdv A outer s H vs Q E hr h=>?_)
  · obtain ⟨x,r,m,p,rs,am,ws,rfl,_⟩:=h
    rfl
  obtain ⟨x,r,m,p,rs,am,ws,rfl,S,ek,la,npm,G,q1,q2,q3⟩:=h
  have hu:=jEh hr 0 (by decide)
  obtain ⟨⟨dx,hx⟩,hr',hm,ne⟩:=id S
  obtain ⟨ts,hp,lt,gt⟩:=id G
  have nxm:x≠m:=jAD hx hm (by intro z;cases z)
  refine ⟨_,(jAd (jAN (jAU 4 jAx (hr.mono (by decide)) (pv 0) (jAa (pv 1) jAe)))
  (jAd (jD5 jFC rfl (jCO (pv 1)) (jH8 rfl (jDx (jBA (i:=2) jCl.nd rfl (by first | exact Or.inl rfl | exact Or.inr rfl)) (jDx (jBA (i:=3) jCl.nd rfl (by first | exact Or.inl rfl | exact Or.inr rfl)) jHk)))
  (jAf (jAJ (jAu jHn (jAF jA0 (jAK hu (jAs (pv 0) rfl) (pv 2) (fun _ _=>rfl)) (pv 3)) (jAK hu (jAs (pv 0) rfl) (pv 2) (fun _ _=>rfl)) (jAw _)) (jAf (jBB jBp rfl (jBo X_TooMuch (hr.mono (by decide)) rfl (jAa (pv 2) jAe)))) jAz)))
  (jAf (jD5 jFC rfl (jCO (pv 1)) (jH8 rfl (jDx (jBA (i:=2) jCl.nd rfl (by first | exact Or.inl rfl | exact Or.inr rfl)) (jDx (jBA (i:=3) jCl.nd rfl (by first | exact Or.inl rfl | exact Or.inr rfl)) jHk)))
  (jAf (jLV hu (jAs (pv 0) rfl) (pv 2) (pv 3) in_add (fun _ _ _=>rfl))))))),?_⟩
  refine ⟨_,rfl,x,_,dx,_,_,_,rfl,hx,rfl,T.cl_Stock,D_Stock_know_all,_,rfl,x,p,rs,am,ws,rfl,S.at,G,fun kn=>?_,q1⟩
  refine ⟨_,rfl,p,rfl,⟨_,SqL.of hp⟩,jEe (K:=K) (a:=p) (xs:=ts) (fun i σ H'=>H'=H∧(∀ (j:Nat) g,j < i→ws[j]?=some g→decide ((rs.lookup g.1).getD 0 < (am.lookup g.1).getD 0 + g.2)=false)∧∃ v2 v3,σ=[some (.ref x),some (.ref p),v2,v3]) ⟨rfl,fun j g hj=>absurd hj (Nat.not_lt_zero j),_,_,rfl⟩ (fun i σ H' _ z=>by rw [z.1];exact SqL.of hp) (fun i y σ H' hy z=>?_) (fun σ H' z=>?_)⟩
  · obtain ⟨rfl,kb,v2,v3,rfl⟩:=z
    obtain ⟨g,eg⟩:∃ g,ws[i]?=some g:=⟨_,List.getElem?_eq_getElem (by rw [← lt];exact (List.getElem?_eq_some_iff.mp hy).1)⟩
    obtain ⟨t,rfl,ht⟩:=gt i y g hy eg
    obtain ⟨vr,er⟩:=jEA kn eg
    obtain ⟨va,ea⟩:=jFY ek er
    refine ⟨t,[.str g.1,.int g.2],rfl,SqT.of ht,rfl,.str g.1,[.int g.2],rfl,.int g.2,[],rfl,rfl,?_⟩
    refine ⟨_,rfl,x,cQ,dx,_,_,rfl,hx,T.cl_Stock,T.n_Stock_amounts,rfl,_,rfl,m,_,rfl,jFD hm ea,_,rfl,_,_,rfl,rfl,_,rfl,x,cQ,dx,_,_,rfl,hx,T.cl_Stock,T.n_Stock_rooms,rfl,_,rfl,r,_,rfl,jFD hr' er,_,_,rfl,rfl,decide (vr < va + g.2),rfl,?_⟩
    have eb:(decide ((rs.lookup g.1).getD 0 < (am.lookup g.1).getD 0 + g.2))=decide (vr < va + g.2):=by rw [ea,er];rfl
    cases hd:decide (vr < va + g.2) with
    | false =>
      refine jAT ⟨rfl,fun j g' hj e=>?_,_,_,rfl⟩
      by_cases hji:j < i
      · exact kb j g' hji e
      · have:j=i:=by omega
        subst this
        rw [eg] at e
        obtain rfl:=Option.some.inj e
        rw [eb,hd]
    | true =>
      refine jA6 ⟨_,rfl,jBl T.x_TooMuch.m fun ea H2 sm _ gx=>q2 g.1 kn ?_ ea H2 sm gx⟩
      unfold jBT
      rw [jFr eg (fun j b hj e=>kb j b hj e) (by rw [eb,hd])]
      rfl
  · obtain ⟨rfl,kb,v2,v3,rfl⟩:=z
    have nb:jBT rs am ws=none:=by
      unfold jBT
      rw [jI8 fun j g e=>kb j g (by rw [lt];exact (List.getElem?_eq_some_iff.mp e).1) e]
      rfl
    refine ⟨_,rfl,p,rfl,⟨_,SqL.of hp⟩,jEe (K:=K) (a:=p) (xs:=ts) (fun i σ H2=>(∀ b u,b≠m→H' b=some u→H2 b=some u)∧H2 m=some (.dK (dI (jBX 1 am (ws.take i))))∧∃ v2 v3,σ=[some (.ref x),some (.ref p),v2,v3]) ⟨fun b u _ e=>e,hm,_,_,rfl⟩ (fun i σ H2 _ z=>SqL.of (z.1 _ _ npm hp)) (fun i y σ H2 hy z=>?_) (fun σ H2 z=>?_)⟩
    · obtain ⟨kp,hm2,v2,v3,rfl⟩:=z
      obtain ⟨g,eg⟩:∃ g,ws[i]?=some g:=⟨_,List.getElem?_eq_getElem (by rw [← lt];exact (List.getElem?_eq_some_iff.mp hy).1)⟩
      obtain ⟨t,rfl,ht⟩:=gt i y g hy eg
      obtain ⟨vr,er⟩:=jEA kn eg
      have ek2:(jBX 1 am (ws.take i)).map (·.1)=rs.map (·.1):=by rw [jD8,ek]
      obtain ⟨va,ea⟩:=jFY ek2 er
      have tk:ws.take (i + 1)=ws.take i ++ [g]:=by rw [List.take_add_one,eg];rfl
      refine ⟨t,[.str g.1,.int g.2],rfl,SqT.of (kp _ _ (jAD ht hm (by intro z;cases z)) ht),rfl,.str g.1,[.int g.2],rfl,.int g.2,[],rfl,rfl,?_⟩
      have ln:(dI (jBX 1 am (ws.take i))).length < sizeLine:=by
        unfold dI
        have:=congrArg List.length (jD8 1 (ws.take i) am)
        rw [List.length_map,List.length_map] at this
        rw [List.length_map,this]
        exact jBb la
      refine ⟨_,rfl,x,cQ,dx,_,_,rfl,kp _ _ nxm hx,T.cl_Stock,T.n_Stock_amounts,rfl,_,rfl,m,_,rfl,jFD hm2 ea,_,rfl,_,_,rfl,rfl,_,jDy.k (k:=Sum.inr g.1) hm2 ln,?_⟩
      refine ⟨fun b u nb e=>by rw [jAi nb];exact kp b u nb e,?_,_,_,rfl⟩
      rw [jAc,jM7 (jEu ea),tk,jHO,ea,Option.getD_some]
      rw [Int.one_mul]
    · obtain ⟨kp,hm2,v2,v3,rfl⟩:=z
      rw [List.take_of_length_le (by omega)] at hm2
      exact q3 kn nb H2 kp ⟨⟨dx,kp _ _ nxm hx⟩,kp _ _ ne hr',hm2,ne⟩
theorem jBZ:jAn ["self","wants","name","many"] ["self","wants"] (jAb jBE):=⟨rfl,rfl,rfl,by decide +kernel,rfl,by decide +kernel,by decide +kernel⟩
theorem jHE (F:Fun K "draw_all" "Stock.draw_all" jBE fa fd) (T:Txt K mg yQ yZ yX yY yV yJ yW yU yK yG cQ cZ cV cK cG vQ vZ vX vY) (X_Dry:jCQ P w K mg base 1 "Dry" vQ ["self","name"] (jA8 vQ "name")) (D_Stock_know_all:MtE P w K mg base 4 "know_all" cQ ["self","rows"] (jD7 cQ cV)) :
    jAh P w K mg base (CXe P w) 5 fa fd ["self","wants"] (jEz cQ cV vQ (-1) (fun _ am ws=>jBY am ws)):=by
  refine F.okE jBZ (fun vs H Q E h=>?_) (fun cdv A outer s H vs Q E hr h=>?_)
  · obtain ⟨x,r,m,p,rs,am,ws,rfl,_⟩:=h
    rfl
  obtain ⟨x,r,m,p,rs,am,ws,rfl,S,ek,la,npm,G,q1,q2,q3⟩:=h
  have hu:=jEh hr 0 (by decide)
  obtain ⟨⟨dx,hx⟩,hr',hm,ne⟩:=id S
  obtain ⟨ts,hp,lt,gt⟩:=id G
  have nxm:x≠m:=jAD hx hm (by intro z;cases z)
  refine ⟨_,(jAd (jAN (jAU 4 jAx (hr.mono (by decide)) (pv 0) (jAa (pv 1) jAe)))
  (jAd (jD5 jFC rfl (jCO (pv 1)) (jH8 rfl (jDx (jBA (i:=2) jBZ.nd rfl (by first | exact Or.inl rfl | exact Or.inr rfl)) (jDx (jBA (i:=3) jBZ.nd rfl (by first | exact Or.inl rfl | exact Or.inr rfl)) jHk)))
  (jAf (jAJ (jAu jHm (jAK hu (jAs (pv 0) rfl) (pv 2) (fun _ _=>rfl)) (pv 3) (jAw _)) (jAf (jBB jBp rfl (jBo X_Dry (hr.mono (by decide)) rfl (jAa (pv 2) jAe)))) jAz)))
  (jAf (jD5 jFC rfl (jCO (pv 1)) (jH8 rfl (jDx (jBA (i:=2) jBZ.nd rfl (by first | exact Or.inl rfl | exact Or.inr rfl)) (jDx (jBA (i:=3) jBZ.nd rfl (by first | exact Or.inl rfl | exact Or.inr rfl)) jHk)))
  (jAf (jLV hu (jAs (pv 0) rfl) (pv 2) (pv 3) in_sub (fun _ _ _=>rfl))))))),?_⟩
  refine ⟨_,rfl,x,_,dx,_,_,_,rfl,hx,rfl,T.cl_Stock,D_Stock_know_all,_,rfl,x,p,rs,am,ws,rfl,S.at,G,fun kn=>?_,q1⟩
  refine ⟨_,rfl,p,rfl,⟨_,SqL.of hp⟩,jEe (K:=K) (a:=p) (xs:=ts) (fun i σ H'=>H'=H∧(∀ (j:Nat) g,j < i→ws[j]?=some g→decide ((am.lookup g.1).getD 0 < g.2)=false)∧∃ v2 v3,σ=[some (.ref x),some (.ref p),v2,v3]) ⟨rfl,fun j g hj=>absurd hj (Nat.not_lt_zero j),_,_,rfl⟩ (fun i σ H' _ z=>by rw [z.1];exact SqL.of hp) (fun i y σ H' hy z=>?_) (fun σ H' z=>?_)⟩
  · obtain ⟨rfl,kb,v2,v3,rfl⟩:=z
    obtain ⟨g,eg⟩:∃ g,ws[i]?=some g:=⟨_,List.getElem?_eq_getElem (by rw [← lt];exact (List.getElem?_eq_some_iff.mp hy).1)⟩
    obtain ⟨t,rfl,ht⟩:=gt i y g hy eg
    obtain ⟨vr,er⟩:=jEA kn eg
    obtain ⟨va,ea⟩:=jFY ek er
    refine ⟨t,[.str g.1,.int g.2],rfl,SqT.of ht,rfl,.str g.1,[.int g.2],rfl,.int g.2,[],rfl,rfl,?_⟩
    refine ⟨_,rfl,x,cQ,dx,_,_,rfl,hx,T.cl_Stock,T.n_Stock_amounts,rfl,_,rfl,m,_,rfl,jFD hm ea,_,rfl,_,_,rfl,rfl,decide (va < g.2),rfl,?_⟩
    have eb:(decide ((am.lookup g.1).getD 0 < g.2))=decide (va < g.2):=by rw [ea];rfl
    cases hd:decide (va < g.2) with
    | false =>
      refine jAT ⟨rfl,fun j g' hj e=>?_,_,_,rfl⟩
      by_cases hji:j < i
      · exact kb j g' hji e
      · have:j=i:=by omega
        subst this
        rw [eg] at e
        obtain rfl:=Option.some.inj e
        rw [eb,hd]
    | true =>
      refine jA6 ⟨_,rfl,jBl T.x_Dry.m fun ea H2 sm _ gx=>q2 g.1 kn ?_ ea H2 sm gx⟩
      show jBY am ws=some g.1
      unfold jBY
      rw [jFr eg (fun j b hj e=>kb j b hj e) (by rw [eb,hd])]
      rfl
  · obtain ⟨rfl,kb,v2,v3,rfl⟩:=z
    have nb:jBY am ws=none:=by
      unfold jBY
      rw [jI8 fun j g e=>kb j g (by rw [lt];exact (List.getElem?_eq_some_iff.mp e).1) e]
      rfl
    refine ⟨_,rfl,p,rfl,⟨_,SqL.of hp⟩,jEe (K:=K) (a:=p) (xs:=ts) (fun i σ H2=>(∀ b u,b≠m→H' b=some u→H2 b=some u)∧H2 m=some (.dK (dI (jBX (-1) am (ws.take i))))∧∃ v2 v3,σ=[some (.ref x),some (.ref p),v2,v3]) ⟨fun b u _ e=>e,hm,_,_,rfl⟩ (fun i σ H2 _ z=>SqL.of (z.1 _ _ npm hp)) (fun i y σ H2 hy z=>?_) (fun σ H2 z=>?_)⟩
    · obtain ⟨kp,hm2,v2,v3,rfl⟩:=z
      obtain ⟨g,eg⟩:∃ g,ws[i]?=some g:=⟨_,List.getElem?_eq_getElem (by rw [← lt];exact (List.getElem?_eq_some_iff.mp hy).1)⟩
      obtain ⟨t,rfl,ht⟩:=gt i y g hy eg
      obtain ⟨vr,er⟩:=jEA kn eg
      have ek2:(jBX (-1) am (ws.take i)).map (·.1)=rs.map (·.1):=by rw [jD8,ek]
      obtain ⟨va,ea⟩:=jFY ek2 er
      have tk:ws.take (i + 1)=ws.take i ++ [g]:=by rw [List.take_add_one,eg];rfl
      refine ⟨t,[.str g.1,.int g.2],rfl,SqT.of (kp _ _ (jAD ht hm (by intro z;cases z)) ht),rfl,.str g.1,[.int g.2],rfl,.int g.2,[],rfl,rfl,?_⟩
      have ln:(dI (jBX (-1) am (ws.take i))).length < sizeLine:=by
        unfold dI
        have:=congrArg List.length (jD8 (-1) (ws.take i) am)
        rw [List.length_map,List.length_map] at this
        rw [List.length_map,this]
        exact jBb la
      refine ⟨_,rfl,x,cQ,dx,_,_,rfl,kp _ _ nxm hx,T.cl_Stock,T.n_Stock_amounts,rfl,_,rfl,m,_,rfl,jFD hm2 ea,_,rfl,_,_,rfl,rfl,_,jDy.k (k:=Sum.inr g.1) hm2 ln,?_⟩
      refine ⟨fun b u nb e=>by rw [jAi nb];exact kp b u nb e,?_,_,_,rfl⟩
      rw [jAc,jM7 (jEu ea),tk,jHO,ea,Option.getD_some]
      rw [show va + -1 * g.2=va - g.2 from by omega]
    · obtain ⟨kp,hm2,v2,v3,rfl⟩:=z
      rw [List.take_of_length_le (by omega)] at hm2
      exact q3 kn nb H2 kp ⟨⟨dx,kp _ _ nxm hx⟩,kp _ _ ne hr',hm2,ne⟩
noncomputable def jIr (C cU cT:Addr):Sp:=fun vs H Q E=>∃ x r m rs am n k,vs=[.ref x,.str n,.int k]∧jC0 C H x r m rs am∧am.map (·.1)=rs.map (·.1)∧am.length≤1000 ∧
  (∀ n',jBx rs [(n,k)]=some n'→jG_ cU n' H E)∧(∀ n',jBx rs [(n,k)]=none→jBT rs am [(n,k)]=some n'→jG_ cT n' H E) ∧
  (jBx rs [(n,k)]=none→jBT rs am [(n,k)]=none→∀ H',(∀ b u,b≠m→H b=some u→H' b=some u)→jC0 C H' x r m rs (jBX 1 am [(n,k)])→Q .non H')
theorem jC0.same {C:Addr} {H H':Hp} {x r m:Addr} {rs am:List (Str×Int)} (h:jC0 C H x r m rs am) (k:jAr H H'):jC0 C H' x r m rs am:=let ⟨⟨dx,e1⟩,e2,e3,n⟩:=h;⟨⟨dx,k _ _ e1⟩,k _ _ e2,k _ _ e3,n⟩
theorem jKN:jAn ["self","name","many"] ["self","name","many"] (jAb jDm):=⟨rfl,rfl,rfl,by decide +kernel,rfl,by decide +kernel,by decide +kernel⟩
theorem jKO (F:Fun K "put" "Stock.put" jDm fa fd) (T:Txt K mg yQ yZ yX yY yV yJ yW yU yK yG cQ cZ cV cK cG vQ vZ vX vY) (D_Stock_put_all:MtE P w K mg base 5 "put_all" cQ ["self","gifts"] (jEz cQ cV cG 1 jBT)) :
    jAh P w K mg base (CXe P w) 6 fa fd ["self","name","many"] (jIr cQ cV cG):=by
  refine F.okE jKN (fun vs H Q E h=>?_) (fun cdv A outer s H vs Q E hr h=>?_)
  · obtain ⟨x,r,m,rs,am,n,k,rfl,_⟩:=h
    rfl
  obtain ⟨x,r,m,rs,am,n,k,rfl,S,ek,la,q1,q2,q3⟩:=h
  have z1:1≤sizeLine:=small (by decide)
  have z2:2≤sizeLine:=small (by decide)
  obtain ⟨⟨dx,hx⟩,hr',hm,ne⟩:=id S
  refine ⟨_,(jAf (jAN (jAU 5 jAx (hr.mono (by decide)) (pv 0) (jAa (jAZ (jAa (jAV (jAa (pv 1) (jAa (pv 2) jAe))) jAe)) jAe)))),?_⟩
  refine ⟨_,rfl,x,_,dx,_,_,_,rfl,hx,rfl,T.cl_Stock,D_Stock_put_all,_,rfl,_,rfl,z2,fun t nt=>⟨z1,fun p np=>?_⟩⟩
  have s1:=(jAl nt (.tup [.str n,.int k])).trans (jAl np (.lst [.ref t]))
  have ht:=jAl np (.lst [.ref t]) _ _ (jAc (H:=H) (a:=t) (o:=.tup [.str n,.int k]))
  have hp:=jAc (H:=upd H t (.tup [.str n,.int k])) (a:=p) (o:=.lst [.ref t])
  have npm:p≠m:=fun e=>by
    have:=jAl nt (.tup [.str n,.int k]) _ _ hm
    rw [← e,np] at this
    cases this
  refine ⟨x,r,m,p,rs,am,[(n,k)],rfl,S.same s1,ek,la,npm,⟨[.ref t],hp,rfl,fun i y g e1 e2=>?_⟩,fun n' h ea H' sm gx=>q1 n' h ea H' (s1.trans sm) gx,fun n' h h2 ea H' sm gx=>q2 n' h h2 ea H' (s1.trans sm) gx,fun h1 h2 H' kp S'=>q3 h1 h2 H' (fun b u nb e=>kp b u nb (s1 _ _ e)) S'⟩
  match i,e1,e2 with
  | 0,e1,e2 =>
    obtain rfl:V.ref t=y:=Option.some.inj e1
    obtain rfl:(n,k)=g:=Option.some.inj e2
    exact ⟨t,rfl,ht⟩
end
end My
namespace My
open PySem L2
open Blk (sg sg_inj sg_app)
section
variable {P:Program} {w:World} {K:PySem.W.Frag} {mg:Str→Option Value} {base:Heap} {fa yQ yZ yX yY yV yJ yW yU yK yG cQ cZ cV cK cG vQ vZ vX vY:Addr} {fd:FuncData}
theorem jI9:jAn ["self","found"] ["self","found"] (jAb jCr):=⟨rfl,rfl,rfl,by decide +kernel,rfl,by decide +kernel,by decide +kernel⟩
theorem jI_ (F:Fun K "__init__" "NotNow.__init__" jCr fa fd) (T:Txt K mg yQ yZ yX yY yV yJ yW yU yK yG cQ cZ cV cK cG vQ vZ vX vY)  :
    jAh P w K mg base CX0 1 fa fd ["self","found"] (jA8 cK "found"):=by
  refine F.ok jI9 (fun vs H Q E h=>?_) (fun cdv A outer s H vs Q E hr h=>?_)
  · obtain ⟨x,y,rfl,_⟩:=h
    rfl
  obtain ⟨x,y,rfl,hx,q⟩:=h
  refine ⟨_,(jAd (jAN (jEQ T.in_HallError rfl T.mg_HallError (jAa (pv 0) (jAa (pv 1) jAe))))
  (jAf (jFB (pv 0) (pv 1) rfl))),?_⟩
  refine ⟨_,rfl,_,rfl,x,_,none,[y],rfl,(by simp),hx,T.x_NotNow.m,?_⟩
  refine ⟨_,rfl,_,rfl,.inl ⟨x,_,rfl,hx,T.x_NotNow.i.c,T.x_NotNow.n _ (.head _),fun dx nd ne=>?_⟩⟩
  exact q _ (jEU nd) (jGw ne)
inductive S3 where
  | rd | jm | aw (b:Bool)
  deriving DecidableEq
noncomputable def wd:S3→Str
  | .rd=>Str.ofString "ready"
  | .jm=>Str.ofString "jammed"
  | .aw _=>Str.ofString "off"
noncomputable def jDt:S3→List (Str×V)
  | .rd=>[("word",.str (Str.ofString "ready"))]
  | .jm=>[("word",.str (Str.ofString "jammed"))]
  | .aw b=>[("word",.str (Str.ofString "off")),("jammed",.bl b)]
noncomputable def clOf (cR cJ cA:Addr):S3→Addr
  | .rd=>cR
  | .jm=>cJ
  | .aw _=>cA
noncomputable def jA5:Nat→S3→Option S3
  | 0,.rd=>some .jm
  | 1,.jm=>some .rd
  | 2,.rd=>some (.aw false)
  | 2,.jm=>some (.aw true)
  | 3,.aw b=>some (if b=true then .jm else .rd)
  | _,_=>none
noncomputable def jFg (cR cJ cA:Addr) (H:Hp) (a:Addr) (s:S3):Prop:=∃ dx,H a=some (.ins (clOf cR cJ cA s) dx (jDt s))
theorem jFg.same {cR cJ cA:Addr} {H H':Hp} {a:Addr} {s:S3} (h:jFg cR cJ cA H a s) (k:jAr H H'):jFg cR cJ cA H' a s:=let ⟨dx,e⟩:=h;⟨dx,k _ _ e⟩
theorem jD1 {H:Hp} {x dx:Addr} {o o1 o2:HO} (nx:H x=none) (nd:H dx=none):jAr H (upd (upd (upd H dx o) x o1) x o2):=by
  rw [jB0]
  exact jEn nx (jAl nd _) _
noncomputable def OutS (cR cJ cA cN:Addr) (d:Nat) (s:S3) (H:Hp) (Q:VK) (E:XK):Prop:=(∀ s',jA5 d s=some s'→∀ p H',jAr H H'→H p=none→jFg cR cJ cA H' p s'→Q (.ref p) H') ∧
  (jA5 d s=none→∀ ea H',jAr H H'→XG H' ea cN [("found",.str (wd s))]→E (.ref cN) (some ea) H')
noncomputable def jAR (cR cJ cA cN:Addr) (S:S3→Prop) (d:Nat):Sp:=fun vs H Q E=>∃ a s,vs=[.ref a]∧S s∧jFg cR cJ cA H a s∧OutS cR cJ cA cN d s H Q E
noncomputable def jC5 (cR cJ cA:Addr):Sp:=fun vs H Q _=>∃ a s,vs=[.ref a]∧jFg cR cJ cA H a s∧Q (.str (wd s)) H
noncomputable def jBW (K:PySem.W.Frag):Sp:=fun vs H Q _=>∃ x dx C y,vs=[.ref x,y]∧H x=some (.ins C dx [])∧Cls K C∧jAy K C "word"∧Q .non (upd H x (.ins C dx [("word",y)]))
noncomputable def jDC (C:Addr) (fs:List (Str×V)):Sp:=fun vs H Q _=>∃ x dx,vs=[.ref x]∧H x=some (.ins C dx [])∧Q .non (upd H x (.ins C dx fs))
noncomputable def jDD (C:Addr):Sp:=fun vs H Q _=>∃ x dx b,vs=[.ref x,.bl b]∧H x=some (.ins C dx [])∧Q .non (upd H x (.ins C dx (jDt (.aw b))))
theorem jJ5:jAn ["self","word"] ["self","word"] (jAb jCS):=⟨rfl,rfl,rfl,by decide +kernel,rfl,by decide +kernel,by decide +kernel⟩
theorem jJ6 (F:Fun K "__init__" "State.__init__" jCS fa fd) (T:Txt K mg yQ yZ yX yY yV yJ yW yU yK yG cQ cZ cV cK cG vQ vZ vX vY)  :
    jAh P w K mg base CX0 1 fa fd ["self","word"] (jBW K):=by
  refine F.ok jJ5 (fun vs H Q E h=>?_) (fun cdv A outer s H vs Q E hr h=>?_)
  · obtain ⟨x,dx,C,y,rfl,_⟩:=h
    rfl
  obtain ⟨x,dx,C,y,rfl,hx,cl,n,q⟩:=h
  refine ⟨_,(jAf (jAL (pv 0) (pv 1) rfl)),?_⟩
  exact ⟨_,rfl,_,rfl,x,C,dx,_,rfl,hx,cl,n,(by decide),q⟩
theorem jIs:jAn ["self"] ["self"] (jAb jB5):=⟨rfl,rfl,rfl,by decide +kernel,rfl,by decide +kernel,by decide +kernel⟩
theorem jIt (F:Fun K "called" "State.called" jB5 fa fd) (T:Txt K mg yQ yZ yX yY yV yJ yW yU yK yG cQ cZ cV cK cG vQ vZ vX vY)  :
    jAh P w K mg base CX0 1 fa fd ["self"] (jC5 yJ yW yU):=by
  refine F.ok jIs (fun vs H Q E h=>?_) (fun cdv A outer s H vs Q E hr h=>?_)
  · obtain ⟨a,s,rfl,_⟩:=h
    rfl
  obtain ⟨a,s,rfl,⟨dx,hx⟩,q⟩:=h
  refine ⟨_,(jAf (jAp (jAs (pv 0) rfl))),?_⟩
  cases s with
  | rd=>exact ⟨_,rfl,a,_,dx,_,_,rfl,hx,T.cl_Ready,T.n_Ready_word,rfl,q⟩
  | jm=>exact ⟨_,rfl,a,_,dx,_,_,rfl,hx,T.cl_Jammed,T.n_Jammed_word,rfl,q⟩
  | aw b=>exact ⟨_,rfl,a,_,dx,_,_,rfl,hx,T.cl_Away,T.n_Away_word,rfl,q⟩
theorem jKP:jAn ["self"] ["self"] (jAb jDg):=⟨rfl,rfl,rfl,by decide +kernel,rfl,by decide +kernel,by decide +kernel⟩
theorem jKQ (F:Fun K "jam" "State.jam" jDg fa fd) (T:Txt K mg yQ yZ yX yY yV yJ yW yU yK yG cQ cZ cV cK cG vQ vZ vX vY) (X_NotNow:jCQ P w K mg base 1 "NotNow" cK ["self","found"] (jA8 cK "found")) :
    jAh P w K mg base (CXe P w) 3 fa fd ["self"] (jAR yJ yW yU cK (fun s=>jA5 0 s=none) 0):=by
  refine F.okE jKP (fun vs H Q E h=>?_) (fun cdv A outer s H vs Q E hr h=>?_)
  · obtain ⟨a,s,rfl,_⟩:=h
    rfl
  obtain ⟨a,s,rfl,hs,⟨dx,hx⟩,_,q⟩:=h
  refine ⟨_,(jAf (jBB jBp rfl (jBo X_NotNow (hr.mono (by decide)) rfl (jAa (jAs (pv 0) rfl) jAe)))),?_⟩
  cases s with
  | rd=>cases hs
  | jm=>exact ⟨_,rfl,a,_,dx,_,_,rfl,hx,T.cl_Jammed,T.n_Jammed_word,rfl,jBl T.x_NotNow.m fun ea H' sm _ g=>q hs ea H' sm g⟩
  | aw b=>exact ⟨_,rfl,a,_,dx,_,_,rfl,hx,T.cl_Away,T.n_Away_word,rfl,jBl T.x_NotNow.m fun ea H' sm _ g=>q hs ea H' sm g⟩
theorem jJ7:jAn ["self"] ["self"] (jAb jCT):=⟨rfl,rfl,rfl,by decide +kernel,rfl,by decide +kernel,by decide +kernel⟩
theorem jJ8 (F:Fun K "mend" "State.mend" jCT fa fd) (T:Txt K mg yQ yZ yX yY yV yJ yW yU yK yG cQ cZ cV cK cG vQ vZ vX vY) (X_NotNow:jCQ P w K mg base 1 "NotNow" cK ["self","found"] (jA8 cK "found")) :
    jAh P w K mg base (CXe P w) 3 fa fd ["self"] (jAR yJ yW yU cK (fun s=>jA5 1 s=none) 1):=by
  refine F.okE jJ7 (fun vs H Q E h=>?_) (fun cdv A outer s H vs Q E hr h=>?_)
  · obtain ⟨a,s,rfl,_⟩:=h
    rfl
  obtain ⟨a,s,rfl,hs,⟨dx,hx⟩,_,q⟩:=h
  refine ⟨_,(jAf (jBB jBp rfl (jBo X_NotNow (hr.mono (by decide)) rfl (jAa (jAs (pv 0) rfl) jAe)))),?_⟩
  cases s with
  | jm=>cases hs
  | rd=>exact ⟨_,rfl,a,_,dx,_,_,rfl,hx,T.cl_Ready,T.n_Ready_word,rfl,jBl T.x_NotNow.m fun ea H' sm _ g=>q hs ea H' sm g⟩
  | aw b=>exact ⟨_,rfl,a,_,dx,_,_,rfl,hx,T.cl_Away,T.n_Away_word,rfl,jBl T.x_NotNow.m fun ea H' sm _ g=>q hs ea H' sm g⟩
theorem jJa:jAn ["self"] ["self"] (jAb jCv):=⟨rfl,rfl,rfl,by decide +kernel,rfl,by decide +kernel,by decide +kernel⟩
theorem jJb (F:Fun K "leave" "State.leave" jCv fa fd) (T:Txt K mg yQ yZ yX yY yV yJ yW yU yK yG cQ cZ cV cK cG vQ vZ vX vY) (X_NotNow:jCQ P w K mg base 1 "NotNow" cK ["self","found"] (jA8 cK "found")) :
    jAh P w K mg base (CXe P w) 3 fa fd ["self"] (jAR yJ yW yU cK (fun s=>jA5 2 s=none) 2):=by
  refine F.okE jJa (fun vs H Q E h=>?_) (fun cdv A outer s H vs Q E hr h=>?_)
  · obtain ⟨a,s,rfl,_⟩:=h
    rfl
  obtain ⟨a,s,rfl,hs,⟨dx,hx⟩,_,q⟩:=h
  refine ⟨_,(jAf (jBB jBp rfl (jBo X_NotNow (hr.mono (by decide)) rfl (jAa (jAs (pv 0) rfl) jAe)))),?_⟩
  cases s with
  | jm=>cases hs
  | rd=>cases hs
  | aw b=>exact ⟨_,rfl,a,_,dx,_,_,rfl,hx,T.cl_Away,T.n_Away_word,rfl,jBl T.x_NotNow.m fun ea H' sm _ g=>q hs ea H' sm g⟩
theorem jJ9:jAn ["self"] ["self"] (jAb jCU):=⟨rfl,rfl,rfl,by decide +kernel,rfl,by decide +kernel,by decide +kernel⟩
theorem jJ_ (F:Fun K "come" "State.come" jCU fa fd) (T:Txt K mg yQ yZ yX yY yV yJ yW yU yK yG cQ cZ cV cK cG vQ vZ vX vY) (X_NotNow:jCQ P w K mg base 1 "NotNow" cK ["self","found"] (jA8 cK "found")) :
    jAh P w K mg base (CXe P w) 3 fa fd ["self"] (jAR yJ yW yU cK (fun s=>jA5 3 s=none) 3):=by
  refine F.okE jJ9 (fun vs H Q E h=>?_) (fun cdv A outer s H vs Q E hr h=>?_)
  · obtain ⟨a,s,rfl,_⟩:=h
    rfl
  obtain ⟨a,s,rfl,hs,⟨dx,hx⟩,_,q⟩:=h
  refine ⟨_,(jAf (jBB jBp rfl (jBo X_NotNow (hr.mono (by decide)) rfl (jAa (jAs (pv 0) rfl) jAe)))),?_⟩
  cases s with
  | rd=>exact ⟨_,rfl,a,_,dx,_,_,rfl,hx,T.cl_Ready,T.n_Ready_word,rfl,jBl T.x_NotNow.m fun ea H' sm _ g=>q hs ea H' sm g⟩
  | jm=>exact ⟨_,rfl,a,_,dx,_,_,rfl,hx,T.cl_Jammed,T.n_Jammed_word,rfl,jBl T.x_NotNow.m fun ea H' sm _ g=>q hs ea H' sm g⟩
  | aw b=>cases hs
theorem jKa:jAn ["self"] ["self"] (jAb jCV):=⟨rfl,rfl,rfl,by decide +kernel,rfl,by decide +kernel,by decide +kernel⟩
theorem jKb (F:Fun K "__init__" "Ready.__init__" jCV fa fd) (T:Txt K mg yQ yZ yX yY yV yJ yW yU yK yG cQ cZ cV cK cG vQ vZ vX vY) (I_State:InD P w K mg base 1 "State" yV ["self","word"] (jBW K)) :
    jAh P w K mg base CX0 2 fa fd ["self"] (jDC yJ (jDt .rd)):=by
  refine F.ok jKa (fun vs H Q E h=>?_) (fun cdv A outer s H vs Q E hr h=>?_)
  · obtain ⟨x,dx,rfl,_⟩:=h
    rfl
  obtain ⟨x,dx,rfl,hx,q⟩:=h
  refine ⟨_,(jAf (jAN (jER I_State (hr.mono (by decide)) rfl (jAa (pv 0) (jAa (jDO T.READY rfl) jAe))))),?_⟩
  exact ⟨_,rfl,x,dx,_,_,rfl,hx,T.cl_Ready,T.n_Ready_word,q⟩
theorem jJc:jAn ["self"] ["self"] (jAb jCx):=⟨rfl,rfl,rfl,by decide +kernel,rfl,by decide +kernel,by decide +kernel⟩
theorem jJd (F:Fun K "__init__" "Jammed.__init__" jCx fa fd) (T:Txt K mg yQ yZ yX yY yV yJ yW yU yK yG cQ cZ cV cK cG vQ vZ vX vY) (I_State:InD P w K mg base 1 "State" yV ["self","word"] (jBW K)) :
    jAh P w K mg base CX0 2 fa fd ["self"] (jDC yW (jDt .jm)):=by
  refine F.ok jJc (fun vs H Q E h=>?_) (fun cdv A outer s H vs Q E hr h=>?_)
  · obtain ⟨x,dx,rfl,_⟩:=h
    rfl
  obtain ⟨x,dx,rfl,hx,q⟩:=h
  refine ⟨_,(jAf (jAN (jER I_State (hr.mono (by decide)) rfl (jAa (pv 0) (jAa (jDO T.JAMMED rfl) jAe))))),?_⟩
  exact ⟨_,rfl,x,dx,_,_,rfl,hx,T.cl_Jammed,T.n_Jammed_word,q⟩
theorem jKR:jAn ["self","jammed"] ["self","jammed"] (jAb jDi):=⟨rfl,rfl,rfl,by decide +kernel,rfl,by decide +kernel,by decide +kernel⟩
theorem jKS (F:Fun K "__init__" "Away.__init__" jDi fa fd) (T:Txt K mg yQ yZ yX yY yV yJ yW yU yK yG cQ cZ cV cK cG vQ vZ vX vY) (I_State:InD P w K mg base 1 "State" yV ["self","word"] (jBW K)) :
    jAh P w K mg base CX0 2 fa fd ["self","jammed"] (jDD yU):=by
  refine F.ok jKR (fun vs H Q E h=>?_) (fun cdv A outer s H vs Q E hr h=>?_)
  · obtain ⟨x,dx,b,rfl,_⟩:=h
    rfl
  obtain ⟨x,dx,b,rfl,hx,q⟩:=h
  refine ⟨_,(jAd (jAN (jER I_State (hr.mono (by decide)) rfl (jAa (pv 0) (jAa (jDO T.OFF rfl) jAe))))
  (jAf (jAL (pv 0) (pv 1) rfl))),?_⟩
  refine ⟨_,rfl,x,dx,_,_,rfl,hx,T.cl_Away,T.n_Away_word,?_⟩
  refine ⟨_,rfl,_,rfl,x,_,dx,_,rfl,jAc,T.cl_Away,T.n_Away_jammed,(by decide),?_⟩
  rw [jB0]
  exact q
theorem jKT:jAn ["self"] ["self"] (jAb jDh):=⟨rfl,rfl,rfl,by decide +kernel,rfl,by decide +kernel,by decide +kernel⟩
theorem jKU (F:Fun K "jam" "Ready.jam" jDh fa fd) (T:Txt K mg yQ yZ yX yY yV yJ yW yU yK yG cQ cZ cV cK cG vQ vZ vX vY) (M_Jammed:MkD P w K mg base 2 "Jammed" yW ["self"] (jDC yW (jDt .jm))) :
    jAh P w K mg base CX0 4 fa fd ["self"] (jAR yJ yW yU cK (fun s=>s=.rd) 0):=by
  refine F.ok jKT (fun vs H Q E h=>?_) (fun cdv A outer s H vs Q E hr h=>?_)
  · obtain ⟨a,s,rfl,_⟩:=h
    rfl
  obtain ⟨a,s,rfl,rfl,_,q,_⟩:=h
  refine ⟨_,(jAf (jAp (jDB M_Jammed (hr.mono (by decide)) rfl))),?_⟩
  exact fun x dx nx nd ne=>⟨x,dx,rfl,jAc,rfl,q _ rfl x _ (jD1 nx nd) nx ⟨dx,jAc⟩⟩
theorem jJe:jAn ["self"] ["self"] (jAb jCw):=⟨rfl,rfl,rfl,by decide +kernel,rfl,by decide +kernel,by decide +kernel⟩
theorem jJf (F:Fun K "leave" "Ready.leave" jCw fa fd) (T:Txt K mg yQ yZ yX yY yV yJ yW yU yK yG cQ cZ cV cK cG vQ vZ vX vY) (M_Away:MkD P w K mg base 2 "Away" yU ["self","jammed"] (jDD yU)) :
    jAh P w K mg base CX0 4 fa fd ["self"] (jAR yJ yW yU cK (fun s=>s=.rd) 2):=by
  refine F.ok jJe (fun vs H Q E h=>?_) (fun cdv A outer s H vs Q E hr h=>?_)
  · obtain ⟨a,s,rfl,_⟩:=h
    rfl
  obtain ⟨a,s,rfl,rfl,_,q,_⟩:=h
  refine ⟨_,(jAf (jAp (jDA M_Away (hr.mono (by decide)) rfl (jAa jBL jAe)))),?_⟩
  exact fun x dx nx nd ne=>⟨x,dx,_,rfl,jAc,rfl,q _ rfl x _ (jD1 nx nd) nx ⟨dx,jAc⟩⟩
theorem jJg:jAn ["self"] ["self"] (jAb jCy):=⟨rfl,rfl,rfl,by decide +kernel,rfl,by decide +kernel,by decide +kernel⟩
theorem jJh (F:Fun K "mend" "Jammed.mend" jCy fa fd) (T:Txt K mg yQ yZ yX yY yV yJ yW yU yK yG cQ cZ cV cK cG vQ vZ vX vY) (M_Ready:MkD P w K mg base 2 "Ready" yJ ["self"] (jDC yJ (jDt .rd))) :
    jAh P w K mg base CX0 4 fa fd ["self"] (jAR yJ yW yU cK (fun s=>s=.jm) 1):=by
  refine F.ok jJg (fun vs H Q E h=>?_) (fun cdv A outer s H vs Q E hr h=>?_)
  · obtain ⟨a,s,rfl,_⟩:=h
    rfl
  obtain ⟨a,s,rfl,rfl,_,q,_⟩:=h
  refine ⟨_,(jAf (jAp (jDB M_Ready (hr.mono (by decide)) rfl))),?_⟩
  exact fun x dx nx nd ne=>⟨x,dx,rfl,jAc,rfl,q _ rfl x _ (jD1 nx nd) nx ⟨dx,jAc⟩⟩
theorem jIu:jAn ["self"] ["self"] (jAb jB6):=⟨rfl,rfl,rfl,by decide +kernel,rfl,by decide +kernel,by decide +kernel⟩
theorem jIv (F:Fun K "leave" "Jammed.leave" jB6 fa fd) (T:Txt K mg yQ yZ yX yY yV yJ yW yU yK yG cQ cZ cV cK cG vQ vZ vX vY) (M_Away:MkD P w K mg base 2 "Away" yU ["self","jammed"] (jDD yU)) :
    jAh P w K mg base CX0 4 fa fd ["self"] (jAR yJ yW yU cK (fun s=>s=.jm) 2):=by
  refine F.ok jIu (fun vs H Q E h=>?_) (fun cdv A outer s H vs Q E hr h=>?_)
  · obtain ⟨a,s,rfl,_⟩:=h
    rfl
  obtain ⟨a,s,rfl,rfl,_,q,_⟩:=h
  refine ⟨_,(jAf (jAp (jDA M_Away (hr.mono (by decide)) rfl (jAa jBL jAe)))),?_⟩
  exact fun x dx nx nd ne=>⟨x,dx,_,rfl,jAc,rfl,q _ rfl x _ (jD1 nx nd) nx ⟨dx,jAc⟩⟩
theorem jKV:jAn ["self"] ["self"] (jAb jDj):=⟨rfl,rfl,rfl,by decide +kernel,rfl,by decide +kernel,by decide +kernel⟩
theorem jKW (F:Fun K "come" "Away.come" jDj fa fd) (T:Txt K mg yQ yZ yX yY yV yJ yW yU yK yG cQ cZ cV cK cG vQ vZ vX vY) (M_Jammed:MkD P w K mg base 2 "Jammed" yW ["self"] (jDC yW (jDt .jm))) (M_Ready:MkD P w K mg base 2 "Ready" yJ ["self"] (jDC yJ (jDt .rd))) :
    jAh P w K mg base CX0 4 fa fd ["self"] (jAR yJ yW yU cK (fun s=>∃ b,s=.aw b) 3):=by
  refine F.ok jKV (fun vs H Q E h=>?_) (fun cdv A outer s H vs Q E hr h=>?_)
  · obtain ⟨a,s,rfl,_⟩:=h
    rfl
  obtain ⟨a,s,rfl,⟨b,rfl⟩,⟨dx,hx⟩,q,_⟩:=h
  refine ⟨_,(jAf (jAp (jDw (jAQ (jAs (pv 0) rfl) (fun _=>rfl)) (jDB M_Jammed (hr.mono (by decide)) rfl) (jDB M_Ready (hr.mono (by decide)) rfl)))),?_⟩
  refine ⟨_,rfl,a,_,dx,_,_,rfl,hx,T.cl_Away,T.n_Away_jammed,rfl,b,rfl,?_⟩
  cases b with
  | true=>exact jA6 fun x dx nx nd ne=>⟨x,dx,rfl,jAc,rfl,q _ rfl x _ (jD1 nx nd) nx ⟨dx,jAc⟩⟩
  | false=>exact jAT fun x dx nx nd ne=>⟨x,dx,rfl,jAc,rfl,q _ rfl x _ (jD1 nx nd) nx ⟨dx,jAc⟩⟩
end
end My
namespace My
open PySem L2
open Blk (sg sg_inj sg_app)
section
variable {P:Program} {w:World} {K:PySem.W.Frag} {mg:Str→Option Value} {base:Heap} {fa yQ yZ yX yY yV yJ yW yU yK yG cQ cZ cV cK cG vQ vZ vX vY:Addr} {fd:FuncData}
noncomputable abbrev blW:Str:=Str.ofString "black"
noncomputable abbrev coW:Str:=Str.ofString "colour"
theorem blco:blW≠coW:=by decide +kernel
noncomputable def jAW (b c:Int):List (Str×Int):=[(blW,b),(coW,c)]
structure PD where
  dx:Addr
  cn:Addr
  rm:Addr
  tr:Addr
  tr1:Addr
  tr2:Addr
  ik:Addr
  ik1:Addr
  ik2:Addr
  st:Addr
  ins:Addr
  name:Str
  path:Int
  rs:List (Str×Int)
  am:List (Str×Int)
  rb:Int
  rc:Int
  b:Int
  c:Int
  tags:List V
  S:S3
noncomputable def PD.fs (d:PD):List (Str×V):=[("name",.str d.name),("can",.ref d.cn),("path",.int d.path),("rooms",.ref d.rm),("trays",.ref d.tr),("inks",.ref d.ik),("state",.ref d.st),("inside",.ref d.ins)]
structure jAO (cP cS cR cJ cA:Addr) (H:Hp) (x:Addr) (d:PD):Prop where
  o:H x=some (.ins cP d.dx d.fs)
  T:jC0 cS H d.tr d.tr1 d.tr2 d.rs d.am
  I:jC0 cS H d.ik d.ik1 d.ik2 (jAW d.rb d.rc) (jAW d.b d.c)
  s:jFg cR cJ cA H d.st d.S
  n:H d.ins=some (.lst d.tags)
  ka:d.am.map (·.1)=d.rs.map (·.1)
  la:d.am.length≤900
  lt:d.tags.length≤900
  n22:d.tr2≠d.ik2
  n21:d.tr2≠d.ik1
  n12:d.tr1≠d.ik2
theorem jAO.same {cP cS cR cJ cA:Addr} {H H':Hp} {x:Addr} {d:PD} (h:jAO cP cS cR cJ cA H x d) (k:jAr H H'):jAO cP cS cR cJ cA H' x d :=
  { h with o:=k _ _ h.o,T:=h.T.same k,I:=h.I.same k,s:=h.s.same k,n:=k _ _ h.n }
noncomputable def jDE (c:Addr) (f:Str) (v:V) (H:Hp) (E:XK):Prop:=∀ ea H',jAr H H'→XG H' ea c [(f,v)]→E (.ref c) (some ea) H'
theorem jDE.after {c:Addr} {f:Str} {v:V} {H H':Hp} {E:XK} (h:jDE c f v H E) (k:jAr H H'):jDE c f v H' E:=fun ea H2 s g=>h ea H2 (k.trans s) g
noncomputable def jBN (cP cS cR cJ cA:Addr):Sp:=fun vs H Q _=>∃ x d,vs=[.ref x]∧jAO cP cS cR cJ cA H x d∧Q (.str (wd d.S)) H
theorem jHF:jAn ["self"] ["self"] (jAb jBF):=⟨rfl,rfl,rfl,by decide +kernel,rfl,by decide +kernel,by decide +kernel⟩
theorem jHG (F:Fun K "stands" "Printer.stands" jBF fa fd) (T:Txt K mg yQ yZ yX yY yV yJ yW yU yK yG cQ cZ cV cK cG vQ vZ vX vY) (D_Ready_called:MtE P w K mg base 1 "called" yJ ["self"] (jC5 yJ yW yU)) (D_Jammed_called:MtE P w K mg base 1 "called" yW ["self"] (jC5 yJ yW yU)) (D_Away_called:MtE P w K mg base 1 "called" yU ["self"] (jC5 yJ yW yU)) :
    jAh P w K mg base CX0 2 fa fd ["self"] (jBN cZ cQ yJ yW yU):=by
  refine F.ok jHF (fun vs H Q E h=>?_) (fun cdv A outer s H vs Q E hr h=>?_)
  · obtain ⟨x,d,rfl,_⟩:=h
    rfl
  obtain ⟨x,d,rfl,P,q⟩:=h
  refine ⟨_,(jAf (jAp (jAv 1 jA7 (hr.mono (by decide)) (jAs (pv 0) rfl)))),?_⟩
  refine ⟨_,rfl,x,cZ,d.dx,_,_,rfl,P.o,T.cl_Printer,T.n_Printer_state,rfl,?_⟩
  obtain ⟨ds,hs⟩:=id P.s
  have hs':=P.s
  cases eS:d.S with
  | rd =>
    rw [eS] at hs hs' q
    exact ⟨d.st,_,ds,_,_,_,rfl,hs,rfl,T.cl_Ready,D_Ready_called,d.st,.rd,rfl,hs',q⟩
  | jm =>
    rw [eS] at hs hs' q
    exact ⟨d.st,_,ds,_,_,_,rfl,hs,rfl,T.cl_Jammed,D_Jammed_called,d.st,.jm,rfl,hs',q⟩
  | aw b =>
    rw [eS] at hs hs' q
    exact ⟨d.st,_,ds,_,_,_,rfl,hs,rfl,T.cl_Away,D_Away_called,d.st,.aw b,rfl,hs',q⟩
noncomputable def jCm (cP cS cR cJ cA:Addr):Sp:=fun vs H Q _=>∃ x d n v,vs=[.ref x,.str n]∧jAO cP cS cR cJ cA H x d∧d.am.lookup n=some v∧Q (.int v) H
theorem jKX {rs am:List (Str×Int)} {n:Str} {v:Int} (e:am.map (·.1)=rs.map (·.1)) (h:am.lookup n=some v):n∈rs.map (·.1):=e ▸ jEu h
theorem jGz:jAn ["self","kind"] ["self","kind"] (jAb jBk):=⟨rfl,rfl,rfl,by decide +kernel,rfl,by decide +kernel,by decide +kernel⟩
theorem jGA (F:Fun K "paper_left" "Printer.paper_left" jBk fa fd) (T:Txt K mg yQ yZ yX yY yV yJ yW yU yK yG cQ cZ cV cK cG vQ vZ vX vY) (D_Stock_held:MtE P w K mg base 4 "held" cQ ["self","name"] (jHv cQ cV)) :
    jAh P w K mg base (CXe P w) 5 fa fd ["self","kind"] (jCm cZ cQ yJ yW yU):=by
  refine F.okE jGz (fun vs H Q E h=>?_) (fun cdv A outer s H vs Q E hr h=>?_)
  · obtain ⟨x,d,n,v,rfl,_⟩:=h
    rfl
  obtain ⟨x,d,n,v,rfl,P,l,q⟩:=h
  refine ⟨_,(jAf (jAp (jAU 4 jAx (hr.mono (by decide)) (jAs (pv 0) rfl) (jAa (pv 1) jAe)))),?_⟩
  refine ⟨_,rfl,x,cZ,d.dx,_,_,rfl,P.o,T.cl_Printer,T.n_Printer_trays,rfl,?_⟩
  obtain ⟨⟨dt,ht⟩,_⟩:=id P.T
  have mem:=jKX P.ka l
  exact ⟨d.tr,_,dt,_,_,_,rfl,ht,rfl,T.cl_Stock,D_Stock_held,_,rfl,d.tr,d.rs,d.am,n,rfl,P.T.at,fun v' _ l'=>by rw [l] at l';obtain rfl:=Option.some.inj l';exact q,fun _=>⟨v,l⟩,fun z=>absurd mem z⟩
theorem jIw {b c:Int}:(jAW b c).lookup blW=some b:=by
  unfold jAW
  rw [List.lookup_cons,beq_self_eq_true]
theorem jIx {b c:Int}:(jAW b c).lookup coW=some c:=by
  unfold jAW
  rw [List.lookup_cons,beq_eq_false_iff_ne.mpr (Ne.symm blco),List.lookup_cons,beq_self_eq_true]
noncomputable def jC1 (cP cS cR cJ cA:Addr):Sp:=fun vs H Q _=>∃ x d,vs=[.ref x]∧jAO cP cS cR cJ cA H x d∧∀ l H',jAr H H'→H l=none→H' l=some (.lst d.tags)→Q (.ref l) H'
theorem jHH:jAn ["self"] ["self"] (jAb jBG):=⟨rfl,rfl,rfl,by decide +kernel,rfl,by decide +kernel,by decide +kernel⟩
theorem jHI (F:Fun K "within" "Printer.within" jBG fa fd) (T:Txt K mg yQ yZ yX yY yV yJ yW yU yK yG cQ cZ cV cK cG vQ vZ vX vY)  :
    jAh P w K mg base CX0 1 fa fd ["self"] (jC1 cZ cQ yJ yW yU):=by
  refine F.ok jHH (fun vs H Q E h=>?_) (fun cdv A outer s H vs Q E hr h=>?_)
  · obtain ⟨x,d,rfl,_⟩:=h
    rfl
  obtain ⟨x,d,rfl,P,q⟩:=h
  refine ⟨_,(jAf (jAp (jC4 jKw rfl T.list jLW (jAa (jAs (pv 0) rfl) jAe)))),?_⟩
  refine ⟨_,rfl,x,cZ,d.dx,_,_,rfl,P.o,T.cl_Printer,T.n_Printer_inside,rfl,?_⟩
  exact ⟨d.ins,_,rfl,.inl (SqL.of P.n),fun l nl=>q l _ (jAl nl _) nl jAc⟩
noncomputable def jEB (cN cP cS cR cJ cA:Addr):Sp:=fun vs H Q E=>∃ x d,vs=[.ref x]∧jAO cP cS cR cJ cA H x d∧(d.S=.rd→Q .non H)∧(d.S≠.rd→jDE cN "found" (.str (wd d.S)) H E)
theorem wd_rd {s:S3}:wd s=Str.ofString "ready" ↔ s=.rd:=by
  constructor
  · intro h
    cases s with
    | rd=>rfl
    | jm=>exact absurd h (by decide +kernel)
    | aw b=>exact absurd (show Str.ofString "off"=Str.ofString "ready" from h) (by decide +kernel)
  · rintro rfl
    rfl
theorem jFJ:jAn ["self"] ["self"] (jAb jA9):=⟨rfl,rfl,rfl,by decide +kernel,rfl,by decide +kernel,by decide +kernel⟩
theorem jFK (F:Fun K "must_be_ready" "Printer.must_be_ready" jA9 fa fd) (T:Txt K mg yQ yZ yX yY yV yJ yW yU yK yG cQ cZ cV cK cG vQ vZ vX vY) (X_NotNow:jCQ P w K mg base 1 "NotNow" cK ["self","found"] (jA8 cK "found")) (D_Printer_stands:MtE P w K mg base 2 "stands" cZ ["self"] (jBN cZ cQ yJ yW yU)) :
    jAh P w K mg base (CXe P w) 3 fa fd ["self"] (jEB cK cZ cQ yJ yW yU):=by
  refine F.okE jFJ (fun vs H Q E h=>?_) (fun cdv A outer s H vs Q E hr h=>?_)
  · obtain ⟨x,d,rfl,_⟩:=h
    rfl
  obtain ⟨x,d,rfl,P,q,q2⟩:=h
  refine ⟨_,(jAf (jAJ (jAu jD_ (jAv 2 jAx (hr.mono (by decide)) (pv 0)) (jDO T.READY rfl) (jAw _)) (jAf (jBB jBp rfl (jBo X_NotNow (hr.mono (by decide)) rfl (jAa (jAv 2 jAx (hr.mono (by decide)) (pv 0)) jAe)))) jAz)),?_⟩
  refine ⟨_,rfl,x,_,d.dx,_,_,_,rfl,P.o,rfl,T.cl_Printer,D_Printer_stands,x,d,rfl,P,rfl,_,rfl,?_⟩
  by_cases h:d.S=.rd
  · exact jKj (by rw [h];rfl) (q h)
  · refine iteNN (fun z=>h (wd_rd.mp (by injection z))) ?_
    exact ⟨_,rfl,x,_,d.dx,_,_,_,rfl,P.o,rfl,T.cl_Printer,D_Printer_stands,x,d,rfl,P,jBl T.x_NotNow.m fun ea H' sm _ g=>q2 h ea H' sm g⟩
theorem jHP {rs:List (Str×Int)} {n:Str} {k v:Int} (h:rs.lookup n=some v):jBx rs [(n,k)]=none:=by
  unfold jBx
  rw [List.find?_cons,show ((rs.lookup (n,k).1).isNone)=false from by rw [show (n,k).1=n from rfl,h];rfl]
  rfl
theorem jNC {rs am:List (Str×Int)} {n:Str} {k v u:Int} (h:rs.lookup n=some v) (h':am.lookup n=some u):jBT rs am [(n,k)]=if v < u + k then some n else none:=by
  unfold jBT
  rw [List.find?_cons,show (rs.lookup (n,k).1).getD 0=v from by rw [show (n,k).1=n from rfl,h];rfl,show (am.lookup (n,k).1).getD 0=u from by rw [show (n,k).1=n from rfl,h'];rfl]
  by_cases c:v < u + k
  · rw [if_pos c,decide_eq_true (show v < u + (n,k).2 from c)]
    rfl
  · rw [if_neg c,decide_eq_false (show ¬ v < u + (n,k).2 from c)]
    rfl
theorem few_one {am:List (Str×Int)} {n:Str} {k u:Int} (h':am.lookup n=some u):jBY am [(n,k)]=if u < k then some n else none:=by
  unfold jBY
  rw [List.find?_cons,show (am.lookup (n,k).1).getD 0=u from by rw [show (n,k).1=n from rfl,h'];rfl]
  by_cases c:u < k
  · rw [if_pos c,decide_eq_true (show u < (n,k).2 from c)]
    rfl
  · rw [if_neg c,decide_eq_false (show ¬ u < (n,k).2 from c)]
    rfl
theorem jL3 {am:List (Str×Int)} {n:Str} {s k u:Int} (h:am.lookup n=some u):jBX s am [(n,k)]=jBh am n (u + s * k):=by
  show jBh am n ((am.lookup n).getD 0 + s * k)=_
  rw [h]
  rfl
theorem jHQ {a b x y:Int}:jBx (jAW a b) (jAW x y)=none:=by
  unfold jBx
  rw [show jAW x y=[(blW,x),(coW,y)] from rfl,List.find?_cons,show ((jAW a b).lookup (blW,x).1).isNone=false from by rw [show (blW,x).1=blW from rfl,jIw];rfl]
  show (List.find? _ [(coW,y)]).map _=none
  rw [List.find?_cons,show ((jAW a b).lookup (coW,y).1).isNone=false from by rw [show (coW,y).1=coW from rfl,jIx];rfl]
  rfl
theorem jND {rb rc a b x y:Int} (h1:a + x≤rb) (h2:b + y≤rc):jBT (jAW rb rc) (jAW a b) (jAW x y)=none:=by
  unfold jBT
  rw [show jAW x y=[(blW,x),(coW,y)] from rfl,List.find?_cons,show ((jAW rb rc).lookup (blW,x).1).getD 0=rb from by rw [show (blW,x).1=blW from rfl,jIw];rfl,show ((jAW a b).lookup (blW,x).1).getD 0=a from by rw [show (blW,x).1=blW from rfl,jIw];rfl,decide_eq_false (show ¬ rb < a + (blW,x).2 from Int.not_lt.mpr h1)]
  show (List.find? _ [(coW,y)]).map _=none
  rw [List.find?_cons,show ((jAW rb rc).lookup (coW,y).1).getD 0=rc from by rw [show (coW,y).1=coW from rfl,jIx];rfl,show ((jAW a b).lookup (coW,y).1).getD 0=b from by rw [show (coW,y).1=coW from rfl,jIx];rfl,decide_eq_false (show ¬ rc < b + (coW,y).2 from Int.not_lt.mpr h2)]
  rfl
theorem ink_few {a b x y:Int} (h1:x≤a) (h2:y≤b):jBY (jAW a b) (jAW x y)=none:=by
  unfold jBY
  rw [show jAW x y=[(blW,x),(coW,y)] from rfl,List.find?_cons,show ((jAW a b).lookup (blW,x).1).getD 0=a from by rw [show (blW,x).1=blW from rfl,jIw];rfl,decide_eq_false (show ¬ a < (blW,x).2 from Int.not_lt.mpr h1)]
  show (List.find? _ [(coW,y)]).map _=none
  rw [List.find?_cons,show ((jAW a b).lookup (coW,y).1).getD 0=b from by rw [show (coW,y).1=coW from rfl,jIx];rfl,decide_eq_false (show ¬ b < (coW,y).2 from Int.not_lt.mpr h2)]
  rfl
theorem set_b {a b v:Int}:jBh (jAW a b) blW v=jAW v b:=by
  unfold jBh jAW
  rw [List.map_cons,List.map_cons,if_pos rfl,if_neg (Ne.symm blco)]
  rfl
theorem set_c {a b v:Int}:jBh (jAW a b) coW v=jAW a v:=by
  unfold jBh jAW
  rw [List.map_cons,List.map_cons,if_neg blco,if_pos rfl]
  rfl
theorem jL4 {s a b x y:Int}:jBX s (jAW a b) (jAW x y)=jAW (a + s * x) (b + s * y):=by
  show jBh (jBh (jAW a b) blW (((jAW a b).lookup blW).getD 0 + s * x)) coW (((jBh (jAW a b) blW (((jAW a b).lookup blW).getD 0 + s * x)).lookup coW).getD 0 + s * y)=_
  rw [jIw]
  show jBh (jBh (jAW a b) blW (a + s * x)) coW (((jBh (jAW a b) blW (a + s * x)).lookup coW).getD 0 + s * y)=_
  rw [set_b,jIx]
  exact set_c
theorem jAO.trays {cP cS cR cJ cA:Addr} {H H':Hp} {x:Addr} {d:PD} {am':List (Str×Int)} (h:jAO cP cS cR cJ cA H x d) (kp:∀ b o,b≠d.tr2→H b=some o→H' b=some o) (S:jC0 cS H' d.tr d.tr1 d.tr2 d.rs am') (k:am'.map (·.1)=d.rs.map (·.1)) (l:am'.length≤900):jAO cP cS cR cJ cA H' x { d with am:=am' }:=by
  obtain ⟨⟨di,hi⟩,h1,h2,n⟩:=id h.I
  have hm:=h.T.2.2.1
  have off:∀ b o,H b=some o→(∀ kv,o≠.dK kv)→H' b=some o:=fun b o e n=>kp b o (fun z=>by rw [z,hm] at e;injection e with e;exact n _ e.symm) e
  exact { o:=off _ _ h.o (by intro kv z;cases z),T:=S,I:=⟨⟨di,off _ _ hi (by intro kv z;cases z)⟩,kp _ _ (Ne.symm h.n21) h1,kp _ _ (Ne.symm h.n22) h2,n⟩,s:=let ⟨ds,e⟩:=h.s;⟨ds,off _ _ e (by intro kv z;cases z)⟩,n:=off _ _ h.n (by intro kv z;cases z),ka:=k,la:=l,lt:=h.lt,n22:=h.n22,n21:=h.n21,n12:=h.n12 }
theorem jAO.inks {cP cS cR cJ cA:Addr} {H H':Hp} {x:Addr} {d:PD} {b' c':Int} (h:jAO cP cS cR cJ cA H x d) (kp:∀ b o,b≠d.ik2→H b=some o→H' b=some o) (S:jC0 cS H' d.ik d.ik1 d.ik2 (jAW d.rb d.rc) (jAW b' c')):jAO cP cS cR cJ cA H' x { d with b:=b',c:=c' }:=by
  obtain ⟨⟨di,hi⟩,h1,h2,n⟩:=id h.T
  have hm:=h.I.2.2.1
  have off:∀ b o,H b=some o→(∀ kv,o≠.dK kv)→H' b=some o:=fun b o e n=>kp b o (fun z=>by rw [z,hm] at e;injection e with e;exact n _ e.symm) e
  exact { o:=off _ _ h.o (by intro kv z;cases z),T:=⟨⟨di,off _ _ hi (by intro kv z;cases z)⟩,kp _ _ h.n12 h1,kp _ _ h.n22 h2,n⟩,I:=S,s:=let ⟨ds,e⟩:=h.s;⟨ds,off _ _ e (by intro kv z;cases z)⟩,n:=off _ _ h.n (by intro kv z;cases z),ka:=h.ka,la:=h.la,lt:=h.lt,n22:=h.n22,n21:=h.n21,n12:=h.n12 }
theorem jAO.inside {cP cS cR cJ cA:Addr} {H H':Hp} {x:Addr} {d:PD} {ts:List V} (h:jAO cP cS cR cJ cA H x d) (kp:∀ b o,b≠d.ins→H b=some o→H' b=some o) (hn:H' d.ins=some (.lst ts)) (l:ts.length≤900):jAO cP cS cR cJ cA H' x { d with tags:=ts }:=by
  have off:∀ b o,H b=some o→(∀ xs,o≠.lst xs)→H' b=some o:=fun b o e n=>kp b o (fun z=>by rw [z,h.n] at e;injection e with e;exact n _ e.symm) e
  obtain ⟨⟨di,hi⟩,h1,h2,n⟩:=id h.T
  obtain ⟨⟨di',hi'⟩,h1',h2',n'⟩:=id h.I
  exact { o:=off _ _ h.o (by intro kv z;cases z),T:=⟨⟨di,off _ _ hi (by intro kv z;cases z)⟩,off _ _ h1 (by intro kv z;cases z),off _ _ h2 (by intro kv z;cases z),n⟩,I:=⟨⟨di',off _ _ hi' (by intro kv z;cases z)⟩,off _ _ h1' (by intro kv z;cases z),off _ _ h2' (by intro kv z;cases z),n'⟩,s:=let ⟨ds,e⟩:=h.s;⟨ds,off _ _ e (by intro kv z;cases z)⟩,n:=hn,ka:=h.ka,la:=h.la,lt:=l,n22:=h.n22,n21:=h.n21,n12:=h.n12 }
noncomputable def jFs (cP cS cR cJ cA:Addr):Sp:=fun vs H Q _=>∃ x d n k R A,vs=[.ref x,.str n,.int k]∧jAO cP cS cR cJ cA H x d∧d.rs.lookup n=some R∧d.am.lookup n=some A∧A + k≤R∧∀ H',(∀ b o,b≠d.tr2→H b=some o→H' b=some o)→jAO cP cS cR cJ cA H' x { d with am:=jBh d.am n (A + k) }→Q .non H'
theorem jIy:jAn ["self","kind","many"] ["self","kind","many"] (jAb jB_):=⟨rfl,rfl,rfl,by decide +kernel,rfl,by decide +kernel,by decide +kernel⟩
theorem jIz (F:Fun K "load" "Printer.load" jB_ fa fd) (T:Txt K mg yQ yZ yX yY yV yJ yW yU yK yG cQ cZ cV cK cG vQ vZ vX vY) (D_Stock_put:MtE P w K mg base 6 "put" cQ ["self","name","many"] (jIr cQ cV cG)) :
    jAh P w K mg base (CXe P w) 7 fa fd ["self","kind","many"] (jFs cZ cQ yJ yW yU):=by
  refine F.okE jIy (fun vs H Q E h=>?_) (fun cdv A outer s H vs Q E hr h=>?_)
  · obtain ⟨x,d,n,k,R,A,rfl,_⟩:=h
    rfl
  obtain ⟨x,d,n,k,R,A,rfl,P,lr,la,le,q⟩:=h
  refine ⟨_,(jAf (jAN (jAU 6 jAx (hr.mono (by decide)) (jAs (pv 0) rfl) (jAa (pv 1) (jAa (pv 2) jAe))))),?_⟩
  obtain ⟨⟨dt,ht⟩,_⟩:=id P.T
  refine ⟨_,rfl,x,cZ,d.dx,_,_,rfl,P.o,T.cl_Printer,T.n_Printer_trays,rfl,?_⟩
  refine ⟨d.tr,_,dt,_,_,_,rfl,ht,rfl,T.cl_Stock,D_Stock_put,_,rfl,_,rfl,d.tr,d.tr1,d.tr2,d.rs,d.am,n,k,rfl,P.T,P.ka,by have:=P.la;omega,fun n' h ea H1 sm g=>?_,fun n' h h2 ea H1 sm g=>?_,fun h h2 H1 kp S1=>?_⟩
  · rw [jHP lr] at h
    cases h
  · rw [jNC lr la,if_neg (by omega)] at h2
    cases h2
  · rw [jL3 la,Int.one_mul] at S1
    exact q H1 kp (P.trays kp S1 (by rw [jHa];exact P.ka) (by unfold jBh;rw [List.length_map];exact P.la))
noncomputable def jFt (cP cS cR cJ cA:Addr):Sp:=fun vs H Q _=>∃ x d y z,vs=[.ref x,.int y,.int z]∧jAO cP cS cR cJ cA H x d∧d.b + y≤d.rb∧d.c + z≤d.rc∧∀ H',(∀ b o,b≠d.ik2→H b=some o→H' b=some o)→jAO cP cS cR cJ cA H' x { d with b:=d.b + y,c:=d.c + z }→Q .non H'
theorem jJS {H:Hp} {l t1 t2:Addr} {y z:Int} (hl:H l=some (.lst [.ref t1,.ref t2])) (h1:H t1=some (.tup [.str blW,.int y])) (h2:H t2=some (.tup [.str coW,.int z])):jHw H l (jAW y z):=by
  refine ⟨_,hl,rfl,fun i v g e1 e2=>?_⟩
  match i,e1,e2 with
  | 0,e1,e2 =>
    obtain rfl:=Option.some.inj e1
    obtain rfl:=Option.some.inj e2
    exact ⟨t1,rfl,h1⟩
  | 1,e1,e2 =>
    obtain rfl:=Option.some.inj e1
    obtain rfl:=Option.some.inj e2
    exact ⟨t2,rfl,h2⟩
theorem jIA:jAn ["self","black","coloured"] ["self","black","coloured"] (jAb jCa):=⟨rfl,rfl,rfl,by decide +kernel,rfl,by decide +kernel,by decide +kernel⟩
theorem jIB (F:Fun K "fill" "Printer.fill" jCa fa fd) (T:Txt K mg yQ yZ yX yY yV yJ yW yU yK yG cQ cZ cV cK cG vQ vZ vX vY) (D_Stock_put_all:MtE P w K mg base 5 "put_all" cQ ["self","gifts"] (jEz cQ cV cG 1 jBT)) :
    jAh P w K mg base (CXe P w) 6 fa fd ["self","black","coloured"] (jFt cZ cQ yJ yW yU):=by
  refine F.okE jIA (fun vs H Q E h=>?_) (fun cdv A outer s H vs Q E hr h=>?_)
  · obtain ⟨x,d,y,z,rfl,_⟩:=h
    rfl
  obtain ⟨x,d,y,z,rfl,P,l1,l2,q⟩:=h
  have z2:2≤sizeLine:=small (by decide)
  refine ⟨_,(jAf (jAN (jAU 5 jAx (hr.mono (by decide)) (jAs (pv 0) rfl) (jAa (jAZ (jAa (jAV (jAa (jDO T.BLACK rfl) (jAa (pv 1) jAe))) (jAa (jAV (jAa (jDO T.COLOUR rfl) (jAa (pv 2) jAe))) jAe))) jAe)))),?_⟩
  obtain ⟨⟨dt,ht⟩,_⟩:=id P.I
  refine ⟨_,rfl,x,cZ,d.dx,_,_,rfl,P.o,T.cl_Printer,T.n_Printer_inks,rfl,?_⟩
  refine ⟨d.ik,_,dt,_,_,_,rfl,ht,rfl,T.cl_Stock,D_Stock_put_all,_,rfl,z2,fun t1 nt1=>?_⟩
  have s1:=jAl nt1 (.tup [.str blW,.int y])
  have h1:upd H t1 (.tup [.str blW,.int y]) t1=some (.tup [.str blW,.int y]):=jAc
  generalize upd H t1 (.tup [.str blW,.int y])=H1 at s1 h1 ⊢
  refine ⟨_,rfl,z2,fun t2 nt2=>?_⟩
  have s2:=jAl nt2 (.tup [.str coW,.int z])
  have h2:upd H1 t2 (.tup [.str coW,.int z]) t2=some (.tup [.str coW,.int z]):=jAc
  generalize upd H1 t2 (.tup [.str coW,.int z])=H2 at s2 h2 ⊢
  refine ⟨z2,fun l nl=>?_⟩
  have s3:=jAl nl (.lst [.ref t1,.ref t2])
  have hl:upd H2 l (.lst [.ref t1,.ref t2]) l=some (.lst [.ref t1,.ref t2]):=jAc
  generalize upd H2 l (.lst [.ref t1,.ref t2])=H3 at s3 hl ⊢
  have s03:=(s1.trans s2).trans s3
  have P3:=P.same s03
  refine ⟨d.ik,d.ik1,d.ik2,l,_,_,jAW y z,rfl,P3.I,rfl,by show 2≤1000;decide,jAD hl P3.I.2.2.1 (by intro z;cases z),jJS hl ((s2.trans s3) _ _ h1) (s3 _ _ h2),fun n h=>?_,fun n h h2=>?_,fun h h2 H4 kp S4=>?_⟩
  · rw [jHQ] at h
    cases h
  · rw [jND l1 l2] at h2
    cases h2
  · rw [jL4,Int.one_mul,Int.one_mul] at S4
    exact q H4 (fun b o nb e=>kp b o nb (s03 _ _ e)) (P3.inks kp S4)
noncomputable def jDF (cP cS cR cJ cA:Addr):Sp:=fun vs H Q _=>∃ x d,vs=[.ref x]∧jAO cP cS cR cJ cA H x d∧∀ l H',(∀ b o,b≠d.ins→H b=some o→H' b=some o)→H l=none→H' l=some (.lst (d.tags.take 1))→jAO cP cS cR cJ cA H' x { d with tags:=d.tags.drop 1 }→Q (.ref l) H'
theorem jHJ:jAn ["self"] ["self"] (jAb jBH):=⟨rfl,rfl,rfl,by decide +kernel,rfl,by decide +kernel,by decide +kernel⟩
theorem jHK (F:Fun K "oldest" "Printer.oldest" jBH fa fd) (T:Txt K mg yQ yZ yX yY yV yJ yW yU yK yG cQ cZ cV cK cG vQ vZ vX vY)  :
    jAh P w K mg base CX0 1 fa fd ["self"] (jDF cZ cQ yJ yW yU):=by
  refine F.ok jHJ (fun vs H Q E h=>?_) (fun cdv A outer s H vs Q E hr h=>?_)
  · obtain ⟨x,d,rfl,_⟩:=h
    rfl
  obtain ⟨x,d,rfl,P,q⟩:=h
  have z1:1≤sizeLine:=small (by decide)
  refine ⟨_,(jAf (jAp (jDw (jAQ (jAs (pv 0) rfl) (fun _=>rfl)) (jAZ (jAa (jKi PySem.F.plainAttrs_list PySem.F.slot_list_pop PySem.F.type_list_pop jNo (jAs (pv 0) rfl) (jAa jAg jAe)) jAe)) (jAZ jAe)))),?_⟩
  refine ⟨_,rfl,x,cZ,d.dx,_,_,rfl,P.o,T.cl_Printer,T.n_Printer_inside,rfl,?_⟩
  cases et:d.tags with
  | nil =>
    refine ⟨false,.inl ⟨_,SqL.of P.n,by rw [et];rfl⟩,jAT ⟨Nat.zero_le _,fun l nl=>?_⟩⟩
    have s:=jAl nl (.lst [])
    refine q l _ (fun b o _ e=>s _ _ e) nl (by rw [jAc,et];rfl) ?_
    have P':=P.same s
    have e:({ d with tags:=d.tags.drop 1 }:PD)=d:=by
      rw [et]
      show ({ d with tags:=[] }:PD)=d
      rw [← et]
    rw [e]
    exact P'
  | cons t r =>
    refine ⟨true,.inl ⟨_,SqL.of P.n,by rw [et];rfl⟩,jA6 ?_⟩
    refine ⟨_,rfl,x,cZ,d.dx,_,_,rfl,P.o,T.cl_Printer,T.n_Printer_inside,rfl,.inl ⟨rfl,_,SqL.of P.n⟩,d.ins,_,0,0,t,rfl,rfl,P.n,by decide,by decide,?_,by rw [et];rfl,z1,fun l nl=>?_⟩
    · rw [et]
      exact seqIndex_of (by decide) (by show (0:Int) < ((r.length + 1:Nat):Int);omega)
    have kp:∀ b o,b≠d.ins→H b=some o→upd H d.ins (.lst (d.tags.eraseIdx 0)) b=some o:=fun b o nb e=>by rw [jAi nb];exact e
    have hi:upd H d.ins (.lst (d.tags.eraseIdx 0)) d.ins=some (.lst r):=by rw [jAc,et];rfl
    have nl0:H l=none:=by
      have ne:l≠d.ins:=fun z=>by rw [z,hi] at nl;cases nl
      rw [jAi ne] at nl
      exact nl
    generalize upd H d.ins (.lst (d.tags.eraseIdx 0))=H1 at kp hi nl ⊢
    have s:=jAl nl (.lst [t])
    have P1:=(P.inside kp hi (by have:=P.lt;rw [et] at this;exact Nat.le_of_succ_le this)).same s
    refine q l _ (fun b o nb e=>s _ _ (kp b o nb e)) nl0 (by rw [jAc,et];rfl) ?_
    rw [et]
    exact P1
noncomputable def jEC (cN cP cS cR cJ cA:Addr):Sp:=fun vs H Q E=>∃ x d,vs=[.ref x]∧jAO cP cS cR cJ cA H x d∧(d.S=.rd→∀ l H',(∀ b o,b≠d.ins→H b=some o→H' b=some o)→H l=none→H' l=some (.lst (d.tags.take 1))→jAO cP cS cR cJ cA H' x { d with tags:=d.tags.drop 1 }→Q (.ref l) H')∧(d.S≠.rd→jDE cN "found" (.str (wd d.S)) H E)
theorem jIC:jAn ["self"] ["self"] (jAb jCc):=⟨rfl,rfl,rfl,by decide +kernel,rfl,by decide +kernel,by decide +kernel⟩
theorem jID (F:Fun K "push" "Printer.push" jCc fa fd) (T:Txt K mg yQ yZ yX yY yV yJ yW yU yK yG cQ cZ cV cK cG vQ vZ vX vY) (D_Printer_must_be_ready:MtE P w K mg base 3 "must_be_ready" cZ ["self"] (jEB cK cZ cQ yJ yW yU)) (D_Printer_oldest:MtE P w K mg base 1 "oldest" cZ ["self"] (jDF cZ cQ yJ yW yU)) :
    jAh P w K mg base (CXe P w) 4 fa fd ["self"] (jEC cK cZ cQ yJ yW yU):=by
  refine F.okE jIC (fun vs H Q E h=>?_) (fun cdv A outer s H vs Q E hr h=>?_)
  · obtain ⟨x,d,rfl,_⟩:=h
    rfl
  obtain ⟨x,d,rfl,P,q,q2⟩:=h
  refine ⟨_,(jAd (jAN (jAv 3 jAx (hr.mono (by decide)) (pv 0)))
  (jAf (jAp (jAv 1 jAx (hr.mono (by decide)) (pv 0))))),?_⟩
  refine ⟨_,rfl,x,_,d.dx,_,_,_,rfl,P.o,rfl,T.cl_Printer,D_Printer_must_be_ready,x,d,rfl,P,fun rd=>?_,q2⟩
  exact ⟨_,rfl,x,_,d.dx,_,_,_,rfl,P.o,rfl,T.cl_Printer,D_Printer_oldest,x,d,rfl,P,q rd⟩
noncomputable def fedD (d:PD) (n:Str) (A y z:Int) (tag:V):PD:={ d with am:=jBh d.am n (A - 1),b:=d.b - y,c:=d.c - z,tags:=d.tags ++ [tag] }
noncomputable def jFu (cN cP cS cR cJ cA:Addr):Sp:=fun vs H Q E=>∃ x d tag n y z A,vs=[.ref x,tag,.str n,.int y,.int z]∧jAO cP cS cR cJ cA H x d∧(d.S≠.rd→jDE cN "found" (.str (wd d.S)) H E)∧d.am.lookup n=some A∧1≤A∧y≤d.b∧z≤d.c∧d.tags.length≤800 ∧
  (d.S=.rd→∀ l H',(∀ b o,b≠d.ins→b≠d.tr2→b≠d.ik2→H b=some o→H' b=some o)→H l=none→H' l=some (.lst (if d.path < ((d.tags.length + 1:Nat):Int) then (d.tags ++ [tag]).take 1 else []))→jAO cP cS cR cJ cA H' x { fedD d n A y z tag with tags:=if d.path < ((d.tags.length + 1:Nat):Int) then (d.tags ++ [tag]).drop 1 else d.tags ++ [tag] }→Q (.ref l) H')
theorem jIE:jAn ["self","tag","kind","black","coloured"] ["self","tag","kind","black","coloured"] (jAb jCb):=⟨rfl,rfl,rfl,by decide +kernel,rfl,by decide +kernel,by decide +kernel⟩
theorem jIF (F:Fun K "feed" "Printer.feed" jCb fa fd) (T:Txt K mg yQ yZ yX yY yV yJ yW yU yK yG cQ cZ cV cK cG vQ vZ vX vY) (X_Dry:jCQ P w K mg base 1 "Dry" vQ ["self","name"] (jA8 vQ "name")) (D_Printer_must_be_ready:MtE P w K mg base 3 "must_be_ready" cZ ["self"] (jEB cK cZ cQ yJ yW yU)) (D_Printer_paper_left:MtE P w K mg base 5 "paper_left" cZ ["self","kind"] (jCm cZ cQ yJ yW yU)) (D_Stock_draw_all:MtE P w K mg base 5 "draw_all" cQ ["self","wants"] (jEz cQ cV vQ (-1) (fun _ am ws=>jBY am ws))) (D_Printer_oldest:MtE P w K mg base 1 "oldest" cZ ["self"] (jDF cZ cQ yJ yW yU)) :
    jAh P w K mg base (CXe P w) 6 fa fd ["self","tag","kind","black","coloured"] (jFu cK cZ cQ yJ yW yU):=by
  refine F.okE jIE (fun vs H Q E h=>?_) (fun cdv A outer s H vs Q E hr h=>?_)
  · obtain ⟨x,d,tag,n,y,z,A,rfl,_⟩:=h
    rfl
  obtain ⟨x,d,tag,n,y,z,A,rfl,P,qn,la,A1,yb,zc,lt,q⟩:=h
  have z1:1≤sizeLine:=small (by decide)
  have z2:2≤sizeLine:=small (by decide)
  refine ⟨_,(jAd (jAN (jAv 3 jAx (hr.mono (by decide)) (pv 0)))
  (jAd (jAJ (jAu jHm (jAU 5 jAx (hr.mono (by decide)) (pv 0) (jAa (pv 2) jAe)) jAg (jAw _)) (jAf (jBB jBp rfl (jBo X_Dry (hr.mono (by decide)) rfl (jAa (pv 2) jAe)))) jAz)
  (jAd (jAN (jAU 5 jAx (hr.mono (by decide)) (jAs (pv 0) rfl) (jAa (jAZ (jAa (jAV (jAa (jDO T.BLACK rfl) (jAa (pv 3) jAe))) (jAa (jAV (jAa (jDO T.COLOUR rfl) (jAa (pv 4) jAe))) jAe))) jAe)))
  (jAd (jAN (jAU 5 jAx (hr.mono (by decide)) (jAs (pv 0) rfl) (jAa (jAZ (jAa (jAV (jAa (pv 2) (jAa jAg jAe))) jAe)) jAe)))
  (jAd (jAN (jKi PySem.F.plainAttrs_list PySem.F.slot_list_append PySem.F.type_list_append jJF (jAs (pv 0) rfl) (jAa (pv 1) jAe)))
  (jAf (jAp (jDw (jAu jHn (jAP jAS rfl T.len PySem.boot_len (jAa (jAs (pv 0) rfl) jAe)) (jAs (pv 0) rfl) (jAw _)) (jAv 1 jAx (hr.mono (by decide)) (pv 0)) (jAZ jAe))))))))),?_⟩
  refine ⟨_,rfl,x,_,d.dx,_,_,_,rfl,P.o,rfl,T.cl_Printer,D_Printer_must_be_ready,x,d,rfl,P,fun rd=>?_,qn⟩
  replace q:=q rd
  refine ⟨_,rfl,x,_,d.dx,_,_,_,rfl,P.o,rfl,T.cl_Printer,D_Printer_paper_left,_,rfl,x,d,n,A,rfl,P,la,?_⟩
  refine ⟨_,_,rfl,rfl,_,rfl,jBy (by omega) ?_⟩
  obtain ⟨⟨di,hi⟩,_⟩:=id P.I
  refine ⟨_,rfl,x,cZ,d.dx,_,_,rfl,P.o,T.cl_Printer,T.n_Printer_inks,rfl,?_⟩
  refine ⟨d.ik,_,di,_,_,_,rfl,hi,rfl,T.cl_Stock,D_Stock_draw_all,_,rfl,z2,fun t1 nt1=>?_⟩
  have s1:=jAl nt1 (.tup [.str blW,.int y])
  have h1:upd H t1 (.tup [.str blW,.int y]) t1=some (.tup [.str blW,.int y]):=jAc
  generalize upd H t1 (.tup [.str blW,.int y])=H1 at s1 h1 ⊢
  refine ⟨_,rfl,z2,fun t2 nt2=>?_⟩
  have s2:=jAl nt2 (.tup [.str coW,.int z])
  have h2:upd H1 t2 (.tup [.str coW,.int z]) t2=some (.tup [.str coW,.int z]):=jAc
  generalize upd H1 t2 (.tup [.str coW,.int z])=H2 at s2 h2 ⊢
  refine ⟨z2,fun l nl=>?_⟩
  have s3:=jAl nl (.lst [.ref t1,.ref t2])
  have hl:upd H2 l (.lst [.ref t1,.ref t2]) l=some (.lst [.ref t1,.ref t2]):=jAc
  generalize upd H2 l (.lst [.ref t1,.ref t2])=H3 at s3 hl ⊢
  have s03:=(s1.trans s2).trans s3
  have P3:=P.same s03
  refine ⟨d.ik,d.ik1,d.ik2,l,_,_,jAW y z,rfl,P3.I,rfl,by show 2≤1000;decide,jAD hl P3.I.2.2.1 (by intro z;cases z),jJS hl ((s2.trans s3) _ _ h1) (s3 _ _ h2),fun n h=>?_,fun n h h2=>?_,fun h h2 H4 kp4 S4=>?_⟩
  · rw [jHQ] at h
    cases h
  · rw [show (fun _ am ws=>jBY am ws) (jAW d.rb d.rc) (jAW d.b d.c) (jAW y z)=jBY (jAW d.b d.c) (jAW y z) from rfl,ink_few yb zc] at h2
    cases h2
  rw [jL4,show d.b + -1 * y=d.b - y by omega,show d.c + -1 * z=d.c - z by omega] at S4
  have P4:=P3.inks kp4 S4
  obtain ⟨⟨dt,ht4⟩,_⟩:=id P4.T
  refine ⟨_,rfl,x,cZ,d.dx,_,_,rfl,P4.o,T.cl_Printer,T.n_Printer_trays,rfl,?_⟩
  refine ⟨d.tr,_,dt,_,_,_,rfl,ht4,rfl,T.cl_Stock,D_Stock_draw_all,_,rfl,z2,fun t3 nt3=>?_⟩
  have s5:=jAl nt3 (.tup [.str n,.int 1])
  have h5:upd H4 t3 (.tup [.str n,.int 1]) t3=some (.tup [.str n,.int 1]):=jAc
  generalize upd H4 t3 (.tup [.str n,.int 1])=H5 at s5 h5 ⊢
  refine ⟨z1,fun l2 nl2=>?_⟩
  have s6:=jAl nl2 (.lst [.ref t3])
  have hl2:upd H5 l2 (.lst [.ref t3]) l2=some (.lst [.ref t3]):=jAc
  generalize upd H5 l2 (.lst [.ref t3])=H6 at s6 hl2 ⊢
  have P6:=P4.same (s5.trans s6)
  have hm6:H6 d.tr2=some (.dK (dI d.am)):=P6.T.2.2.1
  have G6:jHw H6 l2 [(n,1)]:=by
    refine ⟨_,hl2,rfl,fun i v g e1 e2=>?_⟩
    match i,e1,e2 with
    | 0,e1,e2 =>
      obtain rfl:=Option.some.inj e1
      obtain rfl:=Option.some.inj e2
      exact ⟨t3,rfl,s6 _ _ h5⟩
  refine ⟨d.tr,d.tr1,d.tr2,l2,d.rs,d.am,[(n,1)],rfl,P6.T,P.ka,by have:=P.la;omega,jAD hl2 hm6 (by intro z;cases z),G6,fun n' h=>?_,fun n' h h2=>?_,fun h h2 H7 kp7 S7=>?_⟩
  · obtain ⟨R,eR⟩:∃ R,d.rs.lookup n=some R:=by
      cases l:d.rs.lookup n with
      | some v=>exact ⟨v,rfl⟩
      | none=>exact absurd (jKX P.ka la) (jFX l)
    rw [jHP eR] at h
    cases h
  · rw [show (fun _ am ws=>jBY am ws) d.rs d.am [(n,1)]=jBY d.am [(n,1)] from rfl,few_one la,if_neg (by omega)] at h2
    cases h2
  rw [jL3 la,show A + -1 * 1=A - 1 by omega] at S7
  have P7:jAO cZ cQ yJ yW yU H7 x { d with am:=jBh d.am n (A - 1),b:=d.b - y,c:=d.c - z }:=P6.trays kp7 S7 (by rw [jHa];exact P.ka) (by unfold jBh;rw [List.length_map];exact P.la)
  have hi7:H7 d.ins=some (.lst d.tags):=P7.n
  refine ⟨_,rfl,x,cZ,d.dx,_,_,rfl,P7.o,T.cl_Printer,T.n_Printer_inside,rfl,.inl ⟨rfl,_,SqL.of hi7⟩,_,rfl,d.ins,_,_,rfl,rfl,hi7,jBb (by show d.tags.length≤1000;omega),?_⟩
  have kp8:∀ b o,b≠d.ins→H7 b=some o→upd H7 d.ins (.lst (d.tags ++ [tag])) b=some o:=fun b o nb e=>by rw [jAi nb];exact e
  have hi8:upd H7 d.ins (.lst (d.tags ++ [tag])) d.ins=some (.lst (d.tags ++ [tag])):=jAc
  generalize upd H7 d.ins (.lst (d.tags ++ [tag]))=H8 at kp8 hi8 ⊢
  have P8:jAO cZ cQ yJ yW yU H8 x (fedD d n A y z tag):=P7.inside kp8 hi8 (by rw [List.length_append];show d.tags.length + 1≤900;omega)
  have fr:∀ b o,b≠d.ins→b≠d.tr2→b≠d.ik2→H b=some o→H8 b=some o:=fun b o b1 b2 b3 e=>kp8 b o b1 (kp7 b o b2 ((s5.trans s6) b o (kp4 b o b3 (s03 b o e))))
  have ll:(d.tags ++ [tag]).length=d.tags.length + 1:=by rw [List.length_append];rfl
  refine ⟨_,rfl,x,cZ,d.dx,_,_,rfl,P8.o,T.cl_Printer,T.n_Printer_inside,rfl,d.ins,_,rfl,.inl (SqL.of hi8),_,rfl,x,cZ,d.dx,_,_,rfl,P8.o,T.cl_Printer,T.n_Printer_path,rfl,_,_,rfl,rfl,_,rfl,?_⟩
  have back:∀ l,H8 l=none→H l=none:=fun l nl=>by
    cases e:H l with
    | none=>rfl
    | some o =>
      by_cases c1:l=d.ins
      · rw [c1,hi8] at nl
        cases nl
      by_cases c2:l=d.tr2
      · rw [c2,show H8 d.tr2=_ from P8.T.2.2.1] at nl
        cases nl
      by_cases c3:l=d.ik2
      · rw [c3,show H8 d.ik2=_ from P8.I.2.2.1] at nl
        cases nl
      rw [fr l o c1 c2 c3 e] at nl
      cases nl
  refine jCi (fun c=>?_) (fun c=>?_)
  · have c':d.path < ((d.tags.length + 1:Nat):Int):=by
      have:=of_decide_eq_true c
      rwa [ll] at this
    rw [if_pos c',if_pos c'] at q
    exact ⟨_,rfl,x,_,d.dx,_,_,_,rfl,P8.o,rfl,T.cl_Printer,D_Printer_oldest,x,fedD d n A y z tag,rfl,P8,fun l H9 kp9 nl hl9 P9=>q l H9 (fun b o b1 b2 b3 e=>kp9 b o b1 (fr b o b1 b2 b3 e)) (back l nl) hl9 P9⟩
  · have c':¬ d.path < ((d.tags.length + 1:Nat):Int):=fun z=>c (decide_eq_true (by rw [ll];exact z))
    rw [if_neg c',if_neg c'] at q
    refine ⟨Nat.zero_le _,fun l nl=>?_⟩
    have s9:=jAl nl (.lst [])
    exact q l _ (fun b o b1 b2 b3 e=>s9 _ _ (fr b o b1 b2 b3 e)) (back l nl) jAc (P8.same s9)
end
end My
namespace My
open PySem L2
open Blk (sg sg_inj sg_app)
section
variable {P:Program} {w:World} {K:PySem.W.Frag} {mg:Str→Option Value} {base:Heap} {fa yQ yZ yX yY yV yJ yW yU yK yG cQ cZ cV cK cG vQ vZ vX vY:Addr} {fd:FuncData}
noncomputable abbrev wiW:Str:=Str.ofString "within"
theorem jFZ {d:PD} {st:Addr}:jBi "state" (.ref st) d.fs=({ d with st:=st }:PD).fs:=by
  unfold PD.fs
  repeat (rw [show ∀ (g:Str) (u v:V) (r:List (Str×V)),jBi "state" v ((g,u) :: r)=if g="state" then (g,v) :: r else (g,u) :: jBi "state" v r from fun _ _ _ _=>rfl];first | rw [if_pos rfl] | rw [if_neg (by decide +kernel)])
theorem jIG {d:PD} {il:Addr}:jBi "inside" (.ref il) d.fs=({ d with ins:=il }:PD).fs:=by
  unfold PD.fs
  repeat (rw [show ∀ (g:Str) (u v:V) (r:List (Str×V)),jBi "inside" v ((g,u) :: r)=if g="inside" then (g,v) :: r else (g,u) :: jBi "inside" v r from fun _ _ _ _=>rfl];first | rw [if_pos rfl] | rw [if_neg (by decide +kernel)])
theorem jAO.turned {cP cS cR cJ cA:Addr} {H H':Hp} {x st il:Addr} {S:S3} {ts:List V} {d:PD} (h:jAO cP cS cR cJ cA H x d) (kp:∀ b o,b≠x→H b=some o→H' b=some o) (ho:H' x=some (.ins cP d.dx ({ d with st:=st,ins:=il }:PD).fs)) (hs:jFg cR cJ cA H' st S) (hn:H' il=some (.lst ts)) (l:ts.length≤900):jAO cP cS cR cJ cA H' x { d with st:=st,S:=S,ins:=il,tags:=ts }:=by
  obtain ⟨⟨di,hi⟩,h1,h2,n⟩:=id h.T
  obtain ⟨⟨di',hi'⟩,h1',h2',n'⟩:=id h.I
  have off:∀ b o,H b=some o→o≠.ins cP d.dx d.fs→H' b=some o:=fun b o e n=>kp b o (jAD e h.o n) e
  have two:∀ (c e:Addr) (u v:Str×V),HO.ins c e [u,v]≠.ins cP d.dx d.fs:=fun c e u v z=>by
    injection z with _ _ z
    have:=congrArg List.length z
    rw [show d.fs.length=8 from rfl] at this
    exact absurd (show 2=8 from this) (by decide)
  exact { o:=ho,T:=⟨⟨di,off _ _ hi (two _ _ _ _)⟩,off _ _ h1 (by intro z;cases z),off _ _ h2 (by intro z;cases z),n⟩,I:=⟨⟨di',off _ _ hi' (two _ _ _ _)⟩,off _ _ h1' (by intro z;cases z),off _ _ h2' (by intro z;cases z),n'⟩,s:=hs,n:=hn,ka:=h.ka,la:=h.la,lt:=l,n22:=h.n22,n21:=h.n21,n12:=h.n12 }
theorem jHx {P:Program} {w:World} {K:PySem.W.Frag} {mg:Str→Option Value} {base:Heap} {k1 k2 k3 k i:Nat} {m:Str} {cR cJ cA cN:Addr} {S1 S2 S3':S3→Prop} {H:Hp} {a:Addr} {s:S3} {Q:VK} {E:XK} (D1:MtE P w K mg base k1 m cR ["self"] (jAR cR cJ cA cN S1 i)) (D2:MtE P w K mg base k2 m cJ ["self"] (jAR cR cJ cA cN S2 i)) (D3:MtE P w K mg base k3 m cA ["self"] (jAR cR cJ cA cN S3' i))
    (l1:k1≤k) (l2:k2≤k) (l3:k3≤k) (h1:S1 .rd) (h2:S2 .jm) (h3:∀ b,S3' (.aw b)) (c1:Cls K cR) (c2:Cls K cJ) (c3:Cls K cA) (hm:∀ s,(jDt s).lookup m=none) (hs:jFg cR cJ cA H a s) (q:OutS cR cJ cA cN i s H Q E) :
    ∃ a' C dx fs ps sp,V.ref a=.ref a'∧H a'=some (.ins C dx fs)∧fs.lookup m=none∧Cls K C∧MtE P w K mg base k m C ps sp∧sp [.ref a] H Q E:=by
  obtain ⟨ds,e⟩:=id hs
  cases s with
  | rd=>exact ⟨a,_,ds,_,_,_,rfl,e,hm _,c1,D1.mono l1,a,.rd,rfl,h1,hs,q⟩
  | jm=>exact ⟨a,_,ds,_,_,_,rfl,e,hm _,c2,D2.mono l2,a,.jm,rfl,h2,hs,q⟩
  | aw b=>exact ⟨a,_,ds,_,_,_,rfl,e,hm _,c3,D3.mono l3,a,.aw b,rfl,h3 b,hs,q⟩
theorem jIH {cP cR cJ cA:Addr} {H:Hp} {x a:Addr} {s:S3} {d:PD} (h:jFg cR cJ cA H a s) (hx:H x=some (.ins cP d.dx d.fs)):a≠x:=by
  obtain ⟨ds,e⟩:=h
  refine jAD e hx fun z=>?_
  injection z with _ _ z
  have:=congrArg List.length z
  rw [show d.fs.length=8 from rfl] at this
  cases s with
  | rd=>exact absurd (show 1=8 from this) (by decide)
  | jm=>exact absurd (show 1=8 from this) (by decide)
  | aw b=>exact absurd (show 2=8 from this) (by decide)
noncomputable def jCH (i:Nat) (cN cP cS cR cJ cA:Addr):Sp:=fun vs H Q E=>∃ x d,vs=[.ref x]∧jAO cP cS cR cJ cA H x d∧(∀ s',jA5 i d.S=some s'→∀ st H',(∀ b o,b≠x→H b=some o→H' b=some o)→jAO cP cS cR cJ cA H' x { d with st:=st,S:=s' }→Q (.str (wd s')) H')∧(jA5 i d.S=none→jDE cN "found" (.str (wd d.S)) H E)
theorem jII:jAn ["self"] ["self"] (jAb jCd):=⟨rfl,rfl,rfl,by decide +kernel,rfl,by decide +kernel,by decide +kernel⟩
theorem jIJ (F:Fun K "mend" "Printer.mend" jCd fa fd) (T:Txt K mg yQ yZ yX yY yV yJ yW yU yK yG cQ cZ cV cK cG vQ vZ vX vY) (D_Ready_mend:MtE P w K mg base 3 "mend" yJ ["self"] (jAR yJ yW yU cK (fun s=>jA5 1 s=none) 1)) (D_Jammed_mend:MtE P w K mg base 4 "mend" yW ["self"] (jAR yJ yW yU cK (fun s=>s=.jm) 1)) (D_Away_mend:MtE P w K mg base 3 "mend" yU ["self"] (jAR yJ yW yU cK (fun s=>jA5 1 s=none) 1)) (D_Printer_stands:MtE P w K mg base 2 "stands" cZ ["self"] (jBN cZ cQ yJ yW yU)) :
    jAh P w K mg base (CXe P w) 5 fa fd ["self"] (jCH 1 cK cZ cQ yJ yW yU):=by
  refine F.okE jII (fun vs H Q E h=>?_) (fun cdv A outer s H vs Q E hr h=>?_)
  · obtain ⟨x,d,rfl,_⟩:=h
    rfl
  obtain ⟨x,d,rfl,P,q,q2⟩:=h
  refine ⟨_,(jAd (jAL (pv 0) (jAv 4 jAx (hr.mono (by decide)) (jAs (pv 0) rfl)) rfl)
  (jAf (jAp (jAv 2 jAx (hr.mono (by decide)) (pv 0))))),?_⟩
  refine ⟨_,rfl,x,cZ,d.dx,_,_,rfl,P.o,T.cl_Printer,T.n_Printer_state,rfl,?_⟩
  refine jHx D_Ready_mend D_Jammed_mend D_Away_mend (by decide) (by decide) (by decide) rfl rfl (fun _=>rfl) T.cl_Ready T.cl_Jammed T.cl_Away (fun s=>by cases s <;> rfl) P.s ⟨fun s' e p H1 sm _ sa=>?_,q2⟩
  have P1:=P.same sm
  refine ⟨_,rfl,x,cZ,d.dx,_,rfl,P1.o,T.cl_Printer,T.n_Printer_state,(by show 8 < 1000;decide),?_⟩
  rw [jFZ]
  have kp:∀ b o,b≠x→H b=some o→upd H1 x (.ins cZ d.dx ({ d with st:=p }:PD).fs) b=some o:=fun b o nb e=>by rw [jAi nb];exact sm _ _ e
  have P2:jAO cZ cQ yJ yW yU (upd H1 x (.ins cZ d.dx ({ d with st:=p }:PD).fs)) x { d with st:=p,S:=s' }:=by
    obtain ⟨ds,hs⟩:=sa
    exact jAO.turned (st:=p) (il:=d.ins) (S:=s') (ts:=d.tags) P kp jAc ⟨ds,by rw [jAi (jIH ⟨ds,hs⟩ P1.o)];exact hs⟩ (kp _ _ (jAD P.n P.o (by intro z;cases z)) P.n) P.lt
  exact ⟨_,rfl,x,_,d.dx,_,_,_,rfl,P2.o,rfl,T.cl_Printer,D_Printer_stands,x,_,rfl,P2,q s' e p _ kp P2⟩
theorem jIK:jAn ["self"] ["self"] (jAb jCe):=⟨rfl,rfl,rfl,by decide +kernel,rfl,by decide +kernel,by decide +kernel⟩
theorem jIL (F:Fun K "come" "Printer.come" jCe fa fd) (T:Txt K mg yQ yZ yX yY yV yJ yW yU yK yG cQ cZ cV cK cG vQ vZ vX vY) (D_Ready_come:MtE P w K mg base 3 "come" yJ ["self"] (jAR yJ yW yU cK (fun s=>jA5 3 s=none) 3)) (D_Jammed_come:MtE P w K mg base 3 "come" yW ["self"] (jAR yJ yW yU cK (fun s=>jA5 3 s=none) 3)) (D_Away_come:MtE P w K mg base 4 "come" yU ["self"] (jAR yJ yW yU cK (fun s=>∃ b,s=.aw b) 3)) (D_Printer_stands:MtE P w K mg base 2 "stands" cZ ["self"] (jBN cZ cQ yJ yW yU)) :
    jAh P w K mg base (CXe P w) 5 fa fd ["self"] (jCH 3 cK cZ cQ yJ yW yU):=by
  refine F.okE jIK (fun vs H Q E h=>?_) (fun cdv A outer s H vs Q E hr h=>?_)
  · obtain ⟨x,d,rfl,_⟩:=h
    rfl
  obtain ⟨x,d,rfl,P,q,q2⟩:=h
  refine ⟨_,(jAd (jAL (pv 0) (jAv 4 jAx (hr.mono (by decide)) (jAs (pv 0) rfl)) rfl)
  (jAf (jAp (jAv 2 jAx (hr.mono (by decide)) (pv 0))))),?_⟩
  refine ⟨_,rfl,x,cZ,d.dx,_,_,rfl,P.o,T.cl_Printer,T.n_Printer_state,rfl,?_⟩
  refine jHx D_Ready_come D_Jammed_come D_Away_come (by decide) (by decide) (by decide) rfl rfl (fun b=>⟨b,rfl⟩) T.cl_Ready T.cl_Jammed T.cl_Away (fun s=>by cases s <;> rfl) P.s ⟨fun s' e p H1 sm _ sa=>?_,q2⟩
  have P1:=P.same sm
  refine ⟨_,rfl,x,cZ,d.dx,_,rfl,P1.o,T.cl_Printer,T.n_Printer_state,(by show 8 < 1000;decide),?_⟩
  rw [jFZ]
  have kp:∀ b o,b≠x→H b=some o→upd H1 x (.ins cZ d.dx ({ d with st:=p }:PD).fs) b=some o:=fun b o nb e=>by rw [jAi nb];exact sm _ _ e
  have P2:jAO cZ cQ yJ yW yU (upd H1 x (.ins cZ d.dx ({ d with st:=p }:PD).fs)) x { d with st:=p,S:=s' }:=by
    obtain ⟨ds,hs⟩:=sa
    exact jAO.turned (st:=p) (il:=d.ins) (S:=s') (ts:=d.tags) P kp jAc ⟨ds,by rw [jAi (jIH ⟨ds,hs⟩ P1.o)];exact hs⟩ (kp _ _ (jAD P.n P.o (by intro z;cases z)) P.n) P.lt
  exact ⟨_,rfl,x,_,d.dx,_,_,_,rfl,P2.o,rfl,T.cl_Printer,D_Printer_stands,x,_,rfl,P2,q s' e p _ kp P2⟩
noncomputable def jE1 (cN cP cS cR cJ cA:Addr):Sp:=fun vs H Q E=>∃ x d,vs=[.ref x]∧jAO cP cS cR cJ cA H x d∧(∀ s',jA5 2 d.S=some s'→∀ st il H',(∀ b o,b≠x→H b=some o→H' b=some o)→H il=none→jAO cP cS cR cJ cA H' x { d with st:=st,S:=s',ins:=il,tags:=[] }→Q (.ref d.ins) H')∧(jA5 2 d.S=none→jDE cN "found" (.str (wd d.S)) H E)
theorem jFL:jAn ["self","lost"] ["self"] (jAb jBR):=⟨rfl,rfl,rfl,by decide +kernel,rfl,by decide +kernel,by decide +kernel⟩
theorem jH2 (F:Fun K "leave" "Printer.leave" jBR fa fd) (T:Txt K mg yQ yZ yX yY yV yJ yW yU yK yG cQ cZ cV cK cG vQ vZ vX vY) (D_Ready_leave:MtE P w K mg base 4 "leave" yJ ["self"] (jAR yJ yW yU cK (fun s=>s=.rd) 2)) (D_Jammed_leave:MtE P w K mg base 4 "leave" yW ["self"] (jAR yJ yW yU cK (fun s=>s=.jm) 2)) (D_Away_leave:MtE P w K mg base 3 "leave" yU ["self"] (jAR yJ yW yU cK (fun s=>jA5 2 s=none) 2)) :
    jAh P w K mg base (CXe P w) 5 fa fd ["self"] (jE1 cK cZ cQ yJ yW yU):=by
  refine F.okE jFL (fun vs H Q E h=>?_) (fun cdv A outer s H vs Q E hr h=>?_)
  · obtain ⟨x,d,rfl,_⟩:=h
    rfl
  obtain ⟨x,d,rfl,P,q,q2⟩:=h
  refine ⟨_,(jAd (jAL (pv 0) (jAv 4 jAx (hr.mono (by decide)) (jAs (pv 0) rfl)) rfl)
  (jAd (jAE (i:=1) jFL.nd rfl (by first | exact Or.inl rfl | exact Or.inr rfl) (jAs (pv 0) rfl))
  (jAd (jAL (pv 0) (jAZ jAe) rfl)
  (jAf (jAp (pv 1)))))),?_⟩
  refine ⟨_,rfl,x,cZ,d.dx,_,_,rfl,P.o,T.cl_Printer,T.n_Printer_state,rfl,?_⟩
  refine jHx D_Ready_leave D_Jammed_leave D_Away_leave (by decide) (by decide) (by decide) rfl rfl (fun _=>rfl) T.cl_Ready T.cl_Jammed T.cl_Away (fun s=>by cases s <;> rfl) P.s ⟨fun s' e p H1 sm _ sa=>?_,q2⟩
  have P1:=P.same sm
  refine ⟨_,rfl,x,cZ,d.dx,_,rfl,P1.o,T.cl_Printer,T.n_Printer_state,(by show 8 < 1000;decide),?_⟩
  rw [jFZ]
  have kp:∀ b o,b≠x→H b=some o→upd H1 x (.ins cZ d.dx ({ d with st:=p }:PD).fs) b=some o:=fun b o nb e=>by rw [jAi nb];exact sm _ _ e
  have ho:upd H1 x (.ins cZ d.dx ({ d with st:=p }:PD).fs) x=some (.ins cZ d.dx ({ d with st:=p }:PD).fs):=jAc
  have hs:jFg yJ yW yU (upd H1 x (.ins cZ d.dx ({ d with st:=p }:PD).fs)) p s':=by
    obtain ⟨ds,hs⟩:=sa
    exact ⟨ds,by rw [jAi (jIH ⟨ds,hs⟩ P1.o)];exact hs⟩
  generalize upd H1 x (.ins cZ d.dx ({ d with st:=p }:PD).fs)=H2 at kp ho hs ⊢
  refine ⟨_,rfl,x,cZ,d.dx,_,_,rfl,ho,T.cl_Printer,T.n_Printer_inside,rfl,?_⟩
  refine ⟨Nat.zero_le _,fun il nil'=>?_⟩
  have s3:=jAl nil' (.lst [])
  have h3:upd H2 il (.lst []) il=some (.lst []):=jAc
  generalize upd H2 il (.lst [])=H3 at s3 h3 ⊢
  refine ⟨_,rfl,x,cZ,d.dx,_,rfl,s3 _ _ ho,T.cl_Printer,T.n_Printer_inside,(by show 8 < 1000;decide),?_⟩
  rw [jIG]
  have kp4:∀ b o,b≠x→H b=some o→upd H3 x (.ins cZ d.dx ({ d with st:=p,ins:=il }:PD).fs) b=some o:=fun b o nb e=>by rw [jAi nb];exact s3 _ _ (kp b o nb e)
  have nil0:H il=none:=by
    cases e:H il with
    | none=>rfl
    | some o =>
      by_cases c:il=x
      · rw [c,ho] at nil';cases nil'
      · rw [kp il o c e] at nil';cases nil'
  have nix:il≠x:=Ne.symm (jAo ho nil')
  refine ⟨_,rfl,q s' e p il _ kp4 nil0 (jAO.turned (st:=p) (il:=il) (S:=s') (ts:=[]) P kp4 jAc ?_ (by rw [jAi nix];exact h3) (Nat.zero_le _))⟩
  obtain ⟨ds,hs⟩:=hs
  exact ⟨ds,by rw [jAi (jIH (d:={ d with st:=p }) ⟨ds,hs⟩ ho)];exact s3 _ _ hs⟩
noncomputable def jF1 (cN cT cP cS cR cJ cA:Addr):Sp:=fun vs H Q E=>∃ x d k,vs=[.ref x,.int (k:Nat)]∧jAO cP cS cR cJ cA H x d∧(d.S≠.rd→jDE cN "found" (.str (wd d.S)) H E)∧(d.S=.rd→d.tags.length < k→jDE cT "name" (.str wiW) H E) ∧
  (d.S=.rd→k≤d.tags.length→∀ t l1 l2 st il H',(∀ b o,b≠x→H b=some o→H' b=some o)→H il=none→H t=none→H' t=some (.tup [.ref l1,.ref l2])→H' l1=some (.lst (d.tags.take k))→H' l2=some (.lst (d.tags.drop k))→jAO cP cS cR cJ cA H' x { d with st:=st,S:=.jm,ins:=il,tags:=[] }→Q (.ref t) H')
theorem jD2:jAn ["self","saved","jammed","out","lost"] ["self","saved"] (jAb jCB):=⟨rfl,rfl,rfl,by decide +kernel,rfl,by decide +kernel,by decide +kernel⟩
theorem jJi (F:Fun K "jam" "Printer.jam" jCB fa fd) (T:Txt K mg yQ yZ yX yY yV yJ yW yU yK yG cQ cZ cV cK cG vQ vZ vX vY) (X_TooMuch:jCQ P w K mg base 1 "TooMuch" cG ["self","name"] (jA8 cG "name")) (D_Ready_jam:MtE P w K mg base 4 "jam" yJ ["self"] (jAR yJ yW yU cK (fun s=>s=.rd) 0)) (D_Jammed_jam:MtE P w K mg base 3 "jam" yW ["self"] (jAR yJ yW yU cK (fun s=>jA5 0 s=none) 0)) (D_Away_jam:MtE P w K mg base 3 "jam" yU ["self"] (jAR yJ yW yU cK (fun s=>jA5 0 s=none) 0)) :
    jAh P w K mg base (CXe P w) 5 fa fd ["self","saved"] (jF1 cK cG cZ cQ yJ yW yU):=by
  refine F.okE jD2 (fun vs H Q E h=>?_) (fun cdv A outer s H vs Q E hr h=>?_)
  · obtain ⟨x,d,k,rfl,_⟩:=h
    rfl
  obtain ⟨x,d,k,rfl,P,q1,q2,q⟩:=h
  refine ⟨_,(jAd (jAE (i:=2) jD2.nd rfl (by first | exact Or.inl rfl | exact Or.inr rfl) (jAv 4 jAx (hr.mono (by decide)) (jAs (pv 0) rfl)))
  (jAd (jAJ (jAu jHn (pv 1) (jAP jAS rfl T.len PySem.boot_len (jAa (jAs (pv 0) rfl) jAe)) (jAw _)) (jAf (jBB jBp rfl (jBo X_TooMuch (hr.mono (by decide)) rfl (jAa (jDO T.WITHIN rfl) jAe)))) jAz)
  (jAd (jAE (i:=3) jD2.nd rfl (by first | exact Or.inl rfl | exact Or.inr rfl) (jCI jGt (jAs (pv 0) rfl) jDa (jDb (pv 1))))
  (jAd (jAE (i:=4) jD2.nd rfl (by first | exact Or.inl rfl | exact Or.inr rfl) (jCI jGt (jAs (pv 0) rfl) (jDb (pv 1)) jDa))
  (jAd (jAL (pv 0) (jAZ jAe) rfl)
  (jAd (jAL (pv 0) (pv 2) rfl)
  (jAf (jAp (jAV (jAa (pv 3) (jAa (pv 4) jAe))))))))))),?_⟩
  refine ⟨_,rfl,x,cZ,d.dx,_,_,rfl,P.o,T.cl_Printer,T.n_Printer_state,rfl,?_⟩
  have nn:∀ s,jA5 0 s=none ↔ s≠.rd:=fun s=>by cases s with
    | rd=>exact ⟨fun z=>(by cases z),fun z=>absurd rfl z⟩
    | jm=>exact ⟨fun _ z=>(by cases z),fun _=>rfl⟩
    | aw b=>exact ⟨fun _ z=>(by cases z),fun _=>rfl⟩
  refine jHx D_Ready_jam D_Jammed_jam D_Away_jam (by decide) (by decide) (by decide) rfl rfl (fun _=>rfl) T.cl_Ready T.cl_Jammed T.cl_Away (fun s=>by cases s <;> rfl) P.s ⟨fun s' e p H1 sm np sa=>?_,fun e=>q1 ((nn _).mp e)⟩
  have P1:=P.same sm
  have rd:d.S=.rd:=Classical.byContradiction fun z=>by rw [(nn _).mpr z] at e;cases e
  rw [rd] at e
  obtain rfl:=Option.some.inj e
  refine ⟨_,rfl,_,rfl,x,cZ,d.dx,_,_,rfl,P1.o,T.cl_Printer,T.n_Printer_inside,rfl,d.ins,_,rfl,.inl (SqL.of P1.n),_,_,rfl,rfl,_,rfl,?_⟩
  refine jCi (fun c=>jBl T.x_TooMuch.m fun ea H' s1 _ g=>q2 rd (by have:=of_decide_eq_true c;omega) ea H' (sm.trans s1) g) (fun c=>?_)
  have hk:k≤d.tags.length:=Nat.not_lt.mp fun z=>c (decide_eq_true (by omega))
  refine ⟨_,rfl,x,cZ,d.dx,_,_,rfl,P1.o,T.cl_Printer,T.n_Printer_inside,rfl,?_⟩
  refine ⟨_,rfl,_,rfl,d.ins,_,rfl,SqL.of P1.n,fun l1 nl1=>?_⟩
  rw [jKM]
  have s2:=jAl nl1 (.lst (d.tags.take k))
  have h2:upd H1 l1 (.lst (d.tags.take k)) l1=some (.lst (d.tags.take k)):=jAc
  generalize upd H1 l1 (.lst (d.tags.take k))=H2 at s2 h2 ⊢
  have P2:=P1.same s2
  refine ⟨_,rfl,x,cZ,d.dx,_,_,rfl,P2.o,T.cl_Printer,T.n_Printer_inside,rfl,?_⟩
  refine ⟨_,rfl,_,rfl,d.ins,_,rfl,SqL.of P2.n,fun l2 nl2=>?_⟩
  rw [jKL]
  have s3:=jAl nl2 (.lst (d.tags.drop k))
  have h3:upd H2 l2 (.lst (d.tags.drop k)) l2=some (.lst (d.tags.drop k)):=jAc
  generalize upd H2 l2 (.lst (d.tags.drop k))=H3 at s3 h3 ⊢
  refine ⟨Nat.zero_le _,fun il nil'=>?_⟩
  have s4:=jAl nil' (.lst [])
  have h4:upd H3 il (.lst []) il=some (.lst []):=jAc
  generalize upd H3 il (.lst [])=H4 at s4 h4 ⊢
  have s14:=(s2.trans s3).trans s4
  have P4:=P1.same s14
  refine ⟨_,rfl,x,cZ,d.dx,_,rfl,P4.o,T.cl_Printer,T.n_Printer_inside,(by show 8 < 1000;decide),?_⟩
  rw [jIG]
  have kp5:∀ b o,b≠x→H4 b=some o→upd H4 x (.ins cZ d.dx ({ d with ins:=il }:PD).fs) b=some o:=fun b o nb e=>by rw [jAi nb];exact e
  have ho5:upd H4 x (.ins cZ d.dx ({ d with ins:=il }:PD).fs) x=some (.ins cZ d.dx ({ d with ins:=il }:PD).fs):=jAc
  generalize upd H4 x (.ins cZ d.dx ({ d with ins:=il }:PD).fs)=H5 at kp5 ho5 ⊢
  refine ⟨_,rfl,_,rfl,x,cZ,d.dx,_,rfl,ho5,T.cl_Printer,T.n_Printer_state,(by show 8 < 1000;decide),?_⟩
  rw [jFZ]
  have kp6:∀ b o,b≠x→H5 b=some o→upd H5 x (.ins cZ d.dx ({ d with ins:=il,st:=p }:PD).fs) b=some o:=fun b o nb e=>by rw [jAi nb];exact e
  have ho6:upd H5 x (.ins cZ d.dx ({ d with ins:=il,st:=p }:PD).fs) x=some (.ins cZ d.dx ({ d with ins:=il,st:=p }:PD).fs):=jAc
  generalize upd H5 x (.ins cZ d.dx ({ d with ins:=il,st:=p }:PD).fs)=H6 at kp6 ho6 ⊢
  have z2:2≤sizeLine:=small (by decide)
  refine ⟨_,rfl,_,rfl,z2,fun t nt=>?_⟩
  have s7:=jAl nt (.tup [.ref l1,.ref l2])
  have h7:upd H6 t (.tup [.ref l1,.ref l2]) t=some (.tup [.ref l1,.ref l2]):=jAc
  generalize upd H6 t (.tup [.ref l1,.ref l2])=H7 at s7 h7 ⊢
  have kq:∀ b o,b≠x→H4 b=some o→H7 b=some o:=fun b o nb e=>s7 _ _ (kp6 b o nb (kp5 b o nb e))
  have nx4:∀ l ys,H4 l=some (.lst ys)→l≠x:=fun l ys e=>jAD e P4.o (by intro z;cases z)
  have e1:=(s3.trans s4) _ _ h2
  have e2:=s4 _ _ h3
  refine q rd hk t l1 l2 p il H7 (fun b o nb e=>kq b o nb (s14 _ _ (sm _ _ e))) (sm.free ((s2.trans s3).free nil')) ?_ h7 (kq _ _ (nx4 _ _ e1) e1) (kq _ _ (nx4 _ _ e2) e2) ?_
  · cases e:H t with
    | none=>rfl
    | some o =>
      by_cases c:t=x
      · rw [c,ho6] at nt;cases nt
      · rw [kp6 t o c (kp5 t o c (s14 _ _ (sm _ _ e)))] at nt;cases nt
  · refine jAO.turned (st:=p) (il:=il) (S:=.jm) (ts:=[]) P4 kq (s7 _ _ ho6) ?_ (kq _ _ (nx4 _ _ h4) h4) (Nat.zero_le _)
    obtain ⟨ds,hs⟩:=id (sa.same s14)
    exact ⟨ds,kq _ _ (jIH (sa.same s14) P4.o) hs⟩
end
end My
namespace My
open PySem L2
open Blk (sg sg_inj sg_app)
section
variable {P:Program} {w:World} {K:PySem.W.Frag} {mg:Str→Option Value} {base:Heap} {fa yQ yZ yX yY yV yJ yW yU yK yG cQ cZ cV cK cG vQ vZ vX vY:Addr} {fd:FuncData}
noncomputable def jFv (cP cS cR cJ cA:Addr):Sp:=fun vs H Q _=>∃ (x dx cl pp:Addr) (nm:Str) (path rb rc:Int) (cs:List V) (rs:List (Str×Int)),vs=[.ref x,.str nm,.ref cl,.int path,.ref pp,.int rb,.int rc]∧H x=some (.ins cP dx [])∧H cl=some (.lst cs)∧H pp=some (.dK (dI rs))∧(rs.map (·.1)).Nodup∧rs.length≤900 ∧
  ∀ d H',(∀ b o,b≠x→H b=some o→H' b=some o)→jAO cP cS cR cJ cA H' x d→d.name=nm→d.path=path→d.rs=rs→d.am=rs.map (fun p=>(p.1,0))→d.rb=rb→d.rc=rc→d.b=0→d.c=0→d.tags=[]→d.S=.rd→H d.tr1=none→H d.tr2=none→H d.ik1=none→H d.ik2=none→H d.ins=none→Q .non H'
theorem jIM:jAn ["self","name","can","path","papers","black","colour"] ["self","name","can","path","papers","black","colour"] (jAb jB9):=⟨rfl,rfl,rfl,by decide +kernel,rfl,by decide +kernel,by decide +kernel⟩
theorem jIN (F:Fun K "__init__" "Printer.__init__" jB9 fa fd) (T:Txt K mg yQ yZ yX yY yV yJ yW yU yK yG cQ cZ cV cK cG vQ vZ vX vY) (M_Stock:MkD P w K mg base 1 "Stock" cQ ["self","rooms"] (jEa cQ)) (M_Ready:MkD P w K mg base 2 "Ready" yJ ["self"] (jDC yJ (jDt .rd))) :
    jAh P w K mg base CX0 4 fa fd ["self","name","can","path","papers","black","colour"] (jFv cZ cQ yJ yW yU):=by
  refine F.ok jIM (fun vs H Q E h=>?_) (fun cdv A outer s H vs Q E hr h=>?_)
  · obtain ⟨x,dx,cl,pp,nm,path,rb,rc,cs,rs,rfl,_⟩:=h
    rfl
  obtain ⟨x,dx,cl,pp,nm,path,rb,rc,cs,rs,rfl,hx,hcl,hpp,nd,lr,q⟩:=h
  refine ⟨_,(jAd (jAL (pv 0) (pv 1) rfl)
  (jAd (jAL (pv 0) (jC4 jJW rfl T.tuple jGI (jAa (pv 2) jAe)) rfl)
  (jAd (jAL (pv 0) (pv 3) rfl)
  (jAd (jAL (pv 0) (jC4 jGu rfl T.dict jI5 (jAa (pv 4) jAe)) rfl)
  (jAd (jAL (pv 0) (jDA M_Stock (hr.mono (by decide)) rfl (jAa (pv 4) jAe)) rfl)
  (jAd (jAL (pv 0) (jDA M_Stock (hr.mono (by decide)) rfl (jAa (jHt (jBu (jDO T.BLACK rfl) (pv 5) (jBu (jDO T.COLOUR rfl) (pv 6) jHs)) rfl rfl (by decide) (by decide)) jAe)) rfl)
  (jAd (jAL (pv 0) (jDB M_Ready (hr.mono (by decide)) rfl) rfl)
  (jAf (jAL (pv 0) (jAZ jAe) rfl))))))))),?_⟩
  have ncx:cl≠x:=jAD hcl hx (by intro z;cases z)
  have npx:pp≠x:=jAD hpp hx (by intro z;cases z)
  refine ⟨_,rfl,_,rfl,x,cZ,dx,_,rfl,hx,T.cl_Printer,T.n_Printer_name,(by show 0 < 1000;decide),?_⟩
  rw [jBg (by show ¬ ("name":Str)∈([]:List Str);decide +kernel),List.nil_append]
  have k1:∀ b o,b≠x→H b=some o→upd H x (.ins cZ dx [("name",V.str nm)]) b=some o:=fun b o nb e=>by rw [jAi nb];exact e
  have hx1:upd H x (.ins cZ dx [("name",V.str nm)]) x=some (.ins cZ dx [("name",V.str nm)]):=jAc
  generalize upd H x (.ins cZ dx [("name",V.str nm)])=H1 at k1 hx1 ⊢
  refine ⟨_,rfl,cl,_,rfl,.inl ⟨SqL.of (k1 _ _ ncx hcl),fun cn ncn=>?_⟩⟩
  have s2:=jAl ncn (.tup cs)
  generalize upd H1 cn (.tup cs)=H2 at s2 ⊢
  refine ⟨_,rfl,x,cZ,dx,_,rfl,s2 _ _ hx1,T.cl_Printer,T.n_Printer_can,(by show 1 < 1000;decide),?_⟩
  rw [jBg (by show ¬ ("can":Str)∈(["name"]:List Str);decide +kernel)]
  have k3:∀ b o,b≠x→H1 b=some o→upd H2 x (.ins cZ dx (([("name",V.str nm)]:List (Str×V)) ++ ([("can",V.ref cn)]:List (Str×V)))) b=some o:=fun b o nb e=>by rw [jAi nb];exact s2 _ _ e
  have hx3:upd H2 x (.ins cZ dx (([("name",V.str nm)]:List (Str×V)) ++ ([("can",V.ref cn)]:List (Str×V)))) x=some (.ins cZ dx [("name",V.str nm),("can",V.ref cn)]):=jAc
  generalize upd H2 x (.ins cZ dx (([("name",V.str nm)]:List (Str×V)) ++ ([("can",V.ref cn)]:List (Str×V))))=H3 at k3 hx3 ⊢
  refine ⟨_,rfl,_,rfl,x,cZ,dx,_,rfl,hx3,T.cl_Printer,T.n_Printer_path,(by show 2 < 1000;decide),?_⟩
  rw [jBg (by show ¬ ("path":Str)∈(["name","can"]:List Str);decide +kernel)]
  have k4:∀ b o,b≠x→H3 b=some o→upd H3 x (.ins cZ dx (([("name",V.str nm),("can",V.ref cn)]:List (Str×V)) ++ ([("path",V.int path)]:List (Str×V)))) b=some o:=fun b o nb e=>by rw [jAi nb];exact e
  have hx4:upd H3 x (.ins cZ dx (([("name",V.str nm),("can",V.ref cn)]:List (Str×V)) ++ ([("path",V.int path)]:List (Str×V)))) x=some (.ins cZ dx [("name",V.str nm),("can",V.ref cn),("path",V.int path)]):=jAc
  generalize upd H3 x (.ins cZ dx (([("name",V.str nm),("can",V.ref cn)]:List (Str×V)) ++ ([("path",V.int path)]:List (Str×V))))=H4 at k4 hx4 ⊢
  have k04:∀ b o,b≠x→H b=some o→H4 b=some o:=fun b o nb e=>k4 b o nb (k3 b o nb (k1 b o nb e))
  have hpp4:=k04 _ _ npx hpp
  refine ⟨_,rfl,pp,_,rfl,.inl hpp4,fun rm nrm=>?_⟩
  have s5:=jAl nrm (.dK (dI rs))
  generalize upd H4 rm (.dK (dI rs))=H5 at s5 ⊢
  refine ⟨_,rfl,x,cZ,dx,_,rfl,s5 _ _ hx4,T.cl_Printer,T.n_Printer_rooms,(by show 3 < 1000;decide),?_⟩
  rw [jBg (by show ¬ ("rooms":Str)∈(["name","can","path"]:List Str);decide +kernel)]
  have k6:∀ b o,b≠x→H4 b=some o→upd H5 x (.ins cZ dx (([("name",V.str nm),("can",V.ref cn),("path",V.int path)]:List (Str×V)) ++ ([("rooms",V.ref rm)]:List (Str×V)))) b=some o:=fun b o nb e=>by rw [jAi nb];exact s5 _ _ e
  have hx6:upd H5 x (.ins cZ dx (([("name",V.str nm),("can",V.ref cn),("path",V.int path)]:List (Str×V)) ++ ([("rooms",V.ref rm)]:List (Str×V)))) x=some (.ins cZ dx [("name",V.str nm),("can",V.ref cn),("path",V.int path),("rooms",V.ref rm)]):=jAc
  generalize upd H5 x (.ins cZ dx (([("name",V.str nm),("can",V.ref cn),("path",V.int path)]:List (Str×V)) ++ ([("rooms",V.ref rm)]:List (Str×V))))=H6 at k6 hx6 ⊢
  have k06:∀ b o,b≠x→H b=some o→H6 b=some o:=fun b o nb e=>k6 b o nb (k04 b o nb e)
  have free6:∀ b,H6 b=none→H b=none:=fun b nb=>by
    cases e:H b with
    | none=>rfl
    | some o =>
      by_cases c:b=x
      · rw [c,hx6] at nb;cases nb
      · rw [k06 b o c e] at nb;cases nb
  refine ⟨_,rfl,fun tr dt ntr ndt nde=>?_⟩
  have ki:∀ b o,H6 b=some o→b≠tr∧upd (upd H6 dt (.own tr)) tr (.ins cQ dt []) b=some o:=fun b o e=>by
    have b1:b≠tr:=jAo e ntr
    exact ⟨b1,by rw [jAi b1,jAi (jAo e ndt)];exact e⟩
  refine ⟨tr,dt,pp,rs,rfl,jAc,(ki _ _ (k06 _ _ npx hpp)).2,nd,by omega,fun tr1 tr2 H7 kp7 nr nm' n12 ht7 hr7 hm7=>⟨rfl,?_⟩⟩
  have s7:jAr H6 H7:=fun b o e=>kp7 b o (ki b o e).1 (ki b o e).2
  have ntr1:H6 tr1=none:=by
    cases e:H6 tr1 with
    | none=>rfl
    | some o=>rw [(ki _ _ e).2] at nr;cases nr
  have ntr2:H6 tr2=none:=by
    cases e:H6 tr2 with
    | none=>rfl
    | some o=>rw [(ki _ _ e).2] at nm';cases nm'
  refine ⟨_,rfl,x,cZ,dx,_,rfl,s7 _ _ hx6,T.cl_Printer,T.n_Printer_trays,(by show 4 < 1000;decide),?_⟩
  rw [jBg (by show ¬ ("trays":Str)∈(["name","can","path","rooms"]:List Str);decide +kernel)]
  have hx7:=s7 _ _ hx6
  have ntx:tr≠x:=Ne.symm (jAo hx6 ntr)
  have nt1x:tr1≠x:=Ne.symm (jAo hx6 ntr1)
  have nt2x:tr2≠x:=Ne.symm (jAo hx6 ntr2)
  have k8:∀ b o,b≠x→H7 b=some o→upd H7 x (.ins cZ dx (([("name",V.str nm),("can",V.ref cn),("path",V.int path),("rooms",V.ref rm)]:List (Str×V)) ++ ([("trays",V.ref tr)]:List (Str×V)))) b=some o:=fun b o nb e=>by rw [jAi nb];exact e
  have hx8:upd H7 x (.ins cZ dx (([("name",V.str nm),("can",V.ref cn),("path",V.int path),("rooms",V.ref rm)]:List (Str×V)) ++ ([("trays",V.ref tr)]:List (Str×V)))) x=some (.ins cZ dx [("name",V.str nm),("can",V.ref cn),("path",V.int path),("rooms",V.ref rm),("trays",V.ref tr)]):=jAc
  generalize upd H7 x (.ins cZ dx (([("name",V.str nm),("can",V.ref cn),("path",V.int path),("rooms",V.ref rm)]:List (Str×V)) ++ ([("trays",V.ref tr)]:List (Str×V))))=H8 at k8 hx8 ⊢
  have ht8:=k8 _ _ ntx ht7
  have hr8:=k8 _ _ nt1x hr7
  have hm8:=k8 _ _ nt2x hm7
  have free8:∀ b,H8 b=none→H6 b=none:=fun b nb=>by
    cases e:H6 b with
    | none=>rfl
    | some o =>
      by_cases c:b=x
      · rw [c,hx8] at nb;cases nb
      · rw [k8 b o c (s7 _ _ e)] at nb;cases nb
  refine fun ip nip=>?_
  have s9:=jAl nip (.dK [])
  have h9:upd H8 ip (.dK []) ip=some (.dK []):=jAc
  refine ⟨_,rfl,_,rfl,h9,[(Sum.inr blW,.int rb),(Sum.inr coW,.int rc)],rfl,(by show 2≤15;decide),?_⟩
  rw [jGM (ks:=[Sum.inr blW,Sum.inr coW]) rfl (by decide +kernel)]
  have s10:jAr H8 (upd (upd H8 ip (.dK [])) ip (.dK ([] ++ [((Sum.inr blW:Key),V.int rb),(Sum.inr coW,V.int rc)]))):=jEn nip s9 _
  have h10:upd (upd H8 ip (.dK [])) ip (.dK ([] ++ [((Sum.inr blW:Key),V.int rb),(Sum.inr coW,V.int rc)])) ip=some (.dK (dI (jAW rb rc))):=jAc
  generalize upd (upd H8 ip (.dK [])) ip (.dK ([] ++ [((Sum.inr blW:Key),V.int rb),(Sum.inr coW,V.int rc)]))=H10 at s10 h10 ⊢
  refine fun ik di nik ndi ndie=>?_
  have kj:∀ b o,H10 b=some o→b≠ik∧upd (upd H10 di (.own ik)) ik (.ins cQ di []) b=some o:=fun b o e=>by
    have b1:b≠ik:=jAo e nik
    exact ⟨b1,by rw [jAi b1,jAi (jAo e ndi)];exact e⟩
  have ndk:((jAW rb rc).map (·.1)).Nodup:=by
    show [blW,coW].Nodup
    decide +kernel
  refine ⟨ik,di,ip,jAW rb rc,rfl,jAc,(kj _ _ h10).2,ndk,by show 2≤1000;decide,fun ik1 ik2 H11 kp11 nr1 nm1 n12' hi11 hr11 hm11=>⟨rfl,?_⟩⟩
  have s11:jAr H10 H11:=fun b o e=>kp11 b o (kj b o e).1 (kj b o e).2
  have nik1:H10 ik1=none:=by
    cases e:H10 ik1 with
    | none=>rfl
    | some o=>rw [(kj _ _ e).2] at nr1;cases nr1
  have nik2:H10 ik2=none:=by
    cases e:H10 ik2 with
    | none=>rfl
    | some o=>rw [(kj _ _ e).2] at nm1;cases nm1
  have s811:=s10.trans s11
  refine ⟨_,rfl,x,cZ,dx,_,rfl,s811 _ _ hx8,T.cl_Printer,T.n_Printer_inks,(by show 5 < 1000;decide),?_⟩
  rw [jBg (by show ¬ ("inks":Str)∈(["name","can","path","rooms","trays"]:List Str);decide +kernel)]
  have k12:∀ b o,b≠x→H11 b=some o→upd H11 x (.ins cZ dx (([("name",V.str nm),("can",V.ref cn),("path",V.int path),("rooms",V.ref rm),("trays",V.ref tr)]:List (Str×V)) ++ ([("inks",V.ref ik)]:List (Str×V)))) b=some o:=fun b o nb e=>by rw [jAi nb];exact e
  have hx12:upd H11 x (.ins cZ dx (([("name",V.str nm),("can",V.ref cn),("path",V.int path),("rooms",V.ref rm),("trays",V.ref tr)]:List (Str×V)) ++ ([("inks",V.ref ik)]:List (Str×V)))) x=some (.ins cZ dx [("name",V.str nm),("can",V.ref cn),("path",V.int path),("rooms",V.ref rm),("trays",V.ref tr),("inks",V.ref ik)]):=jAc
  generalize upd H11 x (.ins cZ dx (([("name",V.str nm),("can",V.ref cn),("path",V.int path),("rooms",V.ref rm),("trays",V.ref tr)]:List (Str×V)) ++ ([("inks",V.ref ik)]:List (Str×V))))=H12 at k12 hx12 ⊢
  have hx10:=s10 _ _ hx8
  have nikx:ik≠x:=Ne.symm (jAo hx10 nik)
  have nik1x:ik1≠x:=Ne.symm (jAo hx10 nik1)
  have nik2x:ik2≠x:=Ne.symm (jAo hx10 nik2)
  refine fun st ds nst nds ndse=>⟨st,ds,rfl,jAc,⟨rfl,?_⟩⟩
  have s13:jAr H12 (upd (upd (upd H12 ds (.own st)) st (.ins yJ ds [])) st (.ins yJ ds (jDt .rd))):=fun b o e=>by
    have b1:b≠st:=jAo e nst
    rw [jAi b1,jAi b1,jAi (jAo e nds)]
    exact e
  have h13:upd (upd (upd H12 ds (.own st)) st (.ins yJ ds [])) st (.ins yJ ds (jDt .rd)) st=some (.ins yJ ds (jDt .rd)):=jAc
  generalize upd (upd (upd H12 ds (.own st)) st (.ins yJ ds [])) st (.ins yJ ds (jDt .rd))=H13 at s13 h13 ⊢
  refine ⟨_,rfl,x,cZ,dx,_,rfl,s13 _ _ hx12,T.cl_Printer,T.n_Printer_state,(by show 6 < 1000;decide),?_⟩
  rw [jBg (by show ¬ ("state":Str)∈(["name","can","path","rooms","trays","inks"]:List Str);decide +kernel)]
  have k14:∀ b o,b≠x→H13 b=some o→upd H13 x (.ins cZ dx (([("name",V.str nm),("can",V.ref cn),("path",V.int path),("rooms",V.ref rm),("trays",V.ref tr),("inks",V.ref ik)]:List (Str×V)) ++ ([("state",V.ref st)]:List (Str×V)))) b=some o:=fun b o nb e=>by rw [jAi nb];exact e
  have hx14:upd H13 x (.ins cZ dx (([("name",V.str nm),("can",V.ref cn),("path",V.int path),("rooms",V.ref rm),("trays",V.ref tr),("inks",V.ref ik)]:List (Str×V)) ++ ([("state",V.ref st)]:List (Str×V)))) x=some (.ins cZ dx [("name",V.str nm),("can",V.ref cn),("path",V.int path),("rooms",V.ref rm),("trays",V.ref tr),("inks",V.ref ik),("state",V.ref st)]):=jAc
  generalize upd H13 x (.ins cZ dx (([("name",V.str nm),("can",V.ref cn),("path",V.int path),("rooms",V.ref rm),("trays",V.ref tr),("inks",V.ref ik)]:List (Str×V)) ++ ([("state",V.ref st)]:List (Str×V))))=H14 at k14 hx14 ⊢
  have nstx:st≠x:=Ne.symm (jAo hx12 nst)
  refine ⟨Nat.zero_le _,fun il nil'=>?_⟩
  have s15:=jAl nil' (.lst [])
  have h15:upd H14 il (.lst []) il=some (.lst []):=jAc
  generalize upd H14 il (.lst [])=H15 at s15 h15 ⊢
  have hx15:=s15 _ _ hx14
  refine ⟨_,rfl,x,cZ,dx,_,rfl,hx15,T.cl_Printer,T.n_Printer_inside,(by show 7 < 1000;decide),?_⟩
  rw [jBg (by show ¬ ("inside":Str)∈(["name","can","path","rooms","trays","inks","state"]:List Str);decide +kernel)]
  have nilx:il≠x:=Ne.symm (jAo hx14 nil')
  have k16:∀ b o,b≠x→H15 b=some o→upd H15 x (.ins cZ dx (([("name",V.str nm),("can",V.ref cn),("path",V.int path),("rooms",V.ref rm),("trays",V.ref tr),("inks",V.ref ik),("state",V.ref st)]:List (Str×V)) ++ ([("inside",V.ref il)]:List (Str×V)))) b=some o:=fun b o nb e=>by rw [jAi nb];exact e
  have hx16:upd H15 x (.ins cZ dx (([("name",V.str nm),("can",V.ref cn),("path",V.int path),("rooms",V.ref rm),("trays",V.ref tr),("inks",V.ref ik),("state",V.ref st)]:List (Str×V)) ++ ([("inside",V.ref il)]:List (Str×V)))) x=some (.ins cZ dx [("name",V.str nm),("can",V.ref cn),("path",V.int path),("rooms",V.ref rm),("trays",V.ref tr),("inks",V.ref ik),("state",V.ref st),("inside",V.ref il)]):=jAc
  generalize upd H15 x (.ins cZ dx (([("name",V.str nm),("can",V.ref cn),("path",V.int path),("rooms",V.ref rm),("trays",V.ref tr),("inks",V.ref ik),("state",V.ref st)]:List (Str×V)) ++ ([("inside",V.ref il)]:List (Str×V))))=H16 at k16 hx16 ⊢
  have e12:∀ b o,b≠x→H12 b=some o→H16 b=some o:=fun b o nb e=>k16 b o nb (s15 _ _ (k14 b o nb (s13 _ _ e)))
  have e8:∀ b o,b≠x→H8 b=some o→H16 b=some o:=fun b o nb e=>e12 b o nb (k12 b o nb (s811 _ _ e))
  have e6:∀ b o,b≠x→H6 b=some o→H16 b=some o:=fun b o nb e=>e8 b o nb (k8 b o nb (s7 _ _ e))
  have f10:∀ b,H10 b=none→H6 b=none:=fun b nb=>free8 b (s10.free nb)
  have f14:∀ b,H14 b=none→H6 b=none:=fun b nb=>by
    cases e:H6 b with
    | none=>rfl
    | some o =>
      by_cases c:b=x
      · rw [c,hx14] at nb;cases nb
      · rw [k14 b o c (s13 _ _ (k12 b o c (s811 _ _ (k8 b o c (s7 _ _ e)))))] at nb;cases nb
  have hm10:=s10 _ _ hm8
  have hr10:=s10 _ _ hr8
  refine q ⟨dx,cn,rm,tr,tr1,tr2,ik,ik1,ik2,st,il,nm,path,rs,rs.map fun p=>(p.1,0),rb,rc,0,0,[],.rd⟩ H16 (fun b o nb e=>e6 b o nb (k06 b o nb e)) ?_ rfl rfl rfl rfl rfl rfl rfl rfl rfl rfl (free6 _ ntr1) (free6 _ ntr2) (free6 _ (f10 _ nik1)) (free6 _ (f10 _ nik2)) (free6 _ (f14 _ nil'))
  exact { o:=hx16,T:=⟨⟨dt,e8 _ _ ntx ht8⟩,e8 _ _ nt1x hr8,e8 _ _ nt2x hm8,n12⟩,I:=⟨⟨di,e12 _ _ nikx (k12 _ _ nikx hi11)⟩,e12 _ _ nik1x (k12 _ _ nik1x hr11),e12 _ _ nik2x (k12 _ _ nik2x hm11),n12'⟩,s:=⟨ds,k16 _ _ nstx (s15 _ _ (k14 _ _ nstx h13))⟩,n:=k16 _ _ nilx h15,ka:=by rw [List.map_map];rfl,la:=by rw [List.length_map];exact lr,lt:=Nat.zero_le _,n22:=jAo hm10 nik2,n21:=jAo hm10 nik1,n12:=jAo hr10 nik2 }
end
end My
namespace My
open PySem L2
open Blk (sg sg_inj sg_app)
section
variable {P:Program} {w:World} {K:PySem.W.Frag} {mg:Str→Option Value} {base:Heap} {fa yQ yZ yX yY yV yJ yW yU yK yG cQ cZ cV cK cG vQ vZ vX vY:Addr} {fd:FuncData}
noncomputable def LyC (cO cB cS:Addr):Ly→Addr
  | .one=>cO
  | .both=>cB
  | .up _=>cS
noncomputable def LyAt (cO cB cS:Addr) (H:Hp) (a:Addr) (l:Ly):Prop:=∃ dx,H a=some (.ins (LyC cO cB cS l) dx [("cells",.int (l.cells:Int)),("backs",.bl l.backs)])
theorem LyAt.same {cO cB cS:Addr} {H H':Hp} {a:Addr} {l:Ly} (h:LyAt cO cB cS H a l) (k:jAr H H'):LyAt cO cB cS H' a l:=let ⟨dx,e⟩:=h;⟨dx,k _ _ e⟩
noncomputable def jEV (H:Hp) (y:V) (s:List Int×List Int):Prop:=∃ t f b,y=.ref t∧H t=some (.tup [.ref f,.ref b])∧H f=some (.lst (s.1.map V.int))∧H b=some (.lst (s.2.map V.int))
noncomputable def jFd (H0 H:Hp) (y:V) (s:List Int×List Int):Prop:=∃ t f b,y=.ref t∧H t=some (.tup [.ref f,.ref b])∧H f=some (.lst (s.1.map V.int))∧H b=some (.lst (s.2.map V.int))∧H0 t=none∧H0 f=none∧H0 b=none
theorem jFd.at {H0 H:Hp} {y:V} {s:List Int×List Int} (h:jFd H0 H y s):jEV H y s:=let ⟨t,f,b,e,e1,e2,e3,_⟩:=h;⟨t,f,b,e,e1,e2,e3⟩
theorem jFd.old {H0 H1 H:Hp} {y:V} {s:List Int×List Int} (h:jFd H1 H y s) (k:jAr H0 H1):jFd H0 H y s:=let ⟨t,f,b,e,e1,e2,e3,n1,n2,n3⟩:=h;⟨t,f,b,e,e1,e2,e3,k.free n1,k.free n2,k.free n3⟩
noncomputable def jL5 (H0 H:Hp) (p:Addr) (L:List (List Int×List Int)):Prop:=∃ ys,H p=some (.lst ys)∧ys.length=L.length∧∀ (i:Nat) y s,ys[i]?=some y→L[i]?=some s→jFd H0 H y s
noncomputable def SheetsAt (H:Hp) (p:Addr) (L:List (List Int×List Int)):Prop:=∃ ys,H p=some (.lst ys)∧ys.length=L.length∧∀ (i:Nat) y s,ys[i]?=some y→L[i]?=some s→jEV H y s
theorem jEV.same {H H':Hp} {y:V} {s:List Int×List Int} (h:jEV H y s) (k:jAr H H'):jEV H' y s:=let ⟨t,f,b,e,e1,e2,e3⟩:=h;⟨t,f,b,e,k _ _ e1,k _ _ e2,k _ _ e3⟩
theorem jF8 {H:Hp} {x dx:Addr} {o o1 o2:HO} (nx:H x=none) (nd:H dx=none):jAr H (upd (upd (upd H dx o) x o1) x o2):=by
  rw [jB0]
  exact jEn nx (jAl nd _) _
noncomputable def jFh (K:PySem.W.Frag):Sp:=fun vs H Q _=>∃ (f n:Int) (m:Nat),vs=[.int f,.int (m:Int),.int n]∧-(2 ^ 40)≤f∧f≤2 ^ 40∧m≤900∧∀ p H',jAr H H'→H p=none→H' p=some (.lst ((jGv f m n).map V.int))→Q (.ref p) H'
noncomputable def jBI (K:PySem.W.Frag):Sp:=fun vs H Q _=>∃ x dx C c b,vs=[.ref x,c,b]∧H x=some (.ins C dx [])∧Cls K C∧jAy K C "cells"∧jAy K C "backs"∧Q .non (upd H x (.ins C dx [("cells",c),("backs",b)]))
noncomputable def jDG (C:Addr) (fs:List (Str×V)):Sp:=fun vs H Q _=>∃ x dx,vs=[.ref x]∧H x=some (.ins C dx [])∧Q .non (upd H x (.ins C dx fs))
noncomputable def jDu (C:Addr):Sp:=fun vs H Q _=>∃ x dx c,vs=[.ref x,c]∧H x=some (.ins C dx [])∧Q .non (upd H x (.ins C dx [("cells",c),("backs",.bl true)]))
noncomputable def jED (cO cB cS:Addr):Sp:=fun vs H Q _=>∃ a l,vs=[.ref a]∧Ly.Ok l∧LyAt cO cB cS H a l∧Q (.int (l.per:Int)) H
noncomputable def jBn (cO cB cS:Addr):Sp:=fun vs H Q _=>∃ a l f n,vs=[.ref a,.int f,.int n]∧Ly.Ok l∧LyAt cO cB cS H a l∧-(2 ^ 20)≤f∧f≤2 ^ 20∧∀ y H',jAr H H'→New H H' (fun H3=>jFd H H3 y (jFc l n f))→Q y H'
noncomputable def jD3 (cO cB cS:Addr):Sp:=fun vs H Q _=>∃ a l,∃ n:Nat,vs=[.ref a,.int (n:Int)]∧Ly.Ok l∧LyAt cO cB cS H a l∧1≤n∧n≤999∧∀ p H',jAr H H'→H p=none→jL5 H H' p (jEw l n)→Q (.ref p) H'
noncomputable def jFM (cO cB cS:Addr):Sp:=fun vs H Q _=>∃ l,vs=[.str (Ly.text l)]∧Ly.Ok l∧∀ a H',jAr H H'→H a=none→LyAt cO cB cS H' a l→Q (.ref a) H'
theorem jKc:jAn ["first","many","pages"] ["first","many","pages"] (jAb jCR):=⟨rfl,rfl,rfl,by decide +kernel,rfl,by decide +kernel,by decide +kernel⟩
theorem jKd (F:Fun K "cells_from" "cells_from" jCR fa fd) (T:Txt K mg yQ yZ yX yY yV yJ yW yU yK yG cQ cZ cV cK cG vQ vZ vX vY)  :
    jAh P w K mg base CX0 1 fa fd ["first","many","pages"] (jFh K):=by
  refine F.ok jKc (fun vs H Q E h=>?_) (fun cdv A outer s H vs Q E hr h=>?_)
  · obtain ⟨f,n,m,rfl,_⟩:=h
    rfl
  obtain ⟨f,n,m,rfl,f0,f1,hm,q⟩:=h
  refine ⟨_,(jAf (jAp (jEo (frees:=[("pages",2)]) ⟨by decide +kernel,rfl,rfl,by decide +kernel,⟨⟨rfl,rfl,rfl,by decide +kernel⟩,trivial⟩,by decide +kernel,jBs rfl,rfl⟩ rfl (jMA rfl T.range (jAa (pv 0) (jAa (jAF jA0 (pv 0) (pv 1)) jAe))) (fun _ _ _ _=>jEg) (fun _ _ _ _=>by exact (jDw (jAu op_le (pv 0) (pv 1) (jAw _)) (pv 0) (jFo T.NOTHING rfl)))))),?_⟩
  refine ⟨_,rfl,_,rfl,_,rfl,_,_,rfl,rfl,_,_,rfl,⟨by omega,by omega,by omega,by omega⟩,?_⟩
  rw [show (f + (m:Int) - f).toNat=m from by omega]
  refine jFa (jFW f m H) (fun _=>true) (fun v=>match v with | .int x=>.int (if x≤n then x else 0) | v=>v) ?_ (fun x hx H' R _ r=>r) (fun x hx H' R sm _ r=>?_) (fun D H' sm hD hH=>?_)
  · rw [List.length_map,List.length_range]
    exact jBb (by omega)
  · obtain ⟨i,_,rfl⟩:=List.mem_map.mp hx
    refine ⟨_,rfl,_,rfl,_,_,rfl,rfl,_,rfl,?_⟩
    refine jCi (fun c=>⟨_,rfl,?_⟩) (fun c=>?_)
    · have c':=of_decide_eq_true c
      dsimp only at r
      rw [if_pos c'] at r
      exact r
    · have c':¬ (f + ((i:Nat):Int)≤n):=fun z=>c (decide_eq_true z)
      dsimp only at r
      rw [if_neg c'] at r
      exact r
  · refine q D H' sm hD ?_
    rw [hH,List.filter_eq_self.mpr (fun _ _=>rfl),List.map_map]
    unfold jGv
    rw [List.map_map]
    rfl
theorem jJj:jAn ["self","cells","backs"] ["self","cells","backs"] (jAb jCs):=⟨rfl,rfl,rfl,by decide +kernel,rfl,by decide +kernel,by decide +kernel⟩
theorem jJk (F:Fun K "__init__" "Layout.__init__" jCs fa fd) (T:Txt K mg yQ yZ yX yY yV yJ yW yU yK yG cQ cZ cV cK cG vQ vZ vX vY)  :
    jAh P w K mg base CX0 1 fa fd ["self","cells","backs"] (jBI K):=by
  refine F.ok jJj (fun vs H Q E h=>?_) (fun cdv A outer s H vs Q E hr h=>?_)
  · obtain ⟨x,dx,C,c,b,rfl,_⟩:=h
    rfl
  obtain ⟨x,dx,C,c,b,rfl,hx,cl,n1,n2,q⟩:=h
  refine ⟨_,(jAd (jAL (pv 0) (pv 1) rfl)
  (jAf (jAL (pv 0) (pv 2) rfl))),?_⟩
  refine ⟨_,rfl,_,rfl,x,C,dx,_,rfl,hx,cl,n1,(by decide),?_⟩
  refine ⟨_,rfl,_,rfl,x,C,dx,_,rfl,jAc,cl,n2,(by show 1 < 1000;decide),?_⟩
  rw [jB0]
  exact q
theorem jLw:jAn ["self"] ["self"] (jAb jDQ):=⟨rfl,rfl,rfl,by decide +kernel,rfl,by decide +kernel,by decide +kernel⟩
theorem jLx (F:Fun K "__init__" "One.__init__" jDQ fa fd) (T:Txt K mg yQ yZ yX yY yV yJ yW yU yK yG cQ cZ cV cK cG vQ vZ vX vY) (I_Layout:InD P w K mg base 1 "Layout" yQ ["self","cells","backs"] (jBI K)) :
    jAh P w K mg base CX0 2 fa fd ["self"] (jDG yZ [("cells",.int 1),("backs",.bl false)]):=by
  refine F.ok jLw (fun vs H Q E h=>?_) (fun cdv A outer s H vs Q E hr h=>?_)
  · obtain ⟨x,dx,rfl,_⟩:=h
    rfl
  obtain ⟨x,dx,rfl,hx,q⟩:=h
  refine ⟨_,(jAf (jAN (jER I_Layout (hr.mono (by decide)) rfl (jAa (pv 0) (jAa jAg (jAa jBL jAe)))))),?_⟩
  exact ⟨_,rfl,x,dx,_,_,_,rfl,hx,T.cl_One,T.n_One_cells,T.n_One_backs,q⟩
theorem jKY:jAn ["self"] ["self"] (jAb jDd):=⟨rfl,rfl,rfl,by decide +kernel,rfl,by decide +kernel,by decide +kernel⟩
theorem jKZ (F:Fun K "__init__" "Both.__init__" jDd fa fd) (T:Txt K mg yQ yZ yX yY yV yJ yW yU yK yG cQ cZ cV cK cG vQ vZ vX vY) (I_Layout:InD P w K mg base 1 "Layout" yQ ["self","cells","backs"] (jBI K)) :
    jAh P w K mg base CX0 2 fa fd ["self"] (jDG yX [("cells",.int 1),("backs",.bl true)]):=by
  refine F.ok jKY (fun vs H Q E h=>?_) (fun cdv A outer s H vs Q E hr h=>?_)
  · obtain ⟨x,dx,rfl,_⟩:=h
    rfl
  obtain ⟨x,dx,rfl,hx,q⟩:=h
  refine ⟨_,(jAf (jAN (jER I_Layout (hr.mono (by decide)) rfl (jAa (pv 0) (jAa jAg (jAa jBL jAe)))))),?_⟩
  exact ⟨_,rfl,x,dx,_,_,_,rfl,hx,T.cl_Both,T.n_Both_cells,T.n_Both_backs,q⟩
theorem jIO:jAn ["self","many"] ["self","many"] (jAb jB4):=⟨rfl,rfl,rfl,by decide +kernel,rfl,by decide +kernel,by decide +kernel⟩
theorem jIP (F:Fun K "__init__" "Several.__init__" jB4 fa fd) (T:Txt K mg yQ yZ yX yY yV yJ yW yU yK yG cQ cZ cV cK cG vQ vZ vX vY) (I_Layout:InD P w K mg base 1 "Layout" yQ ["self","cells","backs"] (jBI K)) :
    jAh P w K mg base CX0 2 fa fd ["self","many"] (jDu yY):=by
  refine F.ok jIO (fun vs H Q E h=>?_) (fun cdv A outer s H vs Q E hr h=>?_)
  · obtain ⟨x,dx,c,rfl,_⟩:=h
    rfl
  obtain ⟨x,dx,c,rfl,hx,q⟩:=h
  refine ⟨_,(jAf (jAN (jER I_Layout (hr.mono (by decide)) rfl (jAa (pv 0) (jAa (pv 1) (jAa jBL jAe)))))),?_⟩
  exact ⟨_,rfl,_,rfl,x,dx,_,_,_,rfl,hx,T.cl_Several,T.n_Several_cells,T.n_Several_backs,q⟩
theorem jGY:jAn ["self"] ["self"] (jAb jBq):=⟨rfl,rfl,rfl,by decide +kernel,rfl,by decide +kernel,by decide +kernel⟩
theorem jGZ (F:Fun K "per_sheet" "Layout.per_sheet" jBq fa fd) (T:Txt K mg yQ yZ yX yY yV yJ yW yU yK yG cQ cZ cV cK cG vQ vZ vX vY)  :
    jAh P w K mg base CX0 1 fa fd ["self"] (jED yZ yX yY):=by
  refine F.ok jGY (fun vs H Q E h=>?_) (fun cdv A outer s H vs Q E hr h=>?_)
  · obtain ⟨a,l,rfl,_⟩:=h
    rfl
  obtain ⟨a,l,rfl,ok,⟨dx,hx⟩,q⟩:=h
  have hc:=Ly.cells_pos ok
  refine ⟨_,(jAf (jAp (jDw (jAQ (jAs (pv 0) rfl) (fun _=>rfl)) (jAF jFF jAg (jAs (pv 0) rfl)) (jAs (pv 0) rfl)))),?_⟩
  have cl:Cls K (LyC yZ yX yY l)∧jAy K (LyC yZ yX yY l) "cells"∧jAy K (LyC yZ yX yY l) "backs":=by
    cases l with
    | one=>exact ⟨T.cl_One,T.n_One_cells,T.n_One_backs⟩
    | both=>exact ⟨T.cl_Both,T.n_Both_cells,T.n_Both_backs⟩
    | up n=>exact ⟨T.cl_Several,T.n_Several_cells,T.n_Several_backs⟩
  refine ⟨_,rfl,a,_,dx,_,_,rfl,hx,cl.1,cl.2.2,rfl,l.backs,rfl,?_⟩
  unfold Ly.per at q
  cases hb:l.backs with
  | true =>
    rw [hb,if_pos rfl] at q
    refine jA6 ⟨_,rfl,a,_,dx,_,_,rfl,hx,cl.1,cl.2.1,rfl,_,_,rfl,rfl,.inl ⟨by decide,by decide⟩,?_⟩
    have e:(2:Int) * (l.cells:Int)=((2 * l.cells:Nat):Int):=by omega
    show Q (V.int ((2:Int) * (l.cells:Int))) H
    rw [e]
    exact q
  | false =>
    rw [hb,if_neg (by decide)] at q
    exact jAT ⟨_,rfl,a,_,dx,_,_,rfl,hx,cl.1,cl.2.1,rfl,q⟩
theorem jEE:jAn ["self","first","pages","front"] ["self","first","pages"] (jAb jBm):=⟨rfl,rfl,rfl,by decide +kernel,rfl,by decide +kernel,by decide +kernel⟩
theorem jGO (F:Fun K "sheet_from" "Layout.sheet_from" jBm fa fd) (T:Txt K mg yQ yZ yX yY yV yJ yW yU yK yG cQ cZ cV cK cG vQ vZ vX vY) (D_cells_from:Dfn P w K mg base 1 "cells_from" ["first","many","pages"] (jFh K)) :
    jAh P w K mg base CX0 2 fa fd ["self","first","pages"] (jBn yZ yX yY):=by
  refine F.ok jEE (fun vs H Q E h=>?_) (fun cdv A outer s H vs Q E hr h=>?_)
  · obtain ⟨a,l,f,n,rfl,_⟩:=h
    rfl
  obtain ⟨a,l,f,n,rfl,ok,⟨dx,hx⟩,f0,f1,q⟩:=h
  have hc:=Ly.cells_pos ok
  refine ⟨_,(jAd (jAE (i:=3) jEE.nd rfl (by first | exact Or.inl rfl | exact Or.inr rfl) (jAA D_cells_from (hr.mono (by decide)) rfl (jAa (pv 1) (jAa (jAs (pv 0) rfl) (jAa (pv 2) jAe)))))
  (jAd (jAJ (jAQ (jAs (pv 0) rfl) (fun _=>rfl)) (jAf (jAp (jAV (jAa (pv 3) (jAa (jAA D_cells_from (hr.mono (by decide)) rfl (jAa (jAF jA0 (pv 1) (jAs (pv 0) rfl)) (jAa (jAs (pv 0) rfl) (jAa (pv 2) jAe)))) jAe))))) jAz)
  (jAf (jAp (jAV (jAa (pv 3) (jAa (jAF op_rep (jAZ (jAa (jFo T.NOTHING rfl) jAe)) (jAs (pv 0) rfl)) jAe))))))),?_⟩
  have cl:Cls K (LyC yZ yX yY l)∧jAy K (LyC yZ yX yY l) "cells"∧jAy K (LyC yZ yX yY l) "backs":=by
    cases l with
    | one=>exact ⟨T.cl_One,T.n_One_cells,T.n_One_backs⟩
    | both=>exact ⟨T.cl_Both,T.n_Both_cells,T.n_Both_backs⟩
    | up n=>exact ⟨T.cl_Several,T.n_Several_cells,T.n_Several_backs⟩
  refine ⟨_,rfl,_,rfl,a,_,dx,_,_,rfl,hx,cl.1,cl.2.1,rfl,_,rfl,f,n,l.cells,rfl,by omega,by omega,by omega,fun p H1 s1 np hp=>?_⟩
  have hx1:=s1 _ _ hx
  refine ⟨_,rfl,a,_,dx,_,_,rfl,hx1,cl.1,cl.2.2,rfl,l.backs,rfl,?_⟩
  have fin:∀ (b:Addr) (H2:Hp) (bs:List Int),jAr H1 H2→H1 b=none→H2 b=some (.lst (bs.map V.int))→(jFc l n f).2=bs→∀ t,H2 t=none→Q (.ref t) (upd H2 t (.tup [.ref p,.ref b])):=fun b H2 bs s2 nb hb eb t nt=>by
    have hp2:=s2 _ _ hp
    refine q _ _ ((s1.trans s2).trans (jAl nt _)) ⟨fun z=>z=t∨z=p∨z=b,?_,fun H3 h3=>⟨t,p,b,rfl,?_,?_,?_,(s1.trans s2).free nt,np,s1.free nb⟩⟩
    · rintro z (rfl | rfl | rfl)
      · exact ⟨(s1.trans s2).free nt,_,jAc⟩
      · exact ⟨np,_,by rw [jAi (jAo hp2 nt)];exact hp2⟩
      · exact ⟨s1.free nb,_,by rw [jAi (jAo hb nt)];exact hb⟩
    · rw [h3 t (.inl rfl)];exact jAc
    · rw [h3 p (.inr (.inl rfl)),jAi (jAo hp2 nt)];exact hp2
    · rw [h3 b (.inr (.inr rfl)),jAi (jAo hb nt),eb];exact hb
  cases hb:l.backs with
  | true =>
    refine jA6 ⟨_,rfl,_,rfl,_,rfl,a,_,dx,_,_,rfl,hx1,cl.1,cl.2.1,rfl,_,_,rfl,rfl,_,rfl,a,_,dx,_,_,rfl,hx1,cl.1,cl.2.1,rfl,_,rfl,f + (l.cells:Int),n,l.cells,rfl,by omega,by omega,by omega,fun b H2 s2 nb hb2=>⟨small (by show 2≤1000;decide),fun t nt=>?_⟩⟩
    exact fin b H2 _ s2 nb hb2 (by unfold jFc;rw [hb,if_pos rfl]) t nt
  | false =>
    refine jAT ⟨_,rfl,small (by show 1≤1000;decide),fun z nz=>⟨_,rfl,a,_,dx,_,_,rfl,(jAl nz _ _ _ hx1),cl.1,cl.2.1,rfl,z,_,_,rfl,rfl,jAc,by omega,by omega,?_,fun b nb=>⟨small (by show 2≤1000;decide),fun t nt=>?_⟩⟩⟩
    · refine Nat.le_of_lt (jBb ?_)
      show 1 * ((l.cells:Int).toNat)≤1000
      omega
    · refine fin b _ (List.replicate l.cells 0) ((jAl nz _).trans (jAl nb _)) ((jAl nz _).free nb) ?_ (by unfold jFc;rw [hb,if_neg (by decide)]) t nt
      rw [jAc]
      congr 2
      rw [Int.toNat_natCast]
      clear fin q
      induction l.cells with
      | zero=>rfl
      | succ k ih=>rw [List.replicate_succ,List.replicate_succ,List.flatten_cons,List.map_cons,ih];rfl
theorem jJl:jAn ["self","pages"] ["self","pages"] (jAb jCt):=⟨rfl,rfl,rfl,by decide +kernel,rfl,by decide +kernel,by decide +kernel⟩
theorem jJm (F:Fun K "laid" "Layout.laid" jCt fa fd) (T:Txt K mg yQ yZ yX yY yV yJ yW yU yK yG cQ cZ cV cK cG vQ vZ vX vY) (D_One_per_sheet:MtE P w K mg base 1 "per_sheet" yZ ["self"] (jED yZ yX yY)) (D_Both_per_sheet:MtE P w K mg base 1 "per_sheet" yX ["self"] (jED yZ yX yY)) (D_Several_per_sheet:MtE P w K mg base 1 "per_sheet" yY ["self"] (jED yZ yX yY)) (D_One_sheet_from:MtE P w K mg base 2 "sheet_from" yZ ["self","first","pages"] (jBn yZ yX yY)) (D_Both_sheet_from:MtE P w K mg base 2 "sheet_from" yX ["self","first","pages"] (jBn yZ yX yY)) (D_Several_sheet_from:MtE P w K mg base 2 "sheet_from" yY ["self","first","pages"] (jBn yZ yX yY)) :
    jAh P w K mg base CX0 3 fa fd ["self","pages"] (jD3 yZ yX yY):=by
  refine F.ok jJl (fun vs H Q E h=>?_) (fun cdv A outer s H vs Q E hr h=>?_)
  · obtain ⟨a,l,n,rfl,_⟩:=h
    rfl
  obtain ⟨a,l,n,rfl,ok,hl,n0,n1,q⟩:=h
  have hp:=Ly.per_pos ok
  refine ⟨_,(jAf (jAp (jEo (frees:=[("pages",1),("self",0)]) ⟨by decide +kernel,rfl,rfl,by decide +kernel,⟨⟨rfl,rfl,rfl,by decide +kernel⟩,⟨⟨rfl,rfl,rfl,by decide +kernel⟩,trivial⟩⟩,by decide +kernel,jBs rfl,rfl⟩ rfl (jM2 rfl T.range (jAa (jFo T.FIRST_PAGE rfl) (jAa (jAF jA0 (pv 1) jAg) (jAa (jAv 1 jA7 (hr.mono (by decide)) (pv 0)) jAe)))) (fun _ _ _ _=>jEg) (fun _ _ _ _=>by exact (jM0 (P:=P) (w:=w) (K:=K) (mg:=mg) (base:=base) ⟨rfl,rfl,rfl,rfl,rfl⟩ 2 jA7 (hr.mono (by decide)) (pv 2) (jAa (pv 0) (jAa (pv 1) jAe))))))),?_⟩
  obtain ⟨dx,hx⟩:=id hl
  have cl:Cls K (LyC yZ yX yY l):=by
    cases l with
    | one=>exact T.cl_One
    | both=>exact T.cl_Both
    | up n=>exact T.cl_Several
  have D1:MtE P w K mg base 1 "per_sheet" (LyC yZ yX yY l) ["self"] (jED yZ yX yY):=by
    cases l with
    | one=>exact D_One_per_sheet
    | both=>exact D_Both_per_sheet
    | up n=>exact D_Several_per_sheet
  have D2:MtE P w K mg base 2 "sheet_from" (LyC yZ yX yY l) ["self","first","pages"] (jBn yZ yX yY):=by
    cases l with
    | one=>exact D_One_sheet_from
    | both=>exact D_Both_sheet_from
    | up n=>exact D_Several_sheet_from
  refine ⟨_,rfl,_,_,rfl,rfl,_,rfl,a,_,dx,_,_,_,rfl,hx,rfl,cl,D1,a,l,rfl,ok,hl,_,_,_,rfl,⟨by decide,by decide,by omega,by omega,by omega,by omega⟩,?_⟩
  have hm:(n - 1) / l.per * l.per≤n - 1:=Nat.div_mul_le_self _ _
  have hm2:(n - 1) / l.per≤n - 1:=Nat.div_le_self _ _
  have ec:(if (1:Int) < (n:Int) + 1 then ((n:Int) + 1 - 1 - 1) / (l.per:Int) + 1 else 0).toNat=jCk l n:=by
    rw [if_pos (by omega),show (n:Int) + 1 - 1 - 1=((n - 1:Nat):Int) from by omega,← Int.natCast_ediv]
    unfold jCk
    generalize (n - 1) / l.per=z
    omega
  rw [ec]
  refine jFH (jMi 1 (l.per:Int) (jCk l n) H) (fun x y H3=>∃ f:Int,x=.int f∧jFd H H3 y (jFc l n f)) ?_ (fun x hx' H' R _ r=>r) (fun x hx' H' R sm r=>?_) (fun D H' ys sm hD hH hl' hg=>?_)
  · rw [List.length_map,List.length_range]
    unfold jCk
    exact jBb (by omega)
  · obtain ⟨i,hi,rfl⟩:=List.mem_map.mp hx'
    have hi':i < (n - 1) / l.per + 1:=List.mem_range.mp hi
    have hb:i * l.per≤(n - 1) / l.per * l.per:=Nat.mul_le_mul_right _ (by omega)
    have hb2:((i:Nat):Int) * (l.per:Int)=((i * l.per:Nat):Int):=by rw [Int.natCast_mul]
    refine ⟨_,rfl,a,_,dx,_,_,_,rfl,sm _ _ hx,rfl,cl,D2,_,rfl,_,rfl,a,l,_,_,rfl,ok,hl.same sm,by omega,by omega,fun y H'' s2 nw=>r y H'' s2 ?_⟩
    obtain ⟨Z,z1,z2⟩:=nw
    exact ⟨Z,z1,fun H3 h3=>⟨_,rfl,(z2 H3 h3).old sm⟩⟩
  · refine q D H' sm hD ⟨ys,hH,?_,fun i y s ey es=>?_⟩
    · rw [hl']
      unfold jEw
      simp only [List.length_range,List.length_map]
    · have hi:i < jCk l n:=by
        have:=(List.getElem?_eq_some_iff.mp ey).1
        rw [hl',List.length_map,List.length_range] at this
        exact this
      unfold jEw at es
      rw [List.getElem?_map,List.getElem?_range hi] at es
      obtain rfl:=Option.some.inj es
      obtain ⟨f,ef,g⟩:=hg i _ y (by rw [List.getElem?_map,List.getElem?_range hi];rfl) ey
      cases ef
      exact g
theorem jK0:jAn ["text"] ["text"] (jAb jDe):=⟨rfl,rfl,rfl,by decide +kernel,rfl,by decide +kernel,by decide +kernel⟩
theorem jK1 (F:Fun K "layout_of" "layout_of" jDe fa fd) (T:Txt K mg yQ yZ yX yY yV yJ yW yU yK yG cQ cZ cV cK cG vQ vZ vX vY) (M_Several:MkD P w K mg base 2 "Several" yY ["self","many"] (jDu yY)) (M_One:MkD P w K mg base 2 "One" yZ ["self"] (jDG yZ [("cells",.int 1),("backs",.bl false)])) (M_Both:MkD P w K mg base 2 "Both" yX ["self"] (jDG yX [("cells",.int 1),("backs",.bl true)])) :
    jAh P w K mg base CX0 4 fa fd ["text"] (jFM yZ yX yY):=by
  refine F.ok jK0 (fun vs H Q E h=>?_) (fun cdv A outer s H vs Q E hr h=>?_)
  · obtain ⟨l,rfl,_⟩:=h
    rfl
  obtain ⟨l,rfl,ok,q⟩:=h
  refine ⟨_,(jAd (jAJ (jAu jA_ (pv 0) jAj (jAw _)) (jAf (jAp (jDB M_One (hr.mono (by decide)) rfl))) jAz)
  (jAd (jAJ (jAu jA_ (pv 0) jAj (jAw _)) (jAf (jAp (jDB M_Both (hr.mono (by decide)) rfl))) jAz)
  (jAf (jAp (jDA M_Several (hr.mono (by decide)) rfl (jAa (jC4 jGX rfl T.int jKB (jAa (jCI jKF (pv 0) (jDb (jAP jKv rfl T.len PySem.boot_len (jAa (jDO T.UP rfl) jAe))) jDa) jAe)) jAe)))))),?_⟩
  refine ⟨_,rfl,rfl,_,rfl,?_⟩
  cases l with
  | one=>exact jEy rfl fun x dx nx nd ne=>⟨x,dx,rfl,jAc,rfl,q x _ (jF8 nx nd) nx ⟨dx,jAc⟩⟩
  | both=>exact jBy (by decide +kernel) ⟨_,rfl,rfl,_,rfl,jEy rfl fun x dx nx nd ne=>⟨x,dx,rfl,jAc,rfl,q x _ (jF8 nx nd) nx ⟨dx,jAc⟩⟩⟩
  | up n =>
    obtain ⟨u1,u2,u3,u4,u5⟩:=jM4 ok.1 ok.2
    have l3:(((Str.ofString "up:").length:Nat):Int)=3:=by decide +kernel
    refine jBy (by intro z;injection z with z;exact u3 z) ⟨_,rfl,rfl,_,rfl,jBy (by intro z;injection z with z;exact u4 z) ?_⟩
    refine ⟨_,rfl,_,rfl,(by decide +kernel),_,rfl,_,rfl,small (Nat.le_trans u5 (by decide)),?_⟩
    rw [l3]
    exact ⟨_,_,rfl,u1,Nat.le_trans u2 (by decide),fun x dx nx nd ne=>⟨x,dx,_,rfl,jAc,rfl,q x _ (jF8 nx nd) nx ⟨dx,jAc⟩⟩⟩
end
end My
namespace My
open PySem L2
open Blk (sg sg_inj sg_app)
section
variable {P:Program} {w:World} {K:PySem.W.Frag} {mg:Str→Option Value} {base:Heap} {fa yQ yZ yX yY yV yJ yW yU yK yG cQ cZ cV cK cG vQ vZ vX vY:Addr} {fd:FuncData}
noncomputable def jE2 (C:Addr):Sp:=fun vs H Q _=>∃ (x dx:Addr) (a b c d e f g h i j:V),vs=[.ref x,a,b,c,d,e,f,g,h,i,j]∧H x=some (.ins C dx [])∧Q .non (upd H x (.ins C dx (jEi a b c d e f g h i j)))
theorem jF0 (a b c d e f g h i j:V):(jEi a b c d e f g h i j).lookup ("name":Str)=some a:=rfl
theorem jF2 (a b c d e f g h i j:V):(jEi a b c d e f g h i j).lookup ("pages":Str)=some c:=rfl
theorem jF3 (a b c d e f g h i j:V):(jEi a b c d e f g h i j).lookup ("copies":Str)=some d:=rfl
theorem jF4 (a b c d e f g h i j:V):(jEi a b c d e f g h i j).lookup ("layout":Str)=some e:=rfl
theorem jF5 (a b c d e f g h i j:V):(jEi a b c d e f g h i j).lookup ("paper":Str)=some f:=rfl
theorem jF6 (a b c d e f g h i j:V):(jEi a b c d e f g h i j).lookup ("cover":Str)=some g:=rfl
theorem jF7 (a b c d e f g h i j:V):(jEi a b c d e f g h i j).lookup ("colour":Str)=some h:=rfl
theorem jLy:jAn ["self","name","asker","pages","copies","layout","paper","cover","colour","staple","after"] ["self","name","asker","pages","copies","layout","paper","cover","colour","staple","after"] (jAb jDX):=⟨rfl,rfl,rfl,by decide +kernel,rfl,by decide +kernel,by decide +kernel⟩
theorem jLz (F:Fun K "__init__" "Job.__init__" jDX fa fd) (T:Txt K mg yQ yZ yX yY yV yJ yW yU yK yG cQ cZ cV cK cG vQ vZ vX vY)  :
    jAh P w K mg base CX0 1 fa fd ["self","name","asker","pages","copies","layout","paper","cover","colour","staple","after"] (jE2 yG):=by
  refine F.ok jLy (fun vs H Q E h=>?_) (fun cdv A outer s H vs Q E hr h=>?_)
  · obtain ⟨x,dx,a,b,c,d,e,f,g,h,i,j,rfl,_⟩:=h
    rfl
  obtain ⟨x,dx,a,b,c,d,e,f,g,h,i,j,rfl,hx,q⟩:=h
  refine ⟨_,(jAd (jAL (pv 0) (pv 1) rfl)
  (jAd (jAL (pv 0) (pv 2) rfl)
  (jAd (jAL (pv 0) (pv 3) rfl)
  (jAd (jAL (pv 0) (pv 4) rfl)
  (jAd (jAL (pv 0) (pv 5) rfl)
  (jAd (jAL (pv 0) (pv 6) rfl)
  (jAd (jAL (pv 0) (pv 7) rfl)
  (jAd (jAL (pv 0) (pv 8) rfl)
  (jAd (jAL (pv 0) (pv 9) rfl)
  (jAf (jAL (pv 0) (pv 10) rfl))))))))))),?_⟩
  refine ⟨_,rfl,_,rfl,x,yG,dx,_,rfl,hx,T.cl_Job,T.n_Job_name,(by show 0 < 1000;decide),?_⟩
  rw [jCj (by show ¬ ("name":Str)∈([]:List Str);decide +kernel)]
  refine ⟨_,rfl,_,rfl,x,yG,dx,_,rfl,jAc,T.cl_Job,T.n_Job_asker,(by show 1 < 1000;decide),?_⟩
  rw [jB0,jCj (by show ¬ ("asker":Str)∈(["name"]:List Str);decide +kernel)]
  refine ⟨_,rfl,_,rfl,x,yG,dx,_,rfl,jAc,T.cl_Job,T.n_Job_pages,(by show 2 < 1000;decide),?_⟩
  rw [jB0,jCj (by show ¬ ("pages":Str)∈(["name","asker"]:List Str);decide +kernel)]
  refine ⟨_,rfl,_,rfl,x,yG,dx,_,rfl,jAc,T.cl_Job,T.n_Job_copies,(by show 3 < 1000;decide),?_⟩
  rw [jB0,jCj (by show ¬ ("copies":Str)∈(["name","asker","pages"]:List Str);decide +kernel)]
  refine ⟨_,rfl,_,rfl,x,yG,dx,_,rfl,jAc,T.cl_Job,T.n_Job_layout,(by show 4 < 1000;decide),?_⟩
  rw [jB0,jCj (by show ¬ ("layout":Str)∈(["name","asker","pages","copies"]:List Str);decide +kernel)]
  refine ⟨_,rfl,_,rfl,x,yG,dx,_,rfl,jAc,T.cl_Job,T.n_Job_paper,(by show 5 < 1000;decide),?_⟩
  rw [jB0,jCj (by show ¬ ("paper":Str)∈(["name","asker","pages","copies","layout"]:List Str);decide +kernel)]
  refine ⟨_,rfl,_,rfl,x,yG,dx,_,rfl,jAc,T.cl_Job,T.n_Job_cover,(by show 6 < 1000;decide),?_⟩
  rw [jB0,jCj (by show ¬ ("cover":Str)∈(["name","asker","pages","copies","layout","paper"]:List Str);decide +kernel)]
  refine ⟨_,rfl,_,rfl,x,yG,dx,_,rfl,jAc,T.cl_Job,T.n_Job_colour,(by show 7 < 1000;decide),?_⟩
  rw [jB0,jCj (by show ¬ ("colour":Str)∈(["name","asker","pages","copies","layout","paper","cover"]:List Str);decide +kernel)]
  refine ⟨_,rfl,_,rfl,x,yG,dx,_,rfl,jAc,T.cl_Job,T.n_Job_staple,(by show 8 < 1000;decide),?_⟩
  rw [jB0,jCj (by show ¬ ("staple":Str)∈(["name","asker","pages","copies","layout","paper","cover","colour"]:List Str);decide +kernel)]
  refine ⟨_,rfl,_,rfl,x,yG,dx,_,rfl,jAc,T.cl_Job,T.n_Job_after,(by show 9 < 1000;decide),?_⟩
  rw [jB0,jCj (by show ¬ ("after":Str)∈(["name","asker","pages","copies","layout","paper","cover","colour","staple"]:List Str);decide +kernel)]
  exact q
end
end My
namespace My
open PySem L2
open Blk (sg sg_inj sg_app)
section
variable {P:Program} {w:World} {K:PySem.W.Frag} {mg:Str→Option Value} {base:Heap} {fa yQ yZ yX yY yV yJ yW yU yK yG cQ cZ cV cK cG vQ vZ vX vY:Addr} {fd:FuncData}
structure Jv where
  n:Nat
  l:Ly
  paper:Str
  cover:Option Str
  colour:Option (Int×Int)
noncomputable def Jv.Ok (j:Jv):Prop:=1≤j.n∧j.n≤999∧Ly.Ok j.l
noncomputable def oV:Option Str→V
  | some z=>.str z
  | none=>.non
noncomputable def jGP (H:Hp) (v:V):Option (Int×Int)→Prop
  | none=>v=.non
  | some c=>∃ t,v=.ref t∧H t=some (.tup [.int c.1,.int c.2])
theorem jGP.same {H H':Hp} {v:V} {c:Option (Int×Int)} (h:jGP H v c) (k:jAr H H'):jGP H' v c:=by
  cases c with
  | none=>exact h
  | some c=>obtain ⟨t,e,g⟩:=h;exact ⟨t,e,k _ _ g⟩
noncomputable def JO (C:Addr) (H:Hp) (x:Addr) (j:Jv):Prop:=∃ dx a b d i k cv,H x=some (.ins C dx (jEi a b (.int (j.n:Int)) d (.str (Ly.text j.l)) (.str j.paper) (oV j.cover) cv i k))∧jGP H cv j.colour
noncomputable def jHy (c:Option (Int×Int)) (x:Int):Bool:=match c with
  | none=>false
  | some c=>decide (c.1≤x) && decide (x≤c.2)
noncomputable def jDH (s:List Int×List Int):List Int:=(s.1 ++ s.2).filter fun x=>decide (x≠0)
noncomputable def inkS (s:List Int×List Int) (c:Option (Int×Int)):Int×Int:=(((jDH s).length:Int) - (((jDH s).filter (jHy c)).length:Int),(((jDH s).filter (jHy c)).length:Int))
noncomputable def jFN (cJ:Addr):Sp:=fun vs H Q _=>∃ x j,vs=[.ref x]∧JO cJ H x j∧j.Ok∧∀ p H',jAr H H'→H p=none→jL5 H H' p (jEw j.l j.n)→Q (.ref p) H'
noncomputable def jGl (cJ:Addr):Sp:=fun vs H Q _=>∃ x j,∃ s:Int,vs=[.ref x,.int s]∧JO cJ H x j∧Q (.str (if s=0 then j.cover.getD j.paper else j.paper)) H
noncomputable def jHb (K:PySem.W.Frag):Sp:=fun vs H Q _=>∃ (t:V) (cv:V) (s:List Int×List Int) (c:Option (Int×Int)),vs=[t,cv]∧jEV H t s∧s.1.length≤100∧s.2.length≤100∧jGP H cv c∧∀ p H',jAr H H'→H p=none→H' p=some (.tup [.int (inkS s c).1,.int (inkS s c).2])→Q (.ref p) H'
noncomputable def jEW (K:PySem.W.Frag):Sp:=fun vs H Q _=>∃ (x:Int) (cv:V) (c:Option (Int×Int)),vs=[.int x,cv]∧jGP H cv c∧Q (.bl (jHy c x)) H
theorem LyD {K:PySem.W.Frag} {cO cB cS:Addr} {M:Addr→Prop} (l:Ly) (h0:M cO) (h1:M cB) (h2:M cS):M (LyC cO cB cS l):=by
  cases l with
  | one=>exact h0
  | both=>exact h1
  | up n=>exact h2
theorem jK2:jAn ["job"] ["job"] (jAb jDf):=⟨rfl,rfl,rfl,by decide +kernel,rfl,by decide +kernel,by decide +kernel⟩
theorem jK3 (F:Fun K "sheets_of" "sheets_of" jDf fa fd) (T:Txt K mg yQ yZ yX yY yV yJ yW yU yK yG cQ cZ cV cK cG vQ vZ vX vY) (D_layout_of:Dfn P w K mg base 4 "layout_of" ["text"] (jFM yZ yX yY)) (D_One_laid:MtE P w K mg base 3 "laid" yZ ["self","pages"] (jD3 yZ yX yY)) (D_Both_laid:MtE P w K mg base 3 "laid" yX ["self","pages"] (jD3 yZ yX yY)) (D_Several_laid:MtE P w K mg base 3 "laid" yY ["self","pages"] (jD3 yZ yX yY)) :
    jAh P w K mg base CX0 5 fa fd ["job"] (jFN yG):=by
  refine F.ok jK2 (fun vs H Q E h=>?_) (fun cdv A outer s H vs Q E hr h=>?_)
  · obtain ⟨x,j,rfl,_⟩:=h
    rfl
  obtain ⟨x,j,rfl,⟨dx,a,b,d,i,k,cv,hx,_⟩,⟨n0,n1,ok⟩,q⟩:=h
  refine ⟨_,(jAf (jAp (jAU 3 jA7 (hr.mono (by decide)) (jAA D_layout_of (hr.mono (by decide)) rfl (jAa (jAs (pv 0) rfl) jAe)) (jAa (jAs (pv 0) rfl) jAe)))),?_⟩
  refine ⟨_,rfl,x,yG,dx,_,_,rfl,hx,T.cl_Job,T.n_Job_layout,jF4 _ _ _ _ _ _ _ _ _ _,j.l,rfl,ok,fun y H1 s1 ny Y=>?_⟩
  obtain ⟨dy,hy⟩:=id Y
  refine ⟨y,_,dy,_,_,_,rfl,hy,rfl,LyD (K:=K) (M:=fun C=>Cls K C) j.l T.cl_One T.cl_Both T.cl_Several,LyD (K:=K) (M:=fun C=>MtE P w K mg base 3 "laid" C ["self","pages"] (jD3 yZ yX yY)) j.l D_One_laid D_Both_laid D_Several_laid,?_⟩
  exact ⟨_,rfl,x,yG,dx,_,_,rfl,s1 _ _ hx,T.cl_Job,T.n_Job_pages,jF2 _ _ _ _ _ _ _ _ _ _,y,j.l,j.n,rfl,ok,Y,n0,n1,fun p H' s2 np SF=>q p H' (s1.trans s2) (s1.free np) (let ⟨ys,e1,e2,g⟩:=SF;⟨ys,e1,e2,fun i y s h1 h2=>(g i y s h1 h2).old s1⟩)⟩
theorem jLA:jAn ["job","sheet"] ["job","sheet"] (jAb jDR):=⟨rfl,rfl,rfl,by decide +kernel,rfl,by decide +kernel,by decide +kernel⟩
theorem jLB (F:Fun K "paper_of" "paper_of" jDR fa fd) (T:Txt K mg yQ yZ yX yY yV yJ yW yU yK yG cQ cZ cV cK cG vQ vZ vX vY)  :
    jAh P w K mg base CX0 1 fa fd ["job","sheet"] (jGl yG):=by
  refine F.ok jLA (fun vs H Q E h=>?_) (fun cdv A outer s H vs Q E hr h=>?_)
  · obtain ⟨x,j,s,rfl,_⟩:=h
    rfl
  obtain ⟨x,j,s,rfl,⟨dx,a,b,d,i,k,cv,hx,_⟩,q⟩:=h
  refine ⟨_,(jAd (jAJ (PW.pt (jDv (jAu jA_ (pv 1) (jFo T.COVER_SHEET rfl) (jAw _)) (jCM (jAu jHo (jAs (pv 0) rfl) jAY (jAw _))))) (jAf (jAp (jAs (pv 0) rfl))) jAz)
  (jAf (jAp (jAs (pv 0) rfl)))),?_⟩
  refine ⟨_,rfl,rfl,_,rfl,?_⟩
  by_cases hs:s=0
  · subst hs
    rw [if_pos rfl] at q
    refine jEy rfl ?_
    refine ⟨_,rfl,x,yG,dx,_,_,rfl,hx,T.cl_Job,T.n_Job_cover,jF6 _ _ _ _ _ _ _ _ _ _,(by cases j.cover <;> rfl),_,rfl,?_⟩
    cases e:j.cover with
    | none =>
      rw [e] at q
      exact jAT ⟨_,rfl,x,yG,dx,_,_,rfl,hx,T.cl_Job,T.n_Job_paper,jF5 _ _ _ _ _ _ _ _ _ _,q⟩
    | some z =>
      rw [e] at q hx
      exact jA6 ⟨_,rfl,x,yG,dx,_,_,rfl,hx,T.cl_Job,T.n_Job_cover,jF6 _ _ _ _ _ _ _ _ _ _,q⟩
  · rw [if_neg hs] at q
    exact jBy (by intro z;injection z with z;exact hs z) (jAT ⟨_,rfl,x,yG,dx,_,_,rfl,hx,T.cl_Job,T.n_Job_paper,jF5 _ _ _ _ _ _ _ _ _ _,q⟩)
theorem jJn:jAn ["page","colour"] ["page","colour"] (jAb jCu):=⟨rfl,rfl,rfl,by decide +kernel,rfl,by decide +kernel,by decide +kernel⟩
theorem jJo (F:Fun K "is_coloured" "is_coloured" jCu fa fd) (T:Txt K mg yQ yZ yX yY yV yJ yW yU yK yG cQ cZ cV cK cG vQ vZ vX vY)  :
    jAh P w K mg base CX0 1 fa fd ["page","colour"] (jEW K):=by
  refine F.ok jJn (fun vs H Q E h=>?_) (fun cdv A outer s H vs Q E hr h=>?_)
  · obtain ⟨x,cv,c,rfl,_⟩:=h
    rfl
  obtain ⟨x,cv,c,rfl,hc,q⟩:=h
  refine ⟨_,(jAf (jAp (jG0 (jFz jHo (pv 1) jAY (jAw _)) (jH7 (jNj op_le op_le (jAG jAM (pv 1) jAg (fun _ _=>rfl)) (pv 0) (jAG jAM (pv 1) jAg (fun _ _=>rfl))))))),?_⟩
  cases c with
  | none =>
    have e:cv=.non:=hc
    subst e
    exact ⟨_,rfl,rfl,false,rfl,jAT q⟩
  | some c =>
    obtain ⟨t,rfl,ht⟩:=hc
    refine ⟨_,rfl,rfl,true,rfl,jA6 ?_⟩
    refine ⟨_,rfl,t,_,_,_,rfl,rfl,SqT.of ht,jAC (j:=0) rfl,_,rfl,_,_,rfl,rfl,decide (c.1≤x),rfl,?_⟩
    have e:jHy (some c) x=(decide (c.1≤x) && decide (x≤c.2)):=rfl
    rw [e] at q
    cases h1:decide (c.1≤x) with
    | false =>
      rw [h1] at q
      exact jAT q
    | true =>
      rw [h1] at q
      exact jA6 ⟨_,rfl,t,_,_,_,rfl,rfl,SqT.of ht,jAC (j:=1) rfl,_,_,rfl,rfl,q⟩
theorem jK4 (xs:List Int) (p:Int→Bool):(((xs.map V.int).filter fun v=>match v with | .int x=>p x | _=>false).map fun v=>v)=(xs.filter p).map V.int:=by
  rw [List.map_id']
  induction xs with
  | nil=>rfl
  | cons x r ih =>
    rw [List.map_cons,List.filter_cons,List.filter_cons]
    dsimp only
    by_cases h:p x=true
    · rw [if_pos h,if_pos h,List.map_cons,ih]
    · rw [if_neg h,if_neg h,ih]
theorem jHc:jAn ["sheet","colour","printed","coloured"] ["sheet","colour"] (jAb jES):=⟨rfl,rfl,rfl,by decide +kernel,rfl,by decide +kernel,by decide +kernel⟩
theorem jM8 (F:Fun K "ink_of" "ink_of" jES fa fd) (T:Txt K mg yQ yZ yX yY yV yJ yW yU yK yG cQ cZ cV cK cG vQ vZ vX vY) (D_is_coloured:Dfn P w K mg base 1 "is_coloured" ["page","colour"] (jEW K)) :
    jAh P w K mg base CX0 2 fa fd ["sheet","colour"] (jHb K):=by
  refine F.ok jHc (fun vs H Q E h=>?_) (fun cdv A outer s H vs Q E hr h=>?_)
  · obtain ⟨t,cv,s,c,rfl,_⟩:=h
    rfl
  obtain ⟨t,cv,s,c,rfl,⟨ta,fa',ba,rfl,ht,hf,hb⟩,lf,lb,hc,q⟩:=h
  refine ⟨_,(jAd (jLY (i:=2) (frees:=[]) ⟨by decide +kernel,rfl,rfl,by decide +kernel,trivial,by decide +kernel,jBs rfl,rfl⟩ jHc.nd rfl rfl rfl (jCO (jAF jKy (jAG jAM (pv 0) jAg (fun _ _=>rfl)) (jAG jAM (pv 0) jAg (fun _ _=>rfl)))) (fun _ _ _ _=>by exact (jHZ (jAu jD_ (pv 0) (jFo T.NOTHING rfl) (jAw _)))) (fun _ _ _ _=>by exact (pv 0)))
  (jAd (jAE (i:=3) jHc.nd rfl (by first | exact Or.inl rfl | exact Or.inr rfl) (jAP jAS rfl T.len PySem.boot_len (jAa (jEo (frees:=[("colour",1)]) ⟨by decide +kernel,rfl,rfl,by decide +kernel,⟨⟨rfl,rfl,rfl,by decide +kernel⟩,trivial⟩,by decide +kernel,jBs rfl,rfl⟩ rfl (jCO (pv 2)) (fun _ _ _ _=>by exact (jHZ (jMR (K:=K) rfl (jAA D_is_coloured (hr.mono (by decide)) rfl (jAa (pv 0) (jAa (pv 1) jAe))) (fun _=>rfl)))) (fun _ _ _ _=>by exact (pv 0))) jAe)))
  (jAf (jAp (jAV (jAa (jAF jE5 (jAP jAS rfl T.len PySem.boot_len (jAa (pv 2) jAe)) (pv 3)) (jAa (pv 3) jAe))))))),?_⟩
  refine ⟨_,rfl,ta,_,_,_,rfl,rfl,SqT.of ht,jAC (j:=0) rfl,_,rfl,ta,_,_,_,rfl,rfl,SqT.of ht,jAC (j:=1) rfl,fa',ba,_,_,rfl,rfl,hf,hb,(by rw [List.length_map,List.length_map];exact small (by omega)),fun pc npc=>?_⟩
  rw [← List.map_append]
  have s1:=jAl npc (.lst ((s.1 ++ s.2).map V.int))
  refine ⟨pc,rfl,⟨_,SqL.of jAc⟩,jFa (jGK (K:=K) (SqL.of jAc)) (fun v=>match v with | .int x=>decide (x≠0) | _=>false) (fun v=>v) ?_ (fun x hx H' R _ r=>?_) (fun x hx H' R sm _ r=>⟨_,rfl,r⟩) (fun D H2 s2 hD hH=>?_)⟩
  · rw [List.length_map,List.length_append]
    exact jBb (by omega)
  · obtain ⟨y,_,rfl⟩:=List.mem_map.mp hx
    refine ⟨_,rfl,rfl,_,rfl,?_⟩
    have e:(!decide (V.int y=V.int 0))=decide (y≠0):=by
      by_cases h:y=0
      · rw [decide_eq_true (by rw [h]),decide_eq_false (fun z=>z h)];rfl
      · rw [decide_eq_false (by intro z;injection z with z;exact h z),decide_eq_true h];rfl
    rw [e]
    exact r
  rw [jK4] at hH
  have hH':H2 D=some (.lst ((jDH s).map V.int)):=hH
  have lp:(jDH s).length≤200:=by
    refine Nat.le_trans (List.length_filter_le _ _) ?_
    rw [List.length_append]
    omega
  have s12:=s1.trans s2
  refine ⟨_,rfl,D,rfl,⟨_,SqL.of hH'⟩,jFa (jGK (K:=K) (SqL.of hH')) (fun v=>match v with | .int x=>jHy c x | _=>false) (fun v=>v) ?_ (fun x hx H' R sm r=>?_) (fun x hx H' R sm _ r=>⟨_,rfl,r⟩) (fun D2 H3 s3 hD2 hH3=>?_)⟩
  · rw [List.length_map]
    exact jBb (by omega)
  · obtain ⟨y,_,rfl⟩:=List.mem_map.mp hx
    exact ⟨_,rfl,_,rfl,y,cv,c,rfl,(hc.same s12).same sm,_,rfl,r⟩
  rw [jK4] at hH3
  refine ⟨D2,_,rfl,.inl (SqL.of hH3),?_⟩
  refine ⟨_,rfl,D,_,rfl,.inl (SqL.of (s3 _ _ hH')),_,rfl,_,_,rfl,rfl,_,rfl,small (by show 2≤1000;decide),fun p np=>?_⟩
  refine q p _ ((s12.trans s3).trans (jAl np _)) ((s12.trans s3).free np) ?_
  rw [jAc]
  unfold inkS
  simp only [List.length_map]
end
end My
namespace My
open PySem L2
open Blk (sg sg_inj sg_app)
section
variable {P:Program} {w:World} {K:PySem.W.Frag} {mg:Str→Option Value} {base:Heap} {fa yQ yZ yX yY yV yJ yW yU yK yG cQ cZ cV cK cG vQ vZ vX vY:Addr} {fd:FuncData}
noncomputable def jEF (K:PySem.W.Frag):Sp:=fun vs H Q _=>∃ (a:Addr) (k:Int) (ns:List Int),vs=[.ref a,.int k]∧SqL K H a (ns.map V.int)∧0≤k∧Q (.int (ns.getD k.toNat 0)) H
theorem jIQ:jAn ["_law_script","_law_k"] ["_law_script","_law_k"] (jAb jCf):=⟨rfl,rfl,rfl,by decide +kernel,rfl,by decide +kernel,by decide +kernel⟩
theorem jIR (F:Fun K "_law_cell_at" "_law_cell_at" jCf fa fd) (T:Txt K mg yQ yZ yX yY yV yJ yW yU yK yG cQ cZ cV cK cG vQ vZ vX vY)  :
    jAh P w K mg base CX0 1 fa fd ["_law_script","_law_k"] (jEF K):=by
  refine F.ok jIQ (fun vs H Q E h=>?_) (fun cdv A outer s H vs Q E hr h=>?_)
  · obtain ⟨a,k,ns,rfl,_⟩:=h
    rfl
  obtain ⟨a,k,ns,rfl,hS,k0,q⟩:=h
  refine ⟨_,(jAd (jAJ (jAu jHm (pv 1) (jAP jAS rfl T.len PySem.boot_len (jAa (pv 0) jAe)) (jAw _)) (jAf (jAp (jAG jBV (pv 0) (pv 1) (fun _ _=>rfl)))) jAz)
  (jAf (jAp jAg))),?_⟩
  refine ⟨_,rfl,_,rfl,a,_,rfl,.inl hS,_,_,rfl,rfl,_,rfl,?_⟩
  refine jCi (fun c=>?_) (fun c=>?_)
  · refine ⟨_,rfl,_,rfl,a,_,_,rfl,rfl,hS,k0,of_decide_eq_true c,fun v hv=>?_⟩
    rw [List.getElem?_map] at hv
    obtain ⟨z,ez,rfl⟩:=Option.map_eq_some_iff.mp hv
    rw [List.getD_eq_getElem?_getD,ez] at q
    exact q
  · have c':¬ k < ((ns.map V.int).length:Int):=fun z=>c (decide_eq_true z)
    rw [List.length_map] at c'
    rw [List.getD_eq_getElem?_getD,List.getElem?_eq_none (by omega)] at q
    exact q
noncomputable def jDI (c k m:Int):Int:=((c % 1000003 + 1) * (k * k + 48271)) % (([65537,64007,62003]:List Int).getD (k % 3).toNat 1) % m
theorem jGB {c k m:Int} (h:0 < m):0≤jDI c k m:=Int.emod_nonneg _ (by omega)
theorem jHd {c k m:Int} (h:0 < m):jDI c k m < m:=Int.emod_lt_of_pos _ h
noncomputable def jE3 (K:PySem.W.Frag):Sp:=fun vs H Q _=>∃ c k m:Int,vs=[.int c,.int k,.int m]∧0≤k∧k≤10000∧0 < m∧∀ H',jAr H H'→Q (.int (jDI c k m)) H'
theorem jLC:jAn ["_law_cell","_law_k","_law_many"] ["_law_cell","_law_k","_law_many"] (jAb jDY):=⟨rfl,rfl,rfl,by decide +kernel,rfl,by decide +kernel,by decide +kernel⟩
theorem jLD (F:Fun K "_law_mix" "_law_mix" jDY fa fd) (T:Txt K mg yQ yZ yX yY yV yJ yW yU yK yG cQ cZ cV cK cG vQ vZ vX vY)  :
    jAh P w K mg base CX0 1 fa fd ["_law_cell","_law_k","_law_many"] (jE3 K):=by
  refine F.ok jLC (fun vs H Q E h=>?_) (fun cdv A outer s H vs Q E hr h=>?_)
  · obtain ⟨c,k,m,rfl,_⟩:=h
    rfl
  obtain ⟨c,k,m,rfl,k0,k1,m0,q⟩:=h
  have z3:3≤sizeLine:=small (by decide)
  refine ⟨_,(jAf (jAp (jAF jCG (jAF jCG (jAF jFF (jAF jA0 (jAF jCG (pv 0) jAg) jAg) (jAF jA0 (jAF jFF (pv 1) (pv 1)) jAg)) (jAG jBV (jAZ (jAa jAg (jAa jAg (jAa jAg jAe)))) (jAF jCG (pv 1) jAg) (fun _ _=>rfl))) (pv 2)))),?_⟩
  have b0:=Int.emod_nonneg c (show (1000003:Int)≠0 by decide)
  have b1:=Int.emod_lt_of_pos c (show (0:Int) < 1000003 by decide)
  have d0:=Int.emod_nonneg k (show (3:Int)≠0 by decide)
  have d1:=Int.emod_lt_of_pos k (show (0:Int) < 3 by decide)
  refine ⟨_,rfl,_,_,rfl,rfl,(by show (0:Int) < 1000003;decide),_,_,rfl,rfl,_,rfl,_,rfl,_,_,rfl,rfl,.inr ⟨by omega,by omega⟩,_,_,rfl,rfl,_,_,rfl,rfl,.inl ⟨by omega,by omega⟩,z3,fun p np=>?_⟩
  have s1:=jAl np (.lst [V.int 65537,V.int 64007,V.int 62003])
  have h1:upd H p (.lst [V.int 65537,V.int 64007,V.int 62003]) p=some (.lst (([65537,64007,62003]:List Int).map V.int)):=jAc
  generalize upd H p (.lst [V.int 65537,V.int 64007,V.int 62003])=H1 at s1 h1 ⊢
  refine ⟨_,rfl,_,_,rfl,rfl,(by show (0:Int) < 3;decide),p,_,_,rfl,rfl,SqL.of h1,d0,(by show k % 3 < 3;exact d1),fun v hv=>?_⟩
  rw [List.getElem?_map] at hv
  obtain ⟨d,ed,rfl⟩:=Option.map_eq_some_iff.mp hv
  have hd:0 < d:=by
    have hm:=List.mem_of_getElem? ed
    simp only [List.mem_cons,List.not_mem_nil,or_false] at hm
    rcases hm with rfl | rfl | rfl <;> decide
  have eg:([65537,64007,62003]:List Int).getD (k % 3).toNat 1=d:=by rw [List.getD_eq_getElem?_getD,ed];rfl
  refine ⟨_,_,rfl,rfl,hd,_,rfl,_,_,rfl,rfl,m0,?_⟩
  have:=q H1 s1
  unfold jDI at this
  rw [eg] at this
  exact this
noncomputable abbrev abc:Str:=Str.ofString "abcdefghijklmnopqrstuvwxyz"
noncomputable def ltr5 (j:Nat):Nat:=abc.cps.toList.getD j 0
noncomputable def stp (c t:Int) (k:Nat):Int:=c / 12 + (k:Int) * (k:Int) + (if (k:Int)=c / 144 % (1 + c % 12) then t else 0)
noncomputable def jEG (c t:Int) (n:Nat):List Nat:=(List.range n).map fun k=>ltr5 (stp c t k % 26).toNat
noncomputable def jF9 (c t:Int) (n:Nat):Str:=⟨(jEG c t n).toArray⟩
theorem jJT {c t:Int} {i:Nat} {S:Int} {ch:Nat} (e:S=stp c t i) (h:abc.cps.toList[(S % 26).toNat]?=some ch):jF9 c t i ++ (⟨#[ch]⟩:Str)=jF9 c t (i + 1):=by
  refine Blk.sg_inj ?_
  rw [Blk.sg_app]
  show jEG c t i ++ [ch]=jEG c t (i + 1)
  unfold jEG
  rw [List.range_succ,List.map_append]
  have:ltr5 (stp c t i % 26).toNat=ch:=by
    unfold ltr5
    rw [List.getD_eq_getElem?_getD,← e,h]
    rfl
  rw [List.map_cons,List.map_nil,this]
theorem jNE {c t:Int} {n:Nat}:(jF9 c t n).length=n:=by
  show (jEG c t n).toArray.size=n
  unfold jEG
  rw [List.size_toArray,List.length_map,List.length_range]
noncomputable def jEH (c:Int):Nat:=(1 + c % 12).toNat
theorem jNF:∀ a b:Nat,a < 26→b < 26→ltr5 a=ltr5 b→a=b:=by
  have h:∀ a:Fin 26,∀ b:Fin 26,ltr5 a.1=ltr5 b.1→a=b:=by decide +kernel
  intro a b ha hb e
  exact congrArg Fin.val (h ⟨a,ha⟩ ⟨b,hb⟩ e)
theorem word_ne {c t u:Int} (t0:0≤t) (t1:t < 26) (u0:0≤u) (u1:u < 26) (e:jF9 c t (jEH c)=jF9 c u (jEH c)):t=u:=by
  have m0:=Int.emod_nonneg c (show (12:Int)≠0 by decide)
  have m1:=Int.emod_lt_of_pos c (show (0:Int) < 12 by decide)
  have ez:((jEH c:Nat):Int)=1 + c % 12:=by unfold jEH;omega
  have e2:jEG c t (jEH c)=jEG c u (jEH c):=congrArg Blk.sg e
  have p0:=Int.emod_nonneg (c / 144) (show (1 + c % 12:Int)≠0 by omega)
  have p1:=Int.emod_lt_of_pos (c / 144) (show (0:Int) < 1 + c % 12 by omega)
  obtain ⟨p,hp⟩:∃ p:Nat,(p:Int)=c / 144 % (1 + c % 12):=⟨(c / 144 % (1 + c % 12)).toNat,by omega⟩
  have hk:p < jEH c:=by omega
  have e3:(jEG c t (jEH c))[p]?=(jEG c u (jEH c))[p]?:=by rw [e2]
  unfold jEG at e3
  rw [List.getElem?_map,List.getElem?_map,List.getElem?_range hk] at e3
  have e4:=Option.some.inj e3
  have a0:=Int.emod_nonneg (stp c t p) (show (26:Int)≠0 by decide)
  have a1:=Int.emod_lt_of_pos (stp c t p) (show (0:Int) < 26 by decide)
  have b0:=Int.emod_nonneg (stp c u p) (show (26:Int)≠0 by decide)
  have b1:=Int.emod_lt_of_pos (stp c u p) (show (0:Int) < 26 by decide)
  have h1:=jNF _ _ (by omega) (by omega) e4
  have h2:stp c t p % 26=stp c u p % 26:=by omega
  unfold stp at h2
  rw [if_pos hp,if_pos hp] at h2
  generalize c / 12 + (p:Int) * (p:Int)=X at h2
  omega
noncomputable def jFO (K:PySem.W.Frag):Sp:=fun vs H Q _=>∃ c t:Int,vs=[.int c,.int t]∧Q (.str (jF9 c t (jEH c))) H
theorem jBO:jAn ["_law_cell","_law_turn","_law_letters","_law_size","_law_word_here","_law_k","_law_step"] ["_law_cell","_law_turn"] (jAb jDn):=⟨rfl,rfl,rfl,by decide +kernel,rfl,by decide +kernel,by decide +kernel⟩
theorem jK5 (F:Fun K "_law_word" "_law_word" jDn fa fd) (T:Txt K mg yQ yZ yX yY yV yJ yW yU yK yG cQ cZ cV cK cG vQ vZ vX vY)  :
    jAh P w K mg base CX0 1 fa fd ["_law_cell","_law_turn"] (jFO K):=by
  refine F.ok jBO (fun vs H Q E h=>?_) (fun cdv A outer s H vs Q E hr h=>?_)
  · obtain ⟨c,t,rfl,_⟩:=h
    rfl
  obtain ⟨c,t,rfl,q⟩:=h
  refine ⟨_,(jAd (jAE (i:=2) jBO.nd rfl (by first | exact Or.inl rfl | exact Or.inr rfl) jAj)
  (jAd (jAE (i:=3) jBO.nd rfl (by first | exact Or.inl rfl | exact Or.inr rfl) (jAF jA0 jAg (jAF jCG (pv 0) jAg)))
  (jAd (jAE (i:=4) jBO.nd rfl (by first | exact Or.inl rfl | exact Or.inr rfl) jAj)
  (jAd (jD5 PassesOwn.never rfl (jEl rfl T.range (jAa (pv 3) jAe)) (jBA (i:=5) jBO.nd rfl (by first | exact Or.inl rfl | exact Or.inr rfl))
  (jAd (jAE (i:=6) jBO.nd rfl (by first | exact Or.inl rfl | exact Or.inr rfl) (jAF jA0 (jAF jHl (pv 0) jAg) (jAF jFF (pv 5) (pv 5))))
  (jAd (jAJ (jAu jA_ (pv 5) (jAF jCG (jAF jHl (pv 0) jAg) (pv 3)) (jAw _)) (jAf (jAE (i:=6) jBO.nd rfl (by first | exact Or.inl rfl | exact Or.inr rfl) (jAF jA0 (pv 6) (pv 1)))) jAz)
  (jAf (jAE (i:=4) jBO.nd rfl (by first | exact Or.inl rfl | exact Or.inr rfl) (jAF jIa (pv 4) (jAG ix_strA (pv 2) (jAF jCG (pv 6) jAg) (fun _ _=>rfl))))))))
  (jAf (jAp (pv 4))))))),?_⟩
  have m0:=Int.emod_nonneg c (show (12:Int)≠0 by decide)
  have m1:=Int.emod_lt_of_pos c (show (0:Int) < 12 by decide)
  have l26:abc.length=26:=by decide +kernel
  refine ⟨_,rfl,_,_,rfl,rfl,(by show (0:Int) < 12;decide),_,_,rfl,rfl,?_⟩
  refine ⟨_,rfl,_,rfl,by omega,by omega,jG2 (lo:=0) (n:=(1 + c % 12).toNat) (fun i σ H'=>H'=H∧∃ (v5 v6:Option V),σ=[some (.int c),some (.int t),some (.str abc),some (.int (1 + c % 12)),some (.str (jF9 c t i)),v5,v6]) ⟨rfl,_,_,rfl⟩ (fun i σ H' hi z=>?_) (fun σ H' z=>?_)⟩
  · obtain ⟨rfl,v5,v6,rfl⟩:=z
    rw [Int.zero_add]
    refine ⟨_,rfl,_,_,rfl,rfl,⟨by decide,by decide⟩,_,rfl,_,rfl,_,_,rfl,rfl,.inl ⟨by omega,by omega⟩,_,_,rfl,rfl,?_⟩
    refine ⟨_,rfl,_,rfl,_,_,rfl,rfl,⟨by decide,by decide⟩,_,rfl,_,_,rfl,rfl,(by show (0:Int) < 1 + c % 12;omega),rfl,_,rfl,?_⟩
    have one:∀ ch:Nat,(⟨#[ch]⟩:Str).length=1:=fun _=>rfl
    have un:∀ {a b:Int},decide (V.int a=V.int b)=true→a=b:=fun h=>by
      have:=of_decide_eq_true h
      injection this
    have nu:∀ {a b:Int},¬ decide (V.int a=V.int b)=true→¬ a=b:=fun h e=>h (decide_eq_true (by rw [e]))
    refine jCi (fun c1=>⟨_,rfl,_,rfl,_,_,rfl,rfl,?_⟩) (fun c1=>?_)
    all_goals
      refine ⟨_,rfl,_,rfl,_,rfl,_,_,rfl,rfl,(by show (0:Int) < 26;decide),_,_,rfl,rfl,(by rw [l26];exact small (by decide)),Int.emod_nonneg _ (by decide),(by rw [l26];exact Int.emod_lt_of_pos _ (by decide)),fun ch hch=>?_⟩
      refine ⟨_,_,rfl,rfl,(by rw [one,jNE];exact small (by omega)),?_⟩
    · rw [jJT (i:=i) (by unfold stp;rw [if_pos (un c1)]) hch]
      exact ⟨rfl,_,_,rfl⟩
    · rw [jJT (i:=i) (by unfold stp;rw [if_neg (nu c1),Int.add_zero]) hch]
      exact ⟨rfl,_,_,rfl⟩
  · obtain ⟨rfl,v5,v6,rfl⟩:=z
    exact ⟨_,rfl,q⟩
end
end My
namespace My
open PySem L2
open Blk (sg sg_inj sg_app)
section
variable {P:Program} {w:World} {K:PySem.W.Frag} {mg:Str→Option Value} {base:Heap} {fa yQ yZ yX yY yV yJ yW yU yK yG cQ cZ cV cK cG vQ vZ vX vY:Addr} {fd:FuncData}
theorem jK6:jAn ["self","job"] ["self","job"] (jAb jDc):=⟨rfl,rfl,rfl,by decide +kernel,rfl,by decide +kernel,by decide +kernel⟩
theorem jK7 (F:Fun K "__init__" "Over.__init__" jDc fa fd) (T:Txt K mg yQ yZ yX yY yV yJ yW yU yK yG cQ cZ cV cK cG vQ vZ vX vY)  :
    jAh P w K mg base CX0 1 fa fd ["self","job"] (jA8 vZ "job"):=by
  refine F.ok jK6 (fun vs H Q E h=>?_) (fun cdv A outer s H vs Q E hr h=>?_)
  · obtain ⟨x,y,rfl,_⟩:=h
    rfl
  obtain ⟨x,y,rfl,hx,q⟩:=h
  refine ⟨_,(jAd (jAN (jEQ T.in_HallError rfl T.mg_HallError (jAa (pv 0) (jAa (pv 1) jAe))))
  (jAf (jFB (pv 0) (pv 1) rfl))),?_⟩
  refine ⟨_,rfl,_,rfl,x,_,none,[y],rfl,(by simp),hx,T.x_Over.m,?_⟩
  refine ⟨_,rfl,_,rfl,.inl ⟨x,_,rfl,hx,T.x_Over.i.c,T.x_Over.n _ (.head _),fun dx nd ne=>?_⟩⟩
  exact q _ (jEU nd) (jGw ne)
theorem jIS:jAn ["self","job"] ["self","job"] (jAb jB3):=⟨rfl,rfl,rfl,by decide +kernel,rfl,by decide +kernel,by decide +kernel⟩
theorem jIT (F:Fun K "__init__" "Nowhere.__init__" jB3 fa fd) (T:Txt K mg yQ yZ yX yY yV yJ yW yU yK yG cQ cZ cV cK cG vQ vZ vX vY)  :
    jAh P w K mg base CX0 1 fa fd ["self","job"] (jA8 vX "job"):=by
  refine F.ok jIS (fun vs H Q E h=>?_) (fun cdv A outer s H vs Q E hr h=>?_)
  · obtain ⟨x,y,rfl,_⟩:=h
    rfl
  obtain ⟨x,y,rfl,hx,q⟩:=h
  refine ⟨_,(jAd (jAN (jEQ T.in_HallError rfl T.mg_HallError (jAa (pv 0) (jAa (pv 1) jAe))))
  (jAf (jFB (pv 0) (pv 1) rfl))),?_⟩
  refine ⟨_,rfl,_,rfl,x,_,none,[y],rfl,(by simp),hx,T.x_Nowhere.m,?_⟩
  refine ⟨_,rfl,_,rfl,.inl ⟨x,_,rfl,hx,T.x_Nowhere.i.c,T.x_Nowhere.n _ (.head _),fun dx nd ne=>?_⟩⟩
  exact q _ (jEU nd) (jGw ne)
noncomputable def prV:Option Addr→V
  | none=>.non
  | some a=>.ref a
noncomputable def jGQ (cJ:Addr) (H:Hp) (x:Addr) (nm:Str) (cp:Nat) (j:Jv):Prop:=∃ dx b i k cv,H x=some (.ins cJ dx (jEi (.str nm) b (.int (j.n:Int)) (.int (cp:Int)) (.str (Ly.text j.l)) (.str j.paper) (oV j.cover) cv i k))∧jGP H cv j.colour
theorem jGQ.jo {cJ:Addr} {H:Hp} {x:Addr} {nm:Str} {cp:Nat} {j:Jv} (h:jGQ cJ H x nm cp j):JO cJ H x j:=let ⟨dx,b,i,k,cv,e,c⟩:=h;⟨dx,_,b,_,i,k,cv,e,c⟩
theorem jGQ.fr {cJ:Addr} {H H':Hp} {x:Addr} {nm:Str} {cp:Nat} {j:Jv} (h:jGQ cJ H x nm cp j) (kx:∀ o,H x=some o→H' x=some o) (kt:∀ b xs,H b=some (.tup xs)→H' b=some (.tup xs)):jGQ cJ H' x nm cp j:=by
  obtain ⟨dx,b,i,k,cv,e,c⟩:=h
  refine ⟨dx,b,i,k,cv,kx _ e,?_⟩
  cases hc:j.colour with
  | none=>rw [hc] at c;exact c
  | some z=>rw [hc] at c;obtain ⟨t,e1,e2⟩:=c;exact ⟨t,e1,kt _ _ e2⟩
noncomputable def jHe (H:Hp) (p:Addr) (is:List (Int×Int)):Prop:=∃ ys,H p=some (.lst ys)∧ys.length=is.length∧∀ (i:Nat) y s,ys[i]?=some y→is[i]?=some s→∃ t,y=.ref t∧H t=some (.tup [.int s.1,.int s.2])
theorem jHe.fr {H H':Hp} {p:Addr} {is:List (Int×Int)} (h:jHe H p is) (kx:∀ o,H p=some o→H' p=some o) (kt:∀ b xs,H b=some (.tup xs)→H' b=some (.tup xs)):jHe H' p is:=let ⟨ys,e,l,g⟩:=h;⟨ys,kx _ e,l,fun i y s a b=>let ⟨t,e1,e2⟩:=g i y s a b;⟨t,e1,kt _ _ e2⟩⟩
structure RD where
  dx:Addr
  jb:Addr
  il:Addr
  nm:Str
  cp:Nat
  j:Jv
  inks:List (Int×Int)
  ps:Nat
  pr:Option Addr
  sl:Bool
  br:Bool
noncomputable def RD.fs (r:RD):List (Str×V):=[("job",.ref r.jb),("inks",.ref r.il),("passed",.int (r.ps:Int)),("printer",prV r.pr),("slipped",.bl r.sl),("broken",.bl r.br)]
structure jA4 (cR cJ:Addr) (H:Hp) (x:Addr) (r:RD):Prop where
  o:H x=some (.ins cR r.dx r.fs)
  j:jGQ cJ H r.jb r.nm r.cp r.j
  i:jHe H r.il r.inks
  n:r.jb≠x
  c1:1≤r.cp
  c2:r.cp≤99
  i1:1≤r.inks.length
  i2:r.inks.length≤999
theorem jA4.fr {cR cJ:Addr} {H H':Hp} {x:Addr} {r:RD} (h:jA4 cR cJ H x r) (kx:∀ b C d fs,H b=some (.ins C d fs)→H' b=some (.ins C d fs)) (kl:∀ o,H r.il=some o→H' r.il=some o) (kt:∀ b xs,H b=some (.tup xs)→H' b=some (.tup xs)):jA4 cR cJ H' x r:=by
  obtain ⟨dx,b,i,k,cv,e,c⟩:=id h.j
  exact { h with o:=kx _ _ _ _ h.o,j:=h.j.fr (fun o e'=>by rw [e] at e';cases e';exact kx _ _ _ _ e) kt,i:=h.i.fr kl kt }
theorem jA4.same {cR cJ:Addr} {H H':Hp} {x:Addr} {r:RD} (h:jA4 cR cJ H x r) (k:jAr H H'):jA4 cR cJ H' x r:=h.fr (fun b C d fs e=>k _ _ e) (fun o e=>k _ _ e) (fun b xs e=>k _ _ e)
theorem jA4.set {cR cJ:Addr} {H:Hp} {x:Addr} {r:RD} (h:jA4 cR cJ H x r) (ps:Nat) (pr:Option Addr) (sl br:Bool):jA4 cR cJ (upd H x (.ins cR r.dx ({ r with ps:=ps,pr:=pr,sl:=sl,br:=br }:RD).fs)) x { r with ps:=ps,pr:=pr,sl:=sl,br:=br }:=by
  obtain ⟨ys,hy,_⟩:=id h.i
  exact { h with o:=jAc,j:=h.j.fr (fun o e=>by rw [jAi h.n];exact e) (fun b xs e=>by rw [jAi (jAD e h.o (by intro z;cases z))];exact e),i:=h.i.fr (fun o e=>by rw [jAi (jAD hy h.o (by intro z;cases z))];exact e) (fun b xs e=>by rw [jAi (jAD e h.o (by intro z;cases z))];exact e) }
noncomputable def RD.tot (r:RD):Nat:=r.inks.length * r.cp
noncomputable def jD4 (cR cJ cP cS cY cM cW:Addr):Sp:=fun vs H Q _=>∃ x r,vs=[.ref x]∧jA4 cR cJ H x r∧Q (.int (r.inks.length:Int)) H
theorem jLE:jAn ["self"] ["self"] (jAb jDT):=⟨rfl,rfl,rfl,by decide +kernel,rfl,by decide +kernel,by decide +kernel⟩
theorem jLF (F:Fun K "each" "Run.each" jDT fa fd) (T:Txt K mg yQ yZ yX yY yV yJ yW yU yK yG cQ cZ cV cK cG vQ vZ vX vY)  :
    jAh P w K mg base CX0 1 fa fd ["self"] (jD4 yK yG cZ cQ yJ yW yU):=by
  refine F.ok jLE (fun vs H Q E h=>?_) (fun cdv A outer s H vs Q E hr h=>?_)
  · obtain ⟨x,r,rfl,_⟩:=h
    rfl
  obtain ⟨x,r,rfl,R,q⟩:=h
  refine ⟨_,(jAf (jAp (jAP jAS rfl T.len PySem.boot_len (jAa (jAs (pv 0) rfl) jAe)))),?_⟩
  obtain ⟨ys,hy,ly,_⟩:=id R.i
  refine ⟨_,rfl,x,yK,r.dx,_,_,rfl,R.o,T.cl_Run,T.n_Run_inks,rfl,r.il,_,rfl,.inl (SqL.of hy),?_⟩
  rw [ly]
  exact q
noncomputable def jD9 (cR cJ cP cS cY cM cW:Addr):Sp:=fun vs H Q _=>∃ x r,vs=[.ref x]∧jA4 cR cJ H x r∧Q (.int (r.tot:Int)) H
theorem jK8:jAn ["self"] ["self"] (jAb jDk):=⟨rfl,rfl,rfl,by decide +kernel,rfl,by decide +kernel,by decide +kernel⟩
theorem jK9 (F:Fun K "total" "Run.total" jDk fa fd) (T:Txt K mg yQ yZ yX yY yV yJ yW yU yK yG cQ cZ cV cK cG vQ vZ vX vY) (D_Run_each:MtE P w K mg base 1 "each" yK ["self"] (jD4 yK yG cZ cQ yJ yW yU)) :
    jAh P w K mg base CX0 2 fa fd ["self"] (jD9 yK yG cZ cQ yJ yW yU):=by
  refine F.ok jK8 (fun vs H Q E h=>?_) (fun cdv A outer s H vs Q E hr h=>?_)
  · obtain ⟨x,r,rfl,_⟩:=h
    rfl
  obtain ⟨x,r,rfl,R,q⟩:=h
  refine ⟨_,(jAf (jAp (jAF jFF (jAv 1 jA7 (hr.mono (by decide)) (pv 0)) (jAs (jAs (pv 0) rfl) rfl)))),?_⟩
  obtain ⟨dx,b,i,k,cv,e,c⟩:=id R.j
  have:=R.i2
  have:=R.c2
  refine ⟨_,rfl,x,_,r.dx,_,_,_,rfl,R.o,rfl,T.cl_Run,D_Run_each,x,r,rfl,R,_,rfl,x,yK,r.dx,_,_,rfl,R.o,T.cl_Run,T.n_Run_job,rfl,r.jb,yG,dx,_,_,rfl,e,T.cl_Job,T.n_Job_copies,jF3 _ _ _ _ _ _ _ _ _ _,_,_,rfl,rfl,.inl ⟨by omega,by omega⟩,?_⟩
  have e2:((r.tot:Nat):Int)=(r.inks.length:Int) * (r.cp:Int):=by unfold RD.tot;rw [Int.natCast_mul]
  rw [e2] at q
  exact q
noncomputable def jF_ (cR cJ cP cS cY cM cW:Addr):Sp:=fun vs H Q _=>∃ x r,vs=[.ref x]∧jA4 cR cJ H x r∧Q (.int (r.ps:Int)) H
theorem jMn:jAn ["self"] ["self"] (jAb jEq):=⟨rfl,rfl,rfl,by decide +kernel,rfl,by decide +kernel,by decide +kernel⟩
theorem jMo (F:Fun K "out" "Run.out" jEq fa fd) (T:Txt K mg yQ yZ yX yY yV yJ yW yU yK yG cQ cZ cV cK cG vQ vZ vX vY)  :
    jAh P w K mg base CX0 1 fa fd ["self"] (jF_ yK yG cZ cQ yJ yW yU):=by
  refine F.ok jMn (fun vs H Q E h=>?_) (fun cdv A outer s H vs Q E hr h=>?_)
  · obtain ⟨x,r,rfl,_⟩:=h
    rfl
  obtain ⟨x,r,rfl,R,q⟩:=h
  refine ⟨_,(jAf (jAp (jAs (pv 0) rfl))),?_⟩
  exact ⟨_,rfl,x,yK,r.dx,_,_,rfl,R.o,T.cl_Run,T.n_Run_passed,rfl,q⟩
noncomputable def jCL (cR cJ cP cS cY cM cW:Addr):Sp:=fun vs H Q _=>∃ x r,vs=[.ref x]∧jA4 cR cJ H x r∧Q (.bl (decide (r.ps=r.tot))) H
theorem jK_:jAn ["self"] ["self"] (jAb jDl):=⟨rfl,rfl,rfl,by decide +kernel,rfl,by decide +kernel,by decide +kernel⟩
theorem jLa (F:Fun K "whole" "Run.whole" jDl fa fd) (T:Txt K mg yQ yZ yX yY yV yJ yW yU yK yG cQ cZ cV cK cG vQ vZ vX vY) (D_Run_total:MtE P w K mg base 2 "total" yK ["self"] (jD9 yK yG cZ cQ yJ yW yU)) :
    jAh P w K mg base CX0 3 fa fd ["self"] (jCL yK yG cZ cQ yJ yW yU):=by
  refine F.ok jK_ (fun vs H Q E h=>?_) (fun cdv A outer s H vs Q E hr h=>?_)
  · obtain ⟨x,r,rfl,_⟩:=h
    rfl
  obtain ⟨x,r,rfl,R,q⟩:=h
  refine ⟨_,(jAf (jAp (jFz jA_ (jAs (pv 0) rfl) (jAv 2 jA7 (hr.mono (by decide)) (pv 0)) (jAw _)))),?_⟩
  refine ⟨_,rfl,x,yK,r.dx,_,_,rfl,R.o,T.cl_Run,T.n_Run_passed,rfl,_,rfl,x,_,r.dx,_,_,_,rfl,R.o,rfl,T.cl_Run,D_Run_total,x,r,rfl,R,rfl,?_⟩
  have e:decide (V.int (r.ps:Int)=V.int (r.tot:Int))=decide (r.ps=r.tot):=by
    rw [Bool.eq_iff_iff,decide_eq_true_iff,decide_eq_true_iff]
    exact ⟨fun z=>by injection z with z;omega,fun z=>by rw [z]⟩
  rw [← e] at q
  exact q
noncomputable def jFw (cR cJ cP cS cY cM cW:Addr):Sp:=fun vs H Q _=>∃ x r,vs=[.ref x]∧jA4 cR cJ H x r∧(r.br=false→Q .non H)∧(r.br=true→∀ t H',jAr H H'→H' t=some (.tup [.int ((r.ps:Int) / (r.inks.length:Int) + 1),.int ((r.ps:Int) % (r.inks.length:Int) + 1)])→Q (.ref t) H')
theorem jLG:jAn ["self"] ["self"] (jAb jDU):=⟨rfl,rfl,rfl,by decide +kernel,rfl,by decide +kernel,by decide +kernel⟩
theorem jLH (F:Fun K "lack" "Run.lack" jDU fa fd) (T:Txt K mg yQ yZ yX yY yV yJ yW yU yK yG cQ cZ cV cK cG vQ vZ vX vY) (D_Run_each:MtE P w K mg base 1 "each" yK ["self"] (jD4 yK yG cZ cQ yJ yW yU)) :
    jAh P w K mg base CX0 2 fa fd ["self"] (jFw yK yG cZ cQ yJ yW yU):=by
  refine F.ok jLG (fun vs H Q E h=>?_) (fun cdv A outer s H vs Q E hr h=>?_)
  · obtain ⟨x,r,rfl,_⟩:=h
    rfl
  obtain ⟨x,r,rfl,R,q1,q2⟩:=h
  refine ⟨_,(jAd (jAJ (jCF (jAQ (jAs (pv 0) rfl) (fun _=>rfl))) (jAf (jAp jAY)) jAz)
  (jAf (jAp (jAV (jAa (jAF jA0 (jAF jHl (jAs (pv 0) rfl) (jAv 1 jA7 (hr.mono (by decide)) (pv 0))) jAg) (jAa (jAF jA0 (jAF jCG (jAs (pv 0) rfl) (jAv 1 jA7 (hr.mono (by decide)) (pv 0))) jAg) jAe)))))),?_⟩
  refine ⟨_,rfl,x,yK,r.dx,_,_,rfl,R.o,T.cl_Run,T.n_Run_broken,rfl,r.br,rfl,?_⟩
  have i1:=R.i1
  have i2:=R.i2
  cases e:r.br with
  | false=>exact jA6 (q1 e)
  | true =>
    refine jAT ⟨_,rfl,x,yK,r.dx,_,_,rfl,R.o,T.cl_Run,T.n_Run_passed,rfl,_,rfl,x,_,r.dx,_,_,_,rfl,R.o,rfl,T.cl_Run,D_Run_each,x,r,rfl,R,_,_,rfl,rfl,⟨by omega,by omega⟩,_,_,rfl,rfl,?_⟩
    refine ⟨_,rfl,x,yK,r.dx,_,_,rfl,R.o,T.cl_Run,T.n_Run_passed,rfl,_,rfl,x,_,r.dx,_,_,_,rfl,R.o,rfl,T.cl_Run,D_Run_each,x,r,rfl,R,_,_,rfl,rfl,(by omega),_,_,rfl,rfl,small (by show 2≤1000;decide),fun t nt=>q2 e t _ (jAl nt _) jAc⟩
noncomputable def jGR (cR cJ cP cS cY cM cW:Addr):Sp:=fun vs H Q _=>∃ x r,vs=[.ref x]∧jA4 cR cJ H x r∧(r.pr=none→Q .non H)∧∀ p,r.pr=some p→∃ d,jAO cP cS cY cM cW H p d∧Q (.str d.name) H
theorem jM9:jAn ["self"] ["self"] (jAb jET):=⟨rfl,rfl,rfl,by decide +kernel,rfl,by decide +kernel,by decide +kernel⟩
theorem jM_ (F:Fun K "at" "Run.at" jET fa fd) (T:Txt K mg yQ yZ yX yY yV yJ yW yU yK yG cQ cZ cV cK cG vQ vZ vX vY)  :
    jAh P w K mg base CX0 1 fa fd ["self"] (jGR yK yG cZ cQ yJ yW yU):=by
  refine F.ok jM9 (fun vs H Q E h=>?_) (fun cdv A outer s H vs Q E hr h=>?_)
  · obtain ⟨x,r,rfl,_⟩:=h
    rfl
  obtain ⟨x,r,rfl,R,q1,q2⟩:=h
  refine ⟨_,(jAf (jAp (jDw (jAu jGr (jAs (pv 0) rfl) jAY (jAw _)) jAY (jAs (jAs (pv 0) rfl) rfl)))),?_⟩
  refine ⟨_,rfl,x,yK,r.dx,_,_,rfl,R.o,T.cl_Run,T.n_Run_printer,rfl,?_⟩
  cases hp:r.pr with
  | none=>exact ⟨rfl,true,rfl,jA6 (q1 hp)⟩
  | some p =>
    obtain ⟨d,P,q⟩:=q2 p hp
    refine ⟨rfl,false,rfl,jAT ⟨_,rfl,x,yK,r.dx,_,_,rfl,R.o,T.cl_Run,T.n_Run_printer,rfl,?_⟩⟩
    rw [hp]
    exact ⟨p,cZ,d.dx,_,_,rfl,P.o,T.cl_Printer,T.n_Printer_name,rfl,q⟩
end
end My
namespace My
open PySem L2
open Blk (sg sg_inj sg_app)
section
variable {P:Program} {w:World} {K:PySem.W.Frag} {mg:Str→Option Value} {base:Heap} {fa yQ yZ yX yY yV yJ yW yU yK yG cQ cZ cV cK cG vQ vZ vX vY:Addr} {fd:FuncData}
noncomputable def jAH (H:Hp) (nm:Str) (ts:List V) (ns:List Int):Prop:=ts.length=ns.length∧∀ (i:Nat) y n,ts[i]?=some y→ns[i]?=some n→∃ t,y=.ref t∧H t=some (.tup [.str nm,.int n])
theorem jAH.fr {H H':Hp} {nm:Str} {ts:List V} {ns:List Int} (h:jAH H nm ts ns) (kt:∀ b xs,H b=some (.tup xs)→H' b=some (.tup xs)):jAH H' nm ts ns:=⟨h.1,fun i y n a b=>let ⟨t,e,e1⟩:=h.2 i y n a b;⟨t,e,kt _ _ e1⟩⟩
theorem jAH.same {H H':Hp} {nm:Str} {ts:List V} {ns:List Int} (h:jAH H nm ts ns) (s:jAr H H'):jAH H' nm ts ns:=h.fr fun b xs e=>s _ _ e
theorem jAH.get {H:Hp} {nm:Str} {ts:List V} {ns:List Int} (h:jAH H nm ts ns) {i:Nat} {y:V} (e:ts[i]?=some y):∃ t n,y=.ref t∧ns[i]?=some n∧H t=some (.tup [.str nm,.int n]):=by
  obtain ⟨n,en⟩:∃ n,ns[i]?=some n:=⟨_,List.getElem?_eq_getElem (by rw [← h.1];exact (List.getElem?_eq_some_iff.mp e).1)⟩
  obtain ⟨t,e1,e2⟩:=h.2 i y n e en
  exact ⟨t,n,e1,en,e2⟩
theorem jAH.drop1 {H:Hp} {nm:Str} {ts:List V} {ns:List Int} (h:jAH H nm ts ns):jAH H nm (ts.drop 1) (ns.drop 1):=⟨by rw [List.length_drop,List.length_drop,h.1],fun i y n a b=>by rw [List.getElem?_drop] at a b;exact h.2 _ y n a b⟩
theorem jAH.take1 {H:Hp} {nm:Str} {ts:List V} {ns:List Int} (h:jAH H nm ts ns):jAH H nm (ts.take 1) (ns.take 1):=⟨by rw [List.length_take,List.length_take,h.1],fun i y n a b=>by
  rw [List.getElem?_take] at a b
  by_cases c:i < 1
  · rw [if_pos c] at a b;exact h.2 i y n a b
  · rw [if_neg c] at a;cases a⟩
theorem jAH.snoc {H:Hp} {nm:Str} {ts:List V} {ns:List Int} {t:Addr} {n:Int} (h:jAH H nm ts ns) (e:H t=some (.tup [.str nm,.int n])):jAH H nm (ts ++ [.ref t]) (ns ++ [n]):=⟨by rw [List.length_append,List.length_append,h.1];rfl,fun i y m a b=>by
  by_cases c:i < ts.length
  · rw [List.getElem?_append_left c] at a
    rw [List.getElem?_append_left (by rw [← h.1];exact c)] at b
    exact h.2 i y m a b
  · rw [List.getElem?_append_right (by omega)] at a
    rw [List.getElem?_append_right (by rw [← h.1];omega),← h.1] at b
    have l:=(List.getElem?_eq_some_iff.mp a).1
    have l':i - ts.length < 1:=l
    rw [show i - ts.length=0 by omega] at a b
    obtain rfl:=Option.some.inj a
    obtain rfl:=Option.some.inj b
    exact ⟨t,rfl,e⟩⟩
theorem ifs_cut {t:TT} {A B C:TS} {D:jCq} {σ:St} {H:Hp} (P:Prop) (ht:∀ Q:Bool→Hp→Prop,(P→Q true H)→(¬ P→Q false H)→t σ H Q) (hA:P→A { D with nx:=C D } σ H) (hB:¬ P→B { D with nx:=C D } σ H):jGf (tIfS t A B) C D σ H:=ht _ (fun p=>by rw [if_pos rfl];exact hA p) (fun p=>by rw [if_neg (by decide)];exact hB p)
noncomputable def isSlip (H:Hp) (nm:Str) (v:V):Prop:=∃ a,v=.ref a∧H a=some (.tup [.str nm,.int (-1)])
noncomputable def jHz (H:Hp) (nm:Str) (v:V):Bool:=!@decide (isSlip H nm v) (Classical.propDecidable _)
theorem jLb {H:Hp} {nm:Str} {t:Addr} {n:Int} (h:H t=some (.tup [.str nm,.int n])):jHz H nm (.ref t)=!decide (V.int n=V.int (-1)):=by
  unfold jHz
  refine congrArg (fun c=>!c) ?_
  by_cases c:n=-1
  · exact (@decide_eq_true _ (Classical.propDecidable _) ⟨t,rfl,by rw [← c];exact h⟩).trans (decide_eq_true (by rw [c])).symm
  · refine (@decide_eq_false _ (Classical.propDecidable _) (fun ⟨a',z1,z2⟩=>?_)).trans (decide_eq_false (fun z=>c (by injection z))).symm
    cases z1
    rw [h] at z2
    injection z2 with z2
    injection z2 with z2
    injection z2 with _ z2
    injection z2 with z2 _
    injection z2 with z2
    exact c z2
noncomputable def jBJ (ns:List Int):Nat:=ns.countP fun n=>decide (n≠-1)
noncomputable def Liv (r:RD):Prop:=r.br=false∧r.ps≠r.tot
noncomputable def OvR (cO:Addr) (r:RD) (H:Hp) (E:XK):Prop:=∀ ea H',jAr H H'→H ea=none→XG H' ea cO [("job",.str r.nm)]→E (.ref cO) (some ea) H'
noncomputable def jCn (cR cJ cO cP cS cY cM cW:Addr):Sp:=fun vs H Q E=>∃ x r,vs=[.ref x]∧jA4 cR cJ H x r∧(Liv r→Q .non H)∧(¬ Liv r→OvR cO r H E)
theorem jHL:jAn ["self"] ["self"] (jAb jBC):=⟨rfl,rfl,rfl,by decide +kernel,rfl,by decide +kernel,by decide +kernel⟩
theorem jHM (F:Fun K "must_go_on" "Run.must_go_on" jBC fa fd) (T:Txt K mg yQ yZ yX yY yV yJ yW yU yK yG cQ cZ cV cK cG vQ vZ vX vY) (X_Over:jCQ P w K mg base 1 "Over" vZ ["self","job"] (jA8 vZ "job")) (D_Run_whole:MtE P w K mg base 3 "whole" yK ["self"] (jCL yK yG cZ cQ yJ yW yU)) :
    jAh P w K mg base (CXe P w) 4 fa fd ["self"] (jCn yK yG vZ cZ cQ yJ yW yU):=by
  refine F.okE jHL (fun vs H Q E h=>?_) (fun cdv A outer s H vs Q E hr h=>?_)
  · obtain ⟨x,r,rfl,_⟩:=h
    rfl
  obtain ⟨x,r,rfl,R,q,q2⟩:=h
  refine ⟨_,(jAf (jAJ (PW.pt (jC6 (jAQ (jAs (pv 0) rfl) (fun _=>rfl)) (jCN (jAQ (jAv 3 jAx (hr.mono (by decide)) (pv 0)) (fun _=>rfl))))) (jAf (jBB jBp rfl (jBo X_Over (hr.mono (by decide)) rfl (jAa (jAs (jAs (pv 0) rfl) rfl) jAe)))) jAz)),?_⟩
  obtain ⟨jx,jb,ji,jk,jc,je,_⟩:=id R.j
  refine ⟨_,rfl,x,yK,r.dx,_,_,rfl,R.o,T.cl_Run,T.n_Run_broken,rfl,r.br,rfl,?_⟩
  cases e:r.br with
  | true =>
    refine jA6 (jA6 ⟨_,rfl,x,yK,r.dx,_,_,rfl,R.o,T.cl_Run,T.n_Run_job,rfl,r.jb,yG,jx,_,_,rfl,je,T.cl_Job,T.n_Job_name,jF0 _ _ _ _ _ _ _ _ _ _,?_⟩)
    exact jBl T.x_Over.m fun ea H' sm ne g=>q2 (fun z=>by rw [z.1] at e;cases e) ea H' sm ne g
  | false =>
    refine jAT ⟨_,rfl,x,_,r.dx,_,_,_,rfl,R.o,rfl,T.cl_Run,D_Run_whole,x,r,rfl,R,decide (r.ps=r.tot),rfl,jCi (fun c=>?_) (fun c=>q ⟨e,fun z=>c (decide_eq_true z)⟩)⟩
    refine ⟨_,rfl,x,yK,r.dx,_,_,rfl,R.o,T.cl_Run,T.n_Run_job,rfl,r.jb,yG,jx,_,_,rfl,je,T.cl_Job,T.n_Job_name,jF0 _ _ _ _ _ _ _ _ _ _,?_⟩
    exact jBl T.x_Over.m fun ea H' sm ne g=>q2 (fun z=>z.2 (of_decide_eq_true c)) ea H' sm ne g
noncomputable def jBv (cR cJ cO cP cS cY cM cW:Addr):Sp:=fun vs H Q E=>∃ x r,vs=[.ref x]∧jA4 cR cJ H x r∧(Liv r→(∃ p,r.pr=some p)∧Q .non H)∧(¬ Liv r→OvR cO r H E)
theorem jGC:jAn ["self"] ["self"] (jAb jBj):=⟨rfl,rfl,rfl,by decide +kernel,rfl,by decide +kernel,by decide +kernel⟩
theorem jGD (F:Fun K "must_be_placed" "Run.must_be_placed" jBj fa fd) (T:Txt K mg yQ yZ yX yY yV yJ yW yU yK yG cQ cZ cV cK cG vQ vZ vX vY) (X_Nowhere:jCQ P w K mg base 1 "Nowhere" vX ["self","job"] (jA8 vX "job")) (D_Run_must_go_on:MtE P w K mg base 4 "must_go_on" yK ["self"] (jCn yK yG vZ cZ cQ yJ yW yU)) :
    jAh P w K mg base (CXe P w) 5 fa fd ["self"] (jBv yK yG vZ cZ cQ yJ yW yU):=by
  refine F.okE jGC (fun vs H Q E h=>?_) (fun cdv A outer s H vs Q E hr h=>?_)
  · obtain ⟨x,r,rfl,_⟩:=h
    rfl
  obtain ⟨x,r,rfl,R,q,q2⟩:=h
  refine ⟨_,(jAd (jAN (jAv 4 jAx (hr.mono (by decide)) (pv 0)))
  (jAf (jAJ (jAu jGr (jAs (pv 0) rfl) jAY (jAw _)) (jAf (jBB jBp rfl (jBo X_Nowhere (hr.mono (by decide)) rfl (jAa (jAs (jAs (pv 0) rfl) rfl) jAe)))) jAz))),?_⟩
  refine ⟨_,rfl,x,_,r.dx,_,_,_,rfl,R.o,rfl,T.cl_Run,D_Run_must_go_on,x,r,rfl,R,fun lv=>?_,q2⟩
  obtain ⟨⟨p,hp⟩,q⟩:=q lv
  refine ⟨_,rfl,x,yK,r.dx,_,_,rfl,R.o,T.cl_Run,T.n_Run_printer,rfl,?_⟩
  rw [hp]
  exact ⟨rfl,false,rfl,jAT q⟩
theorem jJU {H:Hp} {nm:Str}:∀ {ts:List V} {ns:List Int},jAH H nm ts ns→(ts.filter (jHz H nm)).length=jBJ ns
  | [],[],_=>rfl
  | [],_ :: _,h=>by have:=h.1;cases this
  | _ :: _,[],h=>by have:=h.1;cases this
  | v :: ts,n :: ns,h=>by
    have ih:=jJU (H:=H) (nm:=nm) (ts:=ts) (ns:=ns) h.drop1
    obtain ⟨t,rfl,ht⟩:=h.2 0 v n rfl rfl
    unfold jBJ at ih ⊢
    rw [List.countP_cons,← ih,List.filter_cons,jLb ht]
    by_cases c:n=-1
    · rw [decide_eq_true (by rw [c]:V.int n=V.int (-1)),if_neg (by decide),decide_eq_false (by rw [c];decide),if_neg (by decide),Nat.add_zero]
    · rw [decide_eq_false (fun z=>c (by injection z):¬ V.int n=V.int (-1)),if_pos (by decide),decide_eq_true c,if_pos rfl,List.length_cons]
noncomputable def jBa (r:RD) (ns:List Int):Int:=if r.sl=false∧ns=[] then -1 else ((r.ps + jBJ ns:Nat):Int)
noncomputable def jC2 (cR cJ cP cS cY cM cW:Addr):Sp:=fun vs H Q _=>∃ x r,vs=[.ref x]∧jA4 cR cJ H x r∧(r.pr=none→Q .non H)∧∀ p,r.pr=some p→∃ d ns,jAO cP cS cY cM cW H p d∧jAH H r.nm d.tags ns ∧
  (jBa r ns < (r.tot:Int)→∀ t H',jAr H H'→H t=none→H' t=some (.tup [.str r.nm,.int (jBa r ns)])→Q (.ref t) H')∧(¬ jBa r ns < (r.tot:Int)→∀ H',jAr H H'→Q .non H')
theorem jEI:jAn ["self","within","number"] ["self"] (jAb jB7):=⟨rfl,rfl,rfl,by decide +kernel,rfl,by decide +kernel,by decide +kernel⟩
theorem jIU (F:Fun K "upcoming" "Run.upcoming" jB7 fa fd) (T:Txt K mg yQ yZ yX yY yV yJ yW yU yK yG cQ cZ cV cK cG vQ vZ vX vY) (D_Printer_within:MtE P w K mg base 1 "within" cZ ["self"] (jC1 cZ cQ yJ yW yU)) (D_Run_total:MtE P w K mg base 2 "total" yK ["self"] (jD9 yK yG cZ cQ yJ yW yU)) :
    jAh P w K mg base CX0 3 fa fd ["self"] (jC2 yK yG cZ cQ yJ yW yU):=by
  refine F.ok jEI (fun vs H Q E h=>?_) (fun cdv A outer s H vs Q E hr h=>?_)
  · obtain ⟨x,r,rfl,_⟩:=h
    rfl
  obtain ⟨x,r,rfl,R,q1,q2⟩:=h
  have z2:2≤sizeLine:=small (by decide)
  refine ⟨_,(jAd (jAJ (jAu jGr (jAs (pv 0) rfl) jAY (jAw _)) (jAf (jAp jAY)) jAz)
  (jAd (jAE (i:=1) jEI.nd rfl (by first | exact Or.inl rfl | exact Or.inr rfl) (jAv 1 jA7 (hr.mono (by decide)) (jAs (pv 0) rfl)))
  (jAd (jAJ (PW.pt (jDv (jCF (jAQ (jAs (pv 0) rfl) (fun _=>rfl))) (jCM (jCF (jAQ (pv 1) (fun _=>rfl)))))) (jAf (jAp (jAV (jAa (jAs (jAs (pv 0) rfl) rfl) (jAa (jFo T.SLIP rfl) jAe))))) jAz)
  (jAd (jAE (i:=2) jEI.nd rfl (by first | exact Or.inl rfl | exact Or.inr rfl) (jAF jA0 (jAs (pv 0) rfl) (jAP jAS rfl T.len PySem.boot_len (jAa (jEo (frees:=[]) ⟨by decide +kernel,rfl,rfl,by decide +kernel,trivial,by decide +kernel,jBs rfl,rfl⟩ rfl (jCO (pv 1)) (fun _ _ _ _=>by exact (jHZ (jAu jD_ (pe_ixK (K:=K) (r:=rIxT) rfl jAM (pv 0) jAg (fun _ _=>rfl)) (jFo T.SLIP rfl) (jAw _)))) (fun _ _ _ _=>by exact (pv 0))) jAe))))
  (jAf (jAp (jDw (jAu jHm (pv 2) (jAv 2 jA7 (hr.mono (by decide)) (pv 0)) (jAw _)) (jAV (jAa (jAs (jAs (pv 0) rfl) rfl) (jAa (pv 2) jAe))) jAY))))))),?_⟩
  refine ⟨_,rfl,x,yK,r.dx,_,_,rfl,R.o,T.cl_Run,T.n_Run_printer,rfl,?_⟩
  cases hp:r.pr with
  | none=>exact ⟨rfl,true,rfl,jA6 (q1 hp)⟩
  | some p =>
  obtain ⟨d,ns,P,tg,k1,k2⟩:=q2 p hp
  refine ⟨rfl,false,rfl,jAT ?_⟩
  refine ⟨_,rfl,x,yK,r.dx,_,_,rfl,R.o,T.cl_Run,T.n_Run_printer,rfl,?_⟩
  rw [hp]
  refine ⟨p,_,d.dx,_,_,_,rfl,P.o,rfl,T.cl_Printer,D_Printer_within,p,d,rfl,P,fun l H1 s1 nl hl=>?_⟩
  have R1:=R.same s1
  obtain ⟨jx,jb,ji,jk,jc,je,_⟩:=id R1.j
  have tg1:=tg.same s1
  have lw:d.tags=[] ↔ ns=[]:=by
    rw [← List.length_eq_zero_iff,← List.length_eq_zero_iff,tg.1]
  dsimp only [jFk]
  refine ifs_cut (r.sl=false∧ns=[]) (fun W qt qf=>?_) (fun c=>?_) (fun c=>?_)
  · refine ⟨_,rfl,x,yK,r.dx,_,_,rfl,R1.o,T.cl_Run,T.n_Run_slipped,rfl,r.sl,rfl,?_⟩
    cases hs:r.sl with
    | true=>exact jAT (qf (fun z=>by rw [hs] at z;cases z.1))
    | false =>
      refine jA6 ⟨_,rfl,!d.tags.isEmpty,.inl ⟨_,SqL.of hl,rfl⟩,?_⟩
      by_cases c:ns=[]
      · rw [lw.mpr c]
        exact qt ⟨hs,c⟩
      · have:d.tags.isEmpty=false:=by rw [List.isEmpty_eq_false_iff];exact fun z=>c (lw.mp z)
        rw [this]
        exact qf (fun z=>c z.2)
  · have en:jBa r ns=-1:=by unfold jBa;rw [if_pos c]
    refine ⟨_,rfl,x,yK,r.dx,_,_,rfl,R1.o,T.cl_Run,T.n_Run_job,rfl,r.jb,yG,jx,_,_,rfl,je,T.cl_Job,T.n_Job_name,jF0 _ _ _ _ _ _ _ _ _ _,z2,fun t nt=>?_⟩
    refine k1 (by rw [en];omega) t _ (s1.trans (jAl nt _)) (s1.free nt) ?_
    rw [en]
    exact jAc
  have en:jBa r ns=((r.ps + jBJ ns:Nat):Int):=by unfold jBa;rw [if_neg c]
  have lt9:=P.lt
  refine ⟨_,rfl,x,yK,r.dx,_,_,rfl,R1.o,T.cl_Run,T.n_Run_passed,rfl,_,rfl,l,rfl,⟨_,SqL.of hl⟩,?_⟩
  refine jFa (jGK (K:=K) (SqL.of hl)) (jHz H1 r.nm) id (jBb (by omega)) (fun y hy H' W sm rr=>?_) (fun y hy H' W sm py rr=>⟨_,rfl,rr⟩) (fun D H2 s2 nD hD=>?_)
  · obtain ⟨i,ei⟩:=List.mem_iff_getElem?.mp hy
    obtain ⟨t,n,rfl,_,ht⟩:=tg1.get ei
    refine ⟨_,rfl,t,_,_,_,rfl,rfl,SqT.of (sm _ _ ht),jAC (j:=1) rfl,rfl,_,?_,rr⟩
    rw [jLb ht]
  rw [List.map_id] at hD
  have R2:=R1.same s2
  refine ⟨D,_,rfl,.inl (SqL.of hD),_,_,rfl,rfl,?_⟩
  rw [jJU tg1]
  dsimp only [jFk]
  rw [show (r.ps:Int) + ((jBJ ns:Nat):Int)=jBa r ns by rw [en];omega]
  have s12:=s1.trans s2
  obtain ⟨jx2,jb2,ji2,jk2,jc2,je2,_⟩:=id R2.j
  refine ⟨_,rfl,_,rfl,x,_,r.dx,_,_,_,rfl,R2.o,rfl,T.cl_Run,D_Run_total,x,r,rfl,R2,_,_,rfl,rfl,_,rfl,jCi (fun cc=>?_) (fun cc=>?_)⟩
  · refine ⟨_,rfl,x,yK,r.dx,_,_,rfl,R2.o,T.cl_Run,T.n_Run_job,rfl,r.jb,yG,jx2,_,_,rfl,je2,T.cl_Job,T.n_Job_name,jF0 _ _ _ _ _ _ _ _ _ _,_,rfl,z2,fun t nt=>?_⟩
    exact k1 (of_decide_eq_true cc) t _ (s12.trans (jAl nt _)) (s12.free nt) jAc
  · exact k2 (fun z=>cc (decide_eq_true z)) _ s12
end
end My
namespace My
open PySem L2
open Blk (sg sg_inj sg_app)
section
variable {P:Program} {w:World} {K:PySem.W.Frag} {mg:Str→Option Value} {base:Heap} {fa yQ yZ yX yY yV yJ yW yU yK yG cQ cZ cV cK cG vQ vZ vX vY:Addr} {fd:FuncData}
noncomputable def papR (j:Jv) (i:Nat):Str:=if i=0 then j.cover.getD j.paper else j.paper
noncomputable def jBd (r:RD) (n:Int):Str×Int×Int:=if n=-1 then (r.j.paper,0,0) else (papR r.j (n.toNat % r.inks.length),r.inks.getD (n.toNat % r.inks.length) (0,0))
noncomputable def jEb (cR cJ cP cS cY cM cW:Addr):Sp:=fun vs H Q _=>∃ x r tg n,vs=[.ref x,.ref tg]∧jA4 cR cJ H x r∧H tg=some (.tup [.str r.nm,.int n])∧-1≤n∧∀ t H',jAr H H'→H' t=some (.tup [.str (jBd r n).1,.int (jBd r n).2.1,.int (jBd r n).2.2])→Q (.ref t) H'
theorem jEX:jAn ["self","tag","sheet","ink"] ["self","tag"] (jAb jCz):=⟨rfl,rfl,rfl,by decide +kernel,rfl,by decide +kernel,by decide +kernel⟩
theorem jJp (F:Fun K "used_by" "Run.used_by" jCz fa fd) (T:Txt K mg yQ yZ yX yY yV yJ yW yU yK yG cQ cZ cV cK cG vQ vZ vX vY) (D_paper_of:Dfn P w K mg base 1 "paper_of" ["job","sheet"] (jGl yG)) (D_Run_each:MtE P w K mg base 1 "each" yK ["self"] (jD4 yK yG cZ cQ yJ yW yU)) :
    jAh P w K mg base CX0 2 fa fd ["self","tag"] (jEb yK yG cZ cQ yJ yW yU):=by
  refine F.ok jEX (fun vs H Q E h=>?_) (fun cdv A outer s H vs Q E hr h=>?_)
  · obtain ⟨x,r,tg,n,rfl,_⟩:=h
    rfl
  obtain ⟨x,r,tg,n,rfl,R,ht,n1,q⟩:=h
  have z3:3≤sizeLine:=small (by decide)
  refine ⟨_,(jAd (jAJ (jAu jA_ (jAG jAM (pv 1) jAg (fun _ _=>rfl)) (jFo T.SLIP rfl) (jAw _)) (jAf (jAp (jAV (jAa (jAs (jAs (pv 0) rfl) rfl) (jAa jAg (jAa jAg jAe)))))) jAz)
  (jAd (jAE (i:=2) jEX.nd rfl (by first | exact Or.inl rfl | exact Or.inr rfl) (jAF jCG (jAG jAM (pv 1) jAg (fun _ _=>rfl)) (jAv 1 jA7 (hr.mono (by decide)) (pv 0))))
  (jAd (jAE (i:=3) jEX.nd rfl (by first | exact Or.inl rfl | exact Or.inr rfl) (jAG jBV (jAs (pv 0) rfl) (pv 2) (fun _ _=>rfl)))
  (jAf (jAp (jAV (jAa (jAA D_paper_of (hr.mono (by decide)) rfl (jAa (jAs (pv 0) rfl) (jAa (pv 2) jAe))) (jAa (jAG jAM (pv 3) jAg (fun _ _=>rfl)) (jAa (jAG jAM (pv 3) jAg (fun _ _=>rfl)) jAe))))))))),?_⟩
  obtain ⟨jx,jb,ji,jk,jc,je,_⟩:=id R.j
  have i1:=R.i1
  refine ⟨_,rfl,tg,_,_,_,rfl,rfl,SqT.of ht,jAC (j:=1) rfl,rfl,?_⟩
  by_cases c:n=-1
  · have eu:jBd r n=(r.j.paper,0,0):=by unfold jBd;rw [if_pos c]
    rw [eu] at q
    exact ⟨true,by rw [c];rfl,jA6 ⟨_,rfl,x,yK,r.dx,_,_,rfl,R.o,T.cl_Run,T.n_Run_job,rfl,r.jb,yG,jx,_,_,rfl,je,T.cl_Job,T.n_Job_paper,jF5 _ _ _ _ _ _ _ _ _ _,z3,fun t nt=>q t _ (jAl nt _) jAc⟩⟩
  have eu:jBd r n=(papR r.j (n.toNat % r.inks.length),r.inks.getD (n.toNat % r.inks.length) (0,0)):=by unfold jBd;rw [if_neg c]
  rw [eu] at q
  refine ⟨false,by rw [decide_eq_false (fun z=>c (by injection z))],jAT ?_⟩
  refine ⟨_,rfl,tg,_,_,_,rfl,rfl,SqT.of ht,jAC (j:=1) rfl,_,rfl,x,_,r.dx,_,_,_,rfl,R.o,rfl,T.cl_Run,D_Run_each,x,r,rfl,R,_,_,rfl,rfl,by omega,?_⟩
  have em:n % (r.inks.length:Int)=((n.toNat % r.inks.length:Nat):Int):=by
    rw [Int.natCast_emod,Int.toNat_of_nonneg (by omega)]
  have lm:n.toNat % r.inks.length < r.inks.length:=Nat.mod_lt _ (by omega)
  dsimp only [jFk]
  rw [em]
  generalize n.toNat % r.inks.length=i at lm q ⊢
  obtain ⟨ys,hy,ly,gy⟩:=id R.i
  have ey:ys[i]?=some ys[i]:=List.getElem?_eq_getElem (by omega)
  have es:r.inks[i]?=some r.inks[i]:=List.getElem?_eq_getElem lm
  obtain ⟨t,et,ht2⟩:=gy i _ _ ey es
  rw [et] at ey
  rw [List.getD_eq_getElem?_getD,es,Option.getD_some] at q
  generalize r.inks[i]=s at ht2 q
  refine ⟨_,rfl,x,yK,r.dx,_,_,rfl,R.o,T.cl_Run,T.n_Run_inks,rfl,_,rfl,r.il,_,_,rfl,rfl,SqL.of hy,by omega,by omega,fun v hv=>?_⟩
  rw [Int.toNat_natCast,ey] at hv
  obtain rfl:=Option.some.inj hv
  refine ⟨_,rfl,x,yK,r.dx,_,_,rfl,R.o,T.cl_Run,T.n_Run_job,rfl,_,rfl,r.jb,r.j,(i:Int),rfl,R.j.jo,?_⟩
  refine ⟨_,rfl,t,_,_,_,rfl,rfl,SqT.of ht2,jAC (j:=0) rfl,_,rfl,t,_,_,_,rfl,rfl,SqT.of ht2,jAC (j:=1) rfl,z3,fun t' nt'=>q t' _ (jAl nt' _) ?_⟩
  have ep:(if (i:Int)=0 then r.j.cover.getD r.j.paper else r.j.paper)=papR r.j i:=by
    unfold papR
    by_cases c0:i=0
    · rw [if_pos c0,if_pos (by omega)]
    · rw [if_neg c0,if_neg (by omega)]
  rw [ep]
  exact jAc
noncomputable def feedD (d:PD) (n:Str) (A y z:Int) (tag:V):PD:={ fedD d n A y z tag with tags:=if d.path < ((d.tags.length + 1:Nat):Int) then (d.tags ++ [tag]).drop 1 else d.tags ++ [tag] }
noncomputable def jGa (cR cJ cN cP cS cY cM cW:Addr):Sp:=fun vs H Q E=>∃ x r tg n p d A,vs=[.ref x,.ref tg]∧jA4 cR cJ H x r∧H tg=some (.tup [.str r.nm,.int n])∧-1≤n∧r.pr=some p∧jAO cP cS cY cM cW H p d∧(d.S≠.rd→jDE cN "found" (.str (wd d.S)) H E)∧d.am.lookup (jBd r n).1=some A∧1≤A∧(jBd r n).2.1≤d.b∧(jBd r n).2.2≤d.c∧d.tags.length≤800 ∧
  (d.S=.rd→∀ l H',(∀ b o,b≠d.ins→b≠d.tr2→b≠d.ik2→H b=some o→H' b=some o)→H l=none→H' l=some (.lst (if d.path < ((d.tags.length + 1:Nat):Int) then (d.tags ++ [V.ref tg]).take 1 else []))→jAO cP cS cY cM cW H' p (feedD d (jBd r n).1 A (jBd r n).2.1 (jBd r n).2.2 (.ref tg))→Q (.ref l) H')
theorem jIV:jAn ["self","tag","used"] ["self","tag"] (jAb jEs):=⟨rfl,rfl,rfl,by decide +kernel,rfl,by decide +kernel,by decide +kernel⟩
theorem jMp (F:Fun K "fed" "Run.fed" jEs fa fd) (T:Txt K mg yQ yZ yX yY yV yJ yW yU yK yG cQ cZ cV cK cG vQ vZ vX vY) (D_Run_used_by:MtE P w K mg base 2 "used_by" yK ["self","tag"] (jEb yK yG cZ cQ yJ yW yU)) (D_Printer_feed:MtE P w K mg base 6 "feed" cZ ["self","tag","kind","black","coloured"] (jFu cK cZ cQ yJ yW yU)) :
    jAh P w K mg base (CXe P w) 7 fa fd ["self","tag"] (jGa yK yG cK cZ cQ yJ yW yU):=by
  refine F.okE jIV (fun vs H Q E h=>?_) (fun cdv A outer s H vs Q E hr h=>?_)
  · obtain ⟨x,r,tg,n,p,d,A,rfl,_⟩:=h
    rfl
  obtain ⟨x,r,tg,n,p,d,A,rfl,R,ht,n1,hp,P,qn,la,a1,ub,uc,lt,q⟩:=h
  refine ⟨_,(jAd (jAE (i:=2) jIV.nd rfl (by first | exact Or.inl rfl | exact Or.inr rfl) (jAU 2 jAx (hr.mono (by decide)) (pv 0) (jAa (pv 1) jAe)))
  (jAf (jAp (jAU 6 jAx (hr.mono (by decide)) (jAs (pv 0) rfl) (jAa (pv 1) (jAa (jAG jAM (pv 2) jAg (fun _ _=>rfl)) (jAa (jAG jAM (pv 2) jAg (fun _ _=>rfl)) (jAa (jAG jAM (pv 2) jAg (fun _ _=>rfl)) jAe)))))))),?_⟩
  refine ⟨_,rfl,x,_,r.dx,_,_,_,rfl,R.o,rfl,T.cl_Run,D_Run_used_by,_,rfl,x,r,tg,n,rfl,R,ht,n1,fun t H1 s1 h1=>?_⟩
  have R1:=R.same s1
  have P1:=P.same s1
  refine ⟨_,rfl,x,yK,r.dx,_,_,rfl,R1.o,T.cl_Run,T.n_Run_printer,rfl,?_⟩
  rw [hp]
  refine ⟨p,_,d.dx,_,_,_,rfl,P1.o,rfl,T.cl_Printer,D_Printer_feed,_,rfl,_,rfl,t,_,_,_,rfl,rfl,SqT.of h1,jAC (j:=0) rfl,_,rfl,t,_,_,_,rfl,rfl,SqT.of h1,jAC (j:=1) rfl,_,rfl,t,_,_,_,rfl,rfl,SqT.of h1,jAC (j:=2) rfl,p,d,V.ref tg,_,_,_,A,rfl,P1,fun z=>(qn z).after s1,la,a1,ub,uc,lt,fun eS l H2 k2 nl hl P2=>?_⟩
  exact q eS l H2 (fun b o e1 e2 e3 e=>k2 b o e1 e2 e3 (s1 _ _ e)) (s1.free nl) hl P2
theorem jL6 (r:RD) (b:Bool):jBi "slipped" (.bl b) r.fs=({ r with sl:=b }:RD).fs:=by first | rfl | decide +kernel
theorem putR_ps (r:RD) (n:Nat):jBi "passed" (.int (n:Int)) r.fs=({ r with ps:=n }:RD).fs:=by first | rfl | decide +kernel
theorem jL7 (r:RD) (p:Option Addr):jBi "printer" (prV p) r.fs=({ r with pr:=p }:RD).fs:=by first | rfl | decide +kernel
noncomputable def jGS (sl:Bool) (ns:List Int):Bool:=sl || ns.any fun n=>decide (n=-1)
noncomputable def jBw (r:RD) (ns:List Int):RD:={ r with ps:=r.ps + jBJ ns,sl:=jGS r.sl ns }
noncomputable def jFP (r:RD) (ns:List Int):RD:=if (jBw r ns).ps=r.tot then { jBw r ns with pr:=none } else jBw r ns
theorem jNG (r:RD):jBw r []=r:=by
  cases r
  unfold jBw jBJ jGS
  simp
theorem jNa (r:RD) (ns:List Int) (n:Int):jBw r (ns ++ [n])=if n=-1 then { jBw r ns with sl:=true } else { jBw r ns with ps:=(jBw r ns).ps + 1 }:=by
  unfold jBw jBJ jGS
  rw [List.countP_append,List.any_append]
  by_cases c:n=-1
  · rw [if_pos c]
    simp [c]
  · rw [if_neg c]
    simp [c]
    omega
noncomputable def jCh (cR cJ cP cS cY cM cW:Addr):Sp:=fun vs H Q _=>∃ x r l ts ns,vs=[.ref x,.ref l]∧jA4 cR cJ H x r∧H l=some (.lst ts)∧jAH H r.nm ts ns∧∀ H',(∀ b o,b≠x→H b=some o→H' b=some o)→jA4 cR cJ H' x (jFP r ns)→Q (.ref l) H'
theorem jGb:jAn ["self","tags","tag"] ["self","tags"] (jAb jB8):=⟨rfl,rfl,rfl,by decide +kernel,rfl,by decide +kernel,by decide +kernel⟩
theorem jIW (F:Fun K "note_out" "Run.note_out" jB8 fa fd) (T:Txt K mg yQ yZ yX yY yV yJ yW yU yK yG cQ cZ cV cK cG vQ vZ vX vY) (D_Run_whole:MtE P w K mg base 3 "whole" yK ["self"] (jCL yK yG cZ cQ yJ yW yU)) :
    jAh P w K mg base CX0 4 fa fd ["self","tags"] (jCh yK yG cZ cQ yJ yW yU):=by
  refine F.ok jGb (fun vs H Q E h=>?_) (fun cdv A outer s H vs Q E hr h=>?_)
  · obtain ⟨x,r,l,ts,ns,rfl,_⟩:=h
    rfl
  obtain ⟨x,r,l,ts,ns,rfl,R,hl,tg,q⟩:=h
  refine ⟨_,(jAd (jD5 PassesOwn.never rfl (jCO (pv 1)) (jBA (i:=2) jGb.nd rfl (by first | exact Or.inl rfl | exact Or.inr rfl))
  (jAf (jAJ (jAu jA_ (jAG jAM (pv 2) jAg (fun _ _=>rfl)) (jFo T.SLIP rfl) (jAw _)) (jAf (jAL (pv 0) jBL rfl)) (jAf (jMD (pv 0) jAg ip_add)))))
  (jAd (jAJ (jAQ (jAv 3 jA7 (hr.mono (by decide)) (pv 0)) (fun _=>rfl)) (jAf (jAL (pv 0) jAY rfl)) jAz)
  (jAf (jAp (pv 1))))),?_⟩
  have nlx:l≠x:=jAD hl R.o (by intro z;cases z)
  refine ⟨_,rfl,l,rfl,⟨_,SqL.of hl⟩,jEe (K:=K) (a:=l) (xs:=ts) (fun i σ G=>∃ v2:Option V,σ=[some (.ref x),some (.ref l),v2]∧jA4 yK yG G x (jBw r (ns.take i))∧∀ b o,b≠x→H b=some o→G b=some o) ⟨_,rfl,by rw [List.take_zero,jNG];exact R,fun b o _ e=>e⟩ (fun i σ G _ z=>by obtain ⟨v2,_,_,k⟩:=z;exact SqL.of (k _ _ nlx hl)) (fun i y σ G hy z=>?_) (fun σ G z=>?_)⟩
  · obtain ⟨v2,rfl,RG,k⟩:=z
    obtain ⟨t,n,rfl,en,ht⟩:=tg.get hy
    have htG:=k _ _ (jAD ht R.o (by intro z;cases z)) ht
    have et:ns.take (i + 1)=ns.take i ++ [n]:=by rw [List.take_add_one,en];rfl
    rw [et,jNa]
    refine ⟨_,rfl,t,_,_,_,rfl,rfl,SqT.of htG,jAC (j:=1) rfl,rfl,?_⟩
    by_cases c:n=-1
    · rw [if_pos c]
      refine ⟨true,by rw [c];rfl,jA6 ⟨_,rfl,x,yK,_,_,rfl,RG.o,T.cl_Run,T.n_Run_slipped,(by show 6 < 1000;decide),?_⟩⟩
      rw [jL6]
      exact ⟨_,rfl,RG.set _ _ true _,fun b o nb e=>by rw [jAi nb];exact k b o nb e⟩
    · rw [if_neg c]
      refine ⟨false,by rw [decide_eq_false (fun z=>c (by injection z))],jAT ?_⟩
      refine ⟨_,rfl,x,yK,_,_,_,rfl,RG.o,T.cl_Run,T.n_Run_passed,rfl,_,_,rfl,rfl,_,_,RG.o,(by show 6 < 1000;decide),?_⟩
      have ep:jBi "passed" (.int (((jBw r (ns.take i)).ps:Int) + 1)) (jBw r (ns.take i)).fs=({ jBw r (ns.take i) with ps:=(jBw r (ns.take i)).ps + 1 }:RD).fs:=by
        rw [show ((jBw r (ns.take i)).ps:Int) + 1=(((jBw r (ns.take i)).ps + 1:Nat):Int) by omega]
        exact putR_ps _ _
      rw [ep]
      exact ⟨_,rfl,RG.set _ _ _ _,fun b o nb e=>by rw [jAi nb];exact k b o nb e⟩
  · obtain ⟨v2,rfl,RG,k⟩:=z
    rw [List.take_of_length_le (by rw [tg.1];exact Nat.le_refl _)] at RG
    refine ⟨_,rfl,x,_,r.dx,_,_,_,rfl,RG.o,rfl,T.cl_Run,D_Run_whole,x,_,rfl,RG,?_⟩
    by_cases c:(jBw r ns).ps=r.tot
    · refine ⟨true,(by show true=decide ((jBw r ns).ps=r.tot);rw [decide_eq_true c]),jA6 ⟨_,rfl,x,yK,_,_,rfl,RG.o,T.cl_Run,T.n_Run_printer,(by show 6 < 1000;decide),?_⟩⟩
      rw [show (V.non)=prV none from rfl,jL7]
      refine ⟨_,rfl,q _ (fun b o nb e=>by rw [jAi nb];exact k b o nb e) ?_⟩
      have:=RG.set (jBw r ns).ps none (jBw r ns).sl (jBw r ns).br
      unfold jFP
      rw [if_pos c]
      exact this
    · refine ⟨false,(by show false=decide ((jBw r ns).ps=r.tot);rw [decide_eq_false c]),jAT ⟨_,rfl,q _ k ?_⟩⟩
      unfold jFP
      rw [if_neg c]
      exact RG
end
end My
namespace My
open PySem L2
open Blk (sg sg_inj sg_app)
section
variable {P:Program} {w:World} {K:PySem.W.Frag} {mg:Str→Option Value} {base:Heap} {fa yQ yZ yX yY yV yJ yW yU yK yG cQ cZ cV cK cG vQ vZ vX vY:Addr} {fd:FuncData}
theorem jAO.off {cP cS cY cM cW:Addr} {H H':Hp} {p x C dx:Addr} {fs:List (Str×V)} {d:PD} (P:jAO cP cS cY cM cW H p d) (hx:H x=some (.ins C dx fs)) (k:∀ b o,b≠x→H b=some o→H' b=some o) (n1:p≠x) (n2:d.tr≠x) (n3:d.ik≠x) (n4:d.st≠x):jAO cP cS cY cM cW H' p d:=by
  obtain ⟨⟨dt,t1⟩,t2,t3,t4⟩:=P.T
  obtain ⟨⟨di,i1⟩,i2,i3,i4⟩:=P.I
  exact { P with o:=k _ _ n1 P.o,T:=⟨⟨dt,k _ _ n2 t1⟩,k _ _ (jAD t2 hx (by intro z;cases z)) t2,k _ _ (jAD t3 hx (by intro z;cases z)) t3,t4⟩,I:=⟨⟨di,k _ _ n3 i1⟩,k _ _ (jAD i2 hx (by intro z;cases z)) i2,k _ _ (jAD i3 hx (by intro z;cases z)) i3,i4⟩,s:=(let ⟨ds,hs⟩:=P.s;⟨ds,k _ _ n4 hs⟩),n:=k _ _ (jAD P.n hx (by intro z;cases z)) P.n }
structure Wd (cR cJ cP cS cY cM cW:Addr) (H:Hp) (x:Addr) (r:RD) (p:Addr) (d:PD) (ns:List Int):Prop where
  R:jA4 cR cJ H x r
  P:jAO cP cS cY cM cW H p d
  tg:jAH H r.nm d.tags ns
  n1:p≠x
  n2:d.tr≠x
  n3:d.ik≠x
  n4:d.st≠x
  n5:r.il≠d.ins
theorem Wd.same {cR cJ cP cS cY cM cW:Addr} {H H':Hp} {x:Addr} {r:RD} {p:Addr} {d:PD} {ns:List Int} (w:Wd cR cJ cP cS cY cM cW H x r p d ns) (s:jAr H H'):Wd cR cJ cP cS cY cM cW H' x r p d ns:={ w with R:=w.R.same s,P:=w.P.same s,tg:=w.tg.same s }
theorem jA4.prn {cR cJ cP cS cY cM cW:Addr} {H H':Hp} {x:Addr} {r:RD} {p:Addr} {d:PD} (R:jA4 cR cJ H x r) (P:jAO cP cS cY cM cW H p d) (n5:r.il≠d.ins) (k:∀ b o,b≠d.ins→b≠d.tr2→b≠d.ik2→H b=some o→H' b=some o):jA4 cR cJ H' x r:=by
  have h1:=P.n
  have h2:=P.T.2.2.1
  have h3:=P.I.2.2.1
  obtain ⟨ys,hy,_⟩:=id R.i
  refine R.fr (fun b C dd fs e=>k _ _ (jAD e h1 (by intro z;cases z)) (jAD e h2 (by intro z;cases z)) (jAD e h3 (by intro z;cases z)) e) (fun o e=>k _ _ n5 (jAD hy h2 (by intro z;cases z)) (jAD hy h3 (by intro z;cases z)) e) (fun b xs e=>k _ _ (jAD e h1 (by intro z;cases z)) (jAD e h2 (by intro z;cases z)) (jAD e h3 (by intro z;cases z)) e)
theorem jL8 (r:RD) (ns:List Int):(jFP r ns).nm=r.nm:=by unfold jFP;split <;> rfl
theorem jJq (r:RD) (ns:List Int):(jFP r ns).il=r.il:=by unfold jFP;split <;> rfl
theorem jMq (a b:List Int):jBJ (a ++ b)=jBJ a + jBJ b:=List.countP_append
noncomputable def jEc (cR cJ cP cS cY cM cW:Addr):Sp:=fun vs H Q _=>∃ x r,vs=[.ref x]∧jA4 cR cJ H x r∧r.pr=none∧∀ l H',jAr H H'→H l=none→H' l=some (.lst [])→Q (.ref l) H'
theorem jGE:jAn ["self","came"] ["self"] (jAb jCA):=⟨rfl,rfl,rfl,by decide +kernel,rfl,by decide +kernel,by decide +kernel⟩
theorem jJr (F:Fun K "emptied" "Run.emptied" jCA fa fd) (T:Txt K mg yQ yZ yX yY yV yJ yW yU yK yG cQ cZ cV cK cG vQ vZ vX vY) (D_Printer_within:MtE P w K mg base 1 "within" cZ ["self"] (jC1 cZ cQ yJ yW yU)) (D_Printer_push:MtE P w K mg base 4 "push" cZ ["self"] (jEC cK cZ cQ yJ yW yU)) (D_Run_note_out:MtE P w K mg base 4 "note_out" yK ["self","tags"] (jCh yK yG cZ cQ yJ yW yU)) :
    jAh P w K mg base (CXe P w) 5 fa fd ["self"] (jEc yK yG cZ cQ yJ yW yU):=by
  refine F.okE jGE (fun vs H Q E h=>?_) (fun cdv A outer s H vs Q E hr h=>?_)
  · obtain ⟨x,r,rfl,_⟩:=h
    rfl
  obtain ⟨x,r,rfl,R,hp,q⟩:=h
  refine ⟨_,(jAd (jAE (i:=1) jGE.nd rfl (by first | exact Or.inl rfl | exact Or.inr rfl) (jAZ jAe))
  (jAd (jNi jFC (PW.pt (jDv (jAu jHo (jAs (pv 0) rfl) jAY (jAw _)) (jCM (jAQ (jAv 1 jAx (hr.mono (by decide)) (jAs (pv 0) rfl)) (fun _=>rfl))))) (jAf (jAN (jKi PySem.F.plainAttrs_list PySem.F.slot_list_extend PySem.F.type_list_extend jMJ (pv 1) (jAa (jAU 4 jAx (hr.mono (by decide)) (pv 0) (jAa (jAv 4 jAx (hr.mono (by decide)) (jAs (pv 0) rfl)) jAe)) jAe)))))
  (jAf (jAp (pv 1))))),?_⟩
  refine ⟨small (Nat.zero_le _),fun l nl=>?_⟩
  have s1:=jAl nl (.lst [])
  have hl:upd H l (.lst []) l=some (.lst []):=jAc
  generalize upd H l (.lst [])=H1 at s1 hl ⊢
  refine ⟨fun m σ G=>m=0∧G=H1∧σ=[some (.ref x),some (.ref l)],⟨0,rfl,rfl,rfl⟩,?_⟩
  rintro m σ G ⟨rfl,rfl,rfl⟩
  refine ⟨_,rfl,x,yK,r.dx,_,_,rfl,(R.same s1).o,T.cl_Run,T.n_Run_printer,rfl,?_⟩
  rw [hp]
  exact ⟨rfl,false,rfl,jAT (jAT ⟨_,rfl,q l _ s1 nl hl⟩)⟩
noncomputable def jFx (cR cJ cP cS cY cM cW:Addr):Sp:=fun vs H Q _=>∃ x r p d,vs=[.ref x,.ref p]∧jA4 cR cJ H x r∧r.pr=none∧Liv r∧jAO cP cS cY cM cW H p d∧d.S=.rd∧∀ l H',(∀ b o,b≠x→H b=some o→H' b=some o)→H l=none→l≠x→H' l=some (.lst [])→jA4 cR cJ H' x { r with pr:=some p,sl:=false }→Q (.ref l) H'
theorem jHR:jAn ["self","printer","came"] ["self","printer"] (jAb jDV):=⟨rfl,rfl,rfl,by decide +kernel,rfl,by decide +kernel,by decide +kernel⟩
theorem jLI (F:Fun K "take" "Run.take" jDV fa fd) (T:Txt K mg yQ yZ yX yY yV yJ yW yU yK yG cQ cZ cV cK cG vQ vZ vX vY) (X_NotNow:jCQ P w K mg base 1 "NotNow" cK ["self","found"] (jA8 cK "found")) (D_Run_must_go_on:MtE P w K mg base 4 "must_go_on" yK ["self"] (jCn yK yG vZ cZ cQ yJ yW yU)) (D_Printer_stands:MtE P w K mg base 2 "stands" cZ ["self"] (jBN cZ cQ yJ yW yU)) (D_Run_emptied:MtE P w K mg base 5 "emptied" yK ["self"] (jEc yK yG cZ cQ yJ yW yU)) (D_Run_whole:MtE P w K mg base 3 "whole" yK ["self"] (jCL yK yG cZ cQ yJ yW yU)) :
    jAh P w K mg base (CXe P w) 6 fa fd ["self","printer"] (jFx yK yG cZ cQ yJ yW yU):=by
  refine F.okE jHR (fun vs H Q E h=>?_) (fun cdv A outer s H vs Q E hr h=>?_)
  · obtain ⟨x,r,p,d,rfl,_⟩:=h
    rfl
  obtain ⟨x,r,p,d,rfl,R,hp,lv,P,eS,q⟩:=h
  refine ⟨_,(jAd (jAN (jAv 4 jAx (hr.mono (by decide)) (pv 0)))
  (jAd (jAJ (jAu jD_ (jAv 2 jAx (hr.mono (by decide)) (pv 1)) (jDO T.READY rfl) (jAw _)) (jAf (jBB jBp rfl (jBo X_NotNow (hr.mono (by decide)) rfl (jAa (jAv 2 jAx (hr.mono (by decide)) (pv 1)) jAe)))) jAz)
  (jAd (jAE (i:=2) jHR.nd rfl (by first | exact Or.inl rfl | exact Or.inr rfl) (jAv 5 jAx (hr.mono (by decide)) (pv 0)))
  (jAd (jAJ (jCF (jAQ (jAv 3 jAx (hr.mono (by decide)) (pv 0)) (fun _=>rfl))) (jAd (jAL (pv 0) (pv 1) rfl)
  (jAf (jAL (pv 0) jBL rfl))) jAz)
  (jAf (jAp (pv 2))))))),?_⟩
  refine ⟨_,rfl,x,_,r.dx,_,_,_,rfl,R.o,rfl,T.cl_Run,D_Run_must_go_on,x,r,rfl,R,fun _=>?_,fun z=>absurd lv z⟩
  refine ⟨_,rfl,p,_,d.dx,_,_,_,rfl,P.o,rfl,T.cl_Printer,D_Printer_stands,p,d,rfl,P,rfl,_,rfl,jKj (by rw [eS];rfl) ?_⟩
  refine ⟨_,rfl,x,_,r.dx,_,_,_,rfl,R.o,rfl,T.cl_Run,D_Run_emptied,x,r,rfl,R,hp,fun l H1 s1 nl hl=>?_⟩
  have R1:=R.same s1
  refine ⟨_,rfl,x,_,r.dx,_,_,_,rfl,R1.o,rfl,T.cl_Run,D_Run_whole,x,r,rfl,R1,false,(by show false=decide (r.ps=r.tot);rw [decide_eq_false lv.2]),jA6 ?_⟩
  refine ⟨_,rfl,_,rfl,x,yK,_,_,rfl,R1.o,T.cl_Run,T.n_Run_printer,(by show 6 < 1000;decide),?_⟩
  rw [show V.ref p=prV (some p) from rfl,jL7]
  have R2:=R1.set r.ps (some p) r.sl r.br
  have nlx:l≠x:=fun z=>by rw [z,R.o] at nl;cases nl
  refine ⟨_,rfl,x,yK,_,_,rfl,R2.o,T.cl_Run,T.n_Run_slipped,(by show 6 < 1000;decide),?_⟩
  rw [jL6]
  exact ⟨_,rfl,q l _ (fun b o nb e=>by rw [jAi nb,jAi nb];exact s1 _ _ e) nl nlx (by rw [jAi nlx,jAi nlx];exact hl) (R2.set r.ps (some p) false r.br)⟩
theorem jAH.takeN {H:Hp} {nm:Str} {ts:List V} {ns:List Int} (h:jAH H nm ts ns) (k:Nat):jAH H nm (ts.take k) (ns.take k):=⟨by rw [List.length_take,List.length_take,h.1],fun i y n a b=>by
  rw [List.getElem?_take] at a b
  by_cases c:i < k
  · rw [if_pos c] at a b;exact h.2 i y n a b
  · rw [if_neg c] at a;cases a⟩
theorem jNb {cR cJ cY cM cW:Addr} {H:Hp} {x st:Addr} {s:S3} {r:RD} (h:jFg cY cM cW H st s) (R:jA4 cR cJ H x r):st≠x:=by
  obtain ⟨ds,e⟩:=h
  refine jAD e R.o fun z=>?_
  injection z with _ _ z
  have:=congrArg List.length z
  rw [show r.fs.length=6 from rfl] at this
  cases s with
  | rd=>exact absurd (show 1=6 from this) (by decide)
  | jm=>exact absurd (show 1=6 from this) (by decide)
  | aw b=>exact absurd (show 2=6 from this) (by decide)
theorem jA4.turn {cR cJ cP cS cY cM cW:Addr} {H H':Hp} {x:Addr} {r:RD} {p:Addr} {d:PD} (R:jA4 cR cJ H x r) (P:jAO cP cS cY cM cW H p d) (n1:p≠x) (kp:∀ b o,b≠p→H b=some o→H' b=some o):jA4 cR cJ H' x r:=by
  have kt:∀ b xs,H b=some (.tup xs)→H' b=some (.tup xs):=fun b xs e=>kp _ _ (jAD e P.o (by intro z;cases z)) e
  obtain ⟨ys,hy,_⟩:=id R.i
  obtain ⟨jx,jb,ji,jk,jc,je,_⟩:=id R.j
  have fs8:∀ (C dx C' dx':Addr) (fs:List (Str×V)),fs.length≠8→HO.ins C dx fs≠.ins C' dx' d.fs:=fun C dx C' dx' fs n z=>by
    injection z with _ _ z
    exact n (by rw [z];rfl)
  exact { R with o:=kp _ _ (Ne.symm n1) R.o,j:=R.j.fr (fun o e=>kp _ _ (jAD je P.o (fs8 _ _ _ _ _ (by show 10≠8;decide))) e) kt,i:=R.i.fr (fun o e=>kp _ _ (jAD hy P.o (by intro z;cases z)) e) kt }
noncomputable def jFe (cR cJ cO cN cT cP cS cY cM cW:Addr):Sp:=fun vs H Q E=>∃ x r,∃ k:Nat,vs=[.ref x,.int (k:Int)]∧jA4 cR cJ H x r∧(¬ Liv r→OvR cO r H E) ∧
  (Liv r→∃ p d ns,r.pr=some p∧Wd cR cJ cP cS cY cM cW H x r p d ns∧(d.S≠.rd→jDE cN "found" (.str (wd d.S)) H E)∧(d.S=.rd→ns.length < k→jDE cT "name" (.str wiW) H E) ∧
    (d.S=.rd→k≤ns.length→∀ t l1 l2 st il H',(∀ b o,b≠x→b≠p→H b=some o→H' b=some o)→H il=none→H' t=some (.tup [.ref l1,.ref l2])→(∃ ts,H' l1=some (.lst ts)∧jAH H' r.nm ts (ns.take k))→(∃ ts,H' l2=some (.lst ts)∧jAH H' r.nm ts (ns.drop k))→Wd cR cJ cP cS cY cM cW H' x (jFP r (ns.take k)) p { d with st:=st,S:=.jm,ins:=il,tags:=[] } []→Q (.ref t) H'))
theorem jAH.dropN {H:Hp} {nm:Str} {ts:List V} {ns:List Int} (h:jAH H nm ts ns) (k:Nat):jAH H nm (ts.drop k) (ns.drop k):=⟨by rw [List.length_drop,List.length_drop,h.1],fun i y n a b=>by rw [List.getElem?_drop] at a b;exact h.2 _ y n a b⟩
theorem jIX:jAn ["self","saved","told"] ["self","saved"] (jAb jEr):=⟨rfl,rfl,rfl,by decide +kernel,rfl,by decide +kernel,by decide +kernel⟩
theorem jMr (F:Fun K "jam" "Run.jam" jEr fa fd) (T:Txt K mg yQ yZ yX yY yV yJ yW yU yK yG cQ cZ cV cK cG vQ vZ vX vY) (D_Run_must_be_placed:MtE P w K mg base 5 "must_be_placed" yK ["self"] (jBv yK yG vZ cZ cQ yJ yW yU)) (D_Printer_jam:MtE P w K mg base 5 "jam" cZ ["self","saved"] (jF1 cK cG cZ cQ yJ yW yU)) (D_Run_note_out:MtE P w K mg base 4 "note_out" yK ["self","tags"] (jCh yK yG cZ cQ yJ yW yU)) :
    jAh P w K mg base (CXe P w) 6 fa fd ["self","saved"] (jFe yK yG vZ cK cG cZ cQ yJ yW yU):=by
  refine F.okE jIX (fun vs H Q E h=>?_) (fun cdv A outer s H vs Q E hr h=>?_)
  · obtain ⟨x,r,k,rfl,_⟩:=h
    rfl
  obtain ⟨x,r,k,rfl,R,qo,qg⟩:=h
  refine ⟨_,(jAd (jAN (jAv 5 jAx (hr.mono (by decide)) (pv 0)))
  (jAd (jAE (i:=2) jIX.nd rfl (by first | exact Or.inl rfl | exact Or.inr rfl) (jAU 5 jAx (hr.mono (by decide)) (jAs (pv 0) rfl) (jAa (pv 1) jAe)))
  (jAd (jAN (jAU 4 jAx (hr.mono (by decide)) (pv 0) (jAa (jAG jAM (pv 2) jAg (fun _ _=>rfl)) jAe)))
  (jAf (jAp (pv 2)))))),?_⟩
  refine ⟨_,rfl,x,_,r.dx,_,_,_,rfl,R.o,rfl,T.cl_Run,D_Run_must_be_placed,x,r,rfl,R,fun lv=>?_,qo⟩
  obtain ⟨p,d,ns,hp,W,qn,qt,q⟩:=qg lv
  refine ⟨⟨p,hp⟩,?_⟩
  refine ⟨_,rfl,x,yK,r.dx,_,_,rfl,R.o,T.cl_Run,T.n_Run_printer,rfl,?_⟩
  rw [hp]
  have ltn:=W.tg.1
  refine ⟨p,_,d.dx,_,_,_,rfl,W.P.o,rfl,T.cl_Printer,D_Printer_jam,_,rfl,p,d,k,rfl,W.P,qn,fun e1 e2=>qt e1 (by omega),fun eS kn t l1 l2 st il H1 kp nil' nt ht hl1 hl2 P1=>?_⟩
  have kt:∀ b xs,H b=some (.tup xs)→H1 b=some (.tup xs):=fun b xs e=>kp _ _ (jAD e W.P.o (by intro z;cases z)) e
  have R1:=R.turn W.P W.n1 kp
  have tg1:jAH H1 r.nm (d.tags.take k) (ns.take k):=(W.tg.fr kt).takeN k
  have tg2:jAH H1 r.nm (d.tags.drop k) (ns.drop k):=(W.tg.fr kt).dropN k
  refine ⟨_,rfl,x,_,r.dx,_,_,_,rfl,R1.o,rfl,T.cl_Run,D_Run_note_out,_,rfl,t,_,_,_,rfl,rfl,SqT.of ht,jAC (j:=0) rfl,x,r,l1,_,ns.take k,rfl,R1,hl1,tg1,fun H2 k2 R2=>?_⟩
  have nstx:st≠x:=jNb P1.s R1
  have P2:=P1.off R1.o k2 W.n1 W.n2 W.n3 nstx
  have kt2:∀ b xs,H1 b=some (.tup xs)→H2 b=some (.tup xs):=fun b xs e=>k2 _ _ (jAD e R1.o (by intro z;cases z)) e
  refine ⟨_,rfl,q eS (by omega) t l1 l2 st il H2 (fun b o b1 b2 e=>k2 _ _ b1 (kp _ _ b2 e)) nil' (kt2 _ _ ht) ⟨_,k2 _ _ (jAD hl1 R1.o (by intro z;cases z)) hl1,tg1.fr kt2⟩ ⟨_,k2 _ _ (jAD hl2 R1.o (by intro z;cases z)) hl2,tg2.fr kt2⟩ ⟨R2,P2,⟨rfl,fun i y n a=>by cases a⟩,W.n1,W.n2,W.n3,nstx,?_⟩⟩
  rw [jJq]
  intro z
  have z':r.il=il:=z
  obtain ⟨ys,hy,_⟩:=id R.i
  rw [← z',hy] at nil'
  cases nil'
end
end My
namespace My
open PySem L2
open Blk (sg sg_inj sg_app)
section
variable {P:Program} {w:World} {K:PySem.W.Frag} {mg:Str→Option Value} {base:Heap} {fa yQ yZ yX yY yV yJ yW yU yK yG cQ cZ cV cK cG vQ vZ vX vY:Addr} {fd:FuncData}
noncomputable def jGc (over:Bool) (ns:List Int):List Int:=if over=true then ns.take 1 else []
noncomputable def jGT (over:Bool) (ns:List Int):List Int:=if over=true then ns.drop 1 else ns
structure Stp (cR cJ cP cS cY cM cW:Addr) (H H':Hp) (x:Addr) (r:RD) (p:Addr) (d d':PD) (l:Addr) (outs ns:List Int):Prop where
  fr:∀ b o,b≠x→b≠d.ins→b≠d.tr2→b≠d.ik2→H b=some o→H' b=some o
  nl:H l=none
  l:∃ ts,H' l=some (.lst ts)∧jAH H' r.nm ts outs
  w:Wd cR cJ cP cS cY cM cW H' x (jFP r outs) p d' ns
theorem take_if {α:Type} {c:Prop} [Decidable c] {over:Bool} (e:decide c=over) (l:List α):(if c then l.take 1 else [])=if over=true then l.take 1 else []:=by
  subst e
  by_cases h:c
  · rw [if_pos h,if_pos (decide_eq_true h)]
  · rw [if_neg h,if_neg (fun z=>h (of_decide_eq_true z))]
theorem drop_if {α:Type} {c:Prop} [Decidable c] {over:Bool} (e:decide c=over) (l:List α):(if c then l.drop 1 else l)=if over=true then l.drop 1 else l:=by
  subst e
  by_cases h:c
  · rw [if_pos h,if_pos (decide_eq_true h)]
  · rw [if_neg h,if_neg (fun z=>h (of_decide_eq_true z))]
theorem jAH.outs {H:Hp} {nm:Str} {ts:List V} {ns:List Int} (h:jAH H nm ts ns) (over:Bool):jAH H nm (if over=true then ts.take 1 else []) (jGc over ns):=by
  unfold jGc
  cases over with
  | true=>rw [if_pos rfl,if_pos rfl];exact h.take1
  | false=>rw [if_neg (by decide),if_neg (by decide)];exact ⟨rfl,fun i y n a=>by simp at a⟩
theorem jAH.rest {H:Hp} {nm:Str} {ts:List V} {ns:List Int} (h:jAH H nm ts ns) (over:Bool):jAH H nm (if over=true then ts.drop 1 else ts) (jGT over ns):=by
  unfold jGT
  cases over with
  | true=>rw [if_pos rfl,if_pos rfl];exact h.drop1
  | false=>rw [if_neg (by decide),if_neg (by decide)];exact h
theorem next_lo (r:RD) (ns:List Int):-1≤jBa r ns:=by
  unfold jBa
  split <;> omega
noncomputable def jEJ (cR cJ cO cN cP cS cY cM cW:Addr):Sp:=fun vs H Q E=>∃ x r,vs=[.ref x]∧jA4 cR cJ H x r∧(¬ Liv r→OvR cO r H E)∧(Liv r→∃ p d ns,Wd cR cJ cP cS cY cM cW H x r p d ns∧r.pr=some p∧(d.S≠.rd→jDE cN "found" (.str (wd d.S)) H E) ∧
  (jBa r ns < (r.tot:Int)→d.tags.length≤800∧∃ A,d.am.lookup (jBd r (jBa r ns)).1=some A∧1≤A∧(jBd r (jBa r ns)).2.1≤d.b∧(jBd r (jBa r ns)).2.2≤d.c∧(d.S=.rd→∀ l H' ts over,over=decide (d.path < ((ns.length + 1:Nat):Int)) →
    Stp cR cJ cP cS cY cM cW H H' x r p d { d with am:=jBh d.am (jBd r (jBa r ns)).1 (A - 1),b:=d.b - (jBd r (jBa r ns)).2.1,c:=d.c - (jBd r (jBa r ns)).2.2,tags:=ts } l (jGc over (ns ++ [jBa r ns])) (jGT over (ns ++ [jBa r ns]))→Q (.ref l) H')) ∧
  (¬ jBa r ns < (r.tot:Int)→d.S=.rd→∀ l H' ts,Stp cR cJ cP cS cY cM cW H H' x r p d { d with tags:=ts } l (ns.take 1) (ns.drop 1)→Q (.ref l) H'))
theorem jHS:jAn ["self","tag"] ["self"] (jAb jDW):=⟨rfl,rfl,rfl,by decide +kernel,rfl,by decide +kernel,by decide +kernel⟩
theorem jLJ (F:Fun K "step" "Run.step" jDW fa fd) (T:Txt K mg yQ yZ yX yY yV yJ yW yU yK yG cQ cZ cV cK cG vQ vZ vX vY) (D_Run_must_be_placed:MtE P w K mg base 5 "must_be_placed" yK ["self"] (jBv yK yG vZ cZ cQ yJ yW yU)) (D_Run_upcoming:MtE P w K mg base 3 "upcoming" yK ["self"] (jC2 yK yG cZ cQ yJ yW yU)) (D_Printer_push:MtE P w K mg base 4 "push" cZ ["self"] (jEC cK cZ cQ yJ yW yU)) (D_Run_fed:MtE P w K mg base 7 "fed" yK ["self","tag"] (jGa yK yG cK cZ cQ yJ yW yU)) (D_Run_note_out:MtE P w K mg base 4 "note_out" yK ["self","tags"] (jCh yK yG cZ cQ yJ yW yU)) :
    jAh P w K mg base (CXe P w) 8 fa fd ["self"] (jEJ yK yG vZ cK cZ cQ yJ yW yU):=by
  refine F.okE jHS (fun vs H Q E h=>?_) (fun cdv A outer s H vs Q E hr h=>?_)
  · obtain ⟨x,r,rfl,_⟩:=h
    rfl
  obtain ⟨x,r,rfl,R0,qo,qg⟩:=h
  refine ⟨_,(jAd (jAN (jAv 5 jAx (hr.mono (by decide)) (pv 0)))
  (jAd (jAE (i:=1) jHS.nd rfl (by first | exact Or.inl rfl | exact Or.inr rfl) (jAv 3 jAx (hr.mono (by decide)) (pv 0)))
  (jAf (jAp (jAU 4 jAx (hr.mono (by decide)) (pv 0) (jAa (jDw (jAu jGr (pv 1) jAY (jAw _)) (jAv 4 jAx (hr.mono (by decide)) (jAs (pv 0) rfl)) (jAU 7 jAx (hr.mono (by decide)) (pv 0) (jAa (pv 1) jAe))) jAe)))))),?_⟩
  refine ⟨_,rfl,x,_,r.dx,_,_,_,rfl,R0.o,rfl,T.cl_Run,D_Run_must_be_placed,x,r,rfl,R0,fun lv=>?_,qo⟩
  obtain ⟨p,d,ns,W,hp,qn,q1,q2⟩:=qg lv
  refine ⟨⟨p,hp⟩,?_⟩
  refine ⟨_,rfl,x,_,r.dx,_,_,_,rfl,W.R.o,rfl,T.cl_Run,D_Run_upcoming,x,r,rfl,W.R,(fun z=>by rw [hp] at z;cases z),fun p' hp'=>?_⟩
  obtain rfl:p=p':=by rw [hp] at hp';exact Option.some.inj hp'
  refine ⟨d,ns,W.P,W.tg,fun cn t H1 s1 nt ht=>?_,fun cn H1 s1=>?_⟩
  · obtain ⟨lt8,A,la,a1,ub,uc,q⟩:=q1 cn
    have W1:=W.same s1
    refine ⟨_,rfl,x,_,r.dx,_,_,_,rfl,W1.R.o,rfl,T.cl_Run,D_Run_note_out,_,rfl,rfl,false,rfl,jAT ?_⟩
    refine ⟨_,rfl,x,_,r.dx,_,_,_,rfl,W1.R.o,rfl,T.cl_Run,D_Run_fed,_,rfl,x,r,t,_,p,d,A,rfl,W1.R,ht,next_lo _ _,hp,W1.P,fun z=>(qn z).after s1,la,a1,ub,uc,lt8,fun eS l H2 k2 nl hl P2=>?_⟩
    have elen:=W.tg.1
    have tg1:=W1.tg.snoc ht
    have h1:=W1.P.n
    have h2:=W1.P.T.2.2.1
    have h3:=W1.P.I.2.2.1
    have tg2:jAH H2 r.nm (d.tags ++ [V.ref t]) (ns ++ [jBa r ns]):=tg1.fr fun b xs e=>k2 _ _ (jAD e h1 (by intro z;cases z)) (jAD e h2 (by intro z;cases z)) (jAD e h3 (by intro z;cases z)) e
    have R2:=W1.R.prn W1.P W1.n5 k2
    generalize hov:decide (d.path < ((d.tags.length + 1:Nat):Int))=over at hl
    rw [take_if hov] at hl
    refine ⟨x,r,l,_,jGc over (ns ++ [jBa r ns]),rfl,R2,hl,tg2.outs over,fun H3 k3 R3=>?_⟩
    have nlx:l≠x:=fun z=>by rw [z,W1.R.o] at nl;cases nl
    have kt3:∀ b xs,H2 b=some (.tup xs)→H3 b=some (.tup xs):=fun b xs e=>k3 _ _ (jAD e R2.o (by intro z;cases z)) e
    refine q eS l H3 (if over=true then (d.tags ++ [V.ref t]).drop 1 else d.tags ++ [V.ref t]) over (by rw [← hov,elen]) ⟨fun b o e1 e2 e3 e4 e=>k3 _ _ e1 (k2 _ _ e2 e3 e4 (s1 _ _ e)),s1.free nl,⟨_,k3 _ _ nlx hl,(tg2.outs over).fr kt3⟩,?_⟩
    have P3:=P2.off R2.o k3 W.n1 W.n2 W.n3 W.n4
    have ed:feedD d (jBd r (jBa r ns)).1 A (jBd r (jBa r ns)).2.1 (jBd r (jBa r ns)).2.2 (V.ref t)={ d with am:=jBh d.am (jBd r (jBa r ns)).1 (A - 1),b:=d.b - (jBd r (jBa r ns)).2.1,c:=d.c - (jBd r (jBa r ns)).2.2,tags:=if over=true then (d.tags ++ [V.ref t]).drop 1 else d.tags ++ [V.ref t] }:=by
      unfold feedD fedD
      rw [drop_if hov]
    rw [ed] at P3
    exact ⟨R3,P3,by rw [jL8];exact (tg2.rest over).fr kt3,W.n1,W.n2,W.n3,W.n4,by rw [jJq];exact W.n5⟩
  · have W1:=W.same s1
    refine ⟨_,rfl,x,_,r.dx,_,_,_,rfl,W1.R.o,rfl,T.cl_Run,D_Run_note_out,_,rfl,rfl,true,rfl,jA6 ?_⟩
    refine ⟨_,rfl,x,yK,r.dx,_,_,rfl,W1.R.o,T.cl_Run,T.n_Run_printer,rfl,?_⟩
    rw [hp]
    refine ⟨p,_,d.dx,_,_,_,rfl,W1.P.o,rfl,T.cl_Printer,D_Printer_push,p,d,rfl,W1.P,fun eS l H2 k2 nl hl P2=>?_,fun z=>(qn z).after s1⟩
    have k2':∀ b o,b≠d.ins→b≠d.tr2→b≠d.ik2→H1 b=some o→H2 b=some o:=fun b o e1 _ _ e=>k2 b o e1 e
    have tg2:jAH H2 r.nm d.tags ns:=W1.tg.fr fun b xs e=>k2 _ _ (jAD e W1.P.n (by intro z;cases z)) e
    have R2:=W1.R.prn W1.P W1.n5 k2'
    refine ⟨x,r,l,_,ns.take 1,rfl,R2,hl,tg2.take1,fun H3 k3 R3=>?_⟩
    have nlx:l≠x:=fun z=>by rw [z,W1.R.o] at nl;cases nl
    have kt3:∀ b xs,H2 b=some (.tup xs)→H3 b=some (.tup xs):=fun b xs e=>k3 _ _ (jAD e R2.o (by intro z;cases z)) e
    refine q2 cn eS l H3 (d.tags.drop 1) ⟨fun b o e1 e2 e3 e4 e=>k3 _ _ e1 (k2 _ _ e2 (s1 _ _ e)),s1.free nl,⟨_,k3 _ _ nlx hl,tg2.take1.fr kt3⟩,?_⟩
    exact ⟨R3,P2.off R2.o k3 W.n1 W.n2 W.n3 W.n4,by rw [jL8];exact tg2.drop1.fr kt3,W.n1,W.n2,W.n3,W.n4,by rw [jJq];exact W.n5⟩
end
end My
namespace My
open PySem L2
open Blk (sg sg_inj sg_app)
section
variable {P:Program} {w:World} {K:PySem.W.Frag} {mg:Str→Option Value} {base:Heap} {fa yQ yZ yX yY yV yJ yW yU yK yG cQ cZ cV cK cG vQ vZ vX vY:Addr} {fd:FuncData}
noncomputable def jEK (j:Jv):List (Int×Int):=(jEw j.l j.n).map fun s=>inkS s j.colour
noncomputable def newR (dx jb il:Addr) (nm:Str) (cp:Nat) (j:Jv):RD:=⟨dx,jb,il,nm,cp,j,jEK j,0,none,false,false⟩
theorem jMs {l:Ly} {n:Nat} (ok:Ly.Ok l) {i:Nat} {s:List Int×List Int} (h:(jEw l n)[i]?=some s):s.1.length≤100∧s.2.length≤100:=by
  have c:=Ly.cells_pos ok
  unfold jEw at h
  rw [List.getElem?_map] at h
  obtain ⟨k,_,rfl⟩:=Option.map_eq_some_iff.mp h
  unfold jFc jGv
  refine ⟨by rw [List.length_map,List.length_range];omega,?_⟩
  dsimp only
  split
  · rw [List.length_map,List.length_range];omega
  · rw [List.length_replicate];omega
theorem jLc (l:Ly) (n:Nat):(jEw l n).length=jCk l n:=by unfold jEw;rw [List.length_map,List.length_range]
theorem jLd {l:Ly} {n:Nat} (h:1≤n):jCk l n≤n:=by
  unfold jCk
  have:=Nat.div_le_self (n - 1) l.per
  omega
noncomputable def jFy (cR cJ:Addr):Sp:=fun vs H Q _=>∃ (x dx jb:Addr) (nm:Str) (cp:Nat) (j:Jv),vs=[.ref x,.ref jb]∧H x=some (.ins cR dx [])∧jGQ cJ H jb nm cp j∧j.Ok∧1≤cp∧cp≤99∧jb≠x ∧
  ∀ il H',(∀ b o,b≠x→H b=some o→H' b=some o)→H il=none→jA4 cR cJ H' x (newR dx jb il nm cp j)→Q .non H'
theorem jLK:jAn ["self","job"] ["self","job"] (jAb jDS):=⟨rfl,rfl,rfl,by decide +kernel,rfl,by decide +kernel,by decide +kernel⟩
theorem jLL (F:Fun K "__init__" "Run.__init__" jDS fa fd) (T:Txt K mg yQ yZ yX yY yV yJ yW yU yK yG cQ cZ cV cK cG vQ vZ vX vY) (D_ink_of:Dfn P w K mg base 2 "ink_of" ["sheet","colour"] (jHb K)) (D_sheets_of:Dfn P w K mg base 5 "sheets_of" ["job"] (jFN yG)) :
    jAh P w K mg base CX0 6 fa fd ["self","job"] (jFy yK yG):=by
  refine F.ok jLK (fun vs H Q E h=>?_) (fun cdv A outer s H vs Q E hr h=>?_)
  · obtain ⟨x,dx,jb,nm,cp,j,rfl,_⟩:=h
    rfl
  obtain ⟨x,dx,jb,nm,cp,j,rfl,hx,J,ok,c1,c2,njx,q⟩:=h
  refine ⟨_,(jAd (jAL (pv 0) (pv 1) rfl)
  (jAd (jAL (pv 0) (jEo (frees:=[("job",1)]) ⟨by decide +kernel,rfl,rfl,by decide +kernel,⟨⟨rfl,rfl,rfl,by decide +kernel⟩,trivial⟩,by decide +kernel,jBs rfl,rfl⟩ rfl (jCO (jAA D_sheets_of (hr.mono (by decide)) rfl (jAa (pv 1) jAe))) (fun _ _ _ _=>jEg) (fun _ _ _ _=>by exact (jAA D_ink_of (hr.mono (by decide)) rfl (jAa (pv 0) (jAa (pe_fldK (K:=K) rfl (pv 1) rfl) jAe))))) rfl)
  (jAd (jAL (pv 0) jAg rfl)
  (jAd (jAL (pv 0) jAY rfl)
  (jAd (jAL (pv 0) jBL rfl)
  (jAf (jAL (pv 0) jBL rfl))))))),?_⟩
  refine ⟨_,rfl,_,rfl,x,yK,dx,_,rfl,hx,T.cl_Run,T.n_Run_job,(by show 0 < 1000;decide),?_⟩
  rw [jBg (by show ¬ ("job":Str)∈([]:List Str);decide +kernel),List.nil_append]
  have hx1:upd H x (.ins yK dx [("job",V.ref jb)]) x=some (.ins yK dx [("job",V.ref jb)]):=jAc
  have k1:∀ b o,b≠x→H b=some o→upd H x (.ins yK dx [("job",V.ref jb)]) b=some o:=fun b o nb e=>by rw [jAi nb];exact e
  generalize upd H x (.ins yK dx [("job",V.ref jb)])=H1 at hx1 k1 ⊢
  have J1:jGQ yG H1 jb nm cp j:=J.fr (fun o e=>k1 _ _ njx e) (fun b xs e=>k1 _ _ (jAD e hx (by intro z;cases z)) e)
  obtain ⟨jx,jb',ji,jk,jc,je,jcol⟩:=id J1
  refine ⟨_,rfl,jb,j,rfl,J1.jo,ok,fun pl H2 s2 npl SF=>?_⟩
  obtain ⟨ys,hpl,ly,gy⟩:=SF
  have lc:=jLc j.l j.n
  have ch:=jLd (l:=j.l) ok.1
  have n9:=ok.2.1
  refine ⟨pl,rfl,⟨_,SqL.of hpl⟩,?_⟩
  refine jFH (jGK (K:=K) (SqL.of hpl)) (fun y z H3=>∀ s,jEV H2 y s→∃ t,z=.ref t∧H3 t=some (.tup [.int (inkS s j.colour).1,.int (inkS s j.colour).2])) (jBb (by omega)) (fun y hy H' R _ rr=>rr) (fun y hy H' R sm rr=>?_) (fun il H3 zs s3 nil' hil lz gz=>?_)
  · obtain ⟨i,ei⟩:=List.mem_iff_getElem?.mp hy
    obtain ⟨s,es⟩:∃ s,(jEw j.l j.n)[i]?=some s:=⟨_,List.getElem?_eq_getElem (by rw [← ly];exact (List.getElem?_eq_some_iff.mp ei).1)⟩
    have sa:=(gy i y s ei es).at
    obtain ⟨l1,l2⟩:=jMs ok.2.2 es
    refine ⟨_,rfl,_,rfl,jb,yG,jx,_,_,rfl,(s2.trans sm) _ _ je,T.cl_Job,T.n_Job_colour,jF7 _ _ _ _ _ _ _ _ _ _,y,jc,s,j.colour,rfl,sa.same sm,l1,l2,jcol.same (s2.trans sm),fun t H'' s'' nt ht=>?_⟩
    refine rr _ _ s'' ⟨fun b=>b=t,fun b hb=>by subst hb;exact ⟨nt,_,ht⟩,fun H3 h3 s' sa'=>⟨t,rfl,?_⟩⟩
    rw [h3 t rfl,ht]
    obtain ⟨t1,f1,b1,e1,g1,g2,g3⟩:=sa
    obtain ⟨t2,f2,b2,e2,g4,g5,g6⟩:=sa'
    rw [e1] at e2
    cases e2
    rw [g1] at g4
    cases g4
    rw [g2] at g5
    rw [g3] at g6
    have q1:s.1=s'.1:=by injection g5 with g5;injection g5 with g5;exact (List.map_inj_right (fun a b z=>by injection z)).mp g5
    have q2:s.2=s'.2:=by injection g6 with g6;injection g6 with g6;exact (List.map_inj_right (fun a b z=>by injection z)).mp g6
    rw [show s=s' from Prod.ext q1 q2]
  have s13:=s2.trans s3
  have hx3:=s13 _ _ hx1
  have nilx:il≠x:=jAD hil hx3 (by intro z;cases z)
  have kk:∀ b o,b≠x→H b=some o→H3 b=some o:=fun b o nb e=>s13 _ _ (k1 b o nb e)
  have I3:jHe H3 il (jEK j):=by
    refine ⟨zs,hil,by unfold jEK;rw [List.length_map,lz,ly],fun i z s e1 e2=>?_⟩
    unfold jEK at e2
    rw [List.getElem?_map] at e2
    obtain ⟨sh,es,rfl⟩:=Option.map_eq_some_iff.mp e2
    obtain ⟨y,ey⟩:∃ y,ys[i]?=some y:=⟨_,List.getElem?_eq_getElem (by rw [ly];exact (List.getElem?_eq_some_iff.mp es).1)⟩
    exact gz i y z ey e1 sh (gy i y sh ey es).at
  have J3:=J1.fr (fun o e=>s13 _ _ e) (fun b xs e=>s13 _ _ e)
  have k1':=k1
  clear gz gy hx1 k1 J1
  refine ⟨_,rfl,x,yK,dx,_,rfl,hx3,T.cl_Run,T.n_Run_inks,(by show 1 < 1000;decide),?_⟩
  rw [jBg (by show ¬ ("inks":Str)∈(["job"]:List Str);decide +kernel)]
  have hx4:upd H3 x (.ins yK dx (([("job",V.ref jb)]:List (Str×V)) ++ ([("inks",V.ref il)]:List (Str×V)))) x=some (.ins yK dx [("job",V.ref jb),("inks",V.ref il)]):=jAc
  have e4:∀ b o,b≠x→H3 b=some o→upd H3 x (.ins yK dx (([("job",V.ref jb)]:List (Str×V)) ++ ([("inks",V.ref il)]:List (Str×V)))) b=some o:=fun b o nb e=>by rw [jAi nb];exact e
  generalize upd H3 x (.ins yK dx (([("job",V.ref jb)]:List (Str×V)) ++ ([("inks",V.ref il)]:List (Str×V))))=H4 at hx4 e4 ⊢
  refine ⟨_,rfl,x,yK,dx,_,rfl,hx4,T.cl_Run,T.n_Run_passed,(by show 2 < 1000;decide),?_⟩
  rw [jBg (by show ¬ ("passed":Str)∈(["job","inks"]:List Str);decide +kernel)]
  have hx5:upd H4 x (.ins yK dx (([("job",V.ref jb),("inks",V.ref il)]:List (Str×V)) ++ ([("passed",V.int 0)]:List (Str×V)))) x=some (.ins yK dx [("job",V.ref jb),("inks",V.ref il),("passed",V.int 0)]):=jAc
  have e5:∀ b o,b≠x→H4 b=some o→upd H4 x (.ins yK dx (([("job",V.ref jb),("inks",V.ref il)]:List (Str×V)) ++ ([("passed",V.int 0)]:List (Str×V)))) b=some o:=fun b o nb e=>by rw [jAi nb];exact e
  generalize upd H4 x (.ins yK dx (([("job",V.ref jb),("inks",V.ref il)]:List (Str×V)) ++ ([("passed",V.int 0)]:List (Str×V))))=H5 at hx5 e5 ⊢
  refine ⟨_,rfl,x,yK,dx,_,rfl,hx5,T.cl_Run,T.n_Run_printer,(by show 3 < 1000;decide),?_⟩
  rw [jBg (by show ¬ ("printer":Str)∈(["job","inks","passed"]:List Str);decide +kernel)]
  have hx6:upd H5 x (.ins yK dx (([("job",V.ref jb),("inks",V.ref il),("passed",V.int 0)]:List (Str×V)) ++ ([("printer",V.non)]:List (Str×V)))) x=some (.ins yK dx [("job",V.ref jb),("inks",V.ref il),("passed",V.int 0),("printer",V.non)]):=jAc
  have e6:∀ b o,b≠x→H5 b=some o→upd H5 x (.ins yK dx (([("job",V.ref jb),("inks",V.ref il),("passed",V.int 0)]:List (Str×V)) ++ ([("printer",V.non)]:List (Str×V)))) b=some o:=fun b o nb e=>by rw [jAi nb];exact e
  generalize upd H5 x (.ins yK dx (([("job",V.ref jb),("inks",V.ref il),("passed",V.int 0)]:List (Str×V)) ++ ([("printer",V.non)]:List (Str×V))))=H6 at hx6 e6 ⊢
  refine ⟨_,rfl,x,yK,dx,_,rfl,hx6,T.cl_Run,T.n_Run_slipped,(by show 4 < 1000;decide),?_⟩
  rw [jBg (by show ¬ ("slipped":Str)∈(["job","inks","passed","printer"]:List Str);decide +kernel)]
  have hx7:upd H6 x (.ins yK dx (([("job",V.ref jb),("inks",V.ref il),("passed",V.int 0),("printer",V.non)]:List (Str×V)) ++ ([("slipped",V.bl false)]:List (Str×V)))) x=some (.ins yK dx [("job",V.ref jb),("inks",V.ref il),("passed",V.int 0),("printer",V.non),("slipped",V.bl false)]):=jAc
  have e7:∀ b o,b≠x→H6 b=some o→upd H6 x (.ins yK dx (([("job",V.ref jb),("inks",V.ref il),("passed",V.int 0),("printer",V.non)]:List (Str×V)) ++ ([("slipped",V.bl false)]:List (Str×V)))) b=some o:=fun b o nb e=>by rw [jAi nb];exact e
  generalize upd H6 x (.ins yK dx (([("job",V.ref jb),("inks",V.ref il),("passed",V.int 0),("printer",V.non)]:List (Str×V)) ++ ([("slipped",V.bl false)]:List (Str×V))))=H7 at hx7 e7 ⊢
  refine ⟨_,rfl,x,yK,dx,_,rfl,hx7,T.cl_Run,T.n_Run_broken,(by show 5 < 1000;decide),?_⟩
  rw [jBg (by show ¬ ("broken":Str)∈(["job","inks","passed","printer","slipped"]:List Str);decide +kernel)]
  have hx8:upd H7 x (.ins yK dx (([("job",V.ref jb),("inks",V.ref il),("passed",V.int 0),("printer",V.non),("slipped",V.bl false)]:List (Str×V)) ++ ([("broken",V.bl false)]:List (Str×V)))) x=some (.ins yK dx [("job",V.ref jb),("inks",V.ref il),("passed",V.int 0),("printer",V.non),("slipped",V.bl false),("broken",V.bl false)]):=jAc
  have e8:∀ b o,b≠x→H7 b=some o→upd H7 x (.ins yK dx (([("job",V.ref jb),("inks",V.ref il),("passed",V.int 0),("printer",V.non),("slipped",V.bl false)]:List (Str×V)) ++ ([("broken",V.bl false)]:List (Str×V)))) b=some o:=fun b o nb e=>by rw [jAi nb];exact e
  generalize upd H7 x (.ins yK dx (([("job",V.ref jb),("inks",V.ref il),("passed",V.int 0),("printer",V.non),("slipped",V.bl false)]:List (Str×V)) ++ ([("broken",V.bl false)]:List (Str×V))))=H8 at hx8 e8 ⊢
  have e38:∀ b o,b≠x→H3 b=some o→H8 b=some o:=fun b o nb e=>e8 b o nb (e7 b o nb (e6 b o nb (e5 b o nb (e4 b o nb e))))
  have kt:∀ b xs,H3 b=some (.tup xs)→H8 b=some (.tup xs):=fun b xs e=>e38 _ _ (jAD e hx3 (by intro z;cases z)) e
  have il0:H il=none:=by
    cases e:H il with
    | none=>rfl
    | some u =>
      rw [s2 _ _ (k1' _ _ nilx e)] at nil'
      cases nil'
  exact q il H8 (fun b o nb e=>e38 _ _ nb (kk b o nb e)) il0 { o:=hx8,j:=J3.fr (fun o e=>e38 _ _ njx e) kt,i:=I3.fr (fun o e=>e38 _ _ nilx e) kt,n:=njx,c1:=c1,c2:=c2,i1:=by unfold newR jEK;rw [List.length_map,lc];unfold jCk;exact Nat.le_add_left 1 _,i2:=by unfold newR jEK;rw [List.length_map,lc];omega }
end
end My
namespace My
open PySem L2
open Blk (sg sg_inj sg_app)
section
variable {P:Program} {w:World} {K:PySem.W.Frag} {mg:Str→Option Value} {base:Heap} {fa yQ yZ yX yY yV yJ yW yU yK yG cQ cZ cV cK cG vQ vZ vX vY:Addr} {fd:FuncData}
theorem jBf {a rest:TS} {D:jCq} {σ:St} {H:Hp} (P:St→Hp→Prop) (h1:∀ R:St→Hp→Prop,(∀ σ H,P σ H→R σ H)→a { D with nx:=R } σ H) (h2:∀ σ H,P σ H→rest D σ H):jGf a rest D σ H:=h1 _ h2
theorem jA2 {a rest:TS} {D:jCq} {σ:St} {H:Hp} (P:St→Hp→Prop) (h1:∀ R:St→Hp→Prop,(∀ σ H,P σ H→R σ H)→a { D with nx:=R } σ H) (h2:∀ (X:Prop) (σ:St) (H:Hp),(rest D σ H→X)→P σ H→X):jGf a rest D σ H:=h1 _ fun σ H p=>h2 _ σ H id p
theorem jNH {a rest:TS} {D:jCq} {σ:St} {H:Hp} (h:∀ T,T=rest→jGf a T D σ H):jGf a rest D σ H:=h rest rfl
theorem jBz {T a rest:TS} (e:T=jGf a rest):∃ T',T'=rest∧T=jGf a T':=⟨rest,rfl,e⟩
theorem via {T T' a:TS} {D:jCq} {σ:St} {H:Hp} (e:T=jGf a T') (h:jGf a T' D σ H):T D σ H:=by rw [e];exact h
noncomputable def jEL (_K:PySem.W.Frag):Sp:=fun vs H Q _=>∃ n:Int,vs=[.int n,.int n]∧Q (.bl true) H
theorem jMt:jAn ["_law_num","_law_due_here"] ["_law_num","_law_due_here"] (jAb jEt):=⟨rfl,rfl,rfl,by decide +kernel,rfl,by decide +kernel,by decide +kernel⟩
theorem jMu (F:Fun K "_law_is" "_law_is" jEt fa fd) (T:Txt K mg yQ yZ yX yY yV yJ yW yU yK yG cQ cZ cV cK cG vQ vZ vX vY)  :
    jAh P w K mg base CX0 1 fa fd ["_law_num","_law_due_here"] (jEL K):=by
  refine F.ok jMt (fun vs H Q E h=>?_) (fun cdv A outer s H vs Q E hr h=>?_)
  · obtain ⟨n,rfl,_⟩:=h
    rfl
  obtain ⟨n,rfl,q⟩:=h
  refine ⟨_,(jAf (jAp (jG0 (jAP jDz rfl T.isinstance jE8 (jAa (pv 0) (jAa (jEk rfl T.int jKB (jE9 _)) jAe))) (jG0 (pe_not (jAP jDz rfl T.isinstance jE8 (jAa (pv 0) (jAa (jEk rfl T.bool jLX (jE9 _)) jAe)))) (jH7 (jFz jA_ (pv 0) (pv 1) (jAw _))))))),?_⟩
  refine ⟨_,rfl,_,_,_,true,rfl,jBU.int _,jEf _,true,rfl,jA6 ?_⟩
  refine ⟨_,rfl,_,_,_,false,rfl,jBU.int _,jKG _,false,rfl,true,rfl,jA6 ?_⟩
  refine ⟨_,rfl,_,rfl,rfl,?_⟩
  rw [decide_eq_true rfl]
  exact q
noncomputable def jDJ (_K:PySem.W.Frag):Sp:=fun vs H Q _=>∃ (a b:Addr) (nm:Str) (ts us:List V) (ns:List Int),vs=[.ref a,.ref b]∧H a=some (.lst ts)∧H b=some (.lst us)∧jAH H nm ts ns∧jAH H nm us ns∧ns.length≤900∧Q (.bl true) H
theorem jHf:jAn ["_law_told","_law_due_here","_law_k"] ["_law_told","_law_due_here"] (jAb jDp):=⟨rfl,rfl,rfl,by decide +kernel,rfl,by decide +kernel,by decide +kernel⟩
theorem jLe (F:Fun K "_law_tags" "_law_tags" jDp fa fd) (T:Txt K mg yQ yZ yX yY yV yJ yW yU yK yG cQ cZ cV cK cG vQ vZ vX vY) (D__law_is:Dfn P w K mg base 1 "_law_is" ["_law_num","_law_due_here"] (jEL K)) :
    jAh P w K mg base CX0 2 fa fd ["_law_told","_law_due_here"] (jDJ K):=by
  refine F.ok jHf (fun vs H Q E h=>?_) (fun cdv A outer s H vs Q E hr h=>?_)
  · obtain ⟨a,b,nm,ts,us,ns,rfl,_⟩:=h
    rfl
  obtain ⟨a,b,nm,ts,us,ns,rfl,ha,hb,ta,tb,l9,q⟩:=h
  have hu:=jEh hr 0 (by decide)
  refine ⟨_,(jAd (jAJ (PW.pt (jC6 (jCF (jAQ (jAP jDz rfl T.isinstance jE8 (jAa (pv 0) (jAa (jEk rfl T.list jLW (jE9 _)) jAe))) (fun _=>rfl))) (jCN (jAu jD_ (jAP jAS rfl T.len PySem.boot_len (jAa (pv 0) jAe)) (jAP jAS rfl T.len PySem.boot_len (jAa (pv 1) jAe)) (jAw _))))) (jAf (jAp jBL)) jAz)
  (jAd (jD5 PassesOwn.never rfl (jEl rfl T.range (jAa (jAP jAS rfl T.len PySem.boot_len (jAa (pv 1) jAe)) jAe)) (jBA (i:=2) jHf.nd rfl (by first | exact Or.inl rfl | exact Or.inr rfl))
  (jAf (jAJ (PW.pt (jC6 (jCF (jAQ (jAP jDz rfl T.isinstance jE8 (jAa (jAG jBV (pv 0) (pv 2) (fun _ _=>rfl)) (jAa (jEk rfl T.tuple jGI (jE9 _)) jAe))) (fun _=>rfl))) (jC6 (jAu (jGN (n:=0) hu) (jAG jBV (pv 0) (pv 2) (fun _ _=>rfl)) (jAG jBV (pv 1) (pv 2) (fun _ _=>rfl)) (jAw _)) (jCN (jCF (jAQ (jAA D__law_is (hr.mono (by decide)) rfl (jAa (jAG jAM (jAG jBV (pv 0) (pv 2) (fun _ _=>rfl)) jAg (fun _ _=>rfl)) (jAa (jAG jAM (jAG jBV (pv 1) (pv 2) (fun _ _=>rfl)) jAg (fun _ _=>rfl)) jAe))) (fun _=>rfl))))))) (jAf (jAp jBL)) jAz)))
  (jAf (jAp jBL)))),?_⟩
  have e1:=ta.1
  have e2:=tb.1
  refine ⟨_,rfl,_,_,_,true,rfl,jBU.lst ha,jEf _,true,rfl,jAT ?_⟩
  refine ⟨_,rfl,a,_,rfl,.inl (SqL.of ha),_,rfl,b,_,rfl,.inl (SqL.of hb),rfl,false,by rw [e1,e2,decide_eq_true rfl];rfl,jAT ?_⟩
  refine ⟨_,rfl,b,_,rfl,.inl (SqL.of hb),_,rfl,by omega,by omega,?_⟩
  rw [Int.toNat_natCast]
  refine jG2 (lo:=0) (n:=us.length) (fun i σ G=>G=H∧∃ v2:Option V,σ=[some (.ref a),some (.ref b),v2]) ⟨rfl,_,rfl⟩ (fun i σ G hi z=>?_) (fun σ G z=>?_)
  · obtain ⟨rfl,v2,rfl⟩:=z
    obtain ⟨n,en⟩:∃ n,ns[i]?=some n:=⟨_,List.getElem?_eq_getElem (by omega)⟩
    obtain ⟨ya,ea⟩:∃ y,ts[i]?=some y:=⟨_,List.getElem?_eq_getElem (by omega)⟩
    obtain ⟨yb,eb⟩:∃ y,us[i]?=some y:=⟨_,List.getElem?_eq_getElem (by omega)⟩
    obtain ⟨t,rfl,ht⟩:=ta.2 i ya n ea en
    obtain ⟨u,rfl,hu'⟩:=tb.2 i yb n eb en
    have ix:((0:Int) + (i:Int)).toNat=i:=by omega
    have gA:∀ {v:V},ts[((0:Int) + (i:Int)).toNat]?=some v→v=.ref t:=fun hv=>by rw [ix,ea] at hv;exact (Option.some.inj hv).symm
    have gB:∀ {v:V},us[((0:Int) + (i:Int)).toNat]?=some v→v=.ref u:=fun hv=>by rw [ix,eb] at hv;exact (Option.some.inj hv).symm
    refine ⟨_,rfl,_,rfl,a,_,_,rfl,rfl,SqL.of ha,by omega,by omega,fun v hv=>?_⟩
    obtain rfl:=gA hv
    refine ⟨_,_,_,true,rfl,jBU.tup ht,jEf _,true,rfl,jAT ?_⟩
    refine ⟨_,rfl,_,rfl,a,_,_,rfl,rfl,SqL.of ha,by omega,by omega,fun v hv=>?_⟩
    obtain rfl:=gA hv
    refine ⟨_,rfl,_,rfl,b,_,_,rfl,rfl,SqL.of hb,by omega,by omega,fun v hv=>?_⟩
    obtain rfl:=gB hv
    refine ⟨t,u,_,_,rfl,rfl,.inr ⟨SqT.of ht,SqT.of hu'⟩,rfl,fun k hk=>?_,false,rfl,jAT ?_⟩
    · have:k=0∨k=1:=by have:k < 2:=hk;omega
      rcases this with rfl | rfl <;> exact ⟨rfl,rfl⟩
    refine ⟨_,rfl,_,rfl,a,_,_,rfl,rfl,SqL.of ha,by omega,by omega,fun v hv=>?_⟩
    obtain rfl:=gA hv
    refine ⟨t,_,_,_,rfl,rfl,SqT.of ht,jAC (j:=1) rfl,?_⟩
    refine ⟨_,rfl,_,rfl,b,_,_,rfl,rfl,SqL.of hb,by omega,by omega,fun v hv=>?_⟩
    obtain rfl:=gB hv
    exact ⟨u,_,_,_,rfl,rfl,SqT.of hu',jAC (j:=1) rfl,n,rfl,true,rfl,jAT ⟨rfl,_,rfl⟩⟩
  · obtain ⟨rfl,_⟩:=z
    exact q
theorem up_head {n:Nat} (h1:2≤n) (h2:n≤16):Txt.slice (Ly.text (.up n)) none (some 3)=Str.ofString "up:"∧(Ly.text (.up n)).length≤20:=by
  have all:∀ n:Fin 17,2≤n.val→Txt.slice (Ly.text (.up n.val)) none (some 3)=Str.ofString "up:"∧(Ly.text (.up n.val)).length≤20:=by decide +kernel
  exact all ⟨n,by omega⟩ h1
noncomputable def jFQ (_K:PySem.W.Frag):Sp:=fun vs H Q _=>∃ (n:Nat) (l:Ly),vs=[.int (n:Int),.str (Ly.text l)]∧Ly.Ok l∧1≤n∧n≤999∧Q (.int ((jCk l n:Nat):Int)) H
theorem jEM:jAn ["_law_pages","_law_layout","_law_per"] ["_law_pages","_law_layout"] (jAb jDo):=⟨rfl,rfl,rfl,by decide +kernel,rfl,by decide +kernel,by decide +kernel⟩
theorem jLf (F:Fun K "_law_each" "_law_each" jDo fa fd) (T:Txt K mg yQ yZ yX yY yV yJ yW yU yK yG cQ cZ cV cK cG vQ vZ vX vY)  :
    jAh P w K mg base CX0 1 fa fd ["_law_pages","_law_layout"] (jFQ K):=by
  refine F.ok jEM (fun vs H Q E h=>?_) (fun cdv A outer s H vs Q E hr h=>?_)
  · obtain ⟨n,l,rfl,_⟩:=h
    rfl
  obtain ⟨n,l,rfl,ok,n1,n9,q⟩:=h
  refine ⟨_,(jAd (jAE (i:=2) jEM.nd rfl (by first | exact Or.inl rfl | exact Or.inr rfl) jAg)
  (jAd (jAJ (jAu jA_ (pv 1) jAj (jAw _)) (jAf (jAE (i:=2) jEM.nd rfl (by first | exact Or.inl rfl | exact Or.inr rfl) jAg)) jAz)
  (jAd (jAJ (jAu jA_ (jCI jKF (pv 1) jDa (jDb jAg)) jAj (jAw _)) (jAf (jAE (i:=2) jEM.nd rfl (by first | exact Or.inl rfl | exact Or.inr rfl) (jAF jFF jAg (jC4 jGX rfl T.int jKB (jAa (jCI jKF (pv 1) (jDb jAg) jDa) jAe))))) jAz)
  (jAf (jAp (jAF jHl (jAF jE5 (jAF jA0 (pv 0) (pv 2)) jAg) (pv 2))))))),?_⟩
  have hp:=Ly.per_pos ok
  have fin:∀ k:Int,k=(l.per:Int)→Q (.int (((n:Int) + k - 1) / k)) H:=fun k ek=>by
    have e:((n:Int) + (l.per:Int) - 1) / (l.per:Int)=((jCk l n:Nat):Int):=by
      rw [show (n:Int) + (l.per:Int) - 1=((n - 1 + l.per:Nat):Int) from by omega,← Int.natCast_ediv,Nat.add_div_right _ (by omega)]
      rfl
    rw [ek,e]
    exact q
  have tail:∀ k:Int,k=(l.per:Int)→k < 1000→0 < k→tRet (tOp (rI CDiv fun i j=>.int (i / j)) (tOp (rI0 fun i j=>.int (i - j)) (tOp (rI0 fun i j=>.int (i + j)) (jGe 0) (jGe 2)) (tC (.int 1))) (jGe 2)) { nx:=fun _ H'=>Q .non H',rt:=Q } [some (.int (n:Int)),some (.str (Ly.text l)),some (.int k)] H:=fun k ek k1 k0=>⟨_,rfl,_,rfl,_,_,rfl,rfl,_,_,rfl,rfl,_,rfl,_,_,rfl,rfl,⟨k0,by omega⟩,fin k ek⟩
  refine ⟨_,rfl,rfl,_,rfl,?_⟩
  cases l with
  | one =>
    refine jBy (by decide +kernel) ⟨_,rfl,_,rfl,_,rfl,(by decide +kernel),rfl,_,rfl,jBy (by decide +kernel) ?_⟩
    exact tail 1 rfl (by decide) (by decide)
  | both =>
    refine jEy rfl ⟨_,rfl,_,rfl,_,rfl,(by decide +kernel),rfl,_,rfl,jBy (by decide +kernel) ?_⟩
    exact tail 2 rfl (by decide) (by decide)
  | up n' =>
    obtain ⟨u1,u2,u3,u4,u5⟩:=jM4 ok.1 ok.2
    obtain ⟨h1,h2⟩:=up_head ok.1 ok.2
    have n6:n'≤16:=ok.2
    have n2:2≤n':=ok.1
    refine jBy (by intro z;injection z with z;exact u4 z) ⟨_,rfl,_,rfl,_,rfl,small (by omega),rfl,_,rfl,?_⟩
    rw [h1]
    refine jEy rfl ⟨_,rfl,_,rfl,_,rfl,small (by omega),_,_,rfl,u1,Nat.le_trans u2 (by decide),_,_,rfl,rfl,.inl ⟨by decide,by decide⟩,?_⟩
    refine tail (2 * (n':Int)) ?_ (by omega) (by omega)
    show _=((2 * n':Nat):Int)
    omega
noncomputable def itm (b j:Nat):Int:=if j=0 then -1 else ((b + j - 1:Nat):Int)
noncomputable def win (b a f:Nat):List Int:=(List.range (f - a)).map fun i=>itm b (a + i)
theorem jCE (b a f:Nat):(win b a f).length=f - a:=by unfold win;rw [List.length_map,List.length_range]
theorem jDK (b a:Nat):win b a a=[]:=by unfold win;rw [Nat.sub_self];rfl
theorem jH3 {b a f:Nat} (h:a≤f):win b a f ++ [itm b f]=win b a (f + 1):=by
  unfold win
  rw [show f + 1 - a=(f - a) + 1 by omega,List.range_succ,List.map_append]
  show _=_ ++ [itm b (a + (f - a))]
  rw [show a + (f - a)=f by omega]
theorem jFR {b a f k:Nat} (h:a + k≤f):(win b a f).take k=win b a (a + k):=by
  unfold win
  rw [← List.map_take,List.take_range,show min k (f - a)=a + k - a by omega]
theorem jH4 {b a f:Nat} (h:a < f):win b a f=itm b a :: win b (a + 1) f:=by
  unfold win
  rw [show f - a=(f - (a + 1)) + 1 by omega,List.range_succ_eq_map,List.map_cons,List.map_map]
  congr 1
  refine List.map_congr_left fun i _=>?_
  show itm b (a + (i + 1))=itm b (a + 1 + i)
  rw [show a + (i + 1)=a + 1 + i by omega]
noncomputable def shN (b a f:Nat):Nat:=if a=0 then f - 1 else f - a
theorem itm_ne {b j:Nat} (h:j≠0):itm b j≠-1:=by
  unfold itm
  rw [if_neg h]
  omega
theorem jGU (b a:Nat):∀ k,jBJ (win b a (a + k))=shN b a (a + k)
  | 0=>by
    rw [Nat.add_zero,jDK]
    unfold shN
    split
    · next h=>rw [h];rfl
    · rw [Nat.sub_self];rfl
  | k + 1=>by
    have ih:=jGU b a k
    rw [← Nat.add_assoc,← jH3 (by omega),jMq,ih]
    by_cases c:a + k=0
    · have e1:itm b (a + k)=-1:=by unfold itm;rw [if_pos c]
      rw [e1]
      unfold shN
      rw [if_pos (by omega),if_pos (by omega),c]
      rfl
    · have e1:jBJ [itm b (a + k)]=1:=by
        unfold jBJ
        rw [List.countP_cons,decide_eq_true (itm_ne c)]
        rfl
      rw [e1]
      unfold shN
      split <;> omega
noncomputable def R4 (r:RD) (p:Addr) (b M a:Nat):RD:={ r with ps:=b + (a - 1),sl:=decide (1≤a),pr:=if a=M then none else some p }
theorem jGV {r:RD} {p:Addr} {b M a f:Nat} (h:a≤f):jBa (R4 r p b M a) (win b a f)=itm b f:=by
  have es:=jGU b a (f - a)
  rw [show a + (f - a)=f by omega] at es
  unfold jBa
  by_cases c:(R4 r p b M a).sl=false∧win b a f=[]
  · rw [if_pos c]
    have h1:¬ 1≤a:=of_decide_eq_false c.1
    have h2:=congrArg List.length c.2
    rw [jCE] at h2
    have h3:f - a=0:=h2
    unfold itm
    rw [if_pos (by omega)]
  · rw [if_neg c,es]
    have h4:f≠0:=fun z=>c ⟨decide_eq_false (by omega),by rw [z,show a=0 by omega];exact jDK b 0⟩
    unfold itm shN
    rw [if_neg h4]
    show ((b + (a - 1) + (if a=0 then f - 1 else f - a):Nat):Int)=_
    split <;> omega
theorem jNI {sl:Bool} {b a f:Nat} (h:a < f) (e:sl=decide (1≤a)):jGS sl (win b a f)=decide (1≤f):=by
  unfold jGS
  rw [decide_eq_true (show 1≤f by omega),e]
  by_cases c:1≤a
  · rw [decide_eq_true c];rfl
  · rw [jH4 h,List.any_cons,show itm b a=-1 by unfold itm;rw [if_pos (by omega)]]
    simp
theorem jNJ {r:RD} {p:Addr} {b M a f:Nat} (h:a≤f):(jBw (R4 r p b M a) (win b a f)).ps=b + (f - 1)∧(jBw (R4 r p b M a) (win b a f)).sl=decide (1≤f):=by
  have es:=jGU b a (f - a)
  rw [show a + (f - a)=f by omega] at es
  refine ⟨?_,?_⟩
  · show b + (a - 1) + jBJ (win b a f)=_
    rw [es]
    unfold shN
    split <;> omega
  · show jGS (decide (1≤a)) (win b a f)=_
    by_cases c:a < f
    · exact jNI c rfl
    · rw [show f=a by omega,jDK]
      unfold jGS
      simp
theorem jHA {r:RD} {p:Addr} {b M a f:Nat} (hM:r.tot + 1=b + M) (h2:2≤M) (h:a≤f) (hf:f≤M) (ha:a < M):jFP (R4 r p b M a) (win b a f)=R4 r p b M f:=by
  obtain ⟨e1,e2⟩:=jNJ (r:=r) (p:=p) (b:=b) (M:=M) h
  have et:(R4 r p b M a).tot=r.tot:=rfl
  have full:jBw (R4 r p b M a) (win b a f)={ R4 r p b M a with ps:=b + (f - 1),sl:=decide (1≤f) }:=by
    have g:jBw (R4 r p b M a) (win b a f)={ R4 r p b M a with ps:=(jBw (R4 r p b M a) (win b a f)).ps,sl:=(jBw (R4 r p b M a) (win b a f)).sl }:=rfl
    rw [g,e1,e2]
  unfold jFP
  rw [et,e1,full]
  unfold R4
  by_cases c:f=M
  · rw [if_pos (by omega),if_pos c]
  · rw [if_neg (by omega),if_neg c,if_neg (by omega)]
theorem liv_4 {r:RD} {p:Addr} {b M a:Nat} (hb:r.br=false) (hM:r.tot + 1=b + M) (h2:2≤M) (h:a < M):Liv (R4 r p b M a):=⟨hb,by show b + (a - 1)≠r.tot;omega⟩
theorem jNK:∀ u:Nat,u < 17→((u:Int)).natAbs.log2 < 1920∧(Str.ofString "up:").length + (Str.ofString (toString (u:Int))).length≤1000:=by decide +kernel
end
end My
namespace My
open PySem L2
open Blk (sg sg_inj sg_app)
section
variable {P:Program} {w:World} {K:PySem.W.Frag} {mg:Str→Option Value} {base:Heap} {fa yQ yZ yX yY yV yJ yW yU yK yG cQ cZ cV cK cG vQ vZ vX vY:Addr} {fd:FuncData}
theorem jAH.app {H:Hp} {nm:Str} {ts us:List V} {ns ms:List Int} (h:jAH H nm ts ns) (g:jAH H nm us ms):jAH H nm (ts ++ us) (ns ++ ms):=⟨by rw [List.length_append,List.length_append,h.1,g.1],fun i y n a b=>by
  by_cases c:i < ts.length
  · rw [List.getElem?_append_left c] at a
    rw [List.getElem?_append_left (by rw [← h.1];exact c)] at b
    exact h.2 i y n a b
  · rw [List.getElem?_append_right (by omega)] at a
    rw [List.getElem?_append_right (by rw [← h.1];omega),← h.1] at b
    exact g.2 _ y n a b⟩
noncomputable abbrev kw (w:String):Key:=Sum.inr (Str.ofString w)
structure MD where
  nm:Str
  T:Nat
  pa:Int
  wo:Str
  wa:Str
  wi:Addr
  ca:Int
  ou:Addr
  ov:Bool
  fe:Int
noncomputable def MD.kv (m:MD):List (Key×V):=[(kw "name",.str m.nm),(kw "total",.int (m.T:Int)),(kw "path",.int m.pa),(kw "word",.str m.wo),(kw "was",.str m.wa),(kw "within",.ref m.wi),(kw "came",.int m.ca),(kw "outs",.ref m.ou),(kw "over",.bl m.ov),(kw "fed",.int m.fe)]
theorem jGm {H:Hp} {a:Addr} {kvs:List (Key×V)} {w:String} {v:V} (h:H a=some (.dK kvs)) (l:jCJ kvs (kw w)=some v):jBM H a (.str (Str.ofString w)) (some v):=by
  have:=jBM.k (k:=kw w) h
  rw [l] at this
  exact this
section
variable {H:Hp} {d:Addr} {m:MD} (h:H d=some (.dK m.kv))
include h
theorem jNc:jBM H d (.str (Str.ofString "name")) (some (.str m.nm)):=jGm h (by kernel_rfl)
theorem jL9:jBM H d (.str (Str.ofString "total")) (some (.int (m.T:Int))):=jGm h (by kernel_rfl)
theorem g_path:jBM H d (.str (Str.ofString "path")) (some (.int m.pa)):=jGm h (by kernel_rfl)
theorem jFS:jBM H d (.str (Str.ofString "word")) (some (.str m.wo)):=jGm h (by kernel_rfl)
theorem g_was:jBM H d (.str (Str.ofString "was")) (some (.str m.wa)):=jGm h (by kernel_rfl)
theorem jC8:jBM H d (.str (Str.ofString "within")) (some (.ref m.wi)):=jGm h (by kernel_rfl)
theorem jHg:jBM H d (.str (Str.ofString "came")) (some (.int m.ca)):=jGm h (by kernel_rfl)
theorem jLg:jBM H d (.str (Str.ofString "outs")) (some (.ref m.ou)):=jGm h (by kernel_rfl)
theorem jIY:jBM H d (.str (Str.ofString "over")) (some (.bl m.ov)):=jGm h (by kernel_rfl)
theorem g_fed:jBM H d (.str (Str.ofString "fed")) (some (.int m.fe)):=jGm h (by kernel_rfl)
theorem sput {w:String} {v:V} {m':MD} (e:jCK m.kv (kw w) v=m'.kv):jDy H d (.str (Str.ofString w)) v (upd H d (.dK m'.kv)):=by
  have:=jDy.k (k:=kw w) (v:=v) h (show m.kv.length < sizeLine from jBb (by show 10≤1000;decide))
  rw [e] at this
  exact this
theorem jLh (w:Str):jDy H d (.str (Str.ofString "word")) (.str w) (upd H d (.dK ({ m with wo:=w }:MD).kv)):=sput h (by kernel_rfl)
theorem p_was (w:Str):jDy H d (.str (Str.ofString "was")) (.str w) (upd H d (.dK ({ m with wa:=w }:MD).kv)):=sput h (by kernel_rfl)
theorem jH5 (w:Addr):jDy H d (.str (Str.ofString "within")) (.ref w) (upd H d (.dK ({ m with wi:=w }:MD).kv)):=sput h (by kernel_rfl)
theorem p_came (c:Int):jDy H d (.str (Str.ofString "came")) (.int c) (upd H d (.dK ({ m with ca:=c }:MD).kv)):=sput h (by kernel_rfl)
theorem p_outs (w:Addr):jDy H d (.str (Str.ofString "outs")) (.ref w) (upd H d (.dK ({ m with ou:=w }:MD).kv)):=sput h (by kernel_rfl)
theorem p_over (b:Bool):jDy H d (.str (Str.ofString "over")) (.bl b) (upd H d (.dK ({ m with ov:=b }:MD).kv)):=sput h (by kernel_rfl)
theorem p_fed (c:Int):jDy H d (.str (Str.ofString "fed")) (.int c) (upd H d (.dK ({ m with fe:=c }:MD).kv)):=sput h (by kernel_rfl)
end
noncomputable def Kd (d:Addr) (H H':Hp):Prop:=∀ b o,b≠d→H b=some o→H' b=some o
theorem Kd.trans {d:Addr} {H H1 H2:Hp} (a:Kd d H H1) (b:Kd d H1 H2):Kd d H H2:=fun c o n e=>b c o n (a c o n e)
theorem jBK {d:Addr} {H H':Hp} (s:jAr H H'):Kd d H H':=fun b o _ e=>s _ _ e
theorem jC3 {d:Addr} {H:Hp} (o:HO):Kd d H (upd H d o):=fun b u n e=>by rw [jAi n];exact e
theorem Kd.free {d b:Addr} {H H':Hp} {kv:List (Key×V)} (k:Kd d H H') (hd:H d=some (.dK kv)) (hd':∃ o,H' d=some o) (n:H' b=none):H b=none:=by
  cases e:H b with
  | none=>rfl
  | some o =>
    by_cases c:b=d
    · obtain ⟨u,hu⟩:=hd'
      rw [c,hu] at n
      cases n
    · rw [k b o c e] at n
      cases n
theorem Kd.lst {d b:Addr} {H H':Hp} {kv:List (Key×V)} {ts:List V} (k:Kd d H H') (hd:H d=some (.dK kv)) (e:H b=some (.lst ts)):H' b=some (.lst ts):=k _ _ (jAD e hd (by intro z;cases z)) e
theorem Kd.tup {d:Addr} {H H':Hp} {kv:List (Key×V)} (k:Kd d H H') (hd:H d=some (.dK kv)):∀ b ts,H b=some (.tup ts)→H' b=some (.tup ts):=fun b ts e=>k _ _ (jAD e hd (by intro z;cases z)) e
structure TL (H:Hp) (nm:Str) (l:Addr) (ns:List Int):Prop where
  ex:∃ us,H l=some (.lst us)∧jAH H nm us ns
theorem TL.kd {d:Addr} {H H':Hp} {kv:List (Key×V)} {nm:Str} {l:Addr} {ns:List Int} (t:TL H nm l ns) (k:Kd d H H') (hd:H d=some (.dK kv)):TL H' nm l ns:=by
  obtain ⟨us,h1,h2⟩:=t.ex
  exact ⟨us,k.lst hd h1,h2.fr (k.tup hd)⟩
theorem TL.same {H H':Hp} {nm:Str} {l:Addr} {ns:List Int} (t:TL H nm l ns) (s:jAr H H'):TL H' nm l ns:=by
  obtain ⟨us,h1,h2⟩:=t.ex
  exact ⟨us,s _ _ h1,h2.same s⟩
structure Md (H:Hp) (d:Addr) (m:MD) (a f:Nat):Prop where
  d:H d=some (.dK m.kv)
  w:TL H m.nm m.wi (win 0 a f)
  o:TL H m.nm m.ou (win 0 0 a)
  af:a≤f
  fT:f≤m.T + 1
  ca:m.ca=(a:Int)
  ov:m.ov=decide (a=m.T + 1)
  T9:m.T≤90
theorem Md.same {H H':Hp} {d:Addr} {m:MD} {a f:Nat} (h:Md H d m a f) (s:jAr H H'):Md H' d m a f:={ h with d:=s _ _ h.d,w:=h.w.same s,o:=h.o.same s }
theorem jFT {b a f:Nat}:∀ k,a + k≤f→(win b a f).drop k=win b (a + k) f
  | 0,_=>rfl
  | k + 1,h=>by
    rw [← List.drop_drop,jFT k (by omega),jH4 (by omega)]
    rfl
theorem win_app {b a c f:Nat} (h:a≤c) (g:c≤f):win b a c ++ win b c f=win b a f:=by
  have e1:=jFR (b:=b) (a:=a) (f:=f) (k:=c - a) (by omega)
  have e2:=jFT (b:=b) (a:=a) (f:=f) (c - a) (by omega)
  rw [show a + (c - a)=c by omega] at e1 e2
  rw [← e1,← e2,List.take_append_drop]
noncomputable def mO (m:MD) (wi ou:Addr) (c:Nat):MD:={ m with wi:=wi,ca:=(c:Int),ou:=ou,ov:=decide (c=m.T + 1) }
noncomputable def jE4 (K:PySem.W.Frag):Sp:=fun vs H Q _=>∃ d m a f k,vs=[.ref d,.int (k:Nat)]∧Md H d m a f∧a + k≤f ∧
  ∀ l wi ou H',Kd d H H'→H l=none→H wi=none→H ou=none→TL H' m.nm l (win 0 a (a + k))→Md H' d (mO m wi ou (a + k)) (a + k) f→Q (.ref l) H'
theorem jHT:jAn ["_law_m","_law_many","_law_tags_here"] ["_law_m","_law_many"] (jAb jDZ):=⟨rfl,rfl,rfl,by decide +kernel,rfl,by decide +kernel,by decide +kernel⟩
theorem jLM (F:Fun K "_law_out" "_law_out" jDZ fa fd) (T:Txt K mg yQ yZ yX yY yV yJ yW yU yK yG cQ cZ cV cK cG vQ vZ vX vY)  :
    jAh P w K mg base CX0 1 fa fd ["_law_m","_law_many"] (jE4 K):=by
  refine F.ok jHT (fun vs H Q E h=>?_) (fun cdv A outer s H vs Q E hr h=>?_)
  · obtain ⟨d,m,a,f,k,rfl,_⟩:=h
    rfl
  obtain ⟨d,m,a,f,k,rfl,M,hk,q⟩:=h
  have hu:=jEh hr 0 (by decide)
  refine ⟨_,(jAd (jAE (i:=2) jHT.nd rfl (by first | exact Or.inl rfl | exact Or.inr rfl) (jCI jGt (jAK hu (pv 0) jAj (fun _ _=>rfl)) jDa (jDb (pv 1))))
  (jAd (jCP hu (pv 0) jAj (jCI jGt (jAK hu (pv 0) jAj (fun _ _=>rfl)) (jDb (pv 1)) jDa) rfl)
  (jAd (jCP hu (pv 0) jAj (jAF jA0 (jAK hu (pv 0) jAj (fun _ _=>rfl)) (jAP jAS rfl T.len PySem.boot_len (jAa (pv 2) jAe))) rfl)
  (jAd (jCP hu (pv 0) jAj (jAF jKy (jAK hu (pv 0) jAj (fun _ _=>rfl)) (pv 2)) rfl)
  (jAd (jCP hu (pv 0) jAj (jFz jA_ (jAK hu (pv 0) jAj (fun _ _=>rfl)) (jAF jA0 (jAK hu (pv 0) jAj (fun _ _=>rfl)) jAg) (jAw _)) rfl)
  (jAf (jAp (pv 2)))))))),?_⟩
  obtain ⟨ws,hw,tw⟩:=M.w.ex
  obtain ⟨os,ho,to⟩:=M.o.ex
  have lw:=tw.1
  have lo:=to.1
  rw [jCE] at lw lo
  have fT:=M.fT
  have T9:=M.T9
  have af:=M.af
  have ca:=M.ca
  refine ⟨_,rfl,d,_,rfl,jC8 M.d,_,rfl,_,rfl,m.wi,_,rfl,SqL.of hw,fun l nl=>?_⟩
  rw [jKM]
  have s1:=jAl nl (.lst (ws.take k))
  have hl:upd H l (.lst (ws.take k)) l=some (.lst (ws.take k)):=jAc
  generalize upd H l (.lst (ws.take k))=H1 at s1 hl ⊢
  refine ⟨_,rfl,d,_,rfl,jC8 (s1 _ _ M.d),_,rfl,_,rfl,m.wi,_,rfl,SqL.of (s1 _ _ hw),fun wi nwi=>?_⟩
  rw [jKL]
  have s2:=jAl nwi (.lst (ws.drop k))
  have hwi:upd H1 wi (.lst (ws.drop k)) wi=some (.lst (ws.drop k)):=jAc
  generalize upd H1 wi (.lst (ws.drop k))=H2 at s2 hwi ⊢
  have s12:=s1.trans s2
  have d2:=s12 _ _ M.d
  refine ⟨_,rfl,d,_,rfl,jH5 d2 wi,?_⟩
  have k3:Kd d H2 (upd H2 d (.dK ({ m with wi:=wi }:MD).kv)):=jC3 _
  have d3:upd H2 d (.dK ({ m with wi:=wi }:MD).kv) d=some (.dK ({ m with wi:=wi }:MD).kv):=jAc
  generalize upd H2 d (.dK ({ m with wi:=wi }:MD).kv)=H3 at k3 d3 ⊢
  have hl3:=k3.lst d2 (s2 _ _ hl)
  have lt:(ws.take k).length=k:=by rw [List.length_take,lw];omega
  refine ⟨_,rfl,d,_,rfl,jHg d3,_,rfl,l,_,rfl,.inl (SqL.of hl3),_,_,rfl,rfl,_,rfl,d,_,rfl,p_came d3 _,?_⟩
  rw [lt,show ({ m with wi:=wi }:MD).ca + (k:Int)=((a + k:Nat):Int) by show m.ca + (k:Int)=_;rw [ca];omega]
  have k4:Kd d H3 (upd H3 d (.dK ({ m with wi:=wi,ca:=((a + k:Nat):Int) }:MD).kv)):=jC3 _
  have d4:upd H3 d (.dK ({ m with wi:=wi,ca:=((a + k:Nat):Int) }:MD).kv) d=some (.dK ({ m with wi:=wi,ca:=((a + k:Nat):Int) }:MD).kv):=jAc
  generalize upd H3 d (.dK ({ m with wi:=wi,ca:=((a + k:Nat):Int) }:MD).kv)=H4 at k4 d4 ⊢
  have hl4:=k4.lst d3 hl3
  have ho4:=k4.lst d3 (k3.lst d2 (s12 _ _ ho))
  refine ⟨_,rfl,d,_,rfl,jLg d4,_,rfl,m.ou,l,_,_,rfl,rfl,ho4,hl4,small (by rw [lt,lo];omega),fun ou nou=>?_⟩
  have s5:=jAl nou (.lst (os ++ ws.take k))
  have hou:upd H4 ou (.lst (os ++ ws.take k)) ou=some (.lst (os ++ ws.take k)):=jAc
  generalize upd H4 ou (.lst (os ++ ws.take k))=H5 at s5 hou ⊢
  refine ⟨_,rfl,d,_,rfl,p_outs (s5 _ _ d4) ou,?_⟩
  have k6:Kd d H5 (upd H5 d (.dK ({ m with wi:=wi,ca:=((a + k:Nat):Int),ou:=ou }:MD).kv)):=jC3 _
  have d6:upd H5 d (.dK ({ m with wi:=wi,ca:=((a + k:Nat):Int),ou:=ou }:MD).kv) d=some (.dK ({ m with wi:=wi,ca:=((a + k:Nat):Int),ou:=ou }:MD).kv):=jAc
  generalize upd H5 d (.dK ({ m with wi:=wi,ca:=((a + k:Nat):Int),ou:=ou }:MD).kv)=H6 at k6 d6 ⊢
  have eo:decide (V.int ((a + k:Nat):Int)=V.int ((m.T:Int) + 1))=decide (a + k=m.T + 1):=by
    by_cases c:a + k=m.T + 1
    · rw [decide_eq_true c,decide_eq_true (congrArg V.int (by omega))]
    · rw [decide_eq_false c,decide_eq_false fun z=>c (by injection z with z;omega)]
  refine ⟨_,rfl,d,_,rfl,jHg d6,_,rfl,d,_,rfl,jL9 d6,_,_,rfl,rfl,rfl,_,rfl,d,_,rfl,(show jDy H6 d (.str (Str.ofString "over")) (.bl (decide (V.int ((a + k:Nat):Int)=V.int ((m.T:Int) + 1)))) (upd H6 d (.dK (mO m wi ou (a + k)).kv)) by rw [eo];exact p_over d6 _),?_⟩
  have k7:Kd d H6 (upd H6 d (.dK (mO m wi ou (a + k)).kv)):=jC3 _
  have d7:upd H6 d (.dK (mO m wi ou (a + k)).kv) d=some (.dK (mO m wi ou (a + k)).kv):=jAc
  generalize upd H6 d (.dK (mO m wi ou (a + k)).kv)=H7 at k7 d7 ⊢
  have k27:=((k3.trans k4).trans (jBK s5)).trans (k6.trans k7)
  have kk:=(jBK (d:=d) s12).trans k27
  have hl7:=k7.lst d6 (k6.lst (s5 _ _ d4) (s5 _ _ hl4))
  have ho7:=k7.lst d6 (k6.lst (s5 _ _ d4) hou)
  have tt:=kk.tup M.d
  have wt:=jFR (b:=0) hk
  have wd:=jFT (b:=0) k hk
  refine ⟨_,rfl,q l wi ou H7 kk nl (s1.free nwi) (s12.free ((k3.trans k4).free d2 ⟨_,d4⟩ nou)) ⟨_,hl7,by rw [← wt];exact (tw.fr tt).takeN k⟩ ⟨d7,⟨_,k27.lst d2 hwi,by rw [← wd];exact (tw.fr tt).dropN k⟩,⟨_,ho7,?_⟩,hk,fT,rfl,rfl,T9⟩⟩
  rw [← win_app (Nat.zero_le a) (Nat.le_add_right a k),← wt]
  exact (to.fr tt).app ((tw.fr tt).takeN k)
noncomputable def jEN (K:PySem.W.Frag):Sp:=fun vs H Q _=>∃ d m a f,vs=[.ref d]∧Md H d m a f∧(f=m.T + 1→Q .non H)∧(f≠m.T + 1→∀ t H',jAr H H'→H t=none→H' t=some (.tup [.str m.nm,.int (itm 0 f)])→Q (.ref t) H')
theorem jHh:jAn ["_law_m","_law_place"] ["_law_m"] (jAb jDq):=⟨rfl,rfl,rfl,by decide +kernel,rfl,by decide +kernel,by decide +kernel⟩
theorem jLi (F:Fun K "_law_next" "_law_next" jDq fa fd) (T:Txt K mg yQ yZ yX yY yV yJ yW yU yK yG cQ cZ cV cK cG vQ vZ vX vY)  :
    jAh P w K mg base CX0 1 fa fd ["_law_m"] (jEN K):=by
  refine F.ok jHh (fun vs H Q E h=>?_) (fun cdv A outer s H vs Q E hr h=>?_)
  · obtain ⟨d,m,a,f,rfl,_⟩:=h
    rfl
  obtain ⟨d,m,a,f,rfl,M,q1,q2⟩:=h
  have hu:=jEh hr 0 (by decide)
  refine ⟨_,(jAd (jAE (i:=1) jHh.nd rfl (by first | exact Or.inl rfl | exact Or.inr rfl) (jAF jA0 (jAK hu (pv 0) jAj (fun _ _=>rfl)) (jAP jAS rfl T.len PySem.boot_len (jAa (jAK hu (pv 0) jAj (fun _ _=>rfl)) jAe))))
  (jAd (jAJ (PW.pt (jC6 (jAQ (jAK hu (pv 0) jAj (fun _ _=>rfl)) (fun _=>rfl)) (jCN (jAu jA_ (pv 1) (jAF jA0 (jAK hu (pv 0) jAj (fun _ _=>rfl)) jAg) (jAw _))))) (jAf (jAp jAY)) jAz)
  (jAf (jAp (jAV (jAa (jAK hu (pv 0) jAj (fun _ _=>rfl)) (jAa (jAF jE5 (pv 1) jAg) jAe))))))),?_⟩
  obtain ⟨ws,hw,tw⟩:=M.w.ex
  have lw:=tw.1
  rw [jCE] at lw
  have fT:=M.fT
  have af:=M.af
  have ca:=M.ca
  have ov:=M.ov
  refine ⟨_,rfl,d,_,rfl,jHg M.d,_,rfl,d,_,rfl,jC8 M.d,m.wi,_,rfl,.inl (SqL.of hw),_,_,rfl,rfl,?_⟩
  dsimp only [jFk]
  rw [show m.ca + (ws.length:Int)=(f:Int) by rw [ca,lw];omega]
  refine ⟨_,rfl,d,_,rfl,jIY M.d,_,rfl,jCi (fun c=>?_) (fun c=>?_)⟩
  · rw [ov] at c
    have c':=of_decide_eq_true c
    exact jA6 (q1 (by omega))
  · refine ⟨_,rfl,_,rfl,d,_,rfl,jL9 M.d,_,_,rfl,rfl,rfl,_,rfl,jCi (fun c=>?_) (fun c=>?_)⟩
    · have c':=of_decide_eq_true c
      injection c' with c'
      exact q1 (by omega)
    · have c':f≠m.T + 1:=fun z=>c (decide_eq_true (congrArg V.int (by omega)))
      refine ⟨_,rfl,d,_,rfl,jNc M.d,_,rfl,_,_,rfl,rfl,small (show 2≤1000 by decide),fun t nt=>?_⟩
      dsimp only
      have s1:=jAl nt (.tup [V.str m.nm,.int ((f:Int) - 1)])
      refine q2 c' t _ s1 nt ?_
      rw [show itm 0 f=(f:Int) - 1 by unfold itm;split <;> omega]
      exact jAc
noncomputable def jFU (K:PySem.W.Frag):Sp:=fun vs H Q _=>∃ d m a f w,vs=[.ref d,.str w]∧Md H d m a f ∧
  ∀ wi H',Kd d H H'→H wi=none→TL H' m.nm m.wi (win 0 a f)→Md H' d { m with wi:=wi,wa:=m.wo,wo:=w } a a→Q (.ref m.wi) H'
theorem jHi:jAn ["_law_m","_law_word_here","_law_tags_here"] ["_law_m","_law_word_here"] (jAb jDr):=⟨rfl,rfl,rfl,by decide +kernel,rfl,by decide +kernel,by decide +kernel⟩
theorem jLj (F:Fun K "_law_lost" "_law_lost" jDr fa fd) (T:Txt K mg yQ yZ yX yY yV yJ yW yU yK yG cQ cZ cV cK cG vQ vZ vX vY)  :
    jAh P w K mg base CX0 1 fa fd ["_law_m","_law_word_here"] (jFU K):=by
  refine F.ok jHi (fun vs H Q E h=>?_) (fun cdv A outer s H vs Q E hr h=>?_)
  · obtain ⟨d,m,a,f,w',rfl,_⟩:=h
    rfl
  obtain ⟨d,m,a,f,w',rfl,M,q⟩:=h
  have hu:=jEh hr 0 (by decide)
  refine ⟨_,(jAd (jAE (i:=2) jHi.nd rfl (by first | exact Or.inl rfl | exact Or.inr rfl) (jAK hu (pv 0) jAj (fun _ _=>rfl)))
  (jAd (jCP hu (pv 0) jAj (jAZ jAe) rfl)
  (jAd (jCP hu (pv 0) jAj (jAK hu (pv 0) jAj (fun _ _=>rfl)) rfl)
  (jAd (jCP hu (pv 0) jAj (pv 1) rfl)
  (jAf (jAp (pv 2))))))),?_⟩
  refine ⟨_,rfl,d,_,rfl,jC8 M.d,small (Nat.zero_le _),fun wi nwi=>?_⟩
  have s1:=jAl nwi (.lst [])
  have hwi:upd H wi (.lst []) wi=some (.lst []):=jAc
  generalize upd H wi (.lst [])=H1 at s1 hwi ⊢
  have d1:=s1 _ _ M.d
  refine ⟨_,rfl,d,_,rfl,jH5 d1 wi,?_⟩
  have k2:Kd d H1 (upd H1 d (.dK ({ m with wi:=wi }:MD).kv)):=jC3 _
  have d2:upd H1 d (.dK ({ m with wi:=wi }:MD).kv) d=some (.dK ({ m with wi:=wi }:MD).kv):=jAc
  generalize upd H1 d (.dK ({ m with wi:=wi }:MD).kv)=H2 at k2 d2 ⊢
  refine ⟨_,rfl,d,_,rfl,jFS d2,_,rfl,d,_,rfl,p_was d2 _,?_⟩
  have k3:Kd d H2 (upd H2 d (.dK ({ m with wi:=wi,wa:=m.wo }:MD).kv)):=jC3 _
  have d3:upd H2 d (.dK ({ m with wi:=wi,wa:=m.wo }:MD).kv) d=some (.dK ({ m with wi:=wi,wa:=m.wo }:MD).kv):=jAc
  generalize upd H2 d (.dK ({ m with wi:=wi,wa:=m.wo }:MD).kv)=H3 at k3 d3 ⊢
  refine ⟨_,rfl,_,rfl,d,_,rfl,jLh d3 _,_,rfl,?_⟩
  have k4:Kd d H3 (upd H3 d (.dK ({ m with wi:=wi,wa:=m.wo,wo:=w' }:MD).kv)):=jC3 _
  have kk:=(jBK (d:=d) s1).trans ((k2.trans k3).trans k4)
  exact q wi _ kk nwi (M.w.kd kk M.d) ⟨jAc,⟨[],((k2.trans k3).trans k4).lst d1 hwi,by rw [jDK];exact ⟨rfl,fun i y n a=>by cases a⟩⟩,M.o.kd kk M.d,Nat.le_refl _,Nat.le_trans M.af M.fT,M.ca,M.ov,M.T9⟩
noncomputable def stA (T P a f:Nat):Nat:=if f=T + 1 then a + 1 else if P < f + 1 - a then a + 1 else a
noncomputable def stF (T f:Nat):Nat:=if f=T + 1 then f else f + 1
noncomputable def stE (T f fe:Nat):Nat:=if f=T + 1 then fe else fe + 1
noncomputable def jEO (K:PySem.W.Frag):Sp:=fun vs H Q _=>∃ d m a f P fe,vs=[.ref d]∧Md H d m a f∧a≠m.T + 1∧m.pa=((P:Nat):Int)∧f - a≤P∧m.fe=((fe:Nat):Int) ∧
  ∀ l wi ou H',Kd d H H'→H l=none→H wi=none→H ou=none→TL H' m.nm l (win 0 a (stA m.T P a f))→Md H' d { mO m wi ou (stA m.T P a f) with fe:=(stE m.T f fe:Int) } (stA m.T P a f) (stF m.T f)→Q (.ref l) H'
theorem jGd:jAn ["_law_m","_law_tag"] ["_law_m"] (jAb jCg):=⟨rfl,rfl,rfl,by decide +kernel,rfl,by decide +kernel,by decide +kernel⟩
theorem jIZ (F:Fun K "_law_stepped" "_law_stepped" jCg fa fd) (T:Txt K mg yQ yZ yX yY yV yJ yW yU yK yG cQ cZ cV cK cG vQ vZ vX vY) (D__law_next:Dfn P w K mg base 1 "_law_next" ["_law_m"] (jEN K)) (D__law_out:Dfn P w K mg base 1 "_law_out" ["_law_m","_law_many"] (jE4 K)) :
    jAh P w K mg base CX0 2 fa fd ["_law_m"] (jEO K):=by
  refine F.ok jGd (fun vs H Q E h=>?_) (fun cdv A outer s H vs Q E hr h=>?_)
  · obtain ⟨d,m,a,f,P,fe,rfl,_⟩:=h
    rfl
  obtain ⟨d,m,a,f,P',fe,rfl,M,na,pa,fp,ef,q⟩:=h
  have hu:=jEh hr 0 (by decide)
  refine ⟨_,(jAd (jAE (i:=1) jGd.nd rfl (by first | exact Or.inl rfl | exact Or.inr rfl) (jAA D__law_next (hr.mono (by decide)) rfl (jAa (pv 0) jAe)))
  (jAd (jAJ (jAu jGr (pv 1) jAY (jAw _)) (jAf (jAp (jAA D__law_out (hr.mono (by decide)) rfl (jAa (pv 0) (jAa jAg jAe))))) jAz)
  (jAd (jCP hu (pv 0) jAj (jAF jA0 (jAK hu (pv 0) jAj (fun _ _=>rfl)) jAg) rfl)
  (jAd (jCP hu (pv 0) jAj (jAF jKy (jAK hu (pv 0) jAj (fun _ _=>rfl)) (jAZ (jAa (pv 1) jAe))) rfl)
  (jAf (jAp (jAA D__law_out (hr.mono (by decide)) rfl (jAa (pv 0) (jAa (jAP (jJw rfl) rfl T.max jMO (jAa jAg (jAa (jAF jE5 (jAP jAS rfl T.len PySem.boot_len (jAa (jAK hu (pv 0) jAj (fun _ _=>rfl)) jAe)) (jAK hu (pv 0) jAj (fun _ _=>rfl))) jAe))) jAe))))))))),?_⟩
  have fT:=M.fT
  have af:=M.af
  have T9:=M.T9
  refine ⟨_,rfl,d,m,a,f,rfl,M,fun c=>?_,fun c t H1 s1 nt ht=>?_⟩
  · refine ⟨_,rfl,rfl,_,rfl,jA6 ⟨_,rfl,d,m,a,f,1,rfl,M,by omega,fun l wi ou H2 k2 nl nwi nou tl M2=>?_⟩⟩
    have q':=q l wi ou H2 k2 nl nwi nou
    unfold stA stF stE at q'
    rw [if_pos c,if_pos c,if_pos c,← ef] at q'
    exact q' tl M2
  · refine ⟨_,rfl,rfl,_,rfl,jAT ?_⟩
    have M1:=M.same s1
    refine ⟨_,rfl,d,_,rfl,g_fed M1.d,_,_,rfl,rfl,_,rfl,d,_,rfl,p_fed M1.d _,?_⟩
    rw [show m.fe + 1=((stE m.T f fe:Nat):Int) by unfold stE;rw [if_neg c,ef];rfl]
    have k2:Kd d H1 (upd H1 d (.dK ({ m with fe:=(stE m.T f fe:Int) }:MD).kv)):=jC3 _
    have d2:upd H1 d (.dK ({ m with fe:=(stE m.T f fe:Int) }:MD).kv) d=some (.dK ({ m with fe:=(stE m.T f fe:Int) }:MD).kv):=jAc
    generalize upd H1 d (.dK ({ m with fe:=(stE m.T f fe:Int) }:MD).kv)=H2 at k2 d2 ⊢
    obtain ⟨ws,hw,tw⟩:=M1.w.ex
    have lw:=tw.1
    rw [jCE] at lw
    have hw2:=k2.lst M1.d hw
    refine ⟨_,rfl,d,_,rfl,jC8 d2,_,rfl,small (show 1≤1000 by decide),fun u nu=>?_⟩
    have s3:=jAl nu (.lst [V.ref t])
    have hu3:upd H2 u (.lst [V.ref t]) u=some (.lst [V.ref t]):=jAc
    generalize upd H2 u (.lst [V.ref t])=H3 at s3 hu3 ⊢
    refine ⟨m.wi,u,_,_,rfl,rfl,s3 _ _ hw2,hu3,small (by rw [lw];show f - a + 1≤1000;omega),fun w2 nw2=>?_⟩
    have s4:=jAl nw2 (.lst (ws ++ [V.ref t]))
    have hw4:upd H3 w2 (.lst (ws ++ [V.ref t])) w2=some (.lst (ws ++ [V.ref t])):=jAc
    generalize upd H3 w2 (.lst (ws ++ [V.ref t]))=H4 at s4 hw4 ⊢
    have d4:=(s3.trans s4) _ _ d2
    refine ⟨_,rfl,d,_,rfl,jH5 d4 w2,?_⟩
    have k5:Kd d H4 (upd H4 d (.dK ({ m with fe:=(stE m.T f fe:Int),wi:=w2 }:MD).kv)):=jC3 _
    have d5:upd H4 d (.dK ({ m with fe:=(stE m.T f fe:Int),wi:=w2 }:MD).kv) d=some (.dK ({ m with fe:=(stE m.T f fe:Int),wi:=w2 }:MD).kv):=jAc
    generalize upd H4 d (.dK ({ m with fe:=(stE m.T f fe:Int),wi:=w2 }:MD).kv)=H5 at k5 d5 ⊢
    have k15:=(k2.trans (jBK (s3.trans s4))).trans k5
    have hw5:=k5.lst d4 hw4
    have ht5:=k15.tup M1.d _ _ ht
    have M5:Md H5 d { m with fe:=(stE m.T f fe:Int),wi:=w2 } a (f + 1):=⟨d5,⟨_,hw5,by rw [← jH3 af];exact (tw.fr (k15.tup M1.d)).snoc ht5⟩,M1.o.kd k15 M1.d,by omega,by show f + 1≤m.T + 1;omega,M.ca,M.ov,M.T9⟩
    have k05:=(jBK (d:=d) s1).trans k15
    have n4:∀ b,H5 b=none→H b=none:=fun b nb=>k05.free M.d ⟨_,d5⟩ nb
    obtain ⟨k,ek,hk⟩:∃ k:Nat,stA m.T P' a f=a + k∧(if ((ws ++ [V.ref t]).length:Int) - m.pa > 0 then ((ws ++ [V.ref t]).length:Int) - m.pa else 0)=(k:Int):=by
      unfold stA
      rw [if_neg c,List.length_append,lw,pa]
      by_cases co:P' < f + 1 - a
      · refine ⟨1,by rw [if_pos co],?_⟩
        rw [if_pos (by show ((f - a + 1:Nat):Int) - (P':Int) > 0;omega)]
        show ((f - a + 1:Nat):Int) - (P':Int)=1
        omega
      · refine ⟨0,by rw [if_neg co];rfl,?_⟩
        rw [if_neg (by show ¬ ((f - a + 1:Nat):Int) - (P':Int) > 0;omega)]
        rfl
    have k1:k≤1:=by
      unfold stA at ek
      rw [if_neg c] at ek
      split at ek <;> omega
    refine ⟨_,rfl,_,rfl,d,_,rfl,jC8 d5,w2,_,rfl,.inl (SqL.of hw5),_,rfl,d,_,rfl,g_path d5,_,_,rfl,rfl,_,_,rfl,d,_,a,f + 1,k,congrArg (fun z=>[V.ref d,V.int z]) hk,M5,by omega,fun l wi ou H6 k6 nl nwi nou tl M6=>?_⟩
    have eF:stF m.T f=f + 1:=by unfold stF;rw [if_neg c]
    refine q l wi ou H6 (k05.trans k6) (n4 _ nl) (n4 _ nwi) (n4 _ nou) (by rw [ek];exact tl) ?_
    rw [ek,eF]
    exact M6
end
end My
namespace My
open PySem L2
open Blk (sg sg_inj sg_app)
section
variable {P:Program} {w:World} {K:PySem.W.Frag} {mg:Str→Option Value} {base:Heap} {fa yQ yZ yX yY yV yJ yW yU yK yG cQ cZ cV cK cG vQ vZ vX vY:Addr} {fd:FuncData}
inductive Dd where
  | step | jam (k:Nat) | leave | come | mend
noncomputable def ddV:Dd→List V
  | .step=>[.str (Str.ofString "step")]
  | .jam k=>[.str (Str.ofString "jam"),.int (k:Int)]
  | .leave=>[.str (Str.ofString "leave")]
  | .come=>[.str (Str.ofString "come")]
  | .mend=>[.str (Str.ofString "mend")]
noncomputable def dW:Dd→Str
  | .step=>Str.ofString "step"
  | .jam _=>Str.ofString "jam"
  | .leave=>Str.ofString "leave"
  | .come=>Str.ofString "come"
  | .mend=>Str.ofString "mend"
inductive RV where
  | non | tags (a b:Nat) | two (a b c:Nat) | wrd (s:Str)
noncomputable def IsR (H:Hp) (nm:Str) (N:Addr→Prop) (v:V):RV→Prop
  | .non=>v=.non
  | .tags a b=>∃ l,v=.ref l∧N l∧TL H nm l (win 0 a b)
  | .two a b c=>∃ t l1 l2,v=.ref t∧H t=some (.tup [.ref l1,.ref l2])∧N l1∧N l2∧TL H nm l1 (win 0 a b)∧TL H nm l2 (win 0 b c)
  | .wrd s=>v=.str s
theorem IsR.same {H H':Hp} {nm:Str} {N:Addr→Prop} {v:V} {r:RV} (h:IsR H nm N v r) (s:jAr H H'):IsR H' nm N v r:=by
  cases r with
  | non=>exact h
  | wrd=>exact h
  | tags a b=>obtain ⟨l,e,n,t⟩:=h;exact ⟨l,e,n,t.same s⟩
  | two a b c=>obtain ⟨t,l1,l2,e,h1,n1,n2,h2,h3⟩:=h;exact ⟨t,l1,l2,e,s _ _ h1,n1,n2,h2.same s,h3.same s⟩
structure Rs where
  kd:Str
  wo:V
  rv:RV
  S:S3
  a:Nat
  f:Nat
  fe:Nat
noncomputable def jHj (S:S3) (a f fe:Nat):Rs:=⟨Str.ofString "now",.str (wd S),.non,S,a,f,fe⟩
noncomputable def jEd (i:Nat) (S:S3) (a f fe:Nat):Rs :=
  match jA5 i S with
  | none=>jHj S a f fe
  | some s=>⟨Str.ofString "",.non,.wrd (wd s),s,a,f,fe⟩
noncomputable def nx (nm:Str) (T P:Nat) (S:S3) (a f fe:Nat):Dd→Rs
  | .step=>if a=T + 1 then ⟨Str.ofString "over",.str nm,.non,S,a,f,fe⟩ else match S with
    | .rd=>⟨Str.ofString "",.non,.tags a (stA T P a f),.rd,stA T P a f,stF T f,stE T f fe⟩
    | s=>jHj s a f fe
  | .jam k=>if a=T + 1 then ⟨Str.ofString "over",.str nm,.non,S,a,f,fe⟩ else match S with
    | .rd=>if f - a < k then ⟨Str.ofString "much",.str (Str.ofString "within"),.non,.rd,a,f,fe⟩ else ⟨Str.ofString "",.non,.two a (a + k) f,.jm,a + k,a + k,fe⟩
    | s=>jHj s a f fe
  | .leave=>match jA5 2 S with
    | none=>jHj S a f fe
    | some s=>⟨Str.ofString "",.non,.tags a f,s,a,a,fe⟩
  | .come=>jEd 3 S a f fe
  | .mend=>jEd 1 S a f fe
structure Ms (H:Hp) (d:Addr) (m:MD) (P:Nat) (S:S3) (a f fe:Nat):Prop where
  M:Md H d m a f
  wo:m.wo=wd S
  wa:∀ b,S=.aw b→m.wa=wd (if b=true then .jm else .rd)
  pa:m.pa=((P:Nat):Int)
  wP:f - a≤P
  fe:m.fe=((fe:Nat):Int)
structure Go (m m':MD) (H:Hp):Prop where
  nm:m'.nm=m.nm
  T:m'.T=m.T
  wi:m'.wi=m.wi∨H m'.wi=none
  ou:m'.ou=m.ou∨H m'.ou=none
theorem go_refl (m:MD) (H:Hp):Go m m H:=⟨rfl,rfl,.inl rfl,.inl rfl⟩
noncomputable def jGn (K:PySem.W.Frag):Sp:=fun vs H Q _=>∃ d m P S a f fe D t,vs=[.ref d,.ref t]∧H t=some (.tup (ddV D))∧Ms H d m P S a f fe ∧
  ∀ u v m' H',Kd d H H'→H' u=some (.tup [.str (nx m.nm m.T P S a f fe D).kd,(nx m.nm m.T P S a f fe D).wo,v])→IsR H' m.nm (fun l=>l=m.wi∨H l=none) v (nx m.nm m.T P S a f fe D).rv→Ms H' d m' P (nx m.nm m.T P S a f fe D).S (nx m.nm m.T P S a f fe D).a (nx m.nm m.T P S a f fe D).f (nx m.nm m.T P S a f fe D).fe→Go m m' H→Q (.ref u) H'
theorem dd0 (D:Dd):(ddV D)[0]?=some (.str (dW D)):=by cases D <;> rfl
theorem dd_eq {D:Dd} {w:Str}:decide (V.str (dW D)=V.str w)=decide (dW D=w):=by
  by_cases c:dW D=w
  · rw [decide_eq_true c,decide_eq_true (congrArg V.str c)]
  · rw [decide_eq_false c,decide_eq_false fun z=>c (by injection z)]
noncomputable def jGo:Dd→Bool
  | .step=>true
  | .jam _=>true
  | _=>false
theorem in_sj (D:Dd):inV (.str (dW D)) [.str (Str.ofString "step"),.str (Str.ofString "jam")]=jGo D:=by
  cases D with
  | jam k=>show inV (.str (Str.ofString "jam")) [.str (Str.ofString "step"),.str (Str.ofString "jam")]=true;decide +kernel
  | _=>decide +kernel
noncomputable def Tst (tt:TT) (σ:St) (H:Hp) (b:Bool):Prop:=∀ H1,jAr H H1→∀ Q:Bool→Hp→Prop,(∀ H',jAr H1 H'→Q b H')→tt σ H1 Q
theorem Tst.and {t u:TT} {σ:St} {H:Hp} {b c:Bool} (h:Tst t σ H b) (g:Tst u σ H c):Tst (tAnd t u) σ H (b && c):=fun H1 s1 Q q=>h H1 s1 _ fun H2 s2=>by
  cases b with
  | true=>exact jA6 (g H2 (s1.trans s2) Q fun H3 s3=>q H3 (s2.trans s3))
  | false=>exact jAT (q H2 s2)
theorem Tst.or {t u:TT} {σ:St} {H:Hp} {b c:Bool} (h:Tst t σ H b) (g:Tst u σ H c):Tst (tOr t u) σ H (b || c):=fun H1 s1 Q q=>h H1 s1 _ fun H2 s2=>by
  cases b with
  | true=>exact jA6 (q H2 s2)
  | false=>exact jAT (g H2 (s1.trans s2) Q fun H3 s3=>q H3 (s2.trans s3))
theorem Tst.iff {tt:TT} {A B:TS} {D:jCq} {σ:St} {H:Hp} {b:Bool} (h:Tst tt σ H b) (h1:b=true→∀ H',jAr H H'→A D σ H') (h2:b=false→∀ H',jAr H H'→B D σ H'):tIfS tt A B D σ H:=h H (jAr.refl _) _ fun H' s=>by
  cases b with
  | true=>exact jA6 (h1 rfl H' s)
  | false=>exact jAT (h2 rfl H' s)
section
variable {K:PySem.W.Frag} {σ:St} {H:Hp} {t:Addr} {D:Dd} (h1:σ[1]?=some (some (.ref t))) (ht:H t=some (.tup (ddV D)))
include h1 ht
theorem jNd:Tst (jH9 (tOp (rIn K false) (tOp (rIxT K) (jGe 1) (tC (V.int 0))) (tLst (tCons (tC (V.str (Str.ofString "step"))) (tCons (tC (V.str (Str.ofString "jam"))) tNil))))) σ H (jGo D):=fun H1 s1 Q q =>
  ⟨_,h1,t,_,_,_,rfl,rfl,SqT.of (s1 _ _ ht),jAC (j:=0) (dd0 D),small (show 2≤1000 by decide),fun p np=>⟨p,_,rfl,.inl (SqL.of jAc),rfl,rfl,jGo D,congrArg V.bl (in_sj D),q _ (jAl np _)⟩⟩
theorem jLk (w:Str):Tst (jH9 (tOp rEq (tOp (rIxT K) (jGe 1) (tC (V.int 0))) (tC (V.str w)))) σ H (decide (dW D=w)):=fun H1 s1 Q q =>
  ⟨_,h1,t,_,_,_,rfl,rfl,SqT.of (s1 _ _ ht),jAC (j:=0) (dd0 D),rfl,_,congrArg V.bl dd_eq,q _ (jAr.refl _)⟩
end
theorem tst_w {σ:St} {H:Hp} {i:Nat} {u:Str} (h2:σ[i]?=some (some (.str u))) (w:Str):Tst (jH9 (tOp rEq (jGe i) (tC (V.str w)))) σ H (decide (V.str u=V.str w)):=fun _ _ Q q=>⟨_,h2,rfl,_,rfl,q _ (jAr.refl _)⟩
theorem jLl {σ:St} {H:Hp} {i:Nat} {u:Str} (h2:σ[i]?=some (some (.str u))) (w:Str):Tst (jH9 (tOp rNe (jGe i) (tC (V.str w)))) σ H (!decide (V.str u=V.str w)):=fun _ _ Q q=>⟨_,h2,rfl,_,rfl,q _ (jAr.refl _)⟩
theorem tst_ov {K:PySem.W.Frag} {σ:St} {H:Hp} {d:Addr} {m:MD} (h:σ[0]?=some (some (.ref d))) (hd:H d=some (.dK m.kv)):Tst (fun σ H Q=>tDGet (jGe 0) (tC (V.str (Str.ofString "over"))) σ H fun x H'=>∃ k,TruV K x H' k∧Q k H') σ H m.ov:=fun H1 s1 Q q=>⟨_,h,d,_,rfl,jIY (s1 _ _ hd),_,rfl,q _ (jAr.refl _)⟩
theorem jL_ {nm:Str} {T P:Nat} {S:S3} {a f fe:Nat} {D:Dd} (h:jGo D=true) (c:a=T + 1):nx nm T P S a f fe D=⟨Str.ofString "over",.str nm,.non,S,a,f,fe⟩:=by
  cases D with
  | step=>exact if_pos c
  | jam k=>exact if_pos c
  | leave=>cases h
  | come=>cases h
  | mend=>cases h
noncomputable def c2:Dd→S3→Bool
  | .step,.rd=>false
  | .step,_=>true
  | .jam _,.rd=>false
  | .jam _,_=>true
  | .leave,.aw _=>true
  | .come,.aw _=>false
  | .come,_=>true
  | .mend,.jm=>false
  | .mend,_=>true
  | _,_=>false
theorem jLm {nm:Str} {T P:Nat} {S:S3} {a f fe:Nat} {D:Dd} (h:c2 D S=true) (c:¬ (jGo D=true∧a=T + 1)):nx nm T P S a f fe D=jHj S a f fe:=by
  cases D with
  | step=>refine (if_neg fun z=>c ⟨rfl,z⟩).trans ?_;cases S with
    | rd=>cases h
    | jm=>rfl
    | aw b=>rfl
  | jam k=>refine (if_neg fun z=>c ⟨rfl,z⟩).trans ?_;cases S with
    | rd=>cases h
    | jm=>rfl
    | aw b=>rfl
  | leave=>cases S with
    | rd=>cases h
    | jm=>cases h
    | aw b=>rfl
  | come=>cases S with
    | rd=>rfl
    | jm=>rfl
    | aw b=>cases h
  | mend=>cases S with
    | rd=>rfl
    | jm=>cases h
    | aw b=>rfl
noncomputable def b2 (D:Dd) (S:S3):Bool:=(jGo D && !decide (V.str (wd S)=V.str (Str.ofString "ready"))) || (decide (dW D=Str.ofString "leave") && decide (V.str (wd S)=V.str (Str.ofString "off")))
noncomputable def b3 (D:Dd) (S:S3):Bool:=(decide (dW D=Str.ofString "come") && !decide (V.str (wd S)=V.str (Str.ofString "off"))) || (decide (dW D=Str.ofString "mend") && !decide (V.str (wd S)=V.str (Str.ofString "jammed")))
theorem b23 (D:Dd) (S:S3):(b2 D S || b3 D S)=c2 D S:=by
  have z:∀ D':Dd,(∀ k,D'=.jam k→k=0)→∀ S':S3,(∀ b,S'=.aw b→b=false)→(b2 D' S' || b3 D' S')=c2 D' S':=by
    intro D' h S' g
    cases D' <;> cases S' <;> first | (rename_i k b;rw [h k rfl,g b rfl];decide +kernel) | (rename_i k;first | (rw [h k rfl];decide +kernel) | (rw [g k rfl];decide +kernel)) | decide +kernel
  have e1:∃ D',(b2 D S || b3 D S)=(b2 D' S || b3 D' S)∧c2 D S=c2 D' S∧∀ k,D'=.jam k→k=0:=by
    cases D with
    | jam k=>exact ⟨.jam 0,rfl,by cases S <;> rfl,fun k z=>by injection z with z;exact z.symm⟩
    | _=>exact ⟨_,rfl,rfl,fun k z=>by cases z⟩
  obtain ⟨D',h1,h2,h3⟩:=e1
  rw [h1,h2]
  cases S with
  | aw b =>
    have:=z D' h3 (.aw false) (fun b z=>by injection z with z;exact z.symm)
    rw [show b2 D' (.aw b)=b2 D' (.aw false) from rfl,show b3 D' (.aw b)=b3 D' (.aw false) from rfl,this]
    cases D' <;> rfl
  | _=>exact z D' h3 _ (fun b z=>by cases z)
theorem jGp:jAn ["_law_m","_law_deed","_law_word_here","_law_tags_here"] ["_law_m","_law_deed"] (jAb jD0):=⟨rfl,rfl,rfl,by decide +kernel,rfl,by decide +kernel,by decide +kernel⟩
theorem jLN (F:Fun K "_law_due" "_law_due" jD0 fa fd) (T:Txt K mg yQ yZ yX yY yV yJ yW yU yK yG cQ cZ cV cK cG vQ vZ vX vY) (D__law_out:Dfn P w K mg base 1 "_law_out" ["_law_m","_law_many"] (jE4 K)) (D__law_stepped:Dfn P w K mg base 2 "_law_stepped" ["_law_m"] (jEO K)) (D__law_lost:Dfn P w K mg base 1 "_law_lost" ["_law_m","_law_word_here"] (jFU K)) :
    jAh P w K mg base CX0 3 fa fd ["_law_m","_law_deed"] (jGn K):=by
  refine F.ok jGp (fun vs H Q E h=>?_) (fun cdv A outer s H vs Q E hr h=>?_)
  · obtain ⟨d,m,P,S,a,f,fe,D,t,rfl,_⟩:=h
    rfl
  obtain ⟨d,m,P',S,a,f,fe,D,t,rfl,ht,M,q⟩:=h
  have hu:=jEh hr 0 (by decide)
  refine ⟨_,(jAd (jAE (i:=2) jGp.nd rfl (by first | exact Or.inl rfl | exact Or.inr rfl) (jAK hu (pv 0) jAj (fun _ _=>rfl)))
  (jAd (jAJ (PW.pt (jDv (jAu jJC (jAG jAM (pv 1) jAg (fun _ _=>rfl)) (jAZ (jAa jAj (jAa jAj jAe))) rfl) (jCM (jAQ (jAK hu (pv 0) jAj (fun _ _=>rfl)) (fun _=>rfl))))) (jAf (jAp (jAV (jAa jAj (jAa (jAK hu (pv 0) jAj (fun _ _=>rfl)) (jAa jAY jAe)))))) jAz)
  (jAd (jAJ (PW.pt (jC6 (PW.pt (jDv (jAu jJC (jAG jAM (pv 1) jAg (fun _ _=>rfl)) (jAZ (jAa jAj (jAa jAj jAe))) rfl) (jCM (jAu jD_ (pv 2) jAj (jAw _))))) (jCN (PW.pt (jDv (jAu jA_ (jAG jAM (pv 1) jAg (fun _ _=>rfl)) jAj (jAw _)) (jCM (jAu jA_ (pv 2) jAj (jAw _)))))))) (jAf (jAp (jAV (jAa jAj (jAa (pv 2) (jAa jAY jAe)))))) jAz)
  (jAd (jAJ (PW.pt (jC6 (PW.pt (jDv (jAu jA_ (jAG jAM (pv 1) jAg (fun _ _=>rfl)) jAj (jAw _)) (jCM (jAu jD_ (pv 2) jAj (jAw _))))) (jCN (PW.pt (jDv (jAu jA_ (jAG jAM (pv 1) jAg (fun _ _=>rfl)) jAj (jAw _)) (jCM (jAu jD_ (pv 2) jAj (jAw _)))))))) (jAf (jAp (jAV (jAa jAj (jAa (pv 2) (jAa jAY jAe)))))) jAz)
  (jAd (jAJ (jAu jA_ (jAG jAM (pv 1) jAg (fun _ _=>rfl)) jAj (jAw _)) (jAf (jAp (jAV (jAa jAj (jAa jAY (jAa (jAA D__law_stepped (hr.mono (by decide)) rfl (jAa (pv 0) jAe)) jAe)))))) jAz)
  (jAd (jAJ (PW.pt (jDv (jAu jA_ (jAG jAM (pv 1) jAg (fun _ _=>rfl)) jAj (jAw _)) (jCM (jAu jHn (jAG jAM (pv 1) jAg (fun _ _=>rfl)) (jAP jAS rfl T.len PySem.boot_len (jAa (jAK hu (pv 0) jAj (fun _ _=>rfl)) jAe)) (jAw _))))) (jAf (jAp (jAV (jAa jAj (jAa jAj (jAa jAY jAe)))))) jAz)
  (jAd (jAJ (jAu jA_ (jAG jAM (pv 1) jAg (fun _ _=>rfl)) jAj (jAw _)) (jAd (jAE (i:=3) jGp.nd rfl (by first | exact Or.inl rfl | exact Or.inr rfl) (jAA D__law_out (hr.mono (by decide)) rfl (jAa (pv 0) (jAa (jAG jAM (pv 1) jAg (fun _ _=>rfl)) jAe))))
  (jAf (jAp (jAV (jAa jAj (jAa jAY (jAa (jAV (jAa (pv 3) (jAa (jAA D__law_lost (hr.mono (by decide)) rfl (jAa (pv 0) (jAa jAj jAe))) jAe))) jAe))))))) jAz)
  (jAd (jAJ (jAu jA_ (jAG jAM (pv 1) jAg (fun _ _=>rfl)) jAj (jAw _)) (jAf (jAp (jAV (jAa jAj (jAa jAY (jAa (jAA D__law_lost (hr.mono (by decide)) rfl (jAa (pv 0) (jAa jAj jAe))) jAe)))))) jAz)
  (jAd (jCP hu (pv 0) jAj jAj rfl)
  (jAd (jAJ (jAu jA_ (jAG jAM (pv 1) jAg (fun _ _=>rfl)) jAj (jAw _)) (jAf (jCP hu (pv 0) jAj (jAK hu (pv 0) jAj (fun _ _=>rfl)) rfl)) jAz)
  (jAf (jAp (jAV (jAa jAj (jAa jAY (jAa (jAK hu (pv 0) jAj (fun _ _=>rfl)) jAe)))))))))))))))),?_⟩
  have ov:=M.M.ov
  have wo:=M.wo
  have fT:=M.M.fT
  have af:=M.M.af
  have T9:=M.M.T9
  have wP:=M.wP
  refine jBf (fun σ G=>G=H∧σ=[some (.ref d),some (.ref t),some (.str (wd S)),none]) (fun R hR=>⟨_,rfl,d,_,rfl,jFS M.M.d,hR _ _ ⟨rfl,by rw [wo];rfl⟩⟩) ?_
  rintro σ G ⟨rfl,rfl⟩
  -- over
  have tell:∀ G':Hp,jAr G G'→∀ (k:Str) (w':V),nx m.nm m.T P' S a f fe D=⟨k,w',.non,S,a,f,fe⟩→∀ u,G' u=none→Q (.ref u) (upd G' u (.tup [.str k,w',.non])):=fun G' s' k w' e u nu=>by
    have s2:=jAl nu (.tup [V.str k,w',.non])
    have q':=q u .non m (upd G' u (.tup [.str k,w',.non])) (jBK (s'.trans s2))
    rw [e] at q'
    exact q' jAc rfl { M with M:=M.M.same (s'.trans s2) } (go_refl m G)
  refine jBf (fun σ G'=>jAr G G'∧σ=[some (.ref d),some (.ref t),some (.str (wd S)),none]∧¬ (jGo D=true∧a=m.T + 1)) (fun R hR=>((jNd rfl ht).and (tst_ov rfl M.M.d)).iff (fun c G1 s1=>?_) (fun c G1 s1=>hR _ _ ⟨s1,rfl,fun z=>by rw [ov,z.1,decide_eq_true z.2] at c;cases c⟩)) ?_
  · rw [ov,Bool.and_eq_true] at c
    exact ⟨_,rfl,d,_,rfl,jNc (s1 _ _ M.M.d),small (show 3≤1000 by decide),fun u nu=>tell G1 s1 _ _ (jL_ c.1 (of_decide_eq_true c.2)) u nu⟩
  rintro σ G1 ⟨s1,rfl,n1⟩
  -- not now
  refine jBf (fun σ G'=>jAr G G'∧σ=[some (.ref d),some (.ref t),some (.str (wd S)),none]∧b2 D S=false) (fun R hR=>(((jNd rfl (s1 _ _ ht)).and (jLl rfl _)).or ((jLk rfl (s1 _ _ ht) _).and (tst_w rfl _))).iff (fun c G2 s2=>?_) (fun c G2 s2=>hR _ _ ⟨s1.trans s2,rfl,c⟩)) ?_
  · exact ⟨_,rfl,small (show 3≤1000 by decide),fun u nu=>tell G2 (s1.trans s2) _ _ (jLm (by rw [← b23,show b2 D S=true from c];rfl) n1) u nu⟩
  clear s1
  rintro σ G1 ⟨s1,rfl,n2⟩
  refine jBf (fun σ G'=>jAr G G'∧σ=[some (.ref d),some (.ref t),some (.str (wd S)),none]∧c2 D S=false) (fun R hR=>(((jLk rfl (s1 _ _ ht) _).and (jLl rfl _)).or ((jLk rfl (s1 _ _ ht) _).and (jLl rfl _))).iff (fun c G2 s2=>?_) (fun c G2 s2=>hR _ _ ⟨s1.trans s2,rfl,by rw [← b23,n2,show b3 D S=false from c];rfl⟩)) ?_
  · exact ⟨_,rfl,small (show 3≤1000 by decide),fun u nu=>tell G2 (s1.trans s2) _ _ (jLm (by rw [← b23,show b3 D S=true from c];exact Bool.or_true _) n1) u nu⟩
  clear s1 n2
  rintro σ G1 ⟨s1,rfl,n2⟩
  -- a step
  have M1:=M.M.same s1
  have ht1:=s1 _ _ ht
  refine jBf (fun σ G'=>G'=G1∧σ=[some (.ref d),some (.ref t),some (.str (wd S)),none]∧D≠.step) (fun R hR=>?_) ?_
  · refine ⟨_,rfl,t,_,_,_,rfl,rfl,SqT.of ht1,jAC (j:=0) (dd0 D),rfl,_,rfl,jCi (fun c=>?_) (fun c=>hR _ _ ⟨rfl,rfl,fun z=>c (by rw [z];exact decide_eq_true rfl)⟩)⟩
    obtain rfl:D=.step:=by
      have c':=of_decide_eq_true c
      injection c' with c'
      cases D with
      | step=>rfl
      | jam k=>exact absurd c' (show Str.ofString "jam"≠Str.ofString "step" by decide +kernel)
      | leave=>exact absurd c' (by decide +kernel)
      | come=>exact absurd c' (by decide +kernel)
      | mend=>exact absurd c' (by decide +kernel)
    obtain rfl:S=.rd:=by cases S with
      | rd=>rfl
      | jm=>cases n2
      | aw b=>cases n2
    have na:a≠m.T + 1:=fun z=>n1 ⟨rfl,z⟩
    have e:nx m.nm m.T P' .rd a f fe .step=⟨Str.ofString "",.non,.tags a (stA m.T P' a f),.rd,stA m.T P' a f,stF m.T f,stE m.T f fe⟩:=if_neg na
    refine ⟨_,rfl,d,m,a,f,P',fe,rfl,M1,na,M.pa,wP,M.fe,fun l wi ou G2 k2 nl nwi nou tl M2=>⟨small (show 3≤1000 by decide),fun u nu=>?_⟩⟩
    have s3:=jAl nu (.tup [V.str (Str.ofString ""),.non,.ref l])
    have q':=q u (.ref l) { mO m wi ou (stA m.T P' a f) with fe:=(stE m.T f fe:Int) } (upd G2 u (.tup [V.str (Str.ofString ""),.non,.ref l])) (((jBK s1).trans k2).trans (jBK s3))
    rw [e] at q'
    refine q' jAc ⟨l,rfl,.inr (s1.free nl),tl.same s3⟩ ⟨M2.same s3,M.wo,M.wa,M.pa,?_,rfl⟩ ⟨rfl,rfl,.inr (s1.free nwi),.inr (s1.free nou)⟩
    show stF m.T f - stA m.T P' a f≤P'
    unfold stF stA
    split
    · omega
    · split <;> omega
  rintro σ G2 ⟨rfl,rfl,n3⟩
  -- a jam
  have isd:∀ w:Str,decide (V.str (dW D)=V.str w)=decide (dW D=w):=fun w=>dd_eq
  obtain ⟨ws,hw,tw⟩:=M1.w.ex
  have lw:=tw.1
  rw [jCE] at lw
  refine jBf (fun σ G'=>G'=G2∧σ=[some (.ref d),some (.ref t),some (.str (wd S)),none]∧∀ k,D=.jam k→k≤f - a) (fun R hR=>?_) ?_
  · refine ⟨_,rfl,t,_,_,_,rfl,rfl,SqT.of ht1,jAC (j:=0) (dd0 D),rfl,_,rfl,jCi (fun c=>?_) (fun c=>jAT (hR _ _ ⟨rfl,rfl,fun k z=>absurd (by rw [z];exact decide_eq_true rfl) c⟩))⟩
    cases D with
    | step=>exact absurd rfl n3
    | leave=>exact absurd c (by decide +kernel)
    | come=>exact absurd c (by decide +kernel)
    | mend=>exact absurd c (by decide +kernel)
    | jam k =>
      obtain rfl:S=.rd:=by cases S with
        | rd=>rfl
        | jm=>cases n2
        | aw b=>cases n2
      refine ⟨_,rfl,t,_,_,_,rfl,rfl,SqT.of ht1,jAC (j:=1) rfl,_,rfl,d,_,rfl,jC8 M1.d,m.wi,_,rfl,.inl (SqL.of hw),_,_,rfl,rfl,_,rfl,jCi (fun c=>?_) (fun c=>hR _ _ ⟨rfl,rfl,fun k' z=>?_⟩)⟩
      · have c':=of_decide_eq_true c
        rw [lw] at c'
        refine ⟨small (show 3≤1000 by decide),fun u nu=>tell G2 s1 _ _ ?_ u nu⟩
        refine (if_neg fun z=>n1 ⟨rfl,z⟩).trans (if_pos (by omega))
      · injection z with z
        have c':¬ ((k:Int) > (ws.length:Int)):=fun z=>c (decide_eq_true z)
        rw [lw] at c'
        omega
  rintro σ G3 ⟨rfl,rfl,n4⟩
  refine jBf (fun σ G'=>G'=G3∧σ=[some (.ref d),some (.ref t),some (.str (wd S)),none]∧jGo D=false) (fun R hR=>?_) ?_
  · refine ⟨_,rfl,t,_,_,_,rfl,rfl,SqT.of ht1,jAC (j:=0) (dd0 D),rfl,_,rfl,jCi (fun c=>?_) (fun c=>hR _ _ ⟨rfl,rfl,?_⟩)⟩
    · cases D with
      | step=>exact absurd rfl n3
      | leave=>exact absurd c (by decide +kernel)
      | come=>exact absurd c (by decide +kernel)
      | mend=>exact absurd c (by decide +kernel)
      | jam k =>
        obtain rfl:S=.rd:=by cases S with
          | rd=>rfl
          | jm=>cases n2
          | aw b=>cases n2
        have hk:=n4 k rfl
        have e:nx m.nm m.T P' .rd a f fe (.jam k)=⟨Str.ofString "",.non,.two a (a + k) f,.jm,a + k,a + k,fe⟩:=(if_neg fun z=>n1 ⟨rfl,z⟩).trans (if_neg (by omega))
        refine ⟨_,rfl,_,rfl,t,_,_,_,rfl,rfl,SqT.of ht1,jAC (j:=1) rfl,d,m,a,f,k,rfl,M1,by omega,fun l wi ou G4 k4 nl nwi nou tl M4=>?_⟩
        refine ⟨_,rfl,_,rfl,d,_,a + k,f,_,rfl,M4,fun wi2 G5 k5 nwi2 tl2 M5=>⟨small (show 2≤1000 by decide),fun u2 nu2=>?_⟩⟩
        have s6:=jAl nu2 (.tup [V.ref l,.ref wi])
        have h6:upd G5 u2 (.tup [V.ref l,.ref wi]) u2=some (.tup [V.ref l,.ref wi]):=jAc
        refine ⟨small (show 3≤1000 by decide),fun u nu=>?_⟩
        have s7:=jAl nu (.tup [V.str (Str.ofString ""),.non,.ref u2])
        have k04:=(jBK (d:=d) s1).trans k4
        have q':=q u (.ref u2) { mO m wi ou (a + k) with wi:=wi2,wa:=m.wo,wo:=Str.ofString "jammed" } (upd (upd G5 u2 (.tup [V.ref l,.ref wi])) u (.tup [V.str (Str.ofString ""),.non,.ref u2])) ((k04.trans k5).trans (jBK (s6.trans s7)))
        rw [e] at q'
        refine q' jAc ⟨u2,l,wi,rfl,s7 _ _ h6,.inr (s1.free nl),.inr (s1.free nwi),((tl.kd k5 M4.d).same s6).same s7,(tl2.same s6).same s7⟩ ⟨(M5.same s6).same s7,rfl,(fun b z=>by cases z),M.pa,by show a + k - (a + k)≤P';omega,M.fe⟩ ⟨rfl,rfl,.inr (k04.free M.M.d ⟨_,M4.d⟩ nwi2),.inr (s1.free nou)⟩
    · cases D with
      | step=>exact absurd rfl n3
      | jam k=>exact absurd (by exact decide_eq_true rfl) c
      | leave=>rfl
      | come=>rfl
      | mend=>rfl
  rintro σ G4 ⟨rfl,rfl,n5⟩
  -- leaving
  refine jBf (fun σ G'=>G'=G4∧σ=[some (.ref d),some (.ref t),some (.str (wd S)),none]∧D≠.leave) (fun R hR=>?_) ?_
  · refine ⟨_,rfl,t,_,_,_,rfl,rfl,SqT.of ht1,jAC (j:=0) (dd0 D),rfl,_,rfl,jCi (fun c=>?_) (fun c=>hR _ _ ⟨rfl,rfl,fun z=>c (by rw [z];exact decide_eq_true rfl)⟩)⟩
    obtain rfl:D=.leave:=by cases D with
      | leave=>rfl
      | step=>cases n5
      | jam k=>cases n5
      | come=>exact absurd c (by decide +kernel)
      | mend=>exact absurd c (by decide +kernel)
    obtain ⟨s',e1,e2⟩:∃ s',jA5 2 S=some s'∧(∀ b,s'=.aw b→wd S=wd (if b=true then .jm else .rd))∧wd s'=Str.ofString "off":=by cases S with
      | rd=>exact ⟨.aw false,rfl,fun b z=>by cases z;rfl,rfl⟩
      | jm=>exact ⟨.aw true,rfl,fun b z=>by cases z;rfl,rfl⟩
      | aw b=>cases n2
    have e:nx m.nm m.T P' S a f fe .leave=⟨Str.ofString "",.non,.tags a f,s',a,a,fe⟩:=by unfold nx;rw [e1]
    refine ⟨_,rfl,d,m,a,f,_,rfl,M1,fun wi2 G5 k5 nwi2 tl2 M5=>⟨small (show 3≤1000 by decide),fun u nu=>?_⟩⟩
    have s7:=jAl nu (.tup [V.str (Str.ofString ""),.non,.ref m.wi])
    have q':=q u (.ref m.wi) { m with wi:=wi2,wa:=m.wo,wo:=Str.ofString "off" } (upd G5 u (.tup [V.str (Str.ofString ""),.non,.ref m.wi])) (((jBK s1).trans k5).trans (jBK s7))
    rw [e] at q'
    exact q' jAc ⟨m.wi,rfl,.inl rfl,tl2.same s7⟩ ⟨M5.same s7,e2.2.symm,fun b z=>wo.trans (e2.1 b z),M.pa,by show a - a≤P';omega,M.fe⟩ ⟨rfl,rfl,.inr (s1.free nwi2),.inl rfl⟩
  rintro σ G5 ⟨rfl,rfl,n6⟩
  -- mending, coming
  refine ⟨_,rfl,d,_,rfl,jLh M1.d _,?_⟩
  have k2:Kd d G5 (upd G5 d (.dK ({ m with wo:=Str.ofString "ready" }:MD).kv)):=jC3 _
  have d2:upd G5 d (.dK ({ m with wo:=Str.ofString "ready" }:MD).kv) d=some (.dK ({ m with wo:=Str.ofString "ready" }:MD).kv):=jAc
  generalize upd G5 d (.dK ({ m with wo:=Str.ofString "ready" }:MD).kv)=G6 at k2 d2 ⊢
  have ht2:=k2.tup M1.d _ _ ht1
  have fin:∀ (s':S3) (w2:Str) (G7:Hp),nx m.nm m.T P' S a f fe D=⟨Str.ofString "",.non,.wrd (wd s'),s',a,f,fe⟩→w2=wd s'→(∀ b,s'≠.aw b)→Kd d G5 G7→G7 d=some (.dK ({ m with wo:=w2 }:MD).kv)→∀ u,G7 u=none→Q (.ref u) (upd G7 u (.tup [.str (Str.ofString ""),.non,.str w2])):=fun s' w2 G7 e ew nb k7 d7 u nu=>by
    have s8:=jAl nu (.tup [V.str (Str.ofString ""),.non,.str w2])
    have q':=q u (.str w2) { m with wo:=w2 } (upd G7 u (.tup [V.str (Str.ofString ""),.non,.str w2])) (((jBK s1).trans k7).trans (jBK s8))
    rw [e] at q'
    have M7:Md G7 d { m with wo:=w2 } a f:=⟨d7,M1.w.kd k7 M1.d,M1.o.kd k7 M1.d,af,fT,M.M.ca,ov,T9⟩
    exact q' jAc (congrArg V.str ew) ⟨M7.same s8,ew,fun b z=>absurd z (nb b),M.pa,wP,M.fe⟩ ⟨rfl,rfl,.inl rfl,.inl rfl⟩
  refine ⟨_,rfl,t,_,_,_,rfl,rfl,SqT.of ht2,jAC (j:=0) (dd0 D),rfl,_,rfl,jCi (fun c=>?_) (fun c=>?_)⟩
  · obtain rfl:D=.come:=by cases D with
      | come=>rfl
      | step=>cases n5
      | jam k=>cases n5
      | leave=>exact absurd rfl n6
      | mend=>exact absurd c (by decide +kernel)
    obtain ⟨b,rfl⟩:∃ b,S=.aw b:=by cases S with
      | rd=>cases n2
      | jm=>cases n2
      | aw b=>exact ⟨b,rfl⟩
    refine ⟨_,rfl,d,_,rfl,g_was d2,_,rfl,d,_,rfl,jLh d2 _,?_⟩
    have k3:Kd d G6 (upd G6 d (.dK ({ m with wo:=m.wa }:MD).kv)):=jC3 _
    have d3:upd G6 d (.dK ({ m with wo:=m.wa }:MD).kv) d=some (.dK ({ m with wo:=m.wa }:MD).kv):=jAc
    refine ⟨_,rfl,d,_,rfl,jFS d3,small (show 3≤1000 by decide),fun u nu=>fin (if b=true then .jm else .rd) _ _ rfl (M.wa b rfl) (fun b' z=>by cases b <;> cases z) (k2.trans k3) d3 u nu⟩
  · obtain rfl:D=.mend:=by cases D with
      | mend=>rfl
      | step=>cases n5
      | jam k=>cases n5
      | leave=>exact absurd rfl n6
      | come=>exact absurd (decide_eq_true rfl) c
    obtain rfl:S=.jm:=by cases S with
      | rd=>cases n2
      | jm=>rfl
      | aw b=>cases n2
    exact ⟨_,rfl,d,_,rfl,jFS d2,small (show 3≤1000 by decide),fun u nu=>fin .rd _ _ rfl rfl (fun b z=>by cases z) k2 d2 u nu⟩
end
end My
namespace My
open PySem L2
open Blk (sg sg_inj sg_app)
section
variable {P:Program} {w:World} {K:PySem.W.Frag} {mg:Str→Option Value} {base:Heap} {fa yQ yZ yX yY yV yJ yW yU yK yG cQ cZ cV cK cG vQ vZ vX vY:Addr} {fd:FuncData}
theorem jDL {H:Hp} {b c C dx:Addr} {fs:List (Str×V)} {kv:List (Key×V)} (h:H b=some (.ins C dx fs)) (g:H c=some (.dK kv)):b≠c:=jAD h g (by intro z;cases z)
theorem jHB {H:Hp} {b c C dx:Addr} {fs:List (Str×V)} {ts:List V} (h:H b=some (.ins C dx fs)) (g:H c=some (.lst ts)):b≠c:=jAD h g (by intro z;cases z)
noncomputable def Stk (d:PD) (k0 k1:Str) (fe:Nat):Prop:=∃ A B:Int,d.am=[(k0,A),(k1,B)]∧A + B + (fe:Int)=1998∧999≤A + (fe:Int)∧999≤B + (fe:Int)∧9999≤d.b + 32 * (fe:Int)∧9999≤d.c + 32 * (fe:Int)
structure Rk (r:RD) (k0 k1:Str):Prop where
  k:k0≠k1
  pp:r.j.paper=k0
  cv:r.j.cover=none∨r.j.cover=some k1
  ik:∀ s∈r.inks,s.1≤32∧s.2≤32
  hb:r.br=false
  T1:1≤r.tot
  T9:r.tot≤90
theorem use_k {r:RD} {k0 k1:Str} (h:Rk r k0 k1) (n:Int):((jBd r n).1=k0∨(jBd r n).1=k1)∧(jBd r n).2.1≤32∧(jBd r n).2.2≤32:=by
  unfold jBd
  by_cases c:n=-1
  · rw [if_pos c]
    exact ⟨.inl h.pp,by show (0:Int)≤32;decide,by show (0:Int)≤32;decide⟩
  · rw [if_neg c]
    refine ⟨?_,?_⟩
    · show papR r.j _=k0∨papR r.j _=k1
      unfold papR
      split
      · rcases h.cv with e | e
        · rw [e];exact .inl h.pp
        · rw [e];exact .inr rfl
      · exact .inl h.pp
    · dsimp only
      rw [List.getD_eq_getElem?_getD]
      cases e:r.inks[n.toNat % r.inks.length]? with
      | none=>exact ⟨by show (0:Int)≤32;decide,by show (0:Int)≤32;decide⟩
      | some s=>exact h.ik s (List.mem_of_getElem? e)
theorem Stk.use {d:PD} {k0 k1 n:Str} {fe:Nat} (k:k0≠k1) (h:Stk d k0 k1 fe) (hn:n=k0∨n=k1) (f:fe≤240):∃ A,d.am.lookup n=some A∧1≤A∧32≤d.b∧32≤d.c∧∀ d':PD,∀ u v:Int,d'.am=jBh d.am n (A - 1)→u≤32→v≤32→d'.b=d.b - u→d'.c=d.c - v→Stk d' k0 k1 (fe + 1):=by
  obtain ⟨A,B,e,h1,h2,h3,h4,h5⟩:=h
  rcases hn with rfl | rfl
  · refine ⟨A,by rw [e,List.lookup_cons,beq_self_eq_true],by omega,by omega,by omega,fun d' u v ea hu hv eb ec=>⟨A - 1,B,?_,by omega,by omega,by omega,by omega,by omega⟩⟩
    rw [ea,e]
    unfold jBh
    simp only [List.map_cons,List.map_nil]
    rw [if_pos trivial,if_neg (Ne.symm k)]
  · refine ⟨B,by rw [e,List.lookup_cons,show (n == k0)=false from Bool.eq_false_iff.mpr fun z=>k (eq_of_beq z).symm,List.lookup_cons,beq_self_eq_true],by omega,by omega,by omega,fun d' u v ea hu hv eb ec=>⟨A,B - 1,?_,by omega,by omega,by omega,by omega,by omega⟩⟩
    rw [ea,e]
    unfold jBh
    simp only [List.map_cons,List.map_nil]
    rw [if_neg k,if_pos trivial]
structure Pw (cR cJ cP cS cY cM cW:Addr) (H:Hp) (x p:Addr) (r:RD) (d:PD) (k0 k1:Str) (P:Nat) (S:S3) (a f fe:Nat):Prop where
  w:Wd cR cJ cP cS cY cM cW H x (R4 r p 0 (r.tot + 1) a) p d (win 0 a f)
  S:d.S=S
  pa:d.path=((P:Nat):Int)
  nm:d.name="p"
  st:Stk d k0 k1 fe
  af:a≤f
  fT:f≤r.tot + 1
  wP:f - a≤P
noncomputable def Kp (x p:Addr) (d:PD) (H H':Hp):Prop:=∀ b o,b≠x→b≠p→b≠d.ins→b≠d.tr2→b≠d.ik2→H b=some o→H' b=some o
structure Gp (d d':PD) (H:Hp):Prop where
  i:d'.ins=d.ins∨H d'.ins=none
  t:d'.tr2=d.tr2
  k:d'.ik2=d.ik2
  t1:d'.tr1=d.tr1
  k1:d'.ik1=d.ik1
section
variable {cR cJ cP cS cY cM cW:Addr} {H H':Hp} {x p:Addr} {r:RD} {d:PD} {k0 k1:Str} {P:Nat} {S:S3} {a f fe:Nat}
theorem Pw.same (h:Pw cR cJ cP cS cY cM cW H x p r d k0 k1 P S a f fe) (s:jAr H H'):Pw cR cJ cP cS cY cM cW H' x p r d k0 k1 P S a f fe:={ h with w:=h.w.same s }
theorem jJs {d:PD} (k:∀ b o,b≠p→H b=some o→H' b=some o):Kp x p d H H':=fun b o _ n _ _ _ e=>k b o n e
theorem Pw.turn {st il:Addr} {S':S3} {ts:List V} {f':Nat} (h:Pw cR cJ cP cS cY cM cW H x p r d k0 k1 P S a f fe) (k:∀ b o,b≠p→H b=some o→H' b=some o) (P':jAO cP cS cY cM cW H' p { d with st:=st,S:=S',ins:=il,tags:=ts }) (hi:il=d.ins∨H il=none) (ht:jAH H' r.nm ts (win 0 a f')) (h1:a≤f') (h2:f'≤r.tot + 1) (h3:f' - a≤P):Pw cR cJ cP cS cY cM cW H' x p r { d with st:=st,S:=S',ins:=il,tags:=ts } k0 k1 P S' a f' fe:=by
  have R':=h.w.R.turn h.w.P h.w.n1 k
  refine ⟨⟨R',P',ht,h.w.n1,h.w.n2,h.w.n3,jNb P'.s R',?_⟩,rfl,h.pa,h.nm,h.st,h1,h2,h3⟩
  rcases hi with e | e
  · show r.il≠il
    rw [e]
    exact h.w.n5
  · intro z
    obtain ⟨ys,hy,_⟩:=id h.w.R.i
    rw [show il=(R4 r p 0 (r.tot + 1) a).il from z.symm,hy] at e
    cases e
theorem Pw.tags (h:Pw cR cJ cP cS cY cM cW H x p r d k0 k1 P S a f fe) (k:∀ b o,b≠p→H b=some o→H' b=some o):jAH H' r.nm d.tags (win 0 a f):=h.w.tg.fr fun b xs e=>k _ _ (jAD e h.w.P.o (by intro z;cases z)) e
end
end
end My
namespace My
open PySem L2
open Blk (sg sg_inj sg_app)
section
variable {P:Program} {w:World} {K:PySem.W.Frag} {mg:Str→Option Value} {base:Heap} {fa yQ yZ yX yY yV yJ yW yU yK yG cQ cZ cV cK cG vQ vZ vX vY:Addr} {fd:FuncData}
noncomputable def Good (nm:Str) (T P:Nat) (S:S3) (a f fe:Nat) (D:Dd) (R:Rs):Prop:=nx nm T P S a f fe D=R∧R.kd=Str.ofString ""∧R.wo=.non
structure Cl (cR cJ cO cN cT cP cS cY cM cW:Addr) (H:Hp) (Q:VK) (E:XK) (x p:Addr) (r:RD) (d:PD) (k0 k1:Str) (P:Nat) (S:S3) (a f fe:Nat) (D:Dd):Prop where
  ov:jGo D=true→a=r.tot + 1→OvR cO r H E
  nw:c2 D S=true→¬ (jGo D=true∧a=r.tot + 1)→jDE cN "found" (.str (wd S)) H E
  mu:∀ k,D=.jam k→S=.rd→a≠r.tot + 1→f - a < k→jDE cT "name" (.str wiW) H E
  ok:∀ R,Good r.nm r.tot P S a f fe D R→∀ v d' H',Kp x p d H H'→IsR H' r.nm (fun _=>True) v R.rv→Pw cR cJ cP cS cY cM cW H' x p r d' k0 k1 P R.S R.a R.f R.fe→Gp d d' H→Q v H'
section
variable {cR cJ cO cN cT cP cS cY cM cW:Addr} {H H':Hp} {Q:VK} {E:XK} {x p:Addr} {r:RD} {d:PD} {k0 k1:Str} {P:Nat} {S:S3} {a f fe:Nat} {D:Dd}
theorem jHC (h:a < r.tot + 1):(R4 r p 0 (r.tot + 1) a).pr=some p:=by show (if a=r.tot + 1 then none else some p)=_;rw [if_neg (by omega)]
theorem jNe (k:Rk r k0 k1) (lv:Liv (R4 r p 0 (r.tot + 1) a)) (h:a≤r.tot + 1):a < r.tot + 1:=by
  have:=lv.2
  have h2:0 + (a - 1)≠r.tot:=this
  have:=k.T1
  omega
theorem nliv (k:Rk r k0 k1) (h:a≤r.tot + 1) (n:¬ Liv (R4 r p 0 (r.tot + 1) a)):a=r.tot + 1:=by
  apply Classical.byContradiction
  intro z
  have:=k.T1
  exact n (liv_4 k.hb (by omega) (by omega) (by omega))
theorem Pw.step (h:Pw cR cJ cP cS cY cM cW H x p r d k0 k1 P S a f fe) (k:Rk r k0 k1) (f2:fe≤240) (c:Cl cR cJ cO cN cT cP cS cY cM cW H Q E x p r d k0 k1 P S a f fe .step):jEJ cR cJ cO cN cP cS cY cM cW [.ref x] H Q E:=by
  obtain ⟨W,eS,h3,h4,h5,h6,h7,h8⟩:=h
  have tl:=W.tg.1
  have wl:=jCE 0 a f
  have T1:=k.T1
  have T9:=k.T9
  refine ⟨x,_,rfl,W.R,fun z=>c.ov rfl (nliv k (by omega) z),fun lv=>?_⟩
  have aM:=jNe k lv (by omega)
  have hM:r.tot + 1=0 + (r.tot + 1):=by omega
  have nS:d.S≠.rd→jDE cN "found" (.str (wd d.S)) H E:=fun z=>by
    rw [eS] at z ⊢
    refine c.nw ?_ (fun z=>by omega)
    cases S with
    | rd=>exact absurd rfl z
    | jm=>rfl
    | aw b=>rfl
  have gd:d.S=.rd→∀ R:Rs,R=⟨Str.ofString "",.non,.tags a (stA r.tot P a f),.rd,stA r.tot P a f,stF r.tot f,stE r.tot f fe⟩→Good r.nm r.tot P S a f fe .step R:=fun z R e=>by
    have z':S=.rd:=by rw [← eS,z]
    subst z'
    subst e
    exact ⟨if_neg (by omega),rfl,rfl⟩
  have kp:∀ {H'},(∀ b o,b≠x→b≠d.ins→b≠d.tr2→b≠d.ik2→H b=some o→H' b=some o)→Kp x p d H H':=fun g b o n1 _ n3 n4 n5 e=>g b o n1 n3 n4 n5 e
  refine ⟨p,d,_,W,jHC aM,nS,fun cn=>?_,fun cn eR l H' ts st=>?_⟩
  · rw [jGV h6] at cn ⊢
    have fl:f < r.tot + 1:=by
      have c':itm 0 f < ((r.tot:Nat):Int):=cn
      unfold itm at c'
      split at c' <;> omega
    obtain ⟨u1,u2,u3⟩:=use_k (r:=R4 r p 0 (r.tot + 1) a) (k0:=k0) (k1:=k1) ⟨k.k,k.pp,k.cv,k.ik,k.hb,k.T1,k.T9⟩ (itm 0 f)
    obtain ⟨A,la,a1,b8,c8,sk⟩:=h5.use k.k u1 f2
    refine ⟨by rw [tl,wl];omega,A,la,a1,by omega,by omega,fun eR l H' ts over eo st=>?_⟩
    rw [wl,h3] at eo
    rw [jH3 h6] at st
    have eF:stF r.tot f=f + 1:=by unfold stF;rw [if_neg (by omega)]
    have eE:stE r.tot f fe=fe + 1:=by unfold stE;rw [if_neg (by omega)]
    have sw:=st.w
    have hl:=st.l
    by_cases co:P < f + 1 - a
    · have eo':over=true:=by rw [eo];exact decide_eq_true (by omega)
      subst eo'
      have eA:stA r.tot P a f=a + 1:=by unfold stA;rw [if_neg (by omega),if_pos co]
      have e1:jGc true (win 0 a (f + 1))=win 0 a (a + 1):=by
        unfold jGc
        rw [if_pos rfl,jFR (by omega)]
      have e2:jGT true (win 0 a (f + 1))=win 0 (a + 1) (f + 1):=by
        unfold jGT
        rw [if_pos rfl,jH4 (by omega)]
        rfl
      rw [e1] at hl
      rw [e1,e2,jHA hM (by omega) (by omega) (by omega) aM] at sw
      obtain ⟨d',ed⟩:∃ d':PD,d'={ d with am:=jBh d.am (jBd (R4 r p 0 (r.tot + 1) a) (itm 0 f)).1 (A - 1),b:=d.b - (jBd (R4 r p 0 (r.tot + 1) a) (itm 0 f)).2.1,c:=d.c - (jBd (R4 r p 0 (r.tot + 1) a) (itm 0 f)).2.2,tags:=ts }:=⟨_,rfl⟩
      rw [← ed] at sw
      refine c.ok _ (gd eR _ rfl) (.ref l) d' H' (kp st.fr) ⟨l,rfl,trivial,by rw [eA];exact ⟨hl⟩⟩ ⟨by dsimp only;rw [eA,eF];exact sw,by rw [ed];exact eR,by rw [ed];exact h3,by rw [ed];exact h4,by dsimp only;rw [eE];exact sk d' _ _ (by rw [ed]) u2 u3 (by rw [ed]) (by rw [ed]),?_,?_,?_⟩ ⟨.inl (by rw [ed]),by rw [ed],by rw [ed],by rw [ed],by rw [ed]⟩
      all_goals (dsimp only;omega)
    · have eo':over=false:=by rw [eo];exact decide_eq_false (by omega)
      subst eo'
      have eA:stA r.tot P a f=a:=by unfold stA;rw [if_neg (by omega),if_neg co]
      have e1:jGc false (win 0 a (f + 1))=win 0 a a:=by
        unfold jGc
        rw [if_neg (by decide),jDK]
      have e2:jGT false (win 0 a (f + 1))=win 0 a (f + 1):=by
        unfold jGT
        rw [if_neg (by decide)]
      rw [e1] at hl
      rw [e1,e2,jHA hM (by omega) (Nat.le_refl _) (by omega) aM] at sw
      obtain ⟨d',ed⟩:∃ d':PD,d'={ d with am:=jBh d.am (jBd (R4 r p 0 (r.tot + 1) a) (itm 0 f)).1 (A - 1),b:=d.b - (jBd (R4 r p 0 (r.tot + 1) a) (itm 0 f)).2.1,c:=d.c - (jBd (R4 r p 0 (r.tot + 1) a) (itm 0 f)).2.2,tags:=ts }:=⟨_,rfl⟩
      rw [← ed] at sw
      refine c.ok _ (gd eR _ rfl) (.ref l) d' H' (kp st.fr) ⟨l,rfl,trivial,by rw [eA];exact ⟨hl⟩⟩ ⟨by dsimp only;rw [eA,eF];exact sw,by rw [ed];exact eR,by rw [ed];exact h3,by rw [ed];exact h4,by dsimp only;rw [eE];exact sk d' _ _ (by rw [ed]) u2 u3 (by rw [ed]) (by rw [ed]),?_,?_,?_⟩ ⟨.inl (by rw [ed]),by rw [ed],by rw [ed],by rw [ed],by rw [ed]⟩
      all_goals (dsimp only;omega)
  · rw [jGV h6] at cn
    have fl:f=r.tot + 1:=by
      have c':¬ itm 0 f < ((r.tot:Nat):Int):=cn
      unfold itm at c'
      split at c' <;> omega
    have eF:stF r.tot f=f:=by unfold stF;rw [if_pos fl]
    have eE:stE r.tot f fe=fe:=by unfold stE;rw [if_pos fl]
    have eA:stA r.tot P a f=a + 1:=by unfold stA;rw [if_pos fl]
    have e1:(win 0 a f).take 1=win 0 a (a + 1):=jFR (by omega)
    have e2:(win 0 a f).drop 1=win 0 (a + 1) f:=jFT 1 (by omega)
    have sw:=st.w
    have hl:=st.l
    rw [e1] at hl
    rw [e1,e2,jHA hM (by omega) (by omega) (by omega) aM] at sw
    refine c.ok _ (gd eR _ rfl) (.ref l) { d with tags:=ts } H' (kp st.fr) ⟨l,rfl,trivial,by rw [eA];exact ⟨hl⟩⟩ ⟨by dsimp only;rw [eA,eF];exact sw,eR,h3,h4,by dsimp only;rw [eE];exact h5,?_,?_,?_⟩ ⟨.inl rfl,rfl,rfl,rfl,rfl⟩
    all_goals (dsimp only;omega)
theorem Pw.jam {j:Nat} (h:Pw cR cJ cP cS cY cM cW H x p r d k0 k1 P S a f fe) (k:Rk r k0 k1) (c:Cl cR cJ cO cN cT cP cS cY cM cW H Q E x p r d k0 k1 P S a f fe (.jam j)):jFe cR cJ cO cN cT cP cS cY cM cW [.ref x,.int (j:Int)] H Q E:=by
  obtain ⟨W,eS,h3,h4,h5,h6,h7,h8⟩:=h
  have wl:=jCE 0 a f
  have T1:=k.T1
  refine ⟨x,_,j,rfl,W.R,fun z=>c.ov rfl (nliv k (by omega) z),fun lv=>?_⟩
  have aM:=jNe k lv (by omega)
  have hM:r.tot + 1=0 + (r.tot + 1):=by omega
  refine ⟨p,d,_,jHC aM,W,fun z=>?_,fun z g=>?_,fun z g t l1 l2 st il H' kk nil' ht tl1 tl2 W'=>?_⟩
  · rw [eS] at z ⊢
    refine c.nw ?_ (fun z=>by omega)
    cases S with
    | rd=>exact absurd rfl z
    | jm=>rfl
    | aw b=>rfl
  · rw [wl] at g
    exact c.mu j rfl (by rw [← eS,z]) (by omega) g
  · rw [wl] at g
    have z':S=.rd:=by rw [← eS,z]
    subst z'
    rw [jFR (by omega)] at tl1 W'
    rw [jFT j (by omega)] at tl2
    rw [jHA hM (by omega) (by omega) (by omega) aM,← jDK 0 (a + j)] at W'
    refine c.ok ⟨Str.ofString "",.non,.two a (a + j) f,.jm,a + j,a + j,fe⟩ ⟨(if_neg (by omega)).trans (if_neg (by omega)),rfl,rfl⟩ (.ref t) _ H' (fun b o n1 n2 _ _ _ e=>kk b o n1 n2 e) ⟨t,l1,l2,rfl,ht,trivial,trivial,⟨tl1⟩,⟨tl2⟩⟩ ⟨W',rfl,h3,h4,h5,Nat.le_refl _,by dsimp only;omega,by dsimp only;omega⟩ ⟨.inr nil',rfl,rfl,rfl,rfl⟩
end
noncomputable def jEY (cR cJ cO cN cT cP cS cY cM cW:Addr):Sp:=fun vs H Q E=>∃ x p t r d k0 k1 P S a f fe D,vs=[.ref x,.ref p,.ref t]∧H t=some (.tup (ddV D))∧Rk r k0 k1∧Pw cR cJ cP cS cY cM cW H x p r d k0 k1 P S a f fe∧fe≤240∧Cl cR cJ cO cN cT cP cS cY cM cW H Q E x p r d k0 k1 P S a f fe D
theorem jJt:jAn ["_law_run","_law_printer","_law_deed"] ["_law_run","_law_printer","_law_deed"] (jAb jCC):=⟨rfl,rfl,rfl,by decide +kernel,rfl,by decide +kernel,by decide +kernel⟩
theorem jJu (F:Fun K "_law_called" "_law_called" jCC fa fd) (T:Txt K mg yQ yZ yX yY yV yJ yW yU yK yG cQ cZ cV cK cG vQ vZ vX vY) (D_Run_step:MtE P w K mg base 8 "step" yK ["self"] (jEJ yK yG vZ cK cZ cQ yJ yW yU)) (D_Run_jam:MtE P w K mg base 6 "jam" yK ["self","saved"] (jFe yK yG vZ cK cG cZ cQ yJ yW yU)) (D_Printer_leave:MtE P w K mg base 5 "leave" cZ ["self"] (jE1 cK cZ cQ yJ yW yU)) (D_Printer_come:MtE P w K mg base 5 "come" cZ ["self"] (jCH 3 cK cZ cQ yJ yW yU)) (D_Printer_mend:MtE P w K mg base 5 "mend" cZ ["self"] (jCH 1 cK cZ cQ yJ yW yU)) :
    jAh P w K mg base (CXe P w) 9 fa fd ["_law_run","_law_printer","_law_deed"] (jEY yK yG vZ cK cG cZ cQ yJ yW yU):=by
  refine F.okE jJt (fun vs H Q E h=>?_) (fun cdv A outer s H vs Q E hr h=>?_)
  · obtain ⟨x,p,t,r,d,k0,k1,P,S,a,f,fe,D,rfl,_⟩:=h
    rfl
  obtain ⟨x,p,t,r,d,k0,k1,P',S,a,f,fe,D,rfl,ht,k,W,f2,c⟩:=h
  refine ⟨_,(jAd (jAJ (jAu jA_ (jAG jAM (pv 2) jAg (fun _ _=>rfl)) jAj (jAw _)) (jAf (jAp (jAv 8 jAx (hr.mono (by decide)) (pv 0)))) jAz)
  (jAd (jAJ (jAu jA_ (jAG jAM (pv 2) jAg (fun _ _=>rfl)) jAj (jAw _)) (jAf (jAp (jAU 6 jAx (hr.mono (by decide)) (pv 0) (jAa (jAG jAM (pv 2) jAg (fun _ _=>rfl)) jAe)))) jAz)
  (jAd (jAJ (jAu jA_ (jAG jAM (pv 2) jAg (fun _ _=>rfl)) jAj (jAw _)) (jAf (jAp (jAv 5 jAx (hr.mono (by decide)) (pv 1)))) jAz)
  (jAd (jAJ (jAu jA_ (jAG jAM (pv 2) jAg (fun _ _=>rfl)) jAj (jAw _)) (jAf (jAp (jAv 5 jAx (hr.mono (by decide)) (pv 1)))) jAz)
  (jAf (jAp (jAv 5 jAx (hr.mono (by decide)) (pv 1)))))))),?_⟩
  have ix:=dd0 D
  refine ⟨_,rfl,t,_,_,_,rfl,rfl,SqT.of ht,jAC (j:=0) ix,rfl,_,rfl,?_⟩
  cases D with
  | step =>
    refine jEy rfl ⟨_,rfl,x,_,_,_,_,_,rfl,W.w.R.o,rfl,T.cl_Run,D_Run_step,?_⟩
    exact W.step k f2 c
  | jam j =>
    refine jBy (show ¬ V.str (Str.ofString "jam")=V.str (Str.ofString "step") by decide +kernel) ⟨_,rfl,t,_,_,_,rfl,rfl,SqT.of ht,jAC (j:=0) ix,rfl,_,rfl,jEy rfl ⟨_,rfl,x,_,_,_,_,_,rfl,W.w.R.o,rfl,T.cl_Run,D_Run_jam,_,rfl,t,_,_,_,rfl,rfl,SqT.of ht,jAC (j:=1) rfl,?_⟩⟩
    exact W.jam k c
  | leave =>
    refine jBy (by decide +kernel) ⟨_,rfl,t,_,_,_,rfl,rfl,SqT.of ht,jAC (j:=0) ix,rfl,_,rfl,jBy (by decide +kernel) ⟨_,rfl,t,_,_,_,rfl,rfl,SqT.of ht,jAC (j:=0) ix,rfl,_,rfl,jEy rfl ⟨_,rfl,p,_,_,_,_,_,rfl,W.w.P.o,rfl,T.cl_Printer,D_Printer_leave,p,d,rfl,W.w.P,fun s' e st il H' kk nil' P1=>?_,fun e=>?_⟩⟩⟩
    · rw [W.S] at e
      refine c.ok ⟨Str.ofString "",.non,.tags a f,s',a,a,fe⟩ ⟨by unfold nx;rw [e],rfl,rfl⟩ _ _ H' (jJs kk) ⟨d.ins,rfl,trivial,⟨_,kk _ _ (jAD W.w.P.n W.w.P.o (by intro z;cases z)) W.w.P.n,W.tags kk⟩⟩ (W.turn kk P1 (.inr nil') (by rw [jDK];exact ⟨rfl,fun i y n a=>by cases a⟩) (Nat.le_refl _) (Nat.le_trans W.af W.fT) (by rw [Nat.sub_self];exact Nat.zero_le _)) ⟨.inr nil',rfl,rfl,rfl,rfl⟩
    · rw [W.S] at e ⊢
      refine c.nw ?_ (fun z=>by cases z.1)
      cases S with
      | rd=>cases e
      | jm=>cases e
      | aw b=>rfl
  | come =>
    refine jBy (by decide +kernel) ⟨_,rfl,t,_,_,_,rfl,rfl,SqT.of ht,jAC (j:=0) ix,rfl,_,rfl,jBy (by decide +kernel) ⟨_,rfl,t,_,_,_,rfl,rfl,SqT.of ht,jAC (j:=0) ix,rfl,_,rfl,jBy (by decide +kernel) ⟨_,rfl,t,_,_,_,rfl,rfl,SqT.of ht,jAC (j:=0) ix,rfl,_,rfl,jEy rfl ⟨_,rfl,p,_,_,_,_,_,rfl,W.w.P.o,rfl,T.cl_Printer,D_Printer_come,p,d,rfl,W.w.P,fun s' e st H' kk P1=>?_,fun e=>?_⟩⟩⟩⟩
    · rw [W.S] at e
      refine c.ok ⟨Str.ofString "",.non,.wrd (wd s'),s',a,f,fe⟩ ⟨by show jEd 3 S a f fe=_;unfold jEd;rw [e],rfl,rfl⟩ _ _ H' (jJs kk) rfl (W.turn kk P1 (.inl rfl) (W.tags kk) W.af W.fT W.wP) ⟨.inl rfl,rfl,rfl,rfl,rfl⟩
    · rw [W.S] at e ⊢
      refine c.nw ?_ (fun z=>by cases z.1)
      cases S with
      | rd=>rfl
      | jm=>rfl
      | aw b=>cases e
  | mend =>
    refine jBy (by decide +kernel) ⟨_,rfl,t,_,_,_,rfl,rfl,SqT.of ht,jAC (j:=0) ix,rfl,_,rfl,jBy (by decide +kernel) ⟨_,rfl,t,_,_,_,rfl,rfl,SqT.of ht,jAC (j:=0) ix,rfl,_,rfl,jBy (by decide +kernel) ⟨_,rfl,t,_,_,_,rfl,rfl,SqT.of ht,jAC (j:=0) ix,rfl,_,rfl,jBy (by decide +kernel) ⟨_,rfl,p,_,_,_,_,_,rfl,W.w.P.o,rfl,T.cl_Printer,D_Printer_mend,p,d,rfl,W.w.P,fun s' e st H' kk P1=>?_,fun e=>?_⟩⟩⟩⟩
    · rw [W.S] at e
      refine c.ok ⟨Str.ofString "",.non,.wrd (wd s'),s',a,f,fe⟩ ⟨by show jEd 1 S a f fe=_;unfold jEd;rw [e],rfl,rfl⟩ _ _ H' (jJs kk) rfl (W.turn kk P1 (.inl rfl) (W.tags kk) W.af W.fT W.wP) ⟨.inl rfl,rfl,rfl,rfl,rfl⟩
    · rw [W.S] at e ⊢
      refine c.nw ?_ (fun z=>by cases z.1)
      cases S with
      | rd=>rfl
      | jm=>cases e
      | aw b=>rfl
noncomputable def jFV (cR cJ cO cN cT cP cS cY cM cW:Addr):Sp:=fun vs H Q _=>∃ x p t r d k0 k1 P S a f fe D,vs=[.ref x,.ref p,.ref t]∧H t=some (.tup (ddV D))∧Rk r k0 k1∧Pw cR cJ cP cS cY cM cW H x p r d k0 k1 P S a f fe∧fe≤240 ∧
  ∀ R,nx r.nm r.tot P S a f fe D=R→∀ u v d' H',Kp x p d H H'→H' u=some (.tup [.str R.kd,R.wo,v])→IsR H' r.nm (fun _=>True) v R.rv→Pw cR cJ cP cS cY cM cW H' x p r d' k0 k1 P R.S R.a R.f R.fe→Gp d d' H→Q (.ref u) H'
theorem jA1:jAn ["_law_run","_law_printer","_law_deed","_law_found","_law_kind","_law_word_here","e"] ["_law_run","_law_printer","_law_deed"] (jAb jDs):=⟨rfl,rfl,rfl,by decide +kernel,rfl,by decide +kernel,by decide +kernel⟩
theorem jLn (F:Fun K "_law_done" "_law_done" jDs fa fd) (T:Txt K mg yQ yZ yX yY yV yJ yW yU yK yG cQ cZ cV cK cG vQ vZ vX vY) (D__law_called:DfE P w K mg base 9 "_law_called" ["_law_run","_law_printer","_law_deed"] (jEY yK yG vZ cK cG cZ cQ yJ yW yU)) :
    jAh P w K mg base CX0 10 fa fd ["_law_run","_law_printer","_law_deed"] (jFV yK yG vZ cK cG cZ cQ yJ yW yU):=by
  refine F.ok jA1 (fun vs H Q E h=>?_) (fun cdv A outer s H vs Q E hr h=>?_)
  · obtain ⟨x,p,t,r,d,k0,k1,P,S,a,f,fe,D,rfl,_⟩:=h
    rfl
  obtain ⟨x,p,t,r,d,k0,k1,P',S,a,f,fe,D,rfl,ht,k,W,f2,q⟩:=h
  refine ⟨_,(jAd (jAE (i:=3) jA1.nd rfl (by first | exact Or.inl rfl | exact Or.inr rfl) jAY)
  (jAd (jAE (i:=4) jA1.nd rfl (by first | exact Or.inl rfl | exact Or.inr rfl) jAj)
  (jAd (jAE (i:=5) jA1.nd rfl (by first | exact Or.inl rfl | exact Or.inr rfl) jAY)
  (jAd (ps_try top_nox (fun _ _ _ hP hO=>by exact (jAf (jAE (i:=3) jA1.nd rfl (by first | exact Or.inl rfl | exact Or.inr rfl) (jNz D__law_called hP (hr.mono (show 9≤9 by decide)) rfl (jAa (pv 0) (jAa (pv 1) (jAa (pv 2) jAe))))))) (ph_as (i:=6) rfl T.mg_NotNow jA1.nd rfl rfl (fun _=>by exact (jAd (jAE (i:=4) jA1.nd rfl (by first | exact Or.inl rfl | exact Or.inr rfl) jAj)
  (jAf (jAE (i:=5) jA1.nd rfl (by first | exact Or.inl rfl | exact Or.inr rfl) (jH0 (K:=K) rfl (pv 6) rfl))))) (ph_as (i:=6) rfl T.mg_Over jA1.nd rfl rfl (fun _=>by exact (jAd (jAE (i:=4) jA1.nd rfl (by first | exact Or.inl rfl | exact Or.inr rfl) jAj)
  (jAf (jAE (i:=5) jA1.nd rfl (by first | exact Or.inl rfl | exact Or.inr rfl) (jH0 (K:=K) rfl (pv 6) rfl))))) (ph_as (i:=6) rfl T.mg_TooMuch jA1.nd rfl rfl (fun _=>by exact (jAd (jAE (i:=4) jA1.nd rfl (by first | exact Or.inl rfl | exact Or.inr rfl) jAj)
  (jAf (jAE (i:=5) jA1.nd rfl (by first | exact Or.inl rfl | exact Or.inr rfl) (jH0 (K:=K) rfl (pv 6) rfl))))) ph_nil))))
  (jAf (jAp (jAV (jAa (pv 4) (jAa (pv 5) (jAa (pv 3) jAe)))))))))),?_⟩
  have ref:∀ (kd:Str) (w':V) (H1:Hp),jAr H H1→nx r.nm r.tot P' S a f fe D=⟨kd,w',.non,S,a,f,fe⟩→∀ u,H1 u=none→Q (.ref u) (upd H1 u (.tup [.str kd,w',.non])):=fun kd w' H1 s1 e u nu=>by
    have s2:=jAl nu (.tup [V.str kd,w',.non])
    exact q _ e u .non d _ (fun b o _ _ _ _ _ eo=>s2 _ _ (s1 _ _ eo)) jAc rfl (W.same (s1.trans s2)) ⟨.inl rfl,rfl,rfl,rfl,rfl⟩
  refine ⟨_,rfl,_,rfl,_,rfl,x,p,t,r,d,k0,k1,P',S,a,f,fe,D,rfl,ht,k,W,f2,⟨fun h1 h2 ea H1 s1 _ g=>?_,fun h1 h2 ea H1 s1 g=>?_,fun j h1 h2 h3 h4 ea H1 s1 g=>?_,fun R hR v d' H1 kk hv W1 G=>?_⟩⟩
  · have cc:jEP K vZ∧jAy K vZ "job":=⟨T.x_Over.i.c,T.x_Over.n _ (.head _)⟩
    refine ⟨vZ,ea,rfl,rfl,T.x_Over.m,T.x_NotNow.m,false,T.mh_Over_NotNow,jAT ⟨T.x_Over.m,T.x_Over.m,true,T.mh_Over_Over,jA6 ⟨_,rfl,ea,_,_,_,rfl,g,cc.1,cc.2,rfl,?_⟩⟩⟩
    exact ⟨_,rfl,_,rfl,_,rfl,small (show 3≤1000 by decide),fun u nu=>ref _ _ H1 s1 (jL_ h1 h2) u nu⟩
  · have cc:jEP K cK∧jAy K cK "found":=⟨T.x_NotNow.i.c,T.x_NotNow.n _ (.head _)⟩
    refine ⟨cK,ea,rfl,rfl,T.x_NotNow.m,T.x_NotNow.m,true,T.mh_NotNow_NotNow,jA6 ⟨_,rfl,ea,_,_,_,rfl,g,cc.1,cc.2,rfl,?_⟩⟩
    exact ⟨_,rfl,_,rfl,_,rfl,small (show 3≤1000 by decide),fun u nu=>ref _ _ H1 s1 (jLm h1 h2) u nu⟩
  · have cc:jEP K cG∧jAy K cG "name":=⟨T.x_TooMuch.i.c,T.x_TooMuch.n _ (.head _)⟩
    refine ⟨cG,ea,rfl,rfl,T.x_TooMuch.m,T.x_NotNow.m,false,T.mh_TooMuch_NotNow,jAT ⟨T.x_TooMuch.m,T.x_Over.m,false,T.mh_TooMuch_Over,jAT ⟨T.x_TooMuch.m,T.x_TooMuch.m,true,T.mh_TooMuch_TooMuch,jA6 ⟨_,rfl,ea,_,_,_,rfl,g,cc.1,cc.2,rfl,?_⟩⟩⟩⟩
    refine ⟨_,rfl,_,rfl,_,rfl,small (show 3≤1000 by decide),fun u nu=>ref _ _ H1 s1 ?_ u nu⟩
    rw [h1,h2]
    exact (if_neg h3).trans (if_pos h4)
  · refine ⟨_,rfl,_,rfl,_,rfl,small (show 3≤1000 by decide),fun u nu=>?_⟩
    have s2:=jAl nu (.tup [V.str (Str.ofString ""),.non,v])
    obtain ⟨e1,e2,e3⟩:=hR
    refine q R e1 u v d' _ (fun b o n1 n2 n3 n4 n5 eo=>s2 _ _ (kk b o n1 n2 n3 n4 n5 eo)) ?_ (hv.same s2) (W1.same s2) G
    rw [e2,e3]
    exact jAc
theorem kit_LT {K:PySem.W.Frag}:PySem.W.kitOne K (.type "list") (.type "tuple")=some false:=jG5 (by decide +kernel) (by decide +kernel) (by decide +kernel)
theorem kit_LS {K:PySem.W.Frag}:PySem.W.kitOne K (.type "list") (.type "str")=some false:=jG5 (by decide +kernel) (by decide +kernel) (by decide +kernel)
theorem kit_TS {K:PySem.W.Frag}:PySem.W.kitOne K (.type "tuple") (.type "str")=some false:=jG5 (by decide +kernel) (by decide +kernel) (by decide +kernel)
noncomputable def jFi (K:PySem.W.Frag):Sp:=fun vs H Q _=>∃ u v nm N N' rv,vs=[u,v]∧IsR H nm N u rv∧IsR H nm N' v rv∧(∀ a b,rv=.tags a b→b≤100)∧(∀ a b c,rv=.two a b c→b≤100∧c≤100)∧Q (.bl true) H
theorem jKe:jAn ["_law_found","_law_due_here"] ["_law_found","_law_due_here"] (jAb jCZ):=⟨rfl,rfl,rfl,by decide +kernel,rfl,by decide +kernel,by decide +kernel⟩
theorem jKf (F:Fun K "_law_alike" "_law_alike" jCZ fa fd) (T:Txt K mg yQ yZ yX yY yV yJ yW yU yK yG cQ cZ cV cK cG vQ vZ vX vY) (D__law_tags:Dfn P w K mg base 2 "_law_tags" ["_law_told","_law_due_here"] (jDJ K)) :
    jAh P w K mg base CX0 3 fa fd ["_law_found","_law_due_here"] (jFi K):=by
  refine F.ok jKe (fun vs H Q E h=>?_) (fun cdv A outer s H vs Q E hr h=>?_)
  · obtain ⟨u,v,nm,N,N',rv,rfl,_⟩:=h
    rfl
  obtain ⟨u,v,nm,N,N',rv,rfl,h1,h2,z1,z2,q⟩:=h
  refine ⟨_,(jAd (jAJ (PW.pt (jC6 (jAu jGr (pv 1) jAY (jAw _)) (jCN (jAQ (jAP jDz rfl T.isinstance jE8 (jAa (pv 1) (jAa (jEk rfl T.str jMN (jE9 _)) jAe))) (fun _=>rfl))))) (jAf (jAp (jFz jA_ (pv 0) (pv 1) (jAw _)))) jAz)
  (jAd (jAJ (jAQ (jAP jDz rfl T.isinstance jE8 (jAa (pv 1) (jAa (jEk rfl T.tuple jGI (jE9 _)) jAe))) (fun _=>rfl)) (jAd (jAJ (PW.pt (jC6 (jCF (jAQ (jAP jDz rfl T.isinstance jE8 (jAa (pv 0) (jAa (jEk rfl T.tuple jGI (jE9 _)) jAe))) (fun _=>rfl))) (jCN (jAu jD_ (jAP jAS rfl T.len PySem.boot_len (jAa (pv 0) jAe)) jAg (jAw _))))) (jAf (jAp jBL)) jAz)
  (jAf (jAp (jG0 (jAA D__law_tags (hr.mono (by decide)) rfl (jAa (jAG jAM (pv 0) jAg (fun _ _=>rfl)) (jAa (jAG jAM (pv 1) jAg (fun _ _=>rfl)) jAe))) (jH7 (jAA D__law_tags (hr.mono (by decide)) rfl (jAa (jAG jAM (pv 0) jAg (fun _ _=>rfl)) (jAa (jAG jAM (pv 1) jAg (fun _ _=>rfl)) jAe)))))))) jAz)
  (jAf (jAp (jAA D__law_tags (hr.mono (by decide)) rfl (jAa (pv 0) (jAa (pv 1) jAe))))))),?_⟩
  cases rv with
  | non =>
    cases h1
    cases h2
    refine ⟨_,rfl,rfl,_,rfl,jA6 (jA6 ⟨_,rfl,_,rfl,rfl,?_⟩)⟩
    rw [decide_eq_true rfl]
    exact q
  | wrd s' =>
    cases h1
    cases h2
    refine ⟨_,rfl,rfl,_,rfl,jBy (by intro z;cases z) ⟨_,rfl,_,_,_,true,rfl,jBU.str _,jEf _,true,rfl,jA6 ⟨_,rfl,_,rfl,rfl,?_⟩⟩⟩
    rw [decide_eq_true rfl]
    exact q
  | tags a b =>
    obtain ⟨l1,rfl,_,t1⟩:=h1
    obtain ⟨l2,rfl,_,t2⟩:=h2
    obtain ⟨u1,h1,g1⟩:=t1.ex
    obtain ⟨u2,h2,g2⟩:=t2.ex
    refine ⟨_,rfl,rfl,_,rfl,jBy (by intro z;cases z) ⟨_,rfl,_,_,_,false,rfl,jBU.lst h2,kit_LS,false,rfl,jAT ?_⟩⟩
    refine ⟨_,rfl,_,_,_,false,rfl,jBU.lst h2,kit_LT,false,rfl,jAT ?_⟩
    exact ⟨_,rfl,_,rfl,l1,l2,nm,_,_,_,rfl,h1,h2,g1,g2,by rw [jCE];have:=z1 a b rfl;omega,q⟩
  | two a b c =>
    obtain ⟨t1,l1,l2,rfl,e1,_,_,a1,b1⟩:=h1
    obtain ⟨t2,l3,l4,rfl,e2,_,_,a2,b2⟩:=h2
    obtain ⟨u1,h1,g1⟩:=a1.ex
    obtain ⟨u2,h2,g2⟩:=a2.ex
    obtain ⟨u3,h3,g3⟩:=b1.ex
    obtain ⟨u4,h4,g4⟩:=b2.ex
    obtain ⟨z3,z4⟩:=z2 a b c rfl
    refine ⟨_,rfl,rfl,_,rfl,jBy (by intro z;cases z) ⟨_,rfl,_,_,_,false,rfl,jBU.tup e2,kit_TS,false,rfl,jAT ?_⟩⟩
    refine ⟨_,rfl,_,_,_,true,rfl,jBU.tup e2,jEf _,true,rfl,jA6 ?_⟩
    refine ⟨_,rfl,_,_,_,true,rfl,jBU.tup e1,jEf _,true,rfl,jAT ⟨_,rfl,t1,_,rfl,.inr (SqT.of e1),rfl,false,rfl,jAT ?_⟩⟩
    refine ⟨_,rfl,t1,_,_,_,rfl,rfl,SqT.of e1,jAC (j:=0) rfl,_,rfl,t2,_,_,_,rfl,rfl,SqT.of e2,jAC (j:=0) rfl,l1,l3,nm,_,_,_,rfl,h1,h2,g1,g2,by rw [jCE];omega,true,rfl,jA6 ?_⟩
    exact ⟨_,rfl,t1,_,_,_,rfl,rfl,SqT.of e1,jAC (j:=1) rfl,_,rfl,t2,_,_,_,rfl,rfl,SqT.of e2,jAC (j:=1) rfl,l2,l4,nm,_,_,_,rfl,h3,h4,g3,g4,by rw [jCE];omega,q⟩
end
end My
namespace My
open PySem L2
open Blk (sg sg_inj sg_app)
section
variable {P:Program} {w:World} {K:PySem.W.Frag} {mg:Str→Option Value} {base:Heap} {fa yQ yZ yX yY yV yJ yW yU yK yG cQ cZ cV cK cG vQ vZ vX vY:Addr} {fd:FuncData}
theorem jAr.kp {x p:Addr} {d:PD} {H H':Hp} (s:jAr H H'):Kp x p d H H':=fun b o _ _ _ _ _ e=>s _ _ e
noncomputable def jEZ (cR cJ cO cN cT cP cS cY cM cW:Addr):Sp:=fun vs H Q _=>∃ x p dm r d m k0 k1 P S a f fe,vs=[.ref x,.ref p,.ref dm]∧Rk r k0 k1∧Pw cR cJ cP cS cY cM cW H x p r d k0 k1 P S a f fe∧Ms H dm m P S a f fe∧m.nm=r.nm∧m.T=r.tot∧∀ H',jAr H H'→Q (.bl true) H'
theorem jE0:jAn ["_law_run","_law_printer","_law_m","_law_at"] ["_law_run","_law_printer","_law_m"] (jAb jCD):=⟨rfl,rfl,rfl,by decide +kernel,rfl,by decide +kernel,by decide +kernel⟩
theorem jJv (F:Fun K "_law_stands" "_law_stands" jCD fa fd) (T:Txt K mg yQ yZ yX yY yV yJ yW yU yK yG cQ cZ cV cK cG vQ vZ vX vY) (D__law_is:Dfn P w K mg base 1 "_law_is" ["_law_num","_law_due_here"] (jEL K)) (D__law_tags:Dfn P w K mg base 2 "_law_tags" ["_law_told","_law_due_here"] (jDJ K)) (D__law_next:Dfn P w K mg base 1 "_law_next" ["_law_m"] (jEN K)) (D_Printer_stands:MtE P w K mg base 2 "stands" cZ ["self"] (jBN cZ cQ yJ yW yU)) (D_Printer_within:MtE P w K mg base 1 "within" cZ ["self"] (jC1 cZ cQ yJ yW yU)) (D_Run_upcoming:MtE P w K mg base 3 "upcoming" yK ["self"] (jC2 yK yG cZ cQ yJ yW yU)) (D_Run_lack:MtE P w K mg base 2 "lack" yK ["self"] (jFw yK yG cZ cQ yJ yW yU)) (D_Run_whole:MtE P w K mg base 3 "whole" yK ["self"] (jCL yK yG cZ cQ yJ yW yU)) (D_Run_at:MtE P w K mg base 1 "at" yK ["self"] (jGR yK yG cZ cQ yJ yW yU)) (D_Run_out:MtE P w K mg base 1 "out" yK ["self"] (jF_ yK yG cZ cQ yJ yW yU)) :
    jAh P w K mg base CX0 4 fa fd ["_law_run","_law_printer","_law_m"] (jEZ yK yG vZ cK cG cZ cQ yJ yW yU):=by
  refine F.ok jE0 (fun vs H Q E h=>?_) (fun cdv A outer s H vs Q E hr h=>?_)
  · obtain ⟨x,p,dm,r,d,m,k0,k1,P,S,a,f,fe,rfl,_⟩:=h
    rfl
  obtain ⟨x,p,dm,r,d,m,k0,k1,P',S,a,f,fe,rfl,k,W,M,en,eT,q⟩:=h
  have hu:=jEh hr 0 (by decide)
  refine ⟨_,(jAd (jAJ (PW.pt (jC6 (jAu jD_ (jAv 2 jA7 (hr.mono (by decide)) (pv 1)) (jAK hu (pv 2) jAj (fun _ _=>rfl)) (jAw _)) (jCN (jCF (jAQ (jAA D__law_tags (hr.mono (by decide)) rfl (jAa (jAv 1 jA7 (hr.mono (by decide)) (pv 1)) (jAa (jAK hu (pv 2) jAj (fun _ _=>rfl)) jAe))) (fun _=>rfl)))))) (jAf (jAp jBL)) jAz)
  (jAd (jAJ (PW.pt (jC6 (jAu (jD_.or (jGN (n:=0) hu)) (jAv 3 jA7 (hr.mono (by decide)) (pv 0)) (jAA D__law_next (hr.mono (by decide)) rfl (jAa (pv 2) jAe)) (jAw _)) (jCN (jAu jHo (jAv 2 jA7 (hr.mono (by decide)) (pv 0)) jAY (jAw _))))) (jAf (jAp jBL)) jAz)
  (jAd (jAJ (PW.pt (jC6 (jCF (jAQ (jAP jDz rfl T.isinstance jE8 (jAa (jAv 3 jA7 (hr.mono (by decide)) (pv 0)) (jAa (jEk rfl T.bool jLX (jE9 _)) jAe))) (fun _=>rfl))) (jCN (jAu jD_ (jAv 3 jA7 (hr.mono (by decide)) (pv 0)) (jAK hu (pv 2) jAj (fun _ _=>rfl)) (jAw _))))) (jAf (jAp jBL)) jAz)
  (jAd (jAE (i:=3) jE0.nd rfl (by first | exact Or.inl rfl | exact Or.inr rfl) (jAs (pv 1) rfl))
  (jAd (jAJ (jAQ (jAK hu (pv 2) jAj (fun _ _=>rfl)) (fun _=>rfl)) (jAf (jAE (i:=3) jE0.nd rfl (by first | exact Or.inl rfl | exact Or.inr rfl) jAY)) jAz)
  (jAf (jAp (jG0 (jFz jA_ (jAv 1 jA7 (hr.mono (by decide)) (pv 0)) (pv 3) (jAw _)) (jH7 (jAA D__law_is (hr.mono (by decide)) rfl (jAa (jAv 1 jA7 (hr.mono (by decide)) (pv 0)) (jAa (jAP (jJw rfl) rfl T.max jMO (jAa jAg (jAa (jAF jE5 (jAK hu (pv 2) jAj (fun _ _=>rfl)) jAg) jAe))) jAe)))))))))))),?_⟩
  have T1:=k.T1
  have T9:=k.T9
  have af:=W.af
  have fT:=W.fT
  -- its word, and what is within
  refine jBf (fun σ G=>jAr H G∧σ=[some (.ref x),some (.ref p),some (.ref dm),none]) (fun R hR=>?_) ?_
  · refine ⟨_,rfl,p,_,_,_,_,_,rfl,W.w.P.o,rfl,T.cl_Printer,D_Printer_stands,p,d,rfl,W.w.P,_,rfl,dm,_,rfl,jFS M.M.d,rfl,_,rfl,jKj (by rw [W.S,M.wo]) ?_⟩
    refine ⟨_,rfl,p,_,_,_,_,_,rfl,W.w.P.o,rfl,T.cl_Printer,D_Printer_within,p,d,rfl,W.w.P,fun l H1 s1 _ hl=>?_⟩
    obtain ⟨ws,hw,tw⟩:=(M.M.w.same s1).ex
    rw [en] at tw
    exact ⟨_,rfl,dm,_,rfl,jC8 (s1 _ _ M.M.d),l,m.wi,r.nm,_,_,_,rfl,hl,hw,W.w.tg.same s1,tw,by rw [jCE];omega,true,rfl,jAT (hR _ _ ⟨s1,rfl⟩)⟩
  rintro σ G ⟨s0,rfl⟩
  replace W:=W.same s0
  replace M:Ms G dm m P' S a f fe:={ M with M:=M.M.same s0 }
  -- what comes next
  refine jBf (fun σ G'=>jAr G G'∧σ=[some (.ref x),some (.ref p),some (.ref dm),none]) (fun R hR=>?_) ?_
  · have lk:∀ G',jAr G G'→∀ X:Prop,X→X:=fun _ _ _ x=>x
    have tail:∀ G',jAr G G'→R [some (.ref x),some (.ref p),some (.ref dm),none] G':=fun G' s'=>hR _ _ ⟨s',rfl⟩
    refine ⟨_,rfl,x,_,_,_,_,_,rfl,W.w.R.o,rfl,T.cl_Run,D_Run_upcoming,x,_,rfl,W.w.R,fun hp=>?_,fun p' hp=>?_⟩
    · have ea:a=r.tot + 1:=by
        apply Classical.byContradiction
        intro z
        rw [jHC (by omega)] at hp
        cases hp
      refine ⟨_,rfl,dm,m,a,f,rfl,M.M,fun _=>?_,fun z=>absurd (by omega) z⟩
      refine .inl ⟨rfl,false,rfl,jAT ?_⟩
      exact ⟨_,rfl,x,_,_,_,_,_,rfl,W.w.R.o,rfl,T.cl_Run,D_Run_lack,x,_,rfl,W.w.R,fun _=>⟨rfl,false,rfl,jAT (tail _ (jAr.refl _))⟩,fun z=>by rw [show (R4 r p 0 (r.tot + 1) a).br=r.br from rfl,k.hb] at z;cases z⟩
    · have an:a≠r.tot + 1:=fun z=>by
        have:(R4 r p 0 (r.tot + 1) a).pr=none:=if_pos z
        rw [this] at hp
        cases hp
      obtain rfl:p=p':=by rw [jHC (by omega)] at hp;exact Option.some.inj hp
      have nb:(R4 r p 0 (r.tot + 1) a).br≠true:=fun z=>by rw [show (R4 r p 0 (r.tot + 1) a).br=r.br from rfl,k.hb] at z;cases z
      refine ⟨d,_,W.w.P,W.w.tg,fun cn t G1 s1 nt ht=>?_,fun cn G1 s1=>?_⟩
      · rw [jGV W.af] at cn ht
        have fl:f≠m.T + 1:=fun z=>by
          have c':itm 0 f < ((r.tot:Nat):Int):=cn
          unfold itm at c'
          split at c' <;> omega
        refine ⟨_,rfl,dm,m,a,f,rfl,M.M.same s1,fun z=>absurd z fl,fun _ u G2 s2 nu hu2=>?_⟩
        rw [en] at hu2
        refine .inr ⟨t,u,_,_,rfl,rfl,.inr ⟨SqT.of (s2 _ _ ht),SqT.of hu2⟩,rfl,fun j hj=>?_,false,rfl,jAT ?_⟩
        · have:j=0∨j=1:=by have:j < 2:=hj;omega
          rcases this with rfl | rfl <;> exact ⟨rfl,rfl⟩
        exact ⟨_,rfl,x,_,_,_,_,_,rfl,((W.same s1).same s2).w.R.o,rfl,T.cl_Run,D_Run_lack,x,_,rfl,((W.same s1).same s2).w.R,fun _=>⟨rfl,false,rfl,jAT (tail _ (s1.trans s2))⟩,fun z=>absurd z nb⟩
      · rw [jGV W.af] at cn
        have fl:f=m.T + 1:=by
          have c':¬ itm 0 f < ((r.tot:Nat):Int):=cn
          unfold itm at c'
          split at c' <;> omega
        refine ⟨_,rfl,dm,m,a,f,rfl,M.M.same s1,fun _=>?_,fun z=>absurd fl z⟩
        refine .inl ⟨rfl,false,rfl,jAT ?_⟩
        exact ⟨_,rfl,x,_,_,_,_,_,rfl,(W.same s1).w.R.o,rfl,T.cl_Run,D_Run_lack,x,_,rfl,(W.same s1).w.R,fun _=>⟨rfl,false,rfl,jAT (tail _ s1)⟩,fun z=>absurd z nb⟩
  rintro σ G1 ⟨s1,rfl⟩
  replace W:=W.same s1
  replace M:Ms G1 dm m P' S a f fe:={ M with M:=M.M.same s1 }
  have s01:=s0.trans s1
  have ew:decide ((R4 r p 0 (r.tot + 1) a).ps=(R4 r p 0 (r.tot + 1) a).tot)=m.ov:=by
    rw [M.M.ov]
    show decide (0 + (a - 1)=r.tot)=_
    by_cases c:a=m.T + 1
    · rw [decide_eq_true c,decide_eq_true (by omega)]
    · rw [decide_eq_false c,decide_eq_false (by omega)]
  -- whole
  refine jBf (fun σ G=>G=G1∧σ=[some (.ref x),some (.ref p),some (.ref dm),none]) (fun R hR=>?_) ?_
  · refine ⟨_,rfl,x,_,_,_,_,_,rfl,W.w.R.o,rfl,T.cl_Run,D_Run_whole,x,_,rfl,W.w.R,_,_,_,true,rfl,jBU.bl _,jEf _,true,rfl,jAT ?_⟩
    refine ⟨_,rfl,x,_,_,_,_,_,rfl,W.w.R.o,rfl,T.cl_Run,D_Run_whole,x,_,rfl,W.w.R,_,rfl,dm,_,rfl,jIY M.M.d,rfl,_,rfl,jKj (by rw [ew]) (hR _ _ ⟨rfl,rfl⟩)⟩
  rintro σ G2 ⟨rfl,rfl⟩
  -- where it is
  refine jBf (fun σ G=>G=G2∧σ=[some (.ref x),some (.ref p),some (.ref dm),some (.str "p")]) (fun R hR=>⟨_,rfl,p,cZ,d.dx,_,_,rfl,W.w.P.o,T.cl_Printer,T.n_Printer_name,rfl,hR _ _ ⟨rfl,by rw [W.nm];rfl⟩⟩) ?_
  rintro σ G3 ⟨rfl,rfl⟩
  refine jBf (fun σ G=>G=G3∧σ=[some (.ref x),some (.ref p),some (.ref dm),some (if a=m.T + 1 then .non else .str "p")]) (fun R hR=>⟨_,rfl,dm,_,rfl,jIY M.M.d,_,rfl,jCi (fun c=>?_) (fun c=>?_)⟩) ?_
  · rw [M.M.ov] at c
    exact hR _ _ ⟨rfl,by rw [if_pos (of_decide_eq_true c)];rfl⟩
  · rw [M.M.ov] at c
    exact hR _ _ ⟨rfl,by rw [if_neg fun z=>c (decide_eq_true z)]⟩
  rintro σ G4 ⟨rfl,rfl⟩
  have ca:=M.M.ca
  have ci:(if (0:Int) < m.ca - 1 then m.ca - 1 else 0)=(((R4 r p 0 (r.tot + 1) a).ps:Nat):Int):=by
    show _=((0 + (a - 1):Nat):Int)
    rw [ca]
    split <;> omega
  by_cases c:a=m.T + 1
  · rw [if_pos c]
    refine ⟨_,rfl,x,_,_,_,_,_,rfl,W.w.R.o,rfl,T.cl_Run,D_Run_at,x,_,rfl,W.w.R,fun hp=>?_,fun p' hp=>?_⟩
    · refine ⟨_,rfl,rfl,true,rfl,jA6 ?_⟩
      exact ⟨_,rfl,x,_,_,_,_,_,rfl,W.w.R.o,rfl,T.cl_Run,D_Run_out,x,_,rfl,W.w.R,_,rfl,dm,_,rfl,jHg M.M.d,_,_,rfl,rfl,_,_,rfl,_,congrArg (fun z=>[V.int (((R4 r p 0 (r.tot + 1) a).ps:Nat):Int),V.int z]) ci,q _ s01⟩
    · have:(R4 r p 0 (r.tot + 1) a).pr=none:=if_pos (by omega)
      rw [this] at hp
      cases hp
  · rw [if_neg c]
    refine ⟨_,rfl,x,_,_,_,_,_,rfl,W.w.R.o,rfl,T.cl_Run,D_Run_at,x,_,rfl,W.w.R,fun hp=>?_,fun p' hp=>?_⟩
    · rw [jHC (by omega)] at hp
      cases hp
    · obtain rfl:p=p':=by rw [jHC (by omega)] at hp;exact Option.some.inj hp
      refine ⟨d,W.w.P,_,rfl,rfl,true,by rw [W.nm,decide_eq_true rfl],jA6 ?_⟩
      exact ⟨_,rfl,x,_,_,_,_,_,rfl,W.w.R.o,rfl,T.cl_Run,D_Run_out,x,_,rfl,W.w.R,_,rfl,dm,_,rfl,jHg M.M.d,_,_,rfl,rfl,_,_,rfl,_,congrArg (fun z=>[V.int (((R4 r p 0 (r.tot + 1) a).ps:Nat):Int),V.int z]) ci,q _ s01⟩
end
end My
namespace My
open PySem L2
open Blk (sg sg_inj sg_app)
section
variable {P:Program} {w:World} {K:PySem.W.Frag} {mg:Str→Option Value} {base:Heap} {fa yQ yZ yX yY yV yJ yW yU yK yG cQ cZ cV cK cG vQ vZ vX vY:Addr} {fd:FuncData}
structure DL (H:Hp) (l:Addr) (us:List V):Prop where
  l:H l=some (.lst us)
  u:∀ (i:Nat) y,us[i]?=some y→∃ t D,y=.ref t∧H t=some (.tup (ddV D))
  n:us.length≤5
theorem jNf {H:Hp} {l t:Addr} {D:Dd} (ht:H t=some (.tup (ddV D))) (hl:H l=some (.lst [V.ref t])):DL H l [V.ref t]:=by
  refine ⟨hl,fun i y e=>?_,by show 1≤5;decide⟩
  obtain rfl:V.ref t=y:=List.mem_singleton.mp (List.mem_of_getElem? e) |>.symm
  exact ⟨t,D,rfl,ht⟩
noncomputable def jEj (K:PySem.W.Frag):Sp:=fun vs H Q _=>∃ (c:Int) (k:Nat) (dm:Addr) (m:MD) (P:Nat) (S:S3) (a f fe:Nat),vs=[.int c,.int (0 + (k:Int)),.ref dm]∧k≤100∧Ms H dm m P S a f fe∧∀ l us H',jAr H H'→H l=none→DL H' l us→Q (.ref l) H'
theorem jC9:jAn ["_law_cell","_law_k","_law_m","_law_way","_law_saved"] ["_law_cell","_law_k","_law_m"] (jAb jBS):=⟨rfl,rfl,rfl,by decide +kernel,rfl,by decide +kernel,by decide +kernel⟩
theorem jH6 (F:Fun K "_law_deeds_by" "_law_deeds_by" jBS fa fd) (T:Txt K mg yQ yZ yX yY yV yJ yW yU yK yG cQ cZ cV cK cG vQ vZ vX vY) (D__law_mix:Dfn P w K mg base 1 "_law_mix" ["_law_cell","_law_k","_law_many"] (jE3 K)) :
    jAh P w K mg base CX0 2 fa fd ["_law_cell","_law_k","_law_m"] (jEj K):=by
  refine F.ok jC9 (fun vs H Q E h=>?_) (fun cdv A outer s H vs Q E hr h=>?_)
  · obtain ⟨c,k,dm,m,P,S,a,f,fe,rfl,_⟩:=h
    rfl
  obtain ⟨c,k,dm,m,P',S,a,f,fe,rfl,k1,M,q⟩:=h
  have hu:=jEh hr 0 (by decide)
  refine ⟨_,(jAd (jAE (i:=3) jC9.nd rfl (by first | exact Or.inl rfl | exact Or.inr rfl) (jAA D__law_mix (hr.mono (by decide)) rfl (jAa (pv 0) (jAa (pv 1) (jAa jAg jAe)))))
  (jAd (jAJ (PW.pt (jDv (jAu jA_ (jAK hu (pv 2) jAj (fun _ _=>rfl)) jAj (jAw _)) (jCM (jAu jHn (jAF jCG (pv 3) jAg) jAg (jAw _))))) (jAf (jAp (jAZ (jAa (jAV (jAa jAj jAe)) jAe)))) jAz)
  (jAd (jAJ (PW.pt (jDv (jAu jA_ (jAK hu (pv 2) jAj (fun _ _=>rfl)) jAj (jAw _)) (jCM (jAu jHn (jAF jCG (pv 3) jAg) jAg (jAw _))))) (jAf (jAp (jAZ (jAa (jAV (jAa jAj jAe)) jAe)))) jAz)
  (jAd (jAJ (jAu jHm (pv 3) jAg (jAw _)) (jAf (jAp (jEo (frees:=[]) ⟨by decide +kernel,rfl,rfl,by decide +kernel,trivial,by decide +kernel,jBs rfl,rfl⟩ rfl (jEl rfl T.range (jAa (jAF jA0 jAg (jAA D__law_mix (hr.mono (by decide)) rfl (jAa (pv 0) (jAa (jAF jA0 (pv 1) jAg) (jAa jAg jAe))))) jAe)) (fun _ _ _ _=>jEg) (fun _ _ _ _=>by exact (jAV (jAa jAj jAe)))))) jAz)
  (jAd (jAJ (jAu jHm (pv 3) jAg (jAw _)) (jAd (jAE (i:=4) jC9.nd rfl (by first | exact Or.inl rfl | exact Or.inr rfl) (jAA D__law_mix (hr.mono (by decide)) rfl (jAa (pv 0) (jAa (jAF jA0 (pv 1) jAg) (jAa (jAF jA0 (jAP jAS rfl T.len PySem.boot_len (jAa (jAK hu (pv 2) jAj (fun _ _=>rfl)) jAe)) jAg) jAe)))))
  (jAd (jAJ (jAu jA_ (jAA D__law_mix (hr.mono (by decide)) rfl (jAa (pv 0) (jAa (jAF jA0 (pv 1) jAg) (jAa jAg jAe)))) jAg (jAw _)) (jAf (jAE (i:=4) jC9.nd rfl (by first | exact Or.inl rfl | exact Or.inr rfl) (jAF jA0 (pv 4) (jAF op_pow jAg jAg)))) jAz)
  (jAf (jAp (jAZ (jAa (jAV (jAa jAj (jAa (pv 4) jAe))) jAe)))))) jAz)
  (jAf (jAp (jAG jBV (jAZ (jAa (jAZ (jAa (jAV (jAa jAj jAe)) jAe)) (jAa (jAZ (jAa (jAV (jAa jAj jAe)) jAe)) (jAa (jAZ (jAa (jAV (jAa jAj jAe)) jAe)) jAe)))) (jAF jE5 (pv 3) jAg) (fun _ _=>rfl))))))))),?_⟩
  -- a list of one deed
  have one:∀ (D:Dd) (G:Hp),jAr H G→∀ t,G t=none→∀ l,upd G t (.tup (ddV D)) l=none→Q (.ref l) (upd (upd G t (.tup (ddV D))) l (.lst [V.ref t])):=fun D G sG t nt l nl=>by
    have s1:=jAl nt (.tup (ddV D))
    have s2:=jAl nl (.lst [V.ref t])
    exact q l _ _ ((sG.trans s1).trans s2) (sG.free (s1.free nl)) (jNf (s2 _ _ jAc) jAc)
  refine jBf (fun σ G=>jAr H G∧∃ w':Int,0≤w'∧w' < 16∧σ=[some (.int c),some (.int (0 + (k:Int))),some (.ref dm),some (.int w'),none]) (fun R hR=>⟨_,rfl,_,rfl,c,_,16,rfl,by omega,by omega,by decide,fun G s1=>hR _ _ ⟨s1,_,jGB (by decide),jHd (by decide),rfl⟩⟩) ?_
  rintro σ G ⟨s0,w',w0,w16,rfl⟩
  replace M:Ms G dm m P' S a f fe:={ M with M:=M.M.same s0 }
  have z1:1≤sizeLine:=small (by decide)
  refine jBf (fun σ G'=>G'=G∧σ=[some (.int c),some (.int (0 + (k:Int))),some (.ref dm),some (.int w'),none]) (fun R hR=>⟨_,rfl,dm,_,rfl,jFS M.M.d,rfl,_,rfl,jCi (fun _=>?_) (fun _=>jAT (hR _ _ ⟨rfl,rfl⟩))⟩) ?_
  · refine ⟨_,rfl,_,_,rfl,rfl,(by show (0:Int) < 4;decide),_,_,rfl,rfl,_,rfl,jCi (fun _=>?_) (fun _=>hR _ _ ⟨rfl,rfl⟩)⟩
    exact ⟨z1,fun t nt=>⟨z1,fun l nl=>one .mend G s0 t nt l nl⟩⟩
  rintro σ G1 ⟨rfl,rfl⟩
  refine jBf (fun σ G'=>G'=G1∧σ=[some (.int c),some (.int (0 + (k:Int))),some (.ref dm),some (.int w'),none]) (fun R hR=>⟨_,rfl,dm,_,rfl,jFS M.M.d,rfl,_,rfl,jCi (fun _=>?_) (fun _=>jAT (hR _ _ ⟨rfl,rfl⟩))⟩) ?_
  · refine ⟨_,rfl,_,_,rfl,rfl,(by show (0:Int) < 4;decide),_,_,rfl,rfl,_,rfl,jCi (fun _=>?_) (fun _=>hR _ _ ⟨rfl,rfl⟩)⟩
    exact ⟨z1,fun t nt=>⟨z1,fun l nl=>one .come G1 s0 t nt l nl⟩⟩
  rintro σ G2 ⟨rfl,rfl⟩
  refine jBf (fun σ G'=>G'=G2∧10≤w'∧σ=[some (.int c),some (.int (0 + (k:Int))),some (.ref dm),some (.int w'),none]) (fun R hR=>⟨_,rfl,_,_,rfl,rfl,_,rfl,jCi (fun _=>?_) (fun c=>hR _ _ ⟨rfl,by have c':¬ w' < 10:=fun z=>c (decide_eq_true z);omega,rfl⟩)⟩) ?_
  · obtain ⟨j,ej,j5⟩:∃ j:Nat,jDI c (0 + (k:Int) + 64) 5=(j:Int)∧j < 5:=by
      have:=jGB (c:=c) (k:=0 + (k:Int) + 64) (show (0:Int) < 5 by decide)
      have:=jHd (c:=c) (k:=0 + (k:Int) + 64) (show (0:Int) < 5 by decide)
      exact ⟨(jDI c (0 + (k:Int) + 64) 5).toNat,by omega,by omega⟩
    refine ⟨_,rfl,_,rfl,_,_,rfl,rfl,c,_,5,rfl,by omega,by omega,by decide,fun G3 s3=>⟨_,_,rfl,rfl,?_⟩⟩
    refine ⟨_,rfl,by show -2 ^ 62≤1 + jDI c (0 + (k:Int) + 64) 5;rw [ej];omega,by show 1 + jDI c (0 + (k:Int) + 64) 5 < 2 ^ 62;rw [ej];omega,?_⟩
    have jl:(1 + jDI c (0 + (k:Int) + 64) 5).toNat=j + 1:=by rw [ej];omega
    refine jFH (jFW 0 (1 + jDI c (0 + (k:Int) + 64) 5).toNat G3) (fun _ y H3=>∃ t,y=.ref t∧H3 t=some (.tup (ddV .step))) (by rw [List.length_map,List.length_range,jl];exact jBb (by omega)) (fun x hx' H' R _ r=>r) (fun x hx' H' R sm rr=>⟨z1,fun t nt=>rr _ _ (jAl nt _) ⟨fun b=>b=t,fun b e=>by rw [e];exact ⟨nt,_,jAc⟩,fun H3 g=>⟨t,rfl,by rw [g t rfl];exact jAc⟩⟩⟩) (fun l H5 us s5 nl hl l5 hg=>?_)
    rw [List.length_map,List.length_range,jl] at l5
    have s35:=s3.trans s5
    refine q l us H5 (s0.trans s35) (s0.free (s3.free nl)) ⟨hl,fun i y e=>?_,by omega⟩
    obtain ⟨x,ex⟩:∃ x,((List.range (1 + jDI c (0 + (k:Int) + 64) 5).toNat).map fun i=>V.int (0 + (i:Nat)))[i]?=some x:=⟨_,List.getElem?_eq_getElem (by rw [List.length_map,List.length_range,jl,← l5];exact (List.getElem?_eq_some_iff.mp e).1)⟩
    obtain ⟨t,e1,e2⟩:=hg i x y ex e
    exact ⟨t,.step,e1,e2⟩
  rintro σ G3 ⟨rfl,w10,rfl⟩
  obtain ⟨ws,hw,tw⟩:=M.M.w.ex
  refine jBf (fun σ G'=>G'=G3∧13≤w'∧σ=[some (.int c),some (.int (0 + (k:Int))),some (.ref dm),some (.int w'),none]) (fun R hR=>⟨_,rfl,_,_,rfl,rfl,_,rfl,jCi (fun _=>?_) (fun c=>hR _ _ ⟨rfl,by have c':¬ w' < 13:=fun z=>c (decide_eq_true z);omega,rfl⟩)⟩) ?_
  · have lw:(ws.length:Int) + 2 > 0:=by omega
    refine jBf (fun σ G'=>jAr H G'∧∃ v:Nat,σ=[some (.int c),some (.int (0 + (k:Int))),some (.ref dm),some (.int w'),some (.int (v:Int))]) (fun R' hR'=>⟨_,rfl,_,rfl,_,_,rfl,rfl,_,rfl,dm,_,rfl,jC8 M.M.d,m.wi,_,rfl,.inl (SqL.of hw),_,_,rfl,rfl,c,_,_,rfl,by omega,by omega,lw,fun G4 s4=>hR' _ _ ⟨s0.trans s4,_,congrArg (fun z:Int=>[some (V.int c),some (V.int (0 + (k:Int))),some (V.ref dm),some (V.int w'),some (V.int z)]) (Int.toNat_of_nonneg (jGB lw)).symm⟩⟩) ?_
    rintro σ G4 ⟨s4,v,rfl⟩
    refine jBf (fun σ G'=>jAr H G'∧∃ v:Nat,σ=[some (.int c),some (.int (0 + (k:Int))),some (.ref dm),some (.int w'),some (.int (v:Int))]) (fun R' hR'=>⟨_,rfl,_,rfl,_,_,rfl,rfl,c,_,9,rfl,by omega,by omega,by decide,fun G5 s5=>⟨rfl,_,rfl,jCi (fun _=>?_) (fun _=>hR' _ _ ⟨s4.trans s5,v,rfl⟩)⟩⟩) ?_
    · exact ⟨_,rfl,_,_,rfl,rfl,⟨by decide,by decide,by decide⟩,_,_,rfl,rfl,hR' _ _ ⟨s4.trans s5,v + 10 ^ 59,rfl⟩⟩
    rintro σ G6 ⟨s6,v,rfl⟩
    exact ⟨_,rfl,small (show 2≤1000 by decide),fun t nt=>⟨z1,fun l nl=>one (.jam v) G6 s6 t nt l nl⟩⟩
  rintro σ G4 ⟨rfl,w13,rfl⟩
  have jIm:∀ (D:Dd) (G:Hp),jAr H G→∀ t,G t=none→∀ l,upd G t (.tup (ddV D)) l=none→jAr H (upd (upd G t (.tup (ddV D))) l (.lst [V.ref t]))∧H l=none∧DL (upd (upd G t (.tup (ddV D))) l (.lst [V.ref t])) l [V.ref t]:=fun D G sG t nt l nl=>by
    have s1:=jAl nt (.tup (ddV D))
    have s2:=jAl nl (.lst [V.ref t])
    exact ⟨(sG.trans s1).trans s2,sG.free (s1.free nl),jNf (s2 _ _ jAc) jAc⟩
  have ds:∀ {G G':Hp} {l:Addr} {us:List V},DL G l us→jAr G G'→DL G' l us:=fun d s'=>⟨s' _ _ d.l,fun i y e=>let ⟨t,D,e1,e2⟩:=d.u i y e;⟨t,D,e1,s' _ _ e2⟩,d.n⟩
  refine ⟨z1,fun t1 n1=>⟨z1,fun l1 m1=>?_⟩⟩
  obtain ⟨s1,f1,d1⟩:=jIm .leave G4 s0 t1 n1 l1 m1
  have u1:=s1
  generalize hG5:upd (upd G4 t1 (.tup (ddV .leave))) l1 (.lst [V.ref t1])=G5 at s1 d1
  rw [show upd (upd G4 t1 (.tup [V.str (Str.ofString "leave")])) l1 (.lst [V.ref t1])=G5 from hG5]
  refine ⟨z1,fun t2 n2=>⟨z1,fun l2 m2=>?_⟩⟩
  obtain ⟨s2,f2,d2⟩:=jIm .come G5 s1 t2 n2 l2 m2
  have v2:jAr G5 (upd (upd G5 t2 (.tup (ddV .come))) l2 (.lst [V.ref t2])):=(jAl n2 _).trans (jAl m2 _)
  generalize hG6:upd (upd G5 t2 (.tup (ddV .come))) l2 (.lst [V.ref t2])=G6 at s2 d2 v2
  rw [show upd (upd G5 t2 (.tup [V.str (Str.ofString "come")])) l2 (.lst [V.ref t2])=G6 from hG6]
  refine ⟨z1,fun t3 n3=>⟨z1,fun l3 m3=>?_⟩⟩
  obtain ⟨s3,f3,d3⟩:=jIm .mend G6 s2 t3 n3 l3 m3
  have v3:jAr G6 (upd (upd G6 t3 (.tup (ddV .mend))) l3 (.lst [V.ref t3])):=(jAl n3 _).trans (jAl m3 _)
  generalize hG7:upd (upd G6 t3 (.tup (ddV .mend))) l3 (.lst [V.ref t3])=G7 at s3 d3 v3
  rw [show upd (upd G6 t3 (.tup [V.str (Str.ofString "mend")])) l3 (.lst [V.ref t3])=G7 from hG7]
  refine ⟨small (show 3≤1000 by decide),fun l n=>?_⟩
  have s4:=jAl n (.lst [V.ref l1,.ref l2,.ref l3])
  refine ⟨_,rfl,_,_,rfl,rfl,l,_,_,rfl,rfl,SqL.of jAc,by omega,by show w' - 13 < 3;omega,fun v hv=>?_⟩
  have hm:=List.mem_of_getElem? hv
  simp only [List.mem_cons,List.not_mem_nil,or_false] at hm
  have s04:=s3.trans s4
  rcases hm with rfl | rfl | rfl
  · exact q l1 _ _ s04 f1 (ds (ds (ds d1 v2) v3) s4)
  · exact q l2 _ _ s04 f2 (ds (ds d2 v3) s4)
  · exact q l3 _ _ s04 f3 (ds d3 s4)
end
end My
namespace My
open PySem L2
open Blk (sg sg_inj sg_app)
section
variable {P:Program} {w:World} {K:PySem.W.Frag} {mg:Str→Option Value} {base:Heap} {fa yQ yZ yX yY yV yJ yW yU yK yG cQ cZ cV cK cG vQ vZ vX vY:Addr} {fd:FuncData}
section
variable {cR cJ cP cS cY cM cW:Addr} {H H':Hp} {x p dm:Addr} {r:RD} {d:PD} {kv:List (Key×V)}
structure Da (dm:Addr) (d:PD):Prop where
  t1:dm≠d.tr1
  t2:dm≠d.tr2
  k1:dm≠d.ik1
  k2:dm≠d.ik2
theorem jAO.kd (P:jAO cP cS cY cM cW H p d) (k:Kd dm H H') (hd:H dm=some (.dK kv)) (n:Da dm d):jAO cP cS cY cM cW H' p d:=by
  obtain ⟨⟨dt,t1⟩,t2,t3,t4⟩:=P.T
  obtain ⟨⟨di,i1⟩,i2,i3,i4⟩:=P.I
  obtain ⟨ds,hs⟩:=P.s
  exact { P with o:=k _ _ (jDL P.o hd) P.o,T:=⟨⟨dt,k _ _ (jDL t1 hd) t1⟩,k _ _ n.t1.symm t2,k _ _ n.t2.symm t3,t4⟩,I:=⟨⟨di,k _ _ (jDL i1 hd) i1⟩,k _ _ n.k1.symm i2,k _ _ n.k2.symm i3,i4⟩,s:=⟨ds,k _ _ (jDL hs hd) hs⟩,n:=k.lst hd P.n }
theorem jA4.kd (R:jA4 cR cJ H x r) (k:Kd dm H H') (hd:H dm=some (.dK kv)):jA4 cR cJ H' x r:=by
  obtain ⟨ys,hy,_⟩:=id R.i
  exact R.fr (fun b C dx fs e=>k _ _ (jDL e hd) e) (fun o e=>k _ _ (jAD hy hd (by intro z;cases z)) e) (k.tup hd)
theorem Pw.kd {k0 k1:Str} {P:Nat} {S:S3} {a f fe:Nat} (h:Pw cR cJ cP cS cY cM cW H x p r d k0 k1 P S a f fe) (k:Kd dm H H') (hd:H dm=some (.dK kv)) (n:Da dm d):Pw cR cJ cP cS cY cM cW H' x p r d k0 k1 P S a f fe:={ h with w:={ h.w with R:=h.w.R.kd k hd,P:=h.w.P.kd k hd n,tg:=h.w.tg.fr (k.tup hd) } }
end
structure Lw (cR cJ cP cS cY cM cW:Addr) (H:Hp) (x p dm sm kl:Addr) (r:RD) (d:PD) (m:MD) (k0 k1:Str) (P:Nat) (S:S3) (a f fe:Nat) (cs:List V):Prop where
  W:Pw cR cJ cP cS cY cM cW H x p r d k0 k1 P S a f fe
  M:Ms H dm m P S a f fe
  en:m.nm=r.nm
  eT:m.T=r.tot
  da:Da dm d
  wi:m.wi≠d.ins
  ou:m.ou≠d.ins
  hs:H sm=some (.lst cs)
  hk:H kl=some (.lst [.str k0,.str k1])
  ns:sm≠d.ins
  nk:kl≠d.ins
section
variable {cR cJ cP cS cY cM cW:Addr} {H H':Hp} {x p dm sm kl:Addr} {r:RD} {d d':PD} {m m':MD} {k0 k1:Str} {P:Nat} {S S':S3} {a f fe a' f' fe':Nat} {cs:List V}
theorem Lw.same (h:Lw cR cJ cP cS cY cM cW H x p dm sm kl r d m k0 k1 P S a f fe cs) (s:jAr H H'):Lw cR cJ cP cS cY cM cW H' x p dm sm kl r d m k0 k1 P S a f fe cs:={ h with W:=h.W.same s,M:={ h.M with M:=h.M.M.same s },hs:=s _ _ h.hs,hk:=s _ _ h.hk }
theorem Lw.lst (h:Pw cR cJ cP cS cY cM cW H x p r d k0 k1 P S a f fe) (k:Kp x p d H H') {l:Addr} {ts:List V} (n:l≠d.ins) (e:H l=some (.lst ts)):H' l=some (.lst ts):=k _ _ (jHB h.w.R.o e).symm (jHB h.w.P.o e).symm n (jAD e h.w.P.T.2.2.1 (by intro z;cases z)) (jAD e h.w.P.I.2.2.1 (by intro z;cases z)) e
theorem Lw.tup (h:Pw cR cJ cP cS cY cM cW H x p r d k0 k1 P S a f fe) (k:Kp x p d H H'):∀ b xs,H b=some (.tup xs)→H' b=some (.tup xs):=fun b xs e=>k _ _ (jAD e h.w.R.o (by intro z;cases z)) (jAD e h.w.P.o (by intro z;cases z)) (jAD e h.w.P.n (by intro z;cases z)) (jAD e h.w.P.T.2.2.1 (by intro z;cases z)) (jAD e h.w.P.I.2.2.1 (by intro z;cases z)) e
theorem ne_gp {l:Addr} {o:HO} (g:Gp d d' H) (e:H l=some o) (n:l≠d.ins):l≠d'.ins:=by
  rcases g.i with h | h
  · rw [h];exact n
  · exact jAo e h
theorem Md.kp (h:Pw cR cJ cP cS cY cM cW H x p r d k0 k1 P S a f fe) (k:Kp x p d H H') {m:MD} {a f:Nat} (M:Md H dm m a f) (da:Da dm d) (n1:m.wi≠d.ins) (n2:m.ou≠d.ins):Md H' dm m a f:=by
  obtain ⟨us,h1,g1⟩:=M.w.ex
  obtain ⟨vs,h2,g2⟩:=M.o.ex
  have kt:=Lw.tup h k
  exact { M with d:=k _ _ (jDL h.w.R.o M.d).symm (jDL h.w.P.o M.d).symm (jAD M.d h.w.P.n (by intro z;cases z)) da.t2 da.k2 M.d,w:=⟨us,Lw.lst h k n1 h1,g1.fr kt⟩,o:=⟨vs,Lw.lst h k n2 h2,g2.fr kt⟩ }
theorem go_ne {G:Hp} {l l':Addr} {ts:List V} (e:G d.ins=some (.lst ts)) (n:l≠d.ins) (g:l'=l∨G l'=none):l'≠d.ins:=by
  rcases g with rfl | g
  · exact n
  · exact (jAo e g).symm
theorem Da.gp (h:Da dm d) (g:Gp d d' H):Da dm d':=⟨by rw [g.t1];exact h.t1,by rw [g.t];exact h.t2,by rw [g.k1];exact h.k1,by rw [g.k];exact h.k2⟩
theorem IsR.kp {nm:Str} {N:Addr→Prop} {v:V} {rv:RV} (h:Pw cR cJ cP cS cY cM cW H x p r d k0 k1 P S a f fe) (k:Kp x p d H H') (n:∀ l,N l→l≠d.ins) (i:IsR H nm N v rv):IsR H' nm N v rv:=by
  have kt:=Lw.tup h k
  have tl:∀ {l:Addr} {ns:List Int},N l→TL H nm l ns→TL H' nm l ns:=fun hn t=>let ⟨us,h1,h2⟩:=t.ex;⟨us,Lw.lst h k (n _ hn) h1,h2.fr kt⟩
  cases rv with
  | non=>exact i
  | wrd=>exact i
  | tags a b=>obtain ⟨l,e,hn,t⟩:=i;exact ⟨l,e,hn,tl hn t⟩
  | two a b c=>obtain ⟨t,l1,l2,e,h1,n1,n2,h2,h3⟩:=i;exact ⟨t,l1,l2,e,kt _ _ h1,n1,n2,tl n1 h2,tl n2 h3⟩
theorem jNL {nm:Str} {T P:Nat} {S:S3} {a f fe:Nat} {D:Dd} (af:a≤f) (fT:f≤T + 1) (T9:T≤90):(∀ b c,(nx nm T P S a f fe D).rv=.tags b c→c≤100)∧(∀ b c e,(nx nm T P S a f fe D).rv=.two b c e→c≤100∧e≤100)∧(nx nm T P S a f fe D).fe≤fe + 1:=by
  have hA:stA T P a f≤100:=by unfold stA;split <;> (try split) <;> omega
  have hE:stE T f fe≤fe + 1:=by unfold stE;split <;> omega
  have now:(∀ b c,(jHj S a f fe).rv=.tags b c→c≤100)∧(∀ b c e,(jHj S a f fe).rv=.two b c e→c≤100∧e≤100)∧(jHj S a f fe).fe≤fe + 1:=⟨(fun b c z=>by cases z),(fun b c e z=>by cases z),by show fe≤fe + 1;omega⟩
  have trn:∀ i,(∀ b c,(jEd i S a f fe).rv=.tags b c→c≤100)∧(∀ b c e,(jEd i S a f fe).rv=.two b c e→c≤100∧e≤100)∧(jEd i S a f fe).fe≤fe + 1:=fun i=>by
    unfold jEd
    split
    · exact now
    · exact ⟨(fun b c z=>by cases z),(fun b c e z=>by cases z),by show fe≤fe + 1;omega⟩
  cases D with
  | come=>exact trn 3
  | mend=>exact trn 1
  | leave =>
    unfold nx
    dsimp only
    split
    · exact now
    · exact ⟨(fun b c z=>by injection z with _ z;omega),(fun b c e z=>by cases z),by show fe≤fe + 1;omega⟩
  | step =>
    unfold nx
    dsimp only
    split
    · exact ⟨(fun b c z=>by cases z),(fun b c e z=>by cases z),by show fe≤fe + 1;omega⟩
    · cases S with
      | rd=>exact ⟨(fun b c z=>by injection z with _ z;omega),(fun b c e z=>by cases z),hE⟩
      | jm=>exact now
      | aw b=>exact now
  | jam k =>
    unfold nx
    dsimp only
    split
    · exact ⟨(fun b c z=>by cases z),(fun b c e z=>by cases z),by show fe≤fe + 1;omega⟩
    · cases S with
      | rd =>
        dsimp only
        split
        · exact ⟨(fun b c z=>by cases z),(fun b c e z=>by cases z),by show fe≤fe + 1;omega⟩
        · exact ⟨(fun b c z=>by cases z),(fun b c e z=>by injection z with _ z1 z2;constructor <;> omega),by show fe≤fe + 1;omega⟩
      | jm=>exact now
      | aw b=>exact now
theorem nx_flat {nm:Str} {T P:Nat} {S:S3} {a f fe:Nat} {D:Dd}:jBt (nx nm T P S a f fe D).wo=true:=by
  have trn:∀ i,jBt (jEd i S a f fe).wo=true:=fun i=>by
    unfold jEd
    split <;> rfl
  cases D with
  | come=>exact trn 3
  | mend=>exact trn 1
  | leave=>unfold nx;dsimp only;split <;> rfl
  | step=>unfold nx;dsimp only;split <;> first | rfl | (cases S <;> rfl)
  | jam k=>unfold nx;dsimp only;split <;> first | rfl | (cases S <;> first | rfl | (dsimp only;split <;> rfl))
end
end
end My
namespace My
open PySem L2
open Blk (sg sg_inj sg_app)
section
variable {P:Program} {w:World} {K:PySem.W.Frag} {mg:Str→Option Value} {base:Heap} {fa yQ yZ yX yY yV yJ yW yU yK yG cQ cZ cV cK cG vQ vZ vX vY:Addr} {fd:FuncData}
noncomputable def sg (l:List V):St:=l.map some ++ List.replicate (16 - l.length) none
noncomputable def sgl (l:List V) (r:St):St:=l.map some ++ r
structure Pn (cP cS cY cM cW:Addr) (H0 H:Hp) (p:Addr) (d:PD) (P0:Nat) (k0 k1:Str):Prop where
  P:jAO cP cS cY cM cW H p d
  nm:d.name="p"
  pa:d.path=(P0:Int)
  rs:d.rs=[(k0,999),(k1,999)]
  rb:d.rb=9999
  rc:d.rc=9999
  tg:d.tags=[]
  S:d.S=.rd
  np:H0 p=none
  ni:H0 d.ins=none
  n1:H0 d.tr1=none
  n2:H0 d.tr2=none
  n3:H0 d.ik1=none
  n4:H0 d.ik2=none
theorem ink_32 {j:Jv} (ok:j.Ok):∀ s∈jEK j,s.1≤32∧s.2≤32:=fun s hs=>by
  unfold jEK at hs
  obtain ⟨t,ht,rfl⟩:=List.mem_map.mp hs
  obtain ⟨i,hi⟩:=List.mem_iff_getElem?.mp ht
  obtain ⟨l1,l2⟩:t.1.length≤16∧t.2.length≤16:=by
    have c:=Ly.cells_pos ok.2.2
    unfold jEw at hi
    rw [List.getElem?_map] at hi
    obtain ⟨k,_,rfl⟩:=Option.map_eq_some_iff.mp hi
    unfold jFc jGv
    refine ⟨by rw [List.length_map,List.length_range];omega,?_⟩
    dsimp only
    split
    · rw [List.length_map,List.length_range];omega
    · rw [List.length_replicate];omega
  have h1:(jDH t).length≤32:=by
    unfold jDH
    have:=List.length_filter_le (fun x=>decide (x≠0)) (t.1 ++ t.2)
    rw [List.length_append] at this
    omega
  have h2:=List.length_filter_le (jHy j.colour) (jDH t)
  unfold inkS
  dsimp only
  constructor <;> omega
noncomputable def sp_law (K:PySem.W.Frag):Sp:=fun vs H Q _=>∃ a:Addr,vs=[.ref a]∧Scr K H a∧∀ H',Q (.bl true) H'
theorem jBP:jAn ["_law_script","_law_pages","_law_layout","_law_copies","_law_kinds","_law_cover","_law_name","_law_path","_law_printer","_law_run","_law_m","_law_some","_law_k","_law_deed","_law_due_here","_law_told"] ["_law_script"] (jAb jFq):=⟨rfl,rfl,rfl,by decide +kernel,rfl,by decide +kernel,by decide +kernel⟩
theorem ok_law (F:Fun K "law" "law" jFq fa fd) (T:Txt K mg yQ yZ yX yY yV yJ yW yU yK yG cQ cZ cV cK cG vQ vZ vX vY) (D__law_word:Dfn P w K mg base 1 "_law_word" ["_law_cell","_law_turn"] (jFO K)) (M_Printer:MkD P w K mg base 4 "Printer" cZ ["self","name","can","path","papers","black","colour"] (jFv cZ cQ yJ yW yU)) (M_Run:MkD P w K mg base 6 "Run" yK ["self","job"] (jFy yK yG)) (D__law_is:Dfn P w K mg base 1 "_law_is" ["_law_num","_law_due_here"] (jEL K)) (D__law_mix:Dfn P w K mg base 1 "_law_mix" ["_law_cell","_law_k","_law_many"] (jE3 K)) (D__law_cell_at:Dfn P w K mg base 1 "_law_cell_at" ["_law_script","_law_k"] (jEF K)) (M_Job:MkD P w K mg base 1 "Job" yG ["self","name","asker","pages","copies","layout","paper","cover","colour","staple","after"] (jE2 yG)) (D__law_deeds_by:Dfn P w K mg base 2 "_law_deeds_by" ["_law_cell","_law_k","_law_m"] (jEj K)) (D__law_each:Dfn P w K mg base 1 "_law_each" ["_law_pages","_law_layout"] (jFQ K)) (D__law_tags:Dfn P w K mg base 2 "_law_tags" ["_law_told","_law_due_here"] (jDJ K)) (D__law_stands:Dfn P w K mg base 4 "_law_stands" ["_law_run","_law_printer","_law_m"] (jEZ yK yG vZ cK cG cZ cQ yJ yW yU)) (D__law_due:Dfn P w K mg base 3 "_law_due" ["_law_m","_law_deed"] (jGn K)) (D__law_done:Dfn P w K mg base 10 "_law_done" ["_law_run","_law_printer","_law_deed"] (jFV yK yG vZ cK cG cZ cQ yJ yW yU)) (D__law_alike:Dfn P w K mg base 3 "_law_alike" ["_law_found","_law_due_here"] (jFi K)) (D_Printer_load:MtE P w K mg base 7 "load" cZ ["self","kind","many"] (jFs cZ cQ yJ yW yU)) (D_Printer_fill:MtE P w K mg base 6 "fill" cZ ["self","black","coloured"] (jFt cZ cQ yJ yW yU)) (D_Run_take:MtE P w K mg base 6 "take" yK ["self","printer"] (jFx yK yG cZ cQ yJ yW yU)) (D_Printer_paper_left:MtE P w K mg base 5 "paper_left" cZ ["self","kind"] (jCm cZ cQ yJ yW yU)) :
    jAh P w K mg base CX0 11 fa fd ["_law_script"] (sp_law K):=by
  refine F.ok jBP (fun vs H Q E h=>?_) (fun cdv A outer s H vs Q E hr h=>?_)
  · obtain ⟨a,rfl,_⟩:=h
    rfl
  obtain ⟨a,rfl,S0,q⟩:=h
  have hu:=jEh hr 0 (by decide)
  have hu1:=jEh hr 1 (by decide)
  have z0:0≤sizeLine:=Nat.zero_le _
  have z4:4≤sizeLine:=small (by decide)
  refine ⟨_,(jAd (jAE (i:=1) jBP.nd rfl (by first | exact Or.inl rfl | exact Or.inr rfl) (jAF jA0 jAg (jAF jCG (jAA D__law_cell_at (hr.mono (by decide)) rfl (jAa (pv 0) (jAa jAg jAe))) jAg)))
  (jAd (jAE (i:=2) jBP.nd rfl (by first | exact Or.inl rfl | exact Or.inr rfl) (jAZ (jAa jAj (jAa jAj (jAa jAj (jAa (jAF jIa jAj (jC4 jKq rfl T.str jMN (jAa (jAF jA0 jAg (jAA D__law_mix (hr.mono (by decide)) rfl (jAa (jAA D__law_cell_at (hr.mono (by decide)) rfl (jAa (pv 0) (jAa jAg jAe))) (jAa jAg (jAa jAg jAe))))) jAe))) jAe))))))
  (jAd (jAE (i:=2) jBP.nd rfl (by first | exact Or.inl rfl | exact Or.inr rfl) (jAG jBV (pv 2) (jAA D__law_mix (hr.mono (by decide)) rfl (jAa (jAA D__law_cell_at (hr.mono (by decide)) rfl (jAa (pv 0) (jAa jAg jAe))) (jAa jAg (jAa jAg jAe)))) (fun _ _=>rfl)))
  (jAd (jAE (i:=3) jBP.nd rfl (by first | exact Or.inl rfl | exact Or.inr rfl) (jAF jA0 jAg (jAA D__law_mix (hr.mono (by decide)) rfl (jAa (jAA D__law_cell_at (hr.mono (by decide)) rfl (jAa (pv 0) (jAa jAg jAe))) (jAa jAg (jAa jAg jAe))))))
  (jAd (jLY (i:=4) (frees:=[("_law_script",0)]) ⟨by decide +kernel,rfl,rfl,by decide +kernel,⟨⟨rfl,rfl,rfl,by decide +kernel⟩,trivial⟩,by decide +kernel,jBs rfl,rfl⟩ jBP.nd rfl rfl rfl (jEl rfl T.range (jAa jAg jAe)) (fun _ _ _ _=>jEg) (fun _ _ _ _=>by exact (jAA D__law_word (hr.mono (by decide)) rfl (jAa (jAA D__law_cell_at (hr.mono (by decide)) rfl (jAa (pv 1) (jAa jAg jAe))) (jAa (pv 0) jAe)))))
  (jAd (jAE (i:=5) jBP.nd rfl (by first | exact Or.inl rfl | exact Or.inr rfl) (jAG jBV (jAZ (jAa jAY (jAa (jAG jDN (pv 4) jAg (fun _ _=>rfl)) jAe))) (jAF jCG (jAA D__law_cell_at (hr.mono (by decide)) rfl (jAa (pv 0) (jAa jAg jAe))) jAg) (fun _ _=>rfl)))
  (jAd (jAE (i:=6) jBP.nd rfl (by first | exact Or.inl rfl | exact Or.inr rfl) (jAA D__law_word (hr.mono (by decide)) rfl (jAa (jAA D__law_cell_at (hr.mono (by decide)) rfl (jAa (pv 0) (jAa jAg jAe))) (jAa jAg jAe))))
  (jAd (jAE (i:=7) jBP.nd rfl (by first | exact Or.inl rfl | exact Or.inr rfl) (jAF jA0 jAg (jAF jCG (jAA D__law_cell_at (hr.mono (by decide)) rfl (jAa (pv 0) (jAa jAg jAe))) jAg)))
  (jAd (jAE (i:=8) jBP.nd rfl (by first | exact Or.inl rfl | exact Or.inr rfl) (jDA M_Printer (hr.mono (by decide)) rfl (jAa jAj (jAa (jAZ jAe) (jAa (pv 7) (jAa (jHt (jBu (jAG jDN (pv 4) jAg (fun _ _=>rfl)) jAg (jBu (jAG jDN (pv 4) jAg (fun _ _=>rfl)) jAg jHs)) rfl rfl (by decide) (by decide)) (jAa jAg (jAa jAg jAe))))))))
  (jAd (jAN (jAU 7 jA7 (hr.mono (by decide)) (pv 8) (jAa (jAG jDN (pv 4) jAg (fun _ _=>rfl)) (jAa jAg jAe))))
  (jAd (jAN (jAU 7 jA7 (hr.mono (by decide)) (pv 8) (jAa (jAG jDN (pv 4) jAg (fun _ _=>rfl)) (jAa jAg jAe))))
  (jAd (jAN (jAU 6 jA7 (hr.mono (by decide)) (pv 8) (jAa jAg (jAa jAg jAe))))
  (jAd (jAE (i:=9) jBP.nd rfl (by first | exact Or.inl rfl | exact Or.inr rfl) (jDA M_Run (hr.mono (by decide)) rfl (jAa (jDA M_Job (hr.mono (by decide)) rfl (jAa (pv 6) (jAa jAj (jAa (pv 1) (jAa (pv 3) (jAa (pv 2) (jAa (jAG jDN (pv 4) jAg (fun _ _=>rfl)) (jAa (pv 5) (jAa jAY (jAa jBL (jAa (jAV jAe) jAe))))))))))) jAe)))
  (jAd (jAE (i:=10) jBP.nd rfl (by first | exact Or.inl rfl | exact Or.inr rfl) (jHt (jBu jAj (pv 6) (jBu jAj (jAF jFF (pv 3) (jAA D__law_each (hr.mono (by decide)) rfl (jAa (pv 1) (jAa (pv 2) jAe)))) (jBu jAj (pv 7) (jBu jAj jAj (jBu jAj jAj jHs))))) rfl rfl (by decide) (by decide)))
  (jAd (jAN (jKi PySem.F.plainAttrs_dict PySem.F.slot_dict_update PySem.F.type_dict_update jMW (pv 10) (jAa (jHt (jBu jAj (jAZ jAe) (jBu jAj jAg (jBu jAj (jAZ jAe) (jBu jAj jBL (jBu jAj jAg jHs))))) rfl rfl (by decide) (by decide)) jAe)))
  (jAd (jAJ (PW.pt (jC6 (jCF (jAQ (jAA D__law_tags (hr.mono (by decide)) rfl (jAa (jAU 6 jA7 (hr.mono (by decide)) (pv 9) (jAa (pv 8) jAe)) (jAa (jAZ jAe) jAe))) (fun _=>rfl))) (jCN (jCF (jAQ (jAA D__law_stands (hr.mono (by decide)) rfl (jAa (pv 9) (jAa (pv 8) (jAa (pv 10) jAe)))) (fun _=>rfl)))))) (jAf (jAp jBL)) jAz)
  (jAd (jAE (i:=11) jBP.nd rfl (by first | exact Or.inl rfl | exact Or.inr rfl) (jCI jGt (pv 0) jDa (jDb jAg)))
  (jAd (jD5 PassesOwn.never rfl (jEl rfl T.range (jAa (jAP jAS rfl T.len PySem.boot_len (jAa (pv 11) jAe)) jAe)) (jBA (i:=12) jBP.nd rfl (by first | exact Or.inl rfl | exact Or.inr rfl))
  (jAf (jD5 PassesOwn.never rfl (jCO (jAA D__law_deeds_by (hr.mono (by decide)) rfl (jAa (jAG jBV (pv 11) (pv 12) (fun _ _=>rfl)) (jAa (pv 12) (jAa (pv 10) jAe))))) (jBA (i:=13) jBP.nd rfl (by first | exact Or.inl rfl | exact Or.inr rfl))
  (jAd (jAE (i:=14) jBP.nd rfl (by first | exact Or.inl rfl | exact Or.inr rfl) (jAA D__law_due (hr.mono (by decide)) rfl (jAa (pv 10) (jAa (pv 13) jAe))))
  (jAd (jAE (i:=15) jBP.nd rfl (by first | exact Or.inl rfl | exact Or.inr rfl) (jAA D__law_done (hr.mono (by decide)) rfl (jAa (pv 9) (jAa (pv 8) (jAa (pv 13) jAe)))))
  (jAf (jAJ (PW.pt (jC6 (jAu (jGN (n:=0) hu) (jCI jMH (pv 15) jDa (jDb jAg)) (jCI jMH (pv 14) jDa (jDb jAg)) (jAw _)) (jC6 (jCF (jAQ (jAA D__law_alike (hr.mono (by decide)) rfl (jAa (jAG jAM (pv 15) jAg (fun _ _=>rfl)) (jAa (jAG jAM (pv 14) jAg (fun _ _=>rfl)) jAe))) (fun _=>rfl))) (jCN (jCF (jAQ (jAA D__law_stands (hr.mono (by decide)) rfl (jAa (pv 9) (jAa (pv 8) (jAa (pv 10) jAe)))) (fun _=>rfl))))))) (jAf (jAp jBL)) jAz)))))))
  (jAd (jAJ (jAu (jGN (n:=1) hu1) (jAK hu (pv 10) jAj (fun _ _=>rfl)) (jEo (frees:=[("_law_name",6)]) ⟨by decide +kernel,rfl,rfl,by decide +kernel,⟨⟨rfl,rfl,rfl,by decide +kernel⟩,trivial⟩,by decide +kernel,jBs rfl,rfl⟩ rfl (jEl rfl T.range (jAa (jAP jAS rfl T.len PySem.boot_len (jAa (jAK hu (pv 10) jAj (fun _ _=>rfl)) jAe)) jAe)) (fun _ _ _ _=>jEg) (fun _ _ _ _=>by exact (jAV (jAa (pv 1) (jAa (jAF jE5 (pv 0) jAg) jAe))))) (jAw _)) (jAf (jAp jBL)) jAz)
  (jAf (jAp (jAA D__law_is (hr.mono (by decide)) rfl (jAa (jAF jA0 (jAU 5 jA7 (hr.mono (by decide)) (pv 8) (jAa (jAG jDN (pv 4) jAg (fun _ _=>rfl)) jAe)) (jAU 5 jA7 (hr.mono (by decide)) (pv 8) (jAa (jAG jDN (pv 4) jAg (fun _ _=>rfl)) jAe))) (jAa (jAF jE5 jAg (jAK hu (pv 10) jAj (fun _ _=>rfl))) jAe)))))))))))))))))))))))),?_⟩
  refine jNH fun T1 e1=>?_
  obtain ⟨T2,e2,e1⟩:=jBz e1
  obtain ⟨T3,e3,e2⟩:=jBz e2
  obtain ⟨T4,e4,e3⟩:=jBz e3
  obtain ⟨T5,e5,e4⟩:=jBz e4
  obtain ⟨T6,e6,e5⟩:=jBz e5
  obtain ⟨T7,e7,e6⟩:=jBz e6
  obtain ⟨T8,e8,e7⟩:=jBz e7
  obtain ⟨T9,e9,e8⟩:=jBz e8
  obtain ⟨T10,e10,e9⟩:=jBz e9
  obtain ⟨T11,e11,e10⟩:=jBz e10
  obtain ⟨T12,e12,e11⟩:=jBz e11
  obtain ⟨T13,e13,e12⟩:=jBz e12
  obtain ⟨T14,e14,e13⟩:=jBz e13
  obtain ⟨T15,e15,e14⟩:=jBz e14
  obtain ⟨T16,e16,e15⟩:=jBz e15
  obtain ⟨T17,e17,e16⟩:=jBz e16
  obtain ⟨T18,e18,e17⟩:=jBz e17
  obtain ⟨T19,e19,e18⟩:=jBz e18
  obtain ⟨ns,hS,h63⟩:=id S0.ex
  -- pages, layout, copies
  obtain ⟨n,en,n1,n9⟩:∃ n:Nat,1 + ns.getD (0:Int).toNat 0 % 8=(n:Int)∧1≤n∧n≤8:=by
    have:=Int.emod_nonneg (ns.getD (0:Int).toNat 0) (show (8:Int)≠0 by decide)
    have:=Int.emod_lt_of_pos (ns.getD (0:Int).toNat 0) (show (0:Int) < 8 by decide)
    exact ⟨(1 + ns.getD (0:Int).toNat 0 % 8).toNat,by omega,by omega,by omega⟩
  refine jA2 (fun σ G=>H=G∧σ=sg [.ref a,.int (n:Int)]) (fun R hR=>⟨_,rfl,a,0,ns,rfl,hS,by decide,_,_,rfl,rfl,(by show (0:Int) < 8;decide),_,_,rfl,rfl,hR _ _ ⟨rfl,by rw [← en];rfl⟩⟩) ?_
  intro X σ G hX
  rintro ⟨rfl,rfl⟩
  obtain ⟨u,eu,u1,u2⟩:∃ u:Nat,2 + jDI (ns.getD (0:Int).toNat 0) 2 15=(u:Int)∧2≤u∧u≤16:=by
    have:=jGB (c:=(ns.getD (0:Int).toNat 0)) (k:=2) (show (0:Int) < 15 by decide)
    have:=jHd (c:=(ns.getD (0:Int).toNat 0)) (k:=2) (show (0:Int) < 15 by decide)
    exact ⟨(2 + jDI (ns.getD (0:Int).toNat 0) 2 15).toNat,by omega,by omega,by omega⟩
  have us:=jNK u (by omega)
  refine hX (via e1 ?_)
  refine jA2 (fun σ G=>jAr H G∧∃ ll,G ll=some (.lst [V.str (Str.ofString "one"),.str (Str.ofString "one"),.str (Str.ofString "both"),.str (Ly.text (.up u))])∧σ=sg [.ref a,.int (n:Int),.ref ll]) (fun R hR=>⟨_,rfl,a,0,ns,rfl,hS,by decide,(ns.getD (0:Int).toNat 0),2,15,rfl,by decide,by decide,by decide,fun H1 s1=>⟨_,_,rfl,rfl,_,rfl,(by show (2 + jDI (ns.getD (0:Int).toNat 0) 2 15).natAbs.log2 < 1920;rw [eu];exact us.1),_,_,rfl,rfl,(by show (Str.ofString "up:").length + (Str.ofString (toString (2 + jDI (ns.getD (0:Int).toNat 0) 2 15))).length≤sizeLine;rw [eu];exact small us.2),z4,fun ll nll=>?_⟩⟩) ?_
  · dsimp only [jFk]
    rw [eu]
    exact hR _ _ ⟨s1.trans (jAl nll _),ll,jAc,rfl⟩
  intro X σ H2 hX
  rintro ⟨t2,ll,hll,rfl⟩
  refine hX (via e2 ?_)
  refine jA2 (fun σ G=>jAr H G∧∃ ly:Ly,ly.Ok∧σ=sg [.ref a,.int (n:Int),.str (Ly.text ly)]) (fun R hR=>⟨_,rfl,_,rfl,a,0,ns,rfl,t2.seq hS,by decide,(ns.getD (0:Int).toNat 0),1,4,rfl,by decide,by decide,by decide,fun H3 s3=>⟨ll,_,_,rfl,rfl,SqL.of (s3 _ _ hll),jGB (by decide),jHd (by decide),fun v hv=>?_⟩⟩) ?_
  · obtain ⟨ly,rfl,okl⟩:∃ ly:Ly,v=.str (Ly.text ly)∧ly.Ok:=by
      have hm:=List.mem_of_getElem? hv
      simp only [List.mem_cons,List.not_mem_nil,or_false] at hm
      rcases hm with rfl | rfl | rfl | rfl
      · exact ⟨.one,rfl,trivial⟩
      · exact ⟨.one,rfl,trivial⟩
      · exact ⟨.both,rfl,trivial⟩
      · exact ⟨.up u,rfl,u1,u2⟩
    exact hR _ _ ⟨t2.trans s3,ly,okl,rfl⟩
  intro X σ H3 hX
  rintro ⟨t3,ly,okl,rfl⟩
  obtain ⟨cp,ec,c1,c3⟩:∃ cp:Nat,1 + jDI (ns.getD (0:Int).toNat 0) 3 3=(cp:Int)∧1≤cp∧cp≤3:=by
    have:=jGB (c:=(ns.getD (0:Int).toNat 0)) (k:=3) (show (0:Int) < 3 by decide)
    have:=jHd (c:=(ns.getD (0:Int).toNat 0)) (k:=3) (show (0:Int) < 3 by decide)
    exact ⟨(1 + jDI (ns.getD (0:Int).toNat 0) 3 3).toNat,by omega,by omega,by omega⟩
  refine hX (via e3 ?_)
  refine jA2 (fun σ G=>jAr H G∧σ=sg [.ref a,.int (n:Int),.str (Ly.text ly),.int (cp:Int)]) (fun R hR=>⟨_,rfl,a,0,ns,rfl,t3.seq hS,by decide,(ns.getD (0:Int).toNat 0),3,3,rfl,by decide,by decide,by decide,fun H4 s4=>⟨_,_,rfl,rfl,hR _ _ ⟨t3.trans s4,by rw [← ec];rfl⟩⟩⟩) ?_
  clear t2 hll
  intro X σ H4 hX
  rintro ⟨t4,rfl⟩
  -- the kinds
  refine hX (via e4 ?_)
  refine jA2 (fun σ G=>jAr H G∧∃ kl k0 k1,G kl=some (.lst [.str k0,.str k1])∧k0≠k1∧σ=sg [.ref a,.int (n:Int),.str (Ly.text ly),.int (cp:Int),.ref kl]) (fun R hR=>⟨_,rfl,by decide,by decide,?_⟩) ?_
  · generalize hc1:ns.getD (1:Int).toNat 0=c1'
    refine jFa (jFW 0 2 H4) (fun _=>true) (fun v=>match v with | .int t=>.str (jF9 c1' t (jEH c1')) | _=>.non) (by rw [List.length_map,List.length_range];exact jBb (by decide)) (fun x _ H' R _ rr=>rr) (fun x hx H' R sG _ rr=>?_) (fun kl H1 s1 nkl hkl0=>?_)
    · obtain ⟨t,ht,rfl⟩:=List.mem_map.mp hx
      rw [← hc1] at rr
      exact ⟨_,rfl,a,1,ns,rfl,(t4.trans sG).seq hS,by decide,_,rfl,_,_,rfl,rr⟩
    exact hR _ _ ⟨t4.trans s1,kl,_,_,hkl0,fun z=>absurd (word_ne (by decide) (by decide) (by decide) (by decide) z) (by decide),rfl⟩
  intro X σ H5 hX
  rintro ⟨t5,kl,k0,k1,hkl,k01,rfl⟩
  -- the cover
  refine hX (via e5 ?_)
  refine jA2 (fun σ G=>jAr H5 G∧∃ cv:V,(cv=.non∨cv=.str k1)∧σ=sg [.ref a,.int (n:Int),.str (Ly.text ly),.int (cp:Int),.ref kl,cv]) (fun R hR=>⟨_,rfl,kl,_,_,_,rfl,rfl,SqL.of hkl,jAC (j:=1) rfl,small (show 2≤1000 by decide),fun cl ncl=>?_⟩) ?_
  · have s1:=jAl ncl (.lst [V.non,.str k1])
    have y0:=Int.emod_nonneg (ns.getD (2:Int).toNat 0) (show (2:Int)≠0 by decide)
    have y1:=Int.emod_lt_of_pos (ns.getD (2:Int).toNat 0) (show (0:Int) < 2 by decide)
    refine ⟨_,rfl,a,2,ns,rfl,(t5.trans s1).seq hS,by decide,_,_,rfl,rfl,(by show (0:Int) < 2;decide),cl,_,_,rfl,rfl,SqL.of jAc,y0,y1,fun v hv=>?_⟩
    have hm:=List.mem_of_getElem? hv
    simp only [List.mem_cons,List.not_mem_nil,or_false] at hm
    exact hR _ _ ⟨s1,v,hm,rfl⟩
  intro X σ H6 hX
  rintro ⟨s6,cv,hcv,rfl⟩
  have t6:=t5.trans s6
  replace hkl:=s6 _ _ hkl
  refine hX (via e6 ?_)
  refine jA2 (fun σ G=>H6=G∧∃ nm,σ=sg [.ref a,.int (n:Int),.str (Ly.text ly),.int (cp:Int),.ref kl,cv,.str nm]) (fun R hR=>⟨_,rfl,a,3,ns,rfl,t6.seq hS,by decide,_,_,rfl,hR _ _ ⟨rfl,_,rfl⟩⟩) ?_
  intro X σ G hX
  rintro ⟨rfl,nm,rfl⟩
  obtain ⟨P0,eP,P1,P4⟩:∃ n:Nat,1 + ns.getD (4:Int).toNat 0 % 4=(n:Int)∧1≤n∧n≤4:=by
    have:=Int.emod_nonneg (ns.getD (4:Int).toNat 0) (show (4:Int)≠0 by decide)
    have:=Int.emod_lt_of_pos (ns.getD (4:Int).toNat 0) (show (0:Int) < 4 by decide)
    exact ⟨(1 + ns.getD (4:Int).toNat 0 % 4).toNat,by omega,by omega,by omega⟩
  refine hX (via e7 ?_)
  refine jA2 (fun σ G=>H6=G∧σ=sg [.ref a,.int (n:Int),.str (Ly.text ly),.int (cp:Int),.ref kl,cv,.str nm,.int (P0:Int)]) (fun R hR=>⟨_,rfl,a,4,ns,rfl,t6.seq hS,by decide,_,_,rfl,rfl,(by show (0:Int) < 4;decide),_,_,rfl,rfl,hR _ _ ⟨rfl,by rw [← eP];rfl⟩⟩) ?_
  intro X σ G hX
  rintro ⟨rfl,rfl⟩
  -- the printer
  refine hX (via e8 ?_)
  refine jA2 (fun σ G=>jAr H6 G∧∃ p d,Pn cZ cQ yJ yW yU H6 G p d P0 k0 k1∧d.am=[(k0,0),(k1,0)]∧d.b=0∧d.c=0∧σ=sg [.ref a,.int (n:Int),.str (Ly.text ly),.int (cp:Int),.ref kl,cv,.str nm,.int (P0:Int),.ref p]) (fun R hR=>⟨z0,fun cl ncl=>?_⟩) ?_
  · have s1:=jAl ncl (.lst [])
    have hcl:upd H6 cl (.lst []) cl=some (.lst []):=jAc
    generalize upd H6 cl (.lst [])=G1 at s1 hcl ⊢
    refine ⟨_,rfl,fun rd nrd=>?_⟩
    have s2:=jAl nrd (.dK [])
    have hrd1:upd G1 rd (.dK []) rd=some (.dK []):=jAc
    have hk2:=s2 _ _ (s1 _ _ hkl)
    refine ⟨_,rfl,kl,_,_,_,rfl,rfl,SqL.of hk2,jAC (j:=0) rfl,_,rfl,kl,_,_,_,rfl,rfl,SqL.of hk2,jAC (j:=1) rfl,hrd1,[(Sum.inr k0,.int 999),(Sum.inr k1,.int 999)],rfl,(by show 2≤15;decide),?_⟩
    have ndk:[(Sum.inr k0:Key),Sum.inr k1].Nodup:=by
      rw [List.nodup_cons]
      exact ⟨fun hm=>k01 (Sum.inr.inj (List.mem_singleton.mp hm)),List.nodup_cons.mpr ⟨List.not_mem_nil,List.nodup_nil⟩⟩
    rw [jGM (ks:=[Sum.inr k0,Sum.inr k1]) rfl ndk]
    have s3:jAr G1 (upd (upd G1 rd (.dK [])) rd (.dK ([] ++ [((Sum.inr k0:Key),V.int 999),(Sum.inr k1,V.int 999)]))):=jEn nrd s2 _
    have hrd:upd (upd G1 rd (.dK [])) rd (.dK ([] ++ [((Sum.inr k0:Key),V.int 999),(Sum.inr k1,V.int 999)])) rd=some (.dK (dI [(k0,999),(k1,999)])):=jAc
    generalize upd (upd G1 rd (.dK [])) rd (.dK ([] ++ [((Sum.inr k0:Key),V.int 999),(Sum.inr k1,V.int 999)]))=G3 at s3 hrd ⊢
    refine fun x dx nx' ndx nxd=>?_
    have ki:∀ b o,G3 b=some o→b≠x∧upd (upd G3 dx (.own x)) x (.ins cZ dx []) b=some o:=fun b o e=>by
      have b1:b≠x:=jAo e nx'
      exact ⟨b1,by rw [jAi b1,jAi (jAo e ndx)];exact e⟩
    have fk:∀ b,upd (upd G3 dx (.own x)) x (.ins cZ dx []) b=none→G3 b=none:=fun b nb=>by
      cases e:G3 b with
      | none=>rfl
      | some o=>rw [(ki b o e).2] at nb;cases nb
    have ndr:(([(k0,999),(k1,999)]:List (Str×Int)).map (·.1)).Nodup:=by
      show [k0,k1].Nodup
      rw [List.nodup_cons]
      exact ⟨fun hm=>k01 (List.mem_singleton.mp hm),List.nodup_cons.mpr ⟨List.not_mem_nil,List.nodup_nil⟩⟩
    refine ⟨x,dx,cl,rd,"p",P0,9999,9999,_,[(k0,999),(k1,999)],rfl,jAc,(ki _ _ (s3 _ _ hcl)).2,(ki _ _ hrd).2,ndr,by show 2≤900;decide,fun d G4 kp4 P4' enm ep ers eam erb erc eb ec etg eS n1' n2' n3' n4' n5'=>⟨rfl,?_⟩⟩
    have s4:jAr G3 G4:=fun b o e=>kp4 b o (ki b o e).1 (ki b o e).2
    have s13:=s1.trans s3
    exact hR _ _ ⟨s13.trans s4,x,d,⟨P4',enm,ep,ers,erb,erc,etg,eS,s13.free nx',s13.free (fk _ n5'),s13.free (fk _ n1'),s13.free (fk _ n2'),s13.free (fk _ n3'),s13.free (fk _ n4')⟩,eam,eb,ec,rfl⟩
  intro X σ H7 hX
  rintro ⟨s7,p,d,Pp,eam,eb,ec,rfl⟩
  have l0:∀ v w':Int,([(k0,v),(k1,w')]:List (Str×Int)).lookup k0=some v:=fun v w'=>by rw [List.lookup_cons,beq_self_eq_true]
  have l1:∀ v w':Int,([(k0,v),(k1,w')]:List (Str×Int)).lookup k1=some w':=fun v w'=>by rw [List.lookup_cons,show (k1 == k0)=false from Bool.eq_false_iff.mpr fun z=>k01 (eq_of_beq z).symm,List.lookup_cons,beq_self_eq_true]
  have hk7:=s7 _ _ hkl
  -- filled
  refine hX (via e9 ?_)
  refine jA2 (fun σ G=>jAr H6 G∧∃ d,Pn cZ cQ yJ yW yU H6 G p d P0 k0 k1∧d.am=[(k0,999),(k1,0)]∧d.b=0∧d.c=0∧σ=sg [.ref a,.int (n:Int),.str (Ly.text ly),.int (cp:Int),.ref kl,cv,.str nm,.int (P0:Int),.ref p]) (fun R hR=>⟨_,rfl,p,_,_,_,_,_,rfl,Pp.P.o,rfl,T.cl_Printer,D_Printer_load,_,rfl,kl,_,_,_,rfl,rfl,SqL.of hk7,jAC (j:=0) rfl,p,d,k0,999,999,0,rfl,Pp.P,by rw [Pp.rs];exact l0 _ _,by rw [eam];exact l0 _ _,by decide,fun G kp P5=>hR _ _ ⟨fun b o e=>kp b o (jAo e Pp.n2) (s7 _ _ e),_,{ Pp with P:=P5 },?_,eb,ec,rfl⟩⟩) ?_
  · show jBh d.am k0 (0 + 999)=_
    rw [eam]
    unfold jBh
    simp only [List.map_cons,List.map_nil]
    rw [if_pos trivial,if_neg (Ne.symm k01)]
    rfl
  clear Pp eam eb ec s7 hk7
  intro X σ H8 hX
  rintro ⟨s7,d,Pp,eam,eb,ec,rfl⟩
  have hk7:=s7 _ _ hkl
  refine hX (via e10 ?_)
  refine jA2 (fun σ G=>jAr H6 G∧∃ d,Pn cZ cQ yJ yW yU H6 G p d P0 k0 k1∧d.am=[(k0,999),(k1,999)]∧d.b=0∧d.c=0∧σ=sg [.ref a,.int (n:Int),.str (Ly.text ly),.int (cp:Int),.ref kl,cv,.str nm,.int (P0:Int),.ref p]) (fun R hR=>⟨_,rfl,p,_,_,_,_,_,rfl,Pp.P.o,rfl,T.cl_Printer,D_Printer_load,_,rfl,kl,_,_,_,rfl,rfl,SqL.of hk7,jAC (j:=1) rfl,p,d,k1,999,999,0,rfl,Pp.P,by rw [Pp.rs];exact l1 _ _,by rw [eam];exact l1 _ _,by decide,fun G kp P5=>hR _ _ ⟨fun b o e=>kp b o (jAo e Pp.n2) (s7 _ _ e),_,{ Pp with P:=P5 },?_,eb,ec,rfl⟩⟩) ?_
  · show jBh d.am k1 (0 + 999)=_
    rw [eam]
    unfold jBh
    simp only [List.map_cons,List.map_nil]
    rw [if_neg k01,if_pos trivial]
    rfl
  clear Pp eam eb ec s7 hk7
  intro X σ H9 hX
  rintro ⟨s7,d,Pp,eam,eb,ec,rfl⟩
  refine hX (via e11 ?_)
  refine jA2 (fun σ G=>jAr H6 G∧∃ d,Pn cZ cQ yJ yW yU H6 G p d P0 k0 k1∧Stk d k0 k1 0∧σ=sg [.ref a,.int (n:Int),.str (Ly.text ly),.int (cp:Int),.ref kl,cv,.str nm,.int (P0:Int),.ref p]) (fun R hR=>⟨_,rfl,p,_,_,_,_,_,rfl,Pp.P.o,rfl,T.cl_Printer,D_Printer_fill,p,d,9999,9999,rfl,Pp.P,by rw [eb,Pp.rb];decide,by rw [ec,Pp.rc];decide,fun G kp P5=>hR _ _ ⟨fun b o e=>kp b o (jAo e Pp.n4) (s7 _ _ e),_,{ Pp with P:=P5 },⟨999,999,eam,by decide,by decide,by decide,by show (9999:Int)≤d.b + 9999 + 32 * 0;rw [eb];decide,by show (9999:Int)≤d.c + 9999 + 32 * 0;rw [ec];decide⟩,rfl⟩⟩) ?_
  clear Pp eam eb ec s7 l0 l1
  intro X σ H10 hX
  rintro ⟨s10,d,Pp,stk,rfl⟩
  -- the run
  obtain ⟨cvo,rfl,hco⟩:∃ cvo:Option Str,cv=oV cvo∧(cvo=none∨cvo=some k1):=by
    rcases hcv with rfl | rfl
    · exact ⟨none,rfl,.inl rfl⟩
    · exact ⟨some k1,rfl,.inr rfl⟩
  clear hcv
  have hk10:=s10 _ _ hkl
  refine hX (via e12 ?_)
  refine jA2 (fun σ G=>jAr H10 G∧∃ rx r,jA4 yK yG G rx r∧Rk r k0 k1∧r.nm=nm∧r.pr=none∧r.ps=0∧r.sl=false∧r.tot=jCk ly n * cp∧H10 rx=none∧H10 r.il=none∧σ=sg [.ref a,.int (n:Int),.str (Ly.text ly),.int (cp:Int),.ref kl,oV cvo,.str nm,.int (P0:Int),.ref p,.ref rx]) (fun R hR=>⟨_,rfl,_,rfl,_,rfl,_,rfl,_,rfl,kl,_,_,_,rfl,rfl,SqL.of hk10,jAC (j:=0) rfl,_,rfl,z0,fun tp ntp=>?_⟩) ?_
  · have l5:=jAl ntp (.tup [])
    generalize upd H10 tp (.tup [])=G11 at l5 ⊢
    refine fun jx jdx njx njdx njxd=>⟨jx,jdx,_,_,_,_,_,_,_,_,_,_,rfl,jAc,⟨rfl,?_⟩⟩
    dsimp only
    have l6:jAr G11 (upd (upd (upd G11 jdx (.own jx)) jx (.ins yG jdx [])) jx (.ins yG jdx (jEi (.str nm) (.str (Str.ofString "ann")) (.int (n:Int)) (.int (cp:Int)) (.str (Ly.text ly)) (.str k0) (oV cvo) .non (.bl false) (.ref tp)))):=jF8 njx njdx
    have hj:upd (upd (upd G11 jdx (.own jx)) jx (.ins yG jdx [])) jx (.ins yG jdx (jEi (.str nm) (.str (Str.ofString "ann")) (.int (n:Int)) (.int (cp:Int)) (.str (Ly.text ly)) (.str k0) (oV cvo) .non (.bl false) (.ref tp))) jx=some (.ins yG jdx (jEi (.str nm) (.str (Str.ofString "ann")) (.int (n:Int)) (.int (cp:Int)) (.str (Ly.text ly)) (.str k0) (oV cvo) .non (.bl false) (.ref tp))):=jAc
    generalize upd (upd (upd G11 jdx (.own jx)) jx (.ins yG jdx [])) jx (.ins yG jdx (jEi (.str nm) (.str (Str.ofString "ann")) (.int (n:Int)) (.int (cp:Int)) (.str (Ly.text ly)) (.str k0) (oV cvo) .non (.bl false) (.ref tp)))=G12 at l6 hj ⊢
    have l46:=l5.trans l6
    obtain ⟨j,ej⟩:∃ j:Jv,j=⟨n,ly,k0,cvo,none⟩:=⟨_,rfl⟩
    have jok:j.Ok:=by rw [ej];exact ⟨n1,by show n≤999;omega,okl⟩
    have J12:jGQ yG G12 jx nm cp j:=⟨jdx,_,_,_,.non,by rw [ej];exact hj,by rw [ej];rfl⟩
    refine fun rx rdx nrx nrdx nrxd=>?_
    have kr:∀ b o,G12 b=some o→b≠rx∧upd (upd G12 rdx (.own rx)) rx (.ins yK rdx []) b=some o:=fun b o e=>by
      have b1:b≠rx:=jAo e nrx
      exact ⟨b1,by rw [jAi b1,jAi (jAo e nrdx)];exact e⟩
    refine ⟨rx,rdx,jx,nm,cp,j,rfl,jAc,J12.fr (fun o e=>(kr _ _ e).2) (fun b xs e=>(kr _ _ e).2),jok,c1,by omega,(kr _ _ hj).1,fun il G13 k13 nil' R13=>⟨rfl,?_⟩⟩
    have l7:jAr G12 G13:=fun b o e=>k13 b o (kr b o e).1 (kr b o e).2
    have nil12:H10 il=none:=by
      cases e:H10 il with
      | none=>rfl
      | some o=>rw [(kr il o (l46 _ _ e)).2] at nil';cases nil'
    have elen:(jEK j).length=jCk ly n:=by unfold jEK;rw [List.length_map,jLc,ej]
    have tot:(newR rdx jx il nm cp j).tot=jCk ly n * cp:=by show (jEK j).length * cp=_;rw [elen]
    have cn1:1≤jCk ly n:=by unfold jCk;exact Nat.le_add_left 1 _
    have cn9:jCk ly n≤n:=jLd n1
    refine hR _ _ ⟨l46.trans l7,rx,newR rdx jx il nm cp j,R13,⟨k01,by show j.paper=_;rw [ej],by show j.cover=_∨_;rw [ej];exact hco,ink_32 jok,rfl,?_,?_⟩,rfl,rfl,rfl,rfl,tot,l46.free nrx,nil12,rfl⟩
    · rw [tot];exact Nat.mul_le_mul cn1 c1
    · rw [tot];exact Nat.le_trans (Nat.mul_le_mul (Nat.le_trans cn9 n9) c3) (by decide)
  intro X σ H11 hX
  rintro ⟨s11,rx,r,R,k,rnm,rpr,rps,rsl,rtot,nrx,nil',rfl⟩
  have T1:=k.T1
  have T9:=k.T9
  -- the book
  refine hX (via e13 ?_)
  refine jA2 (fun σ G=>jAr H11 G∧∃ dm,H11 dm=none∧G dm=some (.dK [(kw "name",.str nm),(kw "total",.int (r.tot:Int)),(kw "path",.int (P0:Int)),(kw "word",.str (Str.ofString "ready")),(kw "was",.str (Str.ofString "ready"))])∧σ=sg [.ref a,.int (n:Int),.str (Ly.text ly),.int (cp:Int),.ref kl,oV cvo,.str nm,.int (P0:Int),.ref p,.ref rx,.ref dm]) (fun R' hR=>?_) ?_
  · refine fun dm ndm=>?_
    have s1:=jAl ndm (.dK [])
    have ev:(cp:Int) * ((jCk ly n:Nat):Int)=(r.tot:Int):=by rw [rtot,Int.natCast_mul,Int.mul_comm]
    have cn9:jCk ly n≤n:=jLd n1
    refine ⟨_,rfl,_,rfl,_,rfl,_,rfl,n,ly,rfl,okl,n1,by omega,_,_,rfl,rfl,.inl ⟨by omega,by omega⟩,_,rfl,jAc,[(kw "name",.str nm),(kw "total",.int ((cp:Int) * ((jCk ly n:Nat):Int))),(kw "path",.int (P0:Int)),(kw "word",.str (Str.ofString "ready")),(kw "was",.str (Str.ofString "ready"))],rfl,(by show 5≤15;decide),?_⟩
    rw [show jC_ [] [(kw "name",V.str nm),(kw "total",.int ((cp:Int) * ((jCk ly n:Nat):Int))),(kw "path",.int (P0:Int)),(kw "word",.str (Str.ofString "ready")),(kw "was",.str (Str.ofString "ready"))]=[(kw "name",V.str nm),(kw "total",.int ((cp:Int) * ((jCk ly n:Nat):Int))),(kw "path",.int (P0:Int)),(kw "word",.str (Str.ofString "ready")),(kw "was",.str (Str.ofString "ready"))] by kernel_rfl,ev]
    exact hR _ _ ⟨jEn ndm s1 _,dm,ndm,jAc,rfl⟩
  intro X σ H12 hX
  rintro ⟨s12,dm,ndm,hdm,rfl⟩
  refine hX (via e14 ?_)
  refine jA2 (fun σ G=>Kd dm H12 G∧∃ wi ou,H12 wi=none∧H12 ou=none∧G wi=some (.lst [])∧G ou=some (.lst [])∧G dm=some (.dK (⟨nm,r.tot,P0,Str.ofString "ready",Str.ofString "ready",wi,0,ou,false,0⟩:MD).kv)∧σ=sg [.ref a,.int (n:Int),.str (Ly.text ly),.int (cp:Int),.ref kl,oV cvo,.str nm,.int (P0:Int),.ref p,.ref rx,.ref dm]) (fun R' hR=>?_) ?_
  · refine ⟨_,rfl,.inr (.inr (.inl ⟨rfl,.inl ⟨_,hdm⟩⟩)),fun d2 nd2=>?_⟩
    have s1:=jAl nd2 (.dK [])
    have h1:upd H12 d2 (.dK []) d2=some (.dK []):=jAc
    have n2:dm≠d2:=jAo hdm nd2
    generalize upd H12 d2 (.dK [])=G1 at s1 h1 ⊢
    refine ⟨z0,fun wi nwi=>?_⟩
    have s2:=jAl nwi (.lst [])
    have h2:upd G1 wi (.lst []) wi=some (.lst []):=jAc
    generalize upd G1 wi (.lst [])=G2 at s2 h2 ⊢
    refine ⟨z0,fun ou nou=>?_⟩
    have s3:=jAl nou (.lst [])
    have h3:upd G2 ou (.lst []) ou=some (.lst []):=jAc
    generalize upd G2 ou (.lst [])=G3 at s3 h3 ⊢
    have hd3:=(s2.trans s3) _ _ h1
    refine ⟨hd3,[(kw "within",.ref wi),(kw "came",.int 0),(kw "outs",.ref ou),(kw "over",.bl false),(kw "fed",.int 0)],rfl,(by show 5≤15;decide),?_⟩
    rw [show jC_ [] ([(kw "within",.ref wi),(kw "came",.int 0),(kw "outs",.ref ou),(kw "over",.bl false),(kw "fed",.int 0)]:List (Key×V))=[(kw "within",.ref wi),(kw "came",.int 0),(kw "outs",.ref ou),(kw "over",.bl false),(kw "fed",.int 0)] by kernel_rfl]
    have k4:Kd d2 G3 (upd G3 d2 (.dK [(kw "within",.ref wi),(kw "came",.int 0),(kw "outs",.ref ou),(kw "over",.bl false),(kw "fed",.int 0)])):=jC3 _
    have h4:upd G3 d2 (.dK [(kw "within",.ref wi),(kw "came",.int 0),(kw "outs",.ref ou),(kw "over",.bl false),(kw "fed",.int 0)]) d2=some (.dK [(kw "within",.ref wi),(kw "came",.int 0),(kw "outs",.ref ou),(kw "over",.bl false),(kw "fed",.int 0)]):=jAc
    generalize upd G3 d2 (.dK [(kw "within",.ref wi),(kw "came",.int 0),(kw "outs",.ref ou),(kw "over",.bl false),(kw "fed",.int 0)])=G4 at k4 h4 ⊢
    have s03:=s1.trans (s2.trans s3)
    have s04:jAr H12 G4:=fun b o e=>k4 _ _ (jAo e nd2) (s03 _ _ e)
    refine ⟨dm,d2,_,_,rfl,rfl,s04 _ _ hdm,h4,n2,(by show 10≤1000;decide),?_⟩
    rw [show jC_ [(kw "name",V.str nm),(kw "total",.int (r.tot:Int)),(kw "path",.int (P0:Int)),(kw "word",.str (Str.ofString "ready")),(kw "was",.str (Str.ofString "ready"))] [(kw "within",.ref wi),(kw "came",.int 0),(kw "outs",.ref ou),(kw "over",.bl false),(kw "fed",.int 0)]=(⟨nm,r.tot,P0,Str.ofString "ready",Str.ofString "ready",wi,0,ou,false,0⟩:MD).kv by kernel_rfl]
    have k5:Kd dm G4 (upd G4 dm (.dK (⟨nm,r.tot,P0,Str.ofString "ready",Str.ofString "ready",wi,0,ou,false,0⟩:MD).kv)):=jC3 _
    have hd4:=s04 _ _ hdm
    exact hR _ _ ⟨(jBK s04).trans k5,wi,ou,s1.free nwi,s1.free (s2.free nou),k5.lst hd4 (k4.lst hd3 (s3 _ _ h2)),k5.lst hd4 (k4.lst hd3 h3),jAc,rfl⟩
  intro X σ H13 hX
  rintro ⟨k13,wi,ou,nwi,nou,hwi,hou,hm,rfl⟩
  -- taken
  have hp10:=Pp.P
  obtain ⟨⟨dt,tt1⟩,tt2,tt3,_⟩:=id hp10.T
  obtain ⟨⟨di,ii1⟩,ii2,ii3,_⟩:=id hp10.I
  obtain ⟨dst,hst⟩:=id hp10.s
  have da:Da dm d:=⟨(jAo (s11 _ _ tt2) ndm).symm,(jAo (s11 _ _ tt3) ndm).symm,(jAo (s11 _ _ ii2) ndm).symm,(jAo (s11 _ _ ii3) ndm).symm⟩
  have R13:=(R.same s12).kd k13 hdm
  have P13:=(hp10.same (s11.trans s12)).kd k13 hdm da
  have er:({ r with pr:=some p,sl:=false }:RD)=R4 r p 0 (r.tot + 1) 0:=by
    unfold R4
    rw [if_neg (by omega),show 0 + (0 - 1)=r.ps by rw [rps]]
    rfl
  have lv:Liv r:=⟨k.hb,by rw [rps];omega⟩
  have s1013:jAr H10 H13:=fun b o e=>k13 _ _ (jAo (s11 _ _ e) ndm) (s12 _ _ (s11 _ _ e))
  have tn:∀ G:Hp,jAH G r.nm [] (win 0 0 0):=fun G=>by rw [jDK];exact ⟨rfl,fun i y n a=>by cases a⟩
  refine hX (via e15 ?_)
  refine jA2 (fun σ G=>jAr H10 G∧Pw yK yG cZ cQ yJ yW yU G rx p r d k0 k1 P0 .rd 0 0 0∧Ms G dm ⟨nm,r.tot,P0,Str.ofString "ready",Str.ofString "ready",wi,0,ou,false,0⟩ P0 .rd 0 0 0∧σ=sg [.ref a,.int (n:Int),.str (Ly.text ly),.int (cp:Int),.ref kl,oV cvo,.str nm,.int (P0:Int),.ref p,.ref rx,.ref dm]) (fun R' hR=>⟨_,rfl,rx,_,_,_,_,_,rfl,R13.o,rfl,T.cl_Run,D_Run_take,_,rfl,rx,r,p,d,rfl,R13,rpr,lv,P13,Pp.S,fun l H14 k14 nl nlx hl R14=>⟨z0,fun l2 nl2=>?_⟩⟩) ?_
  · have s15:=jAl nl2 (.lst [])
    rw [er] at R14
    have kt:∀ b xs,H13 b=some (.tup xs)→H14 b=some (.tup xs):=fun b xs e=>k14 _ _ (jAD e R13.o (by intro z;cases z)) e
    have nr:∀ b o,H10 b=some o→b≠rx:=fun b o e=>jAo e nrx
    have P14:=P13.off R13.o k14 (nr _ _ hp10.o) (nr _ _ tt1) (nr _ _ ii1) (nr _ _ hst)
    have W14:Pw yK yG cZ cQ yJ yW yU H14 rx p r d k0 k1 P0 .rd 0 0 0:=⟨⟨R14,P14,by rw [Pp.tg];exact tn _,nr _ _ hp10.o,nr _ _ tt1,nr _ _ ii1,nr _ _ hst,(jAo hp10.n nil').symm⟩,Pp.S,Pp.pa,Pp.nm,stk,Nat.le_refl _,Nat.zero_le _,Nat.zero_le _⟩
    have M14:Ms H14 dm ⟨nm,r.tot,P0,Str.ofString "ready",Str.ofString "ready",wi,0,ou,false,0⟩ P0 .rd 0 0 0:=⟨⟨k14 _ _ (jDL R13.o hm).symm hm,⟨[],k14 _ _ (jHB R13.o hwi).symm hwi,by rw [← rnm];exact tn _⟩,⟨[],k14 _ _ (jHB R13.o hou).symm hou,by rw [← rnm];exact tn _⟩,Nat.le_refl _,Nat.zero_le _,rfl,(decide_eq_false (by show ¬ 0=r.tot + 1;omega)).symm,T9⟩,rfl,(fun b z=>by cases z),rfl,Nat.zero_le _,rfl⟩
    refine ⟨l,l2,r.nm,[],[],[],rfl,s15 _ _ hl,jAc,⟨rfl,fun i y n a=>by cases a⟩,⟨rfl,fun i y n a=>by cases a⟩,by decide,true,rfl,jAT ?_⟩
    refine ⟨_,rfl,_,rfl,_,rfl,rx,p,dm,r,d,_,k0,k1,P0,.rd,0,0,0,rfl,k,W14.same s15,{ M14 with M:=M14.M.same s15 },rnm.symm,rfl,fun H16 s16=>⟨true,rfl,jAT (hR _ _ ⟨?_,(W14.same s15).same s16,{ M14 with M:=(M14.M.same s15).same s16 },rfl⟩)⟩⟩
    exact fun b o e=>s16 _ _ (s15 _ _ (k14 _ _ (nr _ _ e) (s1013 _ _ e)))
  intro X σ H14 hX
  rintro ⟨s14,W,M,rfl⟩
  have t14:=t6.trans (s10.trans s14)
  -- the cells
  refine hX (via e16 ?_)
  refine jA2 (fun σ G=>∃ (sm:Addr) (cs:List Int),jAr H14 G∧H14 sm=none∧G sm=some (.lst (cs.map V.int))∧cs.length≤40∧σ=sg [.ref a,.int (n:Int),.str (Ly.text ly),.int (cp:Int),.ref kl,oV cvo,.str nm,.int (P0:Int),.ref p,.ref rx,.ref dm,.ref sm]) (fun R' hR=>⟨_,rfl,_,rfl,a,_,rfl,t14.seq hS,fun sm nsm=>?_⟩) ?_
  · rw [show (some (40:Int))=some ((40:Nat):Int) from rfl,jKM,← List.map_take]
    exact hR _ _ ⟨sm,ns.take 40,jAl nsm _,nsm,jAc,by rw [List.length_take];omega,rfl⟩
  intro X σ H15 hX
  rintro ⟨sm,cs,s15,nsm,hsm,hcs,rfl⟩
  have hk14:=(s10.trans s14) _ _ hkl
  have ndl:∀ {G:Hp} {b:Addr} {ts:List V},H6 b=some (.lst ts)→b≠d.ins:=fun e=>jAo e Pp.ni
  have L0:Lw yK yG cZ cQ yJ yW yU H15 rx p dm sm kl r d ⟨nm,r.tot,P0,Str.ofString "ready",Str.ofString "ready",wi,0,ou,false,0⟩ k0 k1 P0 .rd 0 0 0 (cs.map V.int):=⟨W.same s15,{ M with M:=M.M.same s15 },rnm.symm,rfl,da,?_,?_,hsm,s15 _ _ hk14,(jAo W.w.P.n nsm).symm,jAo hkl Pp.ni⟩
  rotate_left
  · exact (jAo ((s11.trans s12) _ _ hp10.n) nwi).symm
  · exact (jAo ((s11.trans s12) _ _ hp10.n) nou).symm
  clear W M s15 hk14 ndl nsm hsm
  -- the deeds
  refine hX (via e17 ?_)
  refine jA2 (fun σ G=>∃ (d:PD) (m:MD) (S:S3) (b f fe:Nat) (v12 v13 v14 v15:Option V),Lw yK yG cZ cQ yJ yW yU G rx p dm sm kl r d m k0 k1 P0 S b f fe (cs.map V.int)∧fe≤200∧σ=sgl [.ref a,.int (n:Int),.str (Ly.text ly),.int (cp:Int),.ref kl,oV cvo,.str nm,.int (P0:Int),.ref p,.ref rx,.ref dm,.ref sm] [v12,v13,v14,v15]) (fun R' hR=>⟨_,rfl,sm,_,rfl,.inl (SqL.of L0.hs),_,rfl,by rw [List.length_map];omega,by rw [List.length_map];omega,?_⟩) ?_
  · rw [List.length_map,Int.toNat_natCast]
    refine jG2 (lo:=0) (n:=cs.length) (fun i σ G=>∃ (d:PD) (m:MD) (S:S3) (b f fe:Nat) (v12 v13 v14 v15:Option V),Lw yK yG cZ cQ yJ yW yU G rx p dm sm kl r d m k0 k1 P0 S b f fe (cs.map V.int)∧fe≤5 * i∧σ=sgl [.ref a,.int (n:Int),.str (Ly.text ly),.int (cp:Int),.ref kl,oV cvo,.str nm,.int (P0:Int),.ref p,.ref rx,.ref dm,.ref sm] [v12,v13,v14,v15]) ⟨d,_,.rd,0,0,0,none,none,none,none,L0,Nat.zero_le _,rfl⟩ (fun i σ G hi z=>?_) (fun σ G z=>?_)
    rotate_left
    · obtain ⟨d,m,S,b,f,fe,v12,v13,v14,v15,L,hf,rfl⟩:=z
      exact hR _ _ ⟨d,m,S,b,f,fe,v12,v13,v14,v15,L,by omega,rfl⟩
    clear L0 da P13 R13 Pp stk hp10
    obtain ⟨d,m,S,b,f,fe,v12,v13,v14,v15,L,hf,rfl⟩:=z
    obtain ⟨c,ec'⟩:∃ c,cs[i]?=some c:=⟨_,List.getElem?_eq_getElem hi⟩
    refine ⟨_,rfl,_,rfl,sm,_,_,rfl,rfl,SqL.of L.hs,by omega,by rw [List.length_map];omega,fun v hv=>?_⟩
    obtain rfl:V.int c=v:=by
      rw [show ((0:Int) + (i:Int)).toNat=i by omega,List.getElem?_map,ec'] at hv
      exact Option.some.inj hv
    refine ⟨_,rfl,_,rfl,c,i,dm,m,P0,S,b,f,fe,rfl,by omega,L.M,fun l us G1 s1 nl dl=>?_⟩
    have nld:l≠d.ins:=(jAo L.W.w.P.n nl).symm
    refine ⟨l,rfl,⟨_,SqL.of dl.l⟩,jEe (K:=K) (a:=l) (xs:=us) (fun i2 σ G=>∃ (d:PD) (m:MD) (S:S3) (b f fe2:Nat) (v13 v14 v15:Option V),Lw yK yG cZ cQ yJ yW yU G rx p dm sm kl r d m k0 k1 P0 S b f fe2 (cs.map V.int)∧G l=some (.lst us)∧l≠d.ins∧(∀ (j:Nat) y,us[j]?=some y→∃ t D,y=.ref t∧G t=some (.tup (ddV D)))∧fe2≤fe + i2∧σ=sgl [.ref a,.int (n:Int),.str (Ly.text ly),.int (cp:Int),.ref kl,oV cvo,.str nm,.int (P0:Int),.ref p,.ref rx,.ref dm,.ref sm] [some (.int (0 + (i:Int))),v13,v14,v15]) ⟨d,m,S,b,f,fe,v13,v14,v15,L.same s1,dl.l,nld,dl.u,Nat.le_refl _,rfl⟩ (fun i2 σ G _ z=>?_) (fun i2 y σ G hy z=>?_) (fun σ G z=>?_)⟩
    · obtain ⟨d,m,S,b,f,fe2,v13,v14,v15,_,hl,_⟩:=z
      exact SqL.of hl
    rotate_left
    · obtain ⟨d,m,S,b,f,fe2,v13,v14,v15,L,_,_,_,hf2,rfl⟩:=z
      have:=dl.n
      exact ⟨d,m,S,b,f,fe2,_,v13,v14,v15,L,by omega,rfl⟩
    have us5:=dl.n
    clear nld nl s1 dl L
    obtain ⟨d,m,S,b,f,fe2,v13,v14,v15,L,hl,nld,du,hf2,rfl⟩:=z
    have i25:i2 < us.length:=(List.getElem?_eq_some_iff.mp hy).1
    obtain ⟨t,D,rfl,ht⟩:=du _ _ hy
    have dd:=L.M.M.d
    refine jA2 (fun σ G2=>∃ u v1 m',Kd dm G G2∧G2 u=some (.tup [.str (nx r.nm r.tot P0 S b f fe2 D).kd,(nx r.nm r.tot P0 S b f fe2 D).wo,v1])∧IsR G2 r.nm (fun l=>l=m.wi∨G l=none) v1 (nx r.nm r.tot P0 S b f fe2 D).rv∧Ms G2 dm m' P0 (nx r.nm r.tot P0 S b f fe2 D).S (nx r.nm r.tot P0 S b f fe2 D).a (nx r.nm r.tot P0 S b f fe2 D).f (nx r.nm r.tot P0 S b f fe2 D).fe∧Go m m' G∧σ=sgl [.ref a,.int (n:Int),.str (Ly.text ly),.int (cp:Int),.ref kl,oV cvo,.str nm,.int (P0:Int),.ref p,.ref rx,.ref dm,.ref sm] [some (.int (0 + (i:Int))),some (.ref t),some (.ref u),v15]) (fun R hR=>⟨_,rfl,_,rfl,dm,m,P0,S,b,f,fe2,D,t,rfl,ht,L.M,fun u v m' G2 kd h i M go=>?_⟩) ?_
    · rw [L.en,L.eT] at h i M
      exact hR _ _ ⟨u,v,m',kd,h,i,M,go,rfl⟩
    intro X σ G2 hX
    rintro ⟨u,v1,m',kd,h1,i1,M1,go,rfl⟩
    have W1:=L.W.kd kd dd L.da
    have ht2:=kd.tup dd _ _ ht
    have li:=L.W.w.P.n
    have nwi':m'.wi≠d.ins:=go_ne li L.wi go.wi
    have nou':m'.ou≠d.ins:=go_ne li L.ou go.ou
    have sml:=jNL (nm:=r.nm) (P:=P0) (S:=S) (fe:=fe2) (D:=D) L.W.af L.W.fT T9
    have flt:=nx_flat (nm:=r.nm) (T:=r.tot) (P:=P0) (S:=S) (a:=b) (f:=f) (fe:=fe2) (D:=D)
    refine hX ?_
    refine jA2 (fun σ G3=>∃ R u2 v2 d',nx r.nm r.tot P0 S b f fe2 D=R∧Kp rx p d G2 G3∧G3 u2=some (.tup [.str R.kd,R.wo,v2])∧IsR G3 r.nm (fun _=>True) v2 R.rv∧Pw yK yG cZ cQ yJ yW yU G3 rx p r d' k0 k1 P0 R.S R.a R.f R.fe∧Gp d d' G2∧σ=sgl [.ref a,.int (n:Int),.str (Ly.text ly),.int (cp:Int),.ref kl,oV cvo,.str nm,.int (P0:Int),.ref p,.ref rx,.ref dm,.ref sm] [some (.int (0 + (i:Int))),some (.ref t),some (.ref u),some (.ref u2)]) (fun R' hR=>⟨_,rfl,_,rfl,_,rfl,rx,p,t,r,d,k0,k1,P0,S,b,f,fe2,D,rfl,ht2,k,W1,by omega,fun R eR u2 v2 d' G3 kp h2 i2' W2 gp=>hR _ _ ⟨R,u2,v2,d',eR,kp,h2,i2',W2,gp,rfl⟩⟩) ?_
    intro X σ G3 hX
    rintro ⟨R,u2,v2,d',eR,kp,h2,iv2,W2,gp,rfl⟩
    rw [eR] at h1 i1 M1 sml flt
    have h13:=Lw.tup W1 kp _ _ h1
    have i13:=IsR.kp W1 kp (fun l hl=>go_ne li L.wi hl) i1
    have M3:Md G3 dm m' R.a R.f:=Md.kp W1 kp M1.M L.da nwi' nou'
    have li2:=kd.lst dd li
    have keep:∀ {c:Addr} {ts:List V},G c=some (.lst ts)→c≠d.ins→G3 c=some (.lst ts)∧c≠d'.ins:=fun e ne=>⟨Lw.lst W1 kp ne (kd.lst dd e),ne_gp gp (kd.lst dd e) ne⟩
    obtain ⟨ws,hw,_⟩:=M1.M.w.ex
    obtain ⟨os,ho,_⟩:=M1.M.o.ex
    have L3:Lw yK yG cZ cQ yJ yW yU G3 rx p dm sm kl r d' m' k0 k1 P0 R.S R.a R.f R.fe (cs.map V.int):=⟨W2,{ M1 with M:=M3 },go.nm.trans L.en,go.T.trans L.eT,L.da.gp gp,ne_gp gp hw nwi',ne_gp gp ho nou',(keep L.hs L.ns).1,(keep L.hk L.nk).1,(keep L.hs L.ns).2,(keep L.hk L.nk).2⟩
    have du3:∀ (j:Nat) y,us[j]?=some y→∃ t D,y=.ref t∧G3 t=some (.tup (ddV D)):=fun j y e=>let ⟨t,D,e1,e2⟩:=du j y e;⟨t,D,e1,Lw.tup W1 kp _ _ (kd.tup dd _ _ e2)⟩
    obtain ⟨hl3,nl3⟩:=keep hl nld
    clear L W1 kd kp dd ht ht2 li li2 keep i1 h1 hw ho hl nld du M3 M1 nwi' nou' W2
    refine hX ?_
    refine (Tst.or (b:=false) (c:=false) (fun F1 f1 Q' q'=>?_) (Tst.or (b:=false) (c:=false) (fun F1 f1 Q' q'=>?_) (fun F1 f1 Q' q'=>?_))).iff (fun c=>absurd c (by decide)) (fun _ F1 f1=>?_)
    · refine ⟨_,rfl,_,rfl,u2,_,rfl,SqT.of (f1 _ _ h2),(fun z=>absurd z.2 (show ¬ HT.sIx 3 3 (some 2)=3 by decide)),fun p1 np1=>?_⟩
      have s1:=jAl np1 (.tup [V.str R.kd,R.wo])
      refine ⟨_,rfl,_,rfl,u,_,rfl,SqT.of (s1 _ _ (f1 _ _ h13)),(fun z=>absurd z.2 (show ¬ HT.sIx 3 3 (some 2)=3 by decide)),fun p2 np2=>?_⟩
      have s2:=jAl np2 (.tup [V.str R.kd,R.wo])
      refine ⟨p1,p2,[V.str R.kd,R.wo],[V.str R.kd,R.wo],rfl,rfl,.inr ⟨SqT.of (s2 _ _ jAc),SqT.of jAc⟩,rfl,fun j hj=>?_,false,rfl,q' _ (s1.trans s2)⟩
      have:j=0∨j=1:=by have:j < 2:=hj;omega
      rcases this with rfl | rfl
      · exact ⟨rfl,rfl⟩
      · exact ⟨rfl,flt⟩
    · exact ⟨_,rfl,u2,_,_,_,rfl,rfl,SqT.of (f1 _ _ h2),jAC (j:=2) rfl,_,rfl,u,_,_,_,rfl,rfl,SqT.of (f1 _ _ h13),jAC (j:=2) rfl,v2,v1,r.nm,_,_,R.rv,rfl,iv2.same f1,i13.same f1,sml.1,sml.2.1,true,rfl,q' _ (jAr.refl _)⟩
    · have L4:=L3.same f1
      exact ⟨_,rfl,_,rfl,_,rfl,rx,p,dm,r,d',m',k0,k1,P0,_,_,_,_,rfl,k,L4.W,L4.M,L4.en,L4.eT,fun G4 s4=>⟨true,rfl,q' _ s4⟩⟩
    · exact ⟨d',m',R.S,R.a,R.f,R.fe,_,_,_,L3.same f1,f1 _ _ hl3,nl3,fun j y e=>let ⟨t,D,e1,e2⟩:=du3 j y e;⟨t,D,e1,f1 _ _ e2⟩,by have:=sml.2.2;omega,rfl⟩
  -- all that came out
  intro X σ G hX
  rintro ⟨d,m,S,b,f,fe,v12,v13,v14,v15,L,hf,rfl⟩
  obtain ⟨os,ho,to⟩:=L.M.M.o.ex
  have lo:=to.1
  rw [jCE] at lo
  have hb:=L.W.af
  have hb2:=L.W.fT
  refine hX (via e18 ?_)
  refine jA2 (fun σ G'=>jAr G G'∧σ=sgl [.ref a,.int (n:Int),.str (Ly.text ly),.int (cp:Int),.ref kl,oV cvo,.str nm,.int (P0:Int),.ref p,.ref rx,.ref dm,.ref sm] [v12,v13,v14,v15]) (fun R' hR=>⟨_,rfl,dm,_,rfl,jLg L.M.M.d,_,rfl,dm,_,rfl,jLg L.M.M.d,m.ou,_,rfl,.inl (SqL.of ho),_,rfl,by omega,by omega,?_⟩) ?_
  · rw [Int.toNat_natCast]
    refine jFH (jFW 0 os.length G) (fun x y H3=>∃ (i:Nat) (t:Addr),x=.int (0 + (i:Int))∧y=.ref t∧H3 t=some (.tup [.str nm,.int (0 + (i:Int) - 1)])) (by rw [List.length_map,List.length_range];exact jBb (by omega)) (fun x hx' H' R _ r=>r) (fun x hx' H' R sm' rr=>?_) (fun D G5 us s5 nD hD l5 hg=>?_)
    · obtain ⟨i,_,rfl⟩:=List.mem_map.mp hx'
      exact ⟨_,rfl,_,rfl,_,_,rfl,rfl,small (show 2≤1000 by decide),fun t nt=>rr _ _ (jAl nt _) ⟨fun b=>b=t,fun b e=>by rw [e];exact ⟨nt,_,jAc⟩,fun H3 g=>⟨i,t,rfl,rfl,by rw [g t rfl];exact jAc⟩⟩⟩
    rw [List.length_map,List.length_range] at l5
    refine ⟨m.ou,D,os,us,rfl,rfl,.inl ⟨SqL.of (s5 _ _ ho),SqL.of hD⟩,l5.symm,fun j hj=>?_,false,rfl,jAT (hR _ _ ⟨s5,rfl⟩)⟩
    obtain ⟨y,ey⟩:∃ y,os[j]?=some y:=⟨_,List.getElem?_eq_getElem hj⟩
    obtain ⟨z,ez⟩:∃ y,us[j]?=some y:=⟨_,List.getElem?_eq_getElem (by omega)⟩
    obtain ⟨t1,k1',rfl,ek,ht1⟩:=to.get ey
    obtain ⟨i,t2,e1,rfl,ht2⟩:=hg j _ _ (by rw [List.getElem?_map,List.getElem?_range hj];rfl) ez
    have ei:i=j:=by injection e1 with e1;omega
    subst ei
    have ek':k1'=0 + (i:Int) - 1:=by
      unfold win at ek
      rw [List.getElem?_map,List.getElem?_range (by omega)] at ek
      have ek2:itm 0 (0 + i)=k1':=Option.some.inj ek
      rw [← ek2]
      unfold itm
      split <;> omega
    subst ek'
    rw [L.en,rnm] at ht1
    rw [List.getD_eq_getElem?_getD,List.getD_eq_getElem?_getD,ey,ez]
    refine .inr ⟨t1,t2,_,_,rfl,rfl,.inr ⟨SqT.of (s5 _ _ ht1),SqT.of ht2⟩,rfl,fun q hq=>?_⟩
    have:q=0∨q=1:=by have:q < 2:=hq;omega
    rcases this with rfl | rfl <;> exact ⟨rfl,rfl⟩
  intro X σ G1 hX
  rintro ⟨s1,rfl⟩
  replace L:=L.same s1
  obtain ⟨A',B',eam,e1,_⟩:=L.W.st
  have l0:∀ v w':Int,([(k0,v),(k1,w')]:List (Str×Int)).lookup k0=some v:=fun v w'=>by rw [List.lookup_cons,beq_self_eq_true]
  have l1:∀ v w':Int,([(k0,v),(k1,w')]:List (Str×Int)).lookup k1=some w':=fun v w'=>by rw [List.lookup_cons,show (k1 == k0)=false from Bool.eq_false_iff.mpr fun z=>k01 (eq_of_beq z).symm,List.lookup_cons,beq_self_eq_true]
  refine hX ?_
  rw [e19]
  refine ⟨_,rfl,p,_,_,_,_,_,rfl,L.W.w.P.o,rfl,T.cl_Printer,D_Printer_paper_left,_,rfl,kl,_,_,_,rfl,rfl,SqL.of L.hk,jAC (j:=0) rfl,p,d,k0,A',rfl,L.W.w.P,by rw [eam];exact l0 _ _,?_⟩
  refine ⟨_,rfl,p,_,_,_,_,_,rfl,L.W.w.P.o,rfl,T.cl_Printer,D_Printer_paper_left,_,rfl,kl,_,_,_,rfl,rfl,SqL.of L.hk,jAC (j:=1) rfl,p,d,k1,B',rfl,L.W.w.P,by rw [eam];exact l1 _ _,_,_,rfl,rfl,?_⟩
  refine ⟨_,rfl,dm,_,rfl,g_fed L.M.M.d,_,_,rfl,rfl,1998 - (fe:Int),?_,q _⟩
  show [V.int (A' + B'),V.int (1998 - m.fe)]=_
  rw [L.M.fe,show A' + B'=1998 - (fe:Int) by omega]
end
end My
namespace PySem.W.Fast
noncomputable def tw8419861205476918110:PySem.Program:=PySem.Challenge.pw_spoolhall_k32_jams_and_going_on
theorem te8419861205476918110:PySem.Challenge.pw_spoolhall_k32_jams_and_going_on=tw8419861205476918110:=rfl
def tw11597052733445495516:=0
def tw3789775640984285573:=0
def tw729404729765660601:=0
def tw12795574031195809979:=0
def tw1680416402143509434:=0
def tw2182902309537117381:=0
def tw1005513176342059876:=0
def tw1403777983737302:=0
def tw3913675156467524570:=0
def tw9366674766371706008:=0
def tw3017984419660098914:=0
def tw14087992934789845013:=0
def tw12410866566600150919:=0
def tw1860268788421389772:=0
def tw17691708826286912172:=0
def tw7971605653233187517:=0
def tw17711968434955261337:=0
def tw18442258087507592572:=0
def tw11865587709740822680:=0
def tw14604434610599720646:=0
def tw17457977126338409448:=0
def tw566416652269075679:=0
def tw3907056698733724062:=0
def tw11224979053362576156:=0
def tw6953385803062388417:=0
def tw6733071906657175443:=0
def tw17996980572315675100:=0
def tw11718535201909725590:=0
def tw1253058960742357874:=0
def tw91771792700116992:=0
def tw3266914396087413825:=0
def tw11087604481752013780:=0
def tw5861527826740988632:=0
def tw17385915528531260534:=0
def tw11197964012433513663:=0
def tw12653000854564128410:=0
def tw2879105089337022993:=0
def tw14817476434499527578:=0
def tw6635957017569445135:=0
def tw5880657617507962259:=0
def tw3494003174744793442:=0
def tw17198509442852282719:=0
def tw15648285796374941287:=0
def tw16132900929453389925:=0
def tw200162182134704854:=0
def tw10690028702719720095:=0
def tw6027678735952488433:=0
def tw12016302385579908644:=0
def tw14343305769124427608:=0
def tw5266453139901217150:=0
def tw11051334092717553919:=0
def tw10506746019691129826:=0
def tw8104195932360045311:=0
def tw1484844174295762274:=0
def tw10424137372371941777:=0
def tw10400882758512119419:=0
def tw8320807560156645335:=0
def tw4231630865161200176:=0
def tw8069603890029573181:=0
def tw17916072723148807738:=0
def tw16590324256119560806:=0
def tw7226521063576945177:=0
def tw468038852450647394:=0
def tw571915512482667241:=0
def tw981355579050039806:=0
def tw9864249366679336152:=0
def tw13304460735949426916:=0
def tw8620880210847672970:=0
def tw3275146498565941256:=0
def tw6290380538163784803:=0
def tw9543997165299243796:=0
def tw11380410257186713139:=0
def tw15248887984271654982:=0
def tw1630073958181865076:=0
def tw13573956912798493171:=0
def tw5559054461918857352:=0
def tw529861855846119782:=0
def tw17518481351796811221:=0
def tw8475471266734221465:=0
def tw18024302086021247159:=0
def tw11047251121875512191:=0
def tw14239821200375419814:=0
def tw6083210176977001935:=0
def tw1380398312408748960:=0
def tw10615635439011662871:=0
def tw17557011852344943857:=0
def tw2920170734803482137:=0
def tw224612871918144236:=0
def tw17096535019182443595:=0
def tw10880153281809149216:=0
def tw15519663730628589447:=0
def tw18276509051543491818:=0
def tw9250021686045535466:=0
def tw6672422995493003821:=0
def tw12597883614193440027:=0
def tw12685544449556709363:=0
def tw17801035925861084566:=0
def tw3006121884576020055:=0
def tw731133669995772813:=0
def tw12738429244126972059:=0
def tw12689661472222064599:=0
def tw13746100502263104212:=0
def tw18407609365630573818:=0
def tw15996207566996262083:=0
def tw8292932792909453432:=0
def tw15137228663831547020:=0
def tw16716388776857665185:=0
def tw5123293044037571431:=0
def tw3329095422177020702:=0
def tw16679076528315655207:=0
def tw11958779205567978509:=0
def tw16533660686670780083:=0
def tw14565383876978643197:=0
def tw8363149334081585787:=0
def tw12827984539998857749:=0
def tw1273573325453161347:=0
def tw12713738504683140831:=0
def tw3121912714648362238:=0
def tw18102181904616096543:=0
def tw10102222874264215145:=0
def tw16186758792647142225:=0
def tw3432131431856962037:=0
def tw16009797230478867469:=0
def tw6030230499663295568:=0
def tw16256058281446878391:=0
def tw7386603139794468455:=0
def tw12325619791906819800:=0
def tw10734084243694112042:=0
def tw9888268531761597571:=0
def tw5827145244839537060:=0
def tw13490979459752062295:=0
def tw9090512864489311680:=0
def tw1208118611337460115:=0
def tw4070793749848381605:=0
def tw3438360466617170787:=0
def tw5230842392870866227:=0
def tw5664243504776191593:=0
def tw11904995962995675739:=0
def tw2474166310752756742:=0
def tw16177993223662142560:=0
def tw13360159743772447943:=0
def tw15692959210016125557:=0
def tw17830770996964631344:=0
def tw10613659053934343046:=0
def tw3921014734384563719:=0
def tw16562143222037668231:=0
def tw3654318054750167022:=0
def tw11232183044386189282:=0
def tw6184457752155790772:=0
def tw6078548462927867838:=0
def tw10415818341973079721:=0
def tw9548375096599517948:=0
def tw16212299666627717742:=0
def tw4553673629901500914:=0
def tw14998406535324758:=0
def tw11045229288306688787:=0
def tw15166949049595912996:=0
def tw3453232218793916693:=0
def tw18263354949853506374:=0
def tw5779224415616018535:=0
def tw14941937130323894523:=0
def tw16905669273552515681:=0
def tw503297760306765669:=0
def tw17819505831392636573:=0
def tw15157102199548038201:=0
def tw1752234855202229327:=0
def tw2985730209719119467:=0
def tw14103057519793759395:=0
def tw3608069144859157989:=0
def tw4780356298296388620:=0
def tw17182887225722445443:=0
def tw681864497290377151:=0
def tw4343801512429637127:=0
def tw3913803998414650139:=0
def tw12263133580366346373:=0
def tw10052645230551546097:=0
def tw10499264139921521142:=0
def tw4856728289712230531:=0
def tw15120693664150613456:=0
def tw11540822279860016780:=0
def tw1980787620064604245:=0
def tw11704703862193745706:=0
def tw1549428396700566739:=0
def tw1386665479259532698:=0
def tw6986523657280671223:=0
def tw4617152919237638773:=0
def tw4868916872333858967:=0
def tw2423841445072592717:=0
def tw6508561433496743643:=0
def tw16260380985844133793:=0
def tw16084975494021277187:=0
def tw1739100704985893334:=0
def tw16943478810355509083:=0
def tw13268837051133251061:=0
def tw12701772134425645937:=0
def tw7755693041640591238:=0
def tw9554115151533532149:=0
def tw2463994205718701544:=0
def tw16688483965920380033:=0
def tw17036259305278834487:=0
def tw6214547839520306772:=0
def tw9342469378410387050:=0
def tw4835914984747347808:=0
def tw18176120804167990957:=0
def tw10024965982328397366:=0
def tw4055424758334529116:=0
def tw13228703317747642904:=0
def tw17629772582224270483:=0
def tw18112933499139150341:=0
def tw12970119881676358252:=0
def tw10052161318620628118:=0
def tw2020755065599088604:=0
def tw3750840907246595709:=0
def tw11094673667268549302:=0
def tw8944813074291791870:=0
def tw8307189105429922438:=0
def tw13587058574294888979:=0
def tw13203473955333295864:=0
def tw10264724722282685080:=0
def tw470577023905653568:=0
def tw11378101198988967987:=0
def tw7095993409826283181:=0
def tw13012998118011636935:=0
def tw11454186379476531670:=0
def tw10713448627333472288:=0
def tw9038173110630944333:=0
def tw11701675775816401691:=0
def tw6623300086956908969:=0
def tw12613785691089888580:=0
def tw5401668558758695656:=0
def tw5068454873993034379:=0
def tw17566508549938164581:=0
def tw15989464518463177854:=0
def tw15280123736931959597:=0
def tw11269709456091152289:=0
def tw13269393543798798653:=0
def tw4755207577614743504:=0
def tw2357586007799154783:=0
def tw16777887985685998457:=0
def tw11028773224203184924:=0
def tw17828481936263492687:=0
def tw1030261596137295842:=0
def tw772955807948897643:=0
def tw14818329466544801828:=0
def tw7764506537136909563:=0
def tw7291292544120848146:=0
def tw14399394098714023037:=0
def tw1751855906400913135:=0
def tw15519168419298909021:=0
def tw13966603358310720484:=0
def tw16623099899830399649:=0
def tw433114916098191937:=0
def tw3562877494373558134:=0
def tw16496962999801293429:=0
def tw17042144903926822412:=0
def tw4920494675213161532:=0
def tw16399393923654788026:=0
def tw5113149245141924403:=0
def tw15597187670413859388:=0
def tw6648898688747249733:=0
def tw3656373093584864373:=0
def tw13566888059184898099:=0
def tw16730467675657382434:=0
def tw8507708309896908440:=0
def tw4633404304838726935:=0
def tw17496955700511122834:=0
def tw15649522753342837839:=0
def tw14625836978137898737:=0
def tw11924901241614419161:=0
def tw8978782282929147824:=0
def tw2510638645611733367:=0
def tw15449308895962853084:=0
def tw5356442460970792525:=0
def tw2452313848098707850:=0
def tw15594814895775207405:=0
def tw10375986638524513489:=0
def tw9103752986854265693:=0
def tw15875566995506817376:=0
def tw6334102174607057826:=0
def tw6001246847632997413:=0
def tw17111123042348065863:=0
def tw6726465163179165543:=0
def tw6066306257661280833:=0
def tw4922645256479236024:=0
def tw17453040518320571628:=0
def tw11595873550552491655:=0
def tw2156118819467533146:=0
def tw2819779407272361787:=0
def tw7384864414005922985:=0
def tw3731203722710862773:=0
def tw5075167347212440050:=0
def tw3800445017231368035:=0
def tw14051182692685515632:=0
def tw6539339030780084518:=0
def tw5122338828275712065:=0
def tw17512770078017104415:=0
def tw7390057406240801671:=0
def tw17048260587857678779:=0
def tw14441932974700509320:=0
def tw13423044904975523941:=0
def tw6007529209939687168:=0
def tw5660462037354497284:=0
def tw3309098730229867913:=0
def tw10329777344810180867:=0
def tw12323362803854652392:=0
def tw5892467995172631323:=0
def tw4343283524404687407:=0
def tw535000051946506002:=0
def tw878388854991380565:=0
def tw17804683990156188289:=0
def tw16713297473514048212:=0
def tw6698021096161327971:=0
def tw8957177283351213314:=0
def tw6466174142324439171:=0
def tw1310743429691754084:=0
def tw10376339298330096152:=0
def tw7507589080354755195:=0
def tw5566475409431457445:=0
def tw4940732383575947529:=0
def tw16096217573665025677:=0
def tw14493081534264078956:=0
def tw12535668293007945873:=0
def tw7171762484719821249:=0
def tw6443334233526117110:=0
def tw5619166613110242284:=0
def tw3876769577413112346:=0
def tw1685360041585579148:=0
def tw12332204139129963437:=0
def tw14449891810934732277:=0
def tw2981993510091458412:=0
def tw13254527439422033421:=0
def tw12355282462523952122:=0
def tw9169109643031290986:=0
def tw5999753045731191978:=0
def tw18382090642767290567:=0
def tw17292624182673073947:=0
def tw15200856734640563626:=0
def tw13247881895763878271:=0
def tw12939351045855946907:=0
def tw12867824040055685801:=0
def tw8134084316324628874:=0
def tw42563600051031770:=0
def tw14707310452012226220:=0
def tw7988787580012518155:=0
def tw7486977173910953491:=0
def tw7114683793426161410:=0
def tw3814972808648542402:=0
def tw2154115972707222134:=0
def tw17729941289451267148:=0
def tw16553808469070644587:=0
def tw3778786172420686758:=0
def tw12884270016906862697:=0
def tw8418166364125639404:=0
def tw14521895532407336384:=0
def tw9169605545234032692:=0
def tw5088591654527393885:=0
def tw14351871104968499650:=0
def tw13978194058105164775:=0
def tw13614341136082618778:=0
def tw13474556456582206049:=0
def tw10437057719959528693:=0
def tw9003406111542390981:=0
def tw8483789261035870503:=0
def tw7539310140911227906:=0
def tw7502725947338217079:=0
def tw10457366670637315094:=0
def tw9551327032265295322:=0
def tw16088496097384830987:=0
def tw13720233478039238158:=0
def tw4159890689152682857:=0
def tw2937077716377159428:=0
def tw12138939350797836187:=0
def tw8912748708915199708:=0
def tw17569454606034000295:=0
def tw13909247608161749523:=0
def tw7237643919984613289:=0
def tw17781757518115161819:=0
def tw13814441222966881914:=0
def tw10636581012649019801:=0
def tw15033180629034064324:=0
def tw9340205532470818133:=0
def tw4519531915259320679:=0
def tw11055191428793430943:=0
def tw6762636179016183743:=0
def tw2622559173771382241:=0
def tw16394763866169488976:=0
def tw11114738496926846608:=0
def tw903655839842693136:=0
def tw5776952240384724805:=0
def tw16432009733391989590:=0
def tw15934740555678772852:=0
def tw12831764742462128024:=0
def tw1094920627363353018:=0
def tw10057232433013919595:=0
def tw6460267743942459009:=0
def tw889207318318345250:=0
def tw18276451225703227192:=0
def tw10849445968493076424:=0
def tw8253078538106781337:=0
def tw6286475189131038038:=0
def tw7720831623915258247:=0
def tw5622803488682332548:=0
def tw15623600547320736380:=0
def tw6814715356814764985:=0
def tw5781642827705492287:=0
def tw4430762892834034469:=0
def tw17438925828972213748:=0
def tw16223807471085042871:=0
def tw16018484359526144916:=0
def tw14391195770318487027:=0
def tw11726955813478488495:=0
def tw15036877392361000412:=0
def tw6861358896468133869:=0
def tw9162068273672494328:=0
def tw18351747847065679302:=0
def tw10645449539854505315:=0
def tw2785698032774844368:=0
def tw13621705691782074782:=0
def tw11432933939756819749:=0
def tw17438654982953391787:=0
def tw13623958494979299409:=0
def tw12869706683059441316:=0
def tw5077251027800158908:=0
def tw17485407887987554883:=0
def tw2506378807553684558:=0
def tw9185064018205846068:=0
def tw2179537965828969929:=0
def tw13737948935529605578:=0
def tw13582228587354951501:=0
def tw3057605068785188206:=0
def tw8190544206990678613:=0
def tw5069422499099250869:=0
def tw801285762989505145:=0
def tw6681898790613391:=0
def tw6925554550353378680:=0
def tw14378022130646273502:=0
def tw15883692139755423837:=0
def tw11893545806873449802:=0
def tw3938424582187542914:=0
def tw11051037481666919081:=0
def tw8877244547333416507:=0
def tw17382652044740280274:=0
def tw6888527963980509590:=0
def tw14825219417494489216:=0
def tw10738140682868925068:=0
def tw4086514297130255554:=0
def tw15747153043476424353:=0
def tw9897541894862302735:=0
theorem tw2976355572643781596:True:=⟨⟩
theorem tw17750836752361007725:True:=⟨⟩
theorem tw4179572398930138999:True:=⟨⟩
theorem tw3152416440127179535:True:=⟨⟩
theorem tw16917003686414022636:True:=⟨⟩
theorem tw1601287053421329151:True:=⟨⟩
theorem tw15576898749109637758:True:=⟨⟩
theorem tw8389391749212018818:True:=⟨⟩
theorem tw16802411842703313557:True:=⟨⟩
theorem tw12067986986352526795:True:=⟨⟩
theorem tw4812731056278492997:True:=⟨⟩
theorem tw1104913858096640389:True:=⟨⟩
theorem tw1394162041875181112:True:=⟨⟩
theorem tw8763193307959806192:True:=⟨⟩
theorem tw7860303962752229056:True:=⟨⟩
theorem tw2301488259657321306:True:=⟨⟩
theorem tw7613641524397656856:True:=⟨⟩
theorem tw3937835694206884984:True:=⟨⟩
theorem tw655794294519362901:True:=⟨⟩
theorem tw15914433166686154248:True:=⟨⟩
theorem tw15217726818101937155:True:=⟨⟩
theorem tw12988661495746052425:True:=⟨⟩
theorem tw7808237374943858708:True:=⟨⟩
theorem tw4128983461775377400:True:=⟨⟩
theorem tw16366239484982131168:True:=⟨⟩
theorem tw17374760600139500833:True:=⟨⟩
theorem tw11160847809391794023:True:=⟨⟩
theorem tw14132198753648884779:True:=⟨⟩
theorem tw6985645306042535451:True:=⟨⟩
end PySem.W.Fast
namespace My
open PySem L2
theorem bn1 {p:List Value→Prop} (h:∀ a0:Value,p [a0]) (us:List Value) (l:us.length=1):p us:=match us,l with | [a0],_=>h a0
theorem bn2 {p:List Value→Prop} (h:∀ a0 a1:Value,p [a0,a1]) (us:List Value) (l:us.length=2):p us:=match us,l with | [a0,a1],_=>h a0 a1
theorem bn3 {p:List Value→Prop} (h:∀ a0 a1 a2:Value,p [a0,a1,a2]) (us:List Value) (l:us.length=3):p us:=match us,l with | [a0,a1,a2],_=>h a0 a1 a2
theorem bn5 {p:List Value→Prop} (h:∀ a0 a1 a2 a3 a4:Value,p [a0,a1,a2,a3,a4]) (us:List Value) (l:us.length=5):p us:=match us,l with | [a0,a1,a2,a3,a4],_=>h a0 a1 a2 a3 a4
theorem bn7 {p:List Value→Prop} (h:∀ a0 a1 a2 a3 a4 a5 a6:Value,p [a0,a1,a2,a3,a4,a5,a6]) (us:List Value) (l:us.length=7):p us:=match us,l with | [a0,a1,a2,a3,a4,a5,a6],_=>h a0 a1 a2 a3 a4 a5 a6
theorem bn11 {p:List Value→Prop} (h:∀ a0 a1 a2 a3 a4 a5 a6 a7 a8 a9 a10:Value,p [a0,a1,a2,a3,a4,a5,a6,a7,a8,a9,a10]) (us:List Value) (l:us.length=11):p us:=match us,l with | [a0,a1,a2,a3,a4,a5,a6,a7,a8,a9,a10],_=>h a0 a1 a2 a3 a4 a5 a6 a7 a8 a9 a10
theorem all_mk {l:PySem.W.OpenLaw} {w:World} {K:PySem.W.Frag} {h:Heap} {mg:Str→Option Value} {fa yQ yZ yX yY yV yJ yW yU yK yG cQ cZ cV cK cG vQ vZ vX vY f0 f1 f2 f3 f4 f5 f6 f7 f8 f9 f10 f11 f12 f13 f14 f15 f16 f17 f18 f19 f20 f21 f22 f23 f24 f25 f26 f27 f28 f29 f30 f31 f32 f33 f34 f35 f36 f37 f38 f39 f40 f41 f42 f43 f44 f45 f46 f47 f48 f49 f50 f51 f52 f53 f54 f55 f56 f57 f58 f59 f60 f61 f62 f63 f64 f65 f66 f67 f68 f69 f70 f71 f72 f73 f74 f75 f76 f77 f78 f79 f80 f81 f82 f83 f84 f85 f86 f87 f88 f89:Addr} (X:K.In h) (G:h.Ns mainGlobals mg) (hfa:mg "law"=some (.ref fa))
    {od0 an0 od1 an1 od2 an2 od3 an3 od4 an4 od5 an5 od6 an6 od7 an7 od8 an8 od9 an9 od10 an10 od11 an11 od12 an12 od13 an13 od14 an14 od15 an15 od16 an16 od17 an17 od18 an18 od19 an19 od20 an20 od21 an21 od22 an22 od23 an23 od24 an24 od25 an25 od26 an26 od27 an27 od28 an28 od29 an29 od30 an30 od31 an31 od32 an32 od33 an33 od34 an34 od35 an35 od36 an36 od37 an37 od38 an38 od39 an39 od40 an40 od41 an41 od42 an42 od43 an43 od44 an44 od45 an45 od46 an46 od47 an47 od48 an48 od49 an49 od50 an50 od51 an51 od52 an52 od53 an53 od54 an54 od55 an55 od56 an56 od57 an57 od58 an58 od59 an59 od60 an60 od61 an61 od62 an62 od63 an63 od64 an64 od65 an65 od66 an66 od67 an67 od68 an68 od69 an69 od70 an70 od71 an71 od72 an72 od73 an73 od74 an74 od75 an75 od76 an76 od77 an77 od78 an78 od79 an79 od80 an80 od81 an81 od82 an82 od83 an83 od84 an84 od85 an85 od86 an86 od87 an87 od88 an88 od89 an89:Option Addr} {sl0 sl1 sl2 sl3 sl4 sl5 sl6 sl7 sl8 sl9 sl10 sl11 sl12 sl13 sl14 sl15 sl16 sl17 sl18 sl19 sl20 sl21 sl22 sl23 sl24 sl25 sl26 sl27 sl28 sl29 sl30 sl31 sl32 sl33 sl34 sl35 sl36 sl37 sl38 sl39 sl40 sl41 sl42 sl43 sl44 sl45 sl46 sl47 sl48 sl49 sl50 sl51 sl52 sl53 sl54 sl55 sl56 sl57 sl58 sl59 sl60 sl61 sl62 sl63 sl64 sl65 sl66 sl67 sl68 sl69 sl70 sl71 sl72 sl73 sl74 sl75 sl76 sl77 sl78 sl79 sl80 sl81 sl82 sl83 sl84 sl85 sl86 sl87 sl88 sl89:Array (Option Value)}
    {oc0 kV0 dc0 pm0 cd0 ct0 oc1 kV1 dc1 pm1 cd1 ct1 oc2 kV2 dc2 pm2 cd2 ct2 oc3 kV3 dc3 pm3 cd3 ct3 oc4 kV4 dc4 pm4 cd4 ct4 oc5 kV5 dc5 pm5 cd5 ct5 oc6 kV6 dc6 pm6 cd6 ct6 oc7 kV7 dc7 pm7 cd7 ct7 oc8 kV8 dc8 pm8 cd8 ct8 oc9 kV9 dc9 pm9 cd9 ct9 oc10 kV10 dc10 pm10 cd10 ct10 oc11 kV11 dc11 pm11 cd11 ct11 oc12 kV12 dc12 pm12 cd12 ct12 oc13 kV13 dc13 pm13 cd13 ct13 oc14 kV14 dc14 pm14 cd14 ct14 oc15 kV15 dc15 pm15 cd15 ct15 oc16 kV16 dc16 pm16 cd16 ct16 oc17 kV17 dc17 pm17 cd17 ct17 oc18 kV18 dc18 pm18 cd18 ct18 oc19 kV19 dc19 pm19 cd19 ct19 oc20 kV20 dc20 pm20 cd20 ct20 oc21 kV21 dc21 pm21 cd21 ct21 oc22 kV22 dc22 pm22 cd22 ct22 oc23 kV23 dc23 pm23 cd23 ct23 oc24 kV24 dc24 pm24 cd24 ct24 oc25 kV25 dc25 pm25 cd25 ct25 oc26 kV26 dc26 pm26 cd26 ct26 oc27 kV27 dc27 pm27 cd27 ct27 oc28 kV28 dc28 pm28 cd28 ct28 oc29 kV29 dc29 pm29 cd29 ct29 oc30 kV30 dc30 pm30 cd30 ct30 oc31 kV31 dc31 pm31 cd31 ct31 oc32 kV32 dc32 pm32 cd32 ct32 oc33 kV33 dc33 pm33 cd33 ct33 oc34 kV34 dc34 pm34 cd34 ct34 oc35 kV35 dc35 pm35 cd35 ct35 oc36 kV36 dc36 pm36 cd36 ct36 oc37 kV37 dc37 pm37 cd37 ct37 oc38 kV38 dc38 pm38 cd38 ct38 oc39 kV39 dc39 pm39 cd39 ct39 oc40 kV40 dc40 pm40 cd40 ct40 oc41 kV41 dc41 pm41 cd41 ct41 oc42 kV42 dc42 pm42 cd42 ct42 oc43 kV43 dc43 pm43 cd43 ct43 oc44 kV44 dc44 pm44 cd44 ct44 oc45 kV45 dc45 pm45 cd45 ct45 oc46 kV46 dc46 pm46 cd46 ct46 oc47 kV47 dc47 pm47 cd47 ct47 oc48 kV48 dc48 pm48 cd48 ct48 oc49 kV49 dc49 pm49 cd49 ct49 oc50 kV50 dc50 pm50 cd50 ct50 oc51 kV51 dc51 pm51 cd51 ct51 oc52 kV52 dc52 pm52 cd52 ct52 oc53 kV53 dc53 pm53 cd53 ct53 oc54 kV54 dc54 pm54 cd54 ct54 oc55 kV55 dc55 pm55 cd55 ct55 oc56 kV56 dc56 pm56 cd56 ct56 oc57 kV57 dc57 pm57 cd57 ct57 oc58 kV58 dc58 pm58 cd58 ct58 oc59 kV59 dc59 pm59 cd59 ct59 oc60 kV60 dc60 pm60 cd60 ct60 oc61 kV61 dc61 pm61 cd61 ct61 oc62 kV62 dc62 pm62 cd62 ct62 oc63 kV63 dc63 pm63 cd63 ct63 oc64 kV64 dc64 pm64 cd64 ct64 oc65 kV65 dc65 pm65 cd65 ct65 oc66 kV66 dc66 pm66 cd66 ct66 oc67 kV67 dc67 pm67 cd67 ct67 oc68 kV68 dc68 pm68 cd68 ct68 oc69 kV69 dc69 pm69 cd69 ct69 oc70 kV70 dc70 pm70 cd70 ct70 oc71 kV71 dc71 pm71 cd71 ct71 oc72 kV72 dc72 pm72 cd72 ct72 oc73 kV73 dc73 pm73 cd73 ct73 oc74 kV74 dc74 pm74 cd74 ct74 oc75 kV75 dc75 pm75 cd75 ct75 oc76 kV76 dc76 pm76 cd76 ct76 oc77 kV77 dc77 pm77 cd77 ct77 oc78 kV78 dc78 pm78 cd78 ct78 oc79 kV79 dc79 pm79 cd79 ct79 oc80 kV80 dc80 pm80 cd80 ct80 oc81 kV81 dc81 pm81 cd81 ct81 oc82 kV82 dc82 pm82 cd82 ct82 oc83 kV83 dc83 pm83 cd83 ct83 oc84 kV84 dc84 pm84 cd84 ct84 oc85 kV85 dc85 pm85 cd85 ct85 oc86 kV86 dc86 pm86 cd86 ct86 oc87 kV87 dc87 pm87 cd87 ct87 oc88 kV88 dc88 pm88 cd88 ct88 oc89 kV89 dc89 pm89 cd89 ct89:Value}
    (qaa:PySem.W.nsIn K mainGlobals "Layout"=some (some (.ref yQ)))
    (qab:PySem.W.nsIn K mainGlobals "One"=some (some (.ref yZ)))
    (qac:PySem.W.nsIn K mainGlobals "Both"=some (some (.ref yX)))
    (qad:PySem.W.nsIn K mainGlobals "Several"=some (some (.ref yY)))
    (qae:PySem.W.nsIn K mainGlobals "State"=some (some (.ref yV)))
    (qaf:PySem.W.nsIn K mainGlobals "Ready"=some (some (.ref yJ)))
    (qag:PySem.W.nsIn K mainGlobals "Jammed"=some (some (.ref yW)))
    (qah:PySem.W.nsIn K mainGlobals "Away"=some (some (.ref yU)))
    (qai:PySem.W.nsIn K mainGlobals "Run"=some (some (.ref yK)))
    (qaj:PySem.W.nsIn K mainGlobals "Job"=some (some (.ref yG)))
    (qak:PySem.W.nsIn K mainGlobals "Stock"=some (some (.ref cQ)))
    (qal:PySem.W.nsIn K mainGlobals "Printer"=some (some (.ref cZ)))
    (qam:PySem.W.nsIn K mainGlobals "Unknown"=some (some (.ref cV)))
    (qan:PySem.W.nsIn K mainGlobals "NotNow"=some (some (.ref cK)))
    (qao:PySem.W.nsIn K mainGlobals "TooMuch"=some (some (.ref cG)))
    (qap:PySem.W.nsIn K mainGlobals "Dry"=some (some (.ref vQ)))
    (qaq:PySem.W.nsIn K mainGlobals "Over"=some (some (.ref vZ)))
    (qar:PySem.W.nsIn K mainGlobals "Nowhere"=some (some (.ref vX)))
    (qas:PySem.W.nsIn K mainGlobals "HallError"=some (some (.ref vY)))
    (a0:PySem.W.findIn K (.ref cV) "__init__"=some (some (.ref f0)))
    (i0:PySem.W.isFn K (.ref f0)=true)
    (l0:K.lookup f0=some ⟨oc0,od0,.func (PySem.W.fnOf "__init__" "Unknown.__init__" (jAm jB1) (jAk jB1) (jAb jB1) .none kV0 dc0 pm0 an0 cd0 ct0),sl0⟩)
    (c0:PySem.W.codeIn K cd0 "Unknown.__init__"=true)
    (k0:PySem.W.keepIn K (.ref f0)=true)
    (a1:PySem.W.findIn K (.ref cK) "__init__"=some (some (.ref f1)))
    (i1:PySem.W.isFn K (.ref f1)=true)
    (l1:K.lookup f1=some ⟨oc1,od1,.func (PySem.W.fnOf "__init__" "NotNow.__init__" (jAm jCr) (jAk jCr) (jAb jCr) .none kV1 dc1 pm1 an1 cd1 ct1),sl1⟩)
    (c1:PySem.W.codeIn K cd1 "NotNow.__init__"=true)
    (k1:PySem.W.keepIn K (.ref f1)=true)
    (a2:PySem.W.findIn K (.ref cG) "__init__"=some (some (.ref f2)))
    (i2:PySem.W.isFn K (.ref f2)=true)
    (l2:K.lookup f2=some ⟨oc2,od2,.func (PySem.W.fnOf "__init__" "TooMuch.__init__" (jAm jB2) (jAk jB2) (jAb jB2) .none kV2 dc2 pm2 an2 cd2 ct2),sl2⟩)
    (c2:PySem.W.codeIn K cd2 "TooMuch.__init__"=true)
    (k2:PySem.W.keepIn K (.ref f2)=true)
    (a3:PySem.W.findIn K (.ref vQ) "__init__"=some (some (.ref f3)))
    (i3:PySem.W.isFn K (.ref f3)=true)
    (l3:K.lookup f3=some ⟨oc3,od3,.func (PySem.W.fnOf "__init__" "Dry.__init__" (jAm jDP) (jAk jDP) (jAb jDP) .none kV3 dc3 pm3 an3 cd3 ct3),sl3⟩)
    (c3:PySem.W.codeIn K cd3 "Dry.__init__"=true)
    (k3:PySem.W.keepIn K (.ref f3)=true)
    (a4:PySem.W.findIn K (.ref vZ) "__init__"=some (some (.ref f4)))
    (i4:PySem.W.isFn K (.ref f4)=true)
    (l4:K.lookup f4=some ⟨oc4,od4,.func (PySem.W.fnOf "__init__" "Over.__init__" (jAm jDc) (jAk jDc) (jAb jDc) .none kV4 dc4 pm4 an4 cd4 ct4),sl4⟩)
    (c4:PySem.W.codeIn K cd4 "Over.__init__"=true)
    (k4:PySem.W.keepIn K (.ref f4)=true)
    (a5:PySem.W.findIn K (.ref vX) "__init__"=some (some (.ref f5)))
    (i5:PySem.W.isFn K (.ref f5)=true)
    (l5:K.lookup f5=some ⟨oc5,od5,.func (PySem.W.fnOf "__init__" "Nowhere.__init__" (jAm jB3) (jAk jB3) (jAb jB3) .none kV5 dc5 pm5 an5 cd5 ct5),sl5⟩)
    (c5:PySem.W.codeIn K cd5 "Nowhere.__init__"=true)
    (k5:PySem.W.keepIn K (.ref f5)=true)
    (a6:PySem.W.nsIn K mainGlobals "cells_from"=some (some (.ref f6)))
    (l6:K.lookup f6=some ⟨oc6,od6,.func (PySem.W.fnOf "cells_from" "cells_from" (jAm jCR) (jAk jCR) (jAb jCR) .none kV6 dc6 pm6 an6 cd6 ct6),sl6⟩)
    (c6:PySem.W.codeIn K cd6 "cells_from"=true)
    (k6:PySem.W.keepIn K (.ref f6)=true)
    (a7:PySem.W.findIn K (.ref yQ) "__init__"=some (some (.ref f7)))
    (i7:PySem.W.isFn K (.ref f7)=true)
    (l7:K.lookup f7=some ⟨oc7,od7,.func (PySem.W.fnOf "__init__" "Layout.__init__" (jAm jCs) (jAk jCs) (jAb jCs) .none kV7 dc7 pm7 an7 cd7 ct7),sl7⟩)
    (c7:PySem.W.codeIn K cd7 "Layout.__init__"=true)
    (k7:PySem.W.keepIn K (.ref f7)=true)
    (a8:PySem.W.findIn K (.ref yQ) "per_sheet"=some (some (.ref f8)))
    (i8:PySem.W.isFn K (.ref f8)=true)
    (l8:K.lookup f8=some ⟨oc8,od8,.func (PySem.W.fnOf "per_sheet" "Layout.per_sheet" (jAm jBq) (jAk jBq) (jAb jBq) .none kV8 dc8 pm8 an8 cd8 ct8),sl8⟩)
    (c8:PySem.W.codeIn K cd8 "Layout.per_sheet"=true)
    (k8:PySem.W.keepIn K (.ref f8)=true)
    (a9:PySem.W.findIn K (.ref yQ) "laid"=some (some (.ref f9)))
    (i9:PySem.W.isFn K (.ref f9)=true)
    (l9:K.lookup f9=some ⟨oc9,od9,.func (PySem.W.fnOf "laid" "Layout.laid" (jAm jCt) (jAk jCt) (jAb jCt) .none kV9 dc9 pm9 an9 cd9 ct9),sl9⟩)
    (c9:PySem.W.codeIn K cd9 "Layout.laid"=true)
    (k9:PySem.W.keepIn K (.ref f9)=true)
    (a10:PySem.W.findIn K (.ref yQ) "sheet_from"=some (some (.ref f10)))
    (i10:PySem.W.isFn K (.ref f10)=true)
    (l10:K.lookup f10=some ⟨oc10,od10,.func (PySem.W.fnOf "sheet_from" "Layout.sheet_from" (jAm jBm) (jAk jBm) (jAb jBm) .none kV10 dc10 pm10 an10 cd10 ct10),sl10⟩)
    (c10:PySem.W.codeIn K cd10 "Layout.sheet_from"=true)
    (k10:PySem.W.keepIn K (.ref f10)=true)
    (a11:PySem.W.findIn K (.ref yZ) "__init__"=some (some (.ref f11)))
    (i11:PySem.W.isFn K (.ref f11)=true)
    (l11:K.lookup f11=some ⟨oc11,od11,.func (PySem.W.fnOf "__init__" "One.__init__" (jAm jDQ) (jAk jDQ) (jAb jDQ) .none kV11 dc11 pm11 an11 cd11 ct11),sl11⟩)
    (c11:PySem.W.codeIn K cd11 "One.__init__"=true)
    (k11:PySem.W.keepIn K (.ref f11)=true)
    (a12:PySem.W.findIn K (.ref yX) "__init__"=some (some (.ref f12)))
    (i12:PySem.W.isFn K (.ref f12)=true)
    (l12:K.lookup f12=some ⟨oc12,od12,.func (PySem.W.fnOf "__init__" "Both.__init__" (jAm jDd) (jAk jDd) (jAb jDd) .none kV12 dc12 pm12 an12 cd12 ct12),sl12⟩)
    (c12:PySem.W.codeIn K cd12 "Both.__init__"=true)
    (k12:PySem.W.keepIn K (.ref f12)=true)
    (a13:PySem.W.findIn K (.ref yY) "__init__"=some (some (.ref f13)))
    (i13:PySem.W.isFn K (.ref f13)=true)
    (l13:K.lookup f13=some ⟨oc13,od13,.func (PySem.W.fnOf "__init__" "Several.__init__" (jAm jB4) (jAk jB4) (jAb jB4) .none kV13 dc13 pm13 an13 cd13 ct13),sl13⟩)
    (c13:PySem.W.codeIn K cd13 "Several.__init__"=true)
    (k13:PySem.W.keepIn K (.ref f13)=true)
    (a14:PySem.W.nsIn K mainGlobals "layout_of"=some (some (.ref f14)))
    (l14:K.lookup f14=some ⟨oc14,od14,.func (PySem.W.fnOf "layout_of" "layout_of" (jAm jDe) (jAk jDe) (jAb jDe) .none kV14 dc14 pm14 an14 cd14 ct14),sl14⟩)
    (c14:PySem.W.codeIn K cd14 "layout_of"=true)
    (k14:PySem.W.keepIn K (.ref f14)=true)
    (a15:PySem.W.nsIn K mainGlobals "sheets_of"=some (some (.ref f15)))
    (l15:K.lookup f15=some ⟨oc15,od15,.func (PySem.W.fnOf "sheets_of" "sheets_of" (jAm jDf) (jAk jDf) (jAb jDf) .none kV15 dc15 pm15 an15 cd15 ct15),sl15⟩)
    (c15:PySem.W.codeIn K cd15 "sheets_of"=true)
    (k15:PySem.W.keepIn K (.ref f15)=true)
    (a16:PySem.W.nsIn K mainGlobals "paper_of"=some (some (.ref f16)))
    (l16:K.lookup f16=some ⟨oc16,od16,.func (PySem.W.fnOf "paper_of" "paper_of" (jAm jDR) (jAk jDR) (jAb jDR) .none kV16 dc16 pm16 an16 cd16 ct16),sl16⟩)
    (c16:PySem.W.codeIn K cd16 "paper_of"=true)
    (k16:PySem.W.keepIn K (.ref f16)=true)
    (a17:PySem.W.nsIn K mainGlobals "ink_of"=some (some (.ref f17)))
    (l17:K.lookup f17=some ⟨oc17,od17,.func (PySem.W.fnOf "ink_of" "ink_of" (jAm jES) (jAk jES) (jAb jES) .none kV17 dc17 pm17 an17 cd17 ct17),sl17⟩)
    (c17:PySem.W.codeIn K cd17 "ink_of"=true)
    (k17:PySem.W.keepIn K (.ref f17)=true)
    (a18:PySem.W.nsIn K mainGlobals "is_coloured"=some (some (.ref f18)))
    (l18:K.lookup f18=some ⟨oc18,od18,.func (PySem.W.fnOf "is_coloured" "is_coloured" (jAm jCu) (jAk jCu) (jAb jCu) .none kV18 dc18 pm18 an18 cd18 ct18),sl18⟩)
    (c18:PySem.W.codeIn K cd18 "is_coloured"=true)
    (k18:PySem.W.keepIn K (.ref f18)=true)
    (a19:PySem.W.findIn K (.ref yV) "__init__"=some (some (.ref f19)))
    (i19:PySem.W.isFn K (.ref f19)=true)
    (l19:K.lookup f19=some ⟨oc19,od19,.func (PySem.W.fnOf "__init__" "State.__init__" (jAm jCS) (jAk jCS) (jAb jCS) .none kV19 dc19 pm19 an19 cd19 ct19),sl19⟩)
    (c19:PySem.W.codeIn K cd19 "State.__init__"=true)
    (k19:PySem.W.keepIn K (.ref f19)=true)
    (a20:PySem.W.findIn K (.ref yV) "called"=some (some (.ref f20)))
    (i20:PySem.W.isFn K (.ref f20)=true)
    (l20:K.lookup f20=some ⟨oc20,od20,.func (PySem.W.fnOf "called" "State.called" (jAm jB5) (jAk jB5) (jAb jB5) .none kV20 dc20 pm20 an20 cd20 ct20),sl20⟩)
    (c20:PySem.W.codeIn K cd20 "State.called"=true)
    (k20:PySem.W.keepIn K (.ref f20)=true)
    (a21:PySem.W.findIn K (.ref yV) "jam"=some (some (.ref f21)))
    (i21:PySem.W.isFn K (.ref f21)=true)
    (l21:K.lookup f21=some ⟨oc21,od21,.func (PySem.W.fnOf "jam" "State.jam" (jAm jDg) (jAk jDg) (jAb jDg) .none kV21 dc21 pm21 an21 cd21 ct21),sl21⟩)
    (c21:PySem.W.codeIn K cd21 "State.jam"=true)
    (k21:PySem.W.keepIn K (.ref f21)=true)
    (a22:PySem.W.findIn K (.ref yV) "mend"=some (some (.ref f22)))
    (i22:PySem.W.isFn K (.ref f22)=true)
    (l22:K.lookup f22=some ⟨oc22,od22,.func (PySem.W.fnOf "mend" "State.mend" (jAm jCT) (jAk jCT) (jAb jCT) .none kV22 dc22 pm22 an22 cd22 ct22),sl22⟩)
    (c22:PySem.W.codeIn K cd22 "State.mend"=true)
    (k22:PySem.W.keepIn K (.ref f22)=true)
    (a23:PySem.W.findIn K (.ref yV) "leave"=some (some (.ref f23)))
    (i23:PySem.W.isFn K (.ref f23)=true)
    (l23:K.lookup f23=some ⟨oc23,od23,.func (PySem.W.fnOf "leave" "State.leave" (jAm jCv) (jAk jCv) (jAb jCv) .none kV23 dc23 pm23 an23 cd23 ct23),sl23⟩)
    (c23:PySem.W.codeIn K cd23 "State.leave"=true)
    (k23:PySem.W.keepIn K (.ref f23)=true)
    (a24:PySem.W.findIn K (.ref yV) "come"=some (some (.ref f24)))
    (i24:PySem.W.isFn K (.ref f24)=true)
    (l24:K.lookup f24=some ⟨oc24,od24,.func (PySem.W.fnOf "come" "State.come" (jAm jCU) (jAk jCU) (jAb jCU) .none kV24 dc24 pm24 an24 cd24 ct24),sl24⟩)
    (c24:PySem.W.codeIn K cd24 "State.come"=true)
    (k24:PySem.W.keepIn K (.ref f24)=true)
    (a25:PySem.W.findIn K (.ref yJ) "__init__"=some (some (.ref f25)))
    (i25:PySem.W.isFn K (.ref f25)=true)
    (l25:K.lookup f25=some ⟨oc25,od25,.func (PySem.W.fnOf "__init__" "Ready.__init__" (jAm jCV) (jAk jCV) (jAb jCV) .none kV25 dc25 pm25 an25 cd25 ct25),sl25⟩)
    (c25:PySem.W.codeIn K cd25 "Ready.__init__"=true)
    (k25:PySem.W.keepIn K (.ref f25)=true)
    (a26:PySem.W.findIn K (.ref yJ) "jam"=some (some (.ref f26)))
    (i26:PySem.W.isFn K (.ref f26)=true)
    (l26:K.lookup f26=some ⟨oc26,od26,.func (PySem.W.fnOf "jam" "Ready.jam" (jAm jDh) (jAk jDh) (jAb jDh) .none kV26 dc26 pm26 an26 cd26 ct26),sl26⟩)
    (c26:PySem.W.codeIn K cd26 "Ready.jam"=true)
    (k26:PySem.W.keepIn K (.ref f26)=true)
    (a27:PySem.W.findIn K (.ref yJ) "leave"=some (some (.ref f27)))
    (i27:PySem.W.isFn K (.ref f27)=true)
    (l27:K.lookup f27=some ⟨oc27,od27,.func (PySem.W.fnOf "leave" "Ready.leave" (jAm jCw) (jAk jCw) (jAb jCw) .none kV27 dc27 pm27 an27 cd27 ct27),sl27⟩)
    (c27:PySem.W.codeIn K cd27 "Ready.leave"=true)
    (k27:PySem.W.keepIn K (.ref f27)=true)
    (a28:PySem.W.findIn K (.ref yW) "__init__"=some (some (.ref f28)))
    (i28:PySem.W.isFn K (.ref f28)=true)
    (l28:K.lookup f28=some ⟨oc28,od28,.func (PySem.W.fnOf "__init__" "Jammed.__init__" (jAm jCx) (jAk jCx) (jAb jCx) .none kV28 dc28 pm28 an28 cd28 ct28),sl28⟩)
    (c28:PySem.W.codeIn K cd28 "Jammed.__init__"=true)
    (k28:PySem.W.keepIn K (.ref f28)=true)
    (a29:PySem.W.findIn K (.ref yW) "mend"=some (some (.ref f29)))
    (i29:PySem.W.isFn K (.ref f29)=true)
    (l29:K.lookup f29=some ⟨oc29,od29,.func (PySem.W.fnOf "mend" "Jammed.mend" (jAm jCy) (jAk jCy) (jAb jCy) .none kV29 dc29 pm29 an29 cd29 ct29),sl29⟩)
    (c29:PySem.W.codeIn K cd29 "Jammed.mend"=true)
    (k29:PySem.W.keepIn K (.ref f29)=true)
    (a30:PySem.W.findIn K (.ref yW) "leave"=some (some (.ref f30)))
    (i30:PySem.W.isFn K (.ref f30)=true)
    (l30:K.lookup f30=some ⟨oc30,od30,.func (PySem.W.fnOf "leave" "Jammed.leave" (jAm jB6) (jAk jB6) (jAb jB6) .none kV30 dc30 pm30 an30 cd30 ct30),sl30⟩)
    (c30:PySem.W.codeIn K cd30 "Jammed.leave"=true)
    (k30:PySem.W.keepIn K (.ref f30)=true)
    (a31:PySem.W.findIn K (.ref yU) "__init__"=some (some (.ref f31)))
    (i31:PySem.W.isFn K (.ref f31)=true)
    (l31:K.lookup f31=some ⟨oc31,od31,.func (PySem.W.fnOf "__init__" "Away.__init__" (jAm jDi) (jAk jDi) (jAb jDi) .none kV31 dc31 pm31 an31 cd31 ct31),sl31⟩)
    (c31:PySem.W.codeIn K cd31 "Away.__init__"=true)
    (k31:PySem.W.keepIn K (.ref f31)=true)
    (a32:PySem.W.findIn K (.ref yU) "come"=some (some (.ref f32)))
    (i32:PySem.W.isFn K (.ref f32)=true)
    (l32:K.lookup f32=some ⟨oc32,od32,.func (PySem.W.fnOf "come" "Away.come" (jAm jDj) (jAk jDj) (jAb jDj) .none kV32 dc32 pm32 an32 cd32 ct32),sl32⟩)
    (c32:PySem.W.codeIn K cd32 "Away.come"=true)
    (k32:PySem.W.keepIn K (.ref f32)=true)
    (a33:PySem.W.findIn K (.ref yK) "__init__"=some (some (.ref f33)))
    (i33:PySem.W.isFn K (.ref f33)=true)
    (l33:K.lookup f33=some ⟨oc33,od33,.func (PySem.W.fnOf "__init__" "Run.__init__" (jAm jDS) (jAk jDS) (jAb jDS) .none kV33 dc33 pm33 an33 cd33 ct33),sl33⟩)
    (c33:PySem.W.codeIn K cd33 "Run.__init__"=true)
    (k33:PySem.W.keepIn K (.ref f33)=true)
    (a34:PySem.W.findIn K (.ref yK) "each"=some (some (.ref f34)))
    (i34:PySem.W.isFn K (.ref f34)=true)
    (l34:K.lookup f34=some ⟨oc34,od34,.func (PySem.W.fnOf "each" "Run.each" (jAm jDT) (jAk jDT) (jAb jDT) .none kV34 dc34 pm34 an34 cd34 ct34),sl34⟩)
    (c34:PySem.W.codeIn K cd34 "Run.each"=true)
    (k34:PySem.W.keepIn K (.ref f34)=true)
    (a35:PySem.W.findIn K (.ref yK) "total"=some (some (.ref f35)))
    (i35:PySem.W.isFn K (.ref f35)=true)
    (l35:K.lookup f35=some ⟨oc35,od35,.func (PySem.W.fnOf "total" "Run.total" (jAm jDk) (jAk jDk) (jAb jDk) .none kV35 dc35 pm35 an35 cd35 ct35),sl35⟩)
    (c35:PySem.W.codeIn K cd35 "Run.total"=true)
    (k35:PySem.W.keepIn K (.ref f35)=true)
    (a36:PySem.W.findIn K (.ref yK) "out"=some (some (.ref f36)))
    (i36:PySem.W.isFn K (.ref f36)=true)
    (l36:K.lookup f36=some ⟨oc36,od36,.func (PySem.W.fnOf "out" "Run.out" (jAm jEq) (jAk jEq) (jAb jEq) .none kV36 dc36 pm36 an36 cd36 ct36),sl36⟩)
    (c36:PySem.W.codeIn K cd36 "Run.out"=true)
    (k36:PySem.W.keepIn K (.ref f36)=true)
    (a37:PySem.W.findIn K (.ref yK) "at"=some (some (.ref f37)))
    (i37:PySem.W.isFn K (.ref f37)=true)
    (l37:K.lookup f37=some ⟨oc37,od37,.func (PySem.W.fnOf "at" "Run.at" (jAm jET) (jAk jET) (jAb jET) .none kV37 dc37 pm37 an37 cd37 ct37),sl37⟩)
    (c37:PySem.W.codeIn K cd37 "Run.at"=true)
    (k37:PySem.W.keepIn K (.ref f37)=true)
    (a38:PySem.W.findIn K (.ref yK) "whole"=some (some (.ref f38)))
    (i38:PySem.W.isFn K (.ref f38)=true)
    (l38:K.lookup f38=some ⟨oc38,od38,.func (PySem.W.fnOf "whole" "Run.whole" (jAm jDl) (jAk jDl) (jAb jDl) .none kV38 dc38 pm38 an38 cd38 ct38),sl38⟩)
    (c38:PySem.W.codeIn K cd38 "Run.whole"=true)
    (k38:PySem.W.keepIn K (.ref f38)=true)
    (a39:PySem.W.findIn K (.ref yK) "lack"=some (some (.ref f39)))
    (i39:PySem.W.isFn K (.ref f39)=true)
    (l39:K.lookup f39=some ⟨oc39,od39,.func (PySem.W.fnOf "lack" "Run.lack" (jAm jDU) (jAk jDU) (jAb jDU) .none kV39 dc39 pm39 an39 cd39 ct39),sl39⟩)
    (c39:PySem.W.codeIn K cd39 "Run.lack"=true)
    (k39:PySem.W.keepIn K (.ref f39)=true)
    (a40:PySem.W.findIn K (.ref yK) "upcoming"=some (some (.ref f40)))
    (i40:PySem.W.isFn K (.ref f40)=true)
    (l40:K.lookup f40=some ⟨oc40,od40,.func (PySem.W.fnOf "upcoming" "Run.upcoming" (jAm jB7) (jAk jB7) (jAb jB7) .none kV40 dc40 pm40 an40 cd40 ct40),sl40⟩)
    (c40:PySem.W.codeIn K cd40 "Run.upcoming"=true)
    (k40:PySem.W.keepIn K (.ref f40)=true)
    (a41:PySem.W.findIn K (.ref yK) "take"=some (some (.ref f41)))
    (i41:PySem.W.isFn K (.ref f41)=true)
    (l41:K.lookup f41=some ⟨oc41,od41,.func (PySem.W.fnOf "take" "Run.take" (jAm jDV) (jAk jDV) (jAb jDV) .none kV41 dc41 pm41 an41 cd41 ct41),sl41⟩)
    (c41:PySem.W.codeIn K cd41 "Run.take"=true)
    (k41:PySem.W.keepIn K (.ref f41)=true)
    (a42:PySem.W.findIn K (.ref yK) "step"=some (some (.ref f42)))
    (i42:PySem.W.isFn K (.ref f42)=true)
    (l42:K.lookup f42=some ⟨oc42,od42,.func (PySem.W.fnOf "step" "Run.step" (jAm jDW) (jAk jDW) (jAb jDW) .none kV42 dc42 pm42 an42 cd42 ct42),sl42⟩)
    (c42:PySem.W.codeIn K cd42 "Run.step"=true)
    (k42:PySem.W.keepIn K (.ref f42)=true)
    (a43:PySem.W.findIn K (.ref yK) "jam"=some (some (.ref f43)))
    (i43:PySem.W.isFn K (.ref f43)=true)
    (l43:K.lookup f43=some ⟨oc43,od43,.func (PySem.W.fnOf "jam" "Run.jam" (jAm jEr) (jAk jEr) (jAb jEr) .none kV43 dc43 pm43 an43 cd43 ct43),sl43⟩)
    (c43:PySem.W.codeIn K cd43 "Run.jam"=true)
    (k43:PySem.W.keepIn K (.ref f43)=true)
    (a44:PySem.W.findIn K (.ref yK) "must_go_on"=some (some (.ref f44)))
    (i44:PySem.W.isFn K (.ref f44)=true)
    (l44:K.lookup f44=some ⟨oc44,od44,.func (PySem.W.fnOf "must_go_on" "Run.must_go_on" (jAm jBC) (jAk jBC) (jAb jBC) .none kV44 dc44 pm44 an44 cd44 ct44),sl44⟩)
    (c44:PySem.W.codeIn K cd44 "Run.must_go_on"=true)
    (k44:PySem.W.keepIn K (.ref f44)=true)
    (a45:PySem.W.findIn K (.ref yK) "must_be_placed"=some (some (.ref f45)))
    (i45:PySem.W.isFn K (.ref f45)=true)
    (l45:K.lookup f45=some ⟨oc45,od45,.func (PySem.W.fnOf "must_be_placed" "Run.must_be_placed" (jAm jBj) (jAk jBj) (jAb jBj) .none kV45 dc45 pm45 an45 cd45 ct45),sl45⟩)
    (c45:PySem.W.codeIn K cd45 "Run.must_be_placed"=true)
    (k45:PySem.W.keepIn K (.ref f45)=true)
    (a46:PySem.W.findIn K (.ref yK) "used_by"=some (some (.ref f46)))
    (i46:PySem.W.isFn K (.ref f46)=true)
    (l46:K.lookup f46=some ⟨oc46,od46,.func (PySem.W.fnOf "used_by" "Run.used_by" (jAm jCz) (jAk jCz) (jAb jCz) .none kV46 dc46 pm46 an46 cd46 ct46),sl46⟩)
    (c46:PySem.W.codeIn K cd46 "Run.used_by"=true)
    (k46:PySem.W.keepIn K (.ref f46)=true)
    (a47:PySem.W.findIn K (.ref yK) "fed"=some (some (.ref f47)))
    (i47:PySem.W.isFn K (.ref f47)=true)
    (l47:K.lookup f47=some ⟨oc47,od47,.func (PySem.W.fnOf "fed" "Run.fed" (jAm jEs) (jAk jEs) (jAb jEs) .none kV47 dc47 pm47 an47 cd47 ct47),sl47⟩)
    (c47:PySem.W.codeIn K cd47 "Run.fed"=true)
    (k47:PySem.W.keepIn K (.ref f47)=true)
    (a48:PySem.W.findIn K (.ref yK) "emptied"=some (some (.ref f48)))
    (i48:PySem.W.isFn K (.ref f48)=true)
    (l48:K.lookup f48=some ⟨oc48,od48,.func (PySem.W.fnOf "emptied" "Run.emptied" (jAm jCA) (jAk jCA) (jAb jCA) .none kV48 dc48 pm48 an48 cd48 ct48),sl48⟩)
    (c48:PySem.W.codeIn K cd48 "Run.emptied"=true)
    (k48:PySem.W.keepIn K (.ref f48)=true)
    (a49:PySem.W.findIn K (.ref yK) "note_out"=some (some (.ref f49)))
    (i49:PySem.W.isFn K (.ref f49)=true)
    (l49:K.lookup f49=some ⟨oc49,od49,.func (PySem.W.fnOf "note_out" "Run.note_out" (jAm jB8) (jAk jB8) (jAb jB8) .none kV49 dc49 pm49 an49 cd49 ct49),sl49⟩)
    (c49:PySem.W.codeIn K cd49 "Run.note_out"=true)
    (k49:PySem.W.keepIn K (.ref f49)=true)
    (a50:PySem.W.findIn K (.ref yG) "__init__"=some (some (.ref f50)))
    (i50:PySem.W.isFn K (.ref f50)=true)
    (l50:K.lookup f50=some ⟨oc50,od50,.func (PySem.W.fnOf "__init__" "Job.__init__" (jAm jDX) (jAk jDX) (jAb jDX) .none kV50 dc50 pm50 an50 cd50 ct50),sl50⟩)
    (c50:PySem.W.codeIn K cd50 "Job.__init__"=true)
    (k50:PySem.W.keepIn K (.ref f50)=true)
    (a51:PySem.W.findIn K (.ref cQ) "__init__"=some (some (.ref f51)))
    (i51:PySem.W.isFn K (.ref f51)=true)
    (l51:K.lookup f51=some ⟨oc51,od51,.func (PySem.W.fnOf "__init__" "Stock.__init__" (jAm jCW) (jAk jCW) (jAb jCW) .none kV51 dc51 pm51 an51 cd51 ct51),sl51⟩)
    (c51:PySem.W.codeIn K cd51 "Stock.__init__"=true)
    (k51:PySem.W.keepIn K (.ref f51)=true)
    (a52:PySem.W.findIn K (.ref cQ) "held"=some (some (.ref f52)))
    (i52:PySem.W.isFn K (.ref f52)=true)
    (l52:K.lookup f52=some ⟨oc52,od52,.func (PySem.W.fnOf "held" "Stock.held" (jAm jCX) (jAk jCX) (jAb jCX) .none kV52 dc52 pm52 an52 cd52 ct52),sl52⟩)
    (c52:PySem.W.codeIn K cd52 "Stock.held"=true)
    (k52:PySem.W.keepIn K (.ref f52)=true)
    (a53:PySem.W.findIn K (.ref cQ) "room"=some (some (.ref f53)))
    (i53:PySem.W.isFn K (.ref f53)=true)
    (l53:K.lookup f53=some ⟨oc53,od53,.func (PySem.W.fnOf "room" "Stock.room" (jAm jEx) (jAk jEx) (jAb jEx) .none kV53 dc53 pm53 an53 cd53 ct53),sl53⟩)
    (c53:PySem.W.codeIn K cd53 "Stock.room"=true)
    (k53:PySem.W.keepIn K (.ref f53)=true)
    (a54:PySem.W.findIn K (.ref cQ) "know"=some (some (.ref f54)))
    (i54:PySem.W.isFn K (.ref f54)=true)
    (l54:K.lookup f54=some ⟨oc54,od54,.func (PySem.W.fnOf "know" "Stock.know" (jAm jCY) (jAk jCY) (jAb jCY) .none kV54 dc54 pm54 an54 cd54 ct54),sl54⟩)
    (c54:PySem.W.codeIn K cd54 "Stock.know"=true)
    (k54:PySem.W.keepIn K (.ref f54)=true)
    (a55:PySem.W.findIn K (.ref cQ) "know_all"=some (some (.ref f55)))
    (i55:PySem.W.isFn K (.ref f55)=true)
    (l55:K.lookup f55=some ⟨oc55,od55,.func (PySem.W.fnOf "know_all" "Stock.know_all" (jAm jBD) (jAk jBD) (jAb jBD) .none kV55 dc55 pm55 an55 cd55 ct55),sl55⟩)
    (c55:PySem.W.codeIn K cd55 "Stock.know_all"=true)
    (k55:PySem.W.keepIn K (.ref f55)=true)
    (a56:PySem.W.findIn K (.ref cQ) "put"=some (some (.ref f56)))
    (i56:PySem.W.isFn K (.ref f56)=true)
    (l56:K.lookup f56=some ⟨oc56,od56,.func (PySem.W.fnOf "put" "Stock.put" (jAm jDm) (jAk jDm) (jAb jDm) .none kV56 dc56 pm56 an56 cd56 ct56),sl56⟩)
    (c56:PySem.W.codeIn K cd56 "Stock.put"=true)
    (k56:PySem.W.keepIn K (.ref f56)=true)
    (a57:PySem.W.findIn K (.ref cQ) "put_all"=some (some (.ref f57)))
    (i57:PySem.W.isFn K (.ref f57)=true)
    (l57:K.lookup f57=some ⟨oc57,od57,.func (PySem.W.fnOf "put_all" "Stock.put_all" (jAm jBQ) (jAk jBQ) (jAb jBQ) .none kV57 dc57 pm57 an57 cd57 ct57),sl57⟩)
    (c57:PySem.W.codeIn K cd57 "Stock.put_all"=true)
    (k57:PySem.W.keepIn K (.ref f57)=true)
    (a58:PySem.W.findIn K (.ref cQ) "draw_all"=some (some (.ref f58)))
    (i58:PySem.W.isFn K (.ref f58)=true)
    (l58:K.lookup f58=some ⟨oc58,od58,.func (PySem.W.fnOf "draw_all" "Stock.draw_all" (jAm jBE) (jAk jBE) (jAb jBE) .none kV58 dc58 pm58 an58 cd58 ct58),sl58⟩)
    (c58:PySem.W.codeIn K cd58 "Stock.draw_all"=true)
    (k58:PySem.W.keepIn K (.ref f58)=true)
    (a59:PySem.W.findIn K (.ref cZ) "__init__"=some (some (.ref f59)))
    (i59:PySem.W.isFn K (.ref f59)=true)
    (l59:K.lookup f59=some ⟨oc59,od59,.func (PySem.W.fnOf "__init__" "Printer.__init__" (jAm jB9) (jAk jB9) (jAb jB9) .none kV59 dc59 pm59 an59 cd59 ct59),sl59⟩)
    (c59:PySem.W.codeIn K cd59 "Printer.__init__"=true)
    (k59:PySem.W.keepIn K (.ref f59)=true)
    (a60:PySem.W.findIn K (.ref cZ) "stands"=some (some (.ref f60)))
    (i60:PySem.W.isFn K (.ref f60)=true)
    (l60:K.lookup f60=some ⟨oc60,od60,.func (PySem.W.fnOf "stands" "Printer.stands" (jAm jBF) (jAk jBF) (jAb jBF) .none kV60 dc60 pm60 an60 cd60 ct60),sl60⟩)
    (c60:PySem.W.codeIn K cd60 "Printer.stands"=true)
    (k60:PySem.W.keepIn K (.ref f60)=true)
    (a61:PySem.W.findIn K (.ref cZ) "paper_left"=some (some (.ref f61)))
    (i61:PySem.W.isFn K (.ref f61)=true)
    (l61:K.lookup f61=some ⟨oc61,od61,.func (PySem.W.fnOf "paper_left" "Printer.paper_left" (jAm jBk) (jAk jBk) (jAb jBk) .none kV61 dc61 pm61 an61 cd61 ct61),sl61⟩)
    (c61:PySem.W.codeIn K cd61 "Printer.paper_left"=true)
    (k61:PySem.W.keepIn K (.ref f61)=true)
    (a62:PySem.W.findIn K (.ref cZ) "within"=some (some (.ref f62)))
    (i62:PySem.W.isFn K (.ref f62)=true)
    (l62:K.lookup f62=some ⟨oc62,od62,.func (PySem.W.fnOf "within" "Printer.within" (jAm jBG) (jAk jBG) (jAb jBG) .none kV62 dc62 pm62 an62 cd62 ct62),sl62⟩)
    (c62:PySem.W.codeIn K cd62 "Printer.within"=true)
    (k62:PySem.W.keepIn K (.ref f62)=true)
    (a63:PySem.W.findIn K (.ref cZ) "load"=some (some (.ref f63)))
    (i63:PySem.W.isFn K (.ref f63)=true)
    (l63:K.lookup f63=some ⟨oc63,od63,.func (PySem.W.fnOf "load" "Printer.load" (jAm jB_) (jAk jB_) (jAb jB_) .none kV63 dc63 pm63 an63 cd63 ct63),sl63⟩)
    (c63:PySem.W.codeIn K cd63 "Printer.load"=true)
    (k63:PySem.W.keepIn K (.ref f63)=true)
    (a64:PySem.W.findIn K (.ref cZ) "fill"=some (some (.ref f64)))
    (i64:PySem.W.isFn K (.ref f64)=true)
    (l64:K.lookup f64=some ⟨oc64,od64,.func (PySem.W.fnOf "fill" "Printer.fill" (jAm jCa) (jAk jCa) (jAb jCa) .none kV64 dc64 pm64 an64 cd64 ct64),sl64⟩)
    (c64:PySem.W.codeIn K cd64 "Printer.fill"=true)
    (k64:PySem.W.keepIn K (.ref f64)=true)
    (a65:PySem.W.findIn K (.ref cZ) "must_be_ready"=some (some (.ref f65)))
    (i65:PySem.W.isFn K (.ref f65)=true)
    (l65:K.lookup f65=some ⟨oc65,od65,.func (PySem.W.fnOf "must_be_ready" "Printer.must_be_ready" (jAm jA9) (jAk jA9) (jAb jA9) .none kV65 dc65 pm65 an65 cd65 ct65),sl65⟩)
    (c65:PySem.W.codeIn K cd65 "Printer.must_be_ready"=true)
    (k65:PySem.W.keepIn K (.ref f65)=true)
    (a66:PySem.W.findIn K (.ref cZ) "feed"=some (some (.ref f66)))
    (i66:PySem.W.isFn K (.ref f66)=true)
    (l66:K.lookup f66=some ⟨oc66,od66,.func (PySem.W.fnOf "feed" "Printer.feed" (jAm jCb) (jAk jCb) (jAb jCb) .none kV66 dc66 pm66 an66 cd66 ct66),sl66⟩)
    (c66:PySem.W.codeIn K cd66 "Printer.feed"=true)
    (k66:PySem.W.keepIn K (.ref f66)=true)
    (a67:PySem.W.findIn K (.ref cZ) "push"=some (some (.ref f67)))
    (i67:PySem.W.isFn K (.ref f67)=true)
    (l67:K.lookup f67=some ⟨oc67,od67,.func (PySem.W.fnOf "push" "Printer.push" (jAm jCc) (jAk jCc) (jAb jCc) .none kV67 dc67 pm67 an67 cd67 ct67),sl67⟩)
    (c67:PySem.W.codeIn K cd67 "Printer.push"=true)
    (k67:PySem.W.keepIn K (.ref f67)=true)
    (a68:PySem.W.findIn K (.ref cZ) "oldest"=some (some (.ref f68)))
    (i68:PySem.W.isFn K (.ref f68)=true)
    (l68:K.lookup f68=some ⟨oc68,od68,.func (PySem.W.fnOf "oldest" "Printer.oldest" (jAm jBH) (jAk jBH) (jAb jBH) .none kV68 dc68 pm68 an68 cd68 ct68),sl68⟩)
    (c68:PySem.W.codeIn K cd68 "Printer.oldest"=true)
    (k68:PySem.W.keepIn K (.ref f68)=true)
    (a69:PySem.W.findIn K (.ref cZ) "jam"=some (some (.ref f69)))
    (i69:PySem.W.isFn K (.ref f69)=true)
    (l69:K.lookup f69=some ⟨oc69,od69,.func (PySem.W.fnOf "jam" "Printer.jam" (jAm jCB) (jAk jCB) (jAb jCB) .none kV69 dc69 pm69 an69 cd69 ct69),sl69⟩)
    (c69:PySem.W.codeIn K cd69 "Printer.jam"=true)
    (k69:PySem.W.keepIn K (.ref f69)=true)
    (a70:PySem.W.findIn K (.ref cZ) "leave"=some (some (.ref f70)))
    (i70:PySem.W.isFn K (.ref f70)=true)
    (l70:K.lookup f70=some ⟨oc70,od70,.func (PySem.W.fnOf "leave" "Printer.leave" (jAm jBR) (jAk jBR) (jAb jBR) .none kV70 dc70 pm70 an70 cd70 ct70),sl70⟩)
    (c70:PySem.W.codeIn K cd70 "Printer.leave"=true)
    (k70:PySem.W.keepIn K (.ref f70)=true)
    (a71:PySem.W.findIn K (.ref cZ) "mend"=some (some (.ref f71)))
    (i71:PySem.W.isFn K (.ref f71)=true)
    (l71:K.lookup f71=some ⟨oc71,od71,.func (PySem.W.fnOf "mend" "Printer.mend" (jAm jCd) (jAk jCd) (jAb jCd) .none kV71 dc71 pm71 an71 cd71 ct71),sl71⟩)
    (c71:PySem.W.codeIn K cd71 "Printer.mend"=true)
    (k71:PySem.W.keepIn K (.ref f71)=true)
    (a72:PySem.W.findIn K (.ref cZ) "come"=some (some (.ref f72)))
    (i72:PySem.W.isFn K (.ref f72)=true)
    (l72:K.lookup f72=some ⟨oc72,od72,.func (PySem.W.fnOf "come" "Printer.come" (jAm jCe) (jAk jCe) (jAb jCe) .none kV72 dc72 pm72 an72 cd72 ct72),sl72⟩)
    (c72:PySem.W.codeIn K cd72 "Printer.come"=true)
    (k72:PySem.W.keepIn K (.ref f72)=true)
    (a73:PySem.W.nsIn K mainGlobals "_law_cell_at"=some (some (.ref f73)))
    (l73:K.lookup f73=some ⟨oc73,od73,.func (PySem.W.fnOf "_law_cell_at" "_law_cell_at" (jAm jCf) (jAk jCf) (jAb jCf) .none kV73 dc73 pm73 an73 cd73 ct73),sl73⟩)
    (c73:PySem.W.codeIn K cd73 "_law_cell_at"=true)
    (k73:PySem.W.keepIn K (.ref f73)=true)
    (a74:PySem.W.nsIn K mainGlobals "_law_mix"=some (some (.ref f74)))
    (l74:K.lookup f74=some ⟨oc74,od74,.func (PySem.W.fnOf "_law_mix" "_law_mix" (jAm jDY) (jAk jDY) (jAb jDY) .none kV74 dc74 pm74 an74 cd74 ct74),sl74⟩)
    (c74:PySem.W.codeIn K cd74 "_law_mix"=true)
    (k74:PySem.W.keepIn K (.ref f74)=true)
    (a75:PySem.W.nsIn K mainGlobals "_law_word"=some (some (.ref f75)))
    (l75:K.lookup f75=some ⟨oc75,od75,.func (PySem.W.fnOf "_law_word" "_law_word" (jAm jDn) (jAk jDn) (jAb jDn) .none kV75 dc75 pm75 an75 cd75 ct75),sl75⟩)
    (c75:PySem.W.codeIn K cd75 "_law_word"=true)
    (k75:PySem.W.keepIn K (.ref f75)=true)
    (a76:PySem.W.nsIn K mainGlobals "_law_each"=some (some (.ref f76)))
    (l76:K.lookup f76=some ⟨oc76,od76,.func (PySem.W.fnOf "_law_each" "_law_each" (jAm jDo) (jAk jDo) (jAb jDo) .none kV76 dc76 pm76 an76 cd76 ct76),sl76⟩)
    (c76:PySem.W.codeIn K cd76 "_law_each"=true)
    (k76:PySem.W.keepIn K (.ref f76)=true)
    (a77:PySem.W.nsIn K mainGlobals "_law_is"=some (some (.ref f77)))
    (l77:K.lookup f77=some ⟨oc77,od77,.func (PySem.W.fnOf "_law_is" "_law_is" (jAm jEt) (jAk jEt) (jAb jEt) .none kV77 dc77 pm77 an77 cd77 ct77),sl77⟩)
    (c77:PySem.W.codeIn K cd77 "_law_is"=true)
    (k77:PySem.W.keepIn K (.ref f77)=true)
    (a78:PySem.W.nsIn K mainGlobals "_law_tags"=some (some (.ref f78)))
    (l78:K.lookup f78=some ⟨oc78,od78,.func (PySem.W.fnOf "_law_tags" "_law_tags" (jAm jDp) (jAk jDp) (jAb jDp) .none kV78 dc78 pm78 an78 cd78 ct78),sl78⟩)
    (c78:PySem.W.codeIn K cd78 "_law_tags"=true)
    (k78:PySem.W.keepIn K (.ref f78)=true)
    (a79:PySem.W.nsIn K mainGlobals "_law_out"=some (some (.ref f79)))
    (l79:K.lookup f79=some ⟨oc79,od79,.func (PySem.W.fnOf "_law_out" "_law_out" (jAm jDZ) (jAk jDZ) (jAb jDZ) .none kV79 dc79 pm79 an79 cd79 ct79),sl79⟩)
    (c79:PySem.W.codeIn K cd79 "_law_out"=true)
    (k79:PySem.W.keepIn K (.ref f79)=true)
    (a80:PySem.W.nsIn K mainGlobals "_law_next"=some (some (.ref f80)))
    (l80:K.lookup f80=some ⟨oc80,od80,.func (PySem.W.fnOf "_law_next" "_law_next" (jAm jDq) (jAk jDq) (jAb jDq) .none kV80 dc80 pm80 an80 cd80 ct80),sl80⟩)
    (c80:PySem.W.codeIn K cd80 "_law_next"=true)
    (k80:PySem.W.keepIn K (.ref f80)=true)
    (a81:PySem.W.nsIn K mainGlobals "_law_stepped"=some (some (.ref f81)))
    (l81:K.lookup f81=some ⟨oc81,od81,.func (PySem.W.fnOf "_law_stepped" "_law_stepped" (jAm jCg) (jAk jCg) (jAb jCg) .none kV81 dc81 pm81 an81 cd81 ct81),sl81⟩)
    (c81:PySem.W.codeIn K cd81 "_law_stepped"=true)
    (k81:PySem.W.keepIn K (.ref f81)=true)
    (a82:PySem.W.nsIn K mainGlobals "_law_lost"=some (some (.ref f82)))
    (l82:K.lookup f82=some ⟨oc82,od82,.func (PySem.W.fnOf "_law_lost" "_law_lost" (jAm jDr) (jAk jDr) (jAb jDr) .none kV82 dc82 pm82 an82 cd82 ct82),sl82⟩)
    (c82:PySem.W.codeIn K cd82 "_law_lost"=true)
    (k82:PySem.W.keepIn K (.ref f82)=true)
    (a83:PySem.W.nsIn K mainGlobals "_law_due"=some (some (.ref f83)))
    (l83:K.lookup f83=some ⟨oc83,od83,.func (PySem.W.fnOf "_law_due" "_law_due" (jAm jD0) (jAk jD0) (jAb jD0) .none kV83 dc83 pm83 an83 cd83 ct83),sl83⟩)
    (c83:PySem.W.codeIn K cd83 "_law_due"=true)
    (k83:PySem.W.keepIn K (.ref f83)=true)
    (a84:PySem.W.nsIn K mainGlobals "_law_called"=some (some (.ref f84)))
    (l84:K.lookup f84=some ⟨oc84,od84,.func (PySem.W.fnOf "_law_called" "_law_called" (jAm jCC) (jAk jCC) (jAb jCC) .none kV84 dc84 pm84 an84 cd84 ct84),sl84⟩)
    (c84:PySem.W.codeIn K cd84 "_law_called"=true)
    (k84:PySem.W.keepIn K (.ref f84)=true)
    (a85:PySem.W.nsIn K mainGlobals "_law_done"=some (some (.ref f85)))
    (l85:K.lookup f85=some ⟨oc85,od85,.func (PySem.W.fnOf "_law_done" "_law_done" (jAm jDs) (jAk jDs) (jAb jDs) .none kV85 dc85 pm85 an85 cd85 ct85),sl85⟩)
    (c85:PySem.W.codeIn K cd85 "_law_done"=true)
    (k85:PySem.W.keepIn K (.ref f85)=true)
    (a86:PySem.W.nsIn K mainGlobals "_law_alike"=some (some (.ref f86)))
    (l86:K.lookup f86=some ⟨oc86,od86,.func (PySem.W.fnOf "_law_alike" "_law_alike" (jAm jCZ) (jAk jCZ) (jAb jCZ) .none kV86 dc86 pm86 an86 cd86 ct86),sl86⟩)
    (c86:PySem.W.codeIn K cd86 "_law_alike"=true)
    (k86:PySem.W.keepIn K (.ref f86)=true)
    (a87:PySem.W.nsIn K mainGlobals "_law_stands"=some (some (.ref f87)))
    (l87:K.lookup f87=some ⟨oc87,od87,.func (PySem.W.fnOf "_law_stands" "_law_stands" (jAm jCD) (jAk jCD) (jAb jCD) .none kV87 dc87 pm87 an87 cd87 ct87),sl87⟩)
    (c87:PySem.W.codeIn K cd87 "_law_stands"=true)
    (k87:PySem.W.keepIn K (.ref f87)=true)
    (a88:PySem.W.nsIn K mainGlobals "_law_deeds_by"=some (some (.ref f88)))
    (l88:K.lookup f88=some ⟨oc88,od88,.func (PySem.W.fnOf "_law_deeds_by" "_law_deeds_by" (jAm jBS) (jAk jBS) (jAb jBS) .none kV88 dc88 pm88 an88 cd88 ct88),sl88⟩)
    (c88:PySem.W.codeIn K cd88 "_law_deeds_by"=true)
    (k88:PySem.W.keepIn K (.ref f88)=true)
    (a89:PySem.W.nsIn K mainGlobals "law"=some (some (.ref f89)))
    (l89:K.lookup f89=some ⟨oc89,od89,.func (PySem.W.fnOf "law" "law" (jAm jFq) (jAk jFq) (jAb jFq) .none kV89 dc89 pm89 an89 cd89 ct89),sl89⟩)
    (c89:PySem.W.codeIn K cd89 "law"=true)
    (k89:PySem.W.keepIn K (.ref f89)=true)
    (qat:PySem.W.plainGet K yQ Str.empty=true)
    (qau:PySem.W.hasDictIn K yQ=true)
    (qav:PySem.W.plainOver K yQ=true)
    (qaw:PySem.W.findIn K (.ref yQ) "__setattr__"=some (some (.builtin "object.__setattr__")))
    (qax:PySem.W.makesIn K yQ=true)
    (qay:PySem.W.keepIn K (.ref yQ)=true)
    (qaz:PySem.W.findIn K (.ref yQ) "cells"=some none)
    (qaA:PySem.W.findIn K (.ref yQ) "backs"=some none)
    (qaB:PySem.W.plainGet K yZ Str.empty=true)
    (qaC:PySem.W.hasDictIn K yZ=true)
    (qaD:PySem.W.plainOver K yZ=true)
    (qaE:PySem.W.findIn K (.ref yZ) "__setattr__"=some (some (.builtin "object.__setattr__")))
    (qaF:PySem.W.makesIn K yZ=true)
    (qaG:PySem.W.keepIn K (.ref yZ)=true)
    (qaH:PySem.W.findIn K (.ref yZ) "cells"=some none)
    (qaI:PySem.W.findIn K (.ref yZ) "backs"=some none)
    (qaJ:PySem.W.plainGet K yX Str.empty=true)
    (qaK:PySem.W.hasDictIn K yX=true)
    (qaL:PySem.W.plainOver K yX=true)
    (qaM:PySem.W.findIn K (.ref yX) "__setattr__"=some (some (.builtin "object.__setattr__")))
    (qaN:PySem.W.makesIn K yX=true)
    (qaO:PySem.W.keepIn K (.ref yX)=true)
    (qaP:PySem.W.findIn K (.ref yX) "cells"=some none)
    (qaQ:PySem.W.findIn K (.ref yX) "backs"=some none)
    (qaR:PySem.W.plainGet K yY Str.empty=true)
    (qaS:PySem.W.hasDictIn K yY=true)
    (qaT:PySem.W.plainOver K yY=true)
    (qaU:PySem.W.findIn K (.ref yY) "__setattr__"=some (some (.builtin "object.__setattr__")))
    (qaV:PySem.W.makesIn K yY=true)
    (qaW:PySem.W.keepIn K (.ref yY)=true)
    (qaX:PySem.W.findIn K (.ref yY) "cells"=some none)
    (qaY:PySem.W.findIn K (.ref yY) "backs"=some none)
    (qaZ:PySem.W.plainGet K yV Str.empty=true)
    (qa0:PySem.W.hasDictIn K yV=true)
    (qa1:PySem.W.plainOver K yV=true)
    (qa2:PySem.W.findIn K (.ref yV) "__setattr__"=some (some (.builtin "object.__setattr__")))
    (qa3:PySem.W.makesIn K yV=true)
    (qa4:PySem.W.keepIn K (.ref yV)=true)
    (qa5:PySem.W.findIn K (.ref yV) "word"=some none)
    (qa6:PySem.W.plainGet K yJ Str.empty=true)
    (qa7:PySem.W.hasDictIn K yJ=true)
    (qa8:PySem.W.plainOver K yJ=true)
    (qa9:PySem.W.findIn K (.ref yJ) "__setattr__"=some (some (.builtin "object.__setattr__")))
    (qba:PySem.W.makesIn K yJ=true)
    (qbb:PySem.W.keepIn K (.ref yJ)=true)
    (qbc:PySem.W.findIn K (.ref yJ) "word"=some none)
    (qbd:PySem.W.plainGet K yW Str.empty=true)
    (qbe:PySem.W.hasDictIn K yW=true)
    (qbf:PySem.W.plainOver K yW=true)
    (qbg:PySem.W.findIn K (.ref yW) "__setattr__"=some (some (.builtin "object.__setattr__")))
    (qbh:PySem.W.makesIn K yW=true)
    (qbi:PySem.W.keepIn K (.ref yW)=true)
    (qbj:PySem.W.findIn K (.ref yW) "word"=some none)
    (qbk:PySem.W.plainGet K yU Str.empty=true)
    (qbl:PySem.W.hasDictIn K yU=true)
    (qbm:PySem.W.plainOver K yU=true)
    (qbn:PySem.W.findIn K (.ref yU) "__setattr__"=some (some (.builtin "object.__setattr__")))
    (qbo:PySem.W.makesIn K yU=true)
    (qbp:PySem.W.keepIn K (.ref yU)=true)
    (qbq:PySem.W.findIn K (.ref yU) "word"=some none)
    (qbr:PySem.W.findIn K (.ref yU) "jammed"=some none)
    (qbs:PySem.W.plainGet K yK Str.empty=true)
    (qbt:PySem.W.hasDictIn K yK=true)
    (qbu:PySem.W.plainOver K yK=true)
    (qbv:PySem.W.findIn K (.ref yK) "__setattr__"=some (some (.builtin "object.__setattr__")))
    (qbw:PySem.W.makesIn K yK=true)
    (qbx:PySem.W.keepIn K (.ref yK)=true)
    (qby:PySem.W.findIn K (.ref yK) "job"=some none)
    (qbz:PySem.W.findIn K (.ref yK) "inks"=some none)
    (qbA:PySem.W.findIn K (.ref yK) "passed"=some none)
    (qbB:PySem.W.findIn K (.ref yK) "printer"=some none)
    (qbC:PySem.W.findIn K (.ref yK) "slipped"=some none)
    (qbD:PySem.W.findIn K (.ref yK) "broken"=some none)
    (qbE:PySem.W.plainGet K yG Str.empty=true)
    (qbF:PySem.W.hasDictIn K yG=true)
    (qbG:PySem.W.plainOver K yG=true)
    (qbH:PySem.W.findIn K (.ref yG) "__setattr__"=some (some (.builtin "object.__setattr__")))
    (qbI:PySem.W.makesIn K yG=true)
    (qbJ:PySem.W.keepIn K (.ref yG)=true)
    (qbK:PySem.W.findIn K (.ref yG) "name"=some none)
    (qbL:PySem.W.findIn K (.ref yG) "asker"=some none)
    (qbM:PySem.W.findIn K (.ref yG) "pages"=some none)
    (qbN:PySem.W.findIn K (.ref yG) "copies"=some none)
    (qbO:PySem.W.findIn K (.ref yG) "layout"=some none)
    (qbP:PySem.W.findIn K (.ref yG) "paper"=some none)
    (qbQ:PySem.W.findIn K (.ref yG) "cover"=some none)
    (qbR:PySem.W.findIn K (.ref yG) "colour"=some none)
    (qbS:PySem.W.findIn K (.ref yG) "staple"=some none)
    (qbT:PySem.W.findIn K (.ref yG) "after"=some none)
    (qbU:PySem.W.plainGet K cQ Str.empty=true)
    (qbV:PySem.W.hasDictIn K cQ=true)
    (qbW:PySem.W.plainOver K cQ=true)
    (qbX:PySem.W.findIn K (.ref cQ) "__setattr__"=some (some (.builtin "object.__setattr__")))
    (qbY:PySem.W.makesIn K cQ=true)
    (qbZ:PySem.W.keepIn K (.ref cQ)=true)
    (qb0:PySem.W.findIn K (.ref cQ) "rooms"=some none)
    (qb1:PySem.W.findIn K (.ref cQ) "amounts"=some none)
    (qb2:PySem.W.plainGet K cZ Str.empty=true)
    (qb3:PySem.W.hasDictIn K cZ=true)
    (qb4:PySem.W.plainOver K cZ=true)
    (qb5:PySem.W.findIn K (.ref cZ) "__setattr__"=some (some (.builtin "object.__setattr__")))
    (qb6:PySem.W.makesIn K cZ=true)
    (qb7:PySem.W.keepIn K (.ref cZ)=true)
    (qb8:PySem.W.findIn K (.ref cZ) "name"=some none)
    (qb9:PySem.W.findIn K (.ref cZ) "can"=some none)
    (qca:PySem.W.findIn K (.ref cZ) "path"=some none)
    (qcb:PySem.W.findIn K (.ref cZ) "rooms"=some none)
    (qcc:PySem.W.findIn K (.ref cZ) "trays"=some none)
    (qcd:PySem.W.findIn K (.ref cZ) "inks"=some none)
    (qce:PySem.W.findIn K (.ref cZ) "state"=some none)
    (qcf:PySem.W.findIn K (.ref cZ) "inside"=some none)
    (qcg:jG9 K cV ["name"]=true)
    (qch:PySem.W.excMk K cV=true)
    (qci:PySem.W.keepIn K (.ref cV)=true)
    (qcj:jG9 K cK ["found"]=true)
    (qck:PySem.W.excMk K cK=true)
    (qcl:PySem.W.keepIn K (.ref cK)=true)
    (qcm:jG9 K cG ["name"]=true)
    (qcn:PySem.W.excMk K cG=true)
    (qco:PySem.W.keepIn K (.ref cG)=true)
    (qcp:jG9 K vQ ["name"]=true)
    (qcq:PySem.W.excMk K vQ=true)
    (qcr:PySem.W.keepIn K (.ref vQ)=true)
    (qcs:jG9 K vZ ["job"]=true)
    (qct:PySem.W.excMk K vZ=true)
    (qcu:PySem.W.keepIn K (.ref vZ)=true)
    (qcv:jG9 K vX ["job"]=true)
    (qcw:PySem.W.excMk K vX=true)
    (qcx:PySem.W.keepIn K (.ref vX)=true)
    (qcy:PySem.W.findIn K (.ref yZ) "per_sheet"=some (some (.ref f8)))
    (qcz:PySem.W.findIn K (.ref yX) "per_sheet"=some (some (.ref f8)))
    (qcA:PySem.W.findIn K (.ref yY) "per_sheet"=some (some (.ref f8)))
    (qcB:PySem.W.findIn K (.ref yZ) "sheet_from"=some (some (.ref f10)))
    (qcC:PySem.W.findIn K (.ref yX) "sheet_from"=some (some (.ref f10)))
    (qcD:PySem.W.findIn K (.ref yY) "sheet_from"=some (some (.ref f10)))
    (qcE:PySem.W.findIn K (.ref yZ) "laid"=some (some (.ref f9)))
    (qcF:PySem.W.findIn K (.ref yX) "laid"=some (some (.ref f9)))
    (qcG:PySem.W.findIn K (.ref yY) "laid"=some (some (.ref f9)))
    (qcH:PySem.W.findIn K (.ref yK) "each"=some (some (.ref f34)))
    (qcI:PySem.W.findIn K (.ref yK) "total"=some (some (.ref f35)))
    (qcJ:PySem.W.findIn K (.ref cZ) "within"=some (some (.ref f62)))
    (qcK:PySem.W.findIn K (.ref yK) "must_go_on"=some (some (.ref f44)))
    (qcL:PySem.W.findIn K (.ref cZ) "stands"=some (some (.ref f60)))
    (qcM:PySem.W.findIn K (.ref yK) "emptied"=some (some (.ref f48)))
    (qcN:PySem.W.findIn K (.ref yK) "whole"=some (some (.ref f38)))
    (qcO:PySem.W.findIn K (.ref yK) "must_be_placed"=some (some (.ref f45)))
    (qcP:PySem.W.findIn K (.ref yK) "upcoming"=some (some (.ref f40)))
    (qcQ:PySem.W.findIn K (.ref cZ) "push"=some (some (.ref f67)))
    (qcR:PySem.W.findIn K (.ref yK) "fed"=some (some (.ref f47)))
    (qcS:PySem.W.findIn K (.ref yK) "note_out"=some (some (.ref f49)))
    (qcT:PySem.W.findIn K (.ref cZ) "jam"=some (some (.ref f69)))
    (qcU:PySem.W.findIn K (.ref yK) "used_by"=some (some (.ref f46)))
    (qcV:PySem.W.findIn K (.ref cZ) "feed"=some (some (.ref f66)))
    (qcW:PySem.W.findIn K (.ref cQ) "know"=some (some (.ref f54)))
    (qcX:PySem.W.findIn K (.ref cQ) "put_all"=some (some (.ref f57)))
    (qcY:PySem.W.findIn K (.ref cQ) "know_all"=some (some (.ref f55)))
    (qcZ:PySem.W.findIn K (.ref yJ) "called"=some (some (.ref f20)))
    (qc0:PySem.W.findIn K (.ref yW) "called"=some (some (.ref f20)))
    (qc1:PySem.W.findIn K (.ref yU) "called"=some (some (.ref f20)))
    (qc2:PySem.W.findIn K (.ref cQ) "held"=some (some (.ref f52)))
    (qc3:PySem.W.findIn K (.ref cQ) "put"=some (some (.ref f56)))
    (qc4:PySem.W.findIn K (.ref cZ) "must_be_ready"=some (some (.ref f65)))
    (qc5:PySem.W.findIn K (.ref cZ) "paper_left"=some (some (.ref f61)))
    (qc6:PySem.W.findIn K (.ref cQ) "draw_all"=some (some (.ref f58)))
    (qc7:PySem.W.findIn K (.ref cZ) "oldest"=some (some (.ref f68)))
    (qc8:PySem.W.findIn K (.ref yJ) "jam"=some (some (.ref f26)))
    (qc9:PySem.W.findIn K (.ref yW) "jam"=some (some (.ref f21)))
    (qda:PySem.W.findIn K (.ref yU) "jam"=some (some (.ref f21)))
    (qdb:PySem.W.findIn K (.ref yJ) "leave"=some (some (.ref f27)))
    (qdc:PySem.W.findIn K (.ref yW) "leave"=some (some (.ref f30)))
    (qdd:PySem.W.findIn K (.ref yU) "leave"=some (some (.ref f23)))
    (qde:PySem.W.findIn K (.ref yJ) "mend"=some (some (.ref f22)))
    (qdf:PySem.W.findIn K (.ref yW) "mend"=some (some (.ref f29)))
    (qdg:PySem.W.findIn K (.ref yU) "mend"=some (some (.ref f22)))
    (qdh:PySem.W.findIn K (.ref yJ) "come"=some (some (.ref f24)))
    (qdi:PySem.W.findIn K (.ref yW) "come"=some (some (.ref f24)))
    (qdj:PySem.W.findIn K (.ref yU) "come"=some (some (.ref f32)))
    (qdk:PySem.W.findIn K (.ref yK) "step"=some (some (.ref f42)))
    (qdl:PySem.W.findIn K (.ref yK) "jam"=some (some (.ref f43)))
    (qdm:PySem.W.findIn K (.ref cZ) "leave"=some (some (.ref f70)))
    (qdn:PySem.W.findIn K (.ref cZ) "come"=some (some (.ref f72)))
    (qdo:PySem.W.findIn K (.ref cZ) "mend"=some (some (.ref f71)))
    (qdp:PySem.W.findIn K (.ref yK) "lack"=some (some (.ref f39)))
    (qdq:PySem.W.findIn K (.ref yK) "at"=some (some (.ref f37)))
    (qdr:PySem.W.findIn K (.ref yK) "out"=some (some (.ref f36)))
    (qds:PySem.W.findIn K (.ref cZ) "load"=some (some (.ref f63)))
    (qdt:PySem.W.findIn K (.ref cZ) "fill"=some (some (.ref f64)))
    (qdu:PySem.W.findIn K (.ref yK) "take"=some (some (.ref f41)))
    (qdv:PySem.W.specialIn K (.ref yQ) "__getattribute__"=some (some (.builtin "type.__getattribute__")))
    (qdw:PySem.W.readsIn K yQ (.type "type")=true)
    (qdx:PySem.W.findCls K (.ref yQ) (.type "type") "__init__"=some (.val (.ref f7)))
    (qdy:PySem.W.specialIn K (.ref yV) "__getattribute__"=some (some (.builtin "type.__getattribute__")))
    (qdz:PySem.W.readsIn K yV (.type "type")=true)
    (qdA:PySem.W.findCls K (.ref yV) (.type "type") "__init__"=some (.val (.ref f19)))
    (qdB:PySem.W.mroHas K cK (.ref cK)=true)
    (qdC:PySem.W.mroHas K vZ (.ref cK)=false)
    (qdD:PySem.W.mroHas K vZ (.ref vZ)=true)
    (qdE:PySem.W.mroHas K cG (.ref cK)=false)
    (qdF:PySem.W.mroHas K cG (.ref vZ)=false)
    (qdG:PySem.W.mroHas K cG (.ref cG)=true)
    (xcn:PySem.W.specialIn K (.builtin "object.__class__") "__get__"=some (some (.builtin "getset_descriptor.__get__")))
    (xct:PySem.W.takesIn K (.builtin "object.__class__")=some true)
    (xb1:PySem.W.specialIn K (.ref vY) "__getattribute__"=some (some (.builtin "type.__getattribute__")))
    (xb2:PySem.W.readsIn K vY (.type "type")=true)
    (xb3:PySem.W.findCls K (.ref vY) (.type "type") "__init__"=some (.val (.builtin "ValueError.__init__")))
    (xkt:jMX K [cV,cK,cG,vQ,vZ,vX] vY=true)
    {xSLIP:Int} {tSLIP:Tok}
    (qdH:PySem.W.nsIn K mainGlobals "SLIP"=some (some (.int xSLIP tSLIP)))
    (qdI:xSLIP=-1)
    {xUP:Str} {tUP:Tok}
    (gUP:PySem.W.nsIn K mainGlobals "UP"=some (some (.str xUP tUP)))
    (eUP:xUP=Str.ofString "up:")
    {xNOTHING:Int} {tNOTHING:Tok}
    (qdJ:PySem.W.nsIn K mainGlobals "NOTHING"=some (some (.int xNOTHING tNOTHING)))
    (qdK:xNOTHING=0)
    {xFIRST_PAGE:Int} {tFIRST_PAGE:Tok}
    (qdL:PySem.W.nsIn K mainGlobals "FIRST_PAGE"=some (some (.int xFIRST_PAGE tFIRST_PAGE)))
    (qdM:xFIRST_PAGE=1)
    {xCOVER_SHEET:Int} {tCOVER_SHEET:Tok}
    (qdN:PySem.W.nsIn K mainGlobals "COVER_SHEET"=some (some (.int xCOVER_SHEET tCOVER_SHEET)))
    (qdO:xCOVER_SHEET=0)
    {xREADY:Str} {tREADY:Tok}
    (qdP:PySem.W.nsIn K mainGlobals "READY"=some (some (.str xREADY tREADY)))
    (qdQ:xREADY=Str.ofString "ready")
    {xJAMMED:Str} {tJAMMED:Tok}
    (qdR:PySem.W.nsIn K mainGlobals "JAMMED"=some (some (.str xJAMMED tJAMMED)))
    (qdS:xJAMMED=Str.ofString "jammed")
    {xOFF:Str} {tOFF:Tok}
    (qdT:PySem.W.nsIn K mainGlobals "OFF"=some (some (.str xOFF tOFF)))
    (qdU:xOFF=Str.ofString "off")
    {xBLACK:Str} {tBLACK:Tok}
    (qdV:PySem.W.nsIn K mainGlobals "BLACK"=some (some (.str xBLACK tBLACK)))
    (qdW:xBLACK=Str.ofString "black")
    {xCOLOUR:Str} {tCOLOUR:Tok}
    (qdX:PySem.W.nsIn K mainGlobals "COLOUR"=some (some (.str xCOLOUR tCOLOUR)))
    (qdY:xCOLOUR=Str.ofString "colour")
    {xWITHIN:Str} {tWITHIN:Tok}
    (qdZ:PySem.W.nsIn K mainGlobals "WITHIN"=some (some (.str xWITHIN tWITHIN)))
    (qd0:xWITHIN=Str.ofString "within")
    (qd1:PySem.W.nsIn K mainGlobals "len"=some none)
    (qd2:PySem.W.nsIn K mainGlobals "range"=some none)
    (qd3:PySem.W.nsIn K mainGlobals "str"=some none)
    (qd4:PySem.W.nsIn K mainGlobals "int"=some none)
    (qd5:PySem.W.nsIn K mainGlobals "bool"=some none)
    (qd6:PySem.W.nsIn K mainGlobals "tuple"=some none)
    (qd7:PySem.W.nsIn K mainGlobals "list"=some none)
    (qd8:PySem.W.nsIn K mainGlobals "isinstance"=some none)
    (qd9:PySem.W.nsIn K mainGlobals "max"=some none)
    (qea:PySem.W.nsIn K mainGlobals "dict"=some none)
    (qeb:PySem.W.nsIn K mainGlobals "ValueError"=some none)
    : ∃ fd:FuncData,(∀ (s:Shared) (v:Value),BindsTo s fd ⟨[v],[]⟩ [("_law_script",v)])∧∀ base:Heap,K.In base→base.Ns mainGlobals mg→jAh l.prog w K mg base CX0 11 fa fd ["_law_script"] (sp_law K):=by
  have e:=hfa.symm.trans (PySem.W.mg_of X G a89)
  cases e
  have F0:=jAq (st:=jB1) l0 c0 k0
  have F1:=jAq (st:=jCr) l1 c1 k1
  have F2:=jAq (st:=jB2) l2 c2 k2
  have F3:=jAq (st:=jDP) l3 c3 k3
  have F4:=jAq (st:=jDc) l4 c4 k4
  have F5:=jAq (st:=jB3) l5 c5 k5
  have F6:=jAq (st:=jCR) l6 c6 k6
  have F7:=jAq (st:=jCs) l7 c7 k7
  have F8:=jAq (st:=jBq) l8 c8 k8
  have F9:=jAq (st:=jCt) l9 c9 k9
  have F10:=jAq (st:=jBm) l10 c10 k10
  have F11:=jAq (st:=jDQ) l11 c11 k11
  have F12:=jAq (st:=jDd) l12 c12 k12
  have F13:=jAq (st:=jB4) l13 c13 k13
  have F14:=jAq (st:=jDe) l14 c14 k14
  have F15:=jAq (st:=jDf) l15 c15 k15
  have F16:=jAq (st:=jDR) l16 c16 k16
  have F17:=jAq (st:=jES) l17 c17 k17
  have F18:=jAq (st:=jCu) l18 c18 k18
  have F19:=jAq (st:=jCS) l19 c19 k19
  have F20:=jAq (st:=jB5) l20 c20 k20
  have F21:=jAq (st:=jDg) l21 c21 k21
  have F22:=jAq (st:=jCT) l22 c22 k22
  have F23:=jAq (st:=jCv) l23 c23 k23
  have F24:=jAq (st:=jCU) l24 c24 k24
  have F25:=jAq (st:=jCV) l25 c25 k25
  have F26:=jAq (st:=jDh) l26 c26 k26
  have F27:=jAq (st:=jCw) l27 c27 k27
  have F28:=jAq (st:=jCx) l28 c28 k28
  have F29:=jAq (st:=jCy) l29 c29 k29
  have F30:=jAq (st:=jB6) l30 c30 k30
  have F31:=jAq (st:=jDi) l31 c31 k31
  have F32:=jAq (st:=jDj) l32 c32 k32
  have F33:=jAq (st:=jDS) l33 c33 k33
  have F34:=jAq (st:=jDT) l34 c34 k34
  have F35:=jAq (st:=jDk) l35 c35 k35
  have F36:=jAq (st:=jEq) l36 c36 k36
  have F37:=jAq (st:=jET) l37 c37 k37
  have F38:=jAq (st:=jDl) l38 c38 k38
  have F39:=jAq (st:=jDU) l39 c39 k39
  have F40:=jAq (st:=jB7) l40 c40 k40
  have F41:=jAq (st:=jDV) l41 c41 k41
  have F42:=jAq (st:=jDW) l42 c42 k42
  have F43:=jAq (st:=jEr) l43 c43 k43
  have F44:=jAq (st:=jBC) l44 c44 k44
  have F45:=jAq (st:=jBj) l45 c45 k45
  have F46:=jAq (st:=jCz) l46 c46 k46
  have F47:=jAq (st:=jEs) l47 c47 k47
  have F48:=jAq (st:=jCA) l48 c48 k48
  have F49:=jAq (st:=jB8) l49 c49 k49
  have F50:=jAq (st:=jDX) l50 c50 k50
  have F51:=jAq (st:=jCW) l51 c51 k51
  have F52:=jAq (st:=jCX) l52 c52 k52
  have F53:=jAq (st:=jEx) l53 c53 k53
  have F54:=jAq (st:=jCY) l54 c54 k54
  have F55:=jAq (st:=jBD) l55 c55 k55
  have F56:=jAq (st:=jDm) l56 c56 k56
  have F57:=jAq (st:=jBQ) l57 c57 k57
  have F58:=jAq (st:=jBE) l58 c58 k58
  have F59:=jAq (st:=jB9) l59 c59 k59
  have F60:=jAq (st:=jBF) l60 c60 k60
  have F61:=jAq (st:=jBk) l61 c61 k61
  have F62:=jAq (st:=jBG) l62 c62 k62
  have F63:=jAq (st:=jB_) l63 c63 k63
  have F64:=jAq (st:=jCa) l64 c64 k64
  have F65:=jAq (st:=jA9) l65 c65 k65
  have F66:=jAq (st:=jCb) l66 c66 k66
  have F67:=jAq (st:=jCc) l67 c67 k67
  have F68:=jAq (st:=jBH) l68 c68 k68
  have F69:=jAq (st:=jCB) l69 c69 k69
  have F70:=jAq (st:=jBR) l70 c70 k70
  have F71:=jAq (st:=jCd) l71 c71 k71
  have F72:=jAq (st:=jCe) l72 c72 k72
  have F73:=jAq (st:=jCf) l73 c73 k73
  have F74:=jAq (st:=jDY) l74 c74 k74
  have F75:=jAq (st:=jDn) l75 c75 k75
  have F76:=jAq (st:=jDo) l76 c76 k76
  have F77:=jAq (st:=jEt) l77 c77 k77
  have F78:=jAq (st:=jDp) l78 c78 k78
  have F79:=jAq (st:=jDZ) l79 c79 k79
  have F80:=jAq (st:=jDq) l80 c80 k80
  have F81:=jAq (st:=jCg) l81 c81 k81
  have F82:=jAq (st:=jDr) l82 c82 k82
  have F83:=jAq (st:=jD0) l83 c83 k83
  have F84:=jAq (st:=jCC) l84 c84 k84
  have F85:=jAq (st:=jDs) l85 c85 k85
  have F86:=jAq (st:=jCZ) l86 c86 k86
  have F87:=jAq (st:=jCD) l87 c87 k87
  have F88:=jAq (st:=jBS) l88 c88 k88
  have F89:=jAq (st:=jFq) l89 c89 k89
  have b0:=F0.binds (ps:=["self","name"]) fun _ _ _ _ _ _=>bn2 fun _ _=>rfl
  have b1:=F1.binds (ps:=["self","found"]) fun _ _ _ _ _ _=>bn2 fun _ _=>rfl
  have b2:=F2.binds (ps:=["self","name"]) fun _ _ _ _ _ _=>bn2 fun _ _=>rfl
  have b3:=F3.binds (ps:=["self","name"]) fun _ _ _ _ _ _=>bn2 fun _ _=>rfl
  have b4:=F4.binds (ps:=["self","job"]) fun _ _ _ _ _ _=>bn2 fun _ _=>rfl
  have b5:=F5.binds (ps:=["self","job"]) fun _ _ _ _ _ _=>bn2 fun _ _=>rfl
  have b6:=F6.binds (ps:=["first","many","pages"]) fun _ _ _ _ _ _=>bn3 fun _ _ _=>rfl
  have b7:=F7.binds (ps:=["self","cells","backs"]) fun _ _ _ _ _ _=>bn3 fun _ _ _=>rfl
  have b8:=F8.binds (ps:=["self"]) fun _ _ _ _ _ _=>bn1 fun _=>rfl
  have b9:=F9.binds (ps:=["self","pages"]) fun _ _ _ _ _ _=>bn2 fun _ _=>rfl
  have b10:=F10.binds (ps:=["self","first","pages"]) fun _ _ _ _ _ _=>bn3 fun _ _ _=>rfl
  have b11:=F11.binds (ps:=["self"]) fun _ _ _ _ _ _=>bn1 fun _=>rfl
  have b12:=F12.binds (ps:=["self"]) fun _ _ _ _ _ _=>bn1 fun _=>rfl
  have b13:=F13.binds (ps:=["self","many"]) fun _ _ _ _ _ _=>bn2 fun _ _=>rfl
  have b14:=F14.binds (ps:=["text"]) fun _ _ _ _ _ _=>bn1 fun _=>rfl
  have b15:=F15.binds (ps:=["job"]) fun _ _ _ _ _ _=>bn1 fun _=>rfl
  have b16:=F16.binds (ps:=["job","sheet"]) fun _ _ _ _ _ _=>bn2 fun _ _=>rfl
  have b17:=F17.binds (ps:=["sheet","colour"]) fun _ _ _ _ _ _=>bn2 fun _ _=>rfl
  have b18:=F18.binds (ps:=["page","colour"]) fun _ _ _ _ _ _=>bn2 fun _ _=>rfl
  have b19:=F19.binds (ps:=["self","word"]) fun _ _ _ _ _ _=>bn2 fun _ _=>rfl
  have b20:=F20.binds (ps:=["self"]) fun _ _ _ _ _ _=>bn1 fun _=>rfl
  have b21:=F21.binds (ps:=["self"]) fun _ _ _ _ _ _=>bn1 fun _=>rfl
  have b22:=F22.binds (ps:=["self"]) fun _ _ _ _ _ _=>bn1 fun _=>rfl
  have b23:=F23.binds (ps:=["self"]) fun _ _ _ _ _ _=>bn1 fun _=>rfl
  have b24:=F24.binds (ps:=["self"]) fun _ _ _ _ _ _=>bn1 fun _=>rfl
  have b25:=F25.binds (ps:=["self"]) fun _ _ _ _ _ _=>bn1 fun _=>rfl
  have b26:=F26.binds (ps:=["self"]) fun _ _ _ _ _ _=>bn1 fun _=>rfl
  have b27:=F27.binds (ps:=["self"]) fun _ _ _ _ _ _=>bn1 fun _=>rfl
  have b28:=F28.binds (ps:=["self"]) fun _ _ _ _ _ _=>bn1 fun _=>rfl
  have b29:=F29.binds (ps:=["self"]) fun _ _ _ _ _ _=>bn1 fun _=>rfl
  have b30:=F30.binds (ps:=["self"]) fun _ _ _ _ _ _=>bn1 fun _=>rfl
  have b31:=F31.binds (ps:=["self","jammed"]) fun _ _ _ _ _ _=>bn2 fun _ _=>rfl
  have b32:=F32.binds (ps:=["self"]) fun _ _ _ _ _ _=>bn1 fun _=>rfl
  have b33:=F33.binds (ps:=["self","job"]) fun _ _ _ _ _ _=>bn2 fun _ _=>rfl
  have b34:=F34.binds (ps:=["self"]) fun _ _ _ _ _ _=>bn1 fun _=>rfl
  have b35:=F35.binds (ps:=["self"]) fun _ _ _ _ _ _=>bn1 fun _=>rfl
  have b36:=F36.binds (ps:=["self"]) fun _ _ _ _ _ _=>bn1 fun _=>rfl
  have b37:=F37.binds (ps:=["self"]) fun _ _ _ _ _ _=>bn1 fun _=>rfl
  have b38:=F38.binds (ps:=["self"]) fun _ _ _ _ _ _=>bn1 fun _=>rfl
  have b39:=F39.binds (ps:=["self"]) fun _ _ _ _ _ _=>bn1 fun _=>rfl
  have b40:=F40.binds (ps:=["self"]) fun _ _ _ _ _ _=>bn1 fun _=>rfl
  have b41:=F41.binds (ps:=["self","printer"]) fun _ _ _ _ _ _=>bn2 fun _ _=>rfl
  have b42:=F42.binds (ps:=["self"]) fun _ _ _ _ _ _=>bn1 fun _=>rfl
  have b43:=F43.binds (ps:=["self","saved"]) fun _ _ _ _ _ _=>bn2 fun _ _=>rfl
  have b44:=F44.binds (ps:=["self"]) fun _ _ _ _ _ _=>bn1 fun _=>rfl
  have b45:=F45.binds (ps:=["self"]) fun _ _ _ _ _ _=>bn1 fun _=>rfl
  have b46:=F46.binds (ps:=["self","tag"]) fun _ _ _ _ _ _=>bn2 fun _ _=>rfl
  have b47:=F47.binds (ps:=["self","tag"]) fun _ _ _ _ _ _=>bn2 fun _ _=>rfl
  have b48:=F48.binds (ps:=["self"]) fun _ _ _ _ _ _=>bn1 fun _=>rfl
  have b49:=F49.binds (ps:=["self","tags"]) fun _ _ _ _ _ _=>bn2 fun _ _=>rfl
  have b50:=F50.binds (ps:=["self","name","asker","pages","copies","layout","paper","cover","colour","staple","after"]) fun _ _ _ _ _ _=>bn11 fun _ _ _ _ _ _ _ _ _ _ _=>rfl
  have b51:=F51.binds (ps:=["self","rooms"]) fun _ _ _ _ _ _=>bn2 fun _ _=>rfl
  have b52:=F52.binds (ps:=["self","name"]) fun _ _ _ _ _ _=>bn2 fun _ _=>rfl
  have b53:=F53.binds (ps:=["self","name"]) fun _ _ _ _ _ _=>bn2 fun _ _=>rfl
  have b54:=F54.binds (ps:=["self","name"]) fun _ _ _ _ _ _=>bn2 fun _ _=>rfl
  have b55:=F55.binds (ps:=["self","rows"]) fun _ _ _ _ _ _=>bn2 fun _ _=>rfl
  have b56:=F56.binds (ps:=["self","name","many"]) fun _ _ _ _ _ _=>bn3 fun _ _ _=>rfl
  have b57:=F57.binds (ps:=["self","gifts"]) fun _ _ _ _ _ _=>bn2 fun _ _=>rfl
  have b58:=F58.binds (ps:=["self","wants"]) fun _ _ _ _ _ _=>bn2 fun _ _=>rfl
  have b59:=F59.binds (ps:=["self","name","can","path","papers","black","colour"]) fun _ _ _ _ _ _=>bn7 fun _ _ _ _ _ _ _=>rfl
  have b60:=F60.binds (ps:=["self"]) fun _ _ _ _ _ _=>bn1 fun _=>rfl
  have b61:=F61.binds (ps:=["self","kind"]) fun _ _ _ _ _ _=>bn2 fun _ _=>rfl
  have b62:=F62.binds (ps:=["self"]) fun _ _ _ _ _ _=>bn1 fun _=>rfl
  have b63:=F63.binds (ps:=["self","kind","many"]) fun _ _ _ _ _ _=>bn3 fun _ _ _=>rfl
  have b64:=F64.binds (ps:=["self","black","coloured"]) fun _ _ _ _ _ _=>bn3 fun _ _ _=>rfl
  have b65:=F65.binds (ps:=["self"]) fun _ _ _ _ _ _=>bn1 fun _=>rfl
  have b66:=F66.binds (ps:=["self","tag","kind","black","coloured"]) fun _ _ _ _ _ _=>bn5 fun _ _ _ _ _=>rfl
  have b67:=F67.binds (ps:=["self"]) fun _ _ _ _ _ _=>bn1 fun _=>rfl
  have b68:=F68.binds (ps:=["self"]) fun _ _ _ _ _ _=>bn1 fun _=>rfl
  have b69:=F69.binds (ps:=["self","saved"]) fun _ _ _ _ _ _=>bn2 fun _ _=>rfl
  have b70:=F70.binds (ps:=["self"]) fun _ _ _ _ _ _=>bn1 fun _=>rfl
  have b71:=F71.binds (ps:=["self"]) fun _ _ _ _ _ _=>bn1 fun _=>rfl
  have b72:=F72.binds (ps:=["self"]) fun _ _ _ _ _ _=>bn1 fun _=>rfl
  have b73:=F73.binds (ps:=["_law_script","_law_k"]) fun _ _ _ _ _ _=>bn2 fun _ _=>rfl
  have b74:=F74.binds (ps:=["_law_cell","_law_k","_law_many"]) fun _ _ _ _ _ _=>bn3 fun _ _ _=>rfl
  have b75:=F75.binds (ps:=["_law_cell","_law_turn"]) fun _ _ _ _ _ _=>bn2 fun _ _=>rfl
  have b76:=F76.binds (ps:=["_law_pages","_law_layout"]) fun _ _ _ _ _ _=>bn2 fun _ _=>rfl
  have b77:=F77.binds (ps:=["_law_num","_law_due_here"]) fun _ _ _ _ _ _=>bn2 fun _ _=>rfl
  have b78:=F78.binds (ps:=["_law_told","_law_due_here"]) fun _ _ _ _ _ _=>bn2 fun _ _=>rfl
  have b79:=F79.binds (ps:=["_law_m","_law_many"]) fun _ _ _ _ _ _=>bn2 fun _ _=>rfl
  have b80:=F80.binds (ps:=["_law_m"]) fun _ _ _ _ _ _=>bn1 fun _=>rfl
  have b81:=F81.binds (ps:=["_law_m"]) fun _ _ _ _ _ _=>bn1 fun _=>rfl
  have b82:=F82.binds (ps:=["_law_m","_law_word_here"]) fun _ _ _ _ _ _=>bn2 fun _ _=>rfl
  have b83:=F83.binds (ps:=["_law_m","_law_deed"]) fun _ _ _ _ _ _=>bn2 fun _ _=>rfl
  have b84:=F84.binds (ps:=["_law_run","_law_printer","_law_deed"]) fun _ _ _ _ _ _=>bn3 fun _ _ _=>rfl
  have b85:=F85.binds (ps:=["_law_run","_law_printer","_law_deed"]) fun _ _ _ _ _ _=>bn3 fun _ _ _=>rfl
  have b86:=F86.binds (ps:=["_law_found","_law_due_here"]) fun _ _ _ _ _ _=>bn2 fun _ _=>rfl
  have b87:=F87.binds (ps:=["_law_run","_law_printer","_law_m"]) fun _ _ _ _ _ _=>bn3 fun _ _ _=>rfl
  have b88:=F88.binds (ps:=["_law_cell","_law_k","_law_m"]) fun _ _ _ _ _ _=>bn3 fun _ _ _=>rfl
  have b89:=F89.binds (ps:=["_law_script"]) fun _ _ _ _ _ _=>bn1 fun _=>rfl
  have T:Txt K mg yQ yZ yX yY yV yJ yW yU yK yG cQ cZ cV cK cG vQ vZ vX vY:=⟨PySem.W.mg_none_of X G qd1,PySem.W.mg_none_of X G qd2,PySem.W.mg_none_of X G qd3,PySem.W.mg_none_of X G qd4,PySem.W.mg_none_of X G qd5,PySem.W.mg_none_of X G qd6,PySem.W.mg_none_of X G qd7,PySem.W.mg_none_of X G qd8,PySem.W.mg_none_of X G qd9,PySem.W.mg_none_of X G qea,PySem.W.mg_none_of X G qeb,⟨⟨tSLIP,by rw [← qdI];exact PySem.W.mg_of X G qdH⟩⟩,⟨⟨tUP,by rw [← eUP];exact PySem.W.mg_of X G gUP⟩⟩,⟨⟨tNOTHING,by rw [← qdK];exact PySem.W.mg_of X G qdJ⟩⟩,⟨⟨tFIRST_PAGE,by rw [← qdM];exact PySem.W.mg_of X G qdL⟩⟩,⟨⟨tCOVER_SHEET,by rw [← qdO];exact PySem.W.mg_of X G qdN⟩⟩,⟨⟨tREADY,by rw [← qdQ];exact PySem.W.mg_of X G qdP⟩⟩,⟨⟨tJAMMED,by rw [← qdS];exact PySem.W.mg_of X G qdR⟩⟩,⟨⟨tOFF,by rw [← qdU];exact PySem.W.mg_of X G qdT⟩⟩,⟨⟨tBLACK,by rw [← qdW];exact PySem.W.mg_of X G qdV⟩⟩,⟨⟨tCOLOUR,by rw [← qdY];exact PySem.W.mg_of X G qdX⟩⟩,⟨⟨tWITHIN,by rw [← qd0];exact PySem.W.mg_of X G qdZ⟩⟩,⟨qat,qau,qav,qaw⟩,PySem.W.mg_of X G qaa,qaz,qaA,⟨qaB,qaC,qaD,qaE⟩,PySem.W.mg_of X G qab,qaH,qaI,⟨qaJ,qaK,qaL,qaM⟩,PySem.W.mg_of X G qac,qaP,qaQ,⟨qaR,qaS,qaT,qaU⟩,PySem.W.mg_of X G qad,qaX,qaY,⟨qaZ,qa0,qa1,qa2⟩,PySem.W.mg_of X G qae,qa5,⟨qa6,qa7,qa8,qa9⟩,PySem.W.mg_of X G qaf,qbc,⟨qbd,qbe,qbf,qbg⟩,PySem.W.mg_of X G qag,qbj,⟨qbk,qbl,qbm,qbn⟩,PySem.W.mg_of X G qah,qbq,qbr,⟨qbs,qbt,qbu,qbv⟩,PySem.W.mg_of X G qai,qby,qbz,qbA,qbB,qbC,qbD,⟨qbE,qbF,qbG,qbH⟩,PySem.W.mg_of X G qaj,qbK,qbL,qbM,qbN,qbO,qbP,qbQ,qbR,qbS,qbT,⟨qbU,qbV,qbW,qbX⟩,PySem.W.mg_of X G qak,qb0,qb1,⟨qb2,qb3,qb4,qb5⟩,PySem.W.mg_of X G qal,qb8,qb9,qca,qcb,qcc,qcd,qce,qcf,qdB,qdC,qdD,qdE,qdF,qdG,XCl.of qcg qch xcn xct,PySem.W.mg_of X G qam,XCl.of qcj qck xcn xct,PySem.W.mg_of X G qan,XCl.of qcm qcn xcn xct,PySem.W.mg_of X G qao,XCl.of qcp qcq xcn xct,PySem.W.mg_of X G qap,XCl.of qcs qct xcn xct,PySem.W.mg_of X G qaq,XCl.of qcv qcw xcn xct,PySem.W.mg_of X G qar,⟨xb1,xb2,xb3⟩,PySem.W.mg_of X G qas,xkt⟩
  refine ⟨PySem.W.fnOf "law" "law" (jAm jFq) (jAk jFq) (jAb jFq) .none kV89 dc89 pm89 an89 cd89 ct89,fun s v=>.of_eq rfl,fun base _ _=>?_⟩
  have D__law_word:Dfn l.prog w K mg base 1 "_law_word" ["_law_cell","_law_turn"] (jFO K):=⟨_,_,jK5 F75 T,b75,k75,PySem.W.mg_of X G a75⟩
  have okk51:jAh l.prog w K mg base CX0 1 _ _ ["self","rooms"] (jEa cQ):=jJ0 F51 T
  have M_Stock:MkD l.prog w K mg base 1 "Stock" cQ ["self","rooms"] (jEa cQ):=⟨_,_,⟨qbY,a51,i51,qbZ⟩,okk51,b51,PySem.W.mg_of X G qak⟩
  have okk19:jAh l.prog w K mg base CX0 1 _ _ ["self","word"] (jBW K):=jJ6 F19 T
  have M_State:MkD l.prog w K mg base 1 "State" yV ["self","word"] (jBW K):=⟨_,_,⟨qa3,a19,i19,qa4⟩,okk19,b19,PySem.W.mg_of X G qae⟩
  have I_State:InD l.prog w K mg base 1 "State" yV ["self","word"] (jBW K):=⟨_,_,⟨qdy,qdz,qdA⟩,okk19,b19,k19,PySem.W.mg_of X G qae⟩
  have okk25:jAh l.prog w K mg base CX0 2 _ _ ["self"] (jDC yJ (jDt .rd)):=jKb F25 T I_State
  have M_Ready:MkD l.prog w K mg base 2 "Ready" yJ ["self"] (jDC yJ (jDt .rd)):=⟨_,_,⟨qba,a25,i25,qbb⟩,okk25,b25,PySem.W.mg_of X G qaf⟩
  have okk59:jAh l.prog w K mg base CX0 4 _ _ ["self","name","can","path","papers","black","colour"] (jFv cZ cQ yJ yW yU):=jIN F59 T M_Stock M_Ready
  have M_Printer:MkD l.prog w K mg base 4 "Printer" cZ ["self","name","can","path","papers","black","colour"] (jFv cZ cQ yJ yW yU):=⟨_,_,⟨qb6,a59,i59,qb7⟩,okk59,b59,PySem.W.mg_of X G qal⟩
  have D_is_coloured:Dfn l.prog w K mg base 1 "is_coloured" ["page","colour"] (jEW K):=⟨_,_,jJo F18 T,b18,k18,PySem.W.mg_of X G a18⟩
  have D_ink_of:Dfn l.prog w K mg base 2 "ink_of" ["sheet","colour"] (jHb K):=⟨_,_,jM8 F17 T D_is_coloured,b17,k17,PySem.W.mg_of X G a17⟩
  have okk7:jAh l.prog w K mg base CX0 1 _ _ ["self","cells","backs"] (jBI K):=jJk F7 T
  have M_Layout:MkD l.prog w K mg base 1 "Layout" yQ ["self","cells","backs"] (jBI K):=⟨_,_,⟨qax,a7,i7,qay⟩,okk7,b7,PySem.W.mg_of X G qaa⟩
  have I_Layout:InD l.prog w K mg base 1 "Layout" yQ ["self","cells","backs"] (jBI K):=⟨_,_,⟨qdv,qdw,qdx⟩,okk7,b7,k7,PySem.W.mg_of X G qaa⟩
  have okk13:jAh l.prog w K mg base CX0 2 _ _ ["self","many"] (jDu yY):=jIP F13 T I_Layout
  have M_Several:MkD l.prog w K mg base 2 "Several" yY ["self","many"] (jDu yY):=⟨_,_,⟨qaV,a13,i13,qaW⟩,okk13,b13,PySem.W.mg_of X G qad⟩
  have okk11:jAh l.prog w K mg base CX0 2 _ _ ["self"] (jDG yZ [("cells",.int 1),("backs",.bl false)]):=jLx F11 T I_Layout
  have M_One:MkD l.prog w K mg base 2 "One" yZ ["self"] (jDG yZ [("cells",.int 1),("backs",.bl false)]):=⟨_,_,⟨qaF,a11,i11,qaG⟩,okk11,b11,PySem.W.mg_of X G qab⟩
  have okk12:jAh l.prog w K mg base CX0 2 _ _ ["self"] (jDG yX [("cells",.int 1),("backs",.bl true)]):=jKZ F12 T I_Layout
  have M_Both:MkD l.prog w K mg base 2 "Both" yX ["self"] (jDG yX [("cells",.int 1),("backs",.bl true)]):=⟨_,_,⟨qaN,a12,i12,qaO⟩,okk12,b12,PySem.W.mg_of X G qac⟩
  have D_layout_of:Dfn l.prog w K mg base 4 "layout_of" ["text"] (jFM yZ yX yY):=⟨_,_,jK1 F14 T M_Several M_One M_Both,b14,k14,PySem.W.mg_of X G a14⟩
  have okk8:jAh l.prog w K mg base CX0 1 _ _ ["self"] (jED yZ yX yY):=jGZ F8 T
  have D_cells_from:Dfn l.prog w K mg base 1 "cells_from" ["first","many","pages"] (jFh K):=⟨_,_,jKd F6 T,b6,k6,PySem.W.mg_of X G a6⟩
  have okk10:jAh l.prog w K mg base CX0 2 _ _ ["self","first","pages"] (jBn yZ yX yY):=jGO F10 T D_cells_from
  have D_One_per_sheet:MtE l.prog w K mg base 1 "per_sheet" yZ ["self"] (jED yZ yX yY):=⟨_,_,⟨qcy,i8,k8⟩,okk8.lift,b8⟩
  have D_Both_per_sheet:MtE l.prog w K mg base 1 "per_sheet" yX ["self"] (jED yZ yX yY):=⟨_,_,⟨qcz,i8,k8⟩,okk8.lift,b8⟩
  have D_Several_per_sheet:MtE l.prog w K mg base 1 "per_sheet" yY ["self"] (jED yZ yX yY):=⟨_,_,⟨qcA,i8,k8⟩,okk8.lift,b8⟩
  have D_One_sheet_from:MtE l.prog w K mg base 2 "sheet_from" yZ ["self","first","pages"] (jBn yZ yX yY):=⟨_,_,⟨qcB,i10,k10⟩,okk10.lift,b10⟩
  have D_Both_sheet_from:MtE l.prog w K mg base 2 "sheet_from" yX ["self","first","pages"] (jBn yZ yX yY):=⟨_,_,⟨qcC,i10,k10⟩,okk10.lift,b10⟩
  have D_Several_sheet_from:MtE l.prog w K mg base 2 "sheet_from" yY ["self","first","pages"] (jBn yZ yX yY):=⟨_,_,⟨qcD,i10,k10⟩,okk10.lift,b10⟩
  have okk9:jAh l.prog w K mg base CX0 3 _ _ ["self","pages"] (jD3 yZ yX yY):=jJm F9 T D_One_per_sheet D_Both_per_sheet D_Several_per_sheet D_One_sheet_from D_Both_sheet_from D_Several_sheet_from
  have D_One_laid:MtE l.prog w K mg base 3 "laid" yZ ["self","pages"] (jD3 yZ yX yY):=⟨_,_,⟨qcE,i9,k9⟩,okk9.lift,b9⟩
  have D_Both_laid:MtE l.prog w K mg base 3 "laid" yX ["self","pages"] (jD3 yZ yX yY):=⟨_,_,⟨qcF,i9,k9⟩,okk9.lift,b9⟩
  have D_Several_laid:MtE l.prog w K mg base 3 "laid" yY ["self","pages"] (jD3 yZ yX yY):=⟨_,_,⟨qcG,i9,k9⟩,okk9.lift,b9⟩
  have D_sheets_of:Dfn l.prog w K mg base 5 "sheets_of" ["job"] (jFN yG):=⟨_,_,jK3 F15 T D_layout_of D_One_laid D_Both_laid D_Several_laid,b15,k15,PySem.W.mg_of X G a15⟩
  have okk33:jAh l.prog w K mg base CX0 6 _ _ ["self","job"] (jFy yK yG):=jLL F33 T D_ink_of D_sheets_of
  have M_Run:MkD l.prog w K mg base 6 "Run" yK ["self","job"] (jFy yK yG):=⟨_,_,⟨qbw,a33,i33,qbx⟩,okk33,b33,PySem.W.mg_of X G qai⟩
  have D__law_is:Dfn l.prog w K mg base 1 "_law_is" ["_law_num","_law_due_here"] (jEL K):=⟨_,_,jMu F77 T,b77,k77,PySem.W.mg_of X G a77⟩
  have D__law_mix:Dfn l.prog w K mg base 1 "_law_mix" ["_law_cell","_law_k","_law_many"] (jE3 K):=⟨_,_,jLD F74 T,b74,k74,PySem.W.mg_of X G a74⟩
  have D__law_cell_at:Dfn l.prog w K mg base 1 "_law_cell_at" ["_law_script","_law_k"] (jEF K):=⟨_,_,jIR F73 T,b73,k73,PySem.W.mg_of X G a73⟩
  have okk50:jAh l.prog w K mg base CX0 1 _ _ ["self","name","asker","pages","copies","layout","paper","cover","colour","staple","after"] (jE2 yG):=jLz F50 T
  have M_Job:MkD l.prog w K mg base 1 "Job" yG ["self","name","asker","pages","copies","layout","paper","cover","colour","staple","after"] (jE2 yG):=⟨_,_,⟨qbI,a50,i50,qbJ⟩,okk50,b50,PySem.W.mg_of X G qaj⟩
  have D__law_deeds_by:Dfn l.prog w K mg base 2 "_law_deeds_by" ["_law_cell","_law_k","_law_m"] (jEj K):=⟨_,_,jH6 F88 T D__law_mix,b88,k88,PySem.W.mg_of X G a88⟩
  have D__law_each:Dfn l.prog w K mg base 1 "_law_each" ["_law_pages","_law_layout"] (jFQ K):=⟨_,_,jLf F76 T,b76,k76,PySem.W.mg_of X G a76⟩
  have D__law_tags:Dfn l.prog w K mg base 2 "_law_tags" ["_law_told","_law_due_here"] (jDJ K):=⟨_,_,jLe F78 T D__law_is,b78,k78,PySem.W.mg_of X G a78⟩
  have D__law_next:Dfn l.prog w K mg base 1 "_law_next" ["_law_m"] (jEN K):=⟨_,_,jLi F80 T,b80,k80,PySem.W.mg_of X G a80⟩
  have okk20:jAh l.prog w K mg base CX0 1 _ _ ["self"] (jC5 yJ yW yU):=jIt F20 T
  have D_Ready_called:MtE l.prog w K mg base 1 "called" yJ ["self"] (jC5 yJ yW yU):=⟨_,_,⟨qcZ,i20,k20⟩,okk20.lift,b20⟩
  have D_Jammed_called:MtE l.prog w K mg base 1 "called" yW ["self"] (jC5 yJ yW yU):=⟨_,_,⟨qc0,i20,k20⟩,okk20.lift,b20⟩
  have D_Away_called:MtE l.prog w K mg base 1 "called" yU ["self"] (jC5 yJ yW yU):=⟨_,_,⟨qc1,i20,k20⟩,okk20.lift,b20⟩
  have okk60:jAh l.prog w K mg base CX0 2 _ _ ["self"] (jBN cZ cQ yJ yW yU):=jHG F60 T D_Ready_called D_Jammed_called D_Away_called
  have okk62:jAh l.prog w K mg base CX0 1 _ _ ["self"] (jC1 cZ cQ yJ yW yU):=jHI F62 T
  have okk34:jAh l.prog w K mg base CX0 1 _ _ ["self"] (jD4 yK yG cZ cQ yJ yW yU):=jLF F34 T
  have D_Run_each:MtE l.prog w K mg base 1 "each" yK ["self"] (jD4 yK yG cZ cQ yJ yW yU):=⟨_,_,⟨qcH,i34,k34⟩,okk34.lift,b34⟩
  have okk35:jAh l.prog w K mg base CX0 2 _ _ ["self"] (jD9 yK yG cZ cQ yJ yW yU):=jK9 F35 T D_Run_each
  have D_Printer_within:MtE l.prog w K mg base 1 "within" cZ ["self"] (jC1 cZ cQ yJ yW yU):=⟨_,_,⟨qcJ,i62,k62⟩,okk62.lift,b62⟩
  have D_Run_total:MtE l.prog w K mg base 2 "total" yK ["self"] (jD9 yK yG cZ cQ yJ yW yU):=⟨_,_,⟨qcI,i35,k35⟩,okk35.lift,b35⟩
  have okk40:jAh l.prog w K mg base CX0 3 _ _ ["self"] (jC2 yK yG cZ cQ yJ yW yU):=jIU F40 T D_Printer_within D_Run_total
  have okk39:jAh l.prog w K mg base CX0 2 _ _ ["self"] (jFw yK yG cZ cQ yJ yW yU):=jLH F39 T D_Run_each
  have okk38:jAh l.prog w K mg base CX0 3 _ _ ["self"] (jCL yK yG cZ cQ yJ yW yU):=jLa F38 T D_Run_total
  have okk37:jAh l.prog w K mg base CX0 1 _ _ ["self"] (jGR yK yG cZ cQ yJ yW yU):=jM_ F37 T
  have okk36:jAh l.prog w K mg base CX0 1 _ _ ["self"] (jF_ yK yG cZ cQ yJ yW yU):=jMo F36 T
  have D_Printer_stands:MtE l.prog w K mg base 2 "stands" cZ ["self"] (jBN cZ cQ yJ yW yU):=⟨_,_,⟨qcL,i60,k60⟩,okk60.lift,b60⟩
  have D_Run_upcoming:MtE l.prog w K mg base 3 "upcoming" yK ["self"] (jC2 yK yG cZ cQ yJ yW yU):=⟨_,_,⟨qcP,i40,k40⟩,okk40.lift,b40⟩
  have D_Run_lack:MtE l.prog w K mg base 2 "lack" yK ["self"] (jFw yK yG cZ cQ yJ yW yU):=⟨_,_,⟨qdp,i39,k39⟩,okk39.lift,b39⟩
  have D_Run_whole:MtE l.prog w K mg base 3 "whole" yK ["self"] (jCL yK yG cZ cQ yJ yW yU):=⟨_,_,⟨qcN,i38,k38⟩,okk38.lift,b38⟩
  have D_Run_at:MtE l.prog w K mg base 1 "at" yK ["self"] (jGR yK yG cZ cQ yJ yW yU):=⟨_,_,⟨qdq,i37,k37⟩,okk37.lift,b37⟩
  have D_Run_out:MtE l.prog w K mg base 1 "out" yK ["self"] (jF_ yK yG cZ cQ yJ yW yU):=⟨_,_,⟨qdr,i36,k36⟩,okk36.lift,b36⟩
  have D__law_stands:Dfn l.prog w K mg base 4 "_law_stands" ["_law_run","_law_printer","_law_m"] (jEZ yK yG vZ cK cG cZ cQ yJ yW yU):=⟨_,_,jJv F87 T D__law_is D__law_tags D__law_next D_Printer_stands D_Printer_within D_Run_upcoming D_Run_lack D_Run_whole D_Run_at D_Run_out,b87,k87,PySem.W.mg_of X G a87⟩
  have D__law_out:Dfn l.prog w K mg base 1 "_law_out" ["_law_m","_law_many"] (jE4 K):=⟨_,_,jLM F79 T,b79,k79,PySem.W.mg_of X G a79⟩
  have D__law_stepped:Dfn l.prog w K mg base 2 "_law_stepped" ["_law_m"] (jEO K):=⟨_,_,jIZ F81 T D__law_next D__law_out,b81,k81,PySem.W.mg_of X G a81⟩
  have D__law_lost:Dfn l.prog w K mg base 1 "_law_lost" ["_law_m","_law_word_here"] (jFU K):=⟨_,_,jLj F82 T,b82,k82,PySem.W.mg_of X G a82⟩
  have D__law_due:Dfn l.prog w K mg base 3 "_law_due" ["_law_m","_law_deed"] (jGn K):=⟨_,_,jLN F83 T D__law_out D__law_stepped D__law_lost,b83,k83,PySem.W.mg_of X G a83⟩
  have X_Nowhere:jCQ l.prog w K mg base 1 "Nowhere" vX ["self","job"] (jA8 vX "job"):=⟨⟨_,_,⟨qcw,a5,i5,qcx⟩,jIT F5 T,b5,PySem.W.mg_of X G qar⟩,by decide⟩
  have X_Over:jCQ l.prog w K mg base 1 "Over" vZ ["self","job"] (jA8 vZ "job"):=⟨⟨_,_,⟨qct,a4,i4,qcu⟩,jK7 F4 T,b4,PySem.W.mg_of X G qaq⟩,by decide⟩
  have okk44:jAh l.prog w K mg base (CXe l.prog w) 4 _ _ ["self"] (jCn yK yG vZ cZ cQ yJ yW yU):=jHM F44 T X_Over D_Run_whole
  have D_Run_must_go_on:MtE l.prog w K mg base 4 "must_go_on" yK ["self"] (jCn yK yG vZ cZ cQ yJ yW yU):=⟨_,_,⟨qcK,i44,k44⟩,okk44,b44⟩
  have okk45:jAh l.prog w K mg base (CXe l.prog w) 5 _ _ ["self"] (jBv yK yG vZ cZ cQ yJ yW yU):=jGD F45 T X_Nowhere D_Run_must_go_on
  have X_NotNow:jCQ l.prog w K mg base 1 "NotNow" cK ["self","found"] (jA8 cK "found"):=⟨⟨_,_,⟨qck,a1,i1,qcl⟩,jI_ F1 T,b1,PySem.W.mg_of X G qan⟩,by decide⟩
  have okk65:jAh l.prog w K mg base (CXe l.prog w) 3 _ _ ["self"] (jEB cK cZ cQ yJ yW yU):=jFK F65 T X_NotNow D_Printer_stands
  have okk68:jAh l.prog w K mg base CX0 1 _ _ ["self"] (jDF cZ cQ yJ yW yU):=jHK F68 T
  have D_Printer_must_be_ready:MtE l.prog w K mg base 3 "must_be_ready" cZ ["self"] (jEB cK cZ cQ yJ yW yU):=⟨_,_,⟨qc4,i65,k65⟩,okk65,b65⟩
  have D_Printer_oldest:MtE l.prog w K mg base 1 "oldest" cZ ["self"] (jDF cZ cQ yJ yW yU):=⟨_,_,⟨qc7,i68,k68⟩,okk68.lift,b68⟩
  have okk67:jAh l.prog w K mg base (CXe l.prog w) 4 _ _ ["self"] (jEC cK cZ cQ yJ yW yU):=jID F67 T D_Printer_must_be_ready D_Printer_oldest
  have D_paper_of:Dfn l.prog w K mg base 1 "paper_of" ["job","sheet"] (jGl yG):=⟨_,_,jLB F16 T,b16,k16,PySem.W.mg_of X G a16⟩
  have okk46:jAh l.prog w K mg base CX0 2 _ _ ["self","tag"] (jEb yK yG cZ cQ yJ yW yU):=jJp F46 T D_paper_of D_Run_each
  have X_Dry:jCQ l.prog w K mg base 1 "Dry" vQ ["self","name"] (jA8 vQ "name"):=⟨⟨_,_,⟨qcq,a3,i3,qcr⟩,jLv F3 T,b3,PySem.W.mg_of X G qap⟩,by decide⟩
  have X_Unknown:jCQ l.prog w K mg base 1 "Unknown" cV ["self","name"] (jA8 cV "name"):=⟨⟨_,_,⟨qch,a0,i0,qci⟩,jIo F0 T,b0,PySem.W.mg_of X G qam⟩,by decide⟩
  have okk54:jAh l.prog w K mg base (CXe l.prog w) 3 _ _ ["self","name"] (jGy cQ cV):=jJ2 F54 T X_Unknown
  have D_Stock_know:MtE l.prog w K mg base 3 "know" cQ ["self","name"] (jGy cQ cV):=⟨_,_,⟨qcW,i54,k54⟩,okk54,b54⟩
  have okk52:jAh l.prog w K mg base (CXe l.prog w) 4 _ _ ["self","name"] (jHv cQ cV):=jJ4 F52 T D_Stock_know
  have D_Stock_held:MtE l.prog w K mg base 4 "held" cQ ["self","name"] (jHv cQ cV):=⟨_,_,⟨qc2,i52,k52⟩,okk52,b52⟩
  have okk61:jAh l.prog w K mg base (CXe l.prog w) 5 _ _ ["self","kind"] (jCm cZ cQ yJ yW yU):=jGA F61 T D_Stock_held
  have okk55:jAh l.prog w K mg base (CXe l.prog w) 4 _ _ ["self","rows"] (jD7 cQ cV):=jHD F55 T D_Stock_know
  have D_Stock_know_all:MtE l.prog w K mg base 4 "know_all" cQ ["self","rows"] (jD7 cQ cV):=⟨_,_,⟨qcY,i55,k55⟩,okk55,b55⟩
  have okk58:jAh l.prog w K mg base (CXe l.prog w) 5 _ _ ["self","wants"] (jEz cQ cV vQ (-1) (fun _ am ws=>jBY am ws)):=jHE F58 T X_Dry D_Stock_know_all
  have D_Printer_paper_left:MtE l.prog w K mg base 5 "paper_left" cZ ["self","kind"] (jCm cZ cQ yJ yW yU):=⟨_,_,⟨qc5,i61,k61⟩,okk61,b61⟩
  have D_Stock_draw_all:MtE l.prog w K mg base 5 "draw_all" cQ ["self","wants"] (jEz cQ cV vQ (-1) (fun _ am ws=>jBY am ws)):=⟨_,_,⟨qc6,i58,k58⟩,okk58,b58⟩
  have okk66:jAh l.prog w K mg base (CXe l.prog w) 6 _ _ ["self","tag","kind","black","coloured"] (jFu cK cZ cQ yJ yW yU):=jIF F66 T X_Dry D_Printer_must_be_ready D_Printer_paper_left D_Stock_draw_all D_Printer_oldest
  have D_Run_used_by:MtE l.prog w K mg base 2 "used_by" yK ["self","tag"] (jEb yK yG cZ cQ yJ yW yU):=⟨_,_,⟨qcU,i46,k46⟩,okk46.lift,b46⟩
  have D_Printer_feed:MtE l.prog w K mg base 6 "feed" cZ ["self","tag","kind","black","coloured"] (jFu cK cZ cQ yJ yW yU):=⟨_,_,⟨qcV,i66,k66⟩,okk66,b66⟩
  have okk47:jAh l.prog w K mg base (CXe l.prog w) 7 _ _ ["self","tag"] (jGa yK yG cK cZ cQ yJ yW yU):=jMp F47 T D_Run_used_by D_Printer_feed
  have okk49:jAh l.prog w K mg base CX0 4 _ _ ["self","tags"] (jCh yK yG cZ cQ yJ yW yU):=jIW F49 T D_Run_whole
  have D_Run_must_be_placed:MtE l.prog w K mg base 5 "must_be_placed" yK ["self"] (jBv yK yG vZ cZ cQ yJ yW yU):=⟨_,_,⟨qcO,i45,k45⟩,okk45,b45⟩
  have D_Printer_push:MtE l.prog w K mg base 4 "push" cZ ["self"] (jEC cK cZ cQ yJ yW yU):=⟨_,_,⟨qcQ,i67,k67⟩,okk67,b67⟩
  have D_Run_fed:MtE l.prog w K mg base 7 "fed" yK ["self","tag"] (jGa yK yG cK cZ cQ yJ yW yU):=⟨_,_,⟨qcR,i47,k47⟩,okk47,b47⟩
  have D_Run_note_out:MtE l.prog w K mg base 4 "note_out" yK ["self","tags"] (jCh yK yG cZ cQ yJ yW yU):=⟨_,_,⟨qcS,i49,k49⟩,okk49.lift,b49⟩
  have okk42:jAh l.prog w K mg base (CXe l.prog w) 8 _ _ ["self"] (jEJ yK yG vZ cK cZ cQ yJ yW yU):=jLJ F42 T D_Run_must_be_placed D_Run_upcoming D_Printer_push D_Run_fed D_Run_note_out
  have X_TooMuch:jCQ l.prog w K mg base 1 "TooMuch" cG ["self","name"] (jA8 cG "name"):=⟨⟨_,_,⟨qcn,a2,i2,qco⟩,jIq F2 T,b2,PySem.W.mg_of X G qao⟩,by decide⟩
  have okk28:jAh l.prog w K mg base CX0 2 _ _ ["self"] (jDC yW (jDt .jm)):=jJd F28 T I_State
  have M_Jammed:MkD l.prog w K mg base 2 "Jammed" yW ["self"] (jDC yW (jDt .jm)):=⟨_,_,⟨qbh,a28,i28,qbi⟩,okk28,b28,PySem.W.mg_of X G qag⟩
  have okk26:jAh l.prog w K mg base CX0 4 _ _ ["self"] (jAR yJ yW yU cK (fun s=>s=.rd) 0):=jKU F26 T M_Jammed
  have okk21:jAh l.prog w K mg base (CXe l.prog w) 3 _ _ ["self"] (jAR yJ yW yU cK (fun s=>jA5 0 s=none) 0):=jKQ F21 T X_NotNow
  have D_Ready_jam:MtE l.prog w K mg base 4 "jam" yJ ["self"] (jAR yJ yW yU cK (fun s=>s=.rd) 0):=⟨_,_,⟨qc8,i26,k26⟩,okk26.lift,b26⟩
  have D_Jammed_jam:MtE l.prog w K mg base 3 "jam" yW ["self"] (jAR yJ yW yU cK (fun s=>jA5 0 s=none) 0):=⟨_,_,⟨qc9,i21,k21⟩,okk21,b21⟩
  have D_Away_jam:MtE l.prog w K mg base 3 "jam" yU ["self"] (jAR yJ yW yU cK (fun s=>jA5 0 s=none) 0):=⟨_,_,⟨qda,i21,k21⟩,okk21,b21⟩
  have okk69:jAh l.prog w K mg base (CXe l.prog w) 5 _ _ ["self","saved"] (jF1 cK cG cZ cQ yJ yW yU):=jJi F69 T X_TooMuch D_Ready_jam D_Jammed_jam D_Away_jam
  have D_Printer_jam:MtE l.prog w K mg base 5 "jam" cZ ["self","saved"] (jF1 cK cG cZ cQ yJ yW yU):=⟨_,_,⟨qcT,i69,k69⟩,okk69,b69⟩
  have okk43:jAh l.prog w K mg base (CXe l.prog w) 6 _ _ ["self","saved"] (jFe yK yG vZ cK cG cZ cQ yJ yW yU):=jMr F43 T D_Run_must_be_placed D_Printer_jam D_Run_note_out
  have okk31:jAh l.prog w K mg base CX0 2 _ _ ["self","jammed"] (jDD yU):=jKS F31 T I_State
  have M_Away:MkD l.prog w K mg base 2 "Away" yU ["self","jammed"] (jDD yU):=⟨_,_,⟨qbo,a31,i31,qbp⟩,okk31,b31,PySem.W.mg_of X G qah⟩
  have okk27:jAh l.prog w K mg base CX0 4 _ _ ["self"] (jAR yJ yW yU cK (fun s=>s=.rd) 2):=jJf F27 T M_Away
  have okk30:jAh l.prog w K mg base CX0 4 _ _ ["self"] (jAR yJ yW yU cK (fun s=>s=.jm) 2):=jIv F30 T M_Away
  have okk23:jAh l.prog w K mg base (CXe l.prog w) 3 _ _ ["self"] (jAR yJ yW yU cK (fun s=>jA5 2 s=none) 2):=jJb F23 T X_NotNow
  have D_Ready_leave:MtE l.prog w K mg base 4 "leave" yJ ["self"] (jAR yJ yW yU cK (fun s=>s=.rd) 2):=⟨_,_,⟨qdb,i27,k27⟩,okk27.lift,b27⟩
  have D_Jammed_leave:MtE l.prog w K mg base 4 "leave" yW ["self"] (jAR yJ yW yU cK (fun s=>s=.jm) 2):=⟨_,_,⟨qdc,i30,k30⟩,okk30.lift,b30⟩
  have D_Away_leave:MtE l.prog w K mg base 3 "leave" yU ["self"] (jAR yJ yW yU cK (fun s=>jA5 2 s=none) 2):=⟨_,_,⟨qdd,i23,k23⟩,okk23,b23⟩
  have okk70:jAh l.prog w K mg base (CXe l.prog w) 5 _ _ ["self"] (jE1 cK cZ cQ yJ yW yU):=jH2 F70 T D_Ready_leave D_Jammed_leave D_Away_leave
  have okk24:jAh l.prog w K mg base (CXe l.prog w) 3 _ _ ["self"] (jAR yJ yW yU cK (fun s=>jA5 3 s=none) 3):=jJ_ F24 T X_NotNow
  have okk32:jAh l.prog w K mg base CX0 4 _ _ ["self"] (jAR yJ yW yU cK (fun s=>∃ b,s=.aw b) 3):=jKW F32 T M_Jammed M_Ready
  have D_Ready_come:MtE l.prog w K mg base 3 "come" yJ ["self"] (jAR yJ yW yU cK (fun s=>jA5 3 s=none) 3):=⟨_,_,⟨qdh,i24,k24⟩,okk24,b24⟩
  have D_Jammed_come:MtE l.prog w K mg base 3 "come" yW ["self"] (jAR yJ yW yU cK (fun s=>jA5 3 s=none) 3):=⟨_,_,⟨qdi,i24,k24⟩,okk24,b24⟩
  have D_Away_come:MtE l.prog w K mg base 4 "come" yU ["self"] (jAR yJ yW yU cK (fun s=>∃ b,s=.aw b) 3):=⟨_,_,⟨qdj,i32,k32⟩,okk32.lift,b32⟩
  have okk72:jAh l.prog w K mg base (CXe l.prog w) 5 _ _ ["self"] (jCH 3 cK cZ cQ yJ yW yU):=jIL F72 T D_Ready_come D_Jammed_come D_Away_come D_Printer_stands
  have okk22:jAh l.prog w K mg base (CXe l.prog w) 3 _ _ ["self"] (jAR yJ yW yU cK (fun s=>jA5 1 s=none) 1):=jJ8 F22 T X_NotNow
  have okk29:jAh l.prog w K mg base CX0 4 _ _ ["self"] (jAR yJ yW yU cK (fun s=>s=.jm) 1):=jJh F29 T M_Ready
  have D_Ready_mend:MtE l.prog w K mg base 3 "mend" yJ ["self"] (jAR yJ yW yU cK (fun s=>jA5 1 s=none) 1):=⟨_,_,⟨qde,i22,k22⟩,okk22,b22⟩
  have D_Jammed_mend:MtE l.prog w K mg base 4 "mend" yW ["self"] (jAR yJ yW yU cK (fun s=>s=.jm) 1):=⟨_,_,⟨qdf,i29,k29⟩,okk29.lift,b29⟩
  have D_Away_mend:MtE l.prog w K mg base 3 "mend" yU ["self"] (jAR yJ yW yU cK (fun s=>jA5 1 s=none) 1):=⟨_,_,⟨qdg,i22,k22⟩,okk22,b22⟩
  have okk71:jAh l.prog w K mg base (CXe l.prog w) 5 _ _ ["self"] (jCH 1 cK cZ cQ yJ yW yU):=jIJ F71 T D_Ready_mend D_Jammed_mend D_Away_mend D_Printer_stands
  have D_Run_step:MtE l.prog w K mg base 8 "step" yK ["self"] (jEJ yK yG vZ cK cZ cQ yJ yW yU):=⟨_,_,⟨qdk,i42,k42⟩,okk42,b42⟩
  have D_Run_jam:MtE l.prog w K mg base 6 "jam" yK ["self","saved"] (jFe yK yG vZ cK cG cZ cQ yJ yW yU):=⟨_,_,⟨qdl,i43,k43⟩,okk43,b43⟩
  have D_Printer_leave:MtE l.prog w K mg base 5 "leave" cZ ["self"] (jE1 cK cZ cQ yJ yW yU):=⟨_,_,⟨qdm,i70,k70⟩,okk70,b70⟩
  have D_Printer_come:MtE l.prog w K mg base 5 "come" cZ ["self"] (jCH 3 cK cZ cQ yJ yW yU):=⟨_,_,⟨qdn,i72,k72⟩,okk72,b72⟩
  have D_Printer_mend:MtE l.prog w K mg base 5 "mend" cZ ["self"] (jCH 1 cK cZ cQ yJ yW yU):=⟨_,_,⟨qdo,i71,k71⟩,okk71,b71⟩
  have D__law_called:DfE l.prog w K mg base 9 "_law_called" ["_law_run","_law_printer","_law_deed"] (jEY yK yG vZ cK cG cZ cQ yJ yW yU):=⟨_,_,jJu F84 T D_Run_step D_Run_jam D_Printer_leave D_Printer_come D_Printer_mend,b84,k84,PySem.W.mg_of X G a84⟩
  have D__law_done:Dfn l.prog w K mg base 10 "_law_done" ["_law_run","_law_printer","_law_deed"] (jFV yK yG vZ cK cG cZ cQ yJ yW yU):=⟨_,_,jLn F85 T D__law_called,b85,k85,PySem.W.mg_of X G a85⟩
  have D__law_alike:Dfn l.prog w K mg base 3 "_law_alike" ["_law_found","_law_due_here"] (jFi K):=⟨_,_,jKf F86 T D__law_tags,b86,k86,PySem.W.mg_of X G a86⟩
  have okk57:jAh l.prog w K mg base (CXe l.prog w) 5 _ _ ["self","gifts"] (jEz cQ cV cG 1 jBT):=jH1 F57 T X_TooMuch D_Stock_know_all
  have D_Stock_put_all:MtE l.prog w K mg base 5 "put_all" cQ ["self","gifts"] (jEz cQ cV cG 1 jBT):=⟨_,_,⟨qcX,i57,k57⟩,okk57,b57⟩
  have okk56:jAh l.prog w K mg base (CXe l.prog w) 6 _ _ ["self","name","many"] (jIr cQ cV cG):=jKO F56 T D_Stock_put_all
  have D_Stock_put:MtE l.prog w K mg base 6 "put" cQ ["self","name","many"] (jIr cQ cV cG):=⟨_,_,⟨qc3,i56,k56⟩,okk56,b56⟩
  have okk63:jAh l.prog w K mg base (CXe l.prog w) 7 _ _ ["self","kind","many"] (jFs cZ cQ yJ yW yU):=jIz F63 T D_Stock_put
  have okk64:jAh l.prog w K mg base (CXe l.prog w) 6 _ _ ["self","black","coloured"] (jFt cZ cQ yJ yW yU):=jIB F64 T D_Stock_put_all
  have okk48:jAh l.prog w K mg base (CXe l.prog w) 5 _ _ ["self"] (jEc yK yG cZ cQ yJ yW yU):=jJr F48 T D_Printer_within D_Printer_push D_Run_note_out
  have D_Run_emptied:MtE l.prog w K mg base 5 "emptied" yK ["self"] (jEc yK yG cZ cQ yJ yW yU):=⟨_,_,⟨qcM,i48,k48⟩,okk48,b48⟩
  have okk41:jAh l.prog w K mg base (CXe l.prog w) 6 _ _ ["self","printer"] (jFx yK yG cZ cQ yJ yW yU):=jLI F41 T X_NotNow D_Run_must_go_on D_Printer_stands D_Run_emptied D_Run_whole
  have D_Printer_load:MtE l.prog w K mg base 7 "load" cZ ["self","kind","many"] (jFs cZ cQ yJ yW yU):=⟨_,_,⟨qds,i63,k63⟩,okk63,b63⟩
  have D_Printer_fill:MtE l.prog w K mg base 6 "fill" cZ ["self","black","coloured"] (jFt cZ cQ yJ yW yU):=⟨_,_,⟨qdt,i64,k64⟩,okk64,b64⟩
  have D_Run_take:MtE l.prog w K mg base 6 "take" yK ["self","printer"] (jFx yK yG cZ cQ yJ yW yU):=⟨_,_,⟨qdu,i41,k41⟩,okk41,b41⟩
  exact ok_law F89 T D__law_word M_Printer M_Run D__law_is D__law_mix D__law_cell_at M_Job D__law_deeds_by D__law_each D__law_tags D__law_stands D__law_due D__law_done D__law_alike D_Printer_load D_Printer_fill D_Run_take D_Printer_paper_left
theorem walk {l:PySem.W.OpenLaw} {q:Program} {loose:List Str} {XP:(Str→Option Value)→Heap→Prop} {YP:World→Heap→Prop} {d:DefRec} {K:Params→PySem.W.Frag} (hn:l.most=some 63) (hdf:d.params.defaults=[])
    (hY:∀ (w:World) (h:Heap),YP w h→(K w.params).In h)
    (F:∀ (w:World) (mg:Str→Option Value) (fa:Addr) (h:Heap),(K w.params).In h→h.Ns mainGlobals mg→mg d.name=some (.ref fa) →
      ∃ fd:FuncData,(∀ (s:Shared) (u:Value),BindsTo s fd ⟨[u],[]⟩ [("_law_script",u)])∧∀ base:Heap,(K w.params).In base→base.Ns mainGlobals mg→jAh l.prog w (K w.params) mg base CX0 11 fa fd ["_law_script"] (sp_law (K w.params))) :
    PySem.W.WalkO q loose XP YP l.row.toRowW d [] (fun f vs=>PySem.call f vs) :=
  L2.walk_of (n:=63) (k:=11) (x:="_law_script") (CX:=fun _=>CX0) (sp:=fun w=>sp_law (K w.params)) hn (by decide) hdf ⟨rfl,by decide,by decide⟩ hY F (fun _ _ a ns hl _ hS=>⟨a,rfl,⟨⟨ns,hS,hl⟩⟩,fun _=>rfl⟩) fun _ _ _ _ _ z=>z
end My
open PySem PySem.W PyProof.Rows
set_option maxRecDepth 100000 in
set_option maxHeartbeats 0 in
theorem PySem.Challenge.cw_spoolhall_k32_jams_and_going_on_holds : PySem.Challenge.rw_spoolhall_k32_jams_and_going_on.Holds := by
  w_on;o_law;k_head;(case hw=>w_witness2)
  k_fill
  refine My.walk (l:=PySem.Challenge.rw_spoolhall_k32_jams_and_going_on) rfl rfl (fun w h Y=>PySem.W.kIn_of Y) ?F
  case F =>
    intro w mg fa h KX G hmg
    refine' My.all_mk KX G hmg ?qaa ?qab ?qac ?qad ?qae ?qaf ?qag ?qah ?qai ?qaj ?qak ?qal ?qam ?qan ?qao ?qap ?qaq ?qar ?qas ?a0 ?i0 ?l0 ?c0 ?k0 ?a1 ?i1 ?l1 ?c1 ?k1 ?a2 ?i2 ?l2 ?c2 ?k2 ?a3 ?i3 ?l3 ?c3 ?k3 ?a4 ?i4 ?l4 ?c4 ?k4 ?a5 ?i5 ?l5 ?c5 ?k5 ?a6 ?l6 ?c6 ?k6 ?a7 ?i7 ?l7 ?c7 ?k7 ?a8 ?i8 ?l8 ?c8 ?k8 ?a9 ?i9 ?l9 ?c9 ?k9 ?a10 ?i10 ?l10 ?c10 ?k10 ?a11 ?i11 ?l11 ?c11 ?k11 ?a12 ?i12 ?l12 ?c12 ?k12 ?a13 ?i13 ?l13 ?c13 ?k13 ?a14 ?l14 ?c14 ?k14 ?a15 ?l15 ?c15 ?k15 ?a16 ?l16 ?c16 ?k16 ?a17 ?l17 ?c17 ?k17 ?a18 ?l18 ?c18 ?k18 ?a19 ?i19 ?l19 ?c19 ?k19 ?a20 ?i20 ?l20 ?c20 ?k20 ?a21 ?i21 ?l21 ?c21 ?k21 ?a22 ?i22 ?l22 ?c22 ?k22 ?a23 ?i23 ?l23 ?c23 ?k23 ?a24 ?i24 ?l24 ?c24 ?k24 ?a25 ?i25 ?l25 ?c25 ?k25 ?a26 ?i26 ?l26 ?c26 ?k26 ?a27 ?i27 ?l27 ?c27 ?k27 ?a28 ?i28 ?l28 ?c28 ?k28 ?a29 ?i29 ?l29 ?c29 ?k29 ?a30 ?i30 ?l30 ?c30 ?k30 ?a31 ?i31 ?l31 ?c31 ?k31 ?a32 ?i32 ?l32 ?c32 ?k32 ?a33 ?i33 ?l33 ?c33 ?k33 ?a34 ?i34 ?l34 ?c34 ?k34 ?a35 ?i35 ?l35 ?c35 ?k35 ?a36 ?i36 ?l36 ?c36 ?k36 ?a37 ?i37 ?l37 ?c37 ?k37 ?a38 ?i38 ?l38 ?c38 ?k38 ?a39 ?i39 ?l39 ?c39 ?k39 ?a40 ?i40 ?l40 ?c40 ?k40 ?a41 ?i41 ?l41 ?c41 ?k41 ?a42 ?i42 ?l42 ?c42 ?k42 ?a43 ?i43 ?l43 ?c43 ?k43 ?a44 ?i44 ?l44 ?c44 ?k44 ?a45 ?i45 ?l45 ?c45 ?k45 ?a46 ?i46 ?l46 ?c46 ?k46 ?a47 ?i47 ?l47 ?c47 ?k47 ?a48 ?i48 ?l48 ?c48 ?k48 ?a49 ?i49 ?l49 ?c49 ?k49 ?a50 ?i50 ?l50 ?c50 ?k50 ?a51 ?i51 ?l51 ?c51 ?k51 ?a52 ?i52 ?l52 ?c52 ?k52 ?a53 ?i53 ?l53 ?c53 ?k53 ?a54 ?i54 ?l54 ?c54 ?k54 ?a55 ?i55 ?l55 ?c55 ?k55 ?a56 ?i56 ?l56 ?c56 ?k56 ?a57 ?i57 ?l57 ?c57 ?k57 ?a58 ?i58 ?l58 ?c58 ?k58 ?a59 ?i59 ?l59 ?c59 ?k59 ?a60 ?i60 ?l60 ?c60 ?k60 ?a61 ?i61 ?l61 ?c61 ?k61 ?a62 ?i62 ?l62 ?c62 ?k62 ?a63 ?i63 ?l63 ?c63 ?k63 ?a64 ?i64 ?l64 ?c64 ?k64 ?a65 ?i65 ?l65 ?c65 ?k65 ?a66 ?i66 ?l66 ?c66 ?k66 ?a67 ?i67 ?l67 ?c67 ?k67 ?a68 ?i68 ?l68 ?c68 ?k68 ?a69 ?i69 ?l69 ?c69 ?k69 ?a70 ?i70 ?l70 ?c70 ?k70 ?a71 ?i71 ?l71 ?c71 ?k71 ?a72 ?i72 ?l72 ?c72 ?k72 ?a73 ?l73 ?c73 ?k73 ?a74 ?l74 ?c74 ?k74 ?a75 ?l75 ?c75 ?k75 ?a76 ?l76 ?c76 ?k76 ?a77 ?l77 ?c77 ?k77 ?a78 ?l78 ?c78 ?k78 ?a79 ?l79 ?c79 ?k79 ?a80 ?l80 ?c80 ?k80 ?a81 ?l81 ?c81 ?k81 ?a82 ?l82 ?c82 ?k82 ?a83 ?l83 ?c83 ?k83 ?a84 ?l84 ?c84 ?k84 ?a85 ?l85 ?c85 ?k85 ?a86 ?l86 ?c86 ?k86 ?a87 ?l87 ?c87 ?k87 ?a88 ?l88 ?c88 ?k88 ?a89 ?l89 ?c89 ?k89 ?qat ?qau ?qav ?qaw ?qax ?qay ?qaz ?qaA ?qaB ?qaC ?qaD ?qaE ?qaF ?qaG ?qaH ?qaI ?qaJ ?qaK ?qaL ?qaM ?qaN ?qaO ?qaP ?qaQ ?qaR ?qaS ?qaT ?qaU ?qaV ?qaW ?qaX ?qaY ?qaZ ?qa0 ?qa1 ?qa2 ?qa3 ?qa4 ?qa5 ?qa6 ?qa7 ?qa8 ?qa9 ?qba ?qbb ?qbc ?qbd ?qbe ?qbf ?qbg ?qbh ?qbi ?qbj ?qbk ?qbl ?qbm ?qbn ?qbo ?qbp ?qbq ?qbr ?qbs ?qbt ?qbu ?qbv ?qbw ?qbx ?qby ?qbz ?qbA ?qbB ?qbC ?qbD ?qbE ?qbF ?qbG ?qbH ?qbI ?qbJ ?qbK ?qbL ?qbM ?qbN ?qbO ?qbP ?qbQ ?qbR ?qbS ?qbT ?qbU ?qbV ?qbW ?qbX ?qbY ?qbZ ?qb0 ?qb1 ?qb2 ?qb3 ?qb4 ?qb5 ?qb6 ?qb7 ?qb8 ?qb9 ?qca ?qcb ?qcc ?qcd ?qce ?qcf ?qcg ?qch ?qci ?qcj ?qck ?qcl ?qcm ?qcn ?qco ?qcp ?qcq ?qcr ?qcs ?qct ?qcu ?qcv ?qcw ?qcx ?qcy ?qcz ?qcA ?qcB ?qcC ?qcD ?qcE ?qcF ?qcG ?qcH ?qcI ?qcJ ?qcK ?qcL ?qcM ?qcN ?qcO ?qcP ?qcQ ?qcR ?qcS ?qcT ?qcU ?qcV ?qcW ?qcX ?qcY ?qcZ ?qc0 ?qc1 ?qc2 ?qc3 ?qc4 ?qc5 ?qc6 ?qc7 ?qc8 ?qc9 ?qda ?qdb ?qdc ?qdd ?qde ?qdf ?qdg ?qdh ?qdi ?qdj ?qdk ?qdl ?qdm ?qdn ?qdo ?qdp ?qdq ?qdr ?qds ?qdt ?qdu ?qdv ?qdw ?qdx ?qdy ?qdz ?qdA ?qdB ?qdC ?qdD ?qdE ?qdF ?qdG ?xcn ?xct ?xb1 ?xb2 ?xb3 ?xkt ?qdH ?qdI ?gUP ?eUP ?qdJ ?qdK ?qdL ?qdM ?qdN ?qdO ?qdP ?qdQ ?qdR ?qdS ?qdT ?qdU ?qdV ?qdW ?qdX ?qdY ?qdZ ?qd0 ?qd1 ?qd2 ?qd3 ?qd4 ?qd5 ?qd6 ?qd7 ?qd8 ?qd9 ?qea ?qeb
    (case qaa|qab|qac|qad|qae|qaf|qag|qah|qai|qaj|qak|qal|qam|qan|qao|qap|qaq|qar|qas|a0|i0|l0|c0|k0|a1|i1|l1|c1|k1|a2|i2|l2|c2|k2|a3|i3|l3|c3|k3|a4|i4|l4|c4|k4|a5|i5|l5|c5|k5|a6|l6|c6|k6|a7|i7|l7|c7|k7|a8|i8|l8|c8|k8|a9|i9|l9|c9|k9|a10|i10|l10|c10|k10|a11|i11|l11|c11|k11|a12|i12|l12|c12|k12|a13|i13|l13|c13|k13|a14|l14|c14|k14|a15|l15|c15|k15|a16|l16|c16|k16|a17|l17|c17|k17|a18|l18|c18|k18|a19|i19|l19|c19|k19|a20|i20|l20|c20|k20|a21|i21|l21|c21|k21|a22|i22|l22|c22|k22|a23|i23|l23|c23|k23|a24|i24|l24|c24|k24|a25|i25|l25|c25|k25|a26|i26|l26|c26|k26|a27|i27|l27|c27|k27|a28|i28|l28|c28|k28|a29|i29|l29|c29|k29|a30|i30|l30|c30|k30|a31|i31|l31|c31|k31|a32|i32|l32|c32|k32|a33|i33|l33|c33|k33|a34|i34|l34|c34|k34|a35|i35|l35|c35|k35|a36|i36|l36|c36|k36|a37|i37|l37|c37|k37|a38|i38|l38|c38|k38|a39|i39|l39|c39|k39|a40|i40|l40|c40|k40|a41|i41|l41|c41|k41|a42|i42|l42|c42|k42|a43|i43|l43|c43|k43|a44|i44|l44|c44|k44|a45|i45|l45|c45|k45|a46|i46|l46|c46|k46|a47|i47|l47|c47|k47|a48|i48|l48|c48|k48|a49|i49|l49|c49|k49|a50|i50|l50|c50|k50|a51|i51|l51|c51|k51|a52|i52|l52|c52|k52|a53|i53|l53|c53|k53|a54|i54|l54|c54|k54|a55|i55|l55|c55|k55|a56|i56|l56|c56|k56|a57|i57|l57|c57|k57|a58|i58|l58|c58|k58|a59|i59|l59|c59|k59|a60|i60|l60|c60|k60|a61|i61|l61|c61|k61|a62|i62|l62|c62|k62|a63|i63|l63|c63|k63|a64|i64|l64|c64|k64|a65|i65|l65|c65|k65|a66|i66|l66|c66|k66|a67|i67|l67|c67|k67|a68|i68|l68|c68|k68|a69|i69|l69|c69|k69|a70|i70|l70|c70|k70|a71|i71|l71|c71|k71|a72|i72|l72|c72|k72|a73|l73|c73|k73|a74|l74|c74|k74|a75|l75|c75|k75|a76|l76|c76|k76|a77|l77|c77|k77|a78|l78|c78|k78|a79|l79|c79|k79|a80|l80|c80|k80|a81|l81|c81|k81|a82|l82|c82|k82|a83|l83|c83|k83|a84|l84|c84|k84|a85|l85|c85|k85|a86|l86|c86|k86|a87|l87|c87|k87|a88|l88|c88|k88|a89|l89|c89|k89|qat|qau|qav|qaw|qax|qay|qaz|qaA|qaB|qaC|qaD|qaE|qaF|qaG|qaH|qaI|qaJ|qaK|qaL|qaM|qaN|qaO|qaP|qaQ|qaR|qaS|qaT|qaU|qaV|qaW|qaX|qaY|qaZ|qa0|qa1|qa2|qa3|qa4|qa5|qa6|qa7|qa8|qa9|qba|qbb|qbc|qbd|qbe|qbf|qbg|qbh|qbi|qbj|qbk|qbl|qbm|qbn|qbo|qbp|qbq|qbr|qbs|qbt|qbu|qbv|qbw|qbx|qby|qbz|qbA|qbB|qbC|qbD|qbE|qbF|qbG|qbH|qbI|qbJ|qbK|qbL|qbM|qbN|qbO|qbP|qbQ|qbR|qbS|qbT|qbU|qbV|qbW|qbX|qbY|qbZ|qb0|qb1|qb2|qb3|qb4|qb5|qb6|qb7|qb8|qb9|qca|qcb|qcc|qcd|qce|qcf=>k_is)
    (case qcg|qch=>kernel_rfl)
    (case qci=>k_is)
    (case qcj|qck=>kernel_rfl)
    (case qcl=>k_is)
    (case qcm|qcn=>kernel_rfl)
    (case qco=>k_is)
    (case qcp|qcq=>kernel_rfl)
    (case qcr=>k_is)
    (case qcs|qct=>kernel_rfl)
    (case qcu=>k_is)
    (case qcv|qcw=>kernel_rfl)
    (case qcx|qcy|qcz|qcA|qcB|qcC|qcD|qcE|qcF|qcG|qcH|qcI|qcJ|qcK|qcL|qcM|qcN|qcO|qcP|qcQ|qcR|qcS|qcT|qcU|qcV|qcW|qcX|qcY|qcZ|qc0|qc1|qc2|qc3|qc4|qc5|qc6|qc7|qc8|qc9|qda|qdb|qdc|qdd|qde|qdf|qdg|qdh|qdi|qdj|qdk|qdl|qdm|qdn|qdo|qdp|qdq|qdr|qds|qdt|qdu|qdv|qdw|qdx|qdy|qdz|qdA=>k_is)
    (case qdB|qdC|qdD|qdE|qdF|qdG=>kernel_rfl)
    (case xcn|xct|xb1|xb2|xb3=>k_is)
    (case xkt=>kernel_rfl)
    (case qdH=>k_is)
    (case qdI=>rfl)
    (case gUP=>k_is)
    (case eUP=>first | rfl | decide +kernel)
    (case qdJ=>k_is)
    (case qdK=>rfl)
    (case qdL=>k_is)
    (case qdM=>rfl)
    (case qdN=>k_is)
    (case qdO=>rfl)
    (case qdP=>k_is)
    (case qdQ=>first | rfl | decide +kernel)
    (case qdR=>k_is)
    (case qdS=>first | rfl | decide +kernel)
    (case qdT=>k_is)
    (case qdU=>first | rfl | decide +kernel)
    (case qdV=>k_is)
    (case qdW=>first | rfl | decide +kernel)
    (case qdX=>k_is)
    (case qdY=>first | rfl | decide +kernel)
    (case qdZ=>k_is)
    (case qd0=>first | rfl | decide +kernel)
    (case qd1|qd2|qd3|qd4|qd5|qd6|qd7|qd8|qd9|qea|qeb=>k_is)
#print axioms PySem.Challenge.cw_spoolhall_k32_jams_and_going_on_holds
