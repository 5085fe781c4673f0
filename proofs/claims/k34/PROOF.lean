import PyProof.Rows.All
import Wide.All
import OpenK.AllK
import Wide.FinOn
import Lean
import PyProof.EqAt
import PyProof.EqKinds
import PyProof.TupleCall
import PyProof.EnumMake
import PyProof.Draws
import PyProof.InstStoreFacts
import PyProof.ExcArgs
import PyProof.ExcBaseAll.ValueError
import KE.KDictLaws
import OpenK.KOwn
import PyProof.ListRange
import PyProof.AttrMissHeap
import PyProof.MinMaxWalk
import PyProof.WalksMore
import PyProof.NeKinds
import KE.KDictList
import KE.KDictSum
import KE.KEqDict
import PySem.Challenge.RW_spoolhall_k34_dropped
set_option Elab.async false
set_option linter.all false
set_option genSizeOf false
set_option compiler.extract_closed false
set_option maxRecDepth 100000
namespace L2
open PySem PySem.Spec PyProof.Rows
noncomputable abbrev Key:=Sum Int Str
noncomputable def keyIs:Key→Value→Bool
  | .inl k,v=>Value.isInt k v
  | .inr x,v=>Value.isStrOf x v
noncomputable def keyH (w:World):Key→Int
  | .inl k=>hashInt k
  | .inr x=>hashStr w x
theorem keyIs_shape:∀ {k:Key} {v:Value},keyIs k v=true→(∃ i t,k=Sum.inl i∧v=Value.int i t)∨(∃ x t,k=Sum.inr x∧v=Value.str x t)
  | .inl i,v,h=>by
    obtain ⟨t,e⟩:=Value.isInt_shape (k:=i) (v:=v) h
    exact .inl ⟨i,t,rfl,e⟩
  | .inr x,v,h=>by
    obtain ⟨t,e⟩:=Value.isStrOf_shape (x:=x) (v:=v) h
    exact .inr ⟨x,t,rfl,e⟩
theorem keyIs_int (i:Int) (t:Tok):keyIs (.inl i) (.int i t)=true:=by simp [keyIs,Value.isInt]
theorem keyIs_str (x:Str) (t:Tok):keyIs (.inr x) (.str x t)=true:=by simp [keyIs,Value.isStrOf]
theorem key_ll (a b:Int):decide ((Sum.inl a:Key)=Sum.inl b)=(a == b):=by
  by_cases e:a=b
  · subst e;simp
  · have h:¬ (Sum.inl a:Key)=Sum.inl b:=fun q=>e (Sum.inl.inj q)
    rw [decide_eq_false h]
    exact (beq_eq_false_iff_ne.mpr e).symm
theorem key_rr (a b:Str):decide ((Sum.inr a:Key)=Sum.inr b)=decide (a=b):=by
  by_cases e:a=b
  · subst e;simp
  · have h:¬ (Sum.inr a:Key)=Sum.inr b:=fun q=>e (Sum.inr.inj q)
    rw [decide_eq_false h,decide_eq_false e]
theorem key_lr (a:Int) (b:Str):decide ((Sum.inl a:Key)=Sum.inr b)=false:=decide_eq_false (fun q=>nomatch q)
theorem key_rl (a:Str) (b:Int):decide ((Sum.inr a:Key)=Sum.inl b)=false:=decide_eq_false (fun q=>nomatch q)
noncomputable def mixKind (prog:Program) (w:World):PySem.KeyKind prog w Key where
  is:=keyIs
  hash:=keyH w
  inj:=fun v a b ha hb=>by
    rcases keyIs_shape ha with ⟨i,t,rfl,rfl⟩ | ⟨x,t,rfl,rfl⟩
    · rcases keyIs_shape hb with ⟨j,u,rfl,e⟩ | ⟨y,u,rfl,e⟩
      · injection e with e1 _;rw [e1]
      · exact nomatch e
    · rcases keyIs_shape hb with ⟨j,u,rfl,e⟩ | ⟨y,u,rfl,e⟩
      · exact nomatch e
      · injection e with e1 _;rw [e1]
  byValue:=fun k v h=>by
    rcases keyIs_shape h with ⟨i,t,rfl,rfl⟩ | ⟨x,t,rfl,rfl⟩ <;> rfl
  pyHash:=fun hv h=>by
    rcases keyIs_shape hv with ⟨i,t,rfl,rfl⟩ | ⟨x,t,rfl,rfl⟩
    · exact wpAny_pyHash_int h
    · exact wpAny_pyHash_str h
  eqBool:=fun hu hv h=>by
    rcases keyIs_shape hu with ⟨i,t,rfl,rfl⟩ | ⟨x,t,rfl,rfl⟩
    · rcases keyIs_shape hv with ⟨j,u,rfl,rfl⟩ | ⟨y,u,rfl,rfl⟩
      · rw [key_ll] at h;exact wpAny_eqBool_int h
      · rw [key_lr] at h;exact SeqAt.EqAt.int_str i t y u _ _ _ _ h
    · rcases keyIs_shape hv with ⟨j,u,rfl,rfl⟩ | ⟨y,u,rfl,rfl⟩
      · rw [key_rl] at h;exact SeqAt.EqAt.str_int x t j u _ _ _ _ h
      · rw [key_rr] at h;exact wpAny_eqBool_str h
  «strs»:=fun k x t v h=>by
    rcases keyIs_shape h with ⟨i,u,rfl,e⟩ | ⟨y,u,rfl,e⟩
    · exact nomatch e
    · injection e with e1 _
      subst e1
      cases v <;> rfl
theorem mixKind_int (prog:Program) (w:World) (i:Int) (t:Tok):(mixKind prog w).is (.inl i) (.int i t)=true:=keyIs_int i t
theorem mixKind_str (prog:Program) (w:World) (x:Str) (t:Tok):(mixKind prog w).is (.inr x) (.str x t)=true:=keyIs_str x t
end L2
namespace L2
open PySem PySem.Spec PyProof.Rows
inductive V where
  | non | bl (b:Bool) | int (i:Int) | str (x:Str) | byt (b:Array UInt8) | flt (b:UInt64) | ref (a:Addr) | ty (n:String)
  deriving DecidableEq
noncomputable def RelV:V→Value→Prop
  | .non,u=>u=Value.none
  | .bl b,u=>u=Value.bool b
  | .int i,u=>∃ t,u=Value.int i t
  | .str x,u=>∃ t,u=Value.str x t
  | .byt b,u=>∃ t,u=Value.bytes b t
  | .flt b,u=>∃ t,u=Value.float b t
  | .ref a,u=>u=Value.ref a
  | .ty n,u=>u=Value.type n
noncomputable abbrev Vals:List V→List Value→Prop:=Paired RelV
theorem Vals.length {xs:List V} {us:List Value} (r:Vals xs us):xs.length=us.length:=Paired.length r
theorem Vals.get:∀ {xs:List V} {us:List Value} {i:Nat} {x:V},Vals xs us→xs[i]?=some x→∃ u,us[i]?=some u∧RelV x u
  | _,_,_,_,.nil,e=>by simp at e
  | _,_,0,_,.cons r _,e=>by simp at e;subst e;exact ⟨_,rfl,r⟩
  | _,_,i + 1,x,.cons _ t,e=>by
    obtain ⟨u,h1,h2⟩:=Vals.get (i:=i) (x:=x) t (by simpa using e)
    exact ⟨u,by simpa using h1,h2⟩
theorem Vals.append:∀ {xs ys:List V} {us ws:List Value},Vals xs us→Vals ys ws→Vals (xs ++ ys) (us ++ ws)
  | _,_,_,_,.nil,s=>s
  | _,_,_,_,.cons r t,s=>.cons r (Vals.append t s)
theorem Vals.take:∀ {xs:List V} {us:List Value} (n:Nat),Vals xs us→Vals (xs.take n) (us.take n)
  | _,_,0,_=>.nil
  | _,_,_ + 1,.nil=>.nil
  | _,_,n + 1,.cons r t=>.cons r (Vals.take n t)
theorem Vals.drop:∀ {xs:List V} {us:List Value} (n:Nat),Vals xs us→Vals (xs.drop n) (us.drop n)
  | _,_,0,r=>r
  | _,_,_ + 1,.nil=>.nil
  | _,_,n + 1,.cons _ t=>Vals.drop n t
noncomputable def RelO:Option V→Option Value→Prop
  | some v,some u=>RelV v u
  | none,none=>True
  | _,_=>False
noncomputable def KV {κ:Type}:List (κ×V)→List (κ×Value)→Prop:=Paired fun (p:κ×V) (q:κ×Value)=>p.1=q.1∧RelV p.2 q.2
noncomputable def kV:Key→V
  | .inl i=>.int i
  | .inr x=>.str x
inductive HO where
  | lst (xs:List V)
  | tup (xs:List V)
  | dK (kvs:List (Key×V)) | dT (kvs:List (List Key×V))
  | set (S:Int→Bool) (n:Nat)
  | ins (C dx:Addr) (fs:List (Str×V))
  | own (x:Addr)
  | xd (fs:List (Str×V))
  | met (f x:Addr)
  | rng (lo hi:Int)
  | frz (o:Obj) (u:HO)
  | tbl (ps:Array Value)
  | ext (φ:Heap→Prop)
noncomputable abbrev Hp:=Addr→Option HO
noncomputable def upd (H:Hp) (a:Addr) (o:HO):Hp:=fun b=>if b=a then some o else H b
theorem upd_same {H:Hp} {a:Addr} {o:HO}:upd H a o a=some o:=by unfold upd;rw [if_pos rfl]
theorem upd_ne {H:Hp} {a b:Addr} {o:HO} (h:b≠a):upd H a o b=H b:=by unfold upd;rw [if_neg h]
theorem upd_upd {H:Hp} {a:Addr} {o u:HO}:upd (upd H a o) a u=upd H a u:=by
  funext b;unfold upd;split <;> rfl
theorem ne_of {H:Hp} {a b:Addr} {o u:HO} (h:H a=some o) (h':H b=some u) (d:o≠u):a≠b:=by
  intro e;subst e;rw [h] at h';exact d (Option.some.inj h')
theorem ne_of_none {H:Hp} {a b:Addr} {o:HO} (h:H a=some o) (h':H b=none):a≠b:=by
  intro e;subst e;rw [h] at h';cases h'
section
variable (P:Program) (w:World)
noncomputable def ObjOk (H:Hp) (h:Heap) (a:Addr):HO→Prop
  | .lst xs=>xs.length≤sizeLine∧∃ (its:List Value) (n:Nat),Vals xs its∧h.get? a=some { cls:=.type "list",data:=.seq its.toArray n }
  | .tup xs=>xs.length≤sizeLine∧∃ its:List Value,Vals xs its∧IsTup h a its.toArray
  | .dK kvs=>kvs.length≤sizeLine∧(a == sysModules)=false∧∃ vs,KV kvs vs∧h.DictOf (mixKind P w) a vs
  | .dT kvs=>kvs.length≤sizeLine∧(a == sysModules)=false∧∃ xs:List (List Key×Addr×Value),
      Paired (fun (p:List Key×V) (q:List Key×Addr×Value)=>p.1=q.1∧H q.2.1=some (.tup (p.1.map kV))∧RelV p.2 q.2.2) kvs xs ∧
      ∃ o es ep,h.get? a=some o∧o.ExactDict∧o.data=.dict es ep∧es.toList=xs.map (entryOfKey (tupleKind (mixKind P w)))∧(xs.map (·.1)).Nodup
  | .set S n=>h.SetOf (intKind P w) a S n
  | .ins C dx fs=>H dx=some (.own a)∧fs.length≤1000∧dx≠a∧h.get? a=some (PySem.W.instObj C dx) ∧
      ∃ mA,h.Ns1 dx mA∧(∀ f,RelO (fs.lookup f) (mA f))∧PySem.Within mA (fs.map (·.1))
  | .own _=>∃ o,h.get? a=some o
  | .xd fs=>∃ mA,h.Ns1 a mA∧∀ f,RelO (fs.lookup f) (mA f)
  | .rng lo hi=>∃ t u v,h.get? a=some { cls:=.type "range",data:=.fields #[.int lo t,.int hi u,.int 1 v] }
  | .frz o u=>h.get? a=some o∧ObjOk H h a u
  | .tbl ps=>h.get? a=some { cls:=.none,data:=.fields ps }
  | .met f x=>h.get? a=some (PySem.W.methodObj (.ref f) (.ref x))
  | .ext φ=>φ h∧(∃ o,h.get? a=some o)∧∀ h1 h2:Heap,φ h1→(∀ o,h1.get? a=some o→h2.get? a=some o)→φ h2
noncomputable def HOk (H:Hp) (h:Heap):Prop:=∀ a o,H a=some o→ObjOk P w H h a o
end
section
variable {P:Program} {w:World} {H H':Hp} {h h':Heap} {a:Addr} {o:HO}
theorem ObjOk.lt (x:ObjOk P w H h a o):a < h.objs.size:=by
  cases o with
  | lst xs=>obtain ⟨_,_,_,_,e⟩:=x;exact Heap.lt_size e
  | tup xs=>obtain ⟨_,_,_,p⟩:=x;exact p.lt
  | dK kvs=>obtain ⟨_,_,_,_,o,_,_,e,_⟩:=x;exact Heap.lt_size e
  | dT kvs=>obtain ⟨_,_,_,_,o,_,_,e,_⟩:=x;exact Heap.lt_size e
  | set S n=>obtain ⟨o,_,_,_,e,_⟩:=x;exact Heap.lt_size e
  | ins C dx fs=>obtain ⟨_,_,_,e,_⟩:=x;exact Heap.lt_size e
  | own y=>obtain ⟨_,e⟩:=x;exact Heap.lt_size e
  | xd fs=>obtain ⟨_,⟨_,_,_,e,_⟩,_⟩:=x;exact Heap.lt_size e
  | rng lo hi=>obtain ⟨_,_,_,e⟩:=x;exact Heap.lt_size e
  | frz ob u=>obtain ⟨e,_⟩:=x;exact Heap.lt_size e
  | tbl ps=>exact Heap.lt_size (show h.get? a=some _ from x)
  | met f y=>exact Heap.lt_size (show h.get? a=some _ from x)
  | ext φ=>obtain ⟨_,⟨_,e⟩,_⟩:=x;exact Heap.lt_size e
theorem Paired.mapP {α β:Type} {F G:α→β→Prop}:∀ {l₁:List α} {l₂:List β},Paired F l₁ l₂→(∀ a b,F a b→G a b)→Paired G l₁ l₂
  | _,_,.nil,_=>.nil
  | _,_,.cons r t,f=>.cons (f _ _ r) (Paired.mapP t f)
theorem ObjOk.stay (x:ObjOk P w H h a o) (k:∀ b u,(b=a∨H b=some (.own a))→h.get? b=some u→h'.get? b=some u)
    (ho:∀ b,H b=some (.own a)→H' b=some (.own a)) (ht:∀ b xs,H b=some (.tup xs)→H' b=some (.tup xs)):ObjOk P w H' h' a o:=by
  induction o with
  | lst xs=>obtain ⟨z,its,n,r,e⟩:=x;exact ⟨z,its,n,r,k _ _ (.inl rfl) e⟩
  | tup xs=>obtain ⟨z,its,r,ob,e,c⟩:=x;exact ⟨z,its,r,ob,k _ _ (.inl rfl) e,c⟩
  | dK kvs=>obtain ⟨z,y,vs,r,ob,es,ep,e,c⟩:=x;exact ⟨z,y,vs,r,ob,es,ep,k _ _ (.inl rfl) e,c⟩
  | dT kvs =>
    obtain ⟨z,y,xs,r,ob,es,ep,e,c⟩:=x
    exact ⟨z,y,xs,Paired.mapP r fun p q z=>⟨z.1,ht _ _ z.2.1,z.2.2⟩,ob,es,ep,k _ _ (.inl rfl) e,c⟩
  | set S n=>obtain ⟨ob,es,ep,t,e,c⟩:=x;exact ⟨ob,es,ep,t,k _ _ (.inl rfl) e,c⟩
  | ins C dx fs =>
    obtain ⟨d,z,ne,e,mA,⟨od,es,ep,e2,c⟩,r⟩:=x
    exact ⟨ho _ d,z,ne,k _ _ (.inl rfl) e,mA,⟨od,es,ep,k _ _ (.inr d) e2,c⟩,r⟩
  | own y=>obtain ⟨ob,e⟩:=x;exact ⟨ob,k _ _ (.inl rfl) e⟩
  | xd fs=>obtain ⟨mA,⟨od,es,ep,e,c⟩,r⟩:=x;exact ⟨mA,⟨od,es,ep,k _ _ (.inl rfl) e,c⟩,r⟩
  | rng lo hi=>obtain ⟨t,u,v,e⟩:=x;exact ⟨t,u,v,k _ _ (.inl rfl) e⟩
  | frz ob u ih=>obtain ⟨e,q⟩:=x;exact ⟨k _ _ (.inl rfl) e,ih q⟩
  | tbl ps =>
    have e:h.get? a=some { cls:=.none,data:=.fields ps }:=x
    show h'.get? a=some { cls:=.none,data:=.fields ps }
    exact k a _ (.inl rfl) e
  | met f y =>
    have e:h.get? a=some (PySem.W.methodObj (.ref f) (.ref y)):=x
    show h'.get? a=some (PySem.W.methodObj (.ref f) (.ref y))
    exact k a _ (.inl rfl) e
  | ext φ=>obtain ⟨p,⟨o,e⟩,st⟩:=x;exact ⟨st _ _ p fun o q=>k _ _ (.inl rfl) q,⟨o,k _ _ (.inl rfl) e⟩,st⟩
theorem HOk.lt (x:HOk P w H h) (e:H a=some o):a < h.objs.size:=(x a o e).lt
theorem HOk.fresh (x:HOk P w H h) (e:h.objs.size≤a):H a=none:=by
  cases q:H a with
  | none=>rfl
  | some u=>exact absurd (Nat.lt_of_lt_of_le (x.lt q) e) (Nat.lt_irrefl _)
theorem HOk.kept (x:HOk P w H h) (k:∀ b u,h.get? b=some u→h'.get? b=some u):HOk P w H h':=fun a o e =>
  (x a o e).stay (fun b u _ q=>k b u q) (fun _ q=>q) fun _ _ q=>q
theorem HOk.laid (x:HOk P w H h) (k:∀ b u,h.get? b=some u→h'.get? b=some u) (hp:h.objs.size≤a) (new:ObjOk P w (upd H a o) h' a o):HOk P w (upd H a o) h':=fun b u e=>by
  have hn:=x.fresh hp
  by_cases hb:b=a
  · subst hb;rw [upd_same] at e;cases e;exact new
  · rw [upd_ne hb] at e
    exact (x b u e).stay (fun c v _ q=>k c v q) (fun c q=>by rw [upd_ne (ne_of_none q hn)];exact q) fun c xs q=>by rw [upd_ne (ne_of_none q hn)];exact q
end
noncomputable def Rd (H:Hp) (a:Addr) (u:HO):Prop:=H a=some u∨∃ o,H a=some (.frz o u)
theorem Rd.ok {P:Program} {w:World} {H:Hp} {h:Heap} {a:Addr} {u:HO} (r:Rd H a u) (x:HOk P w H h):ObjOk P w H h a u:=by
  rcases r with r | ⟨o,r⟩
  · exact x a u r
  · obtain ⟨_,q⟩:=x a _ r
    exact q
noncomputable def Mut:Option HO→Prop
  | some (.lst _)=>True
  | some (.dK _)=>True
  | some (.dT _)=>True
  | some (.set _ _)=>True
  | some (.ins _ _ _)=>True
  | some (.ext _)=>True
  | _=>False
section
variable {P:Program} {w:World} {H:Hp} {h h':Heap} {x e:Addr} {o':HO}
theorem HOk.write (ok:HOk P w H h) (mu:Mut (H x)) (he:e=x∨H e=some (.own x)) (k:∀ b u,b≠e→h.get? b=some u→h'.get? b=some u) (heo:∃ u,h'.get? e=some u)
    (new:ObjOk P w (upd H x o') h' x o'):HOk P w (upd H x o') h':=fun b u q=>by
  have nown:∀ c y,H c=some (.own y)→c≠x:=fun c y r z=>by subst z;rw [r] at mu;exact mu
  have ntup:∀ c xs,H c=some (.tup xs)→c≠x:=fun c xs r z=>by subst z;rw [r] at mu;exact mu
  by_cases hb:b=x
  · subst hb;rw [upd_same] at q;cases q;exact new
  · rw [upd_ne hb] at q
    by_cases hbe:b=e
    · have q':H b=some (.own x):=by
        rcases he with z | z
        · exact absurd (hbe.trans z) hb
        · rw [hbe];exact z
      rw [q] at q';cases q'
      obtain ⟨v,hv⟩:=heo
      exact ⟨v,by rw [hbe];exact hv⟩
    · refine (ok b u q).stay (fun c v hc r=>k c v ?_ r) (fun c r=>by rw [upd_ne (nown c b r)];exact r) fun c xs r=>by rw [upd_ne (ntup c xs r)];exact r
      rcases hc with rfl | hc
      · exact hbe
      · rintro rfl
        rcases he with z | z
        · exact nown c b hc z
        · rw [hc] at z;cases z;exact hb rfl
end
structure Un (fs ex:List Addr) (H H':Hp) (h h':Heap):Prop where
  keep:∀ b o,h.get? b=some o→H b=none→b ∉ fs→b ∉ ex→h'.get? b=some o
  slot:∀ b o,h.get? b=some o→H b=none→b∈fs→b ∉ ex→∃ sl,h'.get? b=some { o with slots:=sl }
  free:∀ b o,h.get? b=some o→H b=none→b ∉ ex→H' b=none
  there:∀ b o,h.get? b=some o→b ∉ ex→∃ o',h'.get? b=some o'
  tups:∀ b xs,H b=some (.tup xs)→H' b=some (.tup xs)
  frzs:∀ b o u,H b=some (.frz o u)→H' b=some (.frz o u)
  tbls:∀ b ps,H b=some (.tbl ps)→∃ more,H' b=some (.tbl (ps ++ more))
section
variable {fs fs' ex ex':List Addr} {H H1 H2:Hp} {h h1 h2 h':Heap} {a x e:Addr} {o:HO}
theorem Un.any (u:Un fs ex H H1 h h1) {b:Addr} {ob:Obj} (q:h.get? b=some ob) (n:H b=none) (hx:b ∉ ex):∃ sl,h1.get? b=some { ob with slots:=sl }:=by
  by_cases hb:b∈fs
  · exact u.slot b ob q n hb hx
  · exact ⟨ob.slots,u.keep b ob q n hb hx⟩
theorem Un.kept (k:∀ b u,h.get? b=some u→h'.get? b=some u):Un fs ex H H h h' :=
  ⟨fun b ob q _ _ _=>k b ob q,fun b ob q _ _ _=>⟨ob.slots,k b ob q⟩,fun _ _ _ n _=>n,fun b ob q _=>⟨ob,k b ob q⟩,fun _ _ q=>q,fun _ _ _ q=>q,fun _ ps q=>⟨#[],by rw [q];simp⟩⟩
theorem Un.refl:Un fs ex H H h h:=Un.kept fun _ _ q=>q
theorem Un.laid (k:∀ b u,h.get? b=some u→h'.get? b=some u) (hp:h.objs.size≤a) (hn:H a=none):Un fs ex H (upd H a o) h h' where
  keep:=fun b u q _ _ _=>k b u q
  slot:=fun b u q _ _ _=>⟨u.slots,k b u q⟩
  free:=fun b u q n _=>by rw [upd_ne (Nat.ne_of_lt (Nat.lt_of_lt_of_le (Heap.lt_size q) hp))];exact n
  there:=fun b u q _=>⟨u,k b u q⟩
  tups:=fun b xs q=>by rw [upd_ne (ne_of_none q hn)];exact q
  frzs:=fun b u xs q=>by rw [upd_ne (ne_of_none q hn)];exact q
  tbls:=fun b ps q=>⟨#[],by rw [upd_ne (ne_of_none q hn),q];simp⟩
theorem Un.write (mu:Mut (H x)) (he:e=x∨H e=some (.own x)) (k:∀ b u,b≠e→h.get? b=some u→h'.get? b=some u) (heo:∃ u,h'.get? e=some u):Un fs ex H (upd H x o) h h':=by
  have hx:∀ b,H b=none→b≠x:=fun b n z=>by subst z;rw [n] at mu;exact mu
  have hb:∀ b,H b=none→b≠e:=fun b n z=>by
    subst z
    rcases he with r | r
    · exact hx b n r
    · rw [n] at r;cases r
  have hm:∀ b u,H b=some u→¬ Mut (some u)→b≠x:=fun b u q nm z=>by subst z;rw [q] at mu;exact nm mu
  refine ⟨fun b u q n _ _=>k b u (hb b n) q,fun b u q n _ _=>⟨u.slots,k b u (hb b n) q⟩,fun b u q n _=>by rw [upd_ne (hx b n)];exact n,fun b u q _=>?_,
    fun b xs q=>by rw [upd_ne (hm b _ q fun z=>z)];exact q,fun b u xs q=>by rw [upd_ne (hm b _ q fun z=>z)];exact q,fun b ps q=>⟨#[],by rw [upd_ne (hm b _ q fun z=>z),q];simp⟩⟩
  by_cases hbe:b=e
  · subst hbe;exact heo
  · exact ⟨u,k b u hbe q⟩
end
noncomputable def trk (h:Heap) (H:Hp):List Addr:=(List.range h.objs.size).filter fun a=>(H a).isSome
noncomputable def hidT (h:Heap) (H:Hp):Heap:=PySem.W.hideAll h (trk h H)
theorem hidT_size (h:Heap) (H:Hp):(hidT h H).objs.size=h.objs.size:=PySem.W.hideAll_size _ _
theorem hidT_get {h:Heap} {H:Hp} {b:Addr} {o:Obj} (e:h.get? b=some o) (n:H b=none):(hidT h H).get? b=some o :=
  PySem.W.hideAll_get _ e fun hm=>by
    have q:(H b).isSome=true:=(List.mem_filter.mp hm).2
    rw [n] at q;simp at q
theorem of_hidT {h:Heap} {H:Hp} {b:Addr} {o:Obj} (e:(hidT h H).get? b=some o):h.get? b=some o∧H b=none:=by
  have e':h.get? b=some o:=PySem.W.of_hideAll (trk h H) e
  refine ⟨e',?_⟩
  cases q:H b with
  | none=>rfl
  | some x =>
    have hm:b∈trk h H:=List.mem_filter.mpr ⟨List.mem_range.mpr (Heap.lt_size e'),by simp [q]⟩
    have z:(hidT h H).get? b=none:=PySem.W.hideAll_none (trk h H) hm
    rw [z] at e;cases e
noncomputable def allNews (g h:Heap) (L:Addr):List (Addr×Obj):=(List.range h.objs.size).filterMap fun a=>if a=L∨(g.get? a).isSome=true then none else (h.get? a).map fun o=>(a,o)
noncomputable def rest (g h:Heap) (L d:Addr):List (Addr×Obj):=(allNews g h L).filter fun p=>decide (p.1≠d)
end L2
namespace L2
open PySem PySem.Spec PyProof.Rows
structure Mod (K:PySem.W.Frag) (mg:Str→Option Value) (base:Heap):Prop where
  kin:K.In base
  glob:base.Ns mainGlobals mg
  blt:∃ mb,base.Ns builtinsNs mb∧∀ x:Str,x≠"__name__"→mb x=bootBuiltins x
  nolimit:base.NoLimit
/-- the context: a def's body (or a comprehension's block) running. base: fixed through the whole law; s₀, H₀: the entry; outer: the frames whose slots others may change (a def's callers); stack: all frames that run;
   ex: iterators that were made ahead of the entry and are walked here (a comprehension's);fn: the names whose cells were made at the entry (a def: all;a comprehension's block: its own);calm: not within an except suite;pn: pins that every state bears;xe: what is wanted of an exception that leaves the code -/
structure Cx where
  prog:Program
  w:World
  K:PySem.W.Frag
  mg:Str→Option Value
  base:Heap
  A:Around
  N:List Str
  s₀:Shared
  H₀:Hp
  env:Env
  outer:List Env
  stack:List Env
  ex:List Addr
  fn:Str→Bool
  calm:Bool
  pn:List (Addr×Obj)
  xe:Value→Shared→Prop
noncomputable def frs (l:List Env):List Addr:=l.filterMap (·.frame)
noncomputable abbrev Cx.fs (X:Cx):List Addr:=frs X.outer
noncomputable def Vis (sc:Scope) (x:Str):Prop:=sc.names.lookup x=some .local∨sc.names.lookup x=some .cell∨sc.names.lookup x=some .free
noncomputable def Loc (sc:Scope) (x:Str):Prop:=sc.names.lookup x=some .local∨sc.names.lookup x=some .cell
noncomputable def Look (env:Env) (h:Heap) (m:Str→Option Value) (x:Str) (u:Value):Prop :=
  (env.kindOf x=some .local∧m x=some u)∨((env.kindOf x=some .cell∨env.kindOf x=some .free)∧∃ c,env.cells.lookup x=some c∧h.IsCell c (some u))
structure Cx.Ok (X:Cx):Prop where
  mod:Mod X.K X.mg X.base
  kind:X.env.scope.kind=.function
  glob:X.env.globals=mainGlobals
  blt:X.env.builtins=builtinsNs
  above:X.s₀.heap.objs.size≤X.env.locals
  inj:∀ x y c,X.env.cells.lookup x=some c→X.env.cells.lookup y=some c→x=y
  has:∀ x,(X.env.kindOf x=some .cell∨X.env.kindOf x=some .free)→∃ c,X.env.cells.lookup x=some c
  cab:∀ x c,X.fn x=true→X.env.cells.lookup x=some c→X.s₀.heap.objs.size≤c
  hd:X.calm=true→X.A.handled=none
  frames:X.A.frames=some X.stack
  stk:X.stack=X.outer∨(X.stack=X.env :: X.outer∧X.env.frame=some X.env.locals)
  exf:∀ b∈X.ex,b≠X.env.locals∧∀ x c,X.env.cells.lookup x=some c→c≠b
  bs:∀ b o,X.base.get? b=some o→X.s₀.heap.get? b=some o∧X.H₀ b=none
  bsz:X.base.objs.size≤X.s₀.heap.objs.size
  noex:∀ b o,X.base.get? b=some o→b ∉ X.ex
  exfs:∀ b∈X.ex,b ∉ X.fs
  funs:X.s₀.heap.FunFrames X.base X.outer
  frf:∀ b∈X.fs,X.H₀ b=none
structure Inv (X:Cx) (pins:List (Addr×Obj)) (σ:List (Option V)) (H:Hp) (s:Shared):Prop where
  ok:X.Ok
  os:s.os=X.s₀.os
  bare:AllBare s.gens
  base:Un X.fs X.ex X.H₀ H X.s₀.heap s.heap
  loc:∃ m,s.heap.Ns X.env.locals m∧∀ (i:Nat) (x:Str) (v:V),X.N[i]?=some x→σ[i]?=some (some v)→Vis X.env.scope x→∃ u,RelV v u∧Look X.env s.heap m x u
  cell:∀ x c,X.env.cells.lookup x=some c→∃ v,s.heap.IsCell c v
  free:H X.env.locals=none
  freeC:∀ x c,X.env.cells.lookup x=some c→H c=none
  pin:∀ p∈X.pn ++ pins,s.heap.get? p.1=some p.2∧H p.1=none∧p.1≠X.env.locals∧p.1 ∉ X.fs∧∀ v,p.2.data≠.cell v
  hok:HOk X.prog X.w H s.heap
  len:σ.length=X.N.length
section
variable {X:Cx} {pins:List (Addr×Obj)} {σ:List (Option V)} {H H':Hp} {s:Shared} {h':Heap}
theorem Cx.Ok.nofr (ok:X.Ok) {b:Addr} {o:Obj} (e:X.base.get? b=some o):b ∉ X.fs:=fun hb=>by
  have:=(ok.funs.mem hb).1
  rw [e] at this;cases this
theorem Inv.bs (I:Inv X pins σ H s):∀ b o,X.base.get? b=some o→s.heap.get? b=some o∧H b=none:=fun b o e =>
  ⟨I.base.keep b o (I.ok.bs b o e).1 (I.ok.bs b o e).2 (I.ok.nofr e) (I.ok.noex b o e),I.base.free b o (I.ok.bs b o e).1 (I.ok.bs b o e).2 (I.ok.noex b o e)⟩
theorem Inv.bk (I:Inv X pins σ H s):∀ b o,X.base.get? b=some o→s.heap.get? b=some o:=fun b o e=>(I.bs b o e).1
theorem Inv.mod (I:Inv X pins σ H s):Mod X.K X.mg X.base:=I.ok.mod
theorem Inv.kIn (I:Inv X pins σ H s):X.K.In s.heap:=I.ok.mod.kin.keeps I.bk
theorem Inv.lt (I:Inv X pins σ H s):X.env.locals < s.heap.objs.size:=let ⟨_,hn,_⟩:=I.loc;hn.lt
theorem Inv.sz (I:Inv X pins σ H s):X.s₀.heap.objs.size≤s.heap.objs.size:=Nat.le_trans I.ok.above (Nat.le_of_lt I.lt)
theorem Inv.nofs (I:Inv X pins σ H s) {a:Addr} (h:s.heap.objs.size≤a):a ∉ X.fs:=fun hb=>by
  obtain ⟨_,o,ho,_⟩:=I.ok.funs.mem hb
  exact absurd (Nat.lt_of_lt_of_le (Heap.lt_size ho) (Nat.le_trans I.sz h)) (Nat.lt_irrefl _)
theorem Inv.cne (I:Inv X pins σ H s):∀ x c,X.env.cells.lookup x=some c→c≠X.env.locals:=fun x c e z=>by
  obtain ⟨v,o,ho,hd⟩:=I.cell x c e
  obtain ⟨m,⟨o',es,ep,ho',hd',_⟩,_⟩:=I.loc
  rw [z,ho'] at ho;cases ho;rw [hd'] at hd;cases hd
theorem Inv.funs (I:Inv X pins σ H s):s.heap.FunFrames X.base X.outer:=by
  have all:∀ (l:List Env),(∀ b∈frs l,b∈X.fs)→X.s₀.heap.FunFrames X.base l→s.heap.FunFrames X.base l:=by
    intro l
    induction l with
    | nil=>intro _ _;trivial
    | cons env r ih =>
      intro hs hl
      obtain ⟨hk,⟨L,o,hf,hn,ho,hd⟩,hr⟩:=hl
      have hL:L∈X.fs:=hs L (by unfold frs;rw [List.filterMap_cons,hf];exact List.mem_cons_self)
      obtain ⟨sl,e⟩:=I.base.slot L o ho (I.ok.frf L hL) hL fun z=>I.ok.exfs L z hL
      exact ⟨hk,⟨L,_,hf,hn,e,hd⟩,ih (fun b hb=>hs b (by unfold frs;rw [List.filterMap_cons,hf];exact List.mem_cons_of_mem _ hb)) hr⟩
  exact all X.outer (fun _ hb=>hb) I.ok.funs
theorem Inv.stack (I:Inv X pins σ H s):s.heap.FunFrames X.base X.stack:=by
  rcases I.ok.stk with e | ⟨e,hf⟩
  · rw [e];exact I.funs
  · rw [e]
    obtain ⟨m,hn,_⟩:=I.loc
    refine .cons (by rw [I.ok.kind];decide) hf hn ?_ I.funs
    exact Heap.get?_none_of_le (Nat.le_trans I.ok.bsz I.ok.above)
theorem Inv.stkSub (I:Inv X pins σ H s):∀ b∈frs X.stack,b∈X.env.locals :: X.fs:=fun b hb=>by
  rcases I.ok.stk with e | ⟨e,hf⟩
  · rw [e] at hb;exact List.mem_cons_of_mem _ hb
  · rw [e] at hb
    unfold frs at hb
    rw [List.filterMap_cons,hf] at hb
    exact hb
theorem Inv.stkFree (I:Inv X pins σ H s):∀ b∈frs X.stack,H b=none:=fun b hb=>by
  rcases List.mem_cons.mp (I.stkSub b hb) with e | hb
  · rw [e];exact I.free
  · obtain ⟨_,o,ho,_⟩:=I.ok.funs.mem hb
    exact I.base.free b o ho (I.ok.frf b hb) fun z=>I.ok.exfs b z hb
theorem Inv.step {g':Array GenState} {t':Nat} {d':Drawn} {ch:List Addr} (I:Inv X pins σ H s)
    (hch:∀ b∈ch,(b∈X.ex∨X.s₀.heap.objs.size≤b)∧b≠X.env.locals∧(∀ x c,X.env.cells.lookup x=some c→c≠b)∧∀ p∈X.pn ++ pins,p.1≠b)
    (keep:∀ b o,b≠X.env.locals→b ∉ X.fs→b ∉ ch→s.heap.get? b=some o→H b=none→h'.get? b=some o)
    (slot:∀ b o,b≠X.env.locals→b∈X.fs→b ∉ ch→s.heap.get? b=some o→H b=none→∃ sl,h'.get? b=some { o with slots:=sl }) (free:∀ b o,b ∉ ch→s.heap.get? b=some o→H b=none→H' b=none)
    (there:∀ b o,b ∉ ch→s.heap.get? b=some o→∃ o',h'.get? b=some o')
    (tups:∀ b xs,H b=some (.tup xs)→H' b=some (.tup xs)) (frzs:∀ b o u,H b=some (.frz o u)→H' b=some (.frz o u)) (tbls:∀ b ps,H b=some (.tbl ps)→∃ more,H' b=some (.tbl (ps ++ more)))
    (ns:∀ m,s.heap.Ns X.env.locals m→h'.Ns X.env.locals m) (hok:HOk X.prog X.w H' h') (hg:AllBare g') :
    Inv X pins σ H' { s with heap:=h',gens:=g',drawn:=d',toks:=t' }:=by
  have neL:∀ b o,X.s₀.heap.get? b=some o→b≠X.env.locals:=fun b o e=>Nat.ne_of_lt (Nat.lt_of_lt_of_le (Heap.lt_size e) I.ok.above)
  have neC:∀ b o,X.s₀.heap.get? b=some o→b ∉ X.ex→b ∉ ch:=fun b o e hx hb=>by
    rcases (hch b hb).1 with z | z
    · exact hx z
    · exact absurd (Nat.lt_of_lt_of_le (Heap.lt_size e) z) (Nat.lt_irrefl _)
  have cellK:∀ x c,X.env.cells.lookup x=some c→∀ v,s.heap.IsCell c v→h'.IsCell c v:=fun x c e v ⟨o,ho,hd⟩=>by
    have nch:c ∉ ch:=fun z=>(hch c z).2.2.1 x c e rfl
    by_cases hc:c∈X.fs
    · obtain ⟨sl,q⟩:=slot c o (I.cne x c e) hc nch ho (I.freeC x c e)
      exact ⟨_,q,hd⟩
    · exact ⟨o,keep c o (I.cne x c e) hc nch ho (I.freeC x c e),hd⟩
  refine ⟨I.ok,I.os,hg,⟨fun b o e n hb hx=>?_,fun b o e n hb hx=>?_,fun b o e n hx=>?_,fun b o e hx=>?_,fun b xs e=>tups b xs (I.base.tups b xs e),fun b o xs e=>frzs b o xs (I.base.frzs b o xs e),fun b ps e=>?_⟩,?_,fun x c e=>?_,?_,fun x c e=>?_,fun p hp=>?_,hok,I.len⟩
  · exact keep b o (neL b o e) hb (neC b o e hx) (I.base.keep b o e n hb hx) (I.base.free b o e n hx)
  · obtain ⟨sl,e1⟩:=I.base.slot b o e n hb hx
    obtain ⟨sl',e2⟩:=slot b _ (neL b o e) hb (neC b o e hx) e1 (I.base.free b o e n hx)
    exact ⟨sl',e2⟩
  · obtain ⟨o',e1⟩:=I.base.there b o e hx
    exact free b o' (neC b o e hx) e1 (I.base.free b o e n hx)
  · obtain ⟨o',e1⟩:=I.base.there b o e hx
    exact there b o' (neC b o e hx) e1
  · obtain ⟨m1,e1⟩:=I.base.tbls b ps e
    obtain ⟨m2,e2⟩:=tbls b _ e1
    exact ⟨m1 ++ m2,by rw [e2,Array.append_assoc]⟩
  · obtain ⟨m,hn,hl⟩:=I.loc
    refine ⟨m,ns m hn,fun i x v e1 e2 e3=>?_⟩
    obtain ⟨u,r,l⟩:=hl i x v e1 e2 e3
    refine ⟨u,r,?_⟩
    rcases l with l | ⟨k,c,e,z⟩
    · exact .inl l
    · exact .inr ⟨k,c,e,cellK x c e _ z⟩
  · obtain ⟨v,z⟩:=I.cell x c e
    exact ⟨v,cellK x c e v z⟩
  · obtain ⟨m,⟨o,_,_,ho,_⟩,_⟩:=I.loc
    exact free _ o (fun z=>(hch _ z).2.1 rfl) ho I.free
  · obtain ⟨v,o,ho,hd⟩:=I.cell x c e
    exact free c o (fun z=>(hch c z).2.2.1 x c e rfl) ho (I.freeC x c e)
  · obtain ⟨e,n,ne,nf,d⟩:=I.pin p hp
    have nch:p.1 ∉ ch:=fun z=>(hch p.1 z).2.2.2 p hp rfl
    exact ⟨keep p.1 p.2 ne nf nch e n,free p.1 p.2 nch e n,ne,nf,d⟩
theorem Inv.un {t':Nat} (I:Inv X pins σ H s) (u:Un X.fs [] H H' s.heap h') (hok:HOk X.prog X.w H' h'):Inv X pins σ H' { s with heap:=h',toks:=t' }:=by
  obtain ⟨m,⟨o,es,ep,ho,r⟩,_⟩:=id I.loc
  obtain ⟨sl,hL⟩:=u.any ho I.free (by simp)
  exact I.step (g':=s.gens) (d':=s.drawn) (ch:=[]) (fun _ z=>nomatch z) (fun b o _ hb _ e n=>u.keep b o e n hb (by simp)) (fun b o _ hb _ e n=>u.slot b o e n hb (by simp)) (fun b o _ e n=>u.free b o e n (by simp)) (fun b o _ e=>u.there b o e (by simp)) u.tups u.frzs u.tbls (fun m' hm=>by
    obtain ⟨o',es',ep',ho',r'⟩:=hm
    rw [ho] at ho';cases ho'
    exact ⟨_,es',ep',hL,r'⟩) hok I.bare
theorem Inv.call {g':Array GenState} {t':Nat} {d':Drawn} {ch:List Addr} (I:Inv X pins σ H s) (u:Un (frs X.stack) ch H H' s.heap h') (hok:HOk X.prog X.w H' h') (hg:AllBare g')
    (hch:∀ b∈ch,(b∈X.ex∨X.s₀.heap.objs.size≤b)∧b≠X.env.locals∧(∀ x c,X.env.cells.lookup x=some c→c≠b)∧∀ p∈X.pn ++ pins,p.1≠b) :
    Inv X pins σ H' { s with heap:=h',gens:=g',drawn:=d',toks:=t' }:=by
  obtain ⟨m,⟨o,es,ep,ho,r⟩,_⟩:=id I.loc
  obtain ⟨sl,hL⟩:=u.any ho I.free fun z=>(hch _ z).2.1 rfl
  exact I.step (ch:=ch) hch (fun b o hL hb hc e n=>u.keep b o e n (fun z=>(List.mem_cons.mp (I.stkSub b z)).elim hL hb) hc) (fun b o _ _ hc e n=>u.any e n hc) (fun b o hc e n=>u.free b o e n hc) (fun b o hc e=>u.there b o e hc) u.tups u.frzs u.tbls (fun m' hm=>by
    obtain ⟨o',es',ep',ho',r'⟩:=hm
    rw [ho] at ho';cases ho'
    exact ⟨_,es',ep',hL,r'⟩) hok hg
theorem Inv.turned {t':Nat} {it:Addr} (I:Inv X pins σ H s) (k:∀ b o,b≠it→s.heap.get? b=some o→h'.get? b=some o) (hn:H it=none) (hL:it≠X.env.locals)
    (h1:it∈X.ex∨X.s₀.heap.objs.size≤it) (h2:∀ x c,X.env.cells.lookup x=some c→c≠it) (h3:∀ p∈X.pn ++ pins,p.1≠it):Inv X pins σ H { s with heap:=h',toks:=t' }:=by
  have nit:∀ b u,H b=some u→b≠it:=fun b u e z=>by rw [z,hn] at e;cases e
  refine I.step (g':=s.gens) (d':=s.drawn) (ch:=[it]) (fun b hb=>?_) (fun b o _ _ hc e _=>k b o (fun z=>hc (by simp [z])) e) (fun b o _ _ hc e _=>⟨o.slots,k b o (fun z=>hc (by simp [z])) e⟩) (fun _ _ _ _ n=>n)
    (fun b o hc e=>⟨o,k b o (fun z=>hc (by simp [z])) e⟩) (fun _ _ e=>e) (fun _ _ _ e=>e) (fun b ps e=>⟨#[],by rw [e];simp⟩) (fun m hm=>?_) (fun b u e=>?_) I.bare
  · have e:b=it:=by simpa using hb
    subst e
    exact ⟨h1,hL,h2,h3⟩
  · obtain ⟨o,es,ep,ho,r⟩:=hm
    exact ⟨o,es,ep,k _ o (Ne.symm hL) ho,r⟩
  · refine (I.hok b u e).stay (fun c v hc q=>k c v ?_ q) (fun _ q=>q) fun _ _ q=>q
    rcases hc with z | z
    · rw [z];exact nit b u e
    · exact nit c _ z
theorem Inv.tok (I:Inv X pins σ H s) (t:Nat):Inv X pins σ H { s with toks:=t }:=I.un (h':=s.heap) (t':=t) Un.refl I.hok
theorem Inv.kept {t':Nat} (I:Inv X pins σ H s) (k:∀ b u,s.heap.get? b=some u→h'.get? b=some u):Inv X pins σ H { s with heap:=h',toks:=t' }:=I.un (Un.kept k) (I.hok.kept k)
theorem Inv.laid {a:Addr} {o:HO} {t':Nat} (I:Inv X pins σ H s) (k:∀ b u,s.heap.get? b=some u→h'.get? b=some u) (hp:s.heap.objs.size≤a) (new:ObjOk X.prog X.w (upd H a o) h' a o) :
    Inv X pins σ (upd H a o) { s with heap:=h',toks:=t' }:=I.un (Un.laid k hp (I.hok.fresh hp)) (I.hok.laid k hp new)
theorem Inv.write {x e:Addr} {o:HO} {t':Nat} (I:Inv X pins σ H s) (mu:Mut (H x)) (he:e=x∨H e=some (.own x)) (k:∀ b u,b≠e→s.heap.get? b=some u→h'.get? b=some u) (heo:∃ u,h'.get? e=some u)
    (new:ObjOk X.prog X.w (upd H x o) h' x o):Inv X pins σ (upd H x o) { s with heap:=h',toks:=t' }:=I.un (Un.write mu he k heo) (I.hok.write mu he k heo new)
theorem Inv.pins_of {pins':List (Addr×Obj)} (I:Inv X pins σ H s) (h:∀ p∈pins',s.heap.get? p.1=some p.2∧H p.1=none∧p.1≠X.env.locals∧p.1 ∉ X.fs∧∀ v,p.2.data≠.cell v):Inv X pins' σ H s :=
  ⟨I.ok,I.os,I.bare,I.base,I.loc,I.cell,I.free,I.freeC,fun p hp=>(List.mem_append.mp hp).elim (fun z=>I.pin p (List.mem_append_left _ z)) (h p),I.hok,I.len⟩
theorem nodup_ix {N:List Str} (hN:N.Nodup) {i j:Nat} {x:Str} (a:N[i]?=some x) (b:N[j]?=some x):i=j:=by
  obtain ⟨h1,e1⟩:=List.getElem?_eq_some_iff.mp a
  obtain ⟨h2,e2⟩:=List.getElem?_eq_some_iff.mp b
  exact (List.getElem_inj hN).mp (e1.trans e2.symm)
theorem store_ok2 {M:Model} {A:Around} {E:Value→Shared→Prop} {i:Nat} {x:Str} {v:V} {u:Value} {Q:Unit→Shared→Prop} (I:Inv X pins σ H s) (hN:X.N.Nodup) (hi:X.N[i]?=some x) (hx:Loc X.env.scope x) (r:RelV v u)
    (h:∀ s',Inv X pins (σ.set i (some v)) H s'→(∃ a,Heap.SameBut a s.heap s'.heap∧(a=X.env.locals∨X.env.cells.lookup x=some a))→Q () s') (hf:X.fn x=true∨X.env.scope.names.lookup x=some .local:=by first | exact .inl rfl | exact .inr rfl | assumption):wpAny M A (storeName X.env x u) Q E s:=by
  obtain ⟨m,hn,hl⟩:=id I.loc
  have hcls:(X.env.scope.kind == .class || (X.env.scope.kind == .module && X.env.locals != X.env.globals))=false:=by rw [I.ok.kind];rfl
  have hiσ:i < σ.length:=by rw [I.len];exact (List.getElem?_eq_some_iff.mp hi).1
  have cne:=I.cne
  have tracked:∀ {a:Addr} {h':Heap},(∃ o,s.heap.get? a=some o∧H a=none)→Heap.SameBut a s.heap h'→HOk X.prog X.w H h':=fun {a h'} ha hs b ob e=>by
    obtain ⟨_,_,hfree⟩:=ha
    refine (I.hok b ob e).stay (fun c w' hc q=>(hs.2 c ?_).trans q) (fun _ q=>q) fun _ _ q=>q
    rintro rfl
    rcases hc with rfl | hc
    · rw [hfree] at e;cases e
    · rw [hfree] at hc;cases hc
  rcases hx with hk | hk
  · refine wpAny_storeName_local hk hn (fun h' hn' hs=>?_) hcls
    obtain ⟨oL,_,_,hoL,_⟩:=id hn
    refine h _ ⟨I.ok,I.os,I.bare,⟨fun b o e n hb hx=>?_,fun b o e n hb hx=>?_,I.base.free,fun b o e hx=>?_,I.base.tups,I.base.frzs,I.base.tbls⟩,⟨_,hn',fun j y v' e1 e2 e3=>?_⟩,fun y c e=>?_,I.free,I.freeC,fun p hp=>?_,tracked ⟨oL,hoL,I.free⟩ hs,by simpa using I.len⟩ ⟨_,hs,.inl rfl⟩
    · exact (hs.2 b (Nat.ne_of_lt (Nat.lt_of_lt_of_le (Heap.lt_size e) I.ok.above))).trans (I.base.keep b o e n hb hx)
    · obtain ⟨sl,e1⟩:=I.base.slot b o e n hb hx
      exact ⟨sl,(hs.2 b (Nat.ne_of_lt (Nat.lt_of_lt_of_le (Heap.lt_size e) I.ok.above))).trans e1⟩
    · obtain ⟨o',e1⟩:=I.base.there b o e hx
      exact ⟨o',(hs.2 b (Nat.ne_of_lt (Nat.lt_of_lt_of_le (Heap.lt_size e) I.ok.above))).trans e1⟩
    · by_cases hj:j=i
      · subst hj
        rw [hi] at e1;cases e1
        rw [List.getElem?_set_self hiσ] at e2
        cases e2
        exact ⟨u,r,.inl ⟨hk,by simp⟩⟩
      · rw [List.getElem?_set_ne (Ne.symm hj)] at e2
        obtain ⟨u',r',q⟩:=hl j y v' e1 e2 e3
        refine ⟨u',r',?_⟩
        rcases q with ⟨k,e⟩ | ⟨k,c,e,z⟩
        · refine .inl ⟨k,?_⟩
          have:y≠x:=fun e=>hj (nodup_ix hN e1 (e ▸ hi))
          simp [this,e]
        · exact .inr ⟨k,c,e,z.sameBut hs (cne y c e)⟩
    · obtain ⟨w',z⟩:=I.cell y c e
      exact ⟨w',z.sameBut hs (cne y c e)⟩
    · obtain ⟨e,n,ne,nf,d⟩:=I.pin p hp
      exact ⟨(hs.2 p.1 ne).trans e,n,ne,nf,d⟩
  · have hfn:X.fn x=true:=by
      rcases hf with z | z
      · exact z
      · rw [z] at hk;cases hk
    obtain ⟨c,hc⟩:=I.ok.has x (.inl hk)
    obtain ⟨w',z⟩:=I.cell x c hc
    refine wpAny_storeName_cell I.ok.kind hk hc z (fun h' hc' hs=>?_)
    obtain ⟨oc,hoc,hocd⟩:=id z
    refine h { s with heap:=h' } ⟨I.ok,I.os,I.bare,⟨fun b o e n hb hx=>?_,fun b o e n hb hx=>?_,I.base.free,fun b o e hx=>?_,I.base.tups,I.base.frzs,I.base.tbls⟩,⟨m,hn.sameBut hs (Ne.symm (cne x c hc)),fun j y v' e1 e2 e3=>?_⟩,fun y c' e=>?_,I.free,I.freeC,fun p hp=>?_,tracked ⟨oc,hoc,I.freeC x c hc⟩ hs,by simpa using I.len⟩ ⟨c,hs,.inr hc⟩
    · exact (hs.2 b (Nat.ne_of_lt (Nat.lt_of_lt_of_le (Heap.lt_size e) (I.ok.cab x c hfn hc)))).trans (I.base.keep b o e n hb hx)
    · obtain ⟨sl,e1⟩:=I.base.slot b o e n hb hx
      exact ⟨sl,(hs.2 b (Nat.ne_of_lt (Nat.lt_of_lt_of_le (Heap.lt_size e) (I.ok.cab x c hfn hc)))).trans e1⟩
    · obtain ⟨o',e1⟩:=I.base.there b o e hx
      exact ⟨o',(hs.2 b (Nat.ne_of_lt (Nat.lt_of_lt_of_le (Heap.lt_size e) (I.ok.cab x c hfn hc)))).trans e1⟩
    · by_cases hj:j=i
      · subst hj
        rw [hi] at e1;cases e1
        rw [List.getElem?_set_self hiσ] at e2
        cases e2
        exact ⟨u,r,.inr ⟨.inl hk,c,hc,hc'⟩⟩
      · rw [List.getElem?_set_ne (Ne.symm hj)] at e2
        obtain ⟨u',r',q⟩:=hl j y v' e1 e2 e3
        refine ⟨u',r',?_⟩
        rcases q with q | ⟨k,c',e,z'⟩
        · exact .inl q
        · refine .inr ⟨k,c',e,z'.sameBut hs ?_⟩
          rintro rfl
          exact hj (nodup_ix hN e1 (I.ok.inj _ _ _ e hc ▸ hi))
    · by_cases hcc:c'=c
      · subst hcc;exact ⟨_,hc'⟩
      · obtain ⟨w2,z2⟩:=I.cell y c' e
        exact ⟨w2,z2.sameBut hs hcc⟩
    · obtain ⟨e,n,ne,nf,d⟩:=I.pin p hp
      refine ⟨(hs.2 p.1 ?_).trans e,n,ne,nf,d⟩
      intro q
      rw [q,hoc] at e
      have q':oc=p.2:=Option.some.inj e
      exact d w' (by rw [← q'];exact hocd)
theorem store_ok {M:Model} {A:Around} {E:Value→Shared→Prop} {i:Nat} {x:Str} {v:V} {u:Value} {Q:Unit→Shared→Prop} (I:Inv X pins σ H s) (hN:X.N.Nodup) (hi:X.N[i]?=some x) (hx:Loc X.env.scope x) (r:RelV v u)
    (h:∀ s',Inv X pins (σ.set i (some v)) H s'→Q () s') (hf:X.fn x=true∨X.env.scope.names.lookup x=some .local:=by first | exact .inl rfl | exact .inr rfl | assumption):wpAny M A (storeName X.env x u) Q E s :=
  store_ok2 I hN hi hx r (fun s' I' _=>h s' I') hf
theorem Inv.call' {s':Shared} {ch:List Addr} (I:Inv X pins σ H s) (ho:s'.os=s.os) (u:Un (frs X.stack) ch H H' s.heap s'.heap) (hok:HOk X.prog X.w H' s'.heap) (hg:AllBare s'.gens)
    (hch:∀ b∈ch,(b∈X.ex∨X.s₀.heap.objs.size≤b)∧b≠X.env.locals∧(∀ x c,X.env.cells.lookup x=some c→c≠b)∧∀ p∈X.pn ++ pins,p.1≠b):Inv X pins σ H' s':=by
  obtain ⟨h',g',d',t',o'⟩:=s'
  have e:o'=s.os:=ho
  subst e
  exact I.call (g':=g') (t':=t') (d':=d') u hok hg hch
end
noncomputable abbrev XK:=Value→Option Addr→Hp→Prop
noncomputable abbrev St:=List (Option V)
noncomputable abbrev VK:=V→Hp→Prop
noncomputable abbrev TE:=St→Hp→VK→Prop
noncomputable abbrev TT:=St→Hp→(Bool→Hp→Prop)→Prop
noncomputable abbrev TA:=St→Hp→(List V→Hp→Prop)→Prop
structure Ends where
  nx:St→Hp→Prop
  rt:VK
  bk:St→Hp→Prop:=fun _ _=>False
  ct:St→Hp→Prop:=fun _ _=>False
noncomputable abbrev TS:=Ends→St→Hp→Prop
noncomputable def EP (X:Cx) (pins:List (Addr×Obj)) (σ:St) (Q:VK) (u:Value) (s':Shared):Prop:=∃ v H',Inv X pins σ H' s'∧RelV v u∧Q v H'
noncomputable def TP (X:Cx) (pins:List (Addr×Obj)) (σ:St) (Q:Bool→Hp→Prop) (b:Bool) (s':Shared):Prop:=∃ H',Inv X pins σ H' s'∧Q b H'
noncomputable def AP (X:Cx) (pins:List (Addr×Obj)) (σ:St) (Q:List V→Hp→Prop) (us:List Value) (s':Shared):Prop:=∃ vs H',Inv X pins σ H' s'∧Vals vs us∧Q vs H'
noncomputable def SP (X:Cx) (pins:List (Addr×Obj)) (D:Ends) (f:Flow) (s':Shared):Prop :=
  match f with
  | .next=>∃ σ' H',Inv X pins σ' H' s'∧D.nx σ' H'
  | .brk=>∃ σ' H',Inv X pins σ' H' s'∧D.bk σ' H'
  | .cont=>∃ σ' H',Inv X pins σ' H' s'∧D.ct σ' H'
  | .ret u=>∃ v σ' H',Inv X pins σ' H' s'∧RelV v u∧D.rt v H'
noncomputable def PE (X:Cx) (e:Expr) (t:TE):Prop :=
  ∀ (pins:List (Addr×Obj)) (s:Shared) (σ:St) (H:Hp) (Q:VK),Inv X pins σ H s→t σ H Q→wpAny (model X.prog X.w) X.A (eval e X.env) (EP X pins σ Q) X.xe s
noncomputable def PT (X:Cx) (e:Expr) (t:TT):Prop :=
  ∀ (pins:List (Addr×Obj)) (s:Shared) (σ:St) (H:Hp) (Q:Bool→Hp→Prop),Inv X pins σ H s→t σ H Q→wpAny (model X.prog X.w) X.A (isTrue e X.env (eval e X.env)) (TP X pins σ Q) X.xe s
noncomputable def PW (X:Cx) (e:Expr) (t:TT):Prop :=
  ∀ (whole:Sem Value) (pins:List (Addr×Obj)) (s:Shared) (σ:St) (H:Hp) (Q:Bool→Hp→Prop),Inv X pins σ H s→t σ H Q→wpAny (model X.prog X.w) X.A (isTrue e X.env whole) (TP X pins σ Q) X.xe s
theorem PW.pt {X:Cx} {e:Expr} {t:TT} (h:PW X e t):PT X e t:=h _
noncomputable def PA (X:Cx) (es:List Expr) (t:TA):Prop :=
  ∀ (pos:Pos) (pins:List (Addr×Obj)) (s:Shared) (σ:St) (H:Hp) (Q:List V→Hp→Prop),Inv X pins σ H s→t σ H Q→wpAny (model X.prog X.w) X.A (spliced (backTo pos (starEach es X.env))) (AP X pins σ Q) X.xe s
noncomputable def PS (X:Cx) (st:Stmt) (t:TS):Prop :=
  ∀ (pins:List (Addr×Obj)) (s:Shared) (σ:St) (H:Hp) (D:Ends),Inv X pins σ H s→t D σ H→wpAny (model X.prog X.w) X.A (exec st X.env) (SP X pins D) X.xe s
noncomputable def PSs (X:Cx) (st:List Stmt) (t:TS):Prop :=
  ∀ (pins:List (Addr×Obj)) (s:Shared) (σ:St) (H:Hp) (D:Ends),Inv X pins σ H s→t D σ H→wpAny (model X.prog X.w) X.A (execs st X.env) (SP X pins D) X.xe s
theorem thn {α:Type} {t:Sem α} {Q Q':α→Shared→Prop} {M:Model} {A:Around} {E:Value→Shared→Prop} {s:Shared} (h:wpAny M A t Q E s) (hQ:∀ a s,Q a s→Q' a s):wpAny M A t Q' E s:=wpAny_mono h hQ fun _ _ x=>x
end L2
namespace L2
open PySem PySem.Spec PyProof.Rows
section
variable {X:Cx}
noncomputable def tVar (i:Nat):TE:=fun σ H Q=>∃ v,σ[i]?=some (some v)∧Q v H
noncomputable def tC (v:V):TE:=fun _ H Q=>Q v H
theorem pe_var {i:Nat} {x:Str} {pos:Pos} (hN:X.N[i]?=some x) (hv:Vis X.env.scope x) (hd:(x == ("__debug__":Str))=false:=by decide) (hcd:(x == ("__classdict__":Str))=false:=by decide):PE X (.Name x pos) (tVar i):=by
  intro pins s σ H Q I h
  obtain ⟨v,e,h⟩:=h
  obtain ⟨m,hn,hl⟩:=I.loc
  obtain ⟨u,r,l⟩:=hl i x v hN e hv
  have fin:EP X pins σ Q u s:=⟨v,H,I,r,h⟩
  rcases l with ⟨hk,hm⟩ | ⟨hk,c,hc,hcell⟩
  · exact wpAny_Name (wpAny_loadName_local I.ok.kind hk hn hm fin) hd
  · rcases hk with hk | hk
    · exact wpAny_Name (wpAny_loadName_cell I.ok.kind hk hc hcell fin) hd
    · exact wpAny_Name (wpAny_loadName_free I.ok.kind hk hc hcell fin hcd) hd
theorem pe_int {i j pos}:PE X (.Constant (.int i) j pos) (tC (.int i)):=fun _ _ _ H _ I h=>wpAny_Constant_int ⟨.int i,H,I.tok _,⟨_,rfl⟩,h⟩
theorem pe_bl {b j pos}:PE X (.Constant (.bool b) j pos) (tC (.bl b)):=fun _ _ _ H _ I h=>Constant_bool ⟨.bl b,H,I,rfl,h⟩
theorem pe_non {j pos}:PE X (.Constant .none j pos) (tC .non):=fun _ _ _ H _ I h=>Constant_none ⟨.non,H,I,rfl,h⟩
theorem pe_str {x j pos}:PE X (.Constant (.str x) j pos) (tC (.str x)):=fun _ _ _ H _ I h=>Calls.Constant_str ⟨.str x,H,I.tok _,⟨_,rfl⟩,h⟩
noncomputable def Gl (X:Cx) (x:Str):Prop:=X.env.kindOf x=some .globalImplicit
theorem ld_glob {E:Value→Shared→Prop} {pins:List (Addr×Obj)} {s:Shared} {σ:St} {H:Hp} {x:Str} {u:Value} {pos:Pos} {Q:Value→Shared→Prop} (I:Inv X pins σ H s) (hg:Gl X x) (hm:X.mg x=some u) (h:Q u s)
    (hd:(x == ("__debug__":Str))=false:=by decide):wpAny (model X.prog X.w) X.A (eval (.Name x pos) X.env) Q E s :=
  Calls.Name_function_global I.ok.kind hg (Calls.loadGlobal_global (by rw [I.ok.glob];exact I.mod.glob.keeps I.bk) hm h) hd
theorem ld_blt {E:Value→Shared→Prop} {pins:List (Addr×Obj)} {s:Shared} {σ:St} {H:Hp} {x:Str} {u:Value} {pos:Pos} {Q:Value→Shared→Prop} (I:Inv X pins σ H s) (hg:Gl X x) (hm:X.mg x=none) (hv:bootBuiltins x=some u) (h:Q u s)
    (hn:x≠"__name__":=by decide) (hd:(x == ("__debug__":Str))=false:=by decide):wpAny (model X.prog X.w) X.A (eval (.Name x pos) X.env) Q E s:=by
  obtain ⟨mb,h1,h2⟩:=I.mod.blt
  exact Calls.Name_function_global I.ok.kind hg (Calls.loadGlobal_builtin (by rw [I.ok.glob];exact I.mod.glob.keeps I.bk) hm (by rw [I.ok.blt];exact h1.keeps I.bk) ((h2 x hn).trans hv) h) hd
theorem pe_glob {x:Str} {v:V} {u:Value} {pos:Pos} (hg:Gl X x) (hm:X.mg x=some u) (r:RelV v u) (hd:(x == ("__debug__":Str))=false:=by decide):PE X (.Name x pos) (tC v) :=
  fun _ _ _ H _ I h=>ld_glob I hg hm ⟨v,H,I,r,h⟩ hd
theorem pe_bltn {x:Str} {v:V} {u:Value} {pos:Pos} (hg:Gl X x) (hm:X.mg x=none) (hv:bootBuiltins x=some u) (r:RelV v u) (hn:x≠"__name__":=by decide) (hd:(x == ("__debug__":Str))=false:=by decide):PE X (.Name x pos) (tC v) :=
  fun _ _ _ H _ I h=>ld_blt I hg hm hv ⟨v,H,I,r,h⟩ hn hd
noncomputable def t2I (ta tb:TE) (k:Int→Int→Hp→Prop):St→Hp→Prop:=fun σ H=>ta σ H fun x H1=>tb σ H1 fun y H2=>∃ i j,x=.int i∧y=.int j∧k i j H2
noncomputable def tAdd (ta tb:TE):TE:=fun σ H Q=>t2I ta tb (fun i j H2=>Q (.int (i + j)) H2) σ H
noncomputable def tSub (ta tb:TE):TE:=fun σ H Q=>t2I ta tb (fun i j H2=>Q (.int (i - j)) H2) σ H
noncomputable def tMul (ta tb:TE):TE:=fun σ H Q=>t2I ta tb (fun i j H2=>(-(2 ^ 64) < i∧i < 2 ^ 64)∧Q (.int (i * j)) H2) σ H
variable {a b:Expr} {ta tb:TE} {pos:Pos}
noncomputable def PC (X:Cx) (op:CmpOp) (a b:Expr) (t:TE):Prop :=
  ∀ (pins:List (Addr×Obj)) (s:Shared) (σ:St) (H:Hp) (Q:VK),Inv X pins σ H s→t σ H Q →
    wpAny (model X.prog X.w) X.A (eval a X.env) (fun v s₁=>wpAny (model X.prog X.w) X.A (eval b X.env) (fun u s₂=>wpAny (model X.prog X.w) X.A (compareOp op v u) (EP X pins σ Q) X.xe s₂) X.xe s₁) X.xe s
theorem nobehind (b:Expr) {op:CmpOp} (h:op≠.In) (h2:op≠.NotIn):behindInMarks op b=false:=by
  have e1:(op == CmpOp.In)=false:=by cases op <;> first | rfl | exact absurd rfl h
  have e2:(op == CmpOp.NotIn)=false:=by cases op <;> first | rfl | exact absurd rfl h2
  cases b <;> simp [behindInMarks,e1,e2]
noncomputable def tCmp (p:Int→Int→Bool) (ta tb:TE):TE:=fun σ H Q=>t2I ta tb (fun i j H2=>Q (.bl (p i j)) H2) σ H
noncomputable abbrev tLt:TE→TE→TE:=tCmp fun i j=>decide (i < j)
noncomputable abbrev tLe:TE→TE→TE:=tCmp fun i j=>decide (i≤j)
noncomputable abbrev tGt:TE→TE→TE:=tCmp fun i j=>decide (j < i)
noncomputable abbrev tGe:TE→TE→TE:=tCmp fun i j=>decide (j≤i)
noncomputable abbrev tEqI:TE→TE→TE:=tCmp fun i j=>decide (i=j)
noncomputable abbrev tNeI:TE→TE→TE:=tCmp fun i j=>!decide (i=j)
noncomputable def tIsN (ta:TE):TE:=fun σ H Q=>ta σ H fun x H1=>Q (.bl (decide (x=.non))) H1
noncomputable def tNotN (ta:TE):TE:=fun σ H Q=>ta σ H fun x H1=>Q (.bl (!decide (x=.non))) H1
noncomputable def tB (t:TE):TT:=fun σ H Q=>t σ H fun x H1=>∃ c,x=.bl c∧Q c H1
theorem pt_cmp {op:CmpOp} {t:TE} (h:PC X op a b t) (h1:behindInMarks op b=false:=by first | exact nobehind _ (by decide) (by decide) | rfl):PT X (.Compare a [op] [b] pos) (tB t):=by
  intro pins s σ H Q I hw
  refine wpAny_isTrue_Compare1 (thn (h pins s σ H _ I hw) fun v s1 h1=>thn h1 fun u s2 h2=>thn h2 fun c s3 ⟨x,H1,I1,r1,q1⟩=>?_) h1
  obtain ⟨d,rfl,q⟩:=q1
  cases r1
  exact wpAny_truthy_bool ⟨H1,I1,q⟩
variable {tA tB':TT} {rest:List Expr}
noncomputable def tAnd (t u:TT):TT:=fun σ H Q=>t σ H fun c H1=>if c=true then u σ H1 Q else Q false H1
noncomputable def tOr (t u:TT):TT:=fun σ H Q=>t σ H fun c H1=>if c=true then Q true H1 else u σ H1 Q
noncomputable def tNot (t:TT):TT:=fun σ H Q=>t σ H fun c H1=>Q (!c) H1
theorem pw_and1 (ha:PT X a tA):PW X (.BoolOp .And [a] pos) tA:=by
  intro wh pins s σ H Q I h
  refine isTrue_and (thn (ha pins s σ H Q I h) fun c s1 e=>?_)
  cases c with
  | true=>exact isTrue_and_nil e
  | false=>exact e
theorem pw_or1 (ha:PT X a tA):PW X (.BoolOp .Or [a] pos) tA:=by
  intro wh pins s σ H Q I h
  refine isTrue_or (thn (ha pins s σ H Q I h) fun c s1 e=>?_)
  cases c with
  | false=>exact isTrue_or_nil e
  | true=>exact e
theorem pw_and (ha:PT X a tA) (hb:PW X (.BoolOp .And (b :: rest) pos) tB'):PW X (.BoolOp .And (a :: b :: rest) pos) (tAnd tA tB'):=by
  intro wh pins s σ H Q I h
  refine isTrue_and (thn (ha pins s σ H _ I h) fun c s1 ⟨H1,I1,q1⟩=>?_)
  cases c with
  | true=>exact hb wh pins s1 σ H1 Q I1 q1
  | false=>exact ⟨H1,I1,q1⟩
theorem pw_or (ha:PT X a tA) (hb:PW X (.BoolOp .Or (b :: rest) pos) tB'):PW X (.BoolOp .Or (a :: b :: rest) pos) (tOr tA tB'):=by
  intro wh pins s σ H Q I h
  refine isTrue_or (thn (ha pins s σ H _ I h) fun c s1 ⟨H1,I1,q1⟩=>?_)
  cases c with
  | true=>exact ⟨H1,I1,q1⟩
  | false=>exact hb wh pins s1 σ H1 Q I1 q1
theorem pt_not (ha:PT X a tA):PT X (.UnaryOp .Not a pos) (tNot tA):=by
  intro pins s σ H Q I h
  exact isTrue_not (ha pins s σ H (fun c H1=>Q (!c) H1) I h)
noncomputable def tAndV (ta tb:TE):TE:=fun σ H Q=>ta σ H fun x H1=>∃ c,x=.bl c∧if c=true then tb σ H1 Q else Q (.bl false) H1
noncomputable def tOrV (ta tb:TE):TE:=fun σ H Q=>ta σ H fun x H1=>∃ c,x=.bl c∧if c=true then Q (.bl true) H1 else tb σ H1 Q
noncomputable def tNotV (ta:TE):TE:=fun σ H Q=>ta σ H fun x H1=>∃ c,x=.bl c∧Q (.bl (!c)) H1
theorem pe_one {op} {t:TE} (h:PE X a t):PE X (.BoolOp op [a] pos) t:=fun pins s σ H Q I hw=>BoolOp_one (h pins s σ H Q I hw)
theorem pe_and (ha:PE X a ta) (hb:PE X (.BoolOp .And (b :: rest) pos) tb):PE X (.BoolOp .And (a :: b :: rest) pos) (tAndV ta tb):=by
  intro pins s σ H Q I h
  refine BoolOp_and (thn (ha pins s σ H _ I h) fun v s1 ⟨x,H1,I1,r1,q1⟩=>?_)
  obtain ⟨c,rfl,q1⟩:=q1
  cases r1
  refine wpAny_truthy_bool ?_
  cases c with
  | true=>exact hb pins s1 σ H1 Q I1 q1
  | false=>exact ⟨.bl false,H1,I1,rfl,q1⟩
theorem pe_not (ha:PE X a ta):PE X (.UnaryOp .Not a pos) (tNotV ta):=by
  intro pins s σ H Q I h
  refine UnaryOp_ (thn (ha pins s σ H _ I h) fun v s1 ⟨x,H1,I1,r1,q1⟩=>?_)
  obtain ⟨c,rfl,q1⟩:=q1
  cases r1
  exact not_of (wpAny_truthy_bool ⟨.bl (!c),H1,I1,rfl,q1⟩)
noncomputable def tIf (t:TT) (ta tb:TE):TE:=fun σ H Q=>t σ H fun c H1=>if c=true then ta σ H1 Q else tb σ H1 Q
theorem pe_ifExp {c:Expr} (hc:PT X c tA) (ha:PE X a ta) (hb:PE X b tb):PE X (.IfExp c a b pos) (tIf tA ta tb):=by
  intro pins s σ H Q I h
  refine wpAny_IfExp (thn (hc pins s σ H _ I h) fun d s1 ⟨H1,I1,q1⟩=>?_)
  cases d with
  | true=>exact ha pins s1 σ H1 Q I1 q1
  | false=>exact hb pins s1 σ H1 Q I1 q1
end
end L2
namespace L2
open PySem PySem.Spec PyProof.Rows
noncomputable def SqL (K:PySem.W.Frag) (H:Hp) (a:Addr) (xs:List V):Prop :=
  Rd H a (.lst xs) ∨
    ∃ (o:Obj) (its:Array Value) (n:Nat),K.lookup a=some o∧o.cls=.type "list"∧o.dict=none∧o.data=.seq its n∧its.size≤sizeLine∧Vals xs its.toList
noncomputable def SqT (K:PySem.W.Frag) (H:Hp) (a:Addr) (xs:List V):Prop :=
  Rd H a (.tup xs) ∨
    ∃ (o:Obj) (its:Array Value) (n:Nat),K.lookup a=some o∧o.cls=.type "tuple"∧o.data=.seq its n∧its.size≤sizeLine∧Vals xs its.toList
noncomputable def absV:Value→Option V
  | .none=>some .non
  | .bool b=>some (.bl b)
  | .int i _=>some (.int i)
  | .str x _=>some (.str x)
  | .bytes b _=>some (.byt b)
  | .float b _=>some (.flt b)
  | .ref a=>some (.ref a)
  | .type n=>some (.ty n)
  | _=>none
theorem RelV.abs {x:V} {u:Value} (r:RelV x u):absV u=some x:=by
  cases x with
  | non=>cases r;rfl
  | bl _=>cases r;rfl
  | int _=>obtain ⟨t,rfl⟩:=r;rfl
  | str _=>obtain ⟨t,rfl⟩:=r;rfl
  | byt _=>obtain ⟨t,rfl⟩:=r;rfl
  | flt _=>obtain ⟨t,rfl⟩:=r;rfl
  | ref _=>cases r;rfl
  | ty _=>cases r;rfl
theorem RelV.inj {x y:V} {u:Value} (r:RelV x u) (q:RelV y u):x=y:=Option.some.inj (r.abs.symm.trans q.abs)
theorem Vals.inj:∀ {xs ys:List V} {us:List Value},Vals xs us→Vals ys us→xs=ys
  | _,_,_,.nil,.nil=>rfl
  | _,_,_,.cons r t,.cons r' t'=>by rw [r.inj r',Vals.inj t t']
section
variable {X:Cx} {pins:List (Addr×Obj)} {σ:St} {H:Hp} {s:Shared} {a:Addr} {xs ys:List V}
theorem SqL.of {K:PySem.W.Frag} (h:H a=some (.lst xs)):SqL K H a xs:=.inl (.inl h)
theorem SqT.of {K:PySem.W.Frag} (h:H a=some (.tup xs)):SqT K H a xs:=.inl (.inl h)
theorem Inv.list (I:Inv X pins σ H s) (h:SqL X.K H a xs):∃ its:List Value,Vals xs its∧PlainL s.heap a its.toArray∧xs.length≤sizeLine:=by
  rcases h with h | ⟨o,its,n,hk,hc,hd,hs,hz,r⟩
  · obtain ⟨z,its,n,r,e⟩:=h.ok I.hok
    exact ⟨its,r,⟨_,n,e,rfl,rfl,rfl⟩,z⟩
  · refine ⟨its.toList,r,⟨o,n,I.kIn a o hk,hc,hd,by simpa using hs⟩,?_⟩
    have e:=r.length
    simp only [Array.length_toList] at e
    omega
theorem Inv.tuple (I:Inv X pins σ H s) (h:SqT X.K H a xs):∃ its:List Value,Vals xs its∧IsTup s.heap a its.toArray∧xs.length≤sizeLine:=by
  rcases h with h | ⟨o,its,n,hk,hc,hs,hz,r⟩
  · obtain ⟨z,its,r,p⟩:=h.ok I.hok
    exact ⟨its,r,p,z⟩
  · refine ⟨its.toList,r,⟨o,I.kIn a o hk,hc,n,by simpa using hs⟩,?_⟩
    have e:=r.length
    simp only [Array.length_toList] at e
    omega
theorem Inv.list_inj (I:Inv X pins σ H s) (h:SqL X.K H a xs) (h':SqL X.K H a ys):xs=ys:=by
  obtain ⟨its,r,⟨o,n,e,_,_,d⟩,_⟩:=I.list h
  obtain ⟨its',r',⟨o',n',e',_,_,d'⟩,_⟩:=I.list h'
  rw [e] at e';cases e'
  rw [d] at d'
  injection d' with d1 _
  have:its=its':=by simpa using congrArg Array.toList d1
  subst this
  exact r.inj r'
end
noncomputable abbrev Cx.wish (X:Cx) (E:Value→Shared→Prop):Cx:={ X with xe:=E }
noncomputable abbrev Cx.nox (X:Cx):Cx:=X.wish fun _ _=>False
theorem Cx.Ok.wish {X:Cx} (ok:X.Ok) (E:Value→Shared→Prop):(X.wish E).Ok :=
  ⟨ok.mod,ok.kind,ok.glob,ok.blt,ok.above,ok.inj,ok.has,ok.cab,ok.hd,ok.frames,ok.stk,ok.exf,ok.bs,ok.bsz,ok.noex,ok.exfs,ok.funs,ok.frf⟩
theorem Cx.Ok.unwish {X:Cx} {E:Value→Shared→Prop} (ok:(X.wish E).Ok):X.Ok :=
  ⟨ok.mod,ok.kind,ok.glob,ok.blt,ok.above,ok.inj,ok.has,ok.cab,ok.hd,ok.frames,ok.stk,ok.exf,ok.bs,ok.bsz,ok.noex,ok.exfs,ok.funs,ok.frf⟩
section
variable {X:Cx} {pins:List (Addr×Obj)} {σ:St} {H:Hp} {s:Shared} {E:Value→Shared→Prop}
theorem Inv.wish (I:Inv X pins σ H s) (E:Value→Shared→Prop):Inv (X.wish E) pins σ H s:=⟨I.ok.wish E,I.os,I.bare,I.base,I.loc,I.cell,I.free,I.freeC,I.pin,I.hok,I.len⟩
theorem Inv.unwish (I:Inv (X.wish E) pins σ H s):Inv X pins σ H s:=⟨I.ok.unwish,I.os,I.bare,I.base,I.loc,I.cell,I.free,I.freeC,I.pin,I.hok,I.len⟩
theorem SP.unwish {D:Ends} {f:Flow} {s':Shared} (h:SP (X.wish E) pins D f s'):SP X pins D f s':=by
  cases f with
  | next=>obtain ⟨σ',H',I,q⟩:=h;exact ⟨σ',H',I.unwish,q⟩
  | brk=>obtain ⟨σ',H',I,q⟩:=h;exact ⟨σ',H',I.unwish,q⟩
  | cont=>obtain ⟨σ',H',I,q⟩:=h;exact ⟨σ',H',I.unwish,q⟩
  | ret u=>obtain ⟨v,σ',H',I,r,q⟩:=h;exact ⟨v,σ',H',I.unwish,r,q⟩
theorem PSs.nox {st:List Stmt} {t:TS} (h:PSs X.nox st t):PSs X st t:=fun pins s σ H D I hw =>
  wpAny_mono (h pins s σ H D (I.wish _) hw) (fun _ _ q=>q.unwish) fun _ _ z=>False.elim z
end
section
variable {X:Cx} {st:Stmt} {rest:List Stmt} {t u:TS} {e:Expr} {te:TE} {pos:Pos}
noncomputable def tNext:TS:=fun D σ H=>D.nx σ H
noncomputable def tSeq (t u:TS):TS:=fun D σ H=>t { D with nx:=u D } σ H
theorem pss_nil:PSs X [] tNext:=fun _ _ σ H _ I h=>wpAny_execs_nil ⟨σ,H,I,h⟩
theorem pss_cons (h1:PS X st t) (h2:PSs X rest u):PSs X (st :: rest) (tSeq t u):=by
  intro pins s σ H D I h
  refine wpAny_execs_cons (thn (h1 pins s σ H { D with nx:=u D } I h) fun f s1 q=>?_)
  cases f with
  | next =>
    obtain ⟨σ',H',I',q⟩:=q
    exact h2 pins s1 σ' H' D I' q
  | ret v=>exact q
  | brk=>exact q
  | cont=>exact q
theorem pss_one (h1:PS X st t):PSs X [st] t:=by
  intro pins s σ H D I h
  refine wpAny_execs_cons (thn (h1 pins s σ H D I h) fun f s1 q=>?_)
  cases f with
  | next=>exact wpAny_execs_nil q
  | ret v=>exact q
  | brk=>exact q
  | cont=>exact q
noncomputable def tBreak:TS:=fun D σ H=>D.bk σ H
noncomputable def tCont:TS:=fun D σ H=>D.ct σ H
theorem Inv.quiet {pins:List (Addr×Obj)} {σ:St} {H:Hp} {s:Shared} (I:Inv X pins σ H s):interactive X.env=false:=by simp [interactive,I.ok.kind]
noncomputable def tDrop (te:TE):TS:=fun D σ H=>te σ H fun _ H1=>D.nx σ H1
theorem ps_expr (he:PE X e te) (hs:swapsWith e none pos.line X.env=pure false:=by rfl):PS X (.Expr e pos) (tDrop te):=by
  intro pins s σ H D I h
  exact wpAny_Expr_any (thn (he pins s σ H _ I h) fun v s1 ⟨x,H1,I1,r1,q1⟩=>⟨σ,H1,I1,q1⟩) I.quiet hs
noncomputable def tRet (te:TE):TS:=fun D σ H=>te σ H D.rt
theorem ps_ret (he:PE X e te):PS X (.Return (some e) pos) (tRet te):=by
  intro pins s σ H D I h
  exact wpAny_Return_some (thn (he pins s σ H _ I h) fun v s1 ⟨x,H1,I1,r1,q1⟩=>⟨x,σ,H1,I1,r1,q1⟩)
noncomputable def tRetN:TS:=fun D _ H=>D.rt .non H
theorem ps_retN:PS X (.Return none pos) tRetN:=fun _ _ σ H _ I h=>wpAny_Return_none ⟨.non,σ,H,I,rfl,h⟩
noncomputable def tIfS (c:TT) (t u:TS):TS:=fun D σ H=>c σ H fun b H1=>if b=true then t D σ H1 else u D σ H1
theorem ps_if {c:Expr} {a b:List Stmt} {tc:TT} (hc:PT X c tc) (ha:PSs X a t) (hb:PSs X b u):PS X (.If c a b pos) (tIfS tc t u):=by
  intro pins s σ H D I h
  refine wpAny_If (thn (hc pins s σ H _ I h) fun d s1 ⟨H1,I1,q1⟩=>?_)
  cases d with
  | true=>exact ha pins s1 σ H1 D I1 q1
  | false=>exact hb pins s1 σ H1 D I1 q1
noncomputable def tNever:TS:=fun _ _ _=>False
end
noncomputable abbrev TG:=V→St→Hp→(St→Hp→Prop)→Prop
noncomputable abbrev TGs:=List V→St→Hp→(St→Hp→Prop)→Prop
noncomputable def PG (X:Cx) (target:Expr) (t:TG):Prop :=
  ∀ (pins:List (Addr×Obj)) (s:Shared) (σ:St) (H:Hp) (v:V) (u:Value) (Q:St→Hp→Prop),Inv X pins σ H s→RelV v u→t v σ H Q →
    wpAny (model X.prog X.w) X.A (assign target X.env u) (fun _ s'=>∃ σ' H',Inv X pins σ' H' s'∧Q σ' H') X.xe s
noncomputable def PGs (X:Cx) (ts:List Expr) (t:TGs):Prop :=
  ∀ (pins:List (Addr×Obj)) (s:Shared) (σ:St) (H:Hp) (vs:List V) (us:List Value) (Q:St→Hp→Prop),Inv X pins σ H s→Vals vs us→t vs σ H Q →
    wpAny (model X.prog X.w) X.A (assignInOrder ((assignEach ts X.env).map (·.2)) us) (fun _ s'=>∃ σ' H',Inv X pins σ' H' s'∧Q σ' H') X.xe s
noncomputable abbrev TSet:=V→V→V→Hp→(Hp→Prop)→Prop
noncomputable def PSet (X:Cx) (t:TSet):Prop :=
  ∀ (pins:List (Addr×Obj)) (s:Shared) (σ:St) (H:Hp) (o i v:V) (ov iv u:Value) (Q:Hp→Prop),Inv X pins σ H s→RelV o ov→RelV i iv→RelV v u→t o i v H Q →
    wpAny (model X.prog X.w) X.A (setItem ov iv u) (fun _ s'=>∃ H',Inv X pins σ H' s'∧Q H') X.xe s
noncomputable abbrev TIp:=V→V→Hp→VK→Prop
noncomputable def PIp (X:Cx) (op:Operator) (t:TIp):Prop :=
  ∀ (pins:List (Addr×Obj)) (s:Shared) (σ:St) (H:Hp) (x y:V) (v u:Value) (Q:VK),Inv X pins σ H s→RelV x v→RelV y u→t x y H Q →
    wpAny (model X.prog X.w) X.A (inplaceOp op v u) (EP X pins σ Q) X.xe s
section
variable {X:Cx} {pos:Pos}
noncomputable def gName (i:Nat):TG:=fun v σ H Q=>Q (σ.set i (some v)) H
theorem pg_name {i:Nat} {x:Str} (hN:X.N.Nodup) (hi:X.N[i]?=some x) (hx:Loc X.env.scope x) (hf:X.fn x=true∨X.env.scope.names.lookup x=some .local:=by first | exact .inl rfl | exact .inr rfl | assumption):PG X (.Name x pos) (gName i):=by
  intro pins s σ H v u Q I r h
  exact wpAny_assign_Name (store_ok I hN hi hx r (fun s' I'=>⟨_,H,I',h⟩) hf)
noncomputable def gNil:TGs:=fun vs σ H Q=>vs=[]∧Q σ H
noncomputable def gCons (t:TG) (u:TGs):TGs:=fun vs σ H Q=>∃ v r,vs=v :: r∧t v σ H fun σ' H'=>u r σ' H' Q
theorem pgs_nil:PGs X [] gNil:=by
  intro pins s σ H vs us Q I r h
  obtain ⟨e,h⟩:=h
  subst e
  cases r
  exact assignInOrder_nil ⟨σ,H,I,h⟩
theorem pgs_cons {e:Expr} {es:List Expr} {t:TG} {u:TGs} (h1:PG X e t) (h2:PGs X es u)
    (hs:(assignEach (e :: es) X.env).map (·.2)=assign e X.env :: (assignEach es X.env).map (·.2):=by rfl):PGs X (e :: es) (gCons t u):=by
  intro pins s σ H vs us Q I r h
  obtain ⟨v,vr,e1,h⟩:=h
  subst e1
  cases r with
  | cons r rr =>
    rw [hs]
    refine assignInOrder_cons (thn (h1 pins s σ H _ _ _ I r h) fun _ s1 ⟨σ1,H1,I1,q1⟩=>?_)
    exact h2 pins s1 σ1 H1 _ _ Q I1 rr q1
noncomputable def gTup (K:PySem.W.Frag) (n:Nat) (t:TGs):TG:=fun v σ H Q=>∃ a xs,v=.ref a∧SqT K H a xs∧xs.length=n∧t xs σ H Q
theorem pg_tup {es:List Expr} {k:Nat} {t:TGs} {n:Nat} (hc:X.calm=true) (h:PGs X es t)
    (hn:(assignEach es X.env).length=n:=by rfl) (hst:(assignEach es X.env).findIdx? (·.1)=none:=by rfl):PG X (.Tuple es k pos) (gTup X.K n t):=by
  intro pins s σ H v u Q I r hw
  obtain ⟨a,xs,e1,hq,hl,hw⟩:=hw
  subst e1
  cases r
  obtain ⟨its,rv,ht,hz⟩:=I.tuple hq
  refine assign_Tuple_tuple (I.ok.hd hc) ht (by simp [hn,← hl,rv.length]) hst fun h' hx=>?_
  have I1:Inv X pins σ H { s with heap:=h' }:=I.kept (t':=s.toks) fun b o e=>hx b o (Nat.ne_of_lt (Heap.lt_size e)) e
  exact h pins _ σ H xs _ Q I1 (by simpa using rv) hw
noncomputable def gSub (to ti:TE) (t:TSet):TG:=fun v σ H Q=>to σ H fun o H1=>ti σ H1 fun i H2=>t o i v H2 fun H3=>Q σ H3
noncomputable def tAsg (te:TE) (g:TG):TS:=fun D σ H=>te σ H fun x H1=>g x σ H1 D.nx
theorem ps_set {i:Nat} {x:Str} {e:Expr} {te:TE} {pos':Pos} (hN:X.N.Nodup) (hi:X.N[i]?=some x) (hx:Loc X.env.scope x) (he:PE X e te) (hs:swapsWith e (some (.Name x pos')) pos.line X.env=pure false:=by rfl) (hf:X.fn x=true∨X.env.scope.names.lookup x=some .local:=by first | exact .inl rfl | exact .inr rfl | assumption) :
    PS X (.Assign [.Name x pos'] e pos) (tAsg te (gName i)):=by
  intro pins s σ H D I h
  refine wpAny_Assign_Name (thn (he pins s σ H _ I h) fun v s1 ⟨y,H1,I1,r1,q1⟩=>?_) hs
  exact store_ok I1 hN hi hx r1 (fun s2 I2=>⟨_,H1,I2,q1⟩) hf
noncomputable def tPar (i j:Nat) (ta:TA):TS:=fun D σ H=>ta σ H fun vs H1=>∃ v w,vs=[v,w]∧D.nx ((σ.set i (some v)).set j (some w)) H1
noncomputable def tAug (i:Nat) (te:TE) (ti:TIp):TS:=fun D σ H=>∃ x,σ[i]?=some (some x)∧te σ H fun y H1=>ti x y H1 fun z H2=>D.nx (σ.set i (some z)) H2
noncomputable def tAugS (to ti te:TE) (tget:V→V→Hp→VK→Prop) (tip:TIp) (tset:TSet):TS:=fun D σ H=>to σ H fun o H1=>ti σ H1 fun i H2=>tget o i H2 fun x H3=>te σ H3 fun y H4=>tip x y H4 fun z H5=>tset o i z H5 fun H6=>D.nx σ H6
noncomputable def PGet (X:Cx) (t:V→V→Hp→VK→Prop):Prop :=
  ∀ (pins:List (Addr×Obj)) (s:Shared) (σ:St) (H:Hp) (o i:V) (ov iv:Value) (Q:VK),Inv X pins σ H s→RelV o ov→RelV i iv→t o i H Q →
    wpAny (model X.prog X.w) X.A (getItem ov iv) (EP X pins σ Q) X.xe s
noncomputable def ipI (f:Int→Int→Int):TIp:=fun x y H Q=>∃ i j,x=.int i∧y=.int j∧Q (.int (f i j)) H
theorem ip_add:PIp X .Add (ipI fun i j=>i + j):=by
  intro pins s σ H x y v u Q I r1 r2 h
  obtain ⟨i,j,e1,e2,q⟩:=h
  subst e1;subst e2
  obtain ⟨t,rfl⟩:=r1
  obtain ⟨t',rfl⟩:=r2
  exact iadd_int ⟨.int _,H,I.tok _,⟨_,rfl⟩,q⟩
end
section
variable {X:Cx} {pos:Pos}
noncomputable def tWhile (c:TT) (tb:TS):TS:=fun D σ H=>∃ W:Nat→St→Hp→Prop,(∃ m,W m σ H)∧∀ m σ H,W m σ H →
  c σ H fun b H1=>if b=true then ∃ N:St→Hp→Prop,(∀ σ' H',N σ' H'→∃ m',m' < m∧W m' σ' H')∧tb { D with nx:=N,ct:=N,bk:=D.nx } σ H1 else D.nx σ H1
theorem ps_while {c:Expr} {body:List Stmt} {tc:TT} {tb:TS} (hp:PassesOwn (model X.prog X.w) X.A X.env X.xe) (hc:PT X c tc) (hb:PSs X body tb):PS X (.While c body [] pos) (tWhile tc tb):=by
  intro pins s σ H D I h
  obtain ⟨W,⟨m0,w0⟩,turn⟩:=h
  refine wpAny_While (codeAny_whileLoop (fun n s'=>∃ σ' H',Inv X pins σ' H' s'∧W n σ' H') ?_ m0 ⟨σ,H,I,w0⟩)
  rintro n s1 ⟨σ1,H1,I1,w1⟩
  refine wpAny_passesOwn hp (thn (hc pins s1 σ1 H1 _ I1 (turn n σ1 H1 w1)) fun b s2 ⟨H2,I2,q2⟩=>?_)
  cases b with
  | true =>
    obtain ⟨N,hN,q2⟩:=q2
    rw [if_pos rfl]
    refine wpAny_passesOwn hp (thn (hb pins s2 σ1 H2 _ I2 q2) fun f s3 q3=>?_)
    cases f with
    | next =>
      obtain ⟨σ3,H3,I3,n3⟩:=q3
      obtain ⟨m',hm,w3⟩:=hN σ3 H3 n3
      exact ⟨m',hm,σ3,H3,I3,w3⟩
    | cont =>
      obtain ⟨σ3,H3,I3,n3⟩:=q3
      obtain ⟨m',hm,w3⟩:=hN σ3 H3 n3
      exact ⟨m',hm,σ3,H3,I3,w3⟩
    | brk=>exact q3
    | ret v=>exact q3
  | false =>
    rw [if_neg Bool.false_ne_true]
    exact wpAny_execs_nil ⟨σ1,H2,I2,q2⟩
end
structure It where
  go:Nat→Hp→Prop
  yld:Nat→Hp→V→Hp→Prop
  stop:Nat→Hp→Prop
noncomputable def FpOk (X:Cx) (pins:List (Addr×Obj)) (H:Hp) (b:Addr):Prop :=
  H b=none∧b≠X.env.locals∧b ∉ X.fs∧(b∈X.ex∨X.s₀.heap.objs.size≤b)∧(∀ x c,X.env.cells.lookup x=some c→c≠b)∧∀ p∈X.pn ++ pins,p.1≠b
theorem Inv.fpOk {X:Cx} {pins:List (Addr×Obj)} {σ:St} {H H':Hp} {s:Shared} {b:Addr} (I:Inv X pins σ H s) (hb:s.heap.objs.size≤b) (hn:H' b=none):FpOk X pins H' b:=by
  refine ⟨hn,Nat.ne_of_gt (Nat.lt_of_lt_of_le I.lt hb),I.nofs hb,.inr (Nat.le_trans I.sz hb),fun x c e z=>?_,fun p hp z=>?_⟩
  · obtain ⟨v,q⟩:=I.cell x c e
    exact absurd (Nat.lt_of_lt_of_le q.lt (by rw [z];exact hb)) (Nat.lt_irrefl _)
  · exact absurd (Nat.lt_of_lt_of_le (Heap.lt_size (I.pin p hp).1) (by rw [z];exact hb)) (Nat.lt_irrefl _)
structure Turn (P:Program) (w:World) (K:PySem.W.Frag) (tg:Expr) (J:It) (fp:List Addr) (it:Addr) (tn:Nat→Heap→Prop):Prop where
  mem:it∈fp
  obj:∀ i h,tn i h→∀ b∈fp,∃ o,h.get? b=some o∧∀ v,o.data≠.cell v
  keep:∀ i h h',tn i h→(∀ b∈fp,∀ o,h.get? b=some o→h'.get? b=some o)→tn i h'
  item:∀ (X:Cx),X.prog=P→X.w=w→X.K=K→X.calm=true→∀ (i:Nat) (pins:List (Addr×Obj)) (s:Shared) (σ:St) (H:Hp) (E:Value→Shared→Prop),Inv X pins σ H s→(∀ b∈fp,FpOk X pins H b)→tn i s.heap→J.go i H →
    wpAny (model P w) X.A (pyNext (.ref it)) (fun r s1=>∃ u,r=some u ∧
      wpAny (model P w) X.A (letOwnedTupleGo tg (.ref it) u) (fun _ s2=>∃ x H',Inv X pins σ H' s2∧RelV x u∧J.yld i H x H'∧tn (i + 1) s2.heap∧∀ b∈fp,H' b=none) E s1) E s
  done:∀ (X:Cx),X.prog=P→X.w=w→X.K=K→X.calm=true→∀ (i:Nat) (pins:List (Addr×Obj)) (s:Shared) (σ:St) (H:Hp) (E:Value→Shared→Prop),Inv X pins σ H s→(∀ b∈fp,FpOk X pins H b)→tn i s.heap→J.stop i H →
    wpAny (model P w) X.A (pyNext (.ref it)) (fun r s1=>r=none∧Inv X pins σ H s1) E s
  self:∀ (A:Around) (i:Nat) (s:Shared) (Q:Value→Shared→Prop) (E:Value→Shared→Prop),tn i s.heap→Q (.ref it) s→wpAny (model P w) A (pyIter (.ref it)) Q E s
noncomputable abbrev TI:=St→Hp→(It→Hp→Prop)→Prop
noncomputable def PIE (X:Cx) (pins:List (Addr×Obj)) (σ:St) (tg:Expr) (R:It→Hp→Prop) (itv:Value) (s2:Shared):Prop :=
  ∃ (it:Addr) (fp:List Addr) (tn:Nat→Heap→Prop) (J:It) (H':Hp),itv=.ref it∧Inv X pins σ H' s2∧Turn X.prog X.w X.K tg J fp it tn∧tn 0 s2.heap∧(∀ b∈fp,FpOk X pins H' b)∧R J H'
noncomputable def PI (X:Cx) (tg iter:Expr) (wi:TI):Prop :=
  ∀ (pins:List (Addr×Obj)) (s:Shared) (σ:St) (H:Hp) (R:It→Hp→Prop),Inv X pins σ H s→wi σ H R →
    wpAny (model X.prog X.w) X.A (eval iter X.env) (fun v s1=>wpAny (model X.prog X.w) X.A (pyIter v) (PIE X pins σ tg R) X.xe s1) X.xe s
theorem go_of {M:Model} {A:Around} {E:Value→Shared→Prop} {s:Shared} {tg:Expr} {it:Addr} {u:Value} {o:Obj} {n:String} {vs:Array Value} {Q:Unit→Shared→Prop} (ho:s.heap.get? it=some o) (hc:o.cls=.type n) (hd:o.data=.fields vs)
    (hn:["enumerate","zip","dict_itemiterator","dict_reverseitemiterator","odict_iterator","itertools.zip_longest","itertools.pairwise"].contains n=false) (hQ:Q () s):wpAny M A (letOwnedTupleGo tg (.ref it) u) Q E s:=by
  unfold letOwnedTupleGo
  cases tg <;> first
    | exact wpAny_pure hQ
    | (cases u <;> first
        | exact wpAny_pure hQ
        | (refine wpAny_bind (wpAny_load ho ?_)
           rw [hc,hd]
           show wpAny M A (if (["enumerate","zip","dict_itemiterator","dict_reverseitemiterator","odict_iterator","itertools.zip_longest","itertools.pairwise"].contains n && vs[0]? == some (rawInt _))=true then _ else _) Q E s
           rw [if_neg (by intro h;rw [hn,Bool.false_and] at h;cases h)]
           exact wpAny_pure hQ))
noncomputable def Itl (K:PySem.W.Frag) (a:Addr):It :=
  ⟨fun i H=>∃ xs x,SqL K H a xs∧xs[i]?=some x,fun i H x H'=>H'=H∧∀ xs,SqL K H a xs→xs[i]?=some x,fun i H=>∃ xs,SqL K H a xs∧xs.length≤i⟩
noncomputable def Itt (K:PySem.W.Frag) (a:Addr):It :=
  ⟨fun i H=>∃ xs x,SqT K H a xs∧xs[i]?=some x,fun i H x H'=>H'=H∧∀ xs,SqT K H a xs→xs[i]?=some x,fun i H=>∃ xs,SqT K H a xs∧xs.length≤i⟩
noncomputable def Itr (lo:Int) (n:Nat):It:=⟨fun i _=>i < n,fun i H x H'=>H'=H∧x=.int (lo + i),fun i _=>n≤i⟩
theorem turn_list {P:Program} {w:World} {K:PySem.W.Frag} {tg:Expr} (a it:Addr):Turn P w K tg (Itl K a) [it] it (fun i h=>h.IsListIter it a i) where
  mem:=by simp
  obj:=fun i h st b hb=>by
    have e:b=it:=by simpa using hb
    subst e
    obtain ⟨o,e,c,d⟩:=st
    exact ⟨o,e,fun v z=>by rw [d] at z;cases z⟩
  keep:=fun i h h' st k=>st.at fun o e=>k it (by simp) o e
  item:=by
    intro X hP hw hK hc i pins s σ H E I hf st hg
    subst hP hw hK
    obtain ⟨xs,x,hq,hx⟩:=hg
    obtain ⟨its,rv,p,hz⟩:=I.list hq
    obtain ⟨u,hu,ru⟩:=rv.get hx
    obtain ⟨f0,f1,f2,f3,f4,f5⟩:=hf it (by simp)
    refine wpAny_pyNext_list_item st p.isList (x:=u) (by simpa using hu) fun h' st' sb=>?_
    have I1:Inv X pins σ H { s with heap:=h' }:=I.turned (t':=s.toks) (fun b o hb e=>(sb.2 b hb).trans e) f0 f1 f3 f4 f5
    obtain ⟨o,e,c,d⟩:=id st'
    exact ⟨u,rfl,go_of (s:={ s with heap:=h' }) e c d (by decide) ⟨x,H,I1,ru,⟨rfl,fun ys hy=>by rw [I.list_inj hy hq];exact hx⟩,st',fun b hb=>(hf b hb).1⟩⟩
  done:=by
    intro X hP hw hK hc i pins s σ H E I hf st hg
    subst hP hw hK
    obtain ⟨xs,hq,hx⟩:=hg
    obtain ⟨its,rv,p,hz⟩:=I.list hq
    obtain ⟨f0,f1,f2,f3,f4,f5⟩:=hf it (by simp)
    have hl:=rv.length
    exact wpAny_pyNext_list_end (I.ok.hd hc) st p.isList (by simp;omega) fun h' eb=>⟨rfl,I.turned (t':=s.toks) (fun b o hb e=>eb b o hb e) f0 f1 f3 f4 f5⟩
  self:=fun _ _ _ _ _ st h=>wpAny_pyIter_listiter st h
theorem turn_range {P:Program} {w:World} {K:PySem.W.Frag} {tg:Expr} (it:Addr) (lo:Int) (n:Nat):Turn P w K tg (Itr lo n) [it] it (fun i h=>IsRangeIter h it (lo + (i:Nat) * 1) ((n:Int) - (i:Nat)) 1) where
  mem:=by simp
  obj:=fun i h st b hb=>by
    have e:b=it:=by simpa using hb
    subst e
    exact ⟨_,st,fun v z=>by
      have z':Data.fields _=Data.cell v:=z
      cases z'⟩
  keep:=fun i h h' st k=>k it (by simp) _ st
  item:=by
    intro X hP hw hK hc i pins s σ H E I hf st hg
    subst hP hw hK
    obtain ⟨f0,f1,f2,f3,f4,f5⟩:=hf it (by simp)
    have W:=Walks.range (prog:=X.prog) (w:=X.w) (I.ok.hd hc) it lo 1 n
    refine W.item i s _ _ hg st fun v h' tk hv st' kk=>?_
    obtain ⟨t,rfl⟩:=hv
    have I1:Inv X pins σ H { s with heap:=h',toks:=tk }:=I.turned (fun b o hb e=>kk b o (by simpa using hb) e) f0 f1 f3 f4 f5
    refine ⟨_,rfl,go_of (s:={ s with heap:=h',toks:=tk }) (n:="range_iterator") st' rfl rfl (by decide) ⟨.int (lo + i),H,I1,⟨t,?_⟩,⟨rfl,rfl⟩,st',fun b hb=>(hf b hb).1⟩⟩
    rw [Int.mul_one]
  done:=by
    intro X hP hw hK hc i pins s σ H E I hf st hg
    subst hP hw hK
    obtain ⟨f0,f1,f2,f3,f4,f5⟩:=hf it (by simp)
    exact wpAny_pyNext_range_end (I.ok.hd hc) st (by have:n≤i:=hg;omega) fun h' eb=>⟨rfl,I.turned (t':=s.toks) (fun b o hb e=>eb b o hb e) f0 f1 f3 f4 f5⟩
  self:=fun _ _ _ _ _ st h=>wpAny_pyIter_rangeiter st h
end L2
namespace L2
open PySem PySem.Spec PyProof.Rows
section
variable {X:Cx} {tg:Expr}
noncomputable def iList (K:PySem.W.Frag) (tl:TE):TI:=fun σ H R=>tl σ H fun x H1=>∃ a,x=.ref a∧(∃ xs,SqL K H1 a xs)∧R (Itl K a) H1
noncomputable def iTup (K:PySem.W.Frag) (tl:TE):TI:=fun σ H R=>tl σ H fun x H1=>∃ a,x=.ref a∧(∃ xs,SqT K H1 a xs)∧R (Itt K a) H1
theorem pi_list {l:Expr} {tl:TE} (hl:PE X l tl):PI X tg l (iList X.K tl):=by
  intro pins s σ H R I h
  refine thn (hl pins s σ H _ I h) fun v s1 ⟨x,H1,I1,r1,q1⟩=>?_
  obtain ⟨a,e,⟨xs,hq⟩,q⟩:=q1
  subst e
  cases r1
  obtain ⟨its,rv,p,hz⟩:=I1.list hq
  refine wpAny_pyIter_list p.isList ?_
  refine ⟨s1.heap.objs.size,[s1.heap.objs.size],_,_,H1,rfl,I1.kept (t':=s1.toks) fun b o e=>Heap.get?_push_of_some _ e,turn_list a _,⟨_,Heap.get?_push_size _ rfl,rfl,rfl⟩,fun b hb=>?_,q⟩
  have e:b=s1.heap.objs.size:=by simpa using hb
  subst e
  exact I1.fpOk (Nat.le_refl _) (I1.hok.fresh (Nat.le_refl _))
theorem range_it {pins:List (Addr×Obj)} {σ:St} {H:Hp} {s:Shared} {R:It→Hp→Prop} {E:Value→Shared→Prop} {lo hi:Int} {t u v:Tok} {tk:Nat} (I:Inv X pins σ H s) (h1:-(2 ^ 62)≤lo) (h2:lo < 2 ^ 62) (h3:-(2 ^ 62)≤hi) (h4:hi < 2 ^ 62)
    (q:R (Itr lo (hi - lo).toNat) H):wpAny (model X.prog X.w) X.A (pyIter (.ref s.heap.objs.size)) (PIE X pins σ tg R) E { s with heap:=s.heap.push { cls:=.type "range",data:=.fields #[.int lo t,.int hi u,.int 1 v] },toks:=tk }:=by
  refine wpAny_pyIter_range (IsRange.new ..) (small_one h1 h2 h3 h4) ?_
  have I1:Inv X pins σ H { s with heap:=s.heap.push { cls:=.type "range",data:=.fields #[.int lo t,.int hi u,.int 1 v] },toks:=tk }:=I.kept fun b o e=>Heap.get?_push_of_some _ e
  refine ⟨(s.heap.push { cls:=.type "range",data:=.fields #[.int lo t,.int hi u,.int 1 v] }).objs.size,[(s.heap.push { cls:=.type "range",data:=.fields #[.int lo t,.int hi u,.int 1 v] }).objs.size],_,_,H,rfl,
    I1.kept (t':=tk) fun b o e=>Heap.get?_push_of_some _ e,turn_range _ lo (hi - lo).toNat,?_,fun b hb=>?_,q⟩
  · have e1:lo + ((0:Nat):Int) * 1=lo:=by simp
    have e2:(((hi - lo).toNat:Nat):Int) - ((0:Nat):Int)=Builtin.Range.rangeSize lo hi 1:=by rw [rangeSize_one];split <;> omega
    show IsRangeIter _ _ (lo + ((0:Nat):Int) * 1) ((((hi - lo).toNat:Nat):Int) - ((0:Nat):Int)) 1
    rw [e1,e2]
    exact Heap.get?_push_size _ rfl
  · have e:b=(s.heap.push { cls:=.type "range",data:=.fields #[.int lo t,.int hi u,.int 1 v] }).objs.size:=by simpa using hb
    subst e
    exact I1.fpOk (Nat.le_refl _) (I1.hok.fresh (Nat.le_refl _))
noncomputable def iRng1 (ta:TA):TI:=fun σ H R=>ta σ H fun vs H1=>∃ j:Int,vs=[.int j]∧-(2 ^ 62)≤j∧j < 2 ^ 62∧R (Itr 0 j.toNat) H1
noncomputable def iRng2 (ta:TA):TI:=fun σ H R=>ta σ H fun vs H1=>∃ i j:Int,vs=[.int i,.int j]∧(-(2 ^ 62)≤i∧i < 2 ^ 62∧-(2 ^ 62)≤j∧j < 2 ^ 62)∧R (Itr i (j - i).toNat) H1
theorem pi_range1 {a:Expr} {ta:TA} {p pos:Pos} (hg:Gl X "range") (hm:X.mg "range"=none) (ha:PA X [a] ta) (hs:starEach [a] X.env=[(false,eval a X.env)]:=by rfl):PI X tg (.Call (.Name "range" p) [a] [] pos) (iRng1 ta):=by
  intro pins s σ H R I h
  refine Call_ (ld_blt I hg hm boot_range (PyProof.Rows.callWith_type1 (thn (ha pos pins s σ H _ I h) fun us s1 ⟨vs,H1,I1,r1,q1⟩=>?_) hs rfl))
  obtain ⟨j,e,q1,q2,q⟩:=q1
  subst e
  cases r1 with
  | cons r rr =>
    cases rr
    obtain ⟨t,rfl⟩:=r
    exact call_range_1 (range_it I1 (by omega) (by omega) q1 q2 (by simpa using q))
theorem pi_range2 {a b:Expr} {ta:TA} {p pos:Pos} (hg:Gl X "range") (hm:X.mg "range"=none) (ha:PA X [a,b] ta) (hs:starEach [a,b] X.env=[(false,eval a X.env),(false,eval b X.env)]:=by rfl) (hs2:starEach [b] X.env=[(false,eval b X.env)]:=by rfl) :
    PI X tg (.Call (.Name "range" p) [a,b] [] pos) (iRng2 ta):=by
  intro pins s σ H R I h
  refine Call_ (ld_blt I hg hm boot_range (PyProof.Rows.callWith_type1 (thn (ha pos pins s σ H _ I h) fun us s1 ⟨vs,H1,I1,r1,q1⟩=>?_) (by rw [hs,hs2]) (by rw [hs2];rfl)))
  obtain ⟨i,j,e,⟨q1,q2,q3,q4⟩,q⟩:=q1
  subst e
  cases r1 with
  | cons r rr =>
    cases rr with
    | cons r' rr =>
      cases rr
      obtain ⟨t,rfl⟩:=r
      obtain ⟨t',rfl⟩:=r'
      exact call_range_2 (range_it I1 q1 q2 q3 q4 q)
noncomputable def tFor (wi:TI) (g:TG) (tb:TS):TS:=fun D σ H=>wi σ H fun J H1=>∃ W:Nat→Nat→St→Hp→Prop,(∃ m,W 0 m σ H1)∧∀ i m σ H,W i m σ H →
  (J.stop i H∧D.nx σ H)∨(J.go i H∧∃ N:St→Hp→Prop,(∀ σ' H',N σ' H'→∃ m',m' < m∧W (i + 1) m' σ' H')∧∀ x H',J.yld i H x H'→g x σ H' fun σ2 H2=>tb { D with nx:=N,ct:=N,bk:=D.nx } σ2 H2)
noncomputable def pinsAt (fp:List Addr) (h:Heap):List (Addr×Obj):=fp.filterMap fun b=>(h.get? b).map fun o=>(b,o)
theorem mem_pinsAt {fp:List Addr} {h:Heap} {b:Addr} {o:Obj} (hb:b∈fp) (e:h.get? b=some o):(b,o)∈pinsAt fp h:=List.mem_filterMap.mpr ⟨b,hb,by rw [e];rfl⟩
theorem of_pinsAt {fp:List Addr} {h:Heap} {p:Addr×Obj} (hp:p∈pinsAt fp h):p.1∈fp∧h.get? p.1=some p.2:=by
  obtain ⟨b,hb,e⟩:=List.mem_filterMap.mp hp
  cases q:h.get? b with
  | none=>rw [q] at e;cases e
  | some o =>
    rw [q] at e
    have e':(b,o)=p:=Option.some.inj e
    subst e'
    exact ⟨hb,q⟩
theorem Inv.pinned {pins:List (Addr×Obj)} {σ:St} {H:Hp} {s:Shared} {fp:List Addr} (I:Inv X pins σ H s) (hf:∀ b∈fp,FpOk X pins H b) (ho:∀ b∈fp,∃ o,s.heap.get? b=some o∧∀ v,o.data≠.cell v):Inv X (pins ++ pinsAt fp s.heap) σ H s :=
  I.pins_of fun p hp=>(List.mem_append.mp hp).elim (fun z=>I.pin p (List.mem_append_right _ z)) fun z=>by
    obtain ⟨hb,e⟩:=of_pinsAt z
    obtain ⟨f0,f1,f2,_⟩:=hf p.1 hb
    obtain ⟨o,e',d⟩:=ho p.1 hb
    rw [e] at e';cases e'
    exact ⟨e,f0,f1,f2,d⟩
theorem Inv.unpinned {pins pl:List (Addr×Obj)} {σ:St} {H:Hp} {s:Shared} (I:Inv X (pins ++ pl) σ H s):Inv X pins σ H s:=I.pins_of fun p hp=>I.pin p (List.mem_append_right _ (List.mem_append_left _ hp))
theorem ps_for {iter:Expr} {body:List Stmt} {wi:TI} {g:TG} {tb:TS} {pos:Pos} (hp:PassesOwn (model X.prog X.w) X.A X.env X.xe) (hc:X.calm=true) (hi:PI X tg iter wi) (hg:PG X tg g) (hb:PSs X body tb)
    (hs:∀ x,foldedSetIterable iter X.env x=pure x:=by intro _;rfl):PS X (.For tg iter body [] pos) (tFor wi g tb):=by
  intro pins s σ H D I h
  refine wpAny_For (thn (hi pins s σ H _ I h) fun v s1 h1=>thn h1 fun itv s2 h2=>?_) hs
  obtain ⟨it,fp,tn,J,H2,e,I2,T,st2,f2,W,⟨m0,w0⟩,turn⟩:=h2
  subst e
  -- what stays true of the iterator's objects through the loop
  have stat:∀ {H':Hp},(∀ b∈fp,H' b=none)→∀ b∈fp,FpOk X pins H' b:=fun hn b hb=>⟨hn b hb,(f2 b hb).2⟩
  refine codeAny_forLoop_any (fun n s'=>∃ i σ' H',Inv X pins σ' H' s'∧tn i s'.heap∧(∀ b∈fp,H' b=none)∧W i n σ' H') ?_ m0 ⟨0,σ,H2,I2,st2,fun b hb=>(f2 b hb).1,w0⟩
  rintro n s3 ⟨i,σ3,H3,I3,st3,fr3,w3⟩
  rcases turn i n σ3 H3 w3 with ⟨stop,qn⟩ | ⟨go,N,hN,step⟩
  · refine wpAny_passesOwn hp (thn (T.done X rfl rfl rfl hc i pins s3 σ3 H3 X.xe I3 (stat fr3) st3 stop) fun r s4 ⟨hr,I4⟩=>?_)
    subst hr
    exact wpAny_execs_nil ⟨σ3,H3,I4,qn⟩
  · refine wpAny_passesOwn hp (thn (T.item X rfl rfl rfl hc i pins s3 σ3 H3 X.xe I3 (stat fr3) st3 go) fun r s4 ⟨u,hr,h4⟩=>?_)
    subst hr
    refine wpAny_passesOwn hp (thn h4 fun _ s5 ⟨x,H5,I5,r5,y5,st5,fr5⟩=>?_)
    have I5':=I5.pinned (stat fr5) (T.obj _ _ st5)
    refine wpAny_passesOwn hp (thn (hg _ s5 σ3 H5 x u _ I5' r5 (step x H5 y5)) fun _ s6 ⟨σ6,H6,I6,q6⟩=>?_)
    refine wpAny_passesOwn hp (thn (hb _ s6 σ6 H6 _ I6 q6) fun f s7 q7=>?_)
    have again:∀ {σ7:St} {H7:Hp},Inv X (pins ++ pinsAt fp s5.heap) σ7 H7 s7→N σ7 H7→∃ m,m < n∧∃ i σ' H',Inv X pins σ' H' s7∧tn i s7.heap∧(∀ b∈fp,H' b=none)∧W i m σ' H':=fun {σ7 H7} I7 n7=>by
      obtain ⟨m',hm,w7⟩:=hN σ7 H7 n7
      refine ⟨m',hm,i + 1,σ7,H7,I7.unpinned,T.keep _ _ _ st5 fun b hb o e=>(I7.pin (b,o) (List.mem_append_right _ (List.mem_append_right _ (mem_pinsAt hb e)))).1,fun b hb=>?_,w7⟩
      obtain ⟨o,e,d⟩:=T.obj _ _ st5 b hb
      exact (I7.pin (b,o) (List.mem_append_right _ (List.mem_append_right _ (mem_pinsAt hb e)))).2.1
    cases f with
    | next=>obtain ⟨σ7,H7,I7,n7⟩:=q7;exact again I7 n7
    | cont=>obtain ⟨σ7,H7,I7,n7⟩:=q7;exact again I7 n7
    | brk=>obtain ⟨σ7,H7,I7,q7⟩:=q7;exact ⟨σ7,H7,I7.unpinned,q7⟩
    | ret v=>obtain ⟨x7,σ7,H7,I7,r7,q7⟩:=q7;exact ⟨x7,σ7,H7,I7.unpinned,r7,q7⟩
end
theorem for_list {K:PySem.W.Frag} {a:Addr} {xs:List V} {g:TG} {tb:TS} {D:Ends} {σ:St} {H:Hp} (Pv:Nat→St→Hp→Prop) (h0:Pv 0 σ H) (hl:∀ i σ H,i≤xs.length→Pv i σ H→SqL K H a xs)
    (hs:∀ i x σ H,xs[i]?=some x→Pv i σ H→g x σ H fun σ2 H2=>tb { D with nx:=Pv (i + 1),ct:=Pv (i + 1),bk:=D.nx } σ2 H2) (hd:∀ σ H,Pv xs.length σ H→D.nx σ H) :
    ∃ W:Nat→Nat→St→Hp→Prop,(∃ m,W 0 m σ H)∧∀ i m σ H,W i m σ H →
      ((Itl K a).stop i H∧D.nx σ H)∨((Itl K a).go i H∧∃ N:St→Hp→Prop,(∀ σ' H',N σ' H'→∃ m',m' < m∧W (i + 1) m' σ' H')∧∀ x H',(Itl K a).yld i H x H'→g x σ H' fun σ2 H2=>tb { D with nx:=N,ct:=N,bk:=D.nx } σ2 H2):=by
  refine ⟨fun i m σ H=>m=xs.length - i∧i≤xs.length∧Pv i σ H,⟨xs.length,by simp,Nat.zero_le _,h0⟩,?_⟩
  rintro i m σ H ⟨rfl,hi,p⟩
  have q:=hl i σ H hi p
  by_cases hlt:i < xs.length
  · refine .inr ⟨⟨xs,xs[i],q,by simp [hlt]⟩,Pv (i + 1),fun σ' H' p'=>⟨xs.length - (i + 1),by omega,rfl,hlt,p'⟩,fun x H' y=>?_⟩
    obtain ⟨e,y⟩:=y
    subst e
    exact hs i x σ _ (y xs q) p
  · have e:i=xs.length:=by omega
    subst e
    exact .inl ⟨⟨xs,q,Nat.le_refl _⟩,hd σ H p⟩
theorem for_range {lo:Int} {n:Nat} {g:TG} {tb:TS} {D:Ends} {σ:St} {H:Hp} (Pv:Nat→St→Hp→Prop) (h0:Pv 0 σ H)
    (hs:∀ i σ H,i < n→Pv i σ H→g (.int (lo + i)) σ H fun σ2 H2=>tb { D with nx:=Pv (i + 1),ct:=Pv (i + 1),bk:=D.nx } σ2 H2) (hd:∀ σ H,Pv n σ H→D.nx σ H) :
    ∃ W:Nat→Nat→St→Hp→Prop,(∃ m,W 0 m σ H)∧∀ i m σ H,W i m σ H →
      ((Itr lo n).stop i H∧D.nx σ H)∨((Itr lo n).go i H∧∃ N:St→Hp→Prop,(∀ σ' H',N σ' H'→∃ m',m' < m∧W (i + 1) m' σ' H')∧∀ x H',(Itr lo n).yld i H x H'→g x σ H' fun σ2 H2=>tb { D with nx:=N,ct:=N,bk:=D.nx } σ2 H2):=by
  refine ⟨fun i m σ H=>m=n - i∧i≤n∧Pv i σ H,⟨n,by simp,Nat.zero_le _,h0⟩,?_⟩
  rintro i m σ H ⟨rfl,hi,p⟩
  by_cases hlt:i < n
  · refine .inr ⟨hlt,Pv (i + 1),fun σ' H' p'=>⟨n - (i + 1),by omega,rfl,hlt,p'⟩,fun x H' y=>?_⟩
    obtain ⟨e,y⟩:=y
    subst e y
    exact hs i σ _ hlt p
  · have e:i=n:=by omega
    subst e
    exact .inl ⟨Nat.le_refl _,hd σ H p⟩
end L2
namespace L2
open PySem PySem.Spec PyProof.Rows
noncomputable abbrev R2:=V→V→Hp→VK→Prop
noncomputable def OpR (X:Cx) (f:Value→Value→Sem Value) (r:R2):Prop :=
  ∀ (pins:List (Addr×Obj)) (s:Shared) (σ:St) (H:Hp) (x y:V) (v u:Value) (Q:VK),Inv X pins σ H s→RelV x v→RelV y u→r x y H Q →
    wpAny (model X.prog X.w) X.A (f v u) (EP X pins σ Q) X.xe s
noncomputable def UnR (X:Cx) (f:Value→Sem Value) (r:V→Hp→VK→Prop):Prop :=
  ∀ (pins:List (Addr×Obj)) (s:Shared) (σ:St) (H:Hp) (x:V) (v:Value) (Q:VK),Inv X pins σ H s→RelV x v→r x H Q →
    wpAny (model X.prog X.w) X.A (f v) (EP X pins σ Q) X.xe s
noncomputable def CallR (X:Cx) (f:Value) (r:List V→Hp→VK→Prop):Prop :=
  ∀ (pins:List (Addr×Obj)) (s:Shared) (σ:St) (H:Hp) (xs:List V) (us:List Value) (Q:VK),Inv X pins σ H s→Vals xs us→r xs H Q →
    wpAny (model X.prog X.w) X.A (call f us) (EP X pins σ Q) X.xe s
noncomputable def TruR (X:Cx) (r:V→Hp→(Bool→Hp→Prop)→Prop):Prop :=
  ∀ (pins:List (Addr×Obj)) (s:Shared) (σ:St) (H:Hp) (x:V) (v:Value) (Q:Bool→Hp→Prop),Inv X pins σ H s→RelV x v→r x H Q →
    wpAny (model X.prog X.w) X.A (truthy v) (TP X pins σ Q) X.xe s
noncomputable def tOp (r:R2) (ta tb:TE):TE:=fun σ H Q=>ta σ H fun x H1=>tb σ H1 fun y H2=>r x y H2 Q
noncomputable def tUn (r:V→Hp→VK→Prop) (ta:TE):TE:=fun σ H Q=>ta σ H fun x H1=>r x H1 Q
noncomputable def rI (C:Int→Int→Prop) (g:Int→Int→V):R2:=fun x y H Q=>∃ i j,x=.int i∧y=.int j∧C i j∧Q (g i j) H
noncomputable def rI0 (g:Int→Int→V):R2:=fun x y H Q=>∃ i j,x=.int i∧y=.int j∧Q (g i j) H
noncomputable def rU (g:Int→V):V→Hp→VK→Prop:=fun x H Q=>∃ i,x=.int i∧Q (g i) H
section
variable {X:Cx} {a b c:Expr} {ta tb tc:TE} {pos:Pos}
theorem binT (ha:PE X a ta) (hb:PE X b tb) {pins:List (Addr×Obj)} {s:Shared} {σ:St} {H:Hp} {R:V→V→Hp→Prop} (I:Inv X pins σ H s)
    (h:ta σ H fun x H1=>tb σ H1 fun y H2=>R x y H2) {Q:Value→Shared→Prop} {f:Value→Value→Sem Value}
    (hf:∀ v u s2 x y H2,Inv X pins σ H2 s2→RelV x v→RelV y u→R x y H2→wpAny (model X.prog X.w) X.A (f v u) Q X.xe s2) :
    wpAny (model X.prog X.w) X.A (eval a X.env) (fun v s₁=>wpAny (model X.prog X.w) X.A (eval b X.env) (fun u s₂=>wpAny (model X.prog X.w) X.A (f v u) Q X.xe s₂) X.xe s₁) X.xe s:=by
  refine thn (ha pins s σ H _ I h) fun v s1 ⟨x,H1,I1,r1,q1⟩=>?_
  refine thn (hb pins s1 σ H1 _ I1 q1) fun u s2 ⟨y,H2,I2,r2,q2⟩=>?_
  exact hf v u s2 x y H2 I2 r1 r2 q2
theorem pe_op {op:Operator} {r:R2} (ho:OpR X (binaryOp op) r) (ha:PE X a ta) (hb:PE X b tb):PE X (.BinOp a op b pos) (tOp r ta tb):=by
  intro pins s σ H Q I h
  exact wpAny_BinOp (binT ha hb I h fun v u s2 x y H2 I2 rx ry q=>ho pins s2 σ H2 x y v u Q I2 rx ry q)
theorem opI {f:Value→Value→Sem Value} {C:Int→Int→Prop} {g:Int→Int→Int}
    (rule:∀ (i j:Int) (t u:Tok) (s:Shared) (Q:Value→Shared→Prop) (E:Value→Shared→Prop),C i j→Q (.int (g i j) s.toks) { s with toks:=s.toks + 1 }→wpAny (model X.prog X.w) X.A (f (.int i t) (.int j u)) Q E s) :
    OpR X f (rI C fun i j=>.int (g i j)):=by
  intro pins s σ H x y v u Q I rx ry h
  obtain ⟨i,j,rfl,rfl,hc,q⟩:=h
  obtain ⟨t,rfl⟩:=rx
  obtain ⟨t',rfl⟩:=ry
  exact rule i j t t' s _ _ hc ⟨.int (g i j),H,I.tok _,⟨_,rfl⟩,q⟩
theorem opI0 {f:Value→Value→Sem Value} {g:Int→Int→Int}
    (rule:∀ (i j:Int) (t u:Tok) (s:Shared) (Q:Value→Shared→Prop) (E:Value→Shared→Prop),Q (.int (g i j) s.toks) { s with toks:=s.toks + 1 }→wpAny (model X.prog X.w) X.A (f (.int i t) (.int j u)) Q E s) :
    OpR X f (rI0 fun i j=>.int (g i j)):=by
  intro pins s σ H x y v u Q I rx ry h
  obtain ⟨i,j,rfl,rfl,q⟩:=h
  obtain ⟨t,rfl⟩:=rx
  obtain ⟨t',rfl⟩:=ry
  exact rule i j t t' s _ _ ⟨.int (g i j),H,I.tok _,⟨_,rfl⟩,q⟩
theorem opB0 {f:Value→Value→Sem Value} {g:Int→Int→Bool}
    (rule:∀ (i j:Int) (t u:Tok) (s:Shared) (Q:Value→Shared→Prop) (E:Value→Shared→Prop),Q (.bool (g i j)) s→wpAny (model X.prog X.w) X.A (f (.int i t) (.int j u)) Q E s) :
    OpR X f (rI0 fun i j=>.bl (g i j)):=by
  intro pins s σ H x y v u Q I rx ry h
  obtain ⟨i,j,rfl,rfl,q⟩:=h
  obtain ⟨t,rfl⟩:=rx
  obtain ⟨t',rfl⟩:=ry
  exact rule i j t t' s _ _ ⟨.bl (g i j),H,I,rfl,q⟩
noncomputable def CDiv (i j:Int):Prop:=0 < j∧j < 1073741824
noncomputable def CDivN (i j:Int):Prop:=j≠0∧j.natAbs < 1073741824
noncomputable def CPow (i j:Int):Prop:=0≤j∧j≤1000000∧i.natAbs < 2 ^ 64
noncomputable def CMul (i j:Int):Prop:=(-(2 ^ 64) < i∧i < 2 ^ 64)∨(-(2 ^ 64) < j∧j < 2 ^ 64)
theorem CMul.ok {i j:Int} (h:CMul i j):IntMulOk i j:=by
  rcases h with ⟨h1,h2⟩ | ⟨h1,h2⟩
  · exact .of_left (intBits_le_64 h1 h2)
  · exact .of_right (intBits_le_64 h1 h2)
theorem op_add:OpR X (binaryOp .Add) (rI0 fun i j=>.int (i + j)):=opI0 fun _ _ _ _ _ _ _ q=>add_int q
theorem op_sub:OpR X (binaryOp .Sub) (rI0 fun i j=>.int (i - j)):=opI0 fun _ _ _ _ _ _ _ q=>sub_int q
theorem op_mul:OpR X (binaryOp .Mult) (rI CMul fun i j=>.int (i * j)):=opI fun _ _ _ _ _ _ _ hc q=>mul_int q hc.ok
theorem op_fdiv:OpR X (binaryOp .FloorDiv) (rI CDiv fun i j=>.int (i / j)):=opI fun i j _ _ _ _ _ hc q=>by
  have h1:(0:Int) < j:=hc.1
  have h2:j < 1073741824:=hc.2
  exact floordiv_int (by omega) (by rw [Int.fdiv_eq_ediv_of_nonneg i (by omega)];exact q) (.inl (PyProof.noPylong_small (by omega)))
theorem op_mod:OpR X (binaryOp .Mod) (rI (fun _ j=>0 < j) fun i j=>.int (i % j)):=opI fun i j _ _ _ _ _ hc q=>by
  have h1:(0:Int) < j:=hc
  exact mod_int' (by omega) (by rw [Int.fmod_eq_emod_of_nonneg i (by omega)];exact q)
end
noncomputable def scal:V→V→Bool
  | .non,.non=>true | .non,.int _=>true | .int _,.non=>true | .non,.bl _=>true | .bl _,.non=>true | .non,.str _=>true | .str _,.non=>true
  | .int _,.int _=>true | .bl _,.bl _=>true | .str _,.str _=>true | .byt _,.byt _=>true
  | .int _,.str _=>true | .str _,.int _=>true | .bl _,.str _=>true | .str _,.bl _=>true
  | _,_=>false
noncomputable def rEq:R2:=fun x y H Q=>scal x y=true∧Q (.bl (decide (x=y))) H
noncomputable def rNe:R2:=fun x y H Q=>scal x y=true∧Q (.bl (!decide (x=y))) H
theorem dec_int {i j:Int}:decide (V.int i=V.int j)=(i == j):=by
  rw [Bool.eq_iff_iff]
  simp
theorem dec_bl {i j:Bool}:decide (V.bl i=V.bl j)=(i == j):=by
  rw [Bool.eq_iff_iff]
  simp
theorem dec_str {i j:Str}:decide (V.str i=V.str j)=(i == j):=by
  rw [Bool.eq_iff_iff]
  simp
theorem dec_byt {i j:Array UInt8}:decide (V.byt i=V.byt j)=(i.toList == j.toList):=by
  rw [Bool.eq_iff_iff]
  cases i
  cases j
  simp
section
variable {X:Cx} {a b c:Expr} {ta tb tc:TE} {pos:Pos}
theorem fin_bl {pins:List (Addr×Obj)} {σ:St} {H:Hp} {s:Shared} {Q:VK} {k k':Bool} (I:Inv X pins σ H s) (q:Q (.bl k) H) (e:k=k'):EP X pins σ Q (.bool k') s:=by
  subst e
  exact ⟨.bl k,H,I,rfl,q⟩
theorem op_eq:OpR X (compareOp .Eq) rEq:=by
  intro pins s σ H x y v u Q I rx ry h
  obtain ⟨hs,q⟩:=h
  cases x with
  | non =>
    cases rx
    cases y with
    | non=>cases ry;exact PySem.EqNone.eq_none_none (fin_bl I q (by simp))
    | bl j=>cases ry;exact PySem.EqNone.eq_none_bool (fin_bl I q (by simp))
    | int j=>obtain ⟨t',rfl⟩:=ry;exact PySem.EqNone.eq_none_int (fin_bl I q (by simp))
    | str j=>obtain ⟨t',rfl⟩:=ry;exact PySem.EqNone.eq_none_str (fin_bl I q (by simp))
    | _=>exact absurd (show false=true from hs) Bool.false_ne_true
  | bl i =>
    cases rx
    cases y with
    | non=>cases ry;exact PySem.EqNone.eq_bool_none (fin_bl I q (by simp))
    | bl j=>cases ry;exact eq_bool (fin_bl I q dec_bl)
    | str j=>obtain ⟨t',rfl⟩:=ry;exact PySem.EqMixed.eq_bool_str (fin_bl I q (by simp))
    | _=>exact absurd (show false=true from hs) Bool.false_ne_true
  | int i =>
    obtain ⟨t,rfl⟩:=rx
    cases y with
    | non=>cases ry;exact PySem.EqNone.eq_int_none (fin_bl I q (by simp))
    | int j=>obtain ⟨t',rfl⟩:=ry;exact eq_int (fin_bl I q dec_int)
    | str j=>obtain ⟨t',rfl⟩:=ry;exact PySem.EqMixed.eq_int_str (fin_bl I q (by simp))
    | _=>exact absurd (show false=true from hs) Bool.false_ne_true
  | str i =>
    obtain ⟨t,rfl⟩:=rx
    cases y with
    | non=>cases ry;exact PySem.EqNone.eq_str_none (fin_bl I q (by simp))
    | bl j=>cases ry;exact PySem.EqMixed.eq_str_bool (fin_bl I q (by simp))
    | int j=>obtain ⟨t',rfl⟩:=ry;exact PySem.EqMixed.eq_str_int (fin_bl I q (by simp))
    | str j=>obtain ⟨t',rfl⟩:=ry;exact eq_str (fin_bl I q dec_str)
    | _=>exact absurd (show false=true from hs) Bool.false_ne_true
  | byt i =>
    obtain ⟨t,rfl⟩:=rx
    cases y with
    | byt j=>obtain ⟨t',rfl⟩:=ry;exact PySem.W.eq_bytes (fin_bl I q dec_byt)
    | _=>exact absurd (show false=true from hs) Bool.false_ne_true
  | _=>cases y <;> exact absurd (show false=true from hs) Bool.false_ne_true
theorem op_ne:OpR X (compareOp .NotEq) rNe:=by
  intro pins s σ H x y v u Q I rx ry h
  obtain ⟨hs,q⟩:=h
  cases x with
  | non =>
    cases rx
    cases y with
    | non=>cases ry;exact PySem.EqNone.ne_none_none (fin_bl I q (by simp))
    | bl j=>cases ry;exact PySem.EqNone.ne_none_bool (fin_bl I q (by simp))
    | int j=>obtain ⟨t',rfl⟩:=ry;exact PySem.EqNone.ne_none_int (fin_bl I q (by simp))
    | str j=>obtain ⟨t',rfl⟩:=ry;exact PySem.EqNone.ne_none_str (fin_bl I q (by simp))
    | _=>exact absurd (show false=true from hs) Bool.false_ne_true
  | bl i =>
    cases rx
    cases y with
    | non=>cases ry;exact PySem.EqNone.ne_bool_none (fin_bl I q (by simp))
    | bl j=>cases ry;exact ne_bool (fin_bl I q (congrArg not dec_bl))
    | str j=>obtain ⟨t',rfl⟩:=ry;exact PySem.EqMixed.ne_bool_str (fin_bl I q (by simp))
    | _=>exact absurd (show false=true from hs) Bool.false_ne_true
  | int i =>
    obtain ⟨t,rfl⟩:=rx
    cases y with
    | non=>cases ry;exact PySem.EqNone.ne_int_none (fin_bl I q (by simp))
    | int j=>obtain ⟨t',rfl⟩:=ry;exact ne_int (fin_bl I q (congrArg not dec_int))
    | str j=>obtain ⟨t',rfl⟩:=ry;exact PySem.EqMixed.ne_int_str (fin_bl I q (by simp))
    | _=>exact absurd (show false=true from hs) Bool.false_ne_true
  | str i =>
    obtain ⟨t,rfl⟩:=rx
    cases y with
    | non=>cases ry;exact PySem.EqNone.ne_str_none (fin_bl I q (by simp))
    | bl j=>cases ry;exact PySem.EqMixed.ne_str_bool (fin_bl I q (by simp))
    | int j=>obtain ⟨t',rfl⟩:=ry;exact PySem.EqMixed.ne_str_int (fin_bl I q (by simp))
    | str j=>obtain ⟨t',rfl⟩:=ry;exact ne_str (fin_bl I q (congrArg not dec_str))
    | _=>exact absurd (show false=true from hs) Bool.false_ne_true
  | byt i =>
    obtain ⟨t,rfl⟩:=rx
    cases y with
    | byt j=>obtain ⟨t',rfl⟩:=ry;exact PySem.W.ne_bytes (fin_bl I q (congrArg not dec_byt))
    | _=>exact absurd (show false=true from hs) Bool.false_ne_true
  | _=>cases y <;> exact absurd (show false=true from hs) Bool.false_ne_true
theorem op_lt:OpR X (compareOp .Lt) (rI0 fun i j=>.bl (decide (i < j))):=opB0 fun _ _ _ _ _ _ _ q=>lt_int q
theorem op_le:OpR X (compareOp .LtE) (rI0 fun i j=>.bl (decide (i≤j))):=opB0 fun _ _ _ _ _ _ _ q=>le_int q
theorem op_gt:OpR X (compareOp .Gt) (rI0 fun i j=>.bl (decide (j < i))):=opB0 fun _ _ _ _ _ _ _ q=>gt_int q
theorem op_ge:OpR X (compareOp .GtE) (rI0 fun i j=>.bl (decide (j≤i))):=opB0 fun _ _ _ _ _ _ _ q=>ge_int q
theorem op_isN:OpR X (compareOp .Is) (fun x y H Q=>y=.non∧Q (.bl (decide (x=.non))) H):=by
  intro pins s σ H x y v u Q I rx ry h
  obtain ⟨rfl,q⟩:=h
  cases ry
  refine is_none_gen (fin_bl I q ?_)
  cases x <;> first
    | (cases rx;rfl)
    | (obtain ⟨t,rfl⟩:=rx;rfl)
theorem op_notN:OpR X (compareOp .IsNot) (fun x y H Q=>y=.non∧Q (.bl (!decide (x=.non))) H):=by
  intro pins s σ H x y v u Q I rx ry h
  obtain ⟨rfl,q⟩:=h
  cases ry
  refine isnot_none_gen (fin_bl I q ?_)
  cases x <;> first
    | (cases rx;rfl)
    | (obtain ⟨t,rfl⟩:=rx;rfl)
noncomputable def isObj:HO→Bool
  | .lst _=>true
  | .ins _ _ _=>true
  | _=>false
theorem nomark (b:Expr) {op:CmpOp} (h:op≠.In:=by decide) (h2:op≠.NotIn:=by decide):behindInMarks op b=false:=by
  have e1:(op == CmpOp.In)=false:=by cases op <;> first | rfl | exact absurd rfl h
  have e2:(op == CmpOp.NotIn)=false:=by cases op <;> first | rfl | exact absurd rfl h2
  cases b <;> simp [behindInMarks,e1,e2]
theorem pe_cmpR {op:CmpOp} {r:R2} (ho:OpR X (compareOp op) r) (ha:PE X a ta) (hb:PE X b tb) (hm:behindInMarks op b=false):PE X (.Compare a [op] [b] pos) (tOp r ta tb):=by
  intro pins s σ H Q I h
  exact wpAny_Compare1 (binT ha hb I h fun v u s2 x y H2 I2 rx ry q=>ho pins s2 σ H2 x y v u Q I2 rx ry q) hm
noncomputable def tTest (t:TE):TT:=fun σ H Q=>t σ H fun x H'=>∃ k,x=.bl k∧Q k H'
theorem pt_cmpR {op:CmpOp} {r:R2} (ho:OpR X (compareOp op) r) (ha:PE X a ta) (hb:PE X b tb) (hm:behindInMarks op b=false):PT X (.Compare a [op] [b] pos) (tTest (tOp r ta tb)):=by
  intro pins s σ H Q I h
  refine wpAny_isTrue_Compare1 (thn (ha pins s σ H _ I h) fun v s1 ⟨x,H1,I1,r1,q1⟩=>thn (hb pins s1 σ H1 _ I1 q1) fun u s2 ⟨y,H2,I2,r2,q2⟩ =>
    thn (ho pins s2 σ H2 x y v u _ I2 r1 r2 q2) fun c s3 ⟨z,H3,I3,r3,k,e,q3⟩=>?_) hm
  subst e
  cases r3
  exact wpAny_truthy_bool ⟨H3,I3,q3⟩
noncomputable def tChain (r r':R2) (ta tb tc:TE):TE:=fun σ H Q=>ta σ H fun x H1=>tb σ H1 fun y H2=>r x y H2 fun z H3=>∃ k,z=.bl k ∧
  (if k=true then tc σ H3 fun w' H4=>r' y w' H4 Q else Q (.bl false) H3)
theorem pe_chain {op op':CmpOp} {r r':R2} (ho:OpR X (compareOp op) r) (ho':OpR X (compareOp op') r') (ha:PE X a ta) (hb:PE X b tb) (hc:PE X c tc)
    (hm:lastMarks [op,op'] [b,c]=false:=by with_unfolding_all rfl):PE X (.Compare a [op,op'] [b,c] pos) (tChain r r' ta tb tc):=by
  intro pins s σ H Q I h
  refine Compare_chain (thn (ha pins s σ H _ I h) fun v s1 ⟨x,H1,I1,r1,q1⟩=>chain_link (thn (hb pins s1 σ H1 _ I1 q1) fun u s2 ⟨y,H2,I2,r2,q2⟩ =>
    thn (ho pins s2 σ H2 x y v u _ I2 r1 r2 q2) fun d s3 ⟨z,H3,I3,r3,k,e,q3⟩=>?_)) hm
  subst e
  cases r3
  refine wpAny_truthy_bool ?_
  cases k with
  | false=>exact ite_ff ⟨.bl false,H3,I3,rfl,q3⟩
  | true=>exact ite_tt (chain_last (thn (hc pins s3 σ H3 _ I3 q3) fun w' s4 ⟨z',H4,I4,r4,q4⟩=>ho' pins s4 σ H4 y z' u w' Q I4 r2 r4 q4))
noncomputable def TruV (K:PySem.W.Frag) (x:V) (H:Hp) (k:Bool):Prop :=
  match x with
  | .non=>k=false
  | .bl b=>k=b
  | .int i=>k=(i != 0)
  | .str y=>y.length≤sizeLine∧k=((y.length:Int) != 0)
  | .byt y=>y.size≤sizeLine∧k=((y.size:Int) != 0)
  | .ref p=>(∃ xs,SqL K H p xs∧k=!xs.isEmpty)∨(∃ xs,SqT K H p xs∧k=!xs.isEmpty)∨∃ kvs,H p=some (.dK kvs)∧k=!kvs.isEmpty
  | _=>False
theorem isEmpty_kv {κ:Type} {kvs:List (κ×V)} {vs:List (κ×Value)} (r:KV kvs vs):(!vs.isEmpty)=!kvs.isEmpty:=by
  cases r <;> rfl
theorem isEmpty_of {xs:List V} {its:List Value} (r:Vals xs its):(!its.toArray.isEmpty)=!xs.isEmpty:=by
  cases r <;> simp
theorem line63:(sizeLine:Nat) < 2 ^ 63:=by rw [sizeLine_eq];decide
theorem tru_ok:TruR X (fun x H Q=>∃ k,TruV X.K x H k∧Q k H):=by
  intro pins s σ H x v Q I rx h
  obtain ⟨k,e,q⟩:=h
  have hl:=line63
  have hs:sizeLine=16777216:=sizeLine_eq
  cases x with
  | non =>
    cases rx
    have e':k=false:=e
    subst e'
    exact truthy_none ⟨H,I,q⟩
  | bl b =>
    cases rx
    have e':k=b:=e
    subst e'
    exact wpAny_truthy_bool ⟨H,I,q⟩
  | int i =>
    obtain ⟨t,rfl⟩:=rx
    have e':k=(i != 0):=e
    subst e'
    exact PySem.P.truthy_int ⟨H,I,q⟩
  | str y =>
    obtain ⟨t,rfl⟩:=rx
    obtain ⟨hy,e'⟩:y.length≤sizeLine∧k=((y.length:Int) != 0):=e
    subst e'
    exact PySem.P.truthy_str (by omega) ⟨H,I.tok _,q⟩
  | byt y =>
    obtain ⟨t,rfl⟩:=rx
    obtain ⟨hy,e'⟩:y.size≤sizeLine∧k=((y.size:Int) != 0):=e
    subst e'
    exact PySem.W.truthy_bytes (by omega) ⟨H,I.tok _,q⟩
  | ref p =>
    cases rx
    have e':(∃ xs,SqL X.K H p xs∧k=!xs.isEmpty)∨(∃ xs,SqT X.K H p xs∧k=!xs.isEmpty)∨∃ kvs,H p=some (.dK kvs)∧k=!kvs.isEmpty:=e
    rcases e' with ⟨xs,hx,e'⟩ | ⟨xs,hx,e'⟩ | ⟨kvs,hx,e'⟩
    · subst e'
      obtain ⟨its,r,pl,hz⟩:=I.list hx
      have hlen:=r.length
      exact wpAny_truthy_list pl.isList (by simp only [List.size_toArray];omega) ⟨H,I.tok _,by rw [isEmpty_of r];exact q⟩
    · subst e'
      obtain ⟨its,r,pl,hz⟩:=I.tuple hx
      have hlen:=r.length
      exact truthy_tuple pl (by simp only [List.size_toArray];omega) ⟨H,I.tok _,by rw [isEmpty_of r];exact q⟩
    · subst e'
      obtain ⟨hz,hS,vs,r,m⟩:kvs.length≤sizeLine∧(p == sysModules)=false∧∃ vs,KV kvs vs∧s.heap.DictOf (mixKind X.prog X.w) p vs:=I.hok p _ hx
      have hlen:kvs.length=vs.length:=Paired.length r
      exact wpAny_truthy_dict hS m (by omega) ⟨H,I.tok _,by rw [isEmpty_kv r];exact q⟩
  | _=>exact (show False from e).elim
theorem pt_truth (ha:PE X a ta) (he:∀ whole,isTrue a X.env whole=(do let v ← whole;standAt a.pos;holding [v] (truthy v))) :
    PT X a (fun σ H Q=>ta σ H fun x H'=>∃ k,TruV X.K x H' k∧Q k H'):=by
  intro pins s σ H Q I h
  exact isTrue_plain (thn (ha pins s σ H _ I h) fun v s1 ⟨x,H1,I1,r1,q1⟩=>tru_ok pins s1 σ H1 x v Q I1 r1 q1) (he _)
theorem op_add_str:OpR X (binaryOp .Add) (fun x y H Q=>∃ i j,x=.str i∧y=.str j∧i.length + j.length≤sizeLine∧Q (.str (i ++ j)) H):=by
  intro pins s σ H x y v u Q I rx ry h
  obtain ⟨i,j,rfl,rfl,hz,q⟩:=h
  obtain ⟨t,rfl⟩:=rx
  obtain ⟨t',rfl⟩:=ry
  exact add_str (fun t' tk=>⟨.str (i ++ j),H,I.tok _,⟨_,rfl⟩,q⟩) hz
noncomputable def PlainIxT (b:Expr):Prop:=∀ o i,subscripted b false o i=operate [o,i] (getItem o i)
theorem vals1 {x:V} {us:List Value} (r:Vals [x] us):∃ u,us=[u]∧RelV x u:=by
  cases r with
  | cons r1 r2=>cases r2;exact ⟨_,rfl,r1⟩
theorem vals2 {x y:V} {us:List Value} (r:Vals [x,y] us):∃ u w',us=[u,w']∧RelV x u∧RelV y w':=by
  cases r with
  | cons r1 r2 =>
    cases r2 with
    | cons r3 r4=>cases r4;exact ⟨_,_,rfl,r1,r3⟩
theorem call_min2 (hc:X.calm=true):CallR X (.builtin "min") (fun xs H Q=>∃ i j,xs=[.int i,.int j]∧Q (.int (if j < i then j else i)) H):=by
  intro pins s σ H xs us Q I r h
  obtain ⟨i,j,rfl,q⟩:=h
  obtain ⟨u,w',rfl,⟨t,rfl⟩,⟨t',rfl⟩⟩:=vals2 r
  refine min_two_ints (I.ok.hd hc) fun h' tk k=>⟨_,H,I.kept k,?_,q⟩
  by_cases hj:j < i
  · rw [if_pos hj,if_pos hj];exact ⟨_,rfl⟩
  · rw [if_neg hj,if_neg hj];exact ⟨_,rfl⟩
theorem call_int1:CallR X (.type "int") (fun xs H Q=>(∃ i,xs=[.int i]∧Q (.int i) H)∨∃ k,xs=[.bl k]∧Q (.int (if k then 1 else 0)) H):=by
  intro pins s σ H xs us Q I r h
  rcases h with ⟨i,rfl,q⟩ | ⟨k,rfl,q⟩
  · obtain ⟨u,rfl,t,rfl⟩:=vals1 r
    exact call_int_int ⟨.int i,H,I,⟨_,rfl⟩,q⟩
  · obtain ⟨u,rfl,r1⟩:=vals1 r
    cases r1
    exact call_int_bool ⟨.int (if k then 1 else 0),H,I.tok _,⟨_,rfl⟩,q⟩
theorem call_str_int:CallR X (.type "str") (fun xs H Q=>∃ i,xs=[.int i]∧i.natAbs.log2 < 1920∧Q (.str (toString i)) H):=by
  intro pins s σ H xs us Q I r h
  obtain ⟨i,rfl,hz,q⟩:=h
  obtain ⟨u,rfl,t,rfl⟩:=vals1 r
  exact PySem.P.str_of_int hz ⟨.str _,H,I.tok _,⟨_,rfl⟩,q⟩
noncomputable def LenV (K:PySem.W.Frag) (x:V) (H:Hp) (n:Nat):Prop :=
  match x with
  | .str y=>y.length≤sizeLine∧n=y.length
  | .byt y=>y.size≤sizeLine∧n=y.size
  | .ref p=>(∃ xs,SqL K H p xs∧n=xs.length)∨∃ xs,SqT K H p xs∧n=xs.length
  | _=>False
end
end L2
namespace L2
open PySem PySem.Spec PyProof.Rows
structure ObjM (h:Heap) (x dx C:Addr) (mA:Str→Option Value):Prop where
  obj:h.get? x=some (PySem.W.instObj C dx)
  ns:h.Ns1 dx mA
  ne:dx≠x
theorem lookIn_ns {h:Heap} {dx:Addr} {mA:Str→Option Value} (n:h.Ns1 dx mA):∃ od,h.get? dx=some od∧∀ name,PySem.W.lookIn name od=some (mA name):=by
  obtain ⟨o,es,ep,ho,hd,hk,_,hm⟩:=n
  refine ⟨o,ho,fun name=>?_⟩
  have e:=hm name
  unfold nsFind findBy at e
  rw [← Array.find?_toList] at e
  unfold PySem.W.lookIn
  rw [hd]
  dsimp only
  split
  · rename_i y q
    rw [q] at e
    exact congrArg some e
  · rename_i q
    rw [q] at e
    have a:es.toList.any (·.refKey)=false:=by
      rw [List.any_eq_false]
      intro y hy
      obtain ⟨z,t,hkey⟩:=hk y (Array.mem_toList_iff.mp hy)
      simp [DictEntry.refKey,hkey]
    have a':¬ es.toList.any (·.refKey)=true:=by rw [a];exact Bool.false_ne_true
    rw [if_neg a']
    exact congrArg some e
theorem ObjM.look {h:Heap} {x dx C:Addr} {mA:Str→Option Value} (I:ObjM h x dx C mA):∃ od,PySem.W.InstAt h x (PySem.W.instObj C dx) C (some od)∧∀ name,PySem.W.lookIn name od=some (mA name) :=
  let ⟨od,ho,hl⟩:=lookIn_ns I.ns
  ⟨od,⟨I.obj,rfl,rfl,ho⟩,hl⟩
section
variable {prog:Program} {w:World} {A:Around} {E:Value→Shared→Prop} {s:Shared} {K:PySem.W.Frag} {x dx C f:Addr} {mA:Str→Option Value} {name:Str} {v:Value}
theorem get_map {expr:Bool} {Q:Value→Shared→Prop} (X:K.In s.heap) (I:ObjM s.heap x dx C mA) (hg:PySem.W.plainGet K C name=true) (hh:PySem.W.hasDictIn K C=true)
    (ha:PySem.W.findIn K (.ref C) name=some none) (hv:mA name=some v) (hv':PySem.W.handedIn v=true) (h:Q v { s with toks:=s.toks + 1 }) :
    wpAny (model prog w) A (getAttr (.ref x) name expr) Q E s:=by
  obtain ⟨od,J,hl⟩:=I.look
  exact PySem.W.get_value X J (PySem.W.plainGet_of hg).1 (PySem.W.findObj_own hh ha rfl (by rw [hl,hv])) hv' h
theorem get_meth {pl:Sem Bool} {Q:Value×List Value→Shared→Prop} (X:K.In s.heap) (I:ObjM s.heap x dx C mA) (hg:PySem.W.plainGet K C name=true)
    (hf:PySem.W.findIn K (.ref C) name=some (some (.ref f))) (ht:PySem.W.isFn K (.ref f)=true) (hv:mA name=none) (h:Q (.ref f,[.ref x]) s) :
    wpAny (model prog w) A (getMethod (.ref x) name pl) Q E s:=by
  obtain ⟨od,J,hl⟩:=I.look
  exact PySem.W.method_fn X J (PySem.W.plainGet_of hg).1 (PySem.W.plainGet_of hg).2 hf (beq_iff_eq.mp ht) (by show (PySem.W.lookIn name od).map (·.isSome)=some false;rw [hl,hv];rfl) h
theorem set_map {ns:List Str} {Q:Unit→Shared→Prop} (X:K.In s.heap) (I:ObjM s.heap x dx C mA)
    (hs:PySem.W.findIn K (.ref C) "__setattr__"=some (some (.builtin "object.__setattr__"))) (hp:PySem.W.plainOver K C=true) (ht:PySem.W.takerIn K C name=some none) (hh:PySem.W.hasDictIn K C=true)
    (hw:PySem.Within mA ns) (hsz:ns.length≤sizeLine)
    (h:∀ h',ObjM h' x dx C (fun y=>if y=name then some v else mA y)→Heap.SameBut dx s.heap h'→Q () { s with heap:=h',toks:=s.toks + 2 }) :
    wpAny (model prog w) A (setAttr (.ref x) name v) Q E s:=by
  obtain ⟨od,J,hl⟩:=I.look
  refine PySem.W.set_plain X J hs (PySem.W.osa_open (s:={ s with toks:=s.toks + 1 }) (r:=none) X J hp ht fun b=>?_)
  obtain ⟨cd,hc,hd'⟩:=PySem.W.any_some hh
  have hx:s.heap.get? x=some ⟨.ref C,some dx,.plain,#[]⟩:=I.obj
  refine wpAny_bind (wpAny_pure (wpAny_bind (wpAny_bind (wpAny_loadPart hx (wpAny_bind (PySem.W.Looks.here (s:={ s with toks:=s.toks + 1 }) (PySem.W.looks_clsIn X hc) ?_))))))
  rw [hd']
  refine wpAny_pure (a:=some dx) (wpAny_bind (wpAny_pure (wpAny_bind ?_)))
  refine wpAny_nsSet1 (s:={ s with toks:=s.toks + 1 }) I.ns fun h' hn2 hs2=>?_
  obtain ⟨oD,esD,epD,hoD,hdD,hcD⟩:=hn2.count (PySem.Within.cons name v hw)
  refine wpAny_bind (wpAny_lookBehind hoD (by rw [hdD];exact pastItsLine_dict (Nat.le_trans hcD (by rw [List.length_cons];omega))) ?_)
  exact wpAny_pure (h _ ⟨(hs2.2 _ (Ne.symm I.ne)).trans I.obj,hn2,I.ne⟩ hs2)
theorem make_map {R:Result→Shared→Prop} {vs:List Value} {kw:List (Str×Value)} (X:K.In s.heap) (hm:PySem.W.makesIn K C=true)
    (hi:PySem.W.findIn K (.ref C) "__init__"=some (some (.ref f))) (hf:PySem.W.typeIn K (.ref f)=some (.type "function"))
    (h:codeAny (model prog w) (A.under (.builtin "type.__call__" ⟨.ref C :: vs,kw⟩)) (.call (.ref f) ⟨.ref (s.heap.objs.size + 1) :: vs,kw⟩) (PySem.W.InitBack (s.heap.objs.size + 1) R)
      { s with heap:=(s.heap.push PySem.W.emptyDict).push (PySem.W.instObj C s.heap.objs.size) }) :
    codeAny (model prog w) A (.call (.ref C) ⟨vs,kw⟩) R s:=by
  obtain ⟨hh,g,d,t,os⟩:=s
  exact PySem.W.make_core (PySem.W.makes_of X hm) (PySem.W.looks_findIn X hi) (fun self=>PySem.W.bind_fn X self hf) (.inl rfl) h
end
noncomputable def putF (f:Str) (v:V):List (Str×V)→List (Str×V)
  | []=>[(f,v)]
  | (g,x) :: r=>if g=f then (g,v) :: r else (g,x) :: putF f v r
theorem lookup_putF (f g:Str) (v:V):∀ fs:List (Str×V),(putF f v fs).lookup g=if g=f then some v else fs.lookup g
  | []=>by
    show List.lookup g [(f,v)]=_
    by_cases h:g=f
    · have hb:(g == f)=true:=beq_iff_eq.mpr h
      simp only [List.lookup,hb,if_pos h]
    · have hb:(g == f)=false:=beq_eq_false_iff_ne.mpr h
      simp only [List.lookup,hb,if_neg h]
  | (k,x) :: r=>by
    have ih:=lookup_putF f g v r
    rw [show putF f v ((k,x) :: r)=(if k=f then (k,v) :: r else (k,x) :: putF f v r) from rfl]
    by_cases hk:k=f
    · rw [if_pos hk]
      by_cases h:g=k
      · have hb:(g == k)=true:=beq_iff_eq.mpr h
        simp only [List.lookup,hb,if_pos (h.trans hk)]
      · have hb:(g == k)=false:=beq_eq_false_iff_ne.mpr h
        simp only [List.lookup,hb,if_neg (fun e:g=f=>h (e.trans hk.symm))]
    · rw [if_neg hk]
      by_cases h:g=k
      · have hb:(g == k)=true:=beq_iff_eq.mpr h
        simp only [List.lookup,hb,if_neg (fun e:g=f=>hk (h.symm.trans e))]
      · have hb:(g == k)=false:=beq_eq_false_iff_ne.mpr h
        simp only [List.lookup,hb]
        exact ih
theorem keys_putF (f:Str) (v:V):∀ fs:List (Str×V),f∈(putF f v fs).map (·.1)∧∀ g,g∈fs.map (·.1)→g∈(putF f v fs).map (·.1)
  | []=>⟨by simp [putF],fun g h=>by simp at h⟩
  | (k,x) :: r=>by
    obtain ⟨i1,i2⟩:=keys_putF f v r
    rw [show putF f v ((k,x) :: r)=(if k=f then (k,v) :: r else (k,x) :: putF f v r) from rfl]
    by_cases hk:k=f
    · rw [if_pos hk]
      subst hk
      exact ⟨by simp,fun g h=>by simpa using h⟩
    · rw [if_neg hk]
      refine ⟨?_,fun g h=>?_⟩
      · rw [List.map_cons]
        exact List.mem_cons_of_mem _ i1
      · rw [List.map_cons] at h ⊢
        rcases List.mem_cons.mp h with e | e
        · exact List.mem_cons.mpr (.inl e)
        · exact List.mem_cons_of_mem _ (i2 g e)
theorem length_putF (f:Str) (v:V):∀ fs:List (Str×V),(putF f v fs).length≤fs.length + 1
  | []=>by simp [putF]
  | (k,x) :: r=>by
    have ih:=length_putF f v r
    rw [show putF f v ((k,x) :: r)=(if k=f then (k,v) :: r else (k,x) :: putF f v r) from rfl]
    by_cases hk:k=f
    · rw [if_pos hk,List.length_cons,List.length_cons];omega
    · rw [if_neg hk,List.length_cons,List.length_cons];omega
theorem RelO.some_of {v:V} {o:Option Value} (r:RelO (some v) o):∃ u,o=some u∧RelV v u:=by
  cases o with
  | none=>exact (show False from r).elim
  | some u=>exact ⟨u,rfl,r⟩
theorem RelO.none_of {o:Option Value} (r:RelO none o):o=none:=by
  cases o with
  | none=>rfl
  | some u=>exact (show False from r).elim
theorem handed_of {v:V} {u:Value} (r:RelV v u):PySem.W.handedIn u=true:=by
  cases v with
  | non=>cases (show u=Value.none from r);rfl
  | bl b=>cases (show u=Value.bool b from r);rfl
  | int i=>obtain ⟨t,e⟩:=(show ∃ t,u=Value.int i t from r);cases e;rfl
  | str x=>obtain ⟨t,e⟩:=(show ∃ t,u=Value.str x t from r);cases e;rfl
  | byt b=>obtain ⟨t,e⟩:=(show ∃ t,u=Value.bytes b t from r);cases e;rfl
  | flt b=>obtain ⟨t,e⟩:=(show ∃ t,u=Value.float b t from r);cases e;rfl
  | ref a=>cases (show u=Value.ref a from r);rfl
  | ty n=>cases (show u=Value.type n from r);rfl
section
variable {P:Program} {w:World} {H H':Hp} {h h':Heap} {a C dx:Addr} {fs fs':List (Str×V)}
theorem ins_get (hok:HOk P w H h) (e:H a=some (.ins C dx fs)):∃ mA,ObjM h a dx C mA∧(∀ f,RelO (fs.lookup f) (mA f))∧PySem.Within mA (fs.map (·.1))∧fs.length≤1000∧H dx=some (.own a):=by
  obtain ⟨d,z,ne,ob,mA,n,r,q⟩:=(show ObjOk P w H h a (.ins C dx fs) from hok a _ e)
  exact ⟨mA,⟨ob,n,ne⟩,r,q,z,d⟩
end
structure Cls (K:PySem.W.Frag) (C:Addr):Prop where
  pg:PySem.W.plainGet K C Str.empty=true
  hd:PySem.W.hasDictIn K C=true
  po:PySem.W.plainOver K C=true
  sa:PySem.W.findIn K (.ref C) "__setattr__"=some (some (.builtin "object.__setattr__"))
theorem Cls.get {K:PySem.W.Frag} {C:Addr} (c:Cls K C) (f:Str):PySem.W.plainGet K C f=true:=c.pg
noncomputable def NoAttr (K:PySem.W.Frag) (C:Addr) (f:Str):Prop:=PySem.W.findIn K (.ref C) f=some none
theorem NoAttr.taker {K:PySem.W.Frag} {C:Addr} {f:Str} (n:NoAttr K C f):PySem.W.takerIn K C f=some none:=by
  unfold PySem.W.takerIn
  rw [show PySem.W.findIn K (.ref C) f=some none from n]
  rfl
structure Con (K:PySem.W.Frag) (C:Addr) (f:Str) (v:V) (u:Value):Prop where
  at_:PySem.W.findIn K (.ref C) f=some (some u)
  rel:RelV v u
  get:PySem.W.specialIn K u "__get__"=some none
  cp:PySem.W.copiedNames.contains f=false
structure Meth (K:PySem.W.Frag) (C:Addr) (m:Str) (f:Addr):Prop where
  at_:PySem.W.findIn K (.ref C) m=some (some (.ref f))
  fn:PySem.W.isFn K (.ref f)=true
  kp:PySem.W.keepIn K (.ref f)=true
section
variable {X:Cx} {pins:List (Addr×Obj)} {σ:St} {H:Hp} {s:Shared} {a C dx:Addr} {fs:List (Str×V)} {f:Str} {v:V} {A:Around} {E:Value→Shared→Prop}
theorem getattr_ok {b:Bool} {Q:Value→Shared→Prop} (I:Inv X pins σ H s) (e:H a=some (.ins C dx fs)) (c:Cls X.K C) (n:NoAttr X.K C f) (l:fs.lookup f=some v)
    (h:∀ u s',Inv X pins σ H s'→RelV v u→Q u s'):wpAny (model X.prog X.w) A (getAttr (.ref a) f b) Q E s:=by
  obtain ⟨mA,O,r,_,_,_⟩:=ins_get I.hok e
  obtain ⟨u,hu,ru⟩:=RelO.some_of (v:=v) (o:=mA f) (by rw [← l];exact r f)
  exact get_map I.kIn O (c.get f) c.hd n hu (handed_of ru) (h u _ (I.tok _) ru)
theorem getmeth_ok {m:Str} {g:Addr} {pl:Sem Bool} {Q:Value×List Value→Shared→Prop} (I:Inv X pins σ H s) (e:H a=some (.ins C dx fs)) (c:Cls X.K C) (k:Meth X.K C m g) (l:fs.lookup m=none)
    (h:Q (.ref g,[.ref a]) s):wpAny (model X.prog X.w) A (getMethod (.ref a) m pl) Q E s:=by
  obtain ⟨mA,O,r,_,_,_⟩:=ins_get I.hok e
  have hn:mA m=none:=RelO.none_of (by rw [← l];exact r m)
  exact get_meth I.kIn O (c.get m) k.at_ k.fn hn h
theorem setattr_ok {y:V} {u:Value} {Q:Unit→Shared→Prop} (I:Inv X pins σ H s) (e:H a=some (.ins C dx fs)) (c:Cls X.K C) (n:NoAttr X.K C f) (hl:fs.length < 1000) (ry:RelV y u)
    (h:∀ s',Inv X pins σ (upd H a (.ins C dx (putF f y fs))) s'→Q () s'):wpAny (model X.prog X.w) A (setAttr (.ref a) f u) Q E s:=by
  obtain ⟨mA,O,r,wi,_,ho⟩:=ins_get I.hok e
  have hz:(fs.map (·.1)).length≤sizeLine:=by rw [List.length_map,sizeLine_eq];omega
  refine set_map I.kIn O c.sa c.po n.taker c.hd wi hz fun h' O' sb=>h _ ?_
  have hd:∃ o,h'.get? dx=some o:=let ⟨o,_,_,e',_⟩:=O'.ns;⟨o,e'⟩
  refine I.write (x:=a) (e:=dx) (by rw [e];exact True.intro) (.inr ho) (fun b q hb z=>(sb.2 b hb).trans z) hd ?_
  refine ⟨by rw [upd_ne O.ne];exact ho,?_,O.ne,O'.obj,_,O'.ns,fun g=>?_,fun g hg=>?_⟩
  · have:=length_putF f y fs;omega
  · show RelO ((putF f y fs).lookup g) (if g=f then some u else mA g)
    rw [lookup_putF]
    by_cases q:g=f
    · rw [if_pos q,if_pos q];exact ry
    · rw [if_neg q,if_neg q];exact r g
  · by_cases q:g=f
    · rw [q];exact (keys_putF f y fs).1
    · refine (keys_putF f y fs).2 g (wi g fun z=>hg ?_)
      show (if g=f then some u else mA g)=none
      rw [if_neg q];exact z
theorem Inv.made (I:Inv X pins σ H s):Inv X pins σ (upd (upd H s.heap.objs.size (.own (s.heap.objs.size + 1))) (s.heap.objs.size + 1) (.ins C s.heap.objs.size []))
    { s with heap:=(s.heap.push PySem.W.emptyDict).push (PySem.W.instObj C s.heap.objs.size) }:=by
  have e1:(s.heap.push PySem.W.emptyDict).get? s.heap.objs.size=some PySem.W.emptyDict:=Heap.get?_push_size s.heap rfl
  have e2:((s.heap.push PySem.W.emptyDict).push (PySem.W.instObj C s.heap.objs.size)).get? (s.heap.objs.size + 1)=some (PySem.W.instObj C s.heap.objs.size):=by
    have:=Heap.get?_push_size (s.heap.push PySem.W.emptyDict) (o:=PySem.W.instObj C s.heap.objs.size) rfl
    rwa [Heap.size_push] at this
  have e3:(s.heap.push PySem.W.emptyDict).Ns s.heap.objs.size (fun _=>none):=⟨PySem.W.emptyDict,#[],_,e1,rfl,(fun e he=>absurd he (by simp)),fun _=>rfl⟩
  have I1:=I.laid (a:=s.heap.objs.size) (o:=.own (s.heap.objs.size + 1)) (h':=s.heap.push PySem.W.emptyDict) (t':=s.toks) (fun b u q=>Heap.get?_push_of_some _ q) (Nat.le_refl _) ⟨_,e1⟩
  refine I1.laid (a:=s.heap.objs.size + 1) (o:=.ins C s.heap.objs.size []) (t':=s.toks) (fun b u q=>Heap.get?_push_of_some _ q) (Nat.le_of_eq (Heap.size_push _ _)) ?_
  have ne:s.heap.objs.size≠s.heap.objs.size + 1:=Nat.ne_of_lt (Nat.lt_succ_self _)
  refine ⟨by rw [upd_ne ne,upd_same],Nat.zero_le _,ne,e2,fun _=>none,(Heap.Ns1.of_empty e3).at fun o q=>Heap.get?_push_of_some _ q,fun _=>True.intro,fun y hy=>absurd rfl hy⟩
theorem attr_of {prog:Program} {w:World} {env:Env} {e:Expr} {f:Str} {pos:Pos} {s:Shared} {Q:Value→Shared→Prop} (hb:attributeBase e f env (eval e env)=eval e env)
    (h:wpAny (model prog w) A (eval e env) (fun o s₁=>wpAny (model prog w) A (getAttr o f true) Q E s₁) E s):wpAny (model prog w) A (eval (.Attribute e f pos) env) Q E s :=
  Attribute_any_ h (by rw [arm_eval_Attribute,hb])
end
noncomputable def tFld (K:PySem.W.Frag) (ta:TE) (f:Str):TE:=fun σ H Q=>ta σ H fun x H1=>∃ a C dx fs v,x=.ref a∧H1 a=some (.ins C dx fs)∧Cls K C∧NoAttr K C f∧fs.lookup f=some v∧Q v H1
noncomputable def tCon (K:PySem.W.Frag) (ta:TE) (f:Str):TE:=fun σ H Q=>ta σ H fun x H1=>∃ a C dx fs v u,x=.ref a∧H1 a=some (.ins C dx fs)∧Cls K C∧Con K C f v u∧fs.lookup f=none∧Q v H1
noncomputable def sFld (K:PySem.W.Frag) (ta tv:TE) (f:Str):TS:=fun D σ H=>tv σ H fun y H1=>ta σ H1 fun x H2=>∃ a C dx fs,x=.ref a∧H2 a=some (.ins C dx fs)∧Cls K C∧NoAttr K C f∧fs.length < 1000 ∧
  D.nx σ (upd H2 a (.ins C dx (putF f y fs)))
noncomputable def InOp (X:Cx) (op:Operator) (rd:V→V→Hp→VK→Prop):Prop :=
  ∀ (pins:List (Addr×Obj)) (s:Shared) (σ:St) (H:Hp) (x y:V) (u v:Value) (Q:VK),Inv X pins σ H s→RelV x u→RelV y v→rd x y H Q→wpAny (model X.prog X.w) X.A (inplaceOp op u v) (EP X pins σ Q) X.xe s
noncomputable def sFldAug (K:PySem.W.Frag) (ta tv:TE) (rd:V→V→Hp→VK→Prop) (f:Str):TS:=fun D σ H=>ta σ H fun x H1=>∃ a C dx fs v,x=.ref a∧H1 a=some (.ins C dx fs)∧Cls K C∧NoAttr K C f∧fs.lookup f=some v ∧
  tv σ H1 fun y H2=>rd v y H2 fun z H3=>∃ dx' fs',H3 a=some (.ins C dx' fs')∧fs'.length < 1000∧D.nx σ (upd H3 a (.ins C dx' (putF f z fs')))
section
variable {X:Cx} {o e value:Expr} {f:Str} {pos pos' tpos:Pos} {ta tv:TE}
theorem pe_fld (he:PE X e ta) (hb:attributeBase e f X.env (eval e X.env)=eval e X.env):PE X (.Attribute e f pos) (tFld X.K ta f):=by
  intro pins s σ H Q I h
  refine attr_of hb (thn (he pins s σ H _ I h) fun u s1 ⟨x,H1,I1,rx,a,C,dx,fs,v,ex,ea,c,n,l,q⟩=>?_)
  subst ex
  obtain rfl:u=Value.ref a:=rx
  exact getattr_ok I1 ea c n l fun u' s2 I2 ru=>⟨v,H1,I2,ru,q⟩
theorem ps_fld (ha:PE X o ta) (hv:PE X value tv) (hs:swapsWith value (some (.Attribute o f pos')) pos.line X.env=pure false):PS X (.Assign [.Attribute o f pos'] value pos) (sFld X.K ta tv f):=by
  intro pins s σ H D I h
  refine plainObj_wpAny_Assign_Attribute (thn (hv pins s σ H _ I h) fun u s1 ⟨y,H1,I1,ry,q⟩=>thn (ha pins s1 σ H1 _ I1 q) fun ov s2 ⟨x,H2,I2,rx,a,C,dx,fs,ex,ea,c,n,l,q2⟩=>?_) hs
  subst ex
  obtain rfl:ov=Value.ref a:=rx
  exact setattr_ok I2 ea c n l ry fun s3 I3=>⟨σ,_,I3,q2⟩
theorem ps_fldaug {op:Operator} {rd:V→V→Hp→VK→Prop} (ha:PE X o ta) (hv:PE X value tv) (hop:InOp X op rd):PS X (.AugAssign (.Attribute o f tpos) op value pos) (sFldAug X.K ta tv rd f):=by
  intro pins s σ H D I h
  refine wpAny_AugAssign_AttributeAny (thn (ha pins s σ H _ I h) fun ov s1 ⟨x,H1,I1,rx,a,C,dx,fs,v,ex,ea,c,n,l,q⟩=>?_)
  subst ex
  obtain rfl:ov=Value.ref a:=rx
  refine getattr_ok I1 ea c n l fun u s2 I2 ru=>thn (hv pins s2 σ H1 _ I2 q) fun w3 s3 ⟨y,H2,I3,ry,q3⟩=>thn (hop pins s3 σ H2 v y u w3 _ I3 ru ry q3) fun w4 s4 ⟨z,H3,I4,rz,dx',fs',ea',l',q4⟩=>?_
  exact setattr_ok I4 ea' c n l' rz fun s5 I5=>⟨σ,_,I5,q4⟩
noncomputable def rAdd:V→V→Hp→VK→Prop:=fun x y H Q=>∃ i j,x=.int i∧y=.int j∧Q (.int (i + j)) H
noncomputable def rSub:V→V→Hp→VK→Prop:=fun x y H Q=>∃ i j,x=.int i∧y=.int j∧Q (.int (i - j)) H
theorem in_add:InOp X .Add rAdd:=by
  rintro pins s σ H x y u v Q I rx ry ⟨i,j,rfl,rfl,q⟩
  obtain ⟨t,rfl⟩:=(show ∃ t,u=Value.int i t from rx)
  obtain ⟨t',rfl⟩:=(show ∃ t',v=Value.int j t' from ry)
  exact PyProof.Rows.iadd_int ⟨.int (i + j),H,I.tok _,⟨_,rfl⟩,q⟩
theorem in_sub:InOp X .Sub rSub:=by
  rintro pins s σ H x y u v Q I rx ry ⟨i,j,rfl,rfl,q⟩
  obtain ⟨t,rfl⟩:=(show ∃ t,u=Value.int i t from rx)
  obtain ⟨t',rfl⟩:=(show ∃ t',v=Value.int j t' from ry)
  exact PyProof.Rows.isub_int ⟨.int (i - j),H,I.tok _,⟨_,rfl⟩,q⟩
end
section
variable {X:Cx} {pins:List (Addr×Obj)} {σ:St} {H:Hp} {s:Shared} {A:Around} {E:Value→Shared→Prop} {Q:Value→Shared→Prop} {c:Value} {b:Bool}
inductive TyOf (K:PySem.W.Frag) (H:Hp):V→Value→Prop where
  | non:TyOf K H .non (.type "NoneType")
  | bl (x:Bool):TyOf K H (.bl x) (.type "bool")
  | int (i:Int):TyOf K H (.int i) (.type "int")
  | str (x:Str):TyOf K H (.str x) (.type "str")
  | flt (x:UInt64):TyOf K H (.flt x) (.type "float")
  | lst {a:Addr} {xs:List V} (e:H a=some (.lst xs)):TyOf K H (.ref a) (.type "list")
  | frz {a:Addr} {o:Obj} {xs:List V} (e:H a=some (.frz o (.lst xs))):TyOf K H (.ref a) (.type "list")
  | tup {a:Addr} {xs:List V} (e:H a=some (.tup xs)):TyOf K H (.ref a) (.type "tuple")
  | dK {a:Addr} {kvs:List (Key×V)} (e:H a=some (.dK kvs)):TyOf K H (.ref a) (.type "dict")
  | dT {a:Addr} {kvs:List (List Key×V)} (e:H a=some (.dT kvs)):TyOf K H (.ref a) (.type "dict")
  | ins {a C dx:Addr} {fs:List (Str×V)} (e:H a=some (.ins C dx fs)) (cl:Cls K C) (ha:PySem.W.findIn K (.ref C) "__class__"=some (some (.builtin "object.__class__")))
      (hn:PySem.W.specialIn K (.builtin "object.__class__") "__get__"=some (some (.builtin "getset_descriptor.__get__"))) (htk:PySem.W.takesIn K (.builtin "object.__class__")=some true)
      (hm:PySem.W.mroIn K C (.type "object")=some true):TyOf K H (.ref a) (.ref C)
theorem isinst_ok {x:V} {u t:Value} (I:Inv X pins σ H s) (rx:RelV x u) (ty:TyOf X.K H x t) (e:PySem.W.kitOne X.K t c=some b) (h:∀ tk,Q (.bool b) { s with toks:=tk }) :
    wpAny (model X.prog X.w) A (call (.builtin "isinstance") [u,c]) Q E s:=by
  cases ty with
  | non=>cases (show u=Value.none from rx);exact PySem.W.kia_one PySem.W.kitx_none I.kIn True.intro e (fun z=>nomatch z) h
  | bl y=>cases (show u=Value.bool y from rx);exact PySem.W.kia_one PySem.W.kitx_bool I.kIn True.intro e (fun z=>nomatch z) h
  | int i=>obtain ⟨t,q⟩:=(show ∃ t,u=Value.int i t from rx);cases q;exact PySem.W.kia_one PySem.W.kitx_int I.kIn True.intro e (fun z=>nomatch z) h
  | str y=>obtain ⟨t,q⟩:=(show ∃ t,u=Value.str y t from rx);cases q;exact PySem.W.kia_one PySem.W.kitx_str I.kIn True.intro e (fun z=>nomatch z) h
  | flt y=>obtain ⟨t,q⟩:=(show ∃ t,u=Value.float y t from rx);cases q;exact PySem.W.kia_one PySem.W.kitx_float I.kIn True.intro e (fun z=>nomatch z) h
  | @lst a xs ea =>
    cases (show u=Value.ref a from rx)
    obtain ⟨_,_,n,_,h1⟩:=(show ObjOk X.prog X.w H s.heap a (.lst xs) from I.hok a _ ea)
    exact PySem.W.kia_one PySem.W.kitx_list I.kIn ⟨_,h1,rfl⟩ e (fun z=>nomatch z) h
  | @frz a ob xs ea =>
    cases (show u=Value.ref a from rx)
    obtain ⟨_,_,_,n,_,h1⟩:=(show ObjOk X.prog X.w H s.heap a (.frz ob (.lst xs)) from I.hok a _ ea)
    exact PySem.W.kia_one PySem.W.kitx_list I.kIn ⟨_,h1,rfl⟩ e (fun z=>nomatch z) h
  | @tup a xs ea =>
    cases (show u=Value.ref a from rx)
    obtain ⟨_,_,_,p⟩:=(show ObjOk X.prog X.w H s.heap a (.tup xs) from I.hok a _ ea)
    obtain ⟨o,h1,h2,_⟩:=p
    exact PySem.W.kia_one PySem.W.kitx_tuple I.kIn ⟨o,h1,h2⟩ e (fun z=>nomatch z) h
  | @dK a kvs ea =>
    cases (show u=Value.ref a from rx)
    obtain ⟨_,_,vs,_,p⟩:=(show ObjOk X.prog X.w H s.heap a (.dK kvs) from I.hok a _ ea)
    obtain ⟨o,es,ep,h1,h2,_⟩:=p
    exact PySem.W.kia_one PySem.W.kitx_dict I.kIn ⟨o,h1,h2.1⟩ e (fun z=>nomatch z) h
  | @dT a kvs ea =>
    cases (show u=Value.ref a from rx)
    obtain ⟨_,_,xs,_,o,es,ep,h1,h2,_⟩:=(show ObjOk X.prog X.w H s.heap a (.dT kvs) from I.hok a _ ea)
    exact PySem.W.kia_one PySem.W.kitx_dict I.kIn ⟨o,h1,h2.1⟩ e (fun z=>nomatch z) h
  | @ins a C dx fs ea cl ha hn htk hm =>
    cases (show u=Value.ref a from rx)
    obtain ⟨mA,O,_⟩:=ins_get I.hok ea
    obtain ⟨od,J,_⟩:=O.look
    exact PySem.W.kia_one (PySem.W.kitx_own (cl.get _) cl.hd ha hn htk hm) I.kIn J e (fun z=>nomatch z) h
end
end L2
namespace L2
open PySem PySem.Spec PyProof.Rows
structure Room (k:Nat) (A:Around):Prop where
  hd:A.handled=none
  dp:A.depth + 3 * k + 5 < recursionLimit
  un:A.units + 16 * k + 200 < cLine
theorem Room.mono {j k:Nat} {A:Around} (r:Room k A) (h:j≤k):Room j A:=⟨r.hd,by have:=r.dp;omega,by have:=r.un;omega⟩
theorem Room.deeper {k:Nat} {A:Around} (r:Room (k + 1) A) (env:Env):Room k (A.deeper env) :=
  ⟨r.hd,by have:=r.dp;show A.depth + 1 + 3 * k + 5 < _;omega,by have:=r.un;show A.units + 3 + 16 * k + 200 < _;omega⟩
theorem make_depth {A:Around} {C:Addr} {us:List Value} {kw:List (Str×Value)}:(A.under (.builtin "type.__call__" ⟨.ref C :: us,kw⟩)).depth=A.depth + 1:=by
  first | rfl | simp [Around.under,Code.weight,Code.isCreation,Code.isGuard,Code.isCaller,Code.frames,Code.isFrame,guardIds]
theorem make_units {A:Around} {C:Addr} {us:List Value} {kw:List (Str×Value)}:(A.under (.builtin "type.__call__" ⟨.ref C :: us,kw⟩)).units=A.units + 1:=by
  first | rfl | simp [Around.under,Code.cUnits,Code.frames,Code.isFrame]
theorem Room.make {k:Nat} {A:Around} (r:Room (k + 1) A) (C:Addr) (us:List Value) (kw:List (Str×Value)):Room k (A.under (.builtin "type.__call__" ⟨.ref C :: us,kw⟩)) :=
  ⟨r.hd,by have:=r.dp;rw [make_depth];omega,by have:=r.un;rw [make_units];omega⟩
theorem Room.depth {k:Nat} {A:Around} (r:Room k A):A.depth < recursionLimit:=by have:=r.dp;omega
theorem Room.units {k:Nat} {A:Around} (r:Room k A):A.units + 64 < cLine:=by have:=r.un;omega
theorem Room.units0 {k:Nat} {A:Around} (r:Room k A):A.units < cLine:=by have:=r.un;omega
noncomputable def tNil:TA:=fun _ H Q=>Q [] H
noncomputable def tCons (ta:TE) (tr:TA):TA:=fun σ H Q=>ta σ H fun x H1=>tr σ H1 fun xs H2=>Q (x :: xs) H2
section
variable {X:Cx} {e:Expr} {es:List Expr} {te:TE} {t:TA} {pos:Pos}
theorem pa_nil:PA X [] tNil:=fun _ _ _ _ H Q I h=>Calls.spliced_nil ⟨[],H,I,.nil,h⟩
theorem pa_cons (ha:PE X e te) (hr:PA X es t) (hs:starEach (e :: es) X.env=(false,eval e X.env) :: starEach es X.env:=by rfl):PA X (e :: es) (tCons te t):=by
  intro pos pins s σ H Q I h
  rw [hs]
  show wpAny _ _ (spliced ((false,eval e X.env) :: backTo pos (starEach es X.env))) _ _ s
  refine Calls.spliced_cons (thn (ha pins s σ H _ I h) fun u s1 ⟨x,H1,I1,r1,q1⟩=>?_)
  exact thn (hr pos pins s1 σ H1 _ I1 q1) fun us s2 ⟨xs,H2,I2,r2,q2⟩=>⟨x :: xs,H2,I2,.cons r1 r2,q2⟩
noncomputable def tTup (t:TA):TE:=fun σ H Q=>t σ H fun xs H1=>xs.length≤sizeLine∧∀ p,H1 p=none→Q (.ref p) (upd H1 p (.tup xs))
noncomputable def tLst (t:TA):TE:=fun σ H Q=>t σ H fun xs H1=>xs.length≤sizeLine∧∀ p,H1 p=none→Q (.ref p) (upd H1 p (.lst xs))
theorem pe_tup {x1} (h:PA X es t):PE X (.Tuple es x1 pos) (tTup t):=by
  intro pins s σ H Q I hq
  refine wpAny_Tuple_spliced (thn (h pos pins s σ H _ I hq) fun us s1 ⟨xs,H1,I1,r,z,q⟩=>⟨by rw [← r.length];exact z,?_⟩)
  have hf:H1 s1.heap.objs.size=none:=I1.hok.fresh (Nat.le_refl _)
  refine ⟨.ref s1.heap.objs.size,upd H1 s1.heap.objs.size (.tup xs),I1.laid (t':=s1.toks) (fun b u e=>Heap.get?_push_of_some _ e) (Nat.le_refl _) ?_,rfl,q _ hf⟩
  exact ⟨z,us,r,⟨_,Heap.get?_push_size _ rfl,rfl,_,rfl⟩⟩
theorem pe_lst (h:PA X es t):PE X (.List es pos) (tLst t):=by
  intro pins s σ H Q I hq
  refine wpAny_List_spliced (thn (h pos pins s σ H _ I hq) fun us s1 ⟨xs,H1,I1,r,z,q⟩=>⟨by rw [← r.length];exact z,?_⟩)
  have hf:H1 s1.heap.objs.size=none:=I1.hok.fresh (Nat.le_refl _)
  refine ⟨.ref s1.heap.objs.size,upd H1 s1.heap.objs.size (.lst xs),I1.laid (t':=s1.toks) (fun b u e=>Heap.get?_push_of_some _ e) (Nat.le_refl _) ?_,rfl,q _ hf⟩
  exact ⟨z,us,0,r,Heap.get?_push_size _ rfl⟩
end
noncomputable abbrev Sp:=List V→Hp→VK→XK→Prop
noncomputable abbrev CXT:=List Env→Hp→Shared→XK→Value→Shared→Prop
structure Env0 (P:Program) (w:World) (K:PySem.W.Frag) (mg:Str→Option Value) (base:Heap) (A:Around) (outer:List Env) (s:Shared) (H:Hp):Prop where
  frames:A.frames=some outer
  mod:Mod K mg base
  bs:∀ b o,base.get? b=some o→s.heap.get? b=some o∧H b=none
  bsz:base.objs.size≤s.heap.objs.size
  funs:s.heap.FunFrames base outer
  frf:∀ b∈frs outer,H b=none
  hok:HOk P w H s.heap
  bare:AllBare s.gens
noncomputable def CE (outer:List Env) (P:Program) (w:World) (H:Hp) (s:Shared) (Q:VK) (u:Value) (s':Shared):Prop :=
  ∃ v H',s'.os=s.os∧AllBare s'.gens∧Un (frs outer) [] H H' s.heap s'.heap∧HOk P w H' s'.heap∧RelV v u∧Q v H'
noncomputable def CR (CX:CXT) (outer:List Env) (P:Program) (w:World) (H:Hp) (s:Shared) (Q:VK) (E:XK) (r:Result) (s':Shared):Prop :=
  match r with
  | .ok (.ret u)=>CE outer P w H s Q u s'
  | .ok _=>False
  | .error e=>CX outer H s E e s'
structure FnOk (P:Program) (w:World) (K:PySem.W.Frag) (mg:Str→Option Value) (base:Heap) (CX:CXT) (k:Nat) (f:Addr) (fd:FuncData) (ps:List Str) (sp:Sp):Prop where
  len:∀ vs H Q E,sp vs H Q E→vs.length=ps.length
  run:∀ (A:Around) (outer:List Env) (s:Shared) (H:Hp) (args:Args) (us:List Value) (vs:List V) (Q:VK) (E:XK),Room k A→Env0 P w K mg base A outer s H→BindsTo s fd args (ps.zip us)→Vals vs us→sp vs H Q E →
    codeAny (model P w) A (.call (.ref f) args) (CR CX outer P w H s Q E) s
theorem Env0.make {P:Program} {w:World} {K:PySem.W.Frag} {mg:Str→Option Value} {base:Heap} {A:Around} {outer:List Env} {s:Shared} {H:Hp} (e:Env0 P w K mg base A outer s H) (C:Addr) (us:List Value) (kw:List (Str×Value)) :
    Env0 P w K mg base (A.under (.builtin "type.__call__" ⟨.ref C :: us,kw⟩)) outer s H:=⟨by first | exact e.frames | (simpa [Around.under,Code.envs,Code.isFrame,pushEnvs] using e.frames),e.mod,e.bs,e.bsz,e.funs,e.frf,e.hok,e.bare⟩
section
variable {X:Cx} {pins:List (Addr×Obj)} {σ:St} {H:Hp} {s s':Shared}
theorem Inv.env0 (I:Inv X pins σ H s):Env0 X.prog X.w X.K X.mg X.base X.A X.stack s H :=
  ⟨I.ok.frames,I.ok.mod,I.bs,Nat.le_trans I.ok.bsz I.sz,I.stack,I.stkFree,I.hok,I.bare⟩
theorem Inv.after {Q:VK} {u:Value} (I:Inv X pins σ H s) (h:CE X.stack X.prog X.w H s Q u s'):EP X pins σ Q u s':=by
  obtain ⟨v,H',os,bare,un,hok,r,q⟩:=h
  obtain ⟨hh,g,d,t,os'⟩:=s'
  obtain rfl:os'=s.os:=os
  exact ⟨v,H',I.call (h':=hh) (g':=g) (d':=d) (t':=t) (ch:=[]) un hok bare (fun b z=>absurd z (by simp)),r,q⟩
end
noncomputable def tCall (sp:Sp) (dvs:List V) (E:XK) (t:TA):TE:=fun σ H Q=>t σ H fun vs H1=>sp (vs ++ dvs) H1 Q E
noncomputable def tMeth (C:Addr) (m:Str) (sp:Sp) (dvs:List V) (E:XK) (ta:TE) (t:TA):TE:=fun σ H Q=>ta σ H fun x H1=>∃ a dx fs,x=.ref a∧H1 a=some (.ins C dx fs)∧fs.lookup m=none ∧
  t σ H1 fun vs H2=>sp (x :: (vs ++ dvs)) H2 Q E
noncomputable def tMake (C:Addr) (sp:Sp) (dvs:List V) (E:XK) (t:TA):TE:=fun σ H Q=>t σ H fun vs H1=>∀ x dx,H1 x=none→H1 dx=none→dx≠x →
  sp (.ref x :: (vs ++ dvs)) (upd (upd H1 dx (.own x)) x (.ins C dx [])) (fun v H2=>v=.non∧Q (.ref x) H2) E
noncomputable def Binds (K:PySem.W.Frag) (fd:FuncData) (ps:List Str) (ds:List Value):Prop :=
  ∀ (s:Shared) (us:List Value),K.In s.heap→(us ++ ds).length=ps.length→BindsTo s fd ⟨us,[]⟩ (ps.zip (us ++ ds))
theorem Binds.all {K:PySem.W.Frag} {fd:FuncData} {ps:List Str} (h:∀ us:List Value,us.length=ps.length→bindArgs fd ⟨us,[]⟩=pure (ps.zip us)):Binds K fd ps []:=fun s us _ hl=>by
  rw [List.append_nil] at hl ⊢
  exact .of_eq (h us hl)
noncomputable def Passes (CX:CXT) (X:Cx) (E:XK):Prop:=∀ (pins:List (Addr×Obj)) (σ:St) (H:Hp) (s:Shared) (e:Value) (s':Shared),Inv X pins σ H s→CX X.stack H s E e s'→X.xe e s'
section
variable {X:Cx} {CX:CXT} {k:Nat} {f C:Addr} {fd:FuncData} {ps:List Str} {sp:Sp} {dvs:List V} {ds:List Value} {E:XK} {x m:Str} {p pos apos:Pos} {e o:Expr} {es:List Expr} {ta:TE} {t:TA}
theorem run_fn {pins:List (Addr×Obj)} {σ:St} {H:Hp} {s:Shared} {Q:VK} {us:List Value} {vs:List V} (F:FnOk X.prog X.w X.K X.mg X.base CX k f fd ps sp) (hr:Room k X.A) (hb:Binds X.K fd ps ds) (hd:Vals dvs ds) (hx:Passes CX X E)
    (I:Inv X pins σ H s) (r:Vals vs us) (h:sp (vs ++ dvs) H Q E):wpAny (model X.prog X.w) X.A (call (.ref f) us) (EP X pins σ Q) X.xe s:=by
  have r2:Vals (vs ++ dvs) (us ++ ds):=r.append hd
  have hl:(us ++ ds).length=ps.length:=by rw [← r2.length];exact F.len _ _ _ _ h
  refine wpAny_call (codeAny_mono (F.run X.A X.stack s H ⟨us,[]⟩ (us ++ ds) (vs ++ dvs) Q E hr I.env0 (hb s us I.kIn hl) r2 h) fun r s' hq=>?_)
  cases r with
  | error e=>exact hx pins σ H s e s' I hq
  | ok fl =>
    cases fl with
    | ret u=>exact I.after hq
    | next=>exact False.elim hq
    | brk=>exact False.elim hq
    | cont=>exact False.elim hq
theorem pe_call (F:FnOk X.prog X.w X.K X.mg X.base CX k f fd ps sp) (hr:Room k X.A) (hg:Gl X x) (hm:X.mg x=some (.ref f)) (hk:PySem.W.keepIn X.K (.ref f)=true) (hb:Binds X.K fd ps ds) (hd:Vals dvs ds) (hx:Passes CX X E)
    (ha:PA X (e :: es) t) (hdb:(x == ("__debug__":Str))=false:=by decide) (he:starEach (e :: es) X.env=(false,eval e X.env) :: starEach es X.env:=by rfl) (hpl:(backTo pos (starEach es X.env)).any (·.1)=false:=by rfl) :
    PE X (.Call (.Name x p) (e :: es) [] pos) (tCall sp dvs E t):=by
  intro pins s σ H Q I h
  refine wpAny_Call_Name_kw (ld_glob I hg hm ?_ hdb)
  refine PySem.W.callWith_K (h₀:=X.base) I.ok.mod.kin hk (thn (ha pos pins s σ H _ I h) fun us s1 ⟨vs,H1,I1,r,q⟩=>⟨I1.kIn,?_⟩) he hpl
  exact run_fn F hr hb hd hx I1 r q
structure Mk (K:PySem.W.Frag) (C f:Addr):Prop where
  makes:PySem.W.makesIn K C=true
  init:PySem.W.findIn K (.ref C) "__init__"=some (some (.ref f))
  fn:PySem.W.isFn K (.ref f)=true
  kp:PySem.W.keepIn K (.ref C)=true
theorem run_make {pins:List (Addr×Obj)} {σ:St} {H:Hp} {s:Shared} {Q:VK} {us:List Value} {vs:List V} (M:Mk X.K C f) (F:FnOk X.prog X.w X.K X.mg X.base CX k f fd ps sp) (hr:Room (k + 1) X.A) (hb:Binds X.K fd ps ds) (hd:Vals dvs ds)
    (hx:Passes CX X E) (I:Inv X pins σ H s) (r:Vals vs us)
    (h:∀ x dx,H x=none→H dx=none→dx≠x→sp (.ref x :: (vs ++ dvs)) (upd (upd H dx (.own x)) x (.ins C dx [])) (fun v H2=>v=.non∧Q (.ref x) H2) E) :
    wpAny (model X.prog X.w) X.A (call (.ref C) us) (EP X pins σ Q) X.xe s:=by
  have hq:=h (s.heap.objs.size + 1) s.heap.objs.size (I.hok.fresh (Nat.le_succ _)) (I.hok.fresh (Nat.le_refl _)) (Nat.ne_of_lt (Nat.lt_succ_self _))
  have I2:=Inv.made (C:=C) I
  have r2:Vals (V.ref (s.heap.objs.size + 1) :: (vs ++ dvs)) (Value.ref (s.heap.objs.size + 1) :: (us ++ ds)):=.cons rfl (r.append hd)
  have hl:(Value.ref (s.heap.objs.size + 1) :: us ++ ds).length=ps.length:=by
    have e:=r2.length
    rw [F.len _ _ _ _ hq] at e
    exact e.symm
  refine wpAny_call (make_map (f:=f) I.kIn M.makes M.init (beq_iff_eq.mp M.fn) (codeAny_mono (F.run _ X.stack _ _ ⟨Value.ref (s.heap.objs.size + 1) :: us,[]⟩ (Value.ref (s.heap.objs.size + 1) :: (us ++ ds)) _ _ E (hr.make C us [])
    (I2.env0.make C us []) (hb _ (Value.ref (s.heap.objs.size + 1) :: us) I2.kIn hl) r2 hq) fun r s' hq'=>?_))
  cases r with
  | error e=>exact hx pins σ _ _ e s' I2 hq'
  | ok fl =>
    cases fl with
    | ret u =>
      obtain ⟨v,H',I3,rv,ev,q3⟩:=I2.after hq'
      subst ev
      exact ⟨rv,⟨V.ref (s.heap.objs.size + 1),H',I3,rfl,q3⟩⟩
    | next=>exact False.elim hq'
    | brk=>exact False.elim hq'
    | cont=>exact False.elim hq'
theorem pe_make (M:Mk X.K C f) (F:FnOk X.prog X.w X.K X.mg X.base CX k f fd ps sp) (hr:Room (k + 1) X.A) (hg:Gl X x) (hm:X.mg x=some (.ref C)) (hb:Binds X.K fd ps ds) (hd:Vals dvs ds) (hx:Passes CX X E)
    (ha:PA X (e :: es) t) (hdb:(x == ("__debug__":Str))=false:=by decide) (he:starEach (e :: es) X.env=(false,eval e X.env) :: starEach es X.env:=by rfl) (hpl:(backTo pos (starEach es X.env)).any (·.1)=false:=by rfl) :
    PE X (.Call (.Name x p) (e :: es) [] pos) (tMake C sp dvs E t):=by
  intro pins s σ H Q I h
  refine wpAny_Call_Name_kw (ld_glob I hg hm ?_ hdb)
  refine PySem.W.callWith_K (h₀:=X.base) I.ok.mod.kin M.kp (thn (ha pos pins s σ H _ I h) fun us s1 ⟨vs,H1,I1,r,q⟩=>⟨I1.kIn,?_⟩) he hpl
  exact run_make M F hr hb hd hx I1 r q
theorem pe_make0 (M:Mk X.K C f) (F:FnOk X.prog X.w X.K X.mg X.base CX k f fd ps sp) (hr:Room (k + 1) X.A) (hg:Gl X x) (hm:X.mg x=some (.ref C)) (hb:Binds X.K fd ps ds) (hd:Vals dvs ds) (hx:Passes CX X E)
    (hdb:(x == ("__debug__":Str))=false:=by decide):PE X (.Call (.Name x p) [] [] pos) (tMake C sp dvs E tNil):=by
  intro pins s σ H Q I h
  refine wpAny_Call_Name_kw (ld_glob I hg hm ?_ hdb)
  exact PySem.W.callWith_K0 I.kIn M.kp (run_make (us:=[]) M F hr hb hd hx I .nil h)
end
noncomputable def PK (X:Cx) (kws:List Keyword) (t:TA):Prop :=
  ∀ (pos:Pos) (pins:List (Addr×Obj)) (s:Shared) (σ:St) (H:Hp) (Q:List V→Hp→Prop),Inv X pins σ H s→t σ H Q→wpAny (model X.prog X.w) X.A (evalAll ((backToKw pos (keywordEach kws X.env)).map (·.2))) (AP X pins σ Q) X.xe s
section
variable {X:Cx} {CX:CXT} {k:Nat} {f C:Addr} {fd:FuncData} {ps ks:List Str} {sp:Sp} {E:XK} {x m:Str} {p pos apos kpos:Pos} {e o:Expr} {es:List Expr} {kws:List Keyword} {te ta:TE} {t tk:TA} {nm:Option Str}
structure KBinds (K:PySem.W.Frag) (fd:FuncData) (ps ks:List Str) (g:List Value→List Value→List Value) (gV:List V→List V→List V):Prop where
  to:∀ (s:Shared) (us ws:List Value),K.In s.heap→(g us ws).length=ps.length→BindsTo s fd ⟨us,ks.zip ws⟩ (ps.zip (g us ws))
  rel:∀ {vs:List V} {us:List Value} {zs:List V} {ws:List Value},Vals vs us→Vals zs ws→Vals (gV vs zs) (g us ws)
noncomputable def tCallK (sp:Sp) (gV:List V→List V→List V) (E:XK) (t tk:TA):TE:=fun σ H Q=>t σ H fun vs H1=>tk σ H1 fun zs H2=>sp (gV vs zs) H2 Q E
variable {g:List Value→List Value→List Value} {gV:List V→List V→List V}
end
structure FnScope (N P:List Str) (sc:Scope):Prop where
  kind:sc.kind=.function
  co:sc.isCoroutine=false
  gen:sc.isGenerator=false
  nd:N.Nodup
  pre:N.take P.length=P
  par:∀ x∈P,sc.names.lookup x=some .local∨sc.names.lookup x=some .cell
  nofree:∀ y∈sc.names,y.2≠.free
theorem bindL_out {kindOf:Str→Option NameKind} {x:Str}:∀ {binds:List (Str×Value)} {m:Str→Option Value},(∀ v,(x,v) ∉ binds)→bindL kindOf binds m x=m x
  | [],_,_=>rfl
  | (n,v) :: r,m,h=>by
    unfold bindL
    rw [bindL_out fun w hw=>h w (List.mem_cons_of_mem _ hw)]
    split
    · have:x≠n:=by rintro rfl;exact h v List.mem_cons_self
      simp [this]
    · rfl
theorem bindC_out {kindOf:Str→Option NameKind} {x:Str}:∀ {binds:List (Str×Value)} {m:Str→Option Value},(∀ v,(x,v) ∉ binds)→bindC kindOf binds m x=m x
  | [],_,_=>rfl
  | (n,v) :: r,m,h=>by
    unfold bindC
    rw [bindC_out fun w hw=>h w (List.mem_cons_of_mem _ hw)]
    split
    · rfl
    · have:x≠n:=by rintro rfl;exact h v List.mem_cons_self
      simp [this]
theorem bindL_get {kindOf:Str→Option NameKind} {x:Str} {v:Value}:∀ {P:List Str} {vs:List Value} {i:Nat} {m:Str→Option Value},P.Nodup→P[i]?=some x→vs[i]?=some v→kindOf x=some .local →
    bindL kindOf (P.zip vs) m x=some v
  | [],_,_,_,_,h,_,_=>by simp at h
  | _ :: _,[],_,_,_,_,h,_=>by simp at h
  | p :: P,w :: vs,0,m,nd,h1,h2,hk=>by
    simp at h1 h2;subst h1;subst h2
    show bindL kindOf ((p,w) :: P.zip vs) m p=_
    unfold bindL
    rw [bindL_out fun v hv=>(List.nodup_cons.mp nd).1 (List.of_mem_zip hv).1,if_pos hk]
    simp
  | p :: P,w :: vs,i + 1,m,nd,h1,h2,hk=>by
    show bindL kindOf ((p,w) :: P.zip vs) m x=_
    unfold bindL
    exact bindL_get (i:=i) (List.nodup_cons.mp nd).2 (by simpa using h1) (by simpa using h2) hk
theorem bindC_get {kindOf:Str→Option NameKind} {x:Str} {v:Value}:∀ {P:List Str} {vs:List Value} {i:Nat} {m:Str→Option Value},P.Nodup→P[i]?=some x→vs[i]?=some v→kindOf x≠some .local →
    bindC kindOf (P.zip vs) m x=some v
  | [],_,_,_,_,h,_,_=>by simp at h
  | _ :: _,[],_,_,_,_,h,_=>by simp at h
  | p :: P,w :: vs,0,m,nd,h1,h2,hk=>by
    simp at h1 h2;subst h1;subst h2
    show bindC kindOf ((p,w) :: P.zip vs) m p=_
    unfold bindC
    rw [bindC_out fun v hv=>(List.nodup_cons.mp nd).1 (List.of_mem_zip hv).1,if_neg hk]
    simp
  | p :: P,w :: vs,i + 1,m,nd,h1,h2,hk=>by
    show bindC kindOf ((p,w) :: P.zip vs) m x=_
    unfold bindC
    exact bindC_get (i:=i) (List.nodup_cons.mp nd).2 (by simpa using h1) (by simpa using h2) hk
noncomputable def start (N:List Str) (vs:List V):St:=vs.map some ++ List.replicate (N.length - vs.length) none
noncomputable def cxOf (CX:CXT) (P:Program) (w:World) (K:PySem.W.Frag) (mg:Str→Option Value) (base:Heap) (N:List Str) (qual:Str) (scope:Scope) (f:Addr) (cd:Value) (A:Around) (outer:List Env) (s:Shared) (H:Hp) (E:XK):Cx where
  prog:=P
  w:=w
  K:=K
  mg:=mg
  base:=base
  A:=A.deeper (envOfC qual scope s.heap.objs.size f cd)
  N:=N
  s₀:=s
  H₀:=H
  env:=envOfC qual scope s.heap.objs.size f cd
  outer:=outer
  stack:=envOfC qual scope s.heap.objs.size f cd :: outer
  ex:=[]
  calm:=true
  fn:=fun _=>true
  pn:=[]
  xe:=fun e s'=>wpAny (model P w) (A.deeper (envOfC qual scope s.heap.objs.size f cd)) (leaving (envOfC qual scope s.heap.objs.size f cd) e) (fun _ s''=>CX outer H s E e s'') (fun e' s''=>CX outer H s E e' s'') s'
theorem cell_has {sc:Scope} {n:Nat} {x:Str} (h:sc.names.lookup x=some .cell):∃ c,(cellsFrom n sc.names []).lookup x=some c:=by
  have q:=PySem.W.cellsFrom_some sc.names n [] (.inl h)
  exact Option.isSome_iff_exists.mp q
theorem inv_start {CX:CXT} {P:Program} {w:World} {K:PySem.W.Frag} {mg:Str→Option Value} {base:Heap} {N ps:List Str} {qual:Str} {scope:Scope} {f:Addr} {cd:Value} {A:Around} {outer:List Env} {s s1:Shared} {H:Hp} {E:XK} {us:List Value} {vs:List V}
    (S:FnScope N ps scope) (hd:A.handled=none) (e0:Env0 P w K mg base A outer s H) (hl:vs.length=ps.length) (r:Vals vs us)
    (x:InCallC s s.heap.objs.size (bindL (envOfC qual scope s.heap.objs.size f cd).kindOf (ps.zip us) fun _=>none) (cellsFrom (s.heap.objs.size + 1) scope.names []) (bindC (envOfC qual scope s.heap.objs.size f cd).kindOf (ps.zip us) fun _=>none) s1) :
    Inv (cxOf CX P w K mg base N qual scope f cd A outer s H E) [] (start N vs) H s1:=by
  have hpl:ps.length≤N.length:=by have:=congrArg List.length S.pre;rw [List.length_take] at this;omega
  obtain ⟨h1,tk,rfl,hk⟩:=x.done
  have noA:∀ b:Addr,b ∉ (cxOf CX P w K mg base N qual scope f cd A outer s H E).ex:=fun b z=>absurd (show b∈([]:List Addr) from z) (by simp)
  refine ⟨⟨e0.mod,S.kind,rfl,rfl,Nat.le_refl _,fun y z c h1 h2=>?_,fun y hy=>?_,fun y c _ h=>?_,fun _=>hd,Around.frames_deeper e0.frames,.inr ⟨rfl,rfl⟩,fun b z=>absurd z (noA b),e0.bs,e0.bsz,fun b _ _=>noA b,fun b z=>absurd z (noA b),e0.funs,e0.frf⟩,
    rfl,e0.bare,Un.kept hk,⟨_,x.toInCall.ns,fun i y v h1 h2 h3=>?_⟩,fun y c h=>⟨_,x.cell y c h⟩,e0.hok.fresh (Nat.le_refl _),fun y c h=>?_,fun p hp=>absurd (show p∈([]:List (Addr×Obj)) from hp) (by simp),e0.hok.kept hk,?_⟩
  · exact name_of_addr x.apart (PySem.mem_of_lookup h1) (PySem.mem_of_lookup h2)
  · have hy:scope.names.lookup y=some .cell∨scope.names.lookup y=some .free:=hy
    rcases hy with hy | hy
    · exact cell_has hy
    · exact absurd rfl (S.nofree _ (PySem.mem_of_lookup hy))
  · exact Nat.le_of_lt (x.above y c (PySem.mem_of_lookup h))
  · have hi:i < vs.length:=by
      unfold start at h2
      by_cases hi:i < vs.length
      · exact hi
      · rw [List.getElem?_append_right (by simpa using hi)] at h2
        rw [List.getElem?_replicate] at h2
        split at h2 <;> cases h2
    have ha:vs[i]?=some v:=by
      unfold start at h2
      rw [List.getElem?_append_left (by simpa using hi),List.getElem?_map] at h2
      cases e:vs[i]? with
      | none=>rw [e] at h2;cases h2
      | some a=>rw [e] at h2;cases h2;rfl
    obtain ⟨u,hu,rv⟩:=r.get ha
    have hp:ps[i]?=some y:=by
      rw [← S.pre,List.getElem?_take_of_lt (by omega)];exact h1
    have ndP:ps.Nodup:=by rw [← S.pre];exact S.nd.sublist (List.take_sublist _ _)
    refine ⟨u,rv,?_⟩
    rcases S.par y (List.mem_of_getElem? hp) with k | k
    · exact .inl ⟨k,bindL_get ndP hp hu k⟩
    · obtain ⟨c,e⟩:=cell_has (n:=s.heap.objs.size + 1) k
      refine .inr ⟨.inl k,c,e,?_⟩
      have q:=x.cell y c e
      rw [bindC_get ndP hp hu (by show scope.names.lookup y≠_;rw [k];decide)] at q
      exact q
  · exact e0.hok.fresh (Nat.le_of_lt (x.above y c (PySem.mem_of_lookup h)))
  · unfold start
    show _=N.length
    rw [List.length_append,List.length_map,List.length_replicate]
    omega
theorem fn_of {CX:CXT} {P:Program} {w:World} {K:PySem.W.Frag} {mg:Str→Option Value} {base:Heap} {k:Nat} {f:Addr} {name qual:Str} {params:Arguments} {body:List Stmt} {scope:Scope} {dV kV doc pm cdv ct oc:Value} {an od:Option Addr}
    {osl:Array (Option Value)} {N ps:List Str} {sp:Sp} (lk:K.lookup f=some ⟨oc,od,.func (PySem.W.fnOf name qual params body scope dV kV doc pm an cdv ct),osl⟩) (hcd:PySem.W.codeIn K cdv qual=true) (S:FnScope N ps scope)
    (len:∀ vs H Q E,sp vs H Q E→vs.length=ps.length)
    (hbody:∀ (A:Around) (outer:List Env) (s:Shared) (H:Hp) (vs:List V) (Q:VK) (E:XK),Room k (A.deeper (envOfC qual scope s.heap.objs.size f cdv))→sp vs H Q E →
      ∃ t,PSs (cxOf CX P w K mg base N qual scope f cdv A outer s H E) body t∧t { nx:=fun _ H'=>Q .non H',rt:=Q } (start N vs) H) :
    FnOk P w K mg base CX (k + 1) f (PySem.W.fnOf name qual params body scope dV kV doc pm an cdv ct) ps sp:=by
  refine ⟨len,fun A outer s H args us vs Q E hr e0 hb r hsp=>?_⟩
  have hl:=len _ _ _ _ hsp
  have KX:K.In s.heap:=e0.mod.kin.keeps fun b o e=>(e0.bs b o e).1
  have lim:s.heap.NoLimit:=e0.mod.nolimit.keeps fun b o e=>(e0.bs b o e).1
  have hkind:∀ y∈ps.zip us,scope.names.lookup y.1=some .local∨(scope.names.lookup y.1=some .cell∧((cellsFrom (s.heap.objs.size + 1) scope.names []).lookup y.1).isSome=true):=fun ⟨n,v⟩ hy=>by
    rcases S.par n (List.of_mem_zip hy).1 with q | q
    · exact .inl q
    · exact .inr ⟨q,PySem.W.cellsFrom_some _ _ _ (.inl q)⟩
  refine codeAny_call_function hr.depth (KX _ _ lk) rfl S.co S.gen rfl (PySem.W.codeRec_of KX hcd) (hb _ _ _ _ ?_)
  refine wpAny_newFunctionEnv_cells S.kind hkind fun env he s1 x=>?_
  subst he
  refine ⟨lim.keeps x.toInCall.keep,codeAny_func ?_⟩
  obtain ⟨t,ht,hq⟩:=hbody A outer s H vs Q E (hr.deeper _) hsp
  have I:Inv (cxOf CX P w K mg base N qual scope f cdv A outer s H E) [] (start N vs) H s1:=inv_start S hr.hd e0 hl r x
  refine wpAny_mono (ht [] s1 (start N vs) H _ I hq) (fun fl s' hs=>?_) fun e s' hs=>hs
  have fin:∀ {σ':St} {H':Hp} {v:V} {u:Value},Inv (cxOf CX P w K mg base N qual scope f cdv A outer s H E) [] σ' H' s'→RelV v u→Q v H'→CE outer P w H s Q u s' :=
    fun {σ' H' v u} J rv q=>⟨v,H',J.os,J.bare,J.base,J.hok,rv,q⟩
  cases fl with
  | ret u =>
    obtain ⟨v,σ',H',J,rv,q⟩:=hs
    exact fin J rv q
  | next =>
    obtain ⟨σ',H',J,q⟩:=hs
    exact fin (v:=V.non) (u:=Value.none) J rfl q
  | brk =>
    obtain ⟨_,_,_,q⟩:=hs
    exact False.elim q
  | cont =>
    obtain ⟨_,_,_,q⟩:=hs
    exact False.elim q
end L2
namespace L2
open PySem PySem.Spec PyProof.Rows
section
variable {X:Cx} {x:Str} {p pos:Pos} {e:Expr} {es:List Expr} {t:TA} {id T:String} {r:List V→Hp→VK→Prop}
noncomputable def tCB (r:List V→Hp→VK→Prop) (t:TA):TE:=fun σ H Q=>t σ H fun vs H1=>r vs H1 Q
theorem pe_callB (hc:CallR X (.builtin id) r) (hg:Gl X x) (hm:X.mg x=none) (hv:bootBuiltins x=some (.builtin id)) (ha:PA X (e :: es) t) (hn:x≠"__name__":=by decide) (hdb:(x == ("__debug__":Str))=false:=by decide)
    (he:starEach (e :: es) X.env=(false,eval e X.env) :: starEach es X.env:=by rfl) (hpl:(backTo pos (starEach es X.env)).any (·.1)=false:=by rfl):PE X (.Call (.Name x p) (e :: es) [] pos) (tCB r t):=by
  intro pins s σ H Q I h
  refine wpAny_Call_Name_kw (ld_blt I hg hm hv ?_ hn hdb)
  exact PyProof.Rows.callWith_builtin1 (thn (ha pos pins s σ H _ I h) fun us s1 ⟨vs,H1,I1,r1,q1⟩=>hc pins s1 σ H1 vs us Q I1 r1 q1) he hpl
theorem pe_callTy (hc:CallR X (.type T) r) (hg:Gl X x) (hm:X.mg x=none) (hv:bootBuiltins x=some (.type T)) (ha:PA X (e :: es) t) (hn:x≠"__name__":=by decide) (hdb:(x == ("__debug__":Str))=false:=by decide)
    (he:starEach (e :: es) X.env=(false,eval e X.env) :: starEach es X.env:=by rfl) (hpl:(backTo pos (starEach es X.env)).any (·.1)=false:=by rfl):PE X (.Call (.Name x p) (e :: es) [] pos) (tCB r t):=by
  intro pins s σ H Q I h
  refine wpAny_Call_Name_kw (ld_blt I hg hm hv ?_ hn hdb)
  exact PyProof.Rows.callWith_type1 (thn (ha pos pins s σ H _ I h) fun us s1 ⟨vs,H1,I1,r1,q1⟩=>hc pins s1 σ H1 vs us Q I1 r1 q1) he hpl
end
end L2
namespace HT
open PySem PyProof.Rows
noncomputable def lexLt:List Int→List Int→Bool
  | [],[]=>false
  | [],_ :: _=>true
  | _ :: _,[]=>false
  | x :: xs,y :: ys=>if x=y then lexLt xs ys else decide (x < y)
section
open PySem.SeqAt
open PySem.AutoSeq1 (wpAny_loadPart')
open PySem.MeetsSeq PySem.MeetsSeq2 PySem.MeetsSeq3
end
section
variable {prog:Program} {w:World} {A:Around} {E:Value→Shared→Prop} {s:Shared}
noncomputable def sIx (n d:Nat):Option Int→Nat
  | none=>d
  | some v=>if v < 0 then (v + (n:Int)).toNat else min v.toNat n
theorem sIx_none (n d:Nat):sIx n d none=d:=rfl
theorem sIx_nat (n d k:Nat):sIx n d (some (k:Int))=min k n:=by
  show (if (k:Int) < 0 then ((k:Int) + (n:Int)).toNat else min (k:Int).toNat n)=min k n
  rw [if_neg (by omega),Int.toNat_natCast]
end
end HT
namespace L2
open PySem PySem.Spec PyProof.Rows
noncomputable abbrev TO:=St→Hp→(Option Int→Hp→Prop)→Prop
noncomputable def PO (X:Cx) (e:Option Expr) (t:TO):Prop :=
  ∀ (pins:List (Addr×Obj)) (s:Shared) (σ:St) (H:Hp) (Q:Option Int→Hp→Prop),Inv X pins σ H s→t σ H Q →
    wpAny (model X.prog X.w) X.A (evalPart e X.env) (fun u s'=>∃ o H',Inv X pins σ H' s'∧IsPart u o∧Q o H') X.xe s
noncomputable def tNoPart:TO:=fun _ H Q=>Q none H
noncomputable def tPart (t:TE):TO:=fun σ H Q=>t σ H fun x H1=>∃ i,x=.int i∧Q (some i) H1
section
variable {X:Cx} {e:Expr} {te:TE} {lo hi:Option Expr} {tl th:TO} {pos p2:Pos}
theorem po_none:PO X none tNoPart:=by
  intro pins s σ H Q I h
  rw [evalPart_none]
  exact wpAny_pure ⟨none,H,I,.none,h⟩
theorem po_some (h:PE X e te):PO X (some e) (tPart te):=by
  intro pins s σ H Q I hw
  rw [evalPart_some]
  refine thn (h pins s σ H _ I hw) fun u s1 ⟨x,H1,I1,r1,q1⟩=>?_
  obtain ⟨i,rfl,q⟩:=q1
  obtain ⟨t,rfl⟩:=r1
  exact ⟨some i,H1,I1,.int i t,q⟩
noncomputable def SlR (X:Cx) (r:V→Option Int→Option Int→Hp→VK→Prop):Prop :=
  ∀ (pins:List (Addr×Obj)) (s:Shared) (σ:St) (H:Hp) (x:V) (v vl vu:Value) (lo hi:Option Int) (sl:Addr) (Q:VK),Inv X pins σ H s→RelV x v→s.heap.IsSliceOf sl vl vu .none→IsPart vl lo→IsPart vu hi→r x lo hi H Q →
    ∃ T id,typeLookup (.type T) "__getitem__"=pure (some (.builtin id))∧s.TypeIs v T∧wpAny (model X.prog X.w) X.A (getItem v (.ref sl)) (EP X pins σ Q) X.xe s
noncomputable def tSl (r:V→Option Int→Option Int→Hp→VK→Prop) (te:TE) (tl th:TO):TE:=fun σ H Q=>te σ H fun x H1=>tl σ H1 fun l H2=>th σ H2 fun u H3=>r x l u H3 Q
theorem pe_slice {r:V→Option Int→Option Int→Hp→VK→Prop} (hr:SlR X r) (he:PE X e te) (hl:PO X lo tl) (hu:PO X hi th):PE X (.Subscript e (.Slice lo hi none p2) pos) (tSl r te tl th):=by
  intro pins s σ H Q I h
  refine Subscript_ (thn (he pins s σ H _ I h) fun v s1 ⟨x,H1,I1,r1,q1⟩=>?_)
  refine wpAny_Slice (thn (hl pins s1 σ H1 _ I1 q1) fun vl s2 ⟨l,H2,I2,pl,q2⟩=>thn (hu pins s2 σ H2 _ I2 q2) fun vu s3 ⟨u,H3,I3,pu,q3⟩=>?_)
  rw [evalPart_none]
  refine wpAny_pure ?_
  have I4:Inv X pins σ H3 { s3 with heap:=s3.heap.push { cls:=.type "slice",data:=.fields #[vl,vu,.none] } }:=I3.kept (t':=s3.toks) fun b ob q=>Heap.get?_push_of_some _ q
  obtain ⟨T,id,hT,ht,hg⟩:=hr pins { s3 with heap:=s3.heap.push { cls:=.type "slice",data:=.fields #[vl,vu,.none] } } σ H3 x v vl vu l u s3.heap.objs.size Q I4 r1 (Heap.IsSliceOf.new ..) pl pu q3
  show wpAny (model X.prog X.w) X.A (subscriptTail e (.Slice lo hi none p2) v (.ref s3.heap.objs.size)) (EP X pins σ Q) X.xe { s3 with heap:=s3.heap.push { cls:=.type "slice",data:=.fields #[vl,vu,.none] } }
  exact tail_any (ops:=[.ref s3.heap.objs.size,v]) ht hT hg (by with_unfolding_all rfl)
noncomputable def cutV (xs:List V) (lo hi:Option Int):List V:=(xs.drop (HT.sIx xs.length 0 lo)).take (HT.sIx xs.length xs.length hi - HT.sIx xs.length 0 lo)
theorem cutV_length (xs:List V) (lo hi:Option Int):(cutV xs lo hi).length≤xs.length:=by
  unfold cutV
  rw [List.length_take,List.length_drop]
  omega
noncomputable def rSlT (K:PySem.W.Frag):V→Option Int→Option Int→Hp→VK→Prop:=fun x lo hi H Q=>∃ a xs,x=.ref a∧SqT K H a xs ∧
  ¬ (HT.sIx xs.length 0 lo=0∧HT.sIx xs.length xs.length hi=xs.length)∧∀ p,H p=none→Q (.ref p) (upd H p (.tup (cutV xs lo hi)))
noncomputable def rLtT (K:PySem.W.Frag):R2:=fun x y H Q=>∃ a b ns ms,x=.ref a∧y=.ref b∧SqT K H a (ns.map V.int)∧SqT K H b (ms.map V.int)∧Q (.bl (HT.lexLt ns ms)) H
noncomputable def rCatT (K:PySem.W.Frag):R2:=fun x y H Q=>∃ a b xs ys,x=.ref a∧y=.ref b∧SqT K H a xs∧SqT K H b ys∧xs≠[]∧xs.length + ys.length≤sizeLine ∧
  (ys=[]→Q (.ref a) H)∧(ys≠[]→∀ p,H p=none→Q (.ref p) (upd H p (.tup (xs ++ ys))))
end
end L2
namespace L2
open PySem PySem.Spec PyProof.Rows
noncomputable def ixN (n:Nat) (i:Int):Option Nat:=if 0≤i then (if i < n then some i.toNat else none) else if -(n:Int)≤i then some (i + n).toNat else none
noncomputable def atI {α:Type} (xs:List α) (i:Int):Option α:=(ixN xs.length i).bind fun j=>xs[j]?
theorem ixN_seq {n:Nat} {i:Int} {j:Nat} (h:ixN n i=some j):seqIndex? i n=some j∧j < n∧-(n:Int)≤i∧i < n:=by
  unfold ixN at h
  by_cases h0:0≤i
  · rw [if_pos h0] at h
    by_cases h1:i < n
    · rw [if_pos h1] at h
      have e:i.toNat=j:=Option.some.inj h
      exact ⟨by rw [seqIndex_of h0 h1,e],by omega,by omega,h1⟩
    · rw [if_neg h1] at h;cases h
  · rw [if_neg h0] at h
    by_cases h1:-(n:Int)≤i
    · rw [if_pos h1] at h
      have e:(i + n).toNat=j:=Option.some.inj h
      exact ⟨by rw [seqIndex_neg (by omega) h1,e],by omega,h1,by omega⟩
    · rw [if_neg h1] at h;cases h
theorem atI_get {α:Type} {xs:List α} {i:Int} {v:α} (h:atI xs i=some v):∃ j,seqIndex? i xs.length=some j∧xs[j]?=some v∧j < xs.length∧-(xs.length:Int)≤i∧i < xs.length:=by
  unfold atI at h
  cases e:ixN xs.length i with
  | none=>rw [e] at h;cases h
  | some j =>
    rw [e] at h
    obtain ⟨h1,h2,h3,h4⟩:=ixN_seq e
    exact ⟨j,h1,h,h2,h3,h4⟩
theorem atI_nat {α:Type} {xs:List α} {j:Nat} {v:α} (h:xs[j]?=some v):atI xs (j:Int)=some v:=by
  have hj:j < xs.length:=(List.getElem?_eq_some_iff.mp h).1
  have e:ixN xs.length (j:Int)=some j:=by
    unfold ixN
    rw [if_pos (by omega),if_pos (by omega)];simp
  unfold atI;rw [e];exact h
noncomputable def PlainIx (b:Expr):Prop:=∀ o i,subscripted b false o i=operate [o,i] (getItem o i)
noncomputable def IxR (X:Cx) (r:R2):Prop :=
  ∀ (value slice:Expr) (pins:List (Addr×Obj)) (s:Shared) (σ:St) (H:Hp) (x y:V) (v u:Value) (Q:VK),Inv X pins σ H s→RelV x v→RelV y u→r x y H Q →
    subscripted slice false v u=operate [v,u] (getItem v u)→wpAny (model X.prog X.w) X.A (subscriptTail value slice v u) (EP X pins σ Q) X.xe s
noncomputable def MtR (X:Cx) (id:String) (r:V→List V→Hp→VK→Prop):Prop :=
  ∀ (pins:List (Addr×Obj)) (s:Shared) (σ:St) (H:Hp) (x:V) (xs:List V) (v:Value) (us:List Value) (Q:VK),Inv X pins σ H s→RelV x v→Vals xs us→r x xs H Q →
    wpAny (model X.prog X.w) X.A (call (.builtin id) (v :: us)) (EP X pins σ Q) X.xe s
section
variable {X:Cx} {a b:Expr} {ta tb:TE} {pos:Pos}
theorem pe_ix {r:R2} (hr:IxR X r) (ha:PE X a ta) (hb:PE X b tb) (hs:PlainIx b):PE X (.Subscript a b pos) (tOp r ta tb):=by
  intro pins s σ H Q I h
  exact Subscript_ (binT ha hb I h fun v u s2 x y H2 I2 rx ry q=>hr a b pins s2 σ H2 x y v u Q I2 rx ry q (hs _ _))
noncomputable def rIxL (K:PySem.W.Frag):R2:=fun x y H Q=>∃ p xs i v,x=.ref p∧y=.int i∧SqL K H p xs∧atI xs i=some v∧Q v H
noncomputable def rIxT (K:PySem.W.Frag):R2:=fun x y H Q=>∃ p xs i v,x=.ref p∧y=.int i∧SqT K H p xs∧atI xs i=some v∧Q v H
noncomputable def rIxS:R2:=fun x y H Q=>∃ z i c,x=.str z∧y=.int i∧z.length≤sizeLine∧atI z.cps.toList i=some c∧Q (.str ⟨#[c]⟩) H
theorem ix_list:IxR X (rIxL X.K):=by
  intro value slice pins s σ H x y v u Q I rx ry h hs
  obtain ⟨p,xs,i,z,rfl,rfl,hq,he,q⟩:=h
  cases rx
  obtain ⟨t,rfl⟩:=ry
  obtain ⟨its,r,pl,hz⟩:=I.list hq
  obtain ⟨j,h1,h2,h3,h4,h5⟩:=atI_get he
  obtain ⟨w,ew,rw'⟩:=r.get h2
  have hl:=r.length
  have hn:=line63
  have fin:EP X pins σ Q w s:=⟨z,H,I,rw',q⟩
  by_cases h0:0≤i
  · have hj:i.toNat=j:=by
      rw [seqIndex_of h0 h5] at h1
      exact Option.some.inj h1
    exact item_listR pl.isList h0 (by omega) (by rw [hj];simpa using ew) fin hs
  · have hj:(i + (its.toArray.size:Int)).toNat=j:=by
      rw [seqIndex_neg (by omega) h4] at h1
      rw [List.size_toArray,← hl]
      exact Option.some.inj h1
    exact subscriptTail_builtinR (x:=w) pl.isList.typeIs slot_list_getitem.lookup
      (wpAny_getItem_list_neg (Q:=fun r s'=>r=w∧EP X pins σ Q r s') pl.isList (by omega) (by rw [List.size_toArray] <;> omega) (by omega) (by rw [hj];simpa using ew) ⟨rfl,fin⟩) hs
theorem ix_tup:IxR X (rIxT X.K):=by
  intro value slice pins s σ H x y v u Q I rx ry h hs
  obtain ⟨p,xs,i,z,rfl,rfl,hq,he,q⟩:=h
  cases rx
  obtain ⟨t,rfl⟩:=ry
  obtain ⟨its,r,pl,hz⟩:=I.tuple hq
  obtain ⟨j,h1,h2,h3,h4,h5⟩:=atI_get he
  obtain ⟨w,ew,rw'⟩:=r.get h2
  have hl:=r.length
  have hn:=line63
  have fin:EP X pins σ Q w s:=⟨z,H,I,rw',q⟩
  exact subscriptTail_builtinR (x:=w) pl.typeIs slot_tuple_getitem.lookup
    (getItem_tuple (j:=j) (Q:=fun r s'=>r=w∧EP X pins σ Q r s') pl (by omega) (by omega) (by rw [List.size_toArray,← hl];exact h1) (by simpa using ew) ⟨rfl,fin⟩) hs
theorem ix_str:IxR X rIxS:=by
  intro value slice pins s σ H x y v u Q I rx ry h hs
  obtain ⟨z,i,c,rfl,rfl,hz,he,q⟩:=h
  obtain ⟨t,rfl⟩:=rx
  obtain ⟨t',rfl⟩:=ry
  obtain ⟨j,h1,h2,h3,h4,h5⟩:=atI_get he
  have hl:z.cps.toList.length=z.length:=by simp [Str.length]
  rw [hl] at h1 h4 h5
  have hn:=line63
  exact tail_any (typeIs_str s z t) slot_str_getitem.lookup (getItem_str (c:=c) (by
    have e1:decide (i < -(2 ^ 63:Int))=false:=decide_eq_false (by omega)
    have e2:decide (i ≥ 2 ^ 63)=false:=decide_eq_false (by omega)
    rw [e1,e2,Bool.or_false]) (by rw [h1];simpa using h2) ⟨.str ⟨#[c]⟩,H,I.tok _,⟨_,rfl⟩,q⟩) hs
noncomputable def rIx (K:PySem.W.Frag):R2:=fun x y H Q=>rIxL K x y H Q∨rIxT K x y H Q∨rIxS x y H Q
noncomputable def rSetL:V→V→V→Hp→(Hp→Prop)→Prop:=fun o i v H Q=>∃ p xs k j,o=.ref p∧i=.int k∧H p=some (.lst xs)∧ixN xs.length k=some j∧Q (upd H p (.lst (xs.set j v)))
theorem slice_bounds (lo hi:Option Int) (n:Nat):(sliceBounds lo hi none n).1=((HT.sIx n 0 lo:Nat):Int)∧(sliceBounds lo hi none n).2.1=((HT.sIx n n hi:Nat):Int)∧(sliceBounds lo hi none n).2.2=1:=by
  refine ⟨?_,?_,rfl⟩
  · cases lo with
    | none=>simp [sliceBounds,HT.sIx]
    | some i =>
      simp only [sliceBounds,HT.sIx,Option.getD_none,show (1:Int) > 0 by decide,if_true]
      by_cases h:i < 0
      · simp only [h,if_true] <;> omega
      · simp only [h,if_false] <;> omega
  · cases hi with
    | none=>simp [sliceBounds,HT.sIx]
    | some i =>
      simp only [sliceBounds,HT.sIx,Option.getD_none,show (1:Int) > 0 by decide,if_true]
      by_cases h:i < 0
      · simp only [h,if_true] <;> omega
      · simp only [h,if_false] <;> omega
theorem slicePick_cut (its:List Value) (lo hi:Option Int):slicePick its.toArray lo hi none=((its.drop (HT.sIx its.length 0 lo)).take (HT.sIx its.length its.length hi - HT.sIx its.length 0 lo)).toArray:=by
  obtain ⟨h1,h2,h3⟩:=slice_bounds lo hi its.toArray.size
  unfold slicePick
  rw [h1,h2,h3]
  simp only [sliceRange_one,pick_run,List.size_toArray] <;> rfl
noncomputable def rSlL (K:PySem.W.Frag):V→Option Int→Option Int→Hp→VK→Prop:=fun x lo hi H Q=>∃ a xs,x=.ref a∧SqL K H a xs∧∀ p,H p=none→Q (.ref p) (upd H p (.lst (cutV xs lo hi)))
theorem sl_list:SlR X (rSlL X.K):=by
  intro pins s σ H x v vl vu lo hi sl Q I rx hs pl pu h
  obtain ⟨a,xs,rfl,hx,q⟩:=h
  cases rx
  obtain ⟨its,r,ht,hz⟩:=I.list hx
  have hlen:=r.length
  refine ⟨"list",_,slot_list_getitem.lookup,ht.isList.typeIs,?_⟩
  refine wpAny_getItem_list_slice ht.isList hs pl pu .none (by simp) ?_ (by rw [List.size_toArray] <;> omega)
  rw [slicePick_cut,← hlen]
  refine ⟨.ref s.heap.objs.size,_,I.laid (t':=s.toks) (o:=.lst (cutV xs lo hi)) (fun b ob q=>Heap.get?_push_of_some _ q) (Nat.le_refl _) ?_,rfl,q _ (I.hok.fresh (Nat.le_refl _))⟩
  exact ⟨Nat.le_trans (cutV_length xs lo hi) hz,_,0,(r.drop (HT.sIx xs.length 0 lo)).take (HT.sIx xs.length xs.length hi - HT.sIx xs.length 0 lo),Heap.get?_push_size _ rfl⟩
noncomputable def flatV:V→Bool
  | .non=>true
  | .bl _=>true
  | .int _=>true
  | .str _=>true
  | _=>false
noncomputable def eqV:V→V→Bool
  | .non,.non=>true
  | .bl a,.bl b=>a == b
  | .bl a,.int b=>(if a then 1 else 0) == b
  | .int a,.bl b=>a == (if b then 1 else 0)
  | .int a,.int b=>a == b
  | .str a,.str b=>a == b
  | _,_=>false
theorem eqAt_V {A:Around} {s:Shared} {y x:V} {u v:Value} (ry:RelV y u) (rx:RelV x v) (fy:flatV y=true) (fx:flatV x=true):SeqAt.EqAt A s u v (eqV y x):=by
  cases y with
  | non =>
    cases ry
    cases x with
    | non=>cases rx;exact SeqAt.EqAt.same _
    | bl b=>cases rx;exact SeqAt.EqAt.none_bool b
    | int b=>obtain ⟨t,rfl⟩:=rx;exact SeqAt.EqAt.none_int b t
    | str b=>obtain ⟨t,rfl⟩:=rx;exact SeqAt.EqAt.none_str b t
    | _=>exact absurd (show false=true from fx) Bool.false_ne_true
  | bl a =>
    cases ry
    cases x with
    | non=>cases rx;exact SeqAt.EqAt.bool_none a
    | bl b=>cases rx;exact SeqAt.EqAt.bool_bool a b
    | int b=>obtain ⟨t,rfl⟩:=rx;exact SeqAt.EqAt.bool_int a b t
    | str b=>obtain ⟨t,rfl⟩:=rx;exact SeqAt.EqAt.bool_str a b t
    | _=>exact absurd (show false=true from fx) Bool.false_ne_true
  | int a =>
    obtain ⟨t',rfl⟩:=ry
    cases x with
    | non=>cases rx;exact SeqAt.EqAt.int_none a t'
    | bl b=>cases rx;exact SeqAt.EqAt.int_bool a t' b
    | int b=>obtain ⟨t,rfl⟩:=rx;exact SeqAt.EqAt.int_int a t' b t
    | str b=>obtain ⟨t,rfl⟩:=rx;exact SeqAt.EqAt.int_str a t' b t
    | _=>exact absurd (show false=true from fx) Bool.false_ne_true
  | str a =>
    obtain ⟨t',rfl⟩:=ry
    cases x with
    | non=>cases rx;exact SeqAt.EqAt.str_none a t'
    | bl b=>cases rx;exact SeqAt.EqAt.str_bool a t' b
    | int b=>obtain ⟨t,rfl⟩:=rx;exact SeqAt.EqAt.str_int a t' b t
    | str b=>obtain ⟨t,rfl⟩:=rx;exact SeqAt.EqAt.str_str a t' b t
    | _=>exact absurd (show false=true from fx) Bool.false_ne_true
  | _=>exact absurd (show false=true from fy) Bool.false_ne_true
noncomputable def eqU (x:V) (u:Value):Bool:=match u with
  | .none=>eqV .non x
  | .bool b=>eqV (.bl b) x
  | .int i _=>eqV (.int i) x
  | .str z _=>eqV (.str z) x
  | _=>false
noncomputable def inV (x:V) (xs:List V):Bool:=xs.any fun y=>eqV y x
noncomputable def rIn (K:PySem.W.Frag) (neg:Bool):R2:=fun x y H Q=>∃ p xs,y=.ref p∧(SqL K H p xs∨SqT K H p xs)∧flatV x=true∧xs.all flatV=true∧Q (.bl (if neg then !inV x xs else inV x xs)) H
theorem call_len_seq:CallR X (.builtin "len") (fun xs H Q=>∃ p ys,xs=[.ref p]∧(SqL X.K H p ys∨SqT X.K H p ys)∧Q (.int ys.length) H):=by
  intro pins s σ H xs us Q I r h
  obtain ⟨p,ys,rfl,hq,q⟩:=h
  obtain ⟨u,rfl,rx⟩:=vals1 r
  cases rx
  have hn:=line63
  rcases hq with hq | hq
  · obtain ⟨its,r',pl,hz⟩:=I.list hq
    have hlen:=r'.length
    exact Calls.call_len_list pl.isList (by simp only [List.size_toArray] <;> omega) ⟨.int ys.length,H,I.tok _,⟨s.toks + 1,by rw [List.size_toArray,hlen]⟩,q⟩
  · obtain ⟨its,r',pl,hz⟩:=I.tuple hq
    have hlen:=r'.length
    exact len_tuple pl (by simp only [List.size_toArray] <;> omega) ⟨.int ys.length,H,I.tok _,⟨s.toks + 1,by rw [List.size_toArray,hlen]⟩,q⟩
theorem call_len_str:CallR X (.builtin "len") (fun xs H Q=>∃ z,xs=[.str z]∧z.length≤sizeLine∧Q (.int z.length) H):=by
  intro pins s σ H xs us Q I r h
  obtain ⟨z,rfl,hz,q⟩:=h
  obtain ⟨u,rfl,t,rfl⟩:=vals1 r
  have hn:=line63
  exact len_str (by omega) ⟨.int z.length,H,I.tok _,⟨_,rfl⟩,q⟩
theorem call_list_of:CallR X (.type "list") (fun xs H Q=>∃ p ys,xs=[.ref p]∧(SqL X.K H p ys∨SqT X.K H p ys)∧∀ l,H l=none→Q (.ref l) (upd H l (.lst ys))):=by
  intro pins s σ H xs us Q I r h
  obtain ⟨p,ys,rfl,hq,q⟩:=h
  obtain ⟨u,rfl,rx⟩:=vals1 r
  cases rx
  have fin:∀ (its:List Value),Vals ys its→ys.length≤sizeLine→∀ (h':Heap) (c':Nat),(∀ b o',s.heap.get? b=some o'→h'.get? b=some o') →
      h'.get? s.heap.objs.size=some { cls:=.type "list",dict:=none,data:=.seq its.toArray c',slots:=#[] }→EP X pins σ Q (.ref s.heap.objs.size) { s with heap:=h' }:=fun its r' hz h' c' kp e =>
    ⟨.ref s.heap.objs.size,_,I.laid (t':=s.toks) kp (Nat.le_refl _) (show ObjOk X.prog X.w _ h' _ (.lst ys) from ⟨hz,its,c',r',e⟩),rfl,q _ (I.hok.fresh (Nat.le_refl _))⟩
  rcases hq with hq | hq
  · obtain ⟨its,r',pl,hz⟩:=I.list hq
    have hlen:=r'.length
    obtain ⟨o,ho,hc,n,hd⟩:=pl.isList
    exact call_list_seq p (.inl rfl) ho hc hd (fun h' c' kp e=>fin its r' hz h' c' kp e) (by simp only [List.size_toArray] <;> omega)
  · obtain ⟨its,r',pl,hz⟩:=I.tuple hq
    have hlen:=r'.length
    obtain ⟨o,ho,hc,n,hd⟩:=pl
    exact call_list_seq p (.inr rfl) ho hc hd (fun h' c' kp e=>fin its r' hz h' c' kp e) (by simp only [List.size_toArray] <;> omega)
theorem call_tuple_of:CallR X (.type "tuple") (fun xs H Q=>∃ p ys,xs=[.ref p]∧((SqL X.K H p ys∧∀ l,H l=none→Q (.ref l) (upd H l (.tup ys)))∨(SqT X.K H p ys∧Q (.ref p) H))):=by
  intro pins s σ H xs us Q I r h
  obtain ⟨p,ys,rfl,h⟩:=h
  obtain ⟨u,rfl,rx⟩:=vals1 r
  cases rx
  rcases h with ⟨hq,q⟩ | ⟨hq,q⟩
  · obtain ⟨its,r',pl,hz⟩:=I.list hq
    have hlen:=r'.length
    refine call_tuple_list pl.isList (fun h' kp=>?_) (by simp only [List.size_toArray] <;> omega)
    have I1:Inv X pins σ H { s with heap:=h' }:=I.kept (t':=s.toks) kp
    have I2:Inv X pins σ (upd H h'.objs.size (.tup ys)) { s with heap:=h'.push { cls:=.type "tuple",data:=.seq its.toArray } } :=
      I1.laid (t':=s.toks) (fun b o e=>Heap.get?_push_of_some _ e) (Nat.le_refl _) (show ObjOk X.prog X.w _ _ _ (.tup ys) from ⟨hz,its,r',IsTup.new _ _⟩)
    exact ⟨.ref h'.objs.size,_,I2,rfl,q _ (I1.hok.fresh (Nat.le_refl _))⟩
  · obtain ⟨its,r',pl,hz⟩:=I.tuple hq
    exact call_tuple_same pl ⟨.ref p,H,I,rfl,q⟩
noncomputable def tyV (K:PySem.W.Frag) (T:String) (x:V) (H:Hp):Prop:=match x with
  | .str _=>T="str"
  | .int _=>T="int"
  | .ref p=>(T="list"∧∃ xs,SqL K H p xs)∨(T="tuple"∧∃ o,K.lookup p=some o∧o.cls=.type "tuple"∧o.dict=none) ∨
      (T="dict"∧((∃ kvs,H p=some (.dK kvs))∨∃ kvs,H p=some (.dT kvs)))∨(T="set"∧∃ S n,H p=some (.set S n))
  | _=>False
theorem tyV_is {pins:List (Addr×Obj)} {σ:St} {H:Hp} {s:Shared} {T:String} {x:V} {v:Value} (I:Inv X pins σ H s) (r:RelV x v) (ty:tyV X.K T x H) :
    s.TypeIs v T∧∀ a,v=.ref a→∃ ob,s.heap.get? a=some ob∧ob.dict=none:=by
  cases x with
  | str z =>
    obtain ⟨t,rfl⟩:=r
    cases (show T="str" from ty)
    exact ⟨typeIs_str s z t,fun _ e=>nomatch e⟩
  | int i =>
    obtain ⟨t,rfl⟩:=r
    cases (show T="int" from ty)
    exact ⟨typeIs_int s i t,fun _ e=>nomatch e⟩
  | ref p =>
    cases r
    rcases ty with ⟨rfl,xs,hq⟩ | ⟨rfl,o,hk,hc,hd⟩ | ⟨rfl,hk⟩ | ⟨rfl,S,n,hk⟩
    · obtain ⟨its,_,pl,_⟩:=I.list hq
      refine ⟨pl.isList.typeIs,fun a e=>?_⟩
      cases e
      obtain ⟨o,n,e,c,hd,_⟩:=pl
      exact ⟨o,e,hd⟩
    · refine ⟨⟨o,I.kIn p o hk,hc⟩,fun a e=>?_⟩
      cases e
      exact ⟨o,I.kIn _ o hk,hd⟩
    · have z:∃ o,s.heap.get? p=some o∧o.ExactDict:=by
        rcases hk with ⟨kvs,hk⟩ | ⟨kvs,hk⟩
        · obtain ⟨_,_,_,_,o,_,_,e,ex,_⟩:=I.hok p _ hk
          exact ⟨o,e,ex⟩
        · obtain ⟨_,_,_,_,o,_,_,e,ex,_⟩:=I.hok p _ hk
          exact ⟨o,e,ex⟩
      obtain ⟨o,e,ex⟩:=z
      refine ⟨⟨o,e,ex.1⟩,fun a e2=>?_⟩
      cases e2
      exact ⟨o,e,ex.2.1⟩
    · obtain ⟨o,_,_,_,e,ex,_⟩:=I.hok p _ hk
      refine ⟨⟨o,e,ex.1⟩,fun a e2=>?_⟩
      cases e2
      exact ⟨o,e,ex.2.1⟩
  | _=>exact False.elim ty
noncomputable def tBM0 (K:PySem.W.Frag) (T:String) (r:V→List V→Hp→VK→Prop) (to:TE):TE:=fun σ H Q=>to σ H fun x H1=>tyV K T x H1∧r x [] H1 Q
noncomputable def tBM (K:PySem.W.Frag) (T:String) (r:V→List V→Hp→VK→Prop) (to:TE) (t:TA):TE:=fun σ H Q=>to σ H fun x H1=>tyV K T x H1∧t σ H1 fun xs H2=>r x xs H2 Q
variable {o e:Expr} {es:List Expr} {to:TE} {t:TA} {name:Str} {apos cpos:Pos} {T id:String} {r:V→List V→Hp→VK→Prop}
theorem pe_bm (pa:PlainAttrs T) (slot:Slot T name id) (hty:typeOf (.builtin id)=pure (.type "method_descriptor")) (hm:MtR X id r) (ho:PE X o to) (ha:PA X (e :: es) t)
    (hbase:attributeBase o name X.env (eval o X.env)=eval o X.env:=by rfl)
    (hfew:((backTo cpos (starEach (e :: es) X.env)).all (fun x=>!x.1) && (backToKw cpos (keywordEach [] X.env)).all (fun x=>x.1.isSome)
      && decide ((e :: es).length + ([]:List Keyword).length + (if ([]:List Keyword).isEmpty then 0 else 1) < 30))=true:=by rfl)
    (hline:(apos.endLine == cpos.line)=true:=by rfl) (hs:starEach (e :: es) X.env=(false,eval e X.env) :: starEach es X.env:=by rfl) (hplain:(backTo cpos (starEach es X.env)).any (·.1)=false:=by rfl) :
    PE X (.Call (.Attribute o name apos) (e :: es) [] cpos) (tBM X.K T r to t):=by
  intro pins s σ H Q I h
  refine wpAny_Call_method_late hbase hfew hline rfl (thn (ho pins s σ H _ I h) fun v s1 ⟨x,H1,I1,r1,ty,q1⟩=>?_)
  obtain ⟨h1,h2⟩:=tyV_is I1 r1 ty
  refine ⟨T,id,pa,slot,hty,h1,h2,?_⟩
  have hA:=ha cpos pins s1 σ H1 _ I1 q1
  rw [hs] at hA ⊢
  refine Calls.callWith_builtin (by show (false || (backTo cpos (starEach es X.env)).any (·.1))=false;rw [hplain] <;> rfl) (Calls.evalArgs_plain ?_)
  exact thn hA fun us s2 ⟨vs,H2,I2,r2,q2⟩=>hm pins s2 σ H2 x vs v us Q I2 r1 r2 q2
/- xs.append(e), list.index on a module's tuple .. are MtR facts of 06m -/
end
end L2
namespace L2
open PySem PySem.Spec PyProof.Rows
noncomputable def MtM (X:Cx) (id:String) (r:V→List V→Hp→VK→Prop):Prop :=
  ∀ (pins:List (Addr×Obj)) (s:Shared) (σ:St) (H:Hp) (x:V) (xs:List V) (v:Value) (us:List Value) (Q:VK),Inv X pins σ H s→RelV x v→Vals xs us→r x xs H Q →
    wpAny (model X.prog X.w) X.A (call (.builtin id) (v :: us)) (EP X pins σ Q) X.xe s
theorem Vals.one:∀ {x:V} {us:List Value},Vals [x] us→∃ u,us=[u]∧RelV x u
  | _,_,.cons r .nil=>⟨_,rfl,r⟩
theorem Vals.eraseIdx:∀ {xs:List V} {us:List Value} (i:Nat),Vals xs us→Vals (xs.eraseIdx i) (us.eraseIdx i)
  | _,_,_,.nil=>.nil
  | _,_,0,.cons _ t=>t
  | _,_,i + 1,.cons r t=>.cons r (Vals.eraseIdx i t)
theorem Vals.rep {xs:List V} {us:List Value} (h:Vals xs us):∀ k:Nat,Vals (List.replicate k xs).flatten (List.replicate k us).flatten
  | 0=>.nil
  | k + 1=>by
    rw [List.replicate_succ,List.replicate_succ,List.flatten_cons,List.flatten_cons]
    exact Vals.append h (Vals.rep h k)
theorem len_erase {α:Type}:∀ (l:List α) (i:Nat),(l.eraseIdx i).length≤l.length
  | [],_=>Nat.le_refl _
  | _ :: _,0=>Nat.le_succ _
  | _ :: r,i + 1=>Nat.succ_le_succ (len_erase r i)
theorem foldl_rep (its:List Value):∀ (k:Nat) (acc:List Value),
    List.foldl (fun x1 x2=>x1 ++ x2) acc.toArray (List.replicate k its.toArray)=(acc ++ (List.replicate k its).flatten).toArray
  | 0,acc=>by simp
  | k + 1,acc=>by
    have e:acc.toArray ++ its.toArray=(acc ++ its).toArray:=by simp
    have e2:(acc ++ its) ++ (List.replicate k its).flatten=acc ++ (List.replicate (k + 1) its).flatten:=by
      rw [List.replicate_succ,List.flatten_cons,List.append_assoc]
    rw [← e2,← foldl_rep its k (acc ++ its),← e,List.replicate_succ,List.foldl_cons]
section
variable {X:Cx} {pins:List (Addr×Obj)} {σ:St} {H:Hp} {s:Shared} {l b:Addr} {xs ys zs:List V}
theorem Inv.lset {its its':List Value} {n:Nat} {f:Array Value→Array Value} {t':Nat} (I:Inv X pins σ H s) (hH:H l=some (.lst xs))
    (e:s.heap.get? l=some { cls:=.type "list",data:=.seq its.toArray n }) (hf:f its.toArray=its'.toArray) (hv:Vals ys its') (hz:ys.length≤sizeLine) :
    Inv X pins σ (upd H l (.lst ys)) { s with heap:=s.heap.update l (Obj.mapSeq f),toks:=t' }:=by
  have q:=PySem.IsL.update e f
  rw [hf] at q
  refine I.write (x:=l) (e:=l) (by rw [hH];exact trivial) (.inl rfl) (fun b' u hb hu=>(Heap.get?_update_other s.heap (Obj.mapSeq f) (Ne.symm hb)).trans hu) ⟨_,q⟩ ?_
  exact ⟨hz,its',_,hv,q⟩
theorem Inv.lnew {its:List Value} {t':Nat} (I:Inv X pins σ H s) (hv:Vals ys its) (hz:ys.length≤sizeLine) :
    Inv X pins σ (upd H s.heap.objs.size (.lst ys)) { s with heap:=s.heap.push { cls:=.type "list",data:=.seq its.toArray },toks:=t' } :=
  I.laid (fun _ _ q=>Heap.get?_push_of_some _ q) (Nat.le_refl _) ⟨hz,its,0,hv,Heap.get?_push_size _ rfl⟩
theorem Inv.fresh (I:Inv X pins σ H s):H s.heap.objs.size=none:=I.hok.fresh (Nat.le_refl _)
theorem Inv.lstM (I:Inv X pins σ H s) (hH:H l=some (.lst xs)):xs.length≤sizeLine∧∃ (its:List Value) (n:Nat),Vals xs its∧xs.length=its.length∧s.heap.get? l=some { cls:=.type "list",data:=.seq its.toArray n }:=by
  obtain ⟨z,its,n,r,e⟩:=I.hok l _ hH
  exact ⟨z,its,n,r,r.length,e⟩
theorem notLongL {n:Nat} (h:n≤sizeLine):Builtin.List.listTooLong n=false:=by
  unfold Builtin.List.listTooLong
  exact decide_eq_false (by omega)
end
section
variable {X:Cx}
noncomputable def rAppend:V→List V→Hp→VK→Prop:=fun x vs H Q=>∃ l xs y,x=.ref l∧vs=[y]∧H l=some (.lst xs)∧xs.length < sizeLine∧Q .non (upd H l (.lst (xs ++ [y])))
theorem mt_append:MtM X "list.append" rAppend:=by
  intro pins s σ H x vs v us Q I rx rv h
  obtain ⟨l,xs,y,rfl,rfl,hH,hz,q⟩:=h
  cases rx
  obtain ⟨u,rfl,ru⟩:=rv.one
  obtain ⟨z,its,n,r,hl,e⟩:=I.lstM hH
  refine call_meets F.slot_list_append ⟨_,e,rfl⟩ F.entry_list_append (F.args_list_append_2 _ _) (PySem.list_append l its.toArray n u (by rw [List.size_toArray];omega)) ⟨e,?_⟩
  refine ⟨.non,_,I.lset (its':=its ++ [u]) hH e (by simp) (r.append (.cons ru .nil)) ?_,rfl,q⟩
  rw [List.length_append,List.length_singleton]
  omega
noncomputable def rExtend:V→List V→Hp→VK→Prop:=fun x vs H Q=>∃ l b xs zs,x=.ref l∧vs=[.ref b]∧H l=some (.lst xs)∧H b=some (.lst zs)∧xs.length + zs.length≤sizeLine∧Q .non (upd H l (.lst (xs ++ zs)))
theorem mt_extend:MtM X "list.extend" rExtend:=by
  intro pins s σ H x vs v us Q I rx rv h
  obtain ⟨l,b,xs,zs,rfl,rfl,hH,hB,hz,q⟩:=h
  cases rx
  obtain ⟨u,rfl,ru⟩:=rv.one
  cases ru
  obtain ⟨z,its,n,r,hl,e⟩:=I.lstM hH
  obtain ⟨z2,its2,n2,r2,hl2,e2⟩:=I.lstM hB
  have hsz:its.toArray.size + its2.toArray.size≤sizeLine:=by rw [List.size_toArray,List.size_toArray];omega
  have hlong:¬ (!its.toArray.isEmpty && Builtin.List.listTooLong (its.toArray.size + its2.toArray.size))=true:=by
    rw [notLongL hsz,Bool.and_false]
    exact Bool.false_ne_true
  refine call_meets F.slot_list_extend ⟨_,e,rfl⟩ F.entry_list_extend (F.args_list_extend_2 _ _)
    (AutoSeq1.list_extend_list_list_0 l its.toArray n b its2.toArray n2 hlong (by rw [List.size_toArray];omega) (by omega)) ⟨e,e2,?_⟩
  refine ⟨.non,_,I.lset (its':=its ++ its2) hH e (by simp) (r.append r2) ?_,rfl,q⟩
  rw [List.length_append]
  omega
noncomputable def rPop:V→List V→Hp→VK→Prop:=fun x vs H Q=>∃ l xs y,x=.ref l∧vs=[]∧H l=some (.lst xs)∧xs[xs.length - 1]?=some y∧Q y (upd H l (.lst xs.dropLast))
noncomputable def rPopAt:V→List V→Hp→VK→Prop:=fun x vs H Q=>∃ l xs i k y,x=.ref l∧vs=[.int i]∧H l=some (.lst xs)∧-(2 ^ 63)≤i∧i < 2 ^ 63∧seqIndex? i xs.length=some k∧xs[k]?=some y∧Q y (upd H l (.lst (xs.eraseIdx k)))
theorem mt_popAt:MtM X "list.pop" rPopAt:=by
  intro pins s σ H x vs v us Q I rx rv h
  obtain ⟨l,xs,i,k,y,rfl,rfl,hH,h1,h2,hk,hy,q⟩:=h
  cases rx
  obtain ⟨u,rfl,ru⟩:=rv.one
  obtain ⟨t,rfl⟩:=ru
  obtain ⟨z,its,n,r,hl,e⟩:=I.lstM hH
  obtain ⟨w,hw,rw'⟩:=r.get hy
  refine call_meets F.slot_list_pop ⟨_,e,rfl⟩ F.entry_list_pop (F.args_list_pop_2 _ _)
    (MeetsSeq.list_pop_at l its.toArray n i t k w (fitsIndex_both h1 h2) (by rw [List.size_toArray,← hl];exact hk) (by rw [← Array.getElem?_toList];exact hw) (by rw [List.size_toArray];omega)) ⟨e,?_⟩
  refine ⟨y,_,I.lset (its':=its.eraseIdx k) hH e ?_ (r.eraseIdx k) ?_,rw',q⟩
  · show its.toArray.eraseIdxIfInBounds k=(its.eraseIdx k).toArray
    rw [List.eraseIdxIfInBounds_toArray]
  · have:=len_erase xs k
    omega
noncomputable def rReverse:V→List V→Hp→VK→Prop:=fun x vs H Q=>∃ l xs,x=.ref l∧vs=[]∧H l=some (.lst xs)∧Q .non (upd H l (.lst xs.reverse))
noncomputable def rClear:V→List V→Hp→VK→Prop:=fun x vs H Q=>∃ l xs,x=.ref l∧vs=[]∧H l=some (.lst xs)∧Q .non (upd H l (.lst []))
noncomputable def rCat:R2:=fun x y H Q=>∃ l b xs zs,x=.ref l∧y=.ref b∧H l=some (.lst xs)∧H b=some (.lst zs)∧xs.length + zs.length≤sizeLine∧∀ p,H p=none→Q (.ref p) (upd H p (.lst (xs ++ zs)))
theorem op_cat:OpR X (binaryOp .Add) rCat:=by
  intro pins s σ H x y v u Q I rx ry h
  obtain ⟨l,b,xs,zs,rfl,rfl,hH,hB,hz,q⟩:=h
  cases rx
  cases ry
  obtain ⟨z,its,n,r,hl,e⟩:=I.lstM hH
  obtain ⟨z2,its2,n2,r2,hl2,e2⟩:=I.lstM hB
  refine PySem.P.add_list e e2 ?_ (by rw [List.size_toArray,List.size_toArray];omega)
  have ea:its.toArray ++ its2.toArray=(its ++ its2).toArray:=by simp
  rw [ea]
  exact ⟨.ref _,_,I.lnew (t':=s.toks) (r.append r2) (by rw [List.length_append];omega),rfl,q _ I.fresh⟩
noncomputable def rRep:R2:=fun x y H Q=>∃ l k xs,x=.ref l∧y=.int k∧H l=some (.lst xs)∧-(2 ^ 63)≤k∧k < 2 ^ 63∧xs.length * k.toNat≤sizeLine ∧
  ∀ p,H p=none→Q (.ref p) (upd H p (.lst (List.replicate k.toNat xs).flatten))
theorem len_rep {α:Type} (xs:List α) (k:Nat):(List.replicate k xs).flatten.length=k * xs.length:=by
  induction k with
  | zero=>simp
  | succ k ih=>rw [List.replicate_succ,List.flatten_cons,List.length_append,ih,Nat.succ_mul,Nat.add_comm]
theorem op_rep:OpR X (binaryOp .Mult) rRep:=by
  intro pins s σ H x y v u Q I rx ry h
  obtain ⟨l,k,xs,rfl,rfl,hH,h1,h2,hz,q⟩:=h
  cases rx
  obtain ⟨t,rfl⟩:=ry
  obtain ⟨z,its,n,r,hl,e⟩:=I.lstM hH
  have hlen:its.toArray.size * k.toNat≤sizeLine:=by rw [List.size_toArray,← hl];exact hz
  have hcap:¬ its.toArray.size * k.toNat > (2 ^ 63 - 1) / 8:=by
    have:(sizeLine:Nat)≤(2 ^ 63 - 1) / 8:=by decide
    omega
  have hfit:¬ (!Builtin.List.listFitsIndex k)=true:=by
    rw [fitsIndex_both h1 h2]
    exact Bool.false_ne_true
  have hlong:¬ Builtin.List.listTooLong (its.toArray.size * k.toNat)=true:=by
    rw [notLongL hlen]
    exact Bool.false_ne_true
  have hnew:List.foldl (fun x1 x2=>x1 ++ x2) #[] (List.replicate (if its.toArray.isEmpty=true then 0 else k.toNat) its.toArray)=(List.replicate k.toNat its).flatten.toArray:=by
    have f0:∀ m:Nat,List.foldl (fun x1 x2=>x1 ++ x2) #[] (List.replicate m its.toArray)=(List.replicate m its).flatten.toArray:=fun m=>by
      have:=foldl_rep its m []
      rw [List.nil_append] at this
      exact this
    rw [f0]
    cases its with
    | nil=>simp
    | cons a r'=>rw [if_neg (by simp)]
  refine wpAny_binaryOp_repeat_ref (T:="list") (U:="int") (by decide) ⟨_,e,rfl⟩ (fun s'=>typeIs_int s' k t) noFill_list_mul F.fills_int_mul F.slot_int_rmul repeat_list F.slot_int_index.lookup
    (call_meets F.slot_int_rmul (typeIs_int s k t) F.entry_int_rmul (F.args_int_rmul_2 _ _) (int___rmul___int_list k t l its.toArray n)
      ⟨e,rfl,⟨_,e,rfl⟩,call_meets F.slot_list_mul ⟨_,e,rfl⟩ F.entry_list_mul (F.args_list_mul_2 _ _) (AutoListH.list___mul___list_int_3 l its.toArray n k t hfit hcap hlong) ⟨e,?_⟩⟩)
  rw [hnew]
  exact ⟨.ref _,_,I.lnew (t':=s.toks) (r.rep k.toNat) (by rw [len_rep,Nat.mul_comm];exact hz),rfl,q _ I.fresh⟩
end
section
variable {prog:Program} {w:World} {A:Around} {E:Value→Shared→Prop} {s:Shared}
set_option maxRecDepth 100000 in
end
section
variable {X:Cx}
end
end L2
namespace Att
open PySem PySem.W PySem.Calls PyProof.Rows
theorem ints_of_wellAll {P:Params} {h:Heap}:∀ (ns:List Int) (vs:List Value),WellAll P h vs (ns.map WData.int)→IntsAre vs ns:=by
  intro ns
  induction ns with
  | nil =>
    intro vs w
    rw [List.map_nil] at w
    cases w
    exact .nil
  | cons n ns ih =>
    intro vs w
    rw [List.map_cons] at w
    cases w with
    | cons a b =>
      cases a
      exact .cons _ _ (ih _ b)
theorem script_of {l:OpenLaw} {n:Nat} (hn:l.most=some n) {P:Params} {h:Heap} {args:List WData} {vals:List Value}
    (hpre:l.row.toRowW.claim.pre args=true) (hwl:WellAll P h vals args) :
    ∃ a vs ns,vals=[Value.ref a]∧args=[WData.list (ns.map WData.int)]∧h.get? a=some { cls:=.type "list",data:=.seq vs.toArray }∧IntsAre vs ns∧ns.length≤n:=by
  have hsh:WShape.hasAll [] args [.list .int]=true:=(pre_splitW hpre).1
  have hc:l.pre.holds [] { args:=args }=true:=(pre_splitW hpre).2
  obtain ⟨d,r,rfl,h1,h2⟩:=hasAllW_cons hsh
  obtain rfl:=hasAllW_nil h2
  obtain ⟨xs,rfl,h3⟩:=hasW_list h1
  obtain ⟨ns,rfl⟩:=items_int h3
  have hlen:ns.length≤n:=by
    unfold OpenLaw.pre at hc
    have h4:(WTm.not (.lt (.lit (.int (n:Int))) (.len (.arg 0)))).holds [] { args:=[.list (ns.map .int)] }=true:=by
      have h4:=(holds_andW hc).1
      rw [hn] at h4
      exact h4
    have h5:=condW_of h4 (w_not (w_lt w_lit (w_len_list (w_arg rfl))))
    rw [List.length_map] at h5
    refine Nat.le_of_not_lt fun q=>?_
    have q':(n:Int) < ((ns.length:Nat):Int):=by omega
    first
      | (rw [decide_eq_true q'] at h5;exact absurd h5 (by decide))
      | (simp at h5;omega)
  cases hwl with
  | cons w1 w2 =>
    cases w2
    cases w1 with
    | list ho hall=>exact ⟨_,_,ns,rfl,rfl,ho,ints_of_wellAll ns _ hall,hlen⟩
theorem post_true (l:OpenLaw) (args:List WData):l.row.toRowW.claim.post args (.bool true) args=true :=
  postW_of (r:=l.row.toRowW) (X:=(true == true))
    (show WShape.has [] (.bool true) .bool=true by first | rfl | decide | simp [WShape.has,WShape.arms,WShape.armsAll])
    (show (WTm.eq .res (.lit (.bool true))).value [] { args:=args,res:=some (.bool true),after:=args }=some (.bool (true == true)) from w_eq_bool (w_res rfl) w_lit) rfl
theorem attach_call {l:OpenLaw} {n:Nat} {q:Program} {loose:List Str} {XP:(Str→Option Value)→Heap→Prop} {YP:World→Heap→Prop} {d:DefRec}
    (hn:l.most=some n) (hdf:d.params.defaults=[])
    (call:∀ (w:World) (s₀ s₁:Shared) (mg mb:Str→Option Value) (fa:Addr) (o:Obj) (pm cd doc:Value) (a:Addr) (vs:List Value) (ns:List Int),
      Ground q loose [] XP w s₀ mg mb s₁.heap→YP w s₁.heap →
      s₁.heap.get? fa=some o→o.data=.func (docDef d.name d.params d.body d.scope pm cd doc)→s₁.heap.CodeRec cd d.name→mg d.name=some (.ref fa) →
      s₁.heap.get? a=some { cls:=.type "list",data:=.seq vs.toArray }→IntsAre vs ns→ns.length≤n→s₁.gens=#[] →
      codeAny (model l.prog w) callerA (.call (.ref fa) ⟨[.ref a],[]⟩) (fun r s'=>r=.ok (.ret (.bool true))∧OldK s₁.heap s'.heap∧s'.os=s₁.os∧AllBare s'.gens) s₁) :
    WalkO q loose XP YP l.row.toRowW d [] (fun f vs=>PySem.call f vs):=by
  intro w s₀ s₁ mg mb G Y fa o pm cd doc dV kV ho hd hcd hD hmg hg args vals as hpre hlay hrd hwl hlo
  obtain rfl:dV=.none:=Dflts.none hD hdf
  obtain rfl:kV=.none:=Dflts.noKw hD
  obtain ⟨a,vs,ns,rfl,rfl,hobj,hints,hlen⟩:=script_of hn hpre hwl
  refine enter_call (codeAny_mono (call w s₀ s₁ mg mb fa o pm cd doc a vs ns G Y ho (fd_plain hd) hcd hmg hobj hints hlen hg) fun r s' hq=>?_)
  obtain ⟨rfl,h2,h3,h4⟩:=hq
  exact ⟨.inl ⟨.bool true,.bool true,[],rfl,fun _=>rfl,.bool true,post_true l _,fun _=>⟨List.Pairwise.nil,fun _ hm=>(nomatch hm)⟩⟩,h2,h3,h4⟩
section
variable {prog:Program} {w:World} {A:Around} {E:Value→Shared→Prop} {s:Shared} {K:Frag}
noncomputable def noObjs (h:Heap):Heap:={ h with objs:=#[] }
noncomputable def ledger (h:Heap) (L d:Addr):List (Addr×Obj):=(List.range h.objs.size).filterMap fun a=>if a=L∨a=d then none else (h.get? a).map fun o=>(a,o)
end
end Att
namespace L2
open PySem PySem.Spec PyProof.Rows
theorem vals_ints:∀ {vs:List Value} {ns:List Int},IntsAre vs ns→Vals (ns.map V.int) vs
  | _,_,.nil=>.nil
  | _,_,.cons n t h=>.cons ⟨t,rfl⟩ (vals_ints h)
noncomputable def Only (H:Hp):Prop:=∀ b,H b=none∨∃ o xs,H b=some (.frz o (.lst xs))
theorem law_call {P:Program} {w:World} {K:PySem.W.Frag} {mg mb:Str→Option Value} {CX:CXT} {k:Nat} {fa a:Addr} {fd:FuncData} {x:Str} {sp:Sp} {s₁:Shared} {vs:List Value} {ns:List Int}
    (KX:K.In s₁.heap) (hns:s₁.heap.Ns mainGlobals mg) (hb:s₁.heap.Ns builtinsNs mb) (hbb:∀ x:Str,x≠"__name__"→mb x=bootBuiltins x) (hlim:s₁.heap.NoLimit) (hg:s₁.gens=#[])
    (ha:s₁.heap.get? a=some { cls:=.type "list",data:=.seq vs.toArray }) (hi:IntsAre vs ns) (hl:ns.length≤sizeLine) (hr:Room k callerA)
    (F:∀ base:Heap,K.In base→base.Ns mainGlobals mg→FnOk P w K mg base CX k fa fd [x] sp) (hbind:∀ (s:Shared) (u:Value),BindsTo s fd ⟨[u],[]⟩ [(x,u)])
    (hsp:∀ H:Hp,Only H→SqL K H a (ns.map V.int)→sp [.ref a] H (fun v _=>v=.bl true) fun _ _ _=>False)
    (hCX:∀ H e s',CX [] H s₁ (fun _ _ _=>False) e s'→False) :
    codeAny (model P w) callerA (.call (.ref fa) ⟨[.ref a],[]⟩) (fun r s'=>r=.ok (.ret (.bool true))∧OldK s₁.heap s'.heap∧s'.os=s₁.os∧AllBare s'.gens) s₁:=by
  have rv:=vals_ints hi
  have lenV:=hi.length
  -- from an abstract heap in which nothing but the script may be tracked
  have core:∀ H:Hp,Only H→SqL K H a (ns.map V.int)→HOk P w H s₁.heap→(∀ b,H b≠none→b=a)→(H a≠none→K.lookup a=none) →
      codeAny (model P w) callerA (.call (.ref fa) ⟨[.ref a],[]⟩) (fun r s'=>r=.ok (.ret (.bool true))∧OldK s₁.heap s'.heap∧s'.os=s₁.os∧AllBare s'.gens) s₁:=by
    intro H hO hS hok hA hK
    have base_of:∀ {b:Addr} {o:Obj},s₁.heap.get? b=some o→H b=none→(hidT s₁.heap H).get? b=some o:=fun e n=>hidT_get e n
    have noA:∀ {b:Addr} {o:Obj} {es:Array DictEntry} {ep:Nat},s₁.heap.get? b=some o→o.data=.dict es ep→H b=none:=fun {b o es ep} e d=>by
      cases q:H b with
      | none=>rfl
      | some u =>
        have e':b=a:=hA b (by rw [q];simp)
        subst e'
        rw [ha] at e;cases e
        have d':Data.seq vs.toArray _=Data.dict es ep:=d
        cases d'
    have nsK:∀ {b:Addr} {m:Str→Option Value},s₁.heap.Ns b m→(hidT s₁.heap H).Ns b m:=fun {b m} ⟨o,es,ep,e,d,r⟩=>⟨o,es,ep,base_of e (noA e d),d,r⟩
    have hKb:K.In (hidT s₁.heap H):=fun b o e=>base_of (KX b o e) (by
      cases q:H b with
      | none=>rfl
      | some u =>
        have e':b=a:=hA b (by rw [q];simp)
        subst e'
        rw [hK (by rw [q];simp)] at e;cases e)
    have hM:Mod K mg (hidT s₁.heap H):=⟨hKb,nsK hns,⟨mb,nsK hb,hbb⟩,let ⟨mc,h1,h2⟩:=hlim;⟨mc,nsK h1,h2⟩⟩
    have e0:Env0 P w K mg (hidT s₁.heap H) callerA [] s₁ H:=⟨rfl,hM,fun b o e=>of_hidT e,Nat.le_of_eq (hidT_size _ _),trivial,fun b hb=>absurd (show b∈([]:List Addr) from hb) (by simp),hok,.of_eq hg⟩
    refine codeAny_mono ((F _ hKb (nsK hns)).run callerA [] s₁ H ⟨[.ref a],[]⟩ [.ref a] [.ref a] _ _ hr e0 (hbind s₁ (.ref a)) (.cons rfl .nil) (hsp H hO hS)) fun r s' h=>?_
    cases r with
    | error e=>exact (hCX H e s' h).elim
    | ok fl =>
      cases fl with
      | next=>exact False.elim h
      | brk=>exact False.elim h
      | cont=>exact False.elim h
      | ret u =>
        obtain ⟨v,H',os,bare,un,hok',r',q⟩:=h
        have q':v=.bl true:=q
        subst q'
        obtain rfl:u=Value.bool true:=r'
        refine ⟨rfl,OldK.of_keep fun b o e=>?_,os,bare⟩
        cases q:H b with
        | none=>exact un.keep b o e q (by intro z;exact absurd (show b∈([]:List Addr) from z) (by simp)) (by simp)
        | some u =>
          rcases hO b with z | ⟨ob,xs,z⟩
          · rw [q] at z;cases z
          · have z2:=un.frzs b ob _ z
            obtain ⟨e1,_⟩:=hok b _ z
            obtain ⟨e2,_⟩:=hok' b _ z2
            rw [e] at e1;cases e1
            exact e2
  cases hk:K.lookup a with
  | some o =>
    -- the script is one of the module's own objects
    have e:=KX a o hk
    rw [ha] at e
    cases e
    refine core (fun _=>none) (fun _=>.inl rfl) (.inr ⟨_,vs.toArray,_,hk,rfl,rfl,rfl,by rw [List.size_toArray,lenV];exact hl,by simpa using rv⟩) (fun b u z=>by have z':(none:Option HO)=some u:=z;cases z') (fun b z=>absurd rfl z) fun z=>absurd rfl z
  | none =>
    refine core (fun b=>if b=a then some (.frz { cls:=.type "list",data:=.seq vs.toArray } (.lst (ns.map V.int))) else none) (fun b=>?_) (.inl (.inr ⟨{ cls:=.type "list",data:=.seq vs.toArray },if_pos rfl⟩)) (fun b u z=>?_) (fun b z=>?_) fun _=>hk
    · by_cases hb:b=a
      · exact .inr ⟨_,_,if_pos hb⟩
      · exact .inl (if_neg hb)
    · by_cases hb:b=a
      · have z':=(if_pos hb).symm.trans z
        cases z'
        subst hb
        exact ⟨ha,by rw [List.length_map];exact hl,vs,_,rv,ha⟩
      · have z':=(if_neg hb).symm.trans z
        cases z'
    · by_cases hb:b=a
      · exact hb
      · exact absurd (if_neg hb) z
end L2
namespace L2
open PySem PySem.Spec PyProof.Rows
noncomputable abbrev KOf {K:PySem.W.Frag} {h:Heap} (_:K.In h):PySem.W.Frag:=K
theorem walk_of {l:PySem.W.OpenLaw} {n k:Nat} {q:Program} {loose:List Str} {XP:(Str→Option Value)→Heap→Prop} {YP:World→Heap→Prop} {d:DefRec} {K:Params→PySem.W.Frag} {CX:World→CXT} {sp:World→Sp} {x:Str}
    (hn:l.most=some n) (hn2:n≤sizeLine) (hdf:d.params.defaults=[]) (hr:Room k callerA)
    (hY:∀ (w:World) (h:Heap),YP w h→(K w.params).In h)
    (F:∀ (w:World) (mg:Str→Option Value) (fa:Addr) (h:Heap),(K w.params).In h→h.Ns mainGlobals mg→mg d.name=some (.ref fa) →
      ∃ fd:FuncData,(∀ (s:Shared) (u:Value),BindsTo s fd ⟨[u],[]⟩ [(x,u)]) ∧
        ∀ base:Heap,(K w.params).In base→base.Ns mainGlobals mg→FnOk l.prog w (K w.params) mg base (CX w) k fa fd [x] (sp w))
    (hsp:∀ (w:World) (H:Hp) (a:Addr) (ns:List Int),ns.length≤n→Only H→SqL (K w.params) H a (ns.map V.int)→sp w [.ref a] H (fun v _=>v=.bl true) fun _ _ _=>False)
    (hCX:∀ (w:World) (H:Hp) (s:Shared) (e:Value) (s':Shared),CX w [] H s (fun _ _ _=>False) e s'→False) :
    PySem.W.WalkO q loose XP YP l.row.toRowW d [] (fun f vs=>PySem.call f vs):=by
  refine Att.attach_call hn hdf fun w s₀ s₁ mg mb fa o pm cd doc a vs ns G Y ho hd hcd hmg hobj hints hlen hg=>?_
  have KX:=hY w _ Y
  obtain ⟨fd,hb,hF⟩:=F w mg fa _ KX G.T.g hmg
  exact law_call KX G.T.g G.T.b G.T.builtins G.T.nolimit hg hobj hints (Nat.le_trans hlen hn2) hr hF hb (fun H hO hS=>hsp w H a ns hlen hO hS) fun H e s'=>hCX w H s₁ e s'
end L2
/- THE LAST THEOREM (shape; LID, My.* are yours):
   My.Adr: a structure of the addresses that your layer names (classes,functions);My.Txt K t: a structure (Prop) of the equations over K;
   My.txt_mk:{K} {implicit addresses ..} (e1:nsIn K mainGlobals "law"=some (some (.ref f))) (e2:K.lookup f=some ⟨oc,od,.func (fnOf "law" "law" params body scope dV kV doc pm an cdv ct),sl⟩) (e3:codeIn K cdv "law"=true) ..:∃ t,My.Txt K t
set_option maxRecDepth 100000 in
set_option maxHeartbeats 0 in
theorem PySem.Challenge.cw_LID_holds : PySem.Challenge.rw_LID.Holds := by
  w_on;o_law;k_head;(case hw=>w_witness2)
  k_fill
  refine L2.walk_of (l:=PySem.Challenge.rw_LID) (n:=63) (k:=40) (x:="script") (CX:=fun w=>..) (sp:=fun _=>My.sp_law) rfl (by decide) rfl ⟨rfl,by decide,by decide⟩ (fun w h Y=>PySem.W.kIn_of Y) ?F ?S ?C
  case F =>
    intro w mg fa h KX G hmg
    have T:∃ t,My.Txt (L2.KOf KX) t:=by
      dsimp only [L2.KOf]                          -- K must stand as «<heap const> w.params» for k_is
      refine' My.txt_mk ?e1 ?e2 ?e3 ..
      (case e1 => PySem.W.k_is)                    -- in the order: a name -> its address -> its object -> its parts
      (case e2=>PySem.W.k_is)
      ..
    obtain ⟨t,T⟩:=T
    have e0:=hmg.symm.trans (PySem.W.mg_of KX G T.law)
    cases e0                                       -- fa is the law's own address
    exact ⟨_, fun s u => .of_eq rfl, fun base kb nb => My.law_fn T kb nb⟩     -- if «.of_eq rfl» comes too early: refine' ⟨_, ?b, fun base kb nb => My.law_fn T kb nb⟩; exact fun s u => .of_eq rfl
  case S=>exact fun w H a ns hl hO hS=>..
  case C=>exact ..
(the tactic k_is has no namespace: write k_is) -/
namespace L2
open PySem PySem.Spec PyProof.Rows
noncomputable def inClass (s:Stmt) (j:Nat):Stmt:=match s with
  | .ClassDef _ _ _ body _ _ _ _ _ _ _=>body.getD j (.Pass ⟨0,0,0,0⟩)
  | _=>.Pass ⟨0,0,0,0⟩
noncomputable def defArgs (s:Stmt):Arguments:=match s with
  | .FunctionDef _ a _ _ _ _ _ _ _ _=>a
  | _=>{ posonlyargs:=[],args:=[],vararg:=none,kwonlyargs:=[],kw_defaults:=[],kwarg:=none,defaults:=[] }
noncomputable def defBody (s:Stmt):List Stmt:=match s with
  | .FunctionDef _ _ b _ _ _ _ _ _ _=>b
  | _=>[]
noncomputable def defScope (s:Stmt):Scope:=match s with
  | .FunctionDef _ _ _ _ _ _ sc _ _ _=>sc
  | _=>{ kind:=.function,names:=[],isGenerator:=false,isCoroutine:=false }
noncomputable abbrev CX0:CXT:=fun _ _ _ _ _ _=>False
noncomputable abbrev E0:XK:=fun _ _ _=>False
theorem pass0 {X:Cx}:Passes CX0 X E0:=fun _ _ _ _ _ _ _ h=>h.elim
structure Fun (K:PySem.W.Frag) (x qual:Str) (st:Stmt) (f:Addr) (fd:FuncData):Prop where
  ex:∃ (oc:Value) (od:Option Addr) (kV doc pm:Value) (an:Option Addr) (cdv ct:Value) (osl:Array (Option Value)),
    fd=PySem.W.fnOf x qual (defArgs st) (defBody st) (defScope st) .none kV doc pm an cdv ct∧K.lookup f=some ⟨oc,od,.func fd,osl⟩∧PySem.W.codeIn K cdv qual=true
  kp:PySem.W.keepIn K (.ref f)=true
section
variable {P:Program} {w:World} {K:PySem.W.Frag} {mg:Str→Option Value} {base:Heap}
theorem Fun.ok {x qual:Str} {st:Stmt} {f:Addr} {fd:FuncData} {N ps:List Str} {k:Nat} {sp:Sp} (F:Fun K x qual st f fd) (S:FnScope N ps (defScope st)) (len:∀ vs H Q E,sp vs H Q E→vs.length=ps.length)
    (hbody:∀ (cdv:Value) (A:Around) (outer:List Env) (s:Shared) (H:Hp) (vs:List V) (Q:VK) (E:XK),Room k (A.deeper (envOfC qual (defScope st) s.heap.objs.size f cdv))→sp vs H Q E →
      ∃ t,PSs (cxOf CX0 P w K mg base N qual (defScope st) f cdv A outer s H E).nox (defBody st) t∧t { nx:=fun _ H'=>Q .non H',rt:=Q } (start N vs) H):FnOk P w K mg base CX0 (k + 1) f fd ps sp:=by
  obtain ⟨oc,od,kV,doc,pm,an,cdv,ct,osl,rfl,lk,hcd⟩:=F.ex
  refine fn_of lk hcd S len fun A outer s H vs Q E hr hsp=>?_
  obtain ⟨t,h,q⟩:=hbody cdv A outer s H vs Q E hr hsp
  exact ⟨t,h.nox,q⟩
theorem Fun.binds {x qual:Str} {st:Stmt} {f:Addr} {fd:FuncData} {ps:List Str} (F:Fun K x qual st f fd)
    (h:∀ (kV doc pm:Value) (an:Option Addr) (cdv ct:Value) (us:List Value),us.length=ps.length→bindArgs (PySem.W.fnOf x qual (defArgs st) (defBody st) (defScope st) .none kV doc pm an cdv ct) ⟨us,[]⟩=pure (ps.zip us)):Binds K fd ps []:=by
  obtain ⟨oc,od,kV,doc,pm,an,cdv,ct,osl,rfl,lk,hcd⟩:=F.ex
  exact .all (h kV doc pm an cdv ct)
theorem fun_mk {x qual:Str} {st:Stmt} {f:Addr} {oc:Value} {od an:Option Addr} {osl:Array (Option Value)} {kV doc pm cdv ct:Value} (l:K.lookup f=some ⟨oc,od,.func (PySem.W.fnOf x qual (defArgs st) (defBody st) (defScope st) .none kV doc pm an cdv ct),osl⟩)
    (c:PySem.W.codeIn K cdv qual=true) (k:PySem.W.keepIn K (.ref f)=true):Fun K x qual st f (PySem.W.fnOf x qual (defArgs st) (defBody st) (defScope st) .none kV doc pm an cdv ct):=⟨⟨oc,od,kV,doc,pm,an,cdv,ct,osl,rfl,l,c⟩,k⟩
end
theorem small1000 {n:Nat} (h:n≤1000):n < sizeLine:=Nat.lt_of_le_of_lt h (by decide)
section
variable {X:Cx}
theorem pv (i:Nat) {x:Str} {pos:Pos} (hN:X.N[i]?=some x:=by rfl) (hv:Vis X.env.scope x:=by first | exact Or.inl rfl | exact Or.inr (Or.inl rfl) | exact Or.inr (Or.inr rfl)) (hd:(x == ("__debug__":Str))=false:=by decide)
    (hcd:(x == ("__classdict__":Str))=false:=by decide):PE X (.Name x pos) (tVar i):=pe_var hN hv hd hcd
end
theorem iteF {A B:Prop} (h:B):if false=true then A else B:=by
  rw [if_neg Bool.false_ne_true]
  exact h
theorem iteT {A B:Prop} (h:A):if true=true then A else B:=by
  rw [if_pos rfl]
  exact h
theorem ite2 {c A B:Prop} [Decidable c] (h1:c→A) (h2:¬ c→B):if c then A else B:=by
  by_cases h:c
  · rw [if_pos h]
    exact h1 h
  · rw [if_neg h]
    exact h2 h
theorem iteNS {c A B:Prop} [Decidable c] (hc:c) (h:B):if (!decide c)=true then A else B:=by
  rw [decide_eq_true hc]
  exact iteF h
noncomputable def Same (H H':Hp):Prop:=∀ b o,H b=some o→H' b=some o
theorem Same.refl (H:Hp):Same H H:=fun _ _ h=>h
theorem Same.trans {H H1 H2:Hp} (a:Same H H1) (b:Same H1 H2):Same H H2:=fun c o h=>b c o (a c o h)
theorem Same.free {H H':Hp} (e:Same H H') {l:Addr} (h:H' l=Option.none):H l=Option.none:=by
  cases q:H l with
  | none=>rfl
  | some o =>
    rw [e l o q] at h
    cases h
theorem Same.seq {K:PySem.W.Frag} {H H':Hp} {a:Addr} {xs:List V} (e:Same H H') (h:SqL K H a xs):SqL K H' a xs:=by
  rcases h with (h | ⟨o,h⟩) | h
  · exact .inl (.inl (e _ _ h))
  · exact .inl (.inr ⟨o,e _ _ h⟩)
  · exact .inr h
end L2
set_option maxHeartbeats 4000000
namespace L2
open PySem PySem.Spec PyProof.Rows
section
variable {κ:Type} [DecidableEq κ]
noncomputable def valV (kvs:List (κ×V)) (k:κ):Option V:=(kvs.find? fun kv=>decide (kv.1=k)).map (·.2)
noncomputable def putK (kvs:List (κ×V)) (k:κ) (v:V):List (κ×V) :=
  if (kvs.any fun kv=>decide (kv.1=k))=true then kvs.map (fun kv=>if kv.1=k then (kv.1,v) else kv) else kvs ++ [(k,v)]
noncomputable def dropK (kvs:List (κ×V)) (k:κ):List (κ×V):=kvs.filter fun kv=>decide (kv.1≠k)
theorem valV_pos {p:κ×V} {r:List (κ×V)} {k:κ} (e:p.1=k):valV (p :: r) k=some p.2:=by simp [valV,List.find?_cons,e]
theorem valV_neg {p:κ×V} {r:List (κ×V)} {k:κ} (e:¬ p.1=k):valV (p :: r) k=valV r k:=by simp [valV,List.find?_cons,e]
theorem valV_any (k:κ):∀ kvs:List (κ×V),(kvs.any fun kv=>decide (kv.1=k))=(valV kvs k).isSome
  | []=>rfl
  | p :: r=>by
    rw [List.any_cons]
    by_cases e:p.1=k
    · simp only [valV_pos e,decide_eq_true e,Bool.true_or,Option.isSome_some]
    · rw [valV_neg e,decide_eq_false e,Bool.false_or];exact valV_any k r
theorem length_putK (kvs:List (κ×V)) (k:κ) (v:V):(putK kvs k v).length≤kvs.length + 1:=by
  unfold putK
  split
  · rw [List.length_map];omega
  · rw [List.length_append,List.length_cons,List.length_nil];omega
theorem RelO.isSome_eq {o:Option V} {u:Option Value} (r:RelO o u):o.isSome=u.isSome:=by
  cases o with
  | none=>cases u with
    | none=>rfl
    | some _=>exact (show False from r).elim
  | some _=>cases u with
    | none=>exact (show False from r).elim
    | some _=>rfl
theorem KV.val {kvs:List (κ×V)} {vs:List (κ×Value)} (r:KV kvs vs) (k:κ):RelO (valV kvs k) (valueAt vs k):=by
  unfold KV at r
  induction r with
  | nil=>exact True.intro
  | @cons p q ps qs h t ih =>
    obtain ⟨h1,h2⟩:=h
    by_cases e:p.1=k
    · have e':q.1=k:=h1.symm.trans e
      have b:valueAt (q :: qs) k=some q.2:=by simp [valueAt,List.find?_cons,e']
      rw [valV_pos e,b];exact h2
    · have e':¬ q.1=k:=fun z=>e (h1.trans z)
      have b:valueAt (q :: qs) k=valueAt qs k:=by simp [valueAt,List.find?_cons,e']
      rw [valV_neg e,b];exact ih
theorem KV.any {kvs:List (κ×V)} {vs:List (κ×Value)} (r:KV kvs vs) (k:κ):(kvs.any fun kv=>decide (kv.1=k))=vs.any fun kv=>decide (kv.1=k):=by
  unfold KV at r
  induction r with
  | nil=>rfl
  | cons h t ih=>rw [List.any_cons,List.any_cons,ih,h.1]
theorem KV.repl {kvs:List (κ×V)} {vs:List (κ×Value)} (r:KV kvs vs) (k:κ) {y:V} {u:Value} (ry:RelV y u) :
    KV (kvs.map fun kv=>if kv.1=k then (kv.1,y) else kv) (vs.map fun kv=>if kv.1=k then (kv.1,u) else kv):=by
  unfold KV at r ⊢
  induction r with
  | nil=>exact .nil
  | @cons p q ps qs h t ih =>
    rw [List.map_cons,List.map_cons]
    refine .cons ?_ ih
    obtain ⟨h1,h2⟩:=h
    by_cases e:p.1=k
    · rw [if_pos e,if_pos (h1.symm.trans e)];exact ⟨h1,ry⟩
    · rw [if_neg e,if_neg (fun z=>e (h1.trans z))];exact ⟨h1,h2⟩
theorem KV.put {kvs:List (κ×V)} {vs:List (κ×Value)} (r:KV kvs vs) (k:κ) {y:V} {u:Value} (ry:RelV y u):KV (putK kvs k y) (stored vs k u):=by
  unfold putK stored
  rw [r.any k]
  by_cases e:(vs.any fun kv=>decide (kv.1=k))=true
  · rw [if_pos e,if_pos e];exact r.repl k ry
  · rw [if_neg e,if_neg e];exact Paired.snoc r ⟨rfl,ry⟩
theorem KV.keys {kvs:List (κ×V)} {vs:List (κ×Value)} (r:KV kvs vs):kvs.map (·.1)=vs.map (·.1):=by
  unfold KV at r
  induction r with
  | nil=>rfl
  | cons h t ih=>rw [List.map_cons,List.map_cons,ih,h.1]
theorem KV.length {kvs:List (κ×V)} {vs:List (κ×Value)} (r:KV kvs vs):kvs.length=vs.length:=Paired.length r
end
theorem kV_is {P:Program} {w:World} {k:Key} {u:Value} (r:RelV (kV k) u):(mixKind P w).is k u=true:=by
  cases k with
  | inl i=>obtain ⟨t,e⟩:=(show ∃ t,u=Value.int i t from r);subst e;exact mixKind_int P w i t
  | inr x=>obtain ⟨t,e⟩:=(show ∃ t,u=Value.str x t from r);subst e;exact mixKind_str P w x t
theorem items_are {P:Program} {w:World}:∀ {ks:List Key} {us:List Value},Vals (ks.map kV) us→ItemsAre (mixKind P w) ks us
  | [],_,r=>by rw [List.map_nil] at r;cases r;exact .nil
  | k :: ks,_,r=>by
    rw [List.map_cons] at r
    cases r with
    | cons h t=>exact .cons (kV_is h) (items_are t)
noncomputable abbrev KT (H:Hp):List (List Key×V)→List (List Key×Addr×Value)→Prop:=Paired fun p q=>p.1=q.1∧H q.2.1=some (.tup (p.1.map kV))∧RelV p.2 q.2.2
theorem KT.val {H:Hp} {kvs:List (List Key×V)} {xs:List (List Key×Addr×Value)} (r:KT H kvs xs) (k:List Key):RelO (valV kvs k) ((atKey xs k).map (·.2)):=by
  induction r with
  | nil=>exact True.intro
  | @cons p q ps qs h t ih =>
    obtain ⟨h1,_,h2⟩:=h
    by_cases e:p.1=k
    · have e':q.1=k:=h1.symm.trans e
      have b:atKey (q :: qs) k=some q.2:=by simp [atKey,List.find?_cons,e']
      rw [valV_pos e,b];exact h2
    · have e':¬ q.1=k:=fun z=>e (h1.trans z)
      have b:atKey (q :: qs) k=atKey qs k:=by simp [atKey,List.find?_cons,e']
      rw [valV_neg e,b];exact ih
theorem KT.repl {H:Hp} {kvs:List (List Key×V)} {xs:List (List Key×Addr×Value)} (r:KT H kvs xs) (k:List Key) {y:V} {u:Value} (ry:RelV y u) :
    KT H (kvs.map fun kv=>if kv.1=k then (kv.1,y) else kv) (xs.map (putAt k u)):=by
  induction r with
  | nil=>exact .nil
  | @cons p q ps qs h t ih =>
    rw [List.map_cons,List.map_cons]
    refine .cons ?_ ih
    obtain ⟨h1,h2,h3⟩:=h
    unfold putAt
    by_cases e:p.1=k
    · rw [if_pos e,if_pos (h1.symm.trans e)];exact ⟨h1,h2,ry⟩
    · rw [if_neg e,if_neg (fun z=>e (h1.trans z))];exact ⟨h1,h2,h3⟩
theorem KT.put {H:Hp} {kvs:List (List Key×V)} {xs:List (List Key×Addr×Value)} (r:KT H kvs xs) (k:List Key) {b:Addr} {y:V} {u:Value} (hb:H b=some (.tup (k.map kV))) (ry:RelV y u) :
    KT H (putK kvs k y) (storedH xs k b u):=by
  have e:(kvs.any fun kv=>decide (kv.1=k))=(atKey xs k).isSome:=by
    rw [valV_any,(r.val k).isSome_eq,Option.isSome_map]
  unfold putK storedH
  rw [e]
  by_cases q:(atKey xs k).isSome=true
  · rw [if_pos q,if_pos q];exact r.repl k ry
  · rw [if_neg q,if_neg q];exact Paired.snoc r ⟨rfl,hb,ry⟩
theorem KT.keeps {H H':Hp} {kvs:List (List Key×V)} {xs:List (List Key×Addr×Value)} (r:KT H kvs xs) (ht:∀ b ys,H b=some (.tup ys)→H' b=some (.tup ys)):KT H' kvs xs :=
  Paired.mapP r fun _ _ z=>⟨z.1,ht _ _ z.2.1,z.2.2⟩
section
variable {P:Program} {w:World} {H:Hp} {h:Heap} {a:Addr}
theorem rd_of {u:HO} (ok:HOk P w H h) (e:Rd H a u):ObjOk P w H h a u:=e.ok ok
theorem dk_rd {kvs:List (Key×V)} (ok:HOk P w H h) (e:Rd H a (.dK kvs)):kvs.length≤sizeLine∧(a == sysModules)=false∧∃ vs,KV kvs vs∧h.DictOf (mixKind P w) a vs :=
  show ObjOk P w H h a (.dK kvs) from rd_of ok e
theorem dk_of {kvs:List (Key×V)} (ok:HOk P w H h) (e:H a=some (.dK kvs)):kvs.length≤sizeLine∧(a == sysModules)=false∧∃ vs,KV kvs vs∧h.DictOf (mixKind P w) a vs:=dk_rd ok (.inl e)
theorem key_of {ks:List Key} (ok:HOk P w H h) (e:H a=some (.tup (ks.map kV))):(tupleKind (mixKind P w)).is h ks a:=by
  obtain ⟨_,its,r,o,h1,h2,n,h3⟩:=(show ObjOk P w H h a (.tup (ks.map kV)) from ok a _ e)
  exact ⟨o,its.toArray,n,h1,h2,h3,by simpa using items_are r⟩
theorem dt_rd {kvs:List (List Key×V)} (ok:HOk P w H h) (e:Rd H a (.dT kvs)):kvs.length≤sizeLine∧(a == sysModules)=false ∧
    ∃ xs,KT H kvs xs∧h.DictOfH (tupleKind (mixKind P w)) a xs:=by
  obtain ⟨z,y,xs,r,o,es,ep,h1,h2,h3,h4,h5⟩:=(show ObjOk P w H h a (.dT kvs) from rd_of ok e)
  refine ⟨z,y,xs,r,o,es,ep,h1,h2,h3,h4,fun x hx=>?_,h5⟩
  have all:∀ {l:List (List Key×V)} {m:List (List Key×Addr×Value)},KT H l m→∀ x∈m,(tupleKind (mixKind P w)).is h x.1 x.2.1:=by
    intro l m q
    induction q with
    | nil=>intro x hx;exact nomatch hx
    | @cons p q ps qs hq t ih =>
      intro x hx
      rcases List.mem_cons.mp hx with e | hx
      · subst e
        exact key_of ok (by rw [← hq.1];exact hq.2.1)
      · exact ih x hx
  exact all r x hx
theorem dt_of {kvs:List (List Key×V)} (ok:HOk P w H h) (e:H a=some (.dT kvs)):kvs.length≤sizeLine∧(a == sysModules)=false ∧
    ∃ xs,KT H kvs xs∧h.DictOfH (tupleKind (mixKind P w)) a xs:=dt_rd ok (.inl e)
end
noncomputable def DGet (H:Hp) (a:Addr) (y:V) (r:Option V):Prop :=
  (∃ kvs k,Rd H a (.dK kvs)∧y=kV k∧r=valV kvs k)∨∃ kvs k b,Rd H a (.dT kvs)∧y=.ref b∧H b=some (.tup (k.map kV))∧r=valV kvs k
noncomputable def DPut (H:Hp) (a:Addr) (y v:V) (H':Hp):Prop :=
  (∃ kvs k,H a=some (.dK kvs)∧y=kV k∧kvs.length < sizeLine∧H'=upd H a (.dK (putK kvs k v))) ∨
  ∃ kvs k b,H a=some (.dT kvs)∧y=.ref b∧H b=some (.tup (k.map kV))∧kvs.length < sizeLine∧H'=upd H a (.dT (putK kvs k v))
theorem DGet.k {H:Hp} {a:Addr} {kvs:List (Key×V)} {k:Key} (e:H a=some (.dK kvs)):DGet H a (kV k) (valV kvs k):=.inl ⟨kvs,k,.inl e,rfl,rfl⟩
theorem DPut.k {H:Hp} {a:Addr} {kvs:List (Key×V)} {k:Key} {v:V} (e:H a=some (.dK kvs)) (hl:kvs.length < sizeLine):DPut H a (kV k) v (upd H a (.dK (putK kvs k v))):=.inl ⟨kvs,k,e,rfl,hl,rfl⟩
section
variable {X:Cx} {pins:List (Addr×Obj)} {σ:St} {H:Hp} {s:Shared} {a:Addr} {y v:V} {u r:Value} {o:Option V} {A:Around} {E:Value→Shared→Prop}
theorem Inv.big (I:Inv X pins σ H s):sysModules < s.heap.objs.size:=by
  have h:mainGlobals < s.heap.objs.size:=(I.mod.glob.keeps I.bk).lt
  exact Nat.lt_trans (by decide) h
theorem d_getItem {Q:Value→Shared→Prop} (hu:A.units + 1 < cLine) (I:Inv X pins σ H s) (g:DGet H a y (some v)) (ry:RelV y u) (h:∀ w' s',Inv X pins σ H s'→RelV v w'→Q w' s') :
    wpAny (model X.prog X.w) A (getItem (.ref a) u) Q E s:=by
  rcases g with ⟨kvs,k,e,ey,l⟩ | ⟨kvs,k,b,e,ey,eb,l⟩
  · subst ey
    obtain ⟨z,hd,vs,rel,dd⟩:=dk_rd I.hok e
    obtain ⟨w',hw,rw'⟩:=RelO.some_of (v:=v) (o:=valueAt vs k) (by rw [l];exact rel.val k)
    exact wpAny_getItem_of (kV_is ry) dd.mapOf hw (h w' _ (I.tok _) rw')
  · subst ey
    cases (show u=Value.ref b from ry)
    obtain ⟨z,hd,xs,rel,dd⟩:=dt_rd I.hok e
    obtain ⟨w',hw,rw'⟩:=RelO.some_of (v:=v) (o:=(atKey xs k).map (·.2)) (by rw [l];exact rel.val k)
    obtain ⟨p,hp,hp2⟩:=Option.map_eq_some_iff.mp hw
    refine wpAny_getItem_heap (tupleKind_room_in1 hu) (key_of I.hok eb) dd hp ?_
    rw [hp2]
    exact h w' _ (I.tok _) rw'
theorem d_notIn {Q:Value→Shared→Prop} (hu:A.units + 1 < cLine) (I:Inv X pins σ H s) (g:DGet H a y o) (ry:RelV y u) (h:∀ s',Inv X pins σ H s'→Q (.bool (!o.isSome)) s') :
    wpAny (model X.prog X.w) A (compareOp .NotIn u (.ref a)) Q E s:=by
  rcases g with ⟨kvs,k,e,ey,l⟩ | ⟨kvs,k,b,e,ey,eb,l⟩
  · subst ey
    obtain ⟨z,hd,vs,rel,dd⟩:=dk_rd I.hok e
    refine wpAny_notIn_of (kV_is ry) hd dd.mapOf ?_
    rw [← (rel.val k).isSome_eq,← l]
    exact h _ (I.tok _)
  · subst ey
    cases (show u=Value.ref b from ry)
    obtain ⟨z,hd,xs,rel,dd⟩:=dt_rd I.hok e
    refine wpAny_notIn_heap (tupleKind_room_in1 hu) (key_of I.hok eb) hd dd ?_
    have q:=(rel.val k).isSome_eq
    rw [Option.isSome_map] at q
    rw [← q,← l]
    exact h _ (I.tok _)
theorem d_write {h':Heap} {t':Nat} {ob:HO} (I:Inv X pins σ H s) (mu:Mut (H a)) (hs:Heap.SameBut a s.heap h') (he:∃ q,h'.get? a=some q) (new:ObjOk X.prog X.w (upd H a ob) h' a ob) :
    Inv X pins σ (upd H a ob) { s with heap:=h',toks:=t' } :=
  I.write (x:=a) (e:=a) mu (.inl rfl) (fun b q hb z=>(hs.2 b hb).trans z) he new
theorem dk_new {P:Program} {w:World} {H':Hp} {h':Heap} {kvs:List (Key×V)} {vs:List (Key×Value)} (z:kvs.length≤sizeLine) (hd:(a == sysModules)=false) (rel:KV kvs vs) (dd:h'.DictOf (mixKind P w) a vs) :
    ObjOk P w H' h' a (.dK kvs):=⟨z,hd,vs,rel,dd⟩
theorem d_setItem {H':Hp} {Q:Unit→Shared→Prop} (hu:A.units + 1 < cLine) (I:Inv X pins σ H s) (g:DPut H a y v H') (ry:RelV y u) (rv:RelV v r) (h:∀ s',Inv X pins σ H' s'→Q () s') :
    wpAny (model X.prog X.w) A (setItem (.ref a) u r) Q E s:=by
  rcases g with ⟨kvs,k,e,ey,l,eH⟩ | ⟨kvs,k,b,e,ey,eb,l,eH⟩
  · subst ey eH
    obtain ⟨z,hd,vs,rel,dd⟩:=dk_of I.hok e
    have hz:vs.length≤sizeLine:=by rw [← rel.length];exact z
    have hl:(putK kvs k v).length≤sizeLine:=by have:=length_putK kvs k v;omega
    refine wpAny_setItem_pairs (hsz:=hz) (kV_is ry) dd fun h' dd' hs=>h _ ?_
    have he:∃ q,h'.get? a=some q:=let ⟨q,_,_,hq,_⟩:=dd';⟨q,hq⟩
    exact d_write I (by rw [e];exact True.intro) hs he (dk_new hl hd (rel.put k rv) dd')
  · subst ey eH
    cases (show u=Value.ref b from ry)
    obtain ⟨z,hd,xs,rel,dd⟩:=dt_of I.hok e
    have hz:xs.length≤sizeLine:=by rw [← Paired.length rel];exact z
    have hl:(putK kvs k v).length≤sizeLine:=by have:=length_putK kvs k v;omega
    refine wpAny_setItem_heap (hsz:=hz) (tupleKind_room_in1 hu) (key_of I.hok eb) dd fun h' dd' hs=>h _ ?_
    obtain ⟨q,es,ep,hq,h2,h3,h4,_,h5⟩:=dd'
    refine d_write I (by rw [e];exact True.intro) hs ⟨q,hq⟩ ⟨hl,hd,_,(rel.put k eb rv).keeps fun c ys ec=>?_,q,es,ep,hq,h2,h3,h4,h5⟩
    rw [upd_ne (ne_of ec e (fun z=>nomatch z))]
    exact ec
end
section
variable {X:Cx} {pins:List (Addr×Obj)} {σ:St} {H:Hp} {s:Shared} {a:Addr} {kvs:List (Key×V)} {k:Key} {u:Value} {A:Around} {E:Value→Shared→Prop}
end
noncomputable def NoSl (i:Expr):Prop:=∀ ov iv,subscripted i false ov iv=operate [ov,iv] (getItem ov iv)
theorem subD_of {prog:Program} {w:World} {A:Around} {E:Value→Shared→Prop} {s:Shared} {env:Env} {value slice:Expr} {pos:Pos} {T id:String} {Q:Value→Shared→Prop}
    (hl:typeLookup (.type T) "__getitem__"=pure (some (.builtin id))) (hs:NoSl slice)
    (h:wpAny (model prog w) A (eval value env) (fun o s₁=>wpAny (model prog w) A (eval slice env) (fun i s₂=>s₂.TypeIs o T∧wpAny (model prog w) A (getItem o i) Q E s₂) E s₁) E s) :
    wpAny (model prog w) A (eval (.Subscript value slice pos) env) Q E s:=by
  refine Subscript_ (wpAny_mono h (fun o s₁ h₁=>wpAny_mono h₁ (fun i s₂ h₂=>?_) fun _ _ x=>x) fun _ _ x=>x)
  obtain ⟨hT,h₂⟩:=h₂
  unfold subscriptTail
  refine wpAny_bind ?_
  rw [getitemInPython_of_ne hT.not_modules]
  refine wpAny_bind (wpAny_specialOf hT hl ?_)
  have fin:wpAny (model prog w) A (subscripted slice false o i) (fun r s₃=>wpAny (model prog w) A (letTemporaryGo value o r >>= fun _=>pure r) Q E s₃) E s₂:=by
    rw [hs o i]
    exact wpAny_operating (wpAny_mono h₂ (fun r s₃ h₃=>wpAny_bind (wpAny_letTemporaryGo (wpAny_pure h₃))) fun _ _ x=>x)
  first
    | exact wpAny_pure (wpAny_bind fin)
    | exact wpAny_bind (wpAny_pure (wpAny_bind fin))
    | exact wpAny_bind fin
theorem dict_typeIs {X:Cx} {pins:List (Addr×Obj)} {σ:St} {H:Hp} {s:Shared} {a:Addr} {y:V} {o:Option V} (I:Inv X pins σ H s) (g:DGet H a y o):s.TypeIs (.ref a) "dict":=by
  rcases g with ⟨kvs,k,e,_,_⟩ | ⟨kvs,k,b,e,_,_,_⟩
  · obtain ⟨_,_,vs,_,dd⟩:=dk_rd I.hok e
    exact dd.typeIs
  · obtain ⟨_,_,xs,_,dd⟩:=dt_rd I.hok e
    exact dd.typeIs
noncomputable def tDGet (td ty:TE):TE:=fun σ H Q=>td σ H fun x H1=>ty σ H1 fun y H2=>∃ a v,x=.ref a∧DGet H2 a y (some v)∧Q v H2
noncomputable def tDIn (ty td:TE):TE:=fun σ H Q=>ty σ H fun y H1=>td σ H1 fun x H2=>∃ a o,x=.ref a∧DGet H2 a y o∧Q (.bl o.isSome) H2
noncomputable def tDNotIn (ty td:TE):TE:=fun σ H Q=>ty σ H fun y H1=>td σ H1 fun x H2=>∃ a o,x=.ref a∧DGet H2 a y o∧Q (.bl (!o.isSome)) H2
noncomputable def sDPut (td ty tv:TE):TS:=fun D σ H=>tv σ H fun v H1=>td σ H1 fun x H2=>ty σ H2 fun y H3=>∃ a H4,x=.ref a∧DPut H3 a y v H4∧D.nx σ H4
noncomputable def sDAug (td ty tv:TE) (rd:V→V→Hp→VK→Prop):TS:=fun D σ H=>td σ H fun x H1=>ty σ H1 fun y H2=>∃ a v,x=.ref a∧DGet H2 a y (some v) ∧
  tv σ H2 fun y2 H3=>rd v y2 H3 fun z H4=>∃ H5,DPut H4 a y z H5∧D.nx σ H5
noncomputable def sDDel (td ty:TE):TS:=fun D σ H=>td σ H fun x H1=>ty σ H1 fun y H2=>∃ a kvs k,x=.ref a∧H2 a=some (.dK kvs)∧y=kV k∧(valV kvs k).isSome=true∧D.nx σ (upd H2 a (.dK (dropK kvs k)))
section
variable {X:Cx} {o i e value:Expr} {pos pos' tpos:Pos} {td ty tv:TE}
theorem pe_dget (hu:X.A.units + 1 < cLine) (ho:PE X o td) (hi:PE X i ty) (hs:NoSl i):PE X (.Subscript o i pos) (tDGet td ty):=by
  intro pins s σ H Q I h
  refine subD_of PySem.F.slot_dict_getitem.lookup hs (thn (ho pins s σ H _ I h) fun u s1 ⟨x,H1,I1,rx,q1⟩=>thn (hi pins s1 σ H1 _ I1 q1) fun iv s2 ⟨y,H2,I2,ry,a,v,ex,g,q2⟩=>?_)
  subst ex
  obtain rfl:u=Value.ref a:=rx
  exact ⟨dict_typeIs I2 g,d_getItem hu I2 g ry fun w' s3 I3 rw'=>⟨v,H2,I3,rw',q2⟩⟩
theorem pc_dnotin (hu:X.A.units + 1 < cLine) (hi:PE X i ty) (ho:PE X o td):PC X .NotIn i o (tDNotIn ty td):=by
  intro pins s σ H Q I h
  refine thn (hi pins s σ H _ I h) fun iv s1 ⟨y,H1,I1,ry,q1⟩=>thn (ho pins s1 σ H1 _ I1 q1) fun u s2 ⟨x,H2,I2,rx,a,ov,ex,g,q2⟩=>?_
  subst ex
  obtain rfl:u=Value.ref a:=rx
  exact d_notIn hu I2 g ry fun s3 I3=>⟨.bl (!ov.isSome),H2,I3,rfl,q2⟩
theorem ps_daug {op:Operator} {rd:V→V→Hp→VK→Prop} (hu:X.A.units + 1 < cLine) (ho:PE X o td) (hi:PE X i ty) (hv:PE X value tv) (hop:InOp X op rd)
    (ha:∀ ov iv new,augStore i ov iv new=(do holding [new,ov,iv] (setItem ov iv new);release [new,ov,iv] [];pure .next)):PS X (.AugAssign (.Subscript o i tpos) op value pos) (sDAug td ty tv rd):=by
  intro pins s σ H D I h
  refine wpAny_AugAssign_SubscriptAny (thn (ho pins s σ H _ I h) fun u s1 ⟨x,H1,I1,rx,q1⟩=>thn (hi pins s1 σ H1 _ I1 q1) fun iv s2 ⟨y,H2,I2,ry,a,v,ex,g,q2⟩=>?_) ha
  subst ex
  obtain rfl:u=Value.ref a:=rx
  refine d_getItem hu I2 g ry fun w' s3 I3 rw'=>thn (hv pins s3 σ H2 _ I3 q2) fun w2 s4 ⟨y2,H3,I4,ry2,q3⟩=>thn (hop pins s4 σ H3 v y2 w' w2 _ I4 rw' ry2 q3) fun w3 s5 ⟨z,H4,I5,rz,H5,g5,q4⟩=>?_
  exact d_setItem hu I5 g5 ry rz fun s6 I6=>⟨σ,H5,I6,q4⟩
end
theorem dk_empty {P:Program} {w:World} {H:Hp} (h:Heap) (hb:sysModules < h.objs.size):ObjOk P w H (h.push { cls:=.type "dict",data:=.dict #[] }) h.objs.size (.dK []) :=
  ⟨Nat.zero_le _,beq_eq_false_iff_ne.mpr (Ne.symm (Nat.ne_of_lt hb)),[],.nil,Heap.DictOf.new h⟩
noncomputable def tDNewK:TE:=fun _ H Q=>∀ p,H p=none→Q (.ref p) (upd H p (.dK []))
noncomputable def tDNewT:TE:=fun _ H Q=>∀ p,H p=none→Q (.ref p) (upd H p (.dT []))
section
variable {X:Cx} {pos:Pos}
end
noncomputable def tPairs:List (TE×TE)→St→Hp→(List (V×V)→Hp→Prop)→Prop
  | [],_,H,Q=>Q [] H
  | (tk,tv) :: r,σ,H,Q=>tk σ H fun x H1=>tv σ H1 fun y H2=>tPairs r σ H2 fun ps H3=>Q ((x,y) :: ps) H3
noncomputable abbrev VV:List (V×V)→List (Value×Value)→Prop:=Paired fun p q=>RelV p.1 q.1∧RelV p.2 q.2
noncomputable def PPs (X:Cx) (pos:Pos) (keys:List (Option Expr)) (values:List Expr) (trs:List (TE×TE)):Prop :=
  ∀ (pins:List (Addr×Obj)) (s:Shared) (σ:St) (H:Hp) (Q:List (V×V)→Hp→Prop),Inv X pins σ H s→tPairs trs σ H Q →
    wpAny (model X.prog X.w) X.A (evalPairs (pairTrees keys values X.env pos)) (fun vs s'=>∃ ps H',Inv X pins σ H' s'∧VV ps vs∧Q ps H') X.xe s
theorem pps_nil {X:Cx} {pos:Pos}:PPs X pos [] [] []:=fun pins s σ H Q I h=>pairTrees_nil_walk ⟨[],H,I,.nil,h⟩
theorem pps_cons {X:Cx} {pos:Pos} {k v:Expr} {ks:List (Option Expr)} {vs:List Expr} {tk tv:TE} {trs:List (TE×TE)} (hk:PE X k tk) (hv:PE X v tv) (hr:PPs X pos ks vs trs) :
    PPs X pos (some k :: ks) (v :: vs) ((tk,tv) :: trs):=fun pins s σ H Q I h =>
  pairTrees_cons_walk (thn (hk pins s σ H _ I h) fun u s1 ⟨x,H1,I1,rx,q1⟩=>thn (hv pins s1 σ H1 _ I1 q1) fun w2 s2 ⟨y,H2,I2,ry,q2⟩ =>
    thn (hr pins s2 σ H2 _ I2 q2) fun ws s3 ⟨ps,H3,I3,rel,q3⟩=>⟨(x,y) :: ps,H3,I3,.cons ⟨rx,ry⟩ rel,q3⟩)
noncomputable def mergeK (kvs more:List (Key×V)):List (Key×V):=more.foldl (fun acc kv=>putK acc kv.1 kv.2) kvs
theorem KV.merge:∀ {more:List (Key×V)} {rs:List (Key×Value)} {kvs:List (Key×V)} {vs:List (Key×Value)},KV more rs→KV kvs vs→KV (mergeK kvs more) (merged vs rs):=by
  intro more rs kvs vs r
  unfold KV at r
  induction r generalizing kvs vs with
  | nil=>intro q;exact q
  | @cons p q ps qs h t ih =>
    intro r0
    have e:KV (putK kvs p.1 p.2) (stored vs q.1 q.2):=by
      have:=r0.put p.1 h.2
      rw [← h.1];exact this
    exact ih e
theorem length_mergeK:∀ (more kvs:List (Key×V)),(mergeK kvs more).length≤kvs.length + more.length
  | [],kvs=>by show kvs.length≤kvs.length + 0;omega
  | p :: r,kvs=>by
    have h1:=length_mergeK r (putK kvs p.1 p.2)
    have h2:=length_putK kvs p.1 p.2
    show (mergeK (putK kvs p.1 p.2) r).length≤_
    rw [List.length_cons];omega
theorem carries_of {P:Program} {w:World}:∀ {kvs:List (Key×V)} {ws:List (Value×Value)},VV (kvs.map fun kv=>(kV kv.1,kv.2)) ws→∃ rs,Carries (mixKind P w) ws rs∧KV kvs rs
  | [],_,r=>by rw [List.map_nil] at r;cases r;exact ⟨[],True.intro,.nil⟩
  | p :: kvs,_,r=>by
    rw [List.map_cons] at r
    cases r with
    | @cons a b as bs h t =>
      obtain ⟨rs,c,q⟩:=carries_of (P:=P) (w:=w) t
      obtain ⟨b1,b2⟩:=b
      exact ⟨(p.1,b2) :: rs,⟨kV_is h.1,rfl,c⟩,.cons ⟨rfl,h.2⟩ q⟩
noncomputable def tDisp (trs:List (TE×TE)):TE:=fun σ H Q=>∀ p,H p=none→tPairs trs σ (upd H p (.dK [])) fun ps H2=>H2 p=some (.dK [])∧∃ kvs:List (Key×V),ps=kvs.map (fun kv=>(kV kv.1,kv.2))∧kvs.length≤15∧Q (.ref p) (upd H2 p (.dK (mergeK [] kvs)))
theorem pe_disp {X:Cx} {pos:Pos} {keys:List (Option Expr)} {values:List Expr} {trs:List (TE×TE)} (h:PPs X pos keys values trs) (hall:keys.all (·.isSome)=true) (hl:keys.length=values.length) (h0:keys≠[])
    (h15:keys.length≤15):PE X (.Dict keys values pos) (tDisp trs):=by
  intro pins s σ H Q I q
  have hn:=I.hok.fresh (Nat.le_refl s.heap.objs.size)
  have I1:=I.laid (a:=s.heap.objs.size) (o:=.dK []) (h':=s.heap.push { cls:=.type "dict",data:=.dict #[] }) (t':=s.toks) (fun _ _ q=>Heap.get?_push_of_some _ q) (Nat.le_refl _) (dk_empty s.heap I.big)
  refine wpAny_Dict_walk (knd:=mixKind X.prog X.w) hall hl h0 h15 (thn (h pins _ σ _ _ I1 (q _ hn)) fun ws s2 ⟨ps,H2,I2,rel,e,kvs,ep,lk,q2⟩=>?_)
  subst ep
  obtain ⟨rs,c,rk⟩:=carries_of (P:=X.prog) (w:=X.w) rel
  obtain ⟨z,hd,vs0,r0,dd⟩:=dk_of I2.hok e
  cases r0
  refine ⟨rs,c,dd,fun h' dd' hs=>⟨.ref s.heap.objs.size,_,?_,rfl,q2⟩⟩
  have hz:(mergeK [] kvs).length≤sizeLine:=by
    have h1:=length_mergeK kvs []
    rw [List.length_nil] at h1
    rw [sizeLine_eq];omega
  have he:∃ q,h'.get? s.heap.objs.size=some q:=let ⟨q,_,_,hq,_⟩:=dd';⟨q,hq⟩
  exact d_write I2 (by rw [e];exact True.intro) hs he (dk_new hz hd (rk.merge .nil) dd')
structure M1 (X:Cx) (o:Expr) (m:Str) (apos:Pos) (e:Expr) (cpos:Pos):Prop where
  base:attributeBase o m X.env (eval o X.env)=eval o X.env
  few:((backTo cpos (starEach [e] X.env)).all (fun x=>!x.1) && (backToKw cpos (keywordEach [] X.env)).all (fun x=>x.1.isSome)
    && decide (([e]:List Expr).length + ([]:List Keyword).length + (if ([]:List Keyword).isEmpty then 0 else 1) < 30))=true
  line:(apos.endLine == cpos.line)=true
  trees:backTo cpos (starEach [e] X.env)=[(false,eval e X.env)]
structure M2 (X:Cx) (o:Expr) (m:Str) (apos:Pos) (e f:Expr) (cpos:Pos):Prop where
  base:attributeBase o m X.env (eval o X.env)=eval o X.env
  few:((backTo cpos (starEach [e,f] X.env)).all (fun x=>!x.1) && (backToKw cpos (keywordEach [] X.env)).all (fun x=>x.1.isSome)
    && decide (([e,f]:List Expr).length + ([]:List Keyword).length + (if ([]:List Keyword).isEmpty then 0 else 1) < 30))=true
  line:(apos.endLine == cpos.line)=true
  trees:backTo cpos (starEach [e,f] X.env)=[(false,eval e X.env),(false,eval f X.env)]
noncomputable def IsD (H:Hp) (a:Addr):Prop:=(∃ kvs,Rd H a (.dK kvs))∨∃ kvs,Rd H a (.dT kvs)
section
variable {X:Cx} {pins:List (Addr×Obj)} {σ:St} {H:Hp} {s:Shared} {a:Addr} {y d:V} {u r:Value} {o:Option V} {A:Around} {E:Value→Shared→Prop}
end
noncomputable def tDGet1 (td ty:TE):TE:=fun σ H Q=>td σ H fun x H1=>∃ a,x=.ref a∧IsD H1 a∧ty σ H1 fun y H2=>∃ o,DGet H2 a y o∧Q (o.getD .non) H2
noncomputable def tDGet2 (td ty tx:TE):TE:=fun σ H Q=>td σ H fun x H1=>∃ a,x=.ref a∧IsD H1 a∧ty σ H1 fun y H2=>tx σ H2 fun z H3=>∃ o,DGet H3 a y o∧Q (o.getD z) H3
noncomputable def tDPop1 (td ty:TE):TE:=fun σ H Q=>td σ H fun x H1=>∃ a,x=.ref a∧IsD H1 a∧ty σ H1 fun y H2=>∃ kvs k v,H2 a=some (.dK kvs)∧y=kV k∧valV kvs k=some v∧Q v (upd H2 a (.dK (dropK kvs k)))
noncomputable def tDPop2 (td ty tx:TE):TE:=fun σ H Q=>td σ H fun x H1=>∃ a,x=.ref a∧IsD H1 a∧ty σ H1 fun y H2=>tx σ H2 fun z H3=>∃ kvs k,H3 a=some (.dK kvs)∧y=kV k ∧
  (∀ v,valV kvs k=some v→Q v (upd H3 a (.dK (dropK kvs k))))∧(valV kvs k=none→Q z H3)
section
variable {X:Cx} {o e f:Expr} {apos cpos:Pos} {td ty tx:TE}
end
section
variable {X:Cx} {pins:List (Addr×Obj)} {σ:St} {H:Hp} {s:Shared} {a:Addr} {kvs:List (Key×V)} {A:Around} {E:Value→Shared→Prop}
theorem d_copyOf {Q:Value→Shared→Prop} (I:Inv X pins σ H s) (e:Rd H a (.dK kvs)) (h:∀ p s',H p=none→Inv X pins σ (upd H p (.dK kvs)) s'→Q (.ref p) s'):wpAny (model X.prog X.w) A (call (.type "dict") [.ref a]) Q E s:=by
  obtain ⟨z,hd,vs,rel,dd⟩:=dk_rd I.hok e
  refine kt_call_dict hd dd (by rw [← rel.length];exact z) fun h' dd' hs=>?_
  refine h _ _ (I.hok.fresh (Nat.le_refl _)) (I.laid (a:=s.heap.objs.size) (o:=.dK kvs) (t':=s.toks) (fun b q hq=>?_) (Nat.le_refl _) (dk_new z (beq_eq_false_iff_ne.mpr (Ne.symm (Nat.ne_of_lt I.big))) rel dd'))
  exact (hs.2 b (Nat.ne_of_lt (Heap.lt_size hq))).trans (Heap.get?_push_of_some _ hq)
end
section
variable {X:Cx} {pins:List (Addr×Obj)} {σ:St} {H:Hp} {s:Shared} {a:Addr} {y:V} {u:Value} {A:Around} {E:Value→Shared→Prop}
end
end L2
namespace L2
open PySem PySem.Spec PyProof.Rows
section
variable {X:Cx}
end
section
variable {κ:Type} [DecidableEq κ]
end
end L2
namespace Blk
open PySem
noncomputable def J:List (List Nat)→List Nat
  | []=>[]
  | [x]=>x
  | x :: y :: r=>x ++ 32 :: J (y :: r)
noncomputable def C:List Nat→List (List Nat)
  | []=>[[]]
  | c :: r=>if c=32 then [] :: C r else match C r with
    | []=>[[c]]
    | p :: ps=>(c :: p) :: ps
noncomputable def sg (x:Str):List Nat:=x.cps.toList
theorem sg_inj {x y:Str} (h:sg x=sg y):x=y:=by
  obtain ⟨a⟩:=x
  obtain ⟨b⟩:=y
  have e:a.toList=b.toList:=h
  rw [Array.toList_inj.mp e]
theorem sg_app (x y:Str):sg (x ++ y)=sg x ++ sg y:=Array.toList_append ..
structure Parts (pre:List Nat) (ws:List Str) (w:Str):Prop where
  free:∀ p∈ws ++ [w],32 ∉ sg p
  join:((ws.map sg).map (· ++ [32])).flatten ++ sg w=pre
  many:ws.length≤pre.length
  len:w.length≤pre.length
end Blk
namespace L2
open PySem PySem.Spec PyProof.Rows
theorem small {n:Nat} (h:n≤1000):n≤sizeLine:=Nat.le_of_lt (small1000 h)
theorem len_toList (z:Str):z.cps.toList.length=z.length:=by simp [Str.length]
theorem at_in {α:Type} {xs:List α} {i:Int} (h0:0≤i) (h1:i < (xs.length:Int)):∃ v,xs[i.toNat]?=some v∧atI xs i=some v:=by
  have hk:i.toNat < xs.length:=by omega
  have q:atI xs ((i.toNat:Nat):Int)=some xs[i.toNat]:=atI_nat (List.getElem?_eq_getElem hk)
  have e:((i.toNat:Nat):Int)=i:=by omega
  rw [e] at q
  exact ⟨_,List.getElem?_eq_getElem hk,q⟩
theorem bt_list:bootBuiltins "list"=some (.type "list"):=by decide +kernel
theorem bt_str:bootBuiltins "str"=some (.type "str"):=by decide +kernel
theorem bt_bool:bootBuiltins "bool"=some (.type "bool"):=by decide +kernel
theorem bt_int:bootBuiltins "int"=some (.type "int"):=by decide +kernel
theorem bt_isi:bootBuiltins "isinstance"=some (.builtin "isinstance"):=by decide +kernel
theorem bt_min:bootBuiltins "min"=some (.builtin "min"):=by decide +kernel
theorem bt_tuple:bootBuiltins "tuple"=some (.type "tuple"):=by decide +kernel
theorem rel_ty (n:String):RelV (.ty n) (.type n):=rfl
theorem rel_str (x:Str) (t:Tok):RelV (.str x) (.str x t):=⟨t,rfl⟩
theorem rel_int (x:Int) (t:Tok):RelV (.int x) (.int x t):=⟨t,rfl⟩
noncomputable def Itx (z:Str):It:=⟨fun i _=>i < z.cps.size,fun i H x H'=>H'=H∧∃ c,z.cps[i]?=some c∧x=.str ⟨#[c]⟩,fun i _=>i=z.cps.size⟩
section
variable {X:Cx} {tg:Expr}
noncomputable def iStr (tl:TE):TI:=fun σ H R=>tl σ H fun x H1=>∃ z,x=.str z∧R (Itx z) H1
end
section
variable {X:Cx}
noncomputable def rIxSA:R2:=fun x y H Q=>∃ z i,x=.str z∧y=.int i∧z.length≤sizeLine∧0≤i∧i < ((z.length:Nat):Int)∧∀ c,z.cps.toList[i.toNat]?=some c→Q (.str ⟨#[c]⟩) H
theorem ix_strA:IxR X rIxSA:=by
  intro value slice pins s σ H x y v u Q I rx ry h hs
  obtain ⟨z,i,rfl,rfl,hz,h0,h1,q⟩:=h
  obtain ⟨c,e1,e2⟩:=at_in (xs:=z.cps.toList) h0 (by rw [len_toList];exact h1)
  exact ix_str value slice pins s σ H _ _ v u Q I rx ry ⟨z,i,c,rfl,rfl,hz,e2,q c e1⟩ hs
noncomputable def rIsi (K:PySem.W.Frag):List V→Hp→VK→Prop:=fun xs H Q=>∃ x n t b,xs=[x,.ty n]∧TyOf K H x t∧PySem.W.kitOne K t (.type n)=some b∧Q (.bl b) H
theorem call_isi:CallR X (.builtin "isinstance") (rIsi X.K):=by
  intro pins s σ H xs us Q I r h
  obtain ⟨x,n,t,b,rfl,ty,e,q⟩:=h
  obtain ⟨u,w',rfl,r1,r2⟩:=vals2 r
  cases (show w'=Value.type n from r2)
  exact isinst_ok I r1 ty e fun tk=>⟨.bl b,H,I.tok tk,rfl,q⟩
theorem kit_same {K:PySem.W.Frag} (n:String):PySem.W.kitOne K (.type n) (.type n)=some true:=by
  unfold PySem.W.kitOne
  rw [if_pos (beq_self_eq_true _)]
noncomputable def eqVs (xs ys:List V):Bool:=xs.length == ys.length && (List.range xs.length).all fun j=>eqV (xs.getD j .non) (ys.getD j .non)
theorem flat_at {xs:List V} (f:xs.all flatV=true) (j:Nat):flatV (xs.getD j .non)=true:=by
  by_cases h:j < xs.length
  · rw [List.getD_eq_getElem?_getD,List.getElem?_eq_getElem h]
    exact (List.all_eq_true.mp f) _ (List.getElem_mem h)
  · rw [List.getD_eq_getElem?_getD,List.getElem?_eq_none (by omega)]
    rfl
theorem vals_at {xs:List V} {us:List Value} (r:Vals xs us) (j:Nat) (h:j < us.toArray.size):RelV (xs.getD j .non) (us.toArray[j]):=by
  have hl:=r.length
  have h':j < us.length:=by simpa using h
  have h2:j < xs.length:=by omega
  obtain ⟨u,e1,e2⟩:=r.get (List.getElem?_eq_getElem h2)
  rw [List.getD_eq_getElem?_getD,List.getElem?_eq_getElem h2]
  have e3:us.toArray[j]=u:=by
    rw [List.getElem?_eq_getElem h'] at e1
    simpa using Option.some.inj e1
  rw [e3]
  exact e2
noncomputable def rEqL (K:PySem.W.Frag) (neg:Bool):R2:=fun x y H Q=>∃ p q xs ys,x=.ref p∧y=.ref q∧SqL K H p xs∧SqL K H q ys∧xs.all flatV=true∧ys.all flatV=true∧Q (.bl (if neg then !eqVs xs ys else eqVs xs ys)) H
theorem op_ne_list (hu:X.A.units < cLine):OpR X (compareOp .NotEq) (rEqL X.K true):=by
  intro pins s σ H x y v u Q I rx ry h
  obtain ⟨p,q,xs,ys,rfl,rfl,hp,hq,fx,fy,k⟩:=h
  cases rx
  cases ry
  obtain ⟨its,r1,l1,z1⟩:=I.list hp
  obtain ⟨jts,r2,l2,z2⟩:=I.list hq
  have e1:=r1.length
  have e2:=r2.length
  have fin:∀ b,b=eqVs xs ys→EP X pins σ Q (.bool (!b)) s:=fun b e=>⟨.bl (!b),H,I,rfl,by rw [e];exact k⟩
  by_cases hs:xs.length=ys.length
  · refine SeqAt.RcNeAt.lists (e:=fun j=>eqV (xs.getD j .non) (ys.getD j .non)) l1.isList l2.isList (by simp;omega) hu (fun j h1 h2=>?_) X.prog X.w _ _ (fin _ ?_)
    · exact eqAt_V (vals_at r1 j h1) (vals_at r2 j h2) (flat_at fx j) (flat_at fy j)
    · unfold eqVs
      rw [List.size_toArray,← e1,hs,beq_self_eq_true,Bool.true_and]
  · refine SeqAt.RcNeAt.lists_lengths l1.isList l2.isList (by simp [bne_iff_ne];omega) hu X.prog X.w _ _ (fin false ?_)
    unfold eqVs
    rw [beq_eq_false_iff_ne.mpr hs,Bool.false_and]
theorem op_eq_list (hu:X.A.units < cLine):OpR X (compareOp .Eq) (rEqL X.K false):=by
  intro pins s σ H x y v u Q I rx ry h
  obtain ⟨p,q,xs,ys,rfl,rfl,hp,hq,fx,fy,k⟩:=h
  cases rx
  cases ry
  obtain ⟨its,r1,l1,z1⟩:=I.list hp
  obtain ⟨jts,r2,l2,z2⟩:=I.list hq
  have e1:=r1.length
  have e2:=r2.length
  have fin:∀ b,b=eqVs xs ys→EP X pins σ Q (.bool b) s:=fun b e=>⟨.bl b,H,I,rfl,by rw [e];exact k⟩
  by_cases hs:xs.length=ys.length
  · refine SeqAt.RcAt.lists (e:=fun j=>eqV (xs.getD j .non) (ys.getD j .non)) l1.isList l2.isList (by simp;omega) hu (fun j h1 h2=>?_) X.prog X.w _ _ (fin _ ?_)
    · exact eqAt_V (vals_at r1 j h1) (vals_at r2 j h2) (flat_at fx j) (flat_at fy j)
    · unfold eqVs
      rw [List.size_toArray,← e1,hs,beq_self_eq_true,Bool.true_and]
  · refine SeqAt.RcAt.lists_lengths l1.isList l2.isList (by simp [bne_iff_ne];omega) hu X.prog X.w _ _ (fin false ?_)
    unfold eqVs
    rw [beq_eq_false_iff_ne.mpr hs,Bool.false_and]
theorem eqV_refl {x:V} (f:flatV x=true):eqV x x=true:=by
  cases x with
  | non=>rfl
  | bl b=>exact beq_self_eq_true b
  | int i=>exact beq_self_eq_true i
  | str z=>exact beq_self_eq_true z
  | _=>exact absurd (show false=true from f) Bool.false_ne_true
noncomputable def rSplit:V→List V→Hp→VK→Prop:=fun x vs H Q=>∃ z y,x=.str z∧vs=[.str y]∧(y.length == 0)=false∧z.length + 2≤sizeLine∧∀ p,H p=none→Q (.ref p) (upd H p (.lst ((Txt.split z y).map V.str)))
end
theorem same_new {H:Hp} {p:Addr} (h:H p=none) (o:HO):Same H (upd H p o):=fun b u q=>by rw [upd_ne (ne_of_none q h)];exact q
theorem same_on {H H':Hp} {p:Addr} (h:H p=none) (e:Same H H') (o:HO):Same H (upd H' p o):=fun b u q=>by rw [upd_ne (ne_of_none q h)];exact e b u q
end L2
namespace L2
open PySem PySem.Spec PyProof.Rows
noncomputable def closOf (cells:List (Str×Addr)):List (Str×NameKind)→List (Str×Addr)→List (Str×Addr)
  | [],acc=>acc
  | (n,k) :: r,acc=>closOf cells r (if (k == .free)=true then (n,(cells.lookup n).getD 0) :: acc else acc)
theorem closureFor_of {scope:Scope} {env:Env} (h:∀ p∈scope.names,p.2=.free→(env.cells.lookup p.1).isSome=true):closureFor scope env=pure (closOf env.cells scope.names []):=by
  obtain ⟨kd,names,g1,g2,more⟩:=scope
  simp only [closureFor]
  dsimp only at h ⊢
  generalize ([]:List (Str×Addr))=acc
  induction names generalizing acc with
  | nil=>rfl
  | cons p r ih =>
    obtain ⟨n,k⟩:=p
    have hr:∀ p∈r,p.2=.free→(env.cells.lookup p.1).isSome=true:=fun p hp=>h p (List.mem_cons_of_mem _ hp)
    have ih':=ih hr
    simp only [closOf]
    by_cases hk:k=.free
    · subst hk
      obtain ⟨c,hc⟩:=Option.isSome_iff_exists.mp (h (n,.free) List.mem_cons_self rfl)
      have hc':List.lookup n env.cells=some c:=hc
      rw [show (NameKind.free == NameKind.free)=true from rfl,if_pos rfl,hc']
      have e:cellOf env n=pure c:=by unfold cellOf;rw [hc']
      have q:=ih' ((n,c) :: acc)
      simp only [List.forIn_cons,beq_self_eq_true,if_true,e,pure_bind,Option.getD_some]
      exact q
    · have hb:(k == NameKind.free)=false:=by simpa using hk
      have q:=ih' acc
      simp only [List.forIn_cons,hb,Bool.false_eq_true,if_false,pure_bind]
      exact q
theorem closOf_in {cells:List (Str×Addr)} {y:Str} {c:Addr}:∀ (names:List (Str×NameKind)) (acc:List (Str×Addr)),(∀ p∈names,p.2=.free→(cells.lookup p.1).isSome=true) →
    (∀ y c,acc.lookup y=some c→cells.lookup y=some c)→(closOf cells names acc).lookup y=some c→cells.lookup y=some c
  | [],_,_,ha,h=>ha _ _ h
  | (n,k) :: r,acc,hn,ha,h=>by
    refine closOf_in r _ (fun p hp=>hn p (List.mem_cons_of_mem _ hp)) (fun y c hy=>?_) h
    by_cases hk:(k == NameKind.free)=true
    · rw [if_pos hk] at hy
      rw [List.lookup_cons] at hy
      by_cases e:(y == n)=true
      · rw [e] at hy
        obtain ⟨d,hd⟩:=Option.isSome_iff_exists.mp (hn (n,k) List.mem_cons_self (by simpa using hk))
        have hd':cells.lookup n=some d:=hd
        have hy':(cells.lookup n).getD 0=c:=Option.some.inj hy
        rw [hd'] at hy'
        rw [eq_of_beq e,hd']
        exact congrArg some hy'
      · rw [Bool.eq_false_iff.mpr e] at hy
        exact ha y c hy
    · rw [if_neg hk] at hy
      exact ha y c hy
theorem closOf_has {cells:List (Str×Addr)} {y:Str}:∀ (names:List (Str×NameKind)) (acc:List (Str×Addr)),((acc.lookup y).isSome=true∨(y,NameKind.free)∈names)→((closOf cells names acc).lookup y).isSome=true
  | [],acc,h=>h.elim id (fun z=>by cases z)
  | (n,k) :: r,acc,h=>by
    refine closOf_has r _ ?_
    rcases h with h | h
    · refine .inl ?_
      by_cases hk:(k == NameKind.free)=true
      · rw [if_pos hk,List.lookup_cons]
        by_cases e:(y == n)=true
        · rw [e];rfl
        · rw [Bool.eq_false_iff.mpr e];exact h
      · rw [if_neg hk];exact h
    · rcases List.mem_cons.mp h with e | h
      · cases e
        refine .inl ?_
        rw [if_pos (show (NameKind.free == NameKind.free)=true from rfl),List.lookup_cons,beq_self_eq_true]
        rfl
      · exact .inr h
noncomputable def compCx (X:Cx) (scope:Scope) (N':List Str) (C:Addr) (ex:List Addr) (s₂:Shared) (H₂:Hp):Cx where
  prog:=X.prog
  w:=X.w
  K:=X.K
  mg:=X.mg
  base:=X.base
  A:=X.A
  N:=N'
  s₀:=s₂
  H₀:=H₂
  env:=compEnvC scope (closOf X.env.cells scope.names []) C X.env
  outer:=X.stack
  stack:=X.stack
  ex:=ex
  fn:=fun _=>false
  calm:=X.calm
  pn:=[]
  xe:=fun _ _=>False
noncomputable def FreesOk (X:Cx) (scope:Scope):List (Str×Nat)→Prop
  | []=>True
  | p :: r=>(X.N[p.2]?=some p.1∧X.env.kindOf p.1=some .cell∧(relabel scope X.env).names.lookup p.1=some .cell∧(p.1,NameKind.free)∈scope.names)∧FreesOk X scope r
theorem FreesOk.at {X:Cx} {scope:Scope}:∀ {fr:List (Str×Nat)},FreesOk X scope fr→∀ p∈fr,X.N[p.2]?=some p.1∧X.env.kindOf p.1=some .cell∧(relabel scope X.env).names.lookup p.1=some .cell∧(p.1,NameKind.free)∈scope.names
  | [],_,p,hp=>by cases hp
  | _ :: _,h,p,hp=>by
    rcases List.mem_cons.mp hp with e | hp
    · rw [e];exact h.1
    · exact FreesOk.at h.2 p hp
noncomputable def inSt (frees:List (Str×Nat)) (σ:St) (x:Option V):St:=x :: frees.map fun p=>(σ[p.2]?).join
noncomputable def PIfs (X:Cx) (ifs:List Expr) (t:TT):Prop :=
  ∀ (pins:List (Addr×Obj)) (s:Shared) (σ:St) (H:Hp) (Q:Bool→Hp→Prop),Inv X pins σ H s→t σ H Q →
    wpAny (model X.prog X.w) X.A (forIn ifs true fun c r=>if r=true then do let ok ← isTrue c X.env (eval c X.env);pure (ForInStep.yield ok) else pure (ForInStep.yield r)) (TP X pins σ Q) X.xe s
theorem pifs_nil {X:Cx}:PIfs X [] (fun _ H Q=>Q true H):=fun _ _ _ H _ I h=>wpAny_tests_nil ⟨H,I,h⟩
theorem pifs_one {X:Cx} {c:Expr} {t:TT} (h:PT X c t):PIfs X [c] t:=fun pins s σ H Q I hw=>wpAny_tests_one (h pins s σ H Q I hw)
noncomputable def CompB (J:It) (tc:TT) (te:TE) (σf:Option V→St) (H1:Hp) (Q:VK):Prop:=∀ D,H1 D=none →
  ∃ W:Nat→Nat→List V→Hp→Prop,(∃ m,W 0 m [] (upd H1 D (.lst [])))∧∀ i m ys H2,W i m ys H2→H2 D=some (.lst ys) ∧
    ((J.stop i H2∧Q (.ref D) H2)∨(J.go i H2∧ys.length < sizeLine∧∀ x H3,J.yld i H2 x H3→tc (σf (some x)) H3 fun b H4 =>
      if b=true then te (σf (some x)) H4 fun y H5=>H5 D=some (.lst ys)∧∃ m',m' < m∧W (i + 1) m' (ys ++ [y]) (upd H5 D (.lst (ys ++ [y]))) else ∃ m',m' < m∧W (i + 1) m' ys H4))
section
variable {prog:Program} {w:World} {A:Around} {R:Result→Shared→Prop} {s:Shared}
theorem comp_loop {elt target iter:Expr} {ifs:List Expr} {scope:Scope} {pos:Pos} {it acc:Value} {env:Env} (I:Nat→Shared→Prop)
    (turn:∀ n s,I n s→wpAny (model prog w) A (pyNext it) (fun r s₁=>match r with
      | none=>R (.ok .next) s₁
      | some v=>wpAny (model prog w) A (letOwnedTupleGo target it v) (fun _ s₁'=>wpAny (model prog w) A (assign target env v) (fun _ s₂ =>
          wpAny (model prog w) A (forIn ifs true fun c r=>if r=true then do let ok ← isTrue c env (eval c env);pure (ForInStep.yield ok) else pure (ForInStep.yield r)) (fun ok s₃ =>
            if ok=true then wpAny (model prog w) A (eval elt env) (fun x s₄ =>
              wpAny (model prog w) A (call (.builtin "list.append") [acc,x]) (fun _ s₅=>∃ m,m < n∧I m s₅) (fun _ _=>False) s₄) (fun _ _=>False) s₃
            else ∃ m,m < n∧I m s₃) (fun _ _=>False) s₂) (fun _ _=>False) s₁') (fun _ _=>False) s₁) (fun _ _=>False) s)
    (n:Nat) (h:I n s) :
    codeAny (model prog w) A (.compLoop (.ListComp elt [⟨target,iter,ifs,0⟩] scope pos) 0 it acc env) R s:=by
  have no:∀ {α:Type} {t:Sem α} {Q:α→Shared→Prop} {E:Value→Shared→Prop} {s:Shared},wpAny (model prog w) A t Q (fun _ _=>False) s→wpAny (model prog w) A t Q E s:=fun h=>wpAny_mono h (fun _ _ q=>q) fun _ _ f=>f.elim
  refine codeAny_loop rfl I (fun n s hI=>?_) n h
  show wpAny _ A ((compTurn (.ListComp elt [⟨target,iter,ifs,0⟩] scope pos) 0 it acc env).onRaise (fun x=>do noteFrame x env;theTreesLotGoes x)) _ _ s
  refine wpAny_noted ?_
  rw [compTurn_list]
  refine wpAny_bind (wpAny_standAt (wpAny_bind (wpAny_mono (turn n s hI) (fun r s₁ h₁=>?_) fun _ _ h'=>h'.elim)))
  cases r with
  | none=>exact wpAny_pure h₁
  | some v =>
    refine wpAny_bind (wpAny_mono h₁ (fun _ s₁' h₁'=>?_) fun _ _ h'=>h'.elim)
    refine wpAny_bind (wpAny_mono h₁' (fun _ s₂ h₂=>wpAny_bind (wpAny_mono h₂ (fun ok s₃ h₃=>?_) fun _ _ h'=>h'.elim)) fun _ _ h'=>h'.elim)
    cases ok with
    | false=>exact wpAny_pure ⟨rfl,h₃⟩
    | true =>
      exact wpAny_bind (wpAny_bind (wpAny_mono h₃ (fun x s₄ h₄=>wpAny_bind (wpAny_mono h₄ (fun _ s₅ h₅=>wpAny_pure (wpAny_pure ⟨rfl,h₅⟩)) fun _ _ h'=>h'.elim)) fun _ _ h'=>h'.elim))
end
section
variable {X:Cx} {elt iter:Expr} {x:Str} {px pos:Pos} {ifs:List Expr} {scope:Scope} {frees:List (Str×Nat)} {tc:TT} {te:TE}
structure CompOk (X:Cx) (scope:Scope) (x:Str) (frees:List (Str×Nat)):Prop where
  cell:∀ y∈scope.names,y.2≠.cell
  kind:scope.kind=.function
  own:scope.names.lookup x=some .local
  names:∀ y∈scope.names,y.2=.local→scope.names.lookup y.1=some .local
  fr:FreesOk X scope frees
  nd:(x :: frees.map (·.1)).Nodup
  cl:∀ p∈scope.names,p.2=.free→(X.env.cells.lookup p.1).isSome=true
  calm:X.calm=true
theorem relabel_free {scope:Scope} {env:Env} {y:Str} (hc:∀ y∈scope.names,y.2≠.cell) (h:(relabel scope env).names.lookup y=some .cell∨(relabel scope env).names.lookup y=some .free):(y,NameKind.free)∈scope.names:=by
  have key:∀ k,(relabel scope env).names.lookup y=some k→k≠.local→k=.cell∨k=.free→(y,NameKind.free)∈scope.names:=fun k hk _ hkk=>by
    have hm:=PySem.mem_of_lookup hk
    obtain ⟨⟨n,k0⟩,hm0,e⟩:=List.mem_map.mp hm
    by_cases hcond:(k0 == NameKind.free && env.scope.kind == .function && env.kindOf n == some .cell)=true
    · have e':(n,NameKind.cell)=(y,k):=by rw [← e];exact (if_pos hcond).symm
      have hk0:k0=.free:=by
        rw [Bool.and_eq_true,Bool.and_eq_true] at hcond
        exact eq_of_beq hcond.1.1
      have en:n=y:=congrArg Prod.fst e'
      rw [← en,← hk0]
      exact hm0
    · have e':(n,k0)=(y,k):=by rw [← e];exact (if_neg hcond).symm
      have en:n=y:=congrArg Prod.fst e'
      have ek:k0=k:=congrArg Prod.snd e'
      rcases hkk with hkk | hkk
      · exact absurd (ek.trans hkk) (hc _ hm0)
      · rw [← en,← hkk,← ek]
        exact hm0
  rcases h with h | h
  · exact key _ h (by decide) (.inl rfl)
  · exact key _ h (by decide) (.inr rfl)
theorem comp_core {pins:List (Addr×Obj)} {σ:St} {H1:Hp} {s₂:Shared} {it:Addr} {fp:List Addr} {tn:Nat→Heap→Prop} {J:It} {Q:VK} {RR:Value→Addr→Result→Shared→Prop} {E:Value→Shared→Prop}
    (O:CompOk X scope x frees) (hc:∀ C ex s₂ H₂,PIfs (compCx X scope (x :: frees.map (·.1)) C ex s₂ H₂) ifs tc) (he:∀ C ex s₂ H₂,PE (compCx X scope (x :: frees.map (·.1)) C ex s₂ H₂) elt te)
    (I:Inv X pins σ H1 s₂) (T:Turn X.prog X.w X.K (.Name x px) J fp it tn) (st:tn 0 s₂.heap) (hf:∀ b∈fp,FpOk X pins H1 b) (hB:CompB J tc te (inSt frees σ) H1 Q)
    (hRR:∀ D C H' s',Inv X pins σ H' s'→(∃ m,s'.heap.Ns C m)→FpOk X pins H' C→Q (.ref D) H'→RR (.ref D) C (.ok .next) s') :
    wpAny (model X.prog X.w) X.A (newList []) (fun acc s₃=>wpAny (model X.prog X.w) X.A (newFunctionEnv scope X.env.globals (closOf X.env.cells scope.names []) [] X.env.qual none .none (some X.env)) (fun cenv s₄ =>
      codeAny (model X.prog X.w) X.A (.compStart (.ListComp elt [⟨.Name x px,iter,ifs,0⟩] scope pos) 0 (.ref it) acc { cenv with scope:=relabel scope X.env }) (RR acc cenv.locals) s₄) E s₃) E s₂:=by
  refine wpAny_newObj_type (wpAny_newFunctionEnv O.cell (by intro y hy;simp at hy) (fun h₁ hns₁ hsb₁=>?_) O.kind)
  dsimp only at hns₁ hsb₁ ⊢
  generalize hH2:s₂.heap.push { cls:=.type "list",dict:=none,data:=.seq ([]:List Value).toArray }=H2 at hns₁ hsb₁ ⊢
  have hC:H2.objs.size=s₂.heap.objs.size + 1:=by rw [← hH2,Heap.size_push]
  have hDC:s₂.heap.objs.size≠H2.objs.size:=by rw [hC];exact Nat.ne_of_lt (Nat.lt_succ_self _)
  have hCle:s₂.heap.objs.size≤H2.objs.size:=by rw [hC];exact Nat.le_succ _
  have below:∀ b,b < s₂.heap.objs.size→b≠H2.objs.size∧b≠s₂.heap.objs.size:=fun b hb=>⟨by rw [hC];exact Nat.ne_of_lt (Nat.lt_succ_of_lt hb),Nat.ne_of_lt hb⟩
  have old:∀ b o,s₂.heap.get? b=some o→h₁.get? b=some o:=fun b o e=>hsb₁.extBut b o (below b (Heap.lt_size e)).1 (Heap.get?_push_of_some _ (hH2 ▸ Heap.get?_push_of_some _ e))
  have hacc:h₁.get? s₂.heap.objs.size=some { cls:=.type "list",data:=.seq ([]:List Value).toArray }:=hsb₁.extBut _ _ hDC (Heap.get?_push_of_some _ (hH2 ▸ Heap.get?_push_size _ rfl))
  have nD:H1 s₂.heap.objs.size=none:=I.hok.fresh (Nat.le_refl _)
  obtain ⟨W,⟨m0,w0⟩,hW⟩:=hB s₂.heap.objs.size nD
  -- the block's context and its first state
  let X':Cx:=compCx X scope (x :: frees.map (·.1)) H2.objs.size fp s₂ H1
  have inC:∀ y c,(closOf X.env.cells scope.names []).lookup y=some c→X.env.cells.lookup y=some c:=fun y c h=>closOf_in scope.names [] O.cl (fun y c h=>by cases h) h
  have fpl:∀ b∈fp,b < s₂.heap.objs.size:=fun b hb=>by
    obtain ⟨o,e,_⟩:=T.obj _ _ st b hb
    exact Heap.lt_size e
  have ok':X'.Ok:=by
    refine ⟨I.ok.mod,O.kind,I.ok.glob,I.ok.blt,hCle,fun y z c h1 h2=>I.ok.inj y z c (inC y c h1) (inC z c h2),fun y hy=>?_,fun y c h _=>(by cases h),I.ok.hd,I.ok.frames,.inl rfl,fun b hb=>?_,I.bs,Nat.le_trans I.ok.bsz I.sz,fun b o e hb=>?_,fun b hb z=>?_,I.stack,I.stkFree⟩
    · exact Option.isSome_iff_exists.mp (closOf_has scope.names [] (.inr (relabel_free O.cell hy)))
    · exact ⟨(below b (fpl b hb)).1,fun y c h=>(hf b hb).2.2.2.2.1 y c (inC y c h)⟩
    · rcases (hf b hb).2.2.2.1 with z | z
      · exact I.ok.noex b o e z
      · exact absurd (Nat.lt_of_lt_of_le (Nat.lt_of_lt_of_le (Heap.lt_size e) I.ok.bsz) z) (Nat.lt_irrefl _)
    · exact (List.mem_cons.mp (I.stkSub b z)).elim (hf b hb).2.1 (hf b hb).2.2.1
  have hok1:HOk X.prog X.w (upd H1 s₂.heap.objs.size (.lst [])) h₁:=I.hok.laid old (Nat.le_refl _) ⟨Nat.zero_le _,[],0,.nil,hacc⟩
  have I0:∀ tk,Inv X' [] (inSt frees σ none) (upd H1 s₂.heap.objs.size (.lst [])) { s₂ with heap:=h₁,toks:=tk }:=fun tk=>by
    refine ⟨ok',rfl,I.bare,Un.laid old (Nat.le_refl _) nD,⟨_,hns₁,fun i y v h1 h2 h3=>?_⟩,fun y c h=>?_,?_,fun y c h=>?_,fun p hp=>absurd (show p∈([]:List (Addr×Obj)) from hp) (by simp),hok1,?_⟩
    · cases i with
      | zero =>
        have h2':(none:Option V)=some v:=Option.some.inj h2
        cases h2'
      | succ j =>
        have h1':(frees.map (·.1))[j]?=some y:=h1
        have h2':(frees.map fun p=>(σ[p.2]?).join)[j]?=some (some v):=h2
        rw [List.getElem?_map] at h1' h2'
        cases e:frees[j]? with
        | none=>rw [e] at h1';cases h1'
        | some p =>
          rw [e] at h1' h2'
          have e1:p.1=y:=Option.some.inj h1'
          have e2:(σ[p.2]?).join=some v:=Option.some.inj h2'
          obtain ⟨g1,g2,g3,g4⟩:=O.fr.at p (List.mem_of_getElem? e)
          have e3:σ[p.2]?=some (some v):=by
            cases q:σ[p.2]? with
            | none=>rw [q] at e2;cases e2
            | some o=>rw [q] at e2;exact congrArg some e2
          obtain ⟨m,hn,hl⟩:=I.loc
          obtain ⟨u,r,l⟩:=hl p.2 p.1 v g1 e3 (.inr (.inl g2))
          refine ⟨u,r,?_⟩
          rcases l with ⟨k,_⟩ | ⟨_,c,hc1,hc2⟩
          · rw [g2] at k;cases k
          · obtain ⟨c2,hc3⟩:=Option.isSome_iff_exists.mp (closOf_has (cells:=X.env.cells) scope.names [] (.inr g4))
            have hc4:=inC _ _ hc3
            rw [hc1] at hc4
            cases hc4
            rw [← e1]
            refine .inr ⟨.inl g3,c,hc3,?_⟩
            obtain ⟨o,ho,hd⟩:=hc2
            exact ⟨o,old c o ho,hd⟩
    · obtain ⟨v,o,ho,hd⟩:=I.cell y c (inC y c h)
      exact ⟨v,o,old c o ho,hd⟩
    · show upd H1 s₂.heap.objs.size (.lst []) H2.objs.size=none
      rw [upd_ne (Ne.symm hDC)]
      exact I.hok.fresh hCle
    · obtain ⟨v,o,ho,hd⟩:=I.cell y c (inC y c h)
      rw [upd_ne (below c (Heap.lt_size ho)).2]
      exact I.freeC y c (inC y c h)
    · show (inSt frees σ none).length=(x :: frees.map (·.1)).length
      simp [inSt]
  have stat:∀ {H':Hp},(∀ b∈fp,H' b=none)→∀ b∈fp,FpOk X' [] H' b:=fun hn b hb =>
    ⟨hn b hb,(below b (fpl b hb)).1,fun z=>(List.mem_cons.mp (I.stkSub b z)).elim (hf b hb).2.1 (hf b hb).2.2.1,.inl hb,fun y c h=>(hf b hb).2.2.2.2.1 y c (inC y c h),fun p hp=>absurd (show p∈([]:List (Addr×Obj)) from hp) (by simp)⟩
  have hst₁:tn 0 h₁:=T.keep _ _ _ st fun b _ o e=>old b o e
  have fr0:∀ b∈fp,(upd H1 s₂.heap.objs.size (.lst [])) b=none:=fun b hb=>by
    rw [upd_ne (below b (fpl b hb)).2]
    exact (hf b hb).1
  have loop:∀ tk,codeAny (model X.prog X.w) X.A (.compLoop (.ListComp elt [⟨.Name x px,iter,ifs,0⟩] scope pos) 0 (.ref it) (.ref s₂.heap.objs.size) X'.env) (RR (.ref s₂.heap.objs.size) H2.objs.size) { s₂ with heap:=h₁,toks:=tk }:=fun tk=>by
    refine comp_loop (fun n s'=>∃ i ys o H',Inv X' [] (inSt frees σ o) H' s'∧tn i s'.heap∧(∀ b∈fp,H' b=none)∧W i n ys H') ?_ m0 ⟨0,[],none,_,I0 tk,hst₁,fr0,w0⟩
    rintro n s3 ⟨i,ys,o3,H3,I3,st3,fr3,w3⟩
    obtain ⟨hD3,alt⟩:=hW i n ys H3 w3
    rcases alt with ⟨stop,q⟩ | ⟨go,hlt,step⟩
    · refine thn (T.done X' rfl rfl rfl O.calm i [] s3 _ H3 _ I3 (stat fr3) st3 stop) fun r s4 ⟨hr,I4⟩=>?_
      subst hr
      have J4:Inv X pins σ H3 s4:=I.call' (ch:=fp) I4.os I4.base I4.hok I4.bare fun b hb=>⟨(hf b hb).2.2.2.1,(hf b hb).2.1,(hf b hb).2.2.2.2.1,(hf b hb).2.2.2.2.2⟩
      obtain ⟨m4,hn4,_⟩:=I4.loc
      exact hRR _ _ H3 s4 J4 ⟨m4,hn4⟩ (I.fpOk hCle I4.free) q
    · refine thn (T.item X' rfl rfl rfl O.calm i [] s3 _ H3 _ I3 (stat fr3) st3 go) fun r s4 ⟨u,hr,h4⟩=>?_
      subst hr
      refine thn h4 fun _ s5 ⟨v,H5,I5,r5,y5,st5,fr5⟩=>?_
      have I5':=I5.pinned (stat fr5) (T.obj _ _ st5)
      have tail:∀ {σ7:St} {H7:Hp} {s7:Shared},Inv X' ([] ++ pinsAt fp s5.heap) σ7 H7 s7→Inv X' [] σ7 H7 s7∧tn (i + 1) s7.heap∧∀ b∈fp,H7 b=none:=fun {σ7 H7 s7} I7=>by
        refine ⟨I7.unpinned,T.keep _ _ _ st5 fun b hb o e=>(I7.pin (b,o) (List.mem_append_right _ (List.mem_append_right _ (mem_pinsAt hb e)))).1,fun b hb=>?_⟩
        obtain ⟨o,e,d⟩:=T.obj _ _ st5 b hb
        exact (I7.pin (b,o) (List.mem_append_right _ (List.mem_append_right _ (mem_pinsAt hb e)))).2.1
      have hg:PG X' (.Name x px) (gName 0):=pg_name O.nd rfl (Or.inl (lookup_relabel_local O.own)) (.inr (lookup_relabel_local O.own))
      refine thn (hg _ s5 _ H5 v u (fun σ6 H6=>σ6=inSt frees σ (some v)∧H6=H5) I5' r5 ⟨rfl,rfl⟩) fun _ s6 ⟨σ6,H6,I6,e6,e6'⟩=>?_
      subst e6 e6'
      refine thn (hc _ _ _ _ _ s6 _ _ _ I6 (step v _ y5)) fun b s7 ⟨H7,I7,q7⟩=>?_
      cases b with
      | false =>
        obtain ⟨m',hm,w7⟩:=(show ∃ m',m' < n∧W (i + 1) m' ys H7 from q7)
        obtain ⟨t1,t2,t3⟩:=tail I7
        exact ⟨m',hm,i + 1,ys,some v,H7,t1,t2,t3,w7⟩
      | true =>
        refine thn (he _ _ _ _ _ s7 _ _ _ I7 q7) fun y s8 ⟨y',H8,I8,r8,hD8,m',hm,w8⟩=>?_
        refine thn (mt_append (X:=X') _ s8 _ H8 (.ref s₂.heap.objs.size) [y'] _ [y] (fun _ H9=>H9=upd H8 s₂.heap.objs.size (.lst (ys ++ [y']))) I8 rfl (.cons r8 .nil) ⟨_,_,_,rfl,rfl,hD8,hlt,rfl⟩) fun _ s9 ⟨_,H9,I9,_,e9⟩=>?_
        subst e9
        obtain ⟨t1,t2,t3⟩:=tail I9
        exact ⟨m',hm,i + 1,ys ++ [y'],some v,_,t1,t2,t3,w8⟩
  exact codeAny_compStart_list (loop _) (T.self _ 0 _ _ _ hst₁ (loop _))
noncomputable def tComp (frees:List (Str×Nat)) (tc:TT) (te:TE) (wi:TI):TE:=fun σ H Q=>wi σ H fun J H1=>CompB J tc te (inSt frees σ) H1 Q
theorem pe_comp {wi:TI} (O:CompOk X scope x frees) (hxe:X.xe=fun _ _=>False) (hi:PI X (.Name x px) iter wi)
    (hc:∀ C ex s₂ H₂,PIfs (compCx X scope (x :: frees.map (·.1)) C ex s₂ H₂) ifs tc) (he:∀ C ex s₂ H₂,PE (compCx X scope (x :: frees.map (·.1)) C ex s₂ H₂) elt te)
    (hs:∀ x,foldedSetIterable iter X.env x=pure x:=by intro _;rfl):PE X (.ListComp elt [⟨.Name x px,iter,ifs,0⟩] scope pos) (tComp frees tc te wi):=by
  intro pins s σ H Q I h
  rw [eval_ListComp]
  refine wpAny_comprehension_free (use:=none) rfl hs (closureFor_of O.cl) O.kind O.names (thn (hi pins s σ H _ I h) fun xv s₁ h₁=>thn h₁ fun itv s₂ h₂=>?_)
  obtain ⟨it,fp,tn,J,H2,e,I2,T,st2,f2,hB⟩:=h₂
  subst e
  refine comp_core (RR:=fun acc C=>compPost (model X.prog X.w) X.A X.xe none (EP X pins σ Q) acc C) O hc he I2 T st2 f2 hB ?_
  intro D C H' s' I' hn hC q
  obtain ⟨m,hn⟩:=hn
  refine ⟨m,hn,fun h' hs'=>?_⟩
  exact ⟨.ref D,H',I'.turned (t':=s'.toks) (fun b o hb e=>hs'.extBut b o hb e) hC.1 hC.2.1 hC.2.2.2.1 hC.2.2.2.2.1 hC.2.2.2.2.2,rfl,q⟩
theorem ps_comp {wi:TI} {i:Nat} {y:Str} {py spos:Pos} (O:CompOk X scope x frees) (hN:X.N.Nodup) (hiy:X.N[i]?=some y) (hy:X.env.kindOf y=some .local) (hsw:swapsWith (.ListComp elt [⟨.Name x px,iter,ifs,0⟩] scope pos) (some (.Name y py)) spos.line X.env=pure true)
    (hi:PI X (.Name x px) iter wi) (hc:∀ C ex s₂ H₂,PIfs (compCx X scope (x :: frees.map (·.1)) C ex s₂ H₂) ifs tc) (he:∀ C ex s₂ H₂,PE (compCx X scope (x :: frees.map (·.1)) C ex s₂ H₂) elt te)
    (hs:∀ x,foldedSetIterable iter X.env x=pure x:=by intro _;rfl):PS X (.Assign [.Name y py] (.ListComp elt [⟨.Name x px,iter,ifs,0⟩] scope pos) spos) (tAsg (tComp frees tc te wi) (gName i)):=by
  intro pins s σ H D I h
  rw [exec_Assign_Name_used _ _ _ _ hsw]
  refine wpAny_bind (wpAny_standAt (wpAny_bind ?_))
  show wpAny _ X.A (do let _ ← comprehension (.ListComp elt [⟨.Name x px,iter,ifs,0⟩] scope pos) scope X.env _ (newList []) false (eval iter X.env) (some (assign (.Name y py) X.env))) _ _ s
  refine wpAny_bind (wpAny_mono (wpAny_comprehension_free (use:=some (assign (.Name y py) X.env)) (Q:=fun _ s'=>SP X pins D .next s') rfl hs (closureFor_of O.cl) O.kind O.names
    (thn (hi pins s σ H _ I h) fun xv s₁ h₁=>thn h₁ fun itv s₂ h₂=>?_)) (fun _ s' hq=>wpAny_pure (wpAny_pure hq)) fun _ _ e=>e)
  obtain ⟨it,fp,tn,J,H2,e,I2,T,st2,f2,hB⟩:=h₂
  subst e
  refine comp_core (RR:=fun acc C=>compPost (model X.prog X.w) X.A X.xe (some (assign (.Name y py) X.env)) (fun _ s'=>SP X pins D .next s') acc C) O hc he I2 T st2 f2 hB ?_
  intro A C H' s' I' hn hC q
  obtain ⟨m,hn⟩:=hn
  obtain ⟨oC,es,ep,hoC,hdC,hr⟩:=id hn
  have I'':Inv X (pins ++ [(C,oC)]) σ H' s':=I'.pins_of fun p hp=>(List.mem_append.mp hp).elim (fun z=>I'.pin p (List.mem_append_right _ z)) fun z=>by
    rw [List.mem_singleton.mp z]
    exact ⟨hoC,hC.1,hC.2.1,hC.2.2.1,fun v e=>by rw [hdC] at e;cases e⟩
  show wpAny _ X.A (assign (.Name y py) X.env (.ref A)) _ _ _
  refine wpAny_assign_Name (store_ok I'' hN hiy (.inl hy) (v:=.ref A) rfl (fun s3 I3=>?_) (.inr hy))
  have hC3:=(I3.pin (C,oC) (List.mem_append_right _ (List.mem_append_right _ (List.mem_singleton.mpr rfl)))).1
  have J3:Inv X pins (σ.set i (some (.ref A))) H' s3:=I3.unpinned
  refine ⟨m,⟨oC,es,ep,hC3,hdC,hr⟩,fun h' hs'=>?_⟩
  exact ⟨_,H',J3.turned (t':=s3.toks) (fun b o hb e=>hs'.extBut b o hb e) hC.1 hC.2.1 hC.2.2.2.1 hC.2.2.2.2.1 hC.2.2.2.2.2,q⟩
end
end L2
namespace L2
open PySem PySem.Spec PyProof.Rows
section
variable {X:Cx}
noncomputable def rSlS:V→Option Int→Option Int→Hp→VK→Prop:=fun x lo hi H Q=>∃ z,x=.str z∧z.length≤sizeLine∧Q (.str (Txt.slice z lo hi)) H
theorem part_of {v:Value} {o:Option Int} (p:IsPart v o):∃ l:Option (Int×Tok),v=partValue l∧l.map (·.1)=o:=by
  cases p with
  | none=>exact ⟨none,rfl,rfl⟩
  | int i t=>exact ⟨some (i,t),rfl,rfl⟩
theorem sl_str:SlR X rSlS:=by
  intro pins s σ H x v vl vu lo hi sl Q I rx hs pl pu h
  obtain ⟨z,rfl,hz,q⟩:=h
  obtain ⟨t,rfl⟩:=rx
  obtain ⟨l,rfl,rfl⟩:=part_of pl
  obtain ⟨u,rfl,rfl⟩:=part_of pu
  exact ⟨"str",_,F.slot_str_getitem.lookup,typeIs_str _ _ _,wpAny_getItem_str_slice (l:=l) (u:=u) (st:=none) hs rfl
    (post_val_or_str ⟨Nat.le_trans (Txt.slice_le z _ _) hz,fun t' k=>⟨.str _,H,I.tok _,⟨t',rfl⟩,q⟩⟩)⟩
end
structure Seq (J:It) (H1:Hp) (xs:List V):Prop where
  go:∀ i H,Same H1 H→i < xs.length→J.go i H
  yld:∀ i H x H',Same H1 H→i < xs.length→J.yld i H x H'→H'=H∧xs[i]?=some x
  stop:∀ H,Same H1 H→J.stop xs.length H
theorem seq_range (lo:Int) (n:Nat) (H1:Hp):Seq (Itr lo n) H1 ((List.range n).map fun i=>V.int (lo + (i:Nat))) where
  go:=fun i H _ h=>by
    rw [List.length_map,List.length_range] at h
    exact h
  yld:=fun i H x H' _ hi h=>by
    obtain ⟨e,hx⟩:=h
    refine ⟨e,?_⟩
    rw [List.length_map,List.length_range] at hi
    rw [List.getElem?_map,List.getElem?_range hi,hx]
    rfl
  stop:=fun H _=>by
    show n≤_
    rw [List.length_map,List.length_range]
    exact Nat.le_refl _
theorem seq_list {K:PySem.W.Frag} {a:Addr} {xs:List V} {H1:Hp} (h:SqL K H1 a xs):Seq (Itl K a) H1 xs where
  go:=fun i H e hi=>⟨xs,xs[i],e.seq h,List.getElem?_eq_getElem hi⟩
  yld:=fun i H x H' e _ y=>⟨y.1,y.2 xs (e.seq h)⟩
  stop:=fun H e=>⟨xs,e.seq h,Nat.le_refl _⟩
theorem take_more {α:Type} {xs:List α} {i:Nat} {x:α} (h:xs[i]?=some x):xs.take (i + 1)=xs.take i ++ [x]:=by
  rw [List.take_succ,h]
  rfl
theorem compB_seq {J:It} {tc:TT} {te:TE} {σf:Option V→St} {H1:Hp} {Q:VK} {xs:List V} (S:Seq J H1 xs) (p:V→Bool) (g:V→V) (hz:xs.length < sizeLine)
    (hc:∀ x∈xs,∀ (H':Hp) (R:Bool→Hp→Prop),Same H1 H'→R (p x) H'→tc (σf (some x)) H' R)
    (he:∀ x∈xs,∀ (H':Hp) (R:VK),Same H1 H'→p x=true→R (g x) H'→te (σf (some x)) H' R)
    (q:∀ D H',Same H1 H'→H1 D=none→H' D=some (.lst ((xs.filter p).map g))→Q (.ref D) H'):CompB J tc te σf H1 Q:=by
  intro D hD
  refine ⟨fun i m ys H2=>m=xs.length - i∧i≤xs.length∧Same H1 H2∧H2 D=some (.lst ys)∧ys=((xs.take i).filter p).map g,⟨xs.length,rfl,Nat.zero_le _,same_new hD _,upd_same,rfl⟩,?_⟩
  rintro i m ys H2 ⟨rfl,hi,sm,hD2,rfl⟩
  refine ⟨hD2,?_⟩
  by_cases hlt:i < xs.length
  · refine .inr ⟨S.go i H2 sm hlt,?_,fun x H3 y=>?_⟩
    · rw [List.length_map]
      refine Nat.lt_of_le_of_lt (List.length_filter_le _ _) ?_
      rw [List.length_take]
      omega
    · obtain ⟨e,hx⟩:=S.yld i H2 x H3 sm hlt y
      subst e
      have mem:x∈xs:=List.mem_of_getElem? hx
      refine hc x mem _ _ sm ?_
      cases hp:p x with
      | false =>
        refine iteF ⟨xs.length - (i + 1),by omega,rfl,hlt,sm,hD2,?_⟩
        rw [take_more hx,List.filter_append,List.filter_cons_of_neg (by rw [hp];decide),List.filter_nil,List.append_nil]
      | true =>
        refine iteT (he x mem _ _ sm hp ⟨hD2,xs.length - (i + 1),by omega,rfl,hlt,same_on hD sm _,upd_same,?_⟩)
        rw [take_more hx,List.filter_append,List.filter_cons_of_pos hp,List.filter_nil,List.map_append]
        rfl
  · have e:i=xs.length:=by omega
    subst e
    refine .inl ⟨S.stop H2 sm,q D H2 sm hD ?_⟩
    rw [hD2,List.take_of_length_le (Nat.le_refl _)]
noncomputable def cellsFor (cells:List (Str×Addr)) (names:List (Str×NameKind)):Bool:=names.all fun p=>if (p.2 == NameKind.free)=true then (cells.lookup p.1).isSome else true
theorem cellsFor_at {cells:List (Str×Addr)} {names:List (Str×NameKind)} (h:cellsFor cells names=true):∀ p∈names,p.2=.free→(cells.lookup p.1).isSome=true:=fun p hp hk=>by
  have q:=(List.all_eq_true.mp h) p hp
  rw [hk,show (NameKind.free == NameKind.free)=true from rfl,if_pos rfl] at q
  exact q
end L2
namespace L2
open PySem PySem.Spec PyProof.Rows
section
variable {X:Cx}
theorem call_int_text:CallR X (.type "int") (fun xs H Q=>∃ z n,xs=[.str z]∧PySem.intText? z=some n∧z.length≤640∧Q (.int n) H):=by
  intro pins s σ H xs us Q I r h
  obtain ⟨z,n,rfl,hn,hl,q⟩:=h
  obtain ⟨u,rfl,t,rfl⟩:=vals1 r
  exact PySem.W.KIN.call_text hn hl ⟨.int n,H,I.tok _,⟨_,rfl⟩,q⟩
theorem kit_int_bool (K:PySem.W.Frag):PySem.W.kitOne K (.type "int") (.type "bool")=some false:=by
  have e1:PySem.W.kitMeta "bool"=true:=by decide +kernel
  have e2:PySem.W.subIn K (.type "int") (.type "bool")=some false:=by
    show (fastBuiltinMro "int").map (·.contains (Value.type "bool"))=some false
    decide +kernel
  show (if (Value.type "int" == Value.type "bool")=true then some true else (if PySem.W.kitMeta "bool"=true then PySem.W.subIn K (.type "int") (.type "bool") else none))=some false
  rw [if_neg (by decide),if_pos e1]
  exact e2
noncomputable def rIxLA (K:PySem.W.Frag):R2:=fun x y H Q=>∃ p xs i,x=.ref p∧y=.int i∧SqL K H p xs∧0≤i∧i < ((xs.length:Nat):Int)∧∀ v,xs[i.toNat]?=some v→Q v H
theorem ix_listA:IxR X (rIxLA X.K):=by
  intro value slice pins s σ H x y v u Q I rx ry h hs
  obtain ⟨p,xs,i,rfl,rfl,hq,h0,h1,q⟩:=h
  obtain ⟨c,e1,e2⟩:=at_in (xs:=xs) h0 h1
  exact ix_list value slice pins s σ H _ _ v u Q I rx ry ⟨p,xs,i,c,rfl,rfl,hq,e2,q c e1⟩ hs
noncomputable def intV:V→Bool
  | .int _=>true
  | _=>false
end
end L2
namespace L2
open PySem PySem.Spec PyProof.Rows
section
variable {X:Cx}
noncomputable def PSk (X:Cx) (st:Stmt) (t:TS):Prop :=
  ∀ (pins:List (Addr×Obj)) (s:Shared) (σ:St) (H:Hp) (D:Ends),Inv X pins σ H s→1≤s.toks→t D σ H→wpAny (model X.prog X.w) X.A (exec st X.env) (SP X pins D) X.xe s
noncomputable def PSsK (X:Cx) (st:List Stmt) (t:TS):Prop :=
  ∀ (pins:List (Addr×Obj)) (s:Shared) (σ:St) (H:Hp) (D:Ends),Inv X pins σ H s→1≤s.toks→t D σ H→wpAny (model X.prog X.w) X.A (execs st X.env) (SP X pins D) X.xe s
noncomputable def PEk (X:Cx) (e:Expr) (t:TE):Prop :=
  ∀ (pins:List (Addr×Obj)) (s:Shared) (σ:St) (H:Hp) (Q:VK),Inv X pins σ H s→1≤s.toks→t σ H Q→wpAny (model X.prog X.w) X.A (eval e X.env) (EP X pins σ Q) X.xe s
noncomputable def PE1 (X:Cx) (e:Expr) (t:TE):Prop :=
  ∀ (pins:List (Addr×Obj)) (s:Shared) (σ:St) (H:Hp) (Q:VK),Inv X pins σ H s→t σ H Q→wpAny (model X.prog X.w) X.A (eval e X.env) (fun u s'=>1≤s'.toks∧EP X pins σ Q u s') X.xe s
noncomputable def PS1 (X:Cx) (st:Stmt) (t:TS):Prop :=
  ∀ (pins:List (Addr×Obj)) (s:Shared) (σ:St) (H:Hp) (D:Ends),Inv X pins σ H s→t D σ H→wpAny (model X.prog X.w) X.A (exec st X.env) (fun f s'=>1≤s'.toks∧SP X pins D f s') X.xe s
noncomputable def tRepl (y z:Str) (to:TE):TE:=fun σ H Q=>to σ H fun v H1=>∃ x,v=.str x∧x.length + (x.length + 1) * z.length≤16777216∧∀ u:Str,u.length≤x.length + (x.length + 1) * z.length→Q (.str u) H1
end
end L2
namespace L2
open PySem PySem.Spec PyProof.Rows
section
variable {prog:Program} {w:World} {A:Around} {E:Value→Shared→Prop} {s:Shared}
set_option maxHeartbeats 2000000 in
end
end L2
namespace L2
open PySem PySem.Spec PyProof.Rows
section
variable {prog:Program} {w:World} {A:Around} {E:Value→Shared→Prop} {s:Shared}
end
end L2
namespace L2
open PySem PySem.Spec PyProof.Rows
section
variable {prog:Program} {w:World} {A:Around} {E:Value→Shared→Prop} {s:Shared}
end
noncomputable def Ite (K:PySem.W.Frag) (a:Addr) (j:Int):It :=
  ⟨fun i H=>∃ xs x,SqL K H a xs∧xs[i]?=some x,fun i H x H'=>∃ p y,x=.ref p∧H p=none∧H'=upd H p (.tup [.int (j + (i:Nat)),y])∧∀ xs,SqL K H a xs→xs[i]?=some y,fun i H=>∃ xs,SqL K H a xs∧xs.length=i⟩
section
variable {X:Cx} {elts:List Expr} {x1:Nat} {tpos:Pos}
noncomputable def iEnumK (K:PySem.W.Frag) (tl:TA) (tj:TA):TI:=fun σ H R=>tl σ H fun vs H1=>tj σ H1 fun zs H2=>∃ a j,vs=[.ref a]∧zs=[.int j]∧(∃ xs,SqL K H2 a xs)∧Builtin.SmallTypes.fitsIndex j=true∧R (Ite K a j) H2
noncomputable def iEnum (K:PySem.W.Frag) (tl:TA):TI:=fun σ H R=>tl σ H fun vs H1=>∃ a,vs=[.ref a]∧(∃ xs,SqL K H1 a xs)∧R (Ite K a 0) H1
end
end L2
namespace L2
open PySem PySem.Spec PyProof.Rows
section
variable {X:Cx} {pins:List (Addr×Obj)} {σ:St} {H:Hp} {s:Shared} {d:Addr} {kvs:List (Key×V)}
theorem Inv.freeze (I:Inv X pins σ H s) (h:H d=some (.dK kvs)):∃ o,s.heap.get? d=some o∧Inv X pins σ (upd H d (.frz o (.dK kvs))) s:=by
  obtain ⟨z,hd,vs,r,o,es,ep,e,c⟩:=I.hok d _ h
  have mu:Mut (H d):=by rw [h];trivial
  refine ⟨o,e,I.un (h':=s.heap) (t':=s.toks) (Un.write mu (.inl rfl) (fun _ _ _ q=>q) ⟨o,e⟩) (I.hok.write mu (.inl rfl) (fun _ _ _ q=>q) ⟨o,e⟩ ⟨e,z,hd,vs,r,o,es,ep,e,c⟩)⟩
theorem Inv.thaw {o:Obj} (I:Inv X pins σ H s) (h:H d=some (.frz o (.dK kvs))) (h0:∀ o u,X.H₀ d≠some (.frz o u)):Inv X pins σ (upd H d (.dK kvs)) s:=by
  have nn:∀ b,H b=none→b≠d:=fun b q z=>by rw [z,h] at q;cases q
  refine ⟨I.ok,I.os,I.bare,⟨I.base.keep,I.base.slot,fun b o' e n hx=>?_,I.base.there,fun b xs e=>?_,fun b o' u e=>?_,fun b ps e=>?_⟩,I.loc,I.cell,?_,fun x c e=>?_,fun p hp=>?_,fun b u e=>?_,I.len⟩
  · have q:=I.base.free b o' e n hx
    rw [upd_ne (nn b q)]
    exact q
  · have q:=I.base.tups b xs e
    rw [upd_ne (ne_of q h (by intro z;cases z))]
    exact q
  · have q:=I.base.frzs b o' u e
    rw [upd_ne (fun z=>h0 o' u (by rw [← z];exact e))]
    exact q
  · obtain ⟨more,q⟩:=I.base.tbls b ps e
    refine ⟨more,?_⟩
    rw [upd_ne (ne_of q h (by intro z;cases z))]
    exact q
  · rw [upd_ne (nn _ I.free)]
    exact I.free
  · rw [upd_ne (nn _ (I.freeC x c e))]
    exact I.freeC x c e
  · obtain ⟨a,b,c⟩:=I.pin p hp
    exact ⟨a,by rw [upd_ne (nn _ b)];exact b,c⟩
  · by_cases hb:b=d
    · subst hb
      rw [upd_same] at e
      cases e
      obtain ⟨q,ok⟩:=I.hok b _ h
      exact ok
    · rw [upd_ne hb] at e
      exact (I.hok b u e).stay (fun _ _ _ q=>q) (fun c q=>by rw [upd_ne (ne_of q h (by intro z;cases z))];exact q) (fun c xs q=>by rw [upd_ne (ne_of q h (by intro z;cases z))];exact q)
theorem Inv.unfrozen (I:Inv X pins σ H s) (h:H d=some (.dK kvs)):∀ o u,X.H₀ d≠some (.frz o u):=fun o u e=>by
  have q:=I.base.frzs d o u e
  rw [h] at q
  cases q
noncomputable def tFrz (t:TE):TE:=fun σ H Q=>∃ (d:Addr) (kvs:List (Key×V)),H d=some (.dK kvs)∧∀ o,t σ (upd H d (.frz o (.dK kvs))) fun v H'=>H' d=some (.frz o (.dK kvs))∧Q v (upd H' d (.dK kvs))
theorem pe_frz {e:Expr} {t:TE} (h:PE X e t):PE X e (tFrz t):=by
  intro pins s σ H Q I hw
  obtain ⟨d,kvs,hd,q⟩:=hw
  obtain ⟨o,eo,I1⟩:=I.freeze hd
  refine thn (h pins s σ _ _ I1 (q o)) fun v s1 ⟨x,H1,I2,r,hz,q2⟩=>?_
  exact ⟨x,_,I2.thaw hz (I.unfrozen hd),r,q2⟩
noncomputable def sFrz (t:TS):TS:=fun D σ H=>∃ (d:Addr) (kvs:List (Key×V)),H d=some (.dK kvs)∧∀ o,t { nx:=fun σ' H'=>H' d=some (.frz o (.dK kvs))∧D.nx σ' (upd H' d (.dK kvs)),rt:=fun v H'=>H' d=some (.frz o (.dK kvs))∧D.rt v (upd H' d (.dK kvs)),bk:=fun σ' H'=>H' d=some (.frz o (.dK kvs))∧D.bk σ' (upd H' d (.dK kvs)),ct:=fun σ' H'=>H' d=some (.frz o (.dK kvs))∧D.ct σ' (upd H' d (.dK kvs)) } σ (upd H d (.frz o (.dK kvs)))
end
noncomputable def Itd (d:Addr) (o:Obj) (kvs:List (Key×V)):It :=
  ⟨fun i H=>H d=some (.frz o (.dK kvs))∧i < kvs.length,fun i H x H'=>H'=H∧∃ k v,kvs[i]?=some (k,v)∧x=kV k,fun i H=>H d=some (.frz o (.dK kvs))∧kvs.length=i⟩
theorem rel_key {k:Key} {v:Value} (h:keyIs k v=true):RelV (kV k) v:=by
  rcases keyIs_shape h with ⟨i,t,rfl,rfl⟩ | ⟨x,t,rfl,rfl⟩
  · exact ⟨t,rfl⟩
  · exact ⟨t,rfl⟩
theorem turn_dict {P:Program} {w:World} {K:PySem.W.Frag} {tg:Expr} (d it:Addr) (o:Obj) (kvs:List (Key×V)) {vs:List (Key×Value)} {es:Array DictEntry} {ep:Nat} (rk:KV kvs vs) (hd:o.ExactDict) (he:o.data=.dict es ep) (hk:KeysOf (mixKind P w) es) (hp:Pairs (mixKind P w) es.toList vs) (nd:(vs.map (·.1)).Nodup) :
    Turn P w K tg (Itd d o kvs) [it] it (fun i h=>h.IsKeyIter it d i vs.length ep) where
  mem:=by simp
  obj:=fun i h st b hb=>by
    have e:b=it:=by simpa using hb
    subst e
    obtain ⟨o,e,c,d⟩:=st
    exact ⟨o,e,fun v z=>by rw [d] at z;cases z⟩
  keep:=fun i h h' st k=>st.at fun o e=>k it (by simp) o e
  item:=by
    intro X hP hw hK hc i pins s σ H E I hf st hg
    subst hP hw hK
    obtain ⟨hz,hi⟩:=hg
    obtain ⟨eo,_⟩:=I.hok d _ hz
    obtain ⟨f0,f1,f2,f3,f4,f5⟩:=hf it (by simp)
    have hl:=KV.length rk
    have hi2:i < vs.length:=by omega
    have ev:vs[i]?=some (vs[i].1,vs[i].2):=List.getElem?_eq_getElem hi2
    have ks:kvs[i]?=some (kvs[i].1,kvs[i].2):=List.getElem?_eq_getElem hi
    have keq:kvs[i].1=vs[i].1:=by
      have q:=KV.keys rk
      have q1:(kvs.map (·.1))[i]?=(vs.map (·.1))[i]?:=by rw [q]
      rw [List.getElem?_map,List.getElem?_map,ks,ev] at q1
      exact Option.some.inj q1
    refine wpAny_pyNext_dict_item st ⟨o,es,eo,hd,he,hk,hp,nd⟩ ev fun key h' hkey st' sb=>?_
    have I1:Inv X pins σ H { s with heap:=h' }:=I.turned (t':=s.toks) (fun b o hb e=>(sb.2 b hb).trans e) f0 f1 f3 f4 f5
    obtain ⟨o2,e2,c2,d2⟩:=id st'
    refine ⟨key,rfl,go_of (s:={ s with heap:=h' }) e2 c2 d2 (by decide) ⟨kV kvs[i].1,H,I1,?_,⟨rfl,_,_,ks,rfl⟩,st',fun b hb=>(hf b hb).1⟩⟩
    rw [keq]
    exact rel_key hkey
  done:=by
    intro X hP hw hK hc i pins s σ H E I hf st hg
    subst hP hw hK
    obtain ⟨hz,hi⟩:=hg
    obtain ⟨eo,_⟩:=I.hok d _ hz
    obtain ⟨f0,f1,f2,f3,f4,f5⟩:=hf it (by simp)
    have hl:=KV.length rk
    have hin:vs[i]?=none:=List.getElem?_eq_none (by omega)
    exact wpAny_pyNext_dict_end (I.ok.hd hc) st ⟨o,es,eo,hd,he,hk,hp,nd⟩ hin fun h' eb=>⟨rfl,I.turned (t':=s.toks) (fun b o hb e=>eb b o hb e) f0 f1 f3 f4 f5⟩
  self:=fun _ _ _ _ _ st h=>wpAny_pyIter_keyiter st h
section
variable {X:Cx} {tg:Expr}
noncomputable def iDict (tl:TE):TI:=fun σ H R=>tl σ H fun x H1=>∃ d o kvs,x=.ref d∧H1 d=some (.frz o (.dK kvs))∧R (Itd d o kvs) H1
theorem pi_dict {l:Expr} {tl:TE} (hl:PE X l tl):PI X tg l (iDict tl):=by
  intro pins s σ H R I h
  refine thn (hl pins s σ H _ I h) fun v s1 ⟨x,H1,I1,r1,q1⟩=>?_
  obtain ⟨d,o,kvs,rfl,hz,q⟩:=q1
  cases r1
  obtain ⟨eo,z,hd,vs,rk,o',es,ep,e',xd,dt,ko,pr,nd⟩:=I1.hok d _ hz
  rw [eo] at e'
  cases e'
  refine wpAny_pyIter_dict hd ⟨o,es,eo,xd,dt,ko,pr,nd⟩ ?_
  refine ⟨s1.heap.objs.size,[s1.heap.objs.size],_,_,H1,rfl,I1.kept (t':=s1.toks) fun b o e=>Heap.get?_push_of_some _ e,turn_dict d _ o kvs rk xd dt ko pr nd,⟨_,Heap.get?_push_size _ rfl,rfl,rfl⟩,fun b hb=>?_,q⟩
  have e:b=s1.heap.objs.size:=by simpa using hb
  subst e
  exact I1.fpOk (Nat.le_refl _) (I1.hok.fresh (Nat.le_refl _))
theorem seq_dict {d:Addr} {o:Obj} {kvs:List (Key×V)} {H1:Hp} (h:H1 d=some (.frz o (.dK kvs))):Seq (Itd d o kvs) H1 (kvs.map fun p=>kV p.1) where
  go:=fun i H e hi=>⟨e _ _ h,by rw [List.length_map] at hi;exact hi⟩
  yld:=fun i H x H' e _ y=>by
    obtain ⟨a,k,v,b,c⟩:=y
    refine ⟨a,?_⟩
    rw [List.getElem?_map,b,c]
    rfl
  stop:=fun H e=>⟨e _ _ h,by rw [List.length_map]⟩
noncomputable def rInsert:V→List V→Hp→VK→Prop:=fun x vs H Q=>∃ l xs i y,x=.ref l∧vs=[.int i,y]∧H l=some (.lst xs)∧0≤i∧i≤((xs.length:Nat):Int)∧xs.length < sizeLine∧Q .non (upd H l (.lst (xs.take i.toNat ++ y :: xs.drop i.toNat)))
structure Dfn (P:Program) (w:World) (K:PySem.W.Frag) (mg:Str→Option Value) (base:Heap) (k:Nat) (x:Str) (ps:List Str) (sp:Sp):Prop where
  ex:∃ f fd,FnOk P w K mg base CX0 k f fd ps sp∧Binds K fd ps []∧PySem.W.keepIn K (.ref f)=true∧mg x=some (.ref f)
theorem pe_callD {k:Nat} {x:Str} {ps:List Str} {sp:Sp} {e:Expr} {es:List Expr} {t:TA} {p pos:Pos} (D:Dfn X.prog X.w X.K X.mg X.base k x ps sp) (hr:Room k X.A) (hg:Gl X x) (ha:PA X (e :: es) t) (hdb:(x == ("__debug__":Str))=false:=by decide)
    (he:starEach (e :: es) X.env=(false,eval e X.env) :: starEach es X.env:=by rfl) (hpl:(backTo pos (starEach es X.env)).any (·.1)=false:=by rfl):PE X (.Call (.Name x p) (e :: es) [] pos) (tCall sp [] E0 t):=by
  obtain ⟨f,fd,F,b,kp,m⟩:=D.ex
  exact pe_call F hr hg m kp b .nil pass0 ha hdb he hpl
structure GS (mg:Str→Option Value) (x:Str) (z:Str):Prop where
  ex:∃ t,mg x=some (.str z t)
structure GI (mg:Str→Option Value) (x:Str) (z:Int):Prop where
  ex:∃ t,mg x=some (.int z t)
theorem pe_gs {x z:Str} {pos:Pos} (G:GS X.mg x z) (hg:Gl X x) (hd:(x == ("__debug__":Str))=false:=by decide):PE X (.Name x pos) (tC (.str z)):=by
  obtain ⟨t,e⟩:=G.ex
  exact pe_glob hg e (rel_str _ _) hd
theorem pe_gi {x:Str} {z:Int} {pos:Pos} (G:GI X.mg x z) (hg:Gl X x) (hd:(x == ("__debug__":Str))=false:=by decide):PE X (.Name x pos) (tC (.int z)):=by
  obtain ⟨t,e⟩:=G.ex
  exact pe_glob hg e (rel_int _ _) hd
end
end L2
namespace L2
open PySem PySem.Spec PyProof.Rows
section
variable {X:Cx}
structure MkD (P:Program) (w:World) (K:PySem.W.Frag) (mg:Str→Option Value) (base:Heap) (k:Nat) (x:Str) (C:Addr) (ps:List Str) (sp:Sp):Prop where
  ex:∃ f fd,Mk K C f∧FnOk P w K mg base CX0 k f fd ps sp∧Binds K fd ps []∧mg x=some (.ref C)
theorem pe_makeD {k:Nat} {x:Str} {C:Addr} {ps:List Str} {sp:Sp} {e:Expr} {es:List Expr} {t:TA} {p pos:Pos} (D:MkD X.prog X.w X.K X.mg X.base k x C ps sp) (hr:Room (k + 1) X.A) (hg:Gl X x) (ha:PA X (e :: es) t) (hdb:(x == ("__debug__":Str))=false:=by decide)
    (he:starEach (e :: es) X.env=(false,eval e X.env) :: starEach es X.env:=by rfl) (hpl:(backTo pos (starEach es X.env)).any (·.1)=false:=by rfl):PE X (.Call (.Name x p) (e :: es) [] pos) (tMake C sp [] E0 t):=by
  obtain ⟨f,fd,M,F,b,m⟩:=D.ex
  exact pe_make M F hr hg m b .nil pass0 ha hdb he hpl
structure MtD (P:Program) (w:World) (K:PySem.W.Frag) (mg:Str→Option Value) (base:Heap) (k:Nat) (m:Str) (C:Addr) (ps:List Str) (sp:Sp):Prop where
  ex:∃ f fd,Meth K C m f∧FnOk P w K mg base CX0 k f fd ps sp∧Binds K fd ps []
theorem pt_truthK {K:PySem.W.Frag} {a:Expr} {ta:TE} (hK:X.K=K) (ha:PE X a ta) (he:∀ whole,isTrue a X.env whole=(do let v ← whole;standAt a.pos;holding [v] (truthy v))):PT X a (fun σ H Q=>ta σ H fun x H'=>∃ k,TruV K x H' k∧Q k H'):=by
  subst hK
  exact pt_truth ha he
theorem pe_ixK {K:PySem.W.Frag} {a b:Expr} {ta tb:TE} {pos:Pos} {r:PySem.W.Frag→R2} (hK:X.K=K) (hr:IxR X (r X.K)) (ha:PE X a ta) (hb:PE X b tb) (hs:PlainIx b):PE X (.Subscript a b pos) (tOp (r K) ta tb):=by
  subst hK
  exact pe_ix hr ha hb hs
theorem pe_fldK {K:PySem.W.Frag} {e:Expr} {ta:TE} {f:Str} {pos:Pos} (hK:X.K=K) (he:PE X e ta) (hb:attributeBase e f X.env (eval e X.env)=eval e X.env):PE X (.Attribute e f pos) (tFld K ta f):=by
  subst hK
  exact pe_fld he hb
noncomputable def tAt (t:TS):TS:=fun D σ H=>∃ σ',σ=σ'∧t D σ' H
end
end L2
namespace PySem.W
open PySem PySem.Spec PySem.Calls PyProof.Rows Builtin Builtin.ObjectAttr Builtin.Getset_descriptor
noncomputable abbrev veMro:List Value:=[.type "ValueError",.type "Exception",.type "BaseException",.type "object"]
noncomputable def excMk (K:Frag) (C:Addr):Bool:=match K.lookup C with
  | some ⟨.type "type",_,.cls cd,sls⟩=>(match cd.mro,sls.toList with
    | .ref C' :: tlm,[_,_,_,_,some (.builtin n),_]=>C' == C && n == "ValueError.__new__" && !cd.hasDel && tailIn K veMro tlm
    | _,_=>false)
  | _=>false
noncomputable def ExcAt (h:Heap) (C:Addr) (tlm:List Value):Prop:=∃ N nm q bs hdct sn sub ab col dd q0 q1 q2 q3 q5,h.get? C=some (excClassObj nm q C N bs tlm hdct sn sub ab col dd q0 q1 q2 q3 q5 "ValueError.__new__")
theorem excMk_obj {K:Frag} {h:Heap} {C:Addr} (X:K.In h) (q:excMk K C=true):∃ tlm,ExcAt h C tlm∧OwnTail h veMro tlm:=by
  unfold excMk at q
  split at q
  · rename_i dd cd sls ho
    split at q
    · rename_i C' tlm q0 q1 q2 q3 n q5 hmm hss
      simp only [beq_iff_eq,Bool.and_eq_true,Bool.not_eq_true'] at q
      obtain ⟨⟨⟨rfl,rfl⟩,hdel⟩,ht⟩:=q
      obtain ⟨nm,bs,mro,ns,qun,hd,sn,sub,ab,col,del⟩:=cd
      dsimp only at hmm hdel
      subst hmm hdel
      have hsl:sls=#[q0,q1,q2,q3,some (.builtin "ValueError.__new__"),q5]:=by
        obtain ⟨l⟩:=sls
        simp only at hss
        rw [hss]
      subst hsl
      exact ⟨tlm,⟨ns,nm,qun,bs,hd,sn,sub,ab,col,dd,q0,q1,q2,q3,q5,X _ _ ho⟩,tail_of_in X ht⟩
    · cases q
  · cases q
noncomputable abbrev excTup (us:List Value):Obj:={ cls:=.type "tuple",data:=.seq us.toArray }
noncomputable abbrev excNew (C t0:Addr):Obj:={ cls:=.ref C,data:=.fields #[.ref t0,.none,.none,.none,.bool false,.none] }
section
variable {prog:Program} {w:World} {A:Around} {K:Frag} {C f:Addr} {R:Result→Shared→Prop} {h:Heap} {g:Array GenState} {d:Drawn} {t:Nat} {os:OsState}
theorem make_X {us:List Value} (X:K.In h) (e:excMk K C=true) (hi:findIn K (.ref C) "__init__"=some (some (.ref f))) (hf:typeIn K (.ref f)=some (.type "function")) (hrest:us.length≤sizeLine)
    (hq:codeAny (model prog w) (A.under (.builtin "type.__call__" ⟨.ref C :: us,[]⟩)) (.call (.ref f) ⟨.ref (h.objs.size + 1) :: us,[]⟩) (InitBack (h.objs.size + 1) R) ⟨(h.push (excTup us)).push (excNew C h.objs.size),g,d,t,os⟩) :
    codeAny (model prog w) A (.call (.ref C) ⟨us,[]⟩) R ⟨h,g,d,t,os⟩:=by
  obtain ⟨tlm,⟨N,nm,q,bs,hdct,sn,sub,ab,col,dd,q0,q1,q2,q3,q5,hCl⟩,T⟩:=excMk_obj X e
  have FB:=PySem.F.excBase_ValueError
  have f1:=tc_lookup
  have f2:=tc_bind (.ref C)
  have hTy:(⟨h,g,d,t,os⟩:Shared).TypeIs (.ref C) "type":=⟨_,hCl,rfl⟩
  refine codeAny_of_tree ?_
  show wpAny (model prog w) A.in1 (callAny (.ref C) _) _ _ _
  repeat (any_goals (first | assumption | with_reducible refine wpAny_loadPart_at hCl ?_ | wp_step))
  refine ⟨rfl,?_⟩
  refine codeAny_call_builtin_at (Code.quiet_builtin _ (by decide +kernel)) entry_typeCall (wpAny_check_type_call_sub hCl ?_)
  repeat (first | with_reducible refine wpAny_loadPart_at hCl ?_ | with_reducible refine wpAny_madeBy_exc hCl ?_ | wp_step)
  refine codeAny_call_builtin_code (Code.quiet_builtin _ FB.quiet) (wpAny_check_new_subT FB T hCl ?_)
  refine codeAny_exc_new_subT FB T hCl ?_ hrest
  show wpAny _ _ _ _ _ _
  have k:∀ b o,h.get? b=some o→((h.push (excTup us)).push (excNew C h.objs.size)).get? b=some o:=fun b o e=>Heap.get?_push_of_some _ (Heap.get?_push_of_some _ e)
  have hx:((h.push (excTup us)).push (excNew C h.objs.size)).get? (h.objs.size + 1)=some (excNew C h.objs.size):=by heap_get
  have t1:Looks (model prog w) ((h.push (excTup us)).push (excNew C h.objs.size)) (typeOf (.ref (h.objs.size + 1))) (.ref C):=(Looks.ld hx).andThen .now
  have hcc:(Value.ref C :: tlm).contains (.ref C)=true:=by simp
  have s0:Looks (model prog w) h (isSubtype (.ref C) (.ref C)) true:=by
    intro A Q E s kk qq
    obtain ⟨h1,g1,d1,tk1,os1⟩:=s
    exact wpAny_isSubtype_exc (kk _ _ hCl) (by rw [hcc];exact qq)
  have s1:=s0.keeps k
  have i1:=(looks_findIn (M:=model prog w) X hi).keeps k
  have b1:=(bind_fn (M:=model prog w) X (.ref (h.objs.size + 1)) hf).keeps k
  have hC₁:=k _ _ hCl
  unfold isInstance
  refine wpAny_bind (wpAny_bind (t1.here (s1.here ?_)))
  simp only [Bool.false_eq_true,Bool.not_true,if_false]
  refine wpAny_bind (wpAny_holding ?_);unfold callSpecial? specialOf
  refine wpAny_bind (wpAny_bind (t1.here ?_))
  refine i1.here ?_
  refine wpAny_holding (wpAny_bind (b1.here ?_))
  refine wpAny_bind (wpAny_call ?_)
  refine codeAny_mono hq fun r s' zz=>?_
  rcases r with e | (v | _ | _ | _) <;> first | exact zz | exact zz.elim | skip
  obtain ⟨rfl,zz⟩:=zz
  exact wpAny_pure (wpAny_pure zz)
end
end PySem.W
namespace PySem.W
open PySem PySem.Spec PySem.Calls PyProof.Rows Builtin Builtin.ObjectAttr Builtin.Getset_descriptor
noncomputable def onlyVE:List Value→Bool
  | .ref _ :: r=>onlyVE r
  | .type n :: r=>(.type n :: r) == veMro
  | _=>false
theorem refuse_VE (self:Value):∀ {l:List Value},onlyVE l=true→refuseLoop self "__setattr__" l=pure ()
  | .ref c :: r,e=>by rw [refuseLoop_ref];exact refuse_VE self (show onlyVE r=true from e)
  | .type n :: r,e=>by rw [show Value.type n :: r=veMro from beq_iff_eq.mp e];exact PySem.F.store_ValueError.passes self
theorem has_VE {b:String} (hbb:veMro.contains (.type b)=true):∀ {l:List Value},onlyVE l=true→l.contains (.type b)=true
  | .ref c :: r,e=>by rw [List.contains_cons,has_VE hbb (l:=r) e,Bool.or_true]
  | .type n :: r,e=>by rw [show Value.type n :: r=veMro from beq_iff_eq.mp e];exact hbb
noncomputable def excOver (K:Frag) (C:Addr):Bool:=(clsIn K C).any fun cdt=>onlyVE cdt.mro
section
variable {prog:Program} {w:World} {A:Around} {K:Frag} {C x:Addr} {s:Shared} {R:Result→Shared→Prop}
theorem osa_X {ox:Obj} {od:Option Obj} {nm:Str} {tk:Tok} {v:Value} {r:Option Value} (X:K.In s.heap) (I:InstAt s.heap x ox C od) (hp:excOver K C=true) (ht:takerIn K C nm=some r)
    (go:∀ b,wpAny (model prog w) A.in1 (match r with | some a=>setByDescriptor a (.ref x) v | none=>storeInOwnDict (.ref x) (.ref C) (.str nm tk) nm v b)
      (fun fi s'=>match fi with | .done f=>R (.ok f) s' | .again c'=>c'.quiet=true∧codeAny (model prog w) A c' R s') (fun e s'=>R (.error e) s') s) :
    codeAny (model prog w) A (.call (.builtin "object.__setattr__") ⟨[.ref x,.str nm tk,v],[]⟩) R s:=by
  have SFo:=PySem.F.store_object
  obtain ⟨cdt,hcd,hov⟩:=any_some hp
  have nem:cdt.mro.isEmpty=false:=by cases q:cdt.mro with | nil=>rw [q] at hov;cases hov | cons _ _=>rfl
  have sub:Looks (model prog w) s.heap (isInstance (.ref x) (.type "object")) true:=I.type.andThen (looks_mroIn X (by unfold mroIn;rw [hcd,Option.bind_some,if_neg (by rw [nem];decide),has_VE (by decide +kernel) hov]))
  refine codeAny_call_builtin SFo.slot.plain SFo.entry (@check_slot (model prog w) _ _ s "object.__setattr__" "object" "__setattr__" (.ref x) [.str nm tk,v] [] _ SFo.kind SFo.split sub (SFo.args (.ref x) (.str nm tk) v) ?_)
  obtain ⟨atr,ha,hrr⟩:=Option.bind_eq_some_iff.mp ht
  have hmr:Looks (model prog w) s.heap (mroOf (.ref C)) cdt.mro:=(looks_clsIn X hcd).andThen .now
  have l3:Looks (model prog w) s.heap (storeTaker? atr) r:=by
    cases atr with
    | none=>cases hrr;exact .now
    | some a =>
      obtain ⟨b,hbb,rfl⟩:=Option.map_eq_some_iff.mp hrr
      refine (looks_takesIn X hbb).andThen ?_
      cases b <;> exact .now
  rw [osa_eq,refuse_eq]
  refine wpAny_bind (wpAny_bind (I.type.here (wpAny_bind (hmr.here ?_))))
  rw [refuse_VE _ hov]
  refine wpAny_pure (wpAny_bind (I.type.here (wpAny_bind ((looks_findIn X ha).here (wpAny_bind (l3.here ?_))))))
  exact go _
variable {E:Value→Shared→Prop} {vs:Array Value} {sl:Array (Option Value)} {nm:Str} {v:Value}
theorem setX_new {Q:Unit→Shared→Prop} (X:K.In s.heap) (hx:s.heap.get? x=some ⟨.ref C,none,.fields vs,sl⟩) (hs:findIn K (.ref C) "__setattr__"=some (some (.builtin "object.__setattr__")))
    (hp:excOver K C=true) (ht:takerIn K C nm=some none) (hh:hasDictIn K C=true)
    (h:∀ h',h'.get? x=some ⟨.ref C,some s.heap.objs.size,.fields vs,sl⟩→h'.Ns1 s.heap.objs.size (fun y=>if y=nm then some v else none)→(∀ b o,b≠x→s.heap.get? b=some o→h'.get? b=some o) →
      Q () { s with heap:=h',toks:=s.toks + 2 }):wpAny (model prog w) A (setAttr (.ref x) nm v) Q E s:=by
  have J:InstAt s.heap x ⟨.ref C,none,.fields vs,sl⟩ C none:=⟨hx,rfl,rfl,True.intro⟩
  refine set_plain X J hs (osa_X (s:={ s with toks:=s.toks + 1 }) (r:=none) X J hp ht fun b=>?_)
  obtain ⟨cdt,hcd,hdc⟩:=any_some hh
  refine wpAny_bind (wpAny_pure (wpAny_bind (wpAny_bind (wpAny_loadPart hx (wpAny_bind (Looks.here (s:={ s with toks:=s.toks + 1 }) (looks_clsIn X hcd) ?_))))))
  rw [hdc]
  have hxz:x≠s.heap.objs.size:=Nat.ne_of_lt (Heap.lt_size hx)
  have hx1:(s.heap.push { cls:=.type "dict",data:=.dict #[] }).get? x=some ⟨.ref C,none,.fields vs,sl⟩:=Heap.get?_push_of_some _ hx
  refine wpAny_bind (wpAny_alloc (wpAny_bind (wpAny_update hx1 ?_)))
  refine wpAny_pure (a:=some s.heap.objs.size) ?_
  have hx2:((s.heap.push { cls:=.type "dict",data:=.dict #[] }).update x fun o=>{ cls:=o.cls,dict:=some s.heap.objs.size,data:=o.data,slots:=o.slots }).get? x=some ⟨.ref C,some s.heap.objs.size,.fields vs,sl⟩:=by
    rw [Heap.get?_update_self _ hx1 rfl]
  have hgx:((s.heap.push { cls:=.type "dict",data:=.dict #[] }).update x fun o=>{ cls:=o.cls,dict:=some s.heap.objs.size,data:=o.data,slots:=o.slots }).get? s.heap.objs.size=some { cls:=.type "dict",data:=.dict #[] } :=
    (Heap.get?_update_ne _ _ _ _ hxz.symm).trans (Heap.get?_push_at rfl rfl)
  have hnd:((s.heap.push { cls:=.type "dict",data:=.dict #[] }).update x fun o=>{ cls:=o.cls,dict:=some s.heap.objs.size,data:=o.data,slots:=o.slots }).Ns s.heap.objs.size (fun _=>none) :=
    ⟨_,#[],_,hgx,rfl,fun e he=>absurd he (by simp),fun _=>rfl⟩
  refine wpAny_bind (wpAny_pure (wpAny_bind (wpAny_nsSet1 (Heap.Ns1.of_empty hnd) fun h' hn' hs'=>?_)))
  obtain ⟨oD,esD,epD,hoE,hdE,hcE⟩:=hn'.count (Within.cons nm v Within.nil)
  refine wpAny_bind (wpAny_lookBehind hoE (by rw [hdE];exact pastItsLine_dict (Nat.le_trans hcE (by rw [List.length_cons,List.length_nil,sizeLine_eq];omega))) ?_)
  refine wpAny_pure (h h' ((hs'.2 x hxz).trans hx2) hn' fun b o hbb q=>?_)
  exact (hs'.2 b (Nat.ne_of_lt (Heap.lt_size q))).trans ((Heap.get?_update_ne _ _ _ _ hbb).trans (Heap.get?_push_of_some _ q))
theorem setX_old {Q:Unit→Shared→Prop} {dxa:Addr} {mA:Str→Option Value} {ns:List Str} (X:K.In s.heap) (hx:s.heap.get? x=some ⟨.ref C,some dxa,.fields vs,sl⟩) (hn:s.heap.Ns1 dxa mA) (hne:dxa≠x)
    (hs:findIn K (.ref C) "__setattr__"=some (some (.builtin "object.__setattr__"))) (hp:excOver K C=true) (ht:takerIn K C nm=some none) (hh:hasDictIn K C=true) (hw:Within mA ns) (hsz:ns.length < sizeLine)
    (h:∀ h',h'.Ns1 dxa (fun y=>if y=nm then some v else mA y)→(∀ b o,b≠dxa→s.heap.get? b=some o→h'.get? b=some o) →
      Q () { s with heap:=h',toks:=s.toks + 2 }):wpAny (model prog w) A (setAttr (.ref x) nm v) Q E s:=by
  obtain ⟨od,hov,hl⟩:=L2.lookIn_ns hn
  have J:InstAt s.heap x ⟨.ref C,some dxa,.fields vs,sl⟩ C (some od):=⟨hx,rfl,rfl,hov⟩
  refine set_plain X J hs (osa_X (s:={ s with toks:=s.toks + 1 }) (r:=none) X J hp ht fun b=>?_)
  obtain ⟨cdt,hcd,hdc⟩:=any_some hh
  refine wpAny_bind (wpAny_pure (wpAny_bind (wpAny_bind (wpAny_loadPart hx (wpAny_bind (Looks.here (s:={ s with toks:=s.toks + 1 }) (looks_clsIn X hcd) ?_))))))
  rw [hdc]
  refine wpAny_pure (a:=some dxa) (wpAny_bind (wpAny_pure (wpAny_bind ?_)))
  refine wpAny_nsSet1 (s:={ s with toks:=s.toks + 1 }) hn fun h' hn' hs'=>?_
  obtain ⟨oD,esD,epD,hoE,hdE,hcE⟩:=hn'.count (Within.cons nm v hw)
  refine wpAny_bind (wpAny_lookBehind hoE (by rw [hdE];exact pastItsLine_dict (Nat.le_trans hcE (by rw [List.length_cons];omega))) ?_)
  exact wpAny_pure (h h' hn' fun b o hbb q=>(hs'.2 b hbb).trans q)
end
end PySem.W
namespace PySem.W
open PySem PySem.Spec PySem.Calls PyProof.Rows Builtin Builtin.ObjectAttr Builtin.Getset_descriptor
section
variable {prog:Program} {w:World} {A:Around} {K:Frag} {C x:Addr} {s:Shared} {E:Value→Shared→Prop} {ox:Obj} {od:Option Obj} {nm:Str} {v:Value} {Q:Value→Shared→Prop} {expr:Bool}
theorem gaX_call {h:Heap} {g:Array GenState} {d:Drawn} {t:Nat} {os:OsState} {tk:Tok} {R:Result→Shared→Prop} (X:K.In h) (I:InstAt h x ox C od) (hp:excOver K C=true) (hf:findObj K C od nm=some (.value v)) (hq:R (.ok (.ret v)) ⟨h,g,d,t,os⟩) :
    codeAny (model prog w) A (.call (.builtin "BaseException.__getattribute__") ⟨[.ref x,.str nm tk],[]⟩) R ⟨h,g,d,t,os⟩:=by
  obtain ⟨cdt,hcd,hov⟩:=any_some hp
  have nem:cdt.mro.isEmpty=false:=by cases q:cdt.mro with | nil=>rw [q] at hov;cases hov | cons _ _=>rfl
  have sub:Looks (model prog w) h (isInstance (.ref x) (.type "BaseException")) true:=I.type.andThen (looks_mroIn X (by unfold mroIn;rw [hcd,Option.bind_some,if_neg (by rw [nem];decide),has_VE (by decide +kernel) hov]))
  have l0:=I.type (M:=model prog w)
  have l1:=looks_find (M:=model prog w) X I hf
  refine codeAny_call_builtin (by decide +kernel) PySem.F.entry_bexc_ga (@check_slot (model prog w) _ _ _ "BaseException.__getattribute__" "BaseException" "__getattribute__" (.ref x) [.str nm tk] [] _ (by decide +kernel) (by decide +kernel) sub (PySem.F.args_bexc_ga (.ref x) (.str nm tk)) ?_)
  refine wpAny_bind (wpAny_pure (wpAny_bind (wpAny_pure (wpAny_bind (l0.at (wpAny_bind (l1.at ?_)))))))
  exact wpAny_pure hq
theorem getX (X:K.In s.heap) (I:InstAt s.heap x ox C od) (hga:findIn K (.ref C) "__getattribute__"=some (some (.builtin "BaseException.__getattribute__"))) (hgn:findIn K (.ref C) "__getattr__"=some none) (hp:excOver K C=true)
    (hf:findObj K C od nm=some (.value v)) (hhd:handedIn v=true) (h:Q v { s with toks:=s.toks + 1 }):wpAny (model prog w) A (getAttr (.ref x) nm expr) Q E s:=by
  obtain ⟨hp',g,d,t,os⟩:=s
  have l0:=I.type (M:=model prog w)
  have l1:=looks_findIn (M:=model prog w) X hga
  have l2:=looks_findIn (M:=model prog w) X hgn
  have f3:bindSpecial (.builtin "BaseException.__getattribute__") (.ref x)=pure (.builtin "BaseException.__getattribute__",[.ref x]) :=
    (Slot.of (T:="ValueError") (name:="__getattribute__") (owner:="BaseException") (n:="__getattribute__") (by rw [typeLookup_type,builtinLookup_eq_fast];kernel_rfl) (by decide +kernel) (by decide +kernel) (by decide +kernel)
      (.inl (by decide +kernel)) (by rw [isSubtype_type];kernel_rfl)).bind (.ref x)
  have hxo:(expr && onTheHeap (Value.builtin "BaseException.__getattribute__"))=false:=by cases expr <;> rfl
  unfold getAttr getAttrBy
  refine wpAny_bind (wpAny_mkText (wpAny_holding (wpAny_bind (l0.at (wpAny_bind (l1.at ?_))))))
  have hx2:(onTheHeap (Value.ref C) && Value.builtin "BaseException.__getattribute__" == Value.builtin "object.__getattribute__")=false:=by
    rw [show (Value.builtin "BaseException.__getattribute__" == Value.builtin "object.__getattribute__")=false by decide +kernel,Bool.and_false]
  dsimp only at l0 l1 l2 X I h ⊢
  rw [hx2,if_neg Bool.false_ne_true]
  unfold getAttrByItsOwn
  refine wpAny_bind (l2.at ?_)
  repeat (any_goals first | assumption | wp_step)
  refine gaX_call X I hp hf ?_
  show wpAny (model prog w) A (handedOut v) _ _ _
  rw [handedOut_of hhd];exact wpAny_pure h
end
end PySem.W
namespace L2
open PySem PyProof.Rows PySem.Spec PySem.Calls
noncomputable def XO (e C:Addr) (d:Option Addr):HO:=.ext fun h=>∃ t0,h.get? e=some ⟨.ref C,d,.fields #[.ref t0,.none,.none,.none,.bool false,.none],#[]⟩
noncomputable def XC (e C:Addr) (d:Option Addr):HO:=.ext fun h=>∃ vs sl,h.get? e=some ⟨.ref C,d,.fields vs,sl⟩∧vs[2]?=some .none
noncomputable def XD (a:Addr) (fs:List (Str×V)):HO:=.ext fun h=>fs.length≤1000∧∃ mA,h.Ns1 a mA∧(∀ f,RelO (fs.lookup f) (mA f))∧PySem.Within mA (fs.map (·.1))
noncomputable def IsX (H:Hp) (e C:Addr) (d:Option Addr):Prop:=H e=some (XO e C d)∨H e=some (XC e C d)
section
variable {P:Program} {w:World} {H:Hp} {h:Heap} {e C a:Addr} {d:Option Addr} {fs:List (Str×V)}
theorem xo_ok {t0:Addr} (q:h.get? e=some ⟨.ref C,d,.fields #[.ref t0,.none,.none,.none,.bool false,.none],#[]⟩):ObjOk P w H h e (XO e C d) :=
  ⟨⟨t0,q⟩,⟨_,q⟩,fun _ _ ⟨t,z⟩ k=>⟨t,k _ z⟩⟩
theorem xc_ok {vs:Array Value} {sl:Array (Option Value)} (q:h.get? e=some ⟨.ref C,d,.fields vs,sl⟩) (c:vs[2]?=some .none):ObjOk P w H h e (XC e C d) :=
  ⟨⟨vs,sl,q,c⟩,⟨_,q⟩,fun _ _ ⟨v,s,z,c⟩ k=>⟨v,s,k _ z,c⟩⟩
theorem xd_ok {mA:Str→Option Value} (l:fs.length≤1000) (n:h.Ns1 a mA) (r:∀ f,RelO (fs.lookup f) (mA f)) (wi:PySem.Within mA (fs.map (·.1))):ObjOk P w H h a (XD a fs) :=
  ⟨⟨l,mA,n,r,wi⟩,let ⟨o,_,_,q,_⟩:=n;⟨o,q⟩,fun _ _ ⟨l,m,n,r,z⟩ k=>⟨l,m,n.at k,r,z⟩⟩
theorem xo_get (hok:HOk P w H h) (q:H e=some (XO e C d)):∃ t0,h.get? e=some ⟨.ref C,d,.fields #[.ref t0,.none,.none,.none,.bool false,.none],#[]⟩ :=
  (show ObjOk P w H h e (XO e C d) from hok e _ q).1
theorem x_getC (hok:HOk P w H h) (q:IsX H e C d):∃ vs sl,h.get? e=some ⟨.ref C,d,.fields vs,sl⟩∧vs[2]?=some .none:=by
  rcases q with q | q
  · obtain ⟨t,z⟩:=xo_get hok q;exact ⟨_,_,z,rfl⟩
  · exact (show ObjOk P w H h e (XC e C d) from hok e _ q).1
theorem x_get (hok:HOk P w H h) (q:IsX H e C d):∃ vs sl,h.get? e=some ⟨.ref C,d,.fields vs,sl⟩:=let ⟨vs,sl,z,_⟩:=x_getC hok q;⟨vs,sl,z⟩
theorem xd_get (hok:HOk P w H h) (q:H a=some (XD a fs)):fs.length≤1000∧∃ mA,h.Ns1 a mA∧(∀ f,RelO (fs.lookup f) (mA f))∧PySem.Within mA (fs.map (·.1)) :=
  (show ObjOk P w H h a (XD a fs) from hok a _ q).1
end
structure ClsX (K:PySem.W.Frag) (C:Addr):Prop where
  hd:PySem.W.hasDictIn K C=true
  po:PySem.W.excOver K C=true
  sa:PySem.W.findIn K (.ref C) "__setattr__"=some (some (.builtin "object.__setattr__"))
  ga:PySem.W.findIn K (.ref C) "__getattribute__"=some (some (.builtin "BaseException.__getattribute__"))
  gn:PySem.W.findIn K (.ref C) "__getattr__"=some none
section
variable {X:Cx} {pins:List (Addr×Obj)} {σ:St} {H:Hp} {s:Shared} {a C dx:Addr} {d:Option Addr} {fs:List (Str×V)} {f:Str} {v y:V} {u:Value} {A:Around} {E:Value→Shared→Prop}
theorem getX_ok {b:Bool} {Q:Value→Shared→Prop} (I:Inv X pins σ H s) (e:IsX H a C (some dx)) (ed:H dx=some (XD dx fs)) (c:ClsX X.K C) (n:NoAttr X.K C f) (l:fs.lookup f=some v)
    (h:∀ u s',Inv X pins σ H s'→RelV v u→Q u s'):wpAny (model X.prog X.w) A (getAttr (.ref a) f b) Q E s:=by
  obtain ⟨vs,sl,hx⟩:=x_get I.hok e
  obtain ⟨_,mA,hn,r,_⟩:=xd_get I.hok ed
  obtain ⟨u,hu,ru⟩:=RelO.some_of (v:=v) (o:=mA f) (by rw [← l];exact r f)
  obtain ⟨od,ho,hl⟩:=lookIn_ns hn
  exact PySem.W.getX I.kIn (ox:=⟨.ref C,some dx,.fields vs,sl⟩) (od:=some od) ⟨hx,rfl,rfl,ho⟩ c.ga c.gn c.po (PySem.W.findObj_own c.hd n rfl (by rw [hl,hu])) (handed_of ru) (h u _ (I.tok _) ru)
theorem setX1_ok {Q:Unit→Shared→Prop} (I:Inv X pins σ H s) (e:H a=some (XO a C none)) (c:ClsX X.K C) (n:NoAttr X.K C f) (ry:RelV y u)
    (h:∀ dx s',H dx=none→dx≠a→Inv X pins σ (upd (upd H dx (XD dx [(f,y)])) a (XO a C (some dx))) s'→Q () s'):wpAny (model X.prog X.w) A (setAttr (.ref a) f u) Q E s:=by
  obtain ⟨t0,hx⟩:=xo_get I.hok e
  refine PySem.W.setX_new I.kIn hx c.sa c.po n.taker c.hd fun h' h1 h2 h3=>?_
  have hf:=I.hok.fresh (Nat.le_refl s.heap.objs.size)
  have hne:s.heap.objs.size≠a:=fun z=>by rw [z,e] at hf;cases hf
  obtain ⟨od,es,ep,q1,q2,q3⟩:=id h2
  have hfr:od.isFreed=false:=(Heap.get?_some_iff.mp q1).2
  have g1:(s.heap.push od).get? s.heap.objs.size=some od:=Heap.get?_push_size s.heap hfr
  have I1:Inv X pins σ (upd H s.heap.objs.size (XD s.heap.objs.size [(f,y)])) { s with heap:=s.heap.push od,toks:=s.toks }:=by
    refine I.laid (fun b o q=>Heap.get?_push_of_some _ q) (Nat.le_refl _) (xd_ok (by simp) (h2.at fun o q=>?_) (fun g=>?_) (fun g hg=>?_))
    · rw [q1] at q;cases q;exact g1
    · show RelO ([(f,y)].lookup g) (if g=f then some u else none)
      by_cases z:g=f
      · have hb:(g == f)=true:=beq_iff_eq.mpr z
        simp only [List.lookup,hb,if_pos z];exact ry
      · have hb:(g == f)=false:=beq_eq_false_iff_ne.mpr z
        simp only [List.lookup,hb,if_neg z];exact True.intro
    · by_cases z:g=f
      · rw [z];exact .head _
      · exact absurd (if_neg z) hg
  refine h s.heap.objs.size _ hf hne (I1.write (x:=a) (e:=a) (t':=s.toks + 2) (h':=h') (by rw [upd_ne (Ne.symm hne),e];exact True.intro) (.inl rfl) (fun b o hb q=>?_) ⟨_,h1⟩ (xo_ok h1))
  by_cases z:b=s.heap.objs.size
  · subst z;rw [g1] at q;cases q;exact q1
  · have hb':s.heap.get? b=some o:=by rw [← q];exact (Heap.get?_push_ne _ _ _ z).symm
    exact h3 b o hb hb'
theorem setX2_ok {Q:Unit→Shared→Prop} (I:Inv X pins σ H s) (e:IsX H a C (some dx)) (ed:H dx=some (XD dx fs)) (hne:dx≠a) (c:ClsX X.K C) (n:NoAttr X.K C f) (hl:fs.length < 1000) (ry:RelV y u)
    (h:∀ s',Inv X pins σ (upd H dx (XD dx (putF f y fs))) s'→Q () s'):wpAny (model X.prog X.w) A (setAttr (.ref a) f u) Q E s:=by
  obtain ⟨vs,sl,hx⟩:=x_get I.hok e
  obtain ⟨_,mA,hn,r,wi⟩:=xd_get I.hok ed
  refine PySem.W.setX_old I.kIn hx hn hne c.sa c.po n.taker c.hd wi (by rw [List.length_map,sizeLine_eq];omega) fun h' h1 h2=>h _ ?_
  refine I.write (x:=dx) (e:=dx) (by rw [ed];exact True.intro) (.inl rfl) h2 (let ⟨o,_,_,q,_⟩:=h1;⟨o,q⟩) (xd_ok ?_ h1 (fun g=>?_) (fun g hg=>?_))
  · have:=length_putF f y fs;omega
  · show RelO ((putF f y fs).lookup g) (if g=f then some u else mA g)
    rw [lookup_putF]
    by_cases q:g=f
    · rw [if_pos q,if_pos q];exact ry
    · rw [if_neg q,if_neg q];exact r g
  · by_cases q:g=f
    · rw [q];exact (keys_putF f y fs).1
    · refine (keys_putF f y fs).2 g (wi g fun z=>hg ?_)
      show (if g=f then some u else mA g)=none
      rw [if_neg q];exact z
end
end L2
namespace PySem.W
open PySem PySem.Spec PySem.Calls PyProof.Rows Builtin Builtin.ObjectAttr Builtin.Getset_descriptor
section
variable {prog:Program} {w:World} {A:Around} {K:Frag} {C x t0:Addr} {s:Shared} {E:Value→Shared→Prop} {od:Option Addr} {Q:Value→Shared→Prop}
theorem initX {us:List Value} (X:K.In s.heap) (hx:s.heap.get? x=some ⟨.ref C,od,.fields #[.ref t0,.none,.none,.none,.bool false,.none],#[]⟩) (e:excMk K C=true) (hz:us.length≤sizeLine)
    (h:∀ h',h'.get? x=some ⟨.ref C,od,.fields #[.ref s.heap.objs.size,.none,.none,.none,.bool false,.none],#[]⟩→(∀ b o,b≠x→s.heap.get? b=some o→h'.get? b=some o)→Q .none { s with heap:=h' }) :
    wpAny (model prog w) A (call (.builtin "ValueError.__init__") (.ref x :: us)) Q E s:=by
  obtain ⟨bm,⟨N,nm,q,bs,hdct,sn,sub,ab,col,dd,k0,k1,k2,k3,k5,hC⟩,T⟩:=excMk_obj X e
  have FB:=PySem.F.excBase_ValueError
  obtain ⟨hp,g,d,t,os⟩:=s
  refine wpAny_call (codeAny_call_builtin FB.init.plain FB.initEntry (wpAny_check_init_subT FB T hC hx rfl ?_))
  delta Builtin.«BaseException.__init__»
  dsimp only
  rw [if_neg (by simp)]
  unfold Builtin.BaseException.bexcPut newTuple
  have hx1:=Heap.get?_push_of_some (h:=hp) { cls:=.type "tuple",data:=.seq us.toArray } hx
  refine wpAny_bind (wpAny_newObj_type (wpAny_bind (wpAny_bind (wpAny_field hx1 rfl rfl (wpAny_bind (wpAny_setField hx1 rfl (by show 0 < 6;decide) ?_))))) (by show us.toArray.size≤sizeLine;rw [List.size_toArray];exact hz))
  refine wpAny_letGo (wpAny_pure (h _ ?_ fun b o hb hq=>?_))
  · rw [Heap.get?_update_self _ hx1 rfl]
    rfl
  · exact (Heap.get?_update_ne _ _ _ _ hb).trans (Heap.get?_push_of_some _ hq)
end
end PySem.W
namespace PySem.W
open PySem PySem.Spec PySem.Calls PyProof.Rows Builtin Builtin.ObjectAttr Builtin.Getset_descriptor
section
variable {prog:Program} {w:World} {A:Around} {K:Frag} {C x:Addr} {s:Shared} {E:Value→Shared→Prop} {ox:Obj} {od:Obj}
structure ClsAt (K:Frag) (C:Addr):Prop where
  hd:hasDictIn K C=true
  po:excOver K C=true
  ga:findIn K (.ref C) "__getattribute__"=some (some (.builtin "BaseException.__getattribute__"))
  gn:findIn K (.ref C) "__getattr__"=some none
  ca:findIn K (.ref C) "__class__"=some (some (.builtin "object.__class__"))
  cn:specialIn K (.builtin "object.__class__") "__get__"=some (some (.builtin "getset_descriptor.__get__"))
  ct:takesIn K (.builtin "object.__class__")=some true
theorem excOver_has {b:String} (hp:excOver K C=true) (hb:veMro.contains (.type b)=true):mroIn K C (.type b)=some true:=by
  obtain ⟨cdt,hcd,hov⟩:=any_some hp
  have nem:cdt.mro.isEmpty=false:=by cases q:cdt.mro with | nil=>rw [q] at hov;cases hov | cons _ _=>rfl
  unfold mroIn;rw [hcd,Option.bind_some,if_neg (by rw [nem];decide),has_VE hb hov]
theorem clsX_call {h:Heap} {g:Array GenState} {d:Drawn} {t:Nat} {os:OsState} {tk:Tok} {R:Result→Shared→Prop} (X:K.In h) (I:InstAt h x ox C (some od)) (c:ClsAt K C) (hq:R (.ok (.ret (.ref C))) ⟨h,g,d,t,os⟩) :
    codeAny (model prog w) A (.call (.builtin "BaseException.__getattribute__") ⟨[.ref x,.str "__class__" tk],[]⟩) R ⟨h,g,d,t,os⟩:=by
  have hf:findObj K C (some od) "__class__"=some (.bind (.builtin "getset_descriptor.__get__") (.builtin "object.__class__")):=by
    have:=findObj_data (K:=K) (C:=C) (od:=od) (name:="__class__") (by obtain ⟨cdt,hcd,_⟩:=any_some c.hd;rw [hcd];rfl) c.ca c.cn c.ct
    exact this
  have sub:Looks (model prog w) h (isInstance (.ref x) (.type "BaseException")) true:=I.type.andThen (looks_mroIn X (excOver_has c.po (by decide +kernel)))
  have l0:=I.type (M:=model prog w)
  have l1:=looks_find (M:=model prog w) X I hf
  refine codeAny_call_builtin (by decide +kernel) PySem.F.entry_bexc_ga (@check_slot (model prog w) _ _ _ "BaseException.__getattribute__" "BaseException" "__getattribute__" (.ref x) [.str "__class__" tk] [] _ (by decide +kernel) (by decide +kernel) sub (PySem.F.args_bexc_ga (.ref x) (.str "__class__" tk)) ?_)
  refine wpAny_bind (wpAny_pure (wpAny_bind (wpAny_pure (wpAny_bind (l0.at (wpAny_bind (l1.at ?_)))))))
  show wpAny _ _ (holding [Value.builtin "object.__class__"] (call (.builtin "getset_descriptor.__get__") [.builtin "object.__class__",.ref x,.ref C]) >>= ret) _ _ _
  refine wpAny_bind (wpAny_holding (wpAny_call ?_))
  refine class_get (s:=⟨h,g,d,t,os⟩) (ox:=ox) (od:=some od) X I (excOver_has c.po (by decide +kernel)) ?_
  exact wpAny_pure hq
theorem getX_class {Q:Option Value→Shared→Prop} (X:K.In s.heap) (I:InstAt s.heap x ox C (some od)) (c:ClsAt K C) (h:Q (some (.ref C)) { s with toks:=s.toks + 1 }):wpAny (model prog w) A (getAttr? (.ref x) "__class__") Q E s:=by
  obtain ⟨hp',g,d,t,os⟩:=s
  have l0:=I.type (M:=model prog w)
  have l1:=looks_findIn (M:=model prog w) X c.ga
  have l2:=looks_findIn (M:=model prog w) X c.gn
  have f3:bindSpecial (.builtin "BaseException.__getattribute__") (.ref x)=pure (.builtin "BaseException.__getattribute__",[.ref x]) :=
    (Slot.of (T:="ValueError") (name:="__getattribute__") (owner:="BaseException") (n:="__getattribute__") (by rw [typeLookup_type,builtinLookup_eq_fast];kernel_rfl) (by decide +kernel) (by decide +kernel) (by decide +kernel)
      (.inl (by decide +kernel)) (by rw [isSubtype_type];kernel_rfl)).bind (.ref x)
  have hx0:(false && onTheHeap (Value.builtin "BaseException.__getattribute__"))=false:=rfl
  have hx2:(onTheHeap (Value.ref C) && Value.builtin "BaseException.__getattribute__" == Value.builtin "object.__getattribute__")=false:=by
    rw [show (Value.builtin "BaseException.__getattribute__" == Value.builtin "object.__getattribute__")=false by decide +kernel,Bool.and_false]
  unfold getAttr? getAttrBy?
  unfold getAttrBy
  refine wpAny_bind (wpAny_mkText (wpAny_bind (wpAny_attempt (wpAny_holding (wpAny_bind (l0.at (wpAny_bind (l1.at ?_))))))))
  dsimp only at l0 l1 l2 X I h ⊢
  rw [hx2,if_neg Bool.false_ne_true]
  unfold getAttrByItsOwn
  refine wpAny_bind (l2.at ?_)
  repeat (any_goals first | assumption | wp_step)
  refine clsX_call X I c ?_
  show wpAny _ _ (handedOut (Value.ref C)) _ _ _
  rw [handedOut_of rfl]
  exact (wpAny_pure (wpAny_pure h))
theorem kitx_X (c:ClsAt K C):KitX K (.ref x) (.ref C) (fun h=>InstAt h x ox C (some od)) where
  ty:=fun _ _ _ I=>I.type
  it:=fun _ _ X _=>by
    obtain ⟨cdD,hcE,_⟩:=any_some c.hd
    unfold clsIn at hcE
    split at hcE
    · rename_i c' d' cd' sl' hov
      intro A' Q' E' s' k q
      unfold isType loadHead
      exact wpAny_bind (wpAny_loadPart (k _ _ (X _ _ hov)) (wpAny_pure q))
    · cases hcE
  ne:=fun h tp dd its n sl X htq=>by
    obtain ⟨cdD,hcE,_⟩:=any_some c.hd
    refine Bool.eq_false_iff.mpr fun qq=>?_
    have e:C=tp:=Value.ref.inj (beq_iff_eq.mp qq)
    subst e
    unfold clsIn at hcE
    split at hcE
    · rename_i c' d' cd' sl' hov
      have z:=(X _ _ hov).symm.trans htq
      cases z
    · cases hcE
  ca:=fun X I k=>getX_class X I c k
end
end PySem.W
namespace L2
open PySem PyProof.Rows PySem.Spec PySem.Calls
theorem ClsX.at {K:PySem.W.Frag} {C:Addr} (c:ClsX K C) (ca:PySem.W.findIn K (.ref C) "__class__"=some (some (.builtin "object.__class__")))
    (cn:PySem.W.specialIn K (.builtin "object.__class__") "__get__"=some (some (.builtin "getset_descriptor.__get__"))) (ct:PySem.W.takesIn K (.builtin "object.__class__")=some true):PySem.W.ClsAt K C :=
  ⟨c.hd,c.po,c.ga,c.gn,ca,cn,ct⟩
theorem upd_self {H:Hp} {a:Addr} {o:HO} (e:H a=some o):upd H a o=H:=by
  funext b
  unfold upd
  by_cases q:b=a
  · rw [if_pos q,q,e]
  · rw [if_neg q]
structure MkX (K:PySem.W.Frag) (C f:Addr):Prop where
  makes:PySem.W.excMk K C=true
  init:PySem.W.findIn K (.ref C) "__init__"=some (some (.ref f))
  fn:PySem.W.isFn K (.ref f)=true
  kp:PySem.W.keepIn K (.ref C)=true
noncomputable def tMakeX (C:Addr) (sp:Sp) (E:XK) (t:TA):TE:=fun σ H Q=>t σ H fun vs H1=>∀ x,H1 x=none→sp (.ref x :: vs) (upd H1 x (XO x C none)) (fun v H2=>v=.non∧Q (.ref x) H2) E
section
variable {X:Cx} {CX:CXT} {k:Nat} {f C:Addr} {fd:FuncData} {ps:List Str} {sp:Sp} {E:XK} {x m:Str} {p pos apos:Pos} {e o:Expr} {es:List Expr} {ta:TE} {t:TA}
theorem Inv.madeX {pins:List (Addr×Obj)} {σ:St} {H:Hp} {s:Shared} {us:List Value} (I:Inv X pins σ H s) :
    Inv X pins σ (upd H (s.heap.objs.size + 1) (XO (s.heap.objs.size + 1) C none)) { s with heap:=(s.heap.push (PySem.W.excTup us)).push (PySem.W.excNew C s.heap.objs.size) }:=by
  have e2:((s.heap.push (PySem.W.excTup us)).push (PySem.W.excNew C s.heap.objs.size)).get? (s.heap.objs.size + 1)=some (PySem.W.excNew C s.heap.objs.size):=by
    have:=Heap.get?_push_size (s.heap.push (PySem.W.excTup us)) (o:=PySem.W.excNew C s.heap.objs.size) rfl
    rwa [Heap.size_push] at this
  have I1:=I.kept (h':=s.heap.push (PySem.W.excTup us)) (t':=s.toks) (fun b u q=>Heap.get?_push_of_some _ q)
  exact I1.laid (a:=s.heap.objs.size + 1) (t':=s.toks) (fun b u q=>Heap.get?_push_of_some _ q) (Nat.le_of_eq (Heap.size_push _ _)) (xo_ok e2)
theorem run_makeX {pins:List (Addr×Obj)} {σ:St} {H:Hp} {s:Shared} {Q:VK} {us:List Value} {vs:List V} (M:MkX X.K C f) (F:FnOk X.prog X.w X.K X.mg X.base CX k f fd ps sp) (hr:Room (k + 1) X.A) (hb:Binds X.K fd ps [])
    (hx:Passes CX X E) (hz:ps.length≤1000) (I:Inv X pins σ H s) (r:Vals vs us)
    (h:∀ x,H x=none→sp (.ref x :: vs) (upd H x (XO x C none)) (fun v H2=>v=.non∧Q (.ref x) H2) E) :
    wpAny (model X.prog X.w) X.A (call (.ref C) us) (EP X pins σ Q) X.xe s:=by
  have hq:=h (s.heap.objs.size + 1) (I.hok.fresh (Nat.le_succ _))
  have I2:=Inv.madeX (C:=C) (us:=us) I
  have r2:Vals (V.ref (s.heap.objs.size + 1) :: vs) (Value.ref (s.heap.objs.size + 1) :: us):=.cons rfl r
  have hl:(Value.ref (s.heap.objs.size + 1) :: us).length=ps.length:=by
    have e:=r2.length
    rw [F.len _ _ _ _ hq] at e
    exact e.symm
  have hb2:=hb { s with heap:=(s.heap.push (PySem.W.excTup us)).push (PySem.W.excNew C s.heap.objs.size) } (Value.ref (s.heap.objs.size + 1) :: us) I2.kIn (by rw [List.append_nil];exact hl)
  rw [List.append_nil] at hb2
  refine wpAny_call (PySem.W.make_X (f:=f) I.kIn M.makes M.init (beq_iff_eq.mp M.fn) (by rw [List.length_cons] at hl;rw [sizeLine_eq];omega) (codeAny_mono (F.run _ X.stack _ _ ⟨Value.ref (s.heap.objs.size + 1) :: us,[]⟩ (Value.ref (s.heap.objs.size + 1) :: us) _ _ E (hr.make C us [])
    (I2.env0.make C us []) hb2 r2 hq) fun r s' hq'=>?_))
  cases r with
  | error e=>exact hx pins σ _ _ e s' I2 hq'
  | ok fl =>
    cases fl with
    | ret u =>
      obtain ⟨v,H',I3,rv,ev,q3⟩:=I2.after hq'
      subst ev
      exact ⟨rv,⟨V.ref (s.heap.objs.size + 1),H',I3,rfl,q3⟩⟩
    | next=>exact False.elim hq'
    | brk=>exact False.elim hq'
    | cont=>exact False.elim hq'
theorem pe_makeX (M:MkX X.K C f) (F:FnOk X.prog X.w X.K X.mg X.base CX k f fd ps sp) (hr:Room (k + 1) X.A) (hg:Gl X x) (hm:X.mg x=some (.ref C)) (hb:Binds X.K fd ps []) (hx:Passes CX X E) (hz:ps.length≤1000)
    (ha:PA X (e :: es) t) (hdb:(x == ("__debug__":Str))=false:=by decide) (he:starEach (e :: es) X.env=(false,eval e X.env) :: starEach es X.env:=by rfl) (hpl:(backTo pos (starEach es X.env)).any (·.1)=false:=by rfl) :
    PE X (.Call (.Name x p) (e :: es) [] pos) (tMakeX C sp E t):=by
  intro pins s σ H Q I h
  refine wpAny_Call_Name_kw (ld_glob I hg hm ?_ hdb)
  refine PySem.W.callWith_K (h₀:=X.base) I.ok.mod.kin M.kp (thn (ha pos pins s σ H _ I h) fun us s1 ⟨vs,H1,I1,r,q⟩=>⟨I1.kIn,?_⟩) he hpl
  exact run_makeX M F hr hb hx hz I1 r q
structure InX (K:PySem.W.Frag) (B:Addr):Prop where
  sp:PySem.W.specialIn K (.ref B) "__getattribute__"=some (some (.builtin "type.__getattribute__"))
  rd:PySem.W.readsIn K B (.type "type")=true
  fc:PySem.W.findCls K (.ref B) (.type "type") "__init__"=some (.val (.builtin "ValueError.__init__"))
noncomputable def tInX (K:PySem.W.Frag) (t:TA):TE:=fun σ H Q=>t σ H fun vs H1=>∃ a C d xs,vs=.ref a :: xs∧xs.length≤1000∧H1 a=some (XO a C d)∧PySem.W.excMk K C=true∧Q .non H1
theorem pe_initX {B:Addr} {pl:Sem Bool} (J:InX X.K B) (hg:Gl X x) (hm:X.mg x=some (.ref B)) (ha:PA X (e :: es) t) (hdb:(x == ("__debug__":Str))=false:=by decide)
    (hst:starEach (e :: es) X.env=(false,eval e X.env) :: starEach es X.env:=by rfl) (hpl:(backTo pos (starEach es X.env)).any (·.1)=false:=by rfl)
    (ht:eval (.Call (.Attribute (.Name x p) "__init__" apos) (e :: es) [] pos) X.env=(do
      let ov ← eval (.Name x p) X.env
      standAt apos.atName
      let (f,first) ← holding [ov] (getMethod ov "__init__" pl)
      callWith pos f first (backTo pos (starEach (e :: es) X.env)) (backToKw pos (keywordEach [] X.env))):=by rfl) :
    PE X (.Call (.Attribute (.Name x p) "__init__" apos) (e :: es) [] pos) (tInX X.K t):=by
  intro pins s σ H Q I h
  refine PySem.W.methodCall_KW (pl:=pl) (ld_glob I hg hm ?_ hdb) ht
  refine PySem.W.method_cls I.kIn J.sp (PySem.W.cls_value I.kIn J.rd J.fc rfl ?_)
  have hA:=ha pos pins _ σ H _ (I.tok (s.toks + 1)) h
  show wpAny _ _ (callWith pos (.builtin "ValueError.__init__") [] (backTo pos (starEach (e :: es) X.env)) []) _ _ _
  rw [hst] at hA ⊢
  refine Calls.callWith_builtin (by show (false || (backTo pos (starEach es X.env)).any (·.1))=false;rw [hpl] <;> rfl) (Calls.evalArgs_plain ?_)
  refine thn hA fun us s2 ⟨vs,H2,I2,r2,a,C,d,xs,ev,hl,ea,mk,q⟩=>?_
  subst ev
  cases r2 with
  | cons ru rr =>
    cases ru
    obtain ⟨t0,hx⟩:=xo_get I2.hok ea
    refine PySem.W.initX I2.kIn hx mk (by rw [← rr.length,sizeLine_eq];omega) fun h' h1 h2=>⟨.non,H2,?_,rfl,q⟩
    have:=I2.write (x:=a) (e:=a) (o:=XO a C d) (t':=s2.toks) (h':=h') (by rw [ea];exact True.intro) (.inl rfl) h2 ⟨_,h1⟩ (xo_ok h1)
    rwa [upd_self ea] at this
end
end L2
namespace L2
open PySem PyProof.Rows PySem.Spec PySem.Calls
noncomputable def XF (H:Hp) (e C:Addr) (fs:List (Str×V)):Prop:=∃ dx,H e=some (XO e C (some dx))∧H dx=some (XD dx fs)∧dx≠e
noncomputable def sFldX (K:PySem.W.Frag) (ta tv:TE) (f:Str):TS:=fun D σ H=>tv σ H fun y H1=>ta σ H1 fun x H2 =>
  (∃ a C,x=.ref a∧H2 a=some (XO a C none)∧ClsX K C∧NoAttr K C f∧∀ dx,H2 dx=none→dx≠a→D.nx σ (upd (upd H2 dx (XD dx [(f,y)])) a (XO a C (some dx)))) ∨
  (∃ a C dx fs,x=.ref a∧IsX H2 a C (some dx)∧H2 dx=some (XD dx fs)∧dx≠a∧ClsX K C∧NoAttr K C f∧fs.length < 1000∧D.nx σ (upd H2 dx (XD dx (putF f y fs))))
noncomputable def tFldX (K:PySem.W.Frag) (ta:TE) (f:Str):TE:=fun σ H Q=>ta σ H fun x H1=>∃ a C fs v,x=.ref a∧XF H1 a C fs∧ClsX K C∧NoAttr K C f∧fs.lookup f=some v∧Q v H1
structure ClsI (K:PySem.W.Frag) (C:Addr):Prop where
  c:ClsX K C
  ca:PySem.W.findIn K (.ref C) "__class__"=some (some (.builtin "object.__class__"))
  cn:PySem.W.specialIn K (.builtin "object.__class__") "__get__"=some (some (.builtin "getset_descriptor.__get__"))
  ct:PySem.W.takesIn K (.builtin "object.__class__")=some true
noncomputable def clV:V→Value
  | .ref a=>.ref a
  | .ty n=>.type n
  | _=>.none
noncomputable def rIsX (K:PySem.W.Frag):List V→Hp→VK→Prop:=fun xs H Q=>∃ a C fs c b,xs=[.ref a,c]∧XF H a C fs∧ClsI K C∧(∀ u,RelV c u→u=clV c)∧PySem.W.kitOne K (.ref C) (clV c)=some b∧Q (.bl b) H
noncomputable def rUpd:V→List V→Hp→VK→Prop:=fun x vs H Q=>∃ d e kvs more,x=.ref d∧vs=[.ref e]∧H d=some (.dK kvs)∧H e=some (.dK more)∧d≠e∧kvs.length + more.length≤1000∧Q .non (upd H d (.dK (mergeK kvs more)))
section
variable {X:Cx} {o e value:Expr} {f:Str} {pos pos' tpos:Pos} {ta tv:TE}
theorem ps_fldX (ha:PE X o ta) (hv:PE X value tv) (hs:swapsWith value (some (.Attribute o f pos')) pos.line X.env=pure false):PS X (.Assign [.Attribute o f pos'] value pos) (sFldX X.K ta tv f):=by
  intro pins s σ H D I h
  refine plainObj_wpAny_Assign_Attribute (thn (hv pins s σ H _ I h) fun u s1 ⟨y,H1,I1,ry,q⟩=>thn (ha pins s1 σ H1 _ I1 q) fun ov s2 ⟨x,H2,I2,rx,q2⟩=>?_) hs
  rcases q2 with ⟨a,C,ex,ea,c,n,q3⟩ | ⟨a,C,dx,fs,ex,ea,ed,ne,c,n,l,q3⟩
  · subst ex
    obtain rfl:ov=Value.ref a:=rx
    exact setX1_ok I2 ea c n ry fun dx s3 h1 h2 I3=>⟨σ,_,I3,q3 dx h1 h2⟩
  · subst ex
    obtain rfl:ov=Value.ref a:=rx
    exact setX2_ok I2 ea ed ne c n l ry fun s3 I3=>⟨σ,_,I3,q3⟩
end
end L2
namespace L2
open PySem PyProof.Rows PySem.Spec PySem.Calls
noncomputable def Deq (K:PySem.W.Frag) (H:Hp):Nat→V→V→Prop
  | 0,x,y=>x=y∧flatV x=true
  | n + 1,x,y=>(x=y∧flatV x=true)∨∃ a b xs ys,x=.ref a∧y=.ref b∧((SqL K H a xs∧SqL K H b ys)∨(SqT K H a xs∧SqT K H b ys))∧xs.length=ys.length∧∀ j,j < xs.length→Deq K H n (xs.getD j .non) (ys.getD j .non)
theorem deq_eqAt {X:Cx} {pins:List (Addr×Obj)} {σ:St} {H:Hp} {s:Shared} (I:Inv X pins σ H s):∀ (n:Nat) (A:Around) (x y:V) (u v:Value),A.units + n < cLine→Deq X.K H n x y→RelV x u→RelV y v→SeqAt.EqAt A s u v true
  | 0,A,x,y,u,v,_,⟨e,f⟩,rx,ry=>by
    subst e
    have:=eqAt_V (A:=A) (s:=s) rx ry f f
    rwa [eqV_refl f] at this
  | n + 1,A,x,y,u,v,hu,h,rx,ry=>by
    rcases h with ⟨e,f⟩ | ⟨a,b,xs,ys,rfl,rfl,hs,hl,he⟩
    · subst e
      have:=eqAt_V (A:=A) (s:=s) rx ry f f
      rwa [eqV_refl f] at this
    · cases rx
      cases ry
      by_cases hab:a=b
      · subst hab;exact SeqAt.EqAt.same _
      have hu1:A.in1.units + n < cLine:=by
        have:A.in1.units=A.units + 1:=by first | rfl | exact Around.units_in1 A
        omega
      refine SeqAt.EqAt.of_refs hab ?_
      rcases hs with ⟨h1,h2⟩ | ⟨h1,h2⟩
      · obtain ⟨its,r1,l1,_⟩:=I.list h1
        obtain ⟨jts,r2,l2,_⟩:=I.list h2
        have e1:=r1.length
        have e2:=r2.length
        have:=SeqAt.RcAt.lists (A:=A) (e:=fun _=>true) l1.isList l2.isList (by simp;omega) (by omega) (fun j q1 q2=>deq_eqAt I n A.in1 _ _ _ _ hu1 (he j (by simp at q1;omega)) (vals_at r1 j q1) (vals_at r2 j q2))
        rwa [show (List.range its.toArray.size).all (fun _=>true)=true from List.all_eq_true.mpr fun _ _=>rfl] at this
      · obtain ⟨its,r1,l1,_⟩:=I.tuple h1
        obtain ⟨jts,r2,l2,_⟩:=I.tuple h2
        have e1:=r1.length
        have e2:=r2.length
        have:=SeqAt.RcAt.tuples (A:=A) (e:=fun _=>true) l1 l2 (by omega) (fun j q1 q2=>deq_eqAt I n A.in1 _ _ _ _ hu1 (he j (by simp at q1;omega)) (vals_at r1 j q1) (vals_at r2 j q2))
        rw [show (List.range (min its.toArray.size jts.toArray.size)).all (fun _=>true)=true from List.all_eq_true.mpr fun _ _=>rfl,Bool.true_and,beq_iff_eq.mpr (by simp;omega)] at this
        exact this
noncomputable def rEqD (K:PySem.W.Frag) (n:Nat):R2:=fun x y H Q=>∃ a b xs ys,x=.ref a∧y=.ref b∧SqL K H a xs∧SqL K H b ys∧xs.length=ys.length∧(∀ j,j < xs.length→Deq K H n (xs.getD j .non) (ys.getD j .non))∧Q (.bl true) H
structure MkXD (P:Program) (w:World) (K:PySem.W.Frag) (mg:Str→Option Value) (base:Heap) (k:Nat) (x:Str) (C:Addr) (ps:List Str) (sp:Sp):Prop where
  ex:∃ f fd,MkX K C f∧FnOk P w K mg base CX0 k f fd ps sp∧Binds K fd ps []∧mg x=some (.ref C)
  few:ps.length≤1000
theorem pe_makeXD {X:Cx} {k:Nat} {x:Str} {C:Addr} {ps:List Str} {sp:Sp} {e:Expr} {es:List Expr} {t:TA} {p pos:Pos} (D:MkXD X.prog X.w X.K X.mg X.base k x C ps sp) (hr:Room (k + 1) X.A) (hg:Gl X x) (ha:PA X (e :: es) t) (hdb:(x == ("__debug__":Str))=false:=by decide)
    (he:starEach (e :: es) X.env=(false,eval e X.env) :: starEach es X.env:=by rfl) (hpl:(backTo pos (starEach es X.env)).any (·.1)=false:=by rfl):PE X (.Call (.Name x p) (e :: es) [] pos) (tMakeX C sp E0 t):=by
  obtain ⟨f,fd,M,F,b,m⟩:=D.ex
  exact pe_makeX M F hr hg m b pass0 D.few ha hdb he hpl
noncomputable def xcls (K:PySem.W.Frag) (C:Addr) (fs:List Str):Bool :=
  PySem.W.hasDictIn K C && PySem.W.excOver K C && PySem.W.findIn K (.ref C) "__setattr__" == some (some (.builtin "object.__setattr__")) && PySem.W.findIn K (.ref C) "__getattribute__" == some (some (.builtin "BaseException.__getattribute__")) &&
  PySem.W.findIn K (.ref C) "__getattr__" == some none && PySem.W.findIn K (.ref C) "__class__" == some (some (.builtin "object.__class__")) && fs.all fun f=>PySem.W.findIn K (.ref C) f == some none
structure XCl (K:PySem.W.Frag) (C:Addr) (fs:List Str):Prop where
  i:ClsI K C
  n:∀ f∈fs,NoAttr K C f
  m:PySem.W.excMk K C=true
theorem XCl.of {K:PySem.W.Frag} {C:Addr} {fs:List Str} (h:xcls K C fs=true) (m:PySem.W.excMk K C=true) (cn:PySem.W.specialIn K (.builtin "object.__class__") "__get__"=some (some (.builtin "getset_descriptor.__get__"))) (ct:PySem.W.takesIn K (.builtin "object.__class__")=some true):XCl K C fs:=by
  unfold xcls at h
  simp only [Bool.and_eq_true,beq_iff_eq,List.all_eq_true] at h
  obtain ⟨⟨⟨⟨⟨⟨h1,h2⟩,h3⟩,h4⟩,h5⟩,h6⟩,h7⟩:=h
  exact ⟨⟨⟨h1,h2,h3,h4,h5⟩,h6,cn,ct⟩,fun f hf=>h7 f hf,m⟩
end L2
namespace L2
open PySem PyProof.Rows PySem.Spec PySem.Calls
noncomputable def kitTab (K:PySem.W.Frag) (cs:List Addr) (b:Addr):Bool :=
  (List.range cs.length).all fun i=>PySem.W.kitOne K (.ref (cs.getD i 0)) (.ref b) == some true && PySem.W.kitOne K (.ref (cs.getD i 0)) (.type "ValueError") == some true && (List.range cs.length).all fun j=>PySem.W.kitOne K (.ref (cs.getD i 0)) (.ref (cs.getD j 0)) == some (i == j)
theorem kitTab_base {K:PySem.W.Frag} {cs:List Addr} {b:Addr} {i:Nat} (h:kitTab K cs b=true) (hi:i < cs.length):PySem.W.kitOne K (.ref (cs.getD i 0)) (.ref b)=some true:=by
  have q:=List.all_eq_true.mp h i (List.mem_range.mpr hi)
  simp only [beq_iff_eq,Bool.and_eq_true] at q
  exact q.1.1
theorem putK_fresh {kvs:List (Key×V)} {k:Key} {v:V} (h:k ∉ kvs.map (·.1)):putK kvs k v=kvs ++ [(k,v)]:=by
  unfold putK
  rw [if_neg]
  intro e
  obtain ⟨p,hp,he⟩:=List.any_eq_true.mp e
  exact h (List.mem_map.mpr ⟨p,hp,of_decide_eq_true he⟩)
theorem mergeK_new:∀ {more kvs:List (Key×V)} {ks:List Key},kvs.map (·.1) ++ more.map (·.1)=ks→ks.Nodup→mergeK kvs more=kvs ++ more
  | [],kvs,ks,_,_=>(List.append_nil _).symm
  | p :: r,kvs,ks,e,n=>by
    subst e
    have hn:p.1 ∉ kvs.map (·.1):=fun z=>by
      rw [List.map_cons,List.nodup_append] at n
      exact n.2.2 _ z _ (.head _) rfl
    show mergeK (putK kvs p.1 p.2) r=_
    rw [putK_fresh hn,mergeK_new (more:=r) (kvs:=kvs ++ [(p.1,p.2)]) rfl (by rw [List.map_append,List.append_assoc];exact n),List.append_assoc]
    rfl
noncomputable def spC (m:Nat):Sp:=fun vs H Q _ =>
  (1≤m∧∃ z:Str,vs=[.str z]∧Q (.str z) H) ∨
  (2≤m∧∃ (a:Addr) (zs:List Str),vs=[.ref a]∧H a=some (.lst (zs.map V.str))∧zs.length≤100∧∀ p H',Same H H'→H p=none→H' p=some (.lst (zs.map V.str))→Q (.ref p) H') ∨
  (3≤m∧∃ (a l:Addr) (z:Str) (zs:List Str),vs=[.ref a]∧H a=some (.tup [.str z,.ref l])∧H l=some (.lst (zs.map V.str))∧zs.length≤100 ∧
    ∀ p q H',Same H H'→H p=none→H q=none→H' p=some (.tup [.str z,.ref q])→H' q=some (.lst (zs.map V.str))→Q (.ref p) H') ∨
  (4≤m∧∃ (a b l:Addr) (z:Str) (zs:List Str),vs=[.ref a]∧H a=some (.lst [.ref b])∧H b=some (.tup [.str z,.ref l])∧H l=some (.lst (zs.map V.str))∧zs.length≤100 ∧
    ∀ r p q H',Same H H'→H r=none→H' r=some (.lst [.ref p])→H' p=some (.tup [.str z,.ref q])→H' q=some (.lst (zs.map V.str))→Q (.ref r) H')
end L2
namespace PySem.W
open PySem
structure Noted (e:Addr) (cl:Value) (d:Option Addr) (fr:List Addr) (off:Addr→Prop) (h h':Heap):Prop where
  exc:∃ vs sl T oT ts,h'.get? e=some ⟨cl,d,.fields vs,sl⟩∧vs[1]?=some (.ref T)∧T≠e∧h.objs.size≤T∧h'.get? T=some oT∧oT.data=.fields ts∧ts[3]?=some .none
  keep:∀ b o,b≠e→¬ off b→b ∉ fr→h.get? b=some o→h'.get? b=some o
  slot:∀ b o,b≠e→¬ off b→h.get? b=some o→∃ sl,h'.get? b=some { o with slots:=sl }
  ctx:∀ o o' vs vs',h.get? e=some o→h'.get? e=some o'→o.data=.fields vs→o'.data=.fields vs'→vs'[2]?=vs[2]?
noncomputable abbrev tbObj (ws:Array Value):Obj:={ cls:=.type "traceback",dict:=none,data:=.fields ws }
section
variable {M:Model} {E:Value→Shared→Prop} {A:Around} {s:Shared}
theorem note_core {bh:Heap} {env:Env} {outer:List Env} {L e:Addr} {cl head:Value} {d:Option Addr} {vs:Array Value} {sl:Array (Option Value)} {hadNext:Bool} {Q:Unit→Shared→Prop}
    (hA:A.frames=some (env :: outer)) (hl:s.heap.FunFrames bh (env :: outer)) (hf:env.frame=some L) (he:s.heap.get? e=some ⟨cl,d,.fields vs,sl⟩) (hz:1 < vs.size)
    (k:∀ h',Noted e cl d ((env :: outer).filterMap (·.frame)) (fun _=>False) s.heap h'→Q () { s with heap:=h' }) :
    wpAny M A (do let fo ← frameOf env;let pl ← entryPlaceOf L hadNext;let tb ← EntryCells.newEntry head fo .none (rawInt L) .none pl;setField (.ref e) 1 tb) (fun _ s1=>wpAny M A (setFlight (.ref e) none) Q E s1) E s:=by
  have eno:e ∉ (env :: outer).filterMap (·.frame):=fun z=>by
    obtain ⟨_,ob,q1,q2⟩:=hl.mem z
    rw [he] at q1
    cases q1
    exact q2 vs rfl
  refine wpAny_bind (wpAny_frameOf_fun hA hl hf fun g so=>?_)
  refine wpAny_bind (wpAny_entryPlaceOf fun pla hpl=>?_)
  unfold EntryCells.newEntry;unfold newFields
  refine (wpAny_bind (wpAny_newObj_type ?_ (hpl.sizeOk5 _ _ _ _ _)))
  generalize hws:([head,.ref L,.none,rawInt L,.none] ++ (if pla.isEmpty then List.replicate 6 Value.none else pla)).toArray=ws
  have wz:3 < ws.size:=by
    rw [← hws]
    simp only [List.size_toArray,List.length_append,List.length_cons,List.length_nil]
    omega
  have e1:g.get? e=some ⟨cl,d,.fields vs,sl⟩:=(so.2.1 e eno).trans he
  have nT:g.objs.size≠e:=Nat.ne_of_gt (Heap.lt_size e1)
  have e2:(g.push (tbObj ws)).get? e=_:=Heap.get?_push_of_some (h:=g) (tbObj ws) e1
  refine wpAny_setField e2 rfl hz ?_
  generalize hu:(g.push (tbObj ws)).update e (Obj.mapFields (·.setIfInBounds 1 (Value.ref g.objs.size)))=g2
  have e3:g2.get? e=some ⟨cl,d,.fields (vs.setIfInBounds 1 (.ref g.objs.size)),sl⟩:=by
    rw [← hu]
    exact Heap.get?_update_self _ e2 rfl
  have t3:g2.get? g.objs.size=some (tbObj ws):=by
    rw [← hu,Heap.get?_update_other _ _ (Ne.symm nT)]
    exact Heap.get?_push_size g rfl
  have o3:∀ b ob,b≠e→g.get? b=some ob→g2.get? b=some ob:=fun b ob hb q=>by
    rw [← hu,Heap.get?_update_other _ _ (Ne.symm hb)]
    exact Heap.get?_push_of_some _ q
  unfold setFlight
  refine wpAny_bind (wpAny_field e3 rfl (x:=.ref g.objs.size) (by simp [hz]) ?_)
  rw [if_pos (by simp)]
  refine wpAny_setField t3 rfl wz (k _ ⟨?_,fun b ob hb _ hx q=>?_,fun b ob hb _ q=>?_,fun o o' ws' vs' q1 q2 q3 q4=>?_⟩)
  · refine ⟨vs.setIfInBounds 1 (.ref g.objs.size),sl,g.objs.size,_,_,?_,by simp [hz],nT,?_,Heap.get?_update_self _ t3 rfl,rfl,by simp [wz]⟩
    · rw [Heap.get?_update_other _ _ nT]
      exact e3
    · exact Nat.le_of_eq so.1.symm
  · have q1:g.get? b=some ob:=(so.2.1 b hx).trans q
    rw [Heap.get?_update_other _ _ (Nat.ne_of_gt (Heap.lt_size q1))]
    exact o3 b ob hb q1
  · obtain ⟨s1,q1⟩:=so.2.2 b ob q
    refine ⟨s1,?_⟩
    rw [Heap.get?_update_other _ _ (Nat.ne_of_gt (Heap.lt_size q1))]
    exact o3 b _ hb q1
  · rw [Heap.get?_update_other _ _ nT,e3] at q2
    rw [he] at q1
    cases q1
    cases q2
    cases q3
    cases q4
    simp
noncomputable def HeadAt (h:Heap) (e T:Addr):Prop:=T≠e∧∃ oT ts,h.get? T=some oT∧oT.data=.fields ts∧ts[3]?=some .none
theorem note_fly {bh:Heap} {env:Env} {outer:List Env} {L e:Addr} {cl:Value} {d:Option Addr} {vs:Array Value} {sl:Array (Option Value)} {off:Addr→Prop} {Q:Unit→Shared→Prop}
    (hA:A.frames=some (env :: outer)) (hl:s.heap.FunFrames bh (env :: outer)) (hf:env.frame=some L) (he:s.heap.get? e=some ⟨cl,d,.fields vs,sl⟩)
    (hv:vs[1]?=some .none∨∃ T,vs[1]?=some (.ref T)∧HeadAt s.heap e T∧off T)
    (k:∀ h',Noted e cl d ((env :: outer).filterMap (·.frame)) off s.heap h'→Q () { s with heap:=h' }) :
    wpAny M A (noteFrame (.ref e) env) (fun _ s1=>wpAny M A (setFlight (.ref e) none) Q E s1) E s:=by
  unfold noteFrame
  simp only [hf]
  rcases hv with hv | ⟨T,hv,⟨nT,oT,ts,hT,dT,h3⟩,ho⟩
  · refine wpAny_bind (wpAny_field he rfl hv ?_)
    rw [if_neg (by decide)]
    exact note_core hA hl hf he (Array.getElem?_eq_some_iff.mp hv).1 fun h' n=>k h' ⟨n.exc,fun b o h1 _=>n.keep b o h1 (fun z=>z),fun b o h1 _=>n.slot b o h1 (fun z=>z),n.ctx⟩
  · refine wpAny_bind (wpAny_field he rfl hv ?_)
    rw [if_pos (by simp)]
    refine wpAny_bind (wpAny_field hT dT h3 ?_)
    rw [if_neg (by simp [rawInt])]
    refine wpAny_bind (wpAny_setField hT dT (Array.getElem?_eq_some_iff.mp h3).1 ?_)
    generalize hu:s.heap.update T (Obj.mapFields (·.setIfInBounds 3 Value.none))=g
    have oth:∀ b,b≠T→g.get? b=s.heap.get? b:=fun b hb=>by rw [← hu];exact Heap.get?_update_other _ _ (Ne.symm hb)
    have hz:g.objs.size=s.heap.objs.size:=by rw [← hu];exact Heap.size_after_update ..
    refine note_core (s:={ s with heap:=g }) hA (hl.of_keeps fun b o q nf=>⟨o,(oth b fun z=>?_).trans q,rfl⟩) hf ((oth e (Ne.symm nT)).trans he) (Array.getElem?_eq_some_iff.mp hv).1 fun h' n=>k h' ⟨?_,fun b o h1 h2 h3 q=>?_,fun b o h1 h2 q=>?_,fun o o' ws vs' q1=>n.ctx o o' ws vs' ((oth e (Ne.symm nT)).trans q1)⟩
    · rw [z,hT] at q
      cases q
      exact nf ts dT
    · obtain ⟨vs',sl',T',o',ts',x1,x2,x3,x4,x5⟩:=n.exc
      exact ⟨vs',sl',T',o',ts',x1,x2,x3,by rw [← hz];exact x4,x5⟩
    · exact n.keep b o h1 (fun z=>z) h3 ((oth b fun z=>h2 (z ▸ ho)).trans q)
    · exact n.slot b o h1 (fun z=>z) ((oth b fun z=>h2 (z ▸ ho)).trans q)
end
end PySem.W
namespace L2
open PySem PyProof.Rows PySem.Spec PySem.Calls
noncomputable def TrX (n:Nat) (H:Hp) (ea:Addr) (h:Heap):Prop:=∃ cl d vs sl T,h.get? ea=some ⟨cl,d,.fields vs,sl⟩∧vs[1]?=some (.ref T)∧PySem.W.HeadAt h ea T∧n≤T∧H T=none
noncomputable def CXe (P:Program) (w:World):CXT:=fun outer H s E e s'=>∃ ea C d H',e=.ref ea∧s'.os=s.os∧AllBare s'.gens∧Un (frs outer) [] H H' s.heap s'.heap∧HOk P w H' s'.heap∧H' ea=some (XC ea C d) ∧
  TrX s.heap.objs.size H' ea s'.heap∧E (.ref C) (some ea) H'
noncomputable def TrI (X:Cx) (pins:List (Addr×Obj)) (H:Hp) (ea:Addr) (h:Heap):Prop:=∃ cl d vs sl T,h.get? ea=some ⟨cl,d,.fields vs,sl⟩∧vs[1]?=some (.ref T)∧PySem.W.HeadAt h ea T∧X.s₀.heap.objs.size≤T∧H T=none ∧
  T≠X.env.locals∧(∀ x c,X.env.cells.lookup x=some c→c≠T)∧∀ p∈X.pn ++ pins,p.1≠T
structure Top (X:Cx):Prop where
  ex:X.ex=[]
  stk:X.stack=X.env :: X.outer
  fr:X.env.frame=some X.env.locals
noncomputable def PassesS (X:Cx) (G:St→XK):Prop:=∀ (pins:List (Addr×Obj)) (σ:St) (H:Hp) (s:Shared) (e:Value) (s':Shared),Inv X pins σ H s→CXe X.prog X.w X.stack H s (G σ) e s'→X.xe e s'
noncomputable def RaisesS (X:Cx) (G:St→XK):Prop:=∀ (pins:List (Addr×Obj)) (σ:St) (H:Hp) (s:Shared) (ea C:Addr) (d:Option Addr),Inv X pins σ H s→H ea=some (XO ea C d)→G σ (.ref C) (some ea) (upd H ea (XC ea C d))→X.xe (.ref ea) s
noncomputable abbrev G0:St→XK:=fun _ _ _ _=>False
theorem passE0 {X:Cx}:PassesS X G0:=fun _ _ _ _ _ _ _ ⟨_,_,_,_,_,_,_,_,_,_,_,z⟩=>z.elim
section
variable {X:Cx} {pins:List (Addr×Obj)} {σ:St} {H H':Hp} {s s':Shared} {ea C:Addr} {d:Option Addr} {h':Heap}
theorem Inv.flew {E:XK} {e:Value} (I:Inv X pins σ H s) (c:CXe X.prog X.w X.stack H s E e s'):∃ ea C d H',e=.ref ea∧Inv X pins σ H' s'∧H' ea=some (XC ea C d)∧TrI X pins H' ea s'.heap∧E (.ref C) (some ea) H':=by
  obtain ⟨ea,C,d,H',rfl,ho,hb,un,ok,hx,⟨cl,d',vs,sl,T,g1,g2,g3,g4,g5⟩,q⟩:=c
  refine ⟨ea,C,d,H',rfl,I.call' ho un ok hb (fun b z=>absurd z (by simp)),hx,⟨cl,d',vs,sl,T,g1,g2,g3,Nat.le_trans I.sz g4,g5,fun z=>?_,fun x c hc z=>?_,fun p hp z=>?_⟩,q⟩
  · have lt:=I.lt
    rw [← z] at lt
    exact absurd (Nat.lt_of_lt_of_le lt g4) (Nat.lt_irrefl _)
  · obtain ⟨v,o,q1,_⟩:=I.cell x c hc
    have lt:=Heap.lt_size q1
    rw [z] at lt
    exact absurd (Nat.lt_of_lt_of_le lt g4) (Nat.lt_irrefl _)
  · have lt:=Heap.lt_size (I.pin p hp).1
    rw [z] at lt
    exact absurd (Nat.lt_of_lt_of_le lt g4) (Nat.lt_irrefl _)
theorem Inv.noted {off:Addr→Prop} (t:Top X) (I:Inv X pins σ H s) (hx:H ea=some (XC ea C d))
    (ht:∀ T,off T→X.s₀.heap.objs.size≤T∧H T=none∧T≠X.env.locals∧(∀ x c,X.env.cells.lookup x=some c→c≠T)∧∀ p∈X.pn ++ pins,p.1≠T) (h1:∀ T U,off T→off U→T=U)
    (n:PySem.W.Noted ea (.ref C) d (X.env :: X.outer |>.filterMap (·.frame)) off s.heap h'):Inv X pins σ H { s with heap:=h' }∧TrI X pins H ea h':=by
  have fr:∀ b,b∈(X.env :: X.outer).filterMap (·.frame) ↔ b=X.env.locals∨b∈X.fs:=fun b=>by
    rw [List.filterMap_cons,t.fr]
    exact List.mem_cons
  have frn:∀ b,b∈(X.env :: X.outer).filterMap (·.frame)→H b=none:=fun b hb=>I.stkFree b (by rw [t.stk];exact hb)
  obtain ⟨vs,sl,T,oT,ts,x1,x2,x3,x4,x5,x6,x7⟩:=n.exc
  have nea:∀ b,H b=none→b≠ea:=fun b hb z=>by rw [z,hx] at hb;cases hb
  obtain ⟨ch,hch⟩:∃ ch:List Addr,(∀ b∈ch,off b)∧∀ b,off b→b∈ch:=by
    by_cases z:∃ T,off T
    · obtain ⟨T,hT⟩:=z
      exact ⟨[T],fun b hb=>by rw [List.mem_singleton.mp hb];exact hT,fun b hb=>by rw [h1 b T hb hT];exact List.mem_singleton.mpr rfl⟩
    · exact ⟨[],fun b hb=>absurd hb (by simp),fun b hb=>absurd ⟨b,hb⟩ z⟩
  have I':Inv X pins σ H { s with heap:=h',gens:=s.gens,drawn:=s.drawn,toks:=s.toks }:=by
    refine I.step (ch:=ch) (fun b hb=>?_) (fun b o h1 h2 h3 q hn=>?_) (fun b o h1 h2 h3 q hn=>?_) (fun _ _ _ _ q=>q) (fun b o h3 q=>?_) (fun _ _ q=>q) (fun _ _ _ q=>q) (fun b ps q=>⟨#[],by rw [q];simp⟩) (fun m hm=>?_) (fun b u hb=>?_) I.bare
    · obtain ⟨a1,_,a3,a4,a5⟩:=ht b (hch.1 b hb)
      exact ⟨.inr a1,a3,a4,a5⟩
    · exact n.keep b o (nea b hn) (fun z=>h3 (hch.2 b z)) (fun z=>((fr b).mp z).elim h1 h2) q
    · exact n.slot b o (nea b hn) (fun z=>h3 (hch.2 b z)) q
    · by_cases z:b=ea
      · rw [z];exact ⟨_,x1⟩
      · obtain ⟨l,q1⟩:=n.slot b o z (fun z=>h3 (hch.2 b z)) q
        exact ⟨_,q1⟩
    · obtain ⟨o,es,ep,ho,r⟩:=hm
      obtain ⟨l,q1⟩:=n.slot _ o (nea _ I.free) (fun z=>(ht _ z).2.2.1 rfl) ho
      exact ⟨_,es,ep,q1,r⟩
    · by_cases z:b=ea
      · subst z
        rw [hx] at hb
        cases hb
        obtain ⟨vs0,sl0,g0,c0⟩:=x_getC I.hok (.inr hx)
        exact xc_ok x1 ((n.ctx _ _ _ _ g0 x1 rfl rfl).trans c0)
      · refine (I.hok b u hb).stay (fun c v hc q=>n.keep c v ?_ (fun z=>?_) (fun z=>?_) q) (fun _ q=>q) fun _ _ q=>q
        · rcases hc with rfl | hc
          · exact z
          · intro z
            rw [z,hx] at hc
            cases hc
        · have hn:=(ht c z).2.1
          rcases hc with rfl | hc
          · rw [hb] at hn;cases hn
          · rw [hc] at hn;cases hn
        · have hn:=frn c z
          rcases hc with rfl | hc
          · rw [hb] at hn;cases hn
          · rw [hc] at hn;cases hn
  have lt:=I.lt
  refine ⟨I',.ref C,d,vs,sl,T,x1,x2,⟨x3,oT,ts,x5,x6,x7⟩,Nat.le_trans I.sz x4,I.hok.fresh x4,fun z=>?_,fun x c hc z=>?_,fun p hp z=>?_⟩
  · rw [← z] at lt
    exact absurd (Nat.lt_of_lt_of_le lt x4) (Nat.lt_irrefl _)
  · obtain ⟨v,o,q1,_⟩:=I.cell x c hc
    have lt:=Heap.lt_size q1
    rw [z] at lt
    exact absurd (Nat.lt_of_lt_of_le lt x4) (Nat.lt_irrefl _)
  · have lt:=Heap.lt_size (I.pin p hp).1
    rw [z] at lt
    exact absurd (Nat.lt_of_lt_of_le lt x4) (Nat.lt_irrefl _)
theorem note_flew {Q:Unit→Shared→Prop} {E:Value→Shared→Prop} (t:Top X) (I:Inv X pins σ H s) (hx:H ea=some (XC ea C d)) (tr:TrI X pins H ea s.heap)
    (k:∀ s',Inv X pins σ H s'→TrI X pins H ea s'.heap→Q () s') :
    wpAny (model X.prog X.w) X.A (noteFrame (.ref ea) X.env) (fun _ s1=>wpAny (model X.prog X.w) X.A (setFlight (.ref ea) none) Q E s1) E s:=by
  obtain ⟨cl,d',vs,sl,T,g1,g2,g3,g4⟩:=tr
  obtain ⟨vs',sl',q⟩:=x_get I.hok (.inr hx)
  rw [g1] at q
  cases q
  refine PySem.W.note_fly (bh:=X.base) (off:=fun b=>b=T) (outer:=X.outer) (by rw [← t.stk];exact I.ok.frames) (by rw [← t.stk];exact I.stack) t.fr g1 (.inr ⟨T,g2,g3,rfl⟩) fun h' n=>?_
  obtain ⟨a,b⟩:=I.noted (off:=fun b=>b=T) t hx (fun U z=>(show U=T from z) ▸ g4) (fun _ _ p q=>p.trans q.symm) n
  exact k _ a b
theorem note_made {Q:Unit→Shared→Prop} {E:Value→Shared→Prop} (t:Top X) (I:Inv X pins σ H s) (hx:H ea=some (XO ea C d))
    (k:∀ s',Inv X pins σ (upd H ea (XC ea C d)) s'→TrI X pins (upd H ea (XC ea C d)) ea s'.heap→Q () s') :
    wpAny (model X.prog X.w) X.A (noteFrame (.ref ea) X.env) (fun _ s1=>wpAny (model X.prog X.w) X.A (setFlight (.ref ea) none) Q E s1) E s:=by
  obtain ⟨t0,g1⟩:=xo_get I.hok hx
  have I1:Inv X pins σ (upd H ea (XC ea C d)) { s with heap:=s.heap,toks:=s.toks }:=I.write (x:=ea) (e:=ea) (by rw [hx];exact True.intro) (.inl rfl) (fun _ _ _ q=>q) ⟨_,g1⟩ (xc_ok g1 rfl)
  refine PySem.W.note_fly (bh:=X.base) (off:=fun _=>False) (outer:=X.outer) (by rw [← t.stk];exact I.ok.frames) (by rw [← t.stk];exact I.stack) t.fr g1 (.inl rfl) fun h' n=>?_
  obtain ⟨a,b⟩:=I1.noted t upd_same (fun _ z=>z.elim) (fun _ _ z=>z.elim) n
  exact k _ a b
theorem TrI.tr (t:TrI X pins H ea h'):TrX X.s₀.heap.objs.size H ea h':=let ⟨cl,d,vs,sl,T,a,b,c,e,f,_⟩:=t;⟨cl,d,vs,sl,T,a,b,c,e,f⟩
end
section
variable {P:Program} {w:World} {K:PySem.W.Frag} {mg:Str→Option Value} {base:Heap} {N ps:List Str} {qual x:Str} {scope:Scope} {f:Addr} {cd:Value} {A:Around} {outer:List Env} {s:Shared} {H:Hp} {E:XK} {k:Nat}
noncomputable abbrev cxE (P:Program) (w:World) (K:PySem.W.Frag) (mg:Str→Option Value) (base:Heap) (N:List Str) (qual:Str) (scope:Scope) (f:Addr) (cd:Value) (A:Around) (outer:List Env) (s:Shared) (H:Hp) (E:XK):Cx :=
  cxOf (CXe P w) P w K mg base N qual scope f cd A outer s H E
theorem top_def:Top (cxE P w K mg base N qual scope f cd A outer s H E):=⟨rfl,rfl,rfl⟩
theorem own_def:PassesOwn (model P w) (cxE P w K mg base N qual scope f cd A outer s H E).A (cxE P w K mg base N qual scope f cd A outer s H E).env (cxE P w K mg base N qual scope f cd A outer s H E).xe:=PassesOwn.leaving
theorem pass_def:PassesS (cxE P w K mg base N qual scope f cd A outer s H E) (fun _=>E):=by
  intro pins σ H1 s1 e s2 I c
  obtain ⟨ea,C,d,H2,rfl,I2,hx,tr,q⟩:=I.flew c
  show wpAny _ _ (leaving _ _) _ _ _
  unfold leaving
  refine wpAny_bind (note_flew top_def I2 hx tr fun s3 I3 t3=>?_)
  exact ⟨ea,C,d,H2,rfl,I3.os,I3.bare,I3.base,I3.hok,hx,t3.tr,q⟩
theorem raise_def:RaisesS (cxE P w K mg base N qual scope f cd A outer s H E) (fun _=>E):=by
  intro pins σ H1 s1 ea C d I hx q
  show wpAny _ _ (leaving _ _) _ _ _
  unfold leaving
  refine wpAny_bind (note_made top_def I hx fun s3 I3 t3=>?_)
  exact ⟨ea,C,d,_,rfl,I3.os,I3.bare,I3.base,I3.hok,upd_same,t3.tr,q⟩
theorem Fun.okE {st:Stmt} {fd:FuncData} {sp:Sp} (F:Fun K x qual st f fd) (S:FnScope N ps (defScope st)) (len:∀ vs H Q E,sp vs H Q E→vs.length=ps.length)
    (hbody:∀ (cdv:Value) (A:Around) (outer:List Env) (s:Shared) (H:Hp) (vs:List V) (Q:VK) (E:XK),Room k (A.deeper (envOfC qual (defScope st) s.heap.objs.size f cdv))→sp vs H Q E →
      ∃ t,PSs (cxE P w K mg base N qual (defScope st) f cdv A outer s H E) (defBody st) t∧t { nx:=fun _ H'=>Q .non H',rt:=Q } (start N vs) H):FnOk P w K mg base (CXe P w) (k + 1) f fd ps sp:=by
  obtain ⟨oc,od,kV,doc,pm,an,cdv,ct,osl,rfl,lk,hcd⟩:=F.ex
  exact fn_of lk hcd S len fun A outer s H vs Q E hr hsp=>hbody cdv A outer s H vs Q E hr hsp
theorem FnOk.lift {CX:CXT} {fd:FuncData} {sp:Sp} (F:FnOk P w K mg base CX0 k f fd ps sp):FnOk P w K mg base CX k f fd ps sp :=
  ⟨F.len,fun A outer s H args us vs Q E hr e0 hb r h=>codeAny_mono (F.run A outer s H args us vs Q E hr e0 hb r h) fun r s' q=>match r,q with
    | .ok (.ret _),q=>q
    | .ok .next,q=>q
    | .ok .brk,q=>q
    | .ok .cont,q=>q
    | .error _,q=>False.elim q⟩
structure DfE (P:Program) (w:World) (K:PySem.W.Frag) (mg:Str→Option Value) (base:Heap) (k:Nat) (x:Str) (ps:List Str) (sp:Sp):Prop where
  ex:∃ f fd,FnOk P w K mg base (CXe P w) k f fd ps sp∧Binds K fd ps []∧PySem.W.keepIn K (.ref f)=true∧mg x=some (.ref f)
structure MtE (P:Program) (w:World) (K:PySem.W.Frag) (mg:Str→Option Value) (base:Heap) (k:Nat) (m:Str) (C:Addr) (ps:List Str) (sp:Sp):Prop where
  ex:∃ f fd,Meth K C m f∧FnOk P w K mg base (CXe P w) k f fd ps sp∧Binds K fd ps []
end
noncomputable def tCallE (sp:Sp) (G:St→XK) (t:TA):TE:=fun σ H Q=>t σ H fun vs H1=>sp vs H1 Q (G σ)
noncomputable def tMethE (P:Program) (w:World) (K:PySem.W.Frag) (mg:Str→Option Value) (base:Heap) (k:Nat) (m:Str) (G:St→XK) (ta:TE) (t:TA):TE:=fun σ H Q=>ta σ H fun x H1=>∃ a C dx fs ps sp,x=.ref a∧H1 a=some (.ins C dx fs)∧fs.lookup m=none∧Cls K C∧MtE P w K mg base k m C ps sp ∧
  t σ H1 fun vs H2=>sp (x :: vs) H2 Q (G σ)
section
variable {X:Cx} {k:Nat} {ps:List Str} {sp:Sp} {G:St→XK} {x m:Str} {p pos apos:Pos} {e o:Expr} {es:List Expr} {ta:TE} {t:TA}
theorem run_fnE {pins:List (Addr×Obj)} {σ:St} {H:Hp} {s:Shared} {Q:VK} {us:List Value} {vs:List V} {f:Addr} {fd:FuncData} (F:FnOk X.prog X.w X.K X.mg X.base (CXe X.prog X.w) k f fd ps sp) (hr:Room k X.A) (hb:Binds X.K fd ps []) (hx:PassesS X G)
    (I:Inv X pins σ H s) (r:Vals vs us) (h:sp vs H Q (G σ)):wpAny (model X.prog X.w) X.A (call (.ref f) us) (EP X pins σ Q) X.xe s:=by
  have hl:us.length=ps.length:=by rw [← r.length];exact F.len _ _ _ _ h
  have hb2:=hb s us I.kIn (by rw [List.append_nil];exact hl)
  rw [List.append_nil] at hb2
  refine wpAny_call (codeAny_mono (F.run X.A X.stack s H ⟨us,[]⟩ us vs Q (G σ) hr I.env0 hb2 r h) fun r s' hq=>?_)
  cases r with
  | error e=>exact hx pins σ H s e s' I hq
  | ok fl =>
    cases fl with
    | ret u=>exact I.after hq
    | next=>exact False.elim hq
    | brk=>exact False.elim hq
    | cont=>exact False.elim hq
theorem pe_callE (D:DfE X.prog X.w X.K X.mg X.base k x ps sp) (hx:PassesS X G) (hr:Room k X.A) (hg:Gl X x) (ha:PA X (e :: es) t) (hdb:(x == ("__debug__":Str))=false:=by decide)
    (he:starEach (e :: es) X.env=(false,eval e X.env) :: starEach es X.env:=by rfl) (hpl:(backTo pos (starEach es X.env)).any (·.1)=false:=by rfl):PE X (.Call (.Name x p) (e :: es) [] pos) (tCallE sp G t):=by
  intro pins s σ H Q I h
  obtain ⟨f,fd,F,b,kp,hm⟩:=D.ex
  refine wpAny_Call_Name_kw (ld_glob I hg hm ?_ hdb)
  refine PySem.W.callWith_K (h₀:=X.base) I.ok.mod.kin kp (thn (ha pos pins s σ H _ I h) fun us s1 ⟨vs,H1,I1,r,q⟩=>⟨I1.kIn,?_⟩) he hpl
  exact run_fnE F hr b hx I1 r q
theorem pe_methE {pl:Sem Bool} (k:Nat) (hx:PassesS X G) (hr:Room k X.A) (he:PE X o ta) (ha:PA X (e :: es) t)
    (hst:starEach (e :: es) X.env=(false,eval e X.env) :: starEach es X.env:=by rfl) (hpl:(backTo pos (starEach es X.env)).any (·.1)=false:=by rfl)
    (ht:eval (.Call (.Attribute o m apos) (e :: es) [] pos) X.env=(do
      let ov ← eval o X.env
      standAt apos.atName
      let (f,first) ← holding [ov] (getMethod ov m pl)
      callWith pos f first (backTo pos (starEach (e :: es) X.env)) (backToKw pos (keywordEach [] X.env))):=by rfl) :
    PE X (.Call (.Attribute o m apos) (e :: es) [] pos) (tMethE X.prog X.w X.K X.mg X.base k m G ta t):=by
  intro pins s σ H Q I h
  refine PySem.W.methodCall_KW (pl:=pl) (thn (he pins s σ H _ I h) fun u s1 ⟨x,H1,I1,rx,a,C,dx,fs,ps,sp,ex,ea,l,c,D,q⟩=>?_) ht
  subst ex
  obtain rfl:u=Value.ref a:=rx
  obtain ⟨f,fd,hm,F,b⟩:=D.ex
  refine getmeth_ok I1 ea c hm l ?_
  refine PySem.W.callWith_K (first:=[.ref a]) (h₀:=X.base) I.ok.mod.kin hm.kp (thn (ha pos pins s1 σ H1 _ I1 q) fun us s2 ⟨vs,H2,I2,r,q2⟩=>⟨I2.kIn,?_⟩) hst hpl
  exact run_fnE (us:=.ref a :: us) (vs:=.ref a :: vs) F hr b hx I2 (.cons rfl r) q2
theorem pe_methE0 {pl:Sem Bool} (k:Nat) (hx:PassesS X G) (hr:Room k X.A) (he:PE X o ta)
    (ht:eval (.Call (.Attribute o m apos) [] [] pos) X.env=(do
      let ov ← eval o X.env
      standAt apos.atName
      let (f,first) ← holding [ov] (getMethod ov m pl)
      callWith pos f first (backTo pos (starEach [] X.env)) (backToKw pos (keywordEach [] X.env))):=by rfl) :
    PE X (.Call (.Attribute o m apos) [] [] pos) (tMethE X.prog X.w X.K X.mg X.base k m G ta tNil):=by
  intro pins s σ H Q I h
  refine PySem.W.methodCall_KW (pl:=pl) (thn (he pins s σ H _ I h) fun u s1 ⟨x,H1,I1,rx,a,C,dx,fs,ps,sp,ex,ea,l,c,D,q⟩=>?_) ht
  subst ex
  obtain rfl:u=Value.ref a:=rx
  obtain ⟨f,fd,hm,F,b⟩:=D.ex
  refine getmeth_ok I1 ea c hm l ?_
  exact PySem.W.callWith_K0 (first:=[.ref a]) I1.kIn hm.kp (run_fnE (us:=[.ref a]) (vs:=[.ref a]) F hr b hx I1 (.cons rfl .nil) q)
end
end L2
namespace PySem.W
open PySem PyProof.Rows PySem.Spec PySem.Calls
noncomputable def mroHas (K:Frag) (C:Addr) (c:Value):Bool:=match K.lookup C with
  | some ⟨_,_,.cls cd,_⟩=>cd.mro.contains c
  | _=>false
theorem exc_mro {K:Frag} {h:Heap} {C:Addr} (X:K.In h) (q:excMk K C=true):∃ tlm,ExcAt h C tlm∧OwnTail h veMro tlm∧∀ c,mroHas K C c=(Value.ref C :: tlm).contains c:=by
  obtain ⟨tlm,hE,T⟩:=excMk_obj X q
  refine ⟨tlm,hE,T,fun c=>?_⟩
  unfold mroHas
  cases hk:K.lookup C with
  | none =>
    unfold excMk at q
    rw [hk] at q
    cases q
  | some o =>
    obtain ⟨N,nm,q,bs,hdct,sn,sub,ab,col,dd,q0,q1,q2,q3,q5,hCl⟩:=hE
    have z:=X _ _ hk
    rw [hCl] at z
    cases z
    rfl
section
variable {M:Model} {A:Around} {E:Value→Shared→Prop} {env:Env} {K:Frag}
theorem exc_match {h:Heap} {g:Array GenState} {d:Drawn} {t:Nat} {os:OsState} {e C D:Addr} {oe:Obj} {Q:Bool→Shared→Prop} (X:K.In h) (qC:excMk K C=true) (qD:excMk K D=true) (he:h.get? e=some oe) (hc:oe.cls=.ref C)
    (hq:Q (mroHas K C (.ref D)) ⟨h,g,d,t,os⟩):wpAny M A (excMatches (.ref e) (.ref D)) Q E ⟨h,g,d,t,os⟩:=by
  obtain ⟨tl,⟨N,nm,q,bs,hdct,sn,sub,ab,col,dd,q0,q1,q2,q3,q5,hC⟩,_,mh⟩:=exc_mro X qC
  obtain ⟨tl',⟨N',nm',q',bs',hdct',sn',sub',ab',col',dd',q0',q1',q2',q3',q5',hD⟩,T,_⟩:=exc_mro X qD
  have hB:(Value.ref D :: tl').contains (.type "BaseException")=true:=by
    rw [List.contains_cons,T.hasType (show veMro.contains (.type "BaseException")=true from by decide +kernel),Bool.or_true]
  rw [mh] at hq
  have f:=tc_notTuple
  unfold excMatches
  repeat (first | (with_reducible refine wpAny_loadPart_at he ?_;rw [hc]) | with_reducible refine wpAny_loadPart_at hD ?_ | (with_reducible refine wpAny_isSubtype_exc hD ?_;rw [hB]) | with_reducible refine wpAny_isSubtype_exc hC ?_ | wp_step)
  all_goals (cases hb:(Value.ref C :: tl).contains (.ref D) <;> (rw [hb] at hq;wp_walk;exact hq))
theorem raise_X {s:Shared} {x:Sem Value} {Q:Flow→Shared→Prop} (hh:A.handled=none)
    (h:wpAny M A x (fun v s1=>∃ e C d t0,v=.ref e∧K.In s1.heap∧excMk K C=true∧s1.heap.get? e=some ⟨.ref C,d,.fields #[.ref t0,.none,.none,.none,.bool false,.none],#[]⟩∧E (.ref e) s1) E s) :
    wpAny M A (raiseStmt env (some x) none) Q E s := by  -- raised here
  unfold raiseStmt
  refine wpAny_bind (wpAny_mono h (fun v s1 h1=>?_) fun _ _ x=>x)
  obtain ⟨e,C,d,t0,rfl,X,qC,he,hE⟩:=h1
  obtain ⟨tl,⟨N,nm,q,bs,hdct,sn,sub,ab,col,dd,q0,q1,q2,q3,q5,hC⟩,T,_⟩:=exc_mro X qC
  have hB:(Value.ref C :: tl).contains (.type "BaseException")=true:=by
    rw [List.contains_cons,T.hasType (show veMro.contains (.type "BaseException")=true from by decide +kernel),Bool.or_true]
  obtain ⟨hp,g,d',tk,os⟩:=s1
  repeat (first | with_reducible refine wpAny_loadPart_at he ?_ | with_reducible refine wpAny_loadPart_at hC ?_ | (with_reducible refine wpAny_isSubtype_exc hC ?_;rw [hB]) | wp_step)
  exact (wpAny_raiseNew_none hh hE)
end
end PySem.W
namespace L2
open PySem PyProof.Rows PySem.Spec PySem.Calls
noncomputable def tRaise (K:PySem.W.Frag) (G:St→XK) (te:TE):TS:=fun _ σ H=>te σ H fun v H1=>∃ ea C d,v=.ref ea∧H1 ea=some (XO ea C d)∧PySem.W.excMk K C=true∧G σ (.ref C) (some ea) (upd H1 ea (XC ea C d))
noncomputable abbrev Cx.caught (X:Cx) (ea:Addr):Cx:={ X with A:=X.A.mark (some (.ref ea)),calm:=false,xe:=fun _ _=>False }
noncomputable abbrev Cx.inTry (X:Cx) (ps:List (Addr×Obj)) (xe:Value→Shared→Prop):Cx:={ X with pn:=X.pn ++ ps,xe:=xe }
section
variable {X:Cx} {pins:List (Addr×Obj)} {σ:St} {H:Hp} {s:Shared} {ea:Addr}
theorem ps_raise {G:St→XK} {e:Expr} {te:TE} {pos:Pos} (hR:RaisesS X G) (hc:X.calm=true) (he:PE X e te):PS X (.Raise (some e) none pos) (tRaise X.K G te):=by
  intro pins s σ H D I h
  show wpAny _ _ (do standAt pos;raiseStmt X.env (some (do let v ← eval e X.env;standAt pos;pure v)) none) _ _ s
  refine wpAny_bind (wpAny_standAt (PySem.W.raise_X (K:=X.K) (I.ok.hd hc) (wpAny_bind (thn (he pins s σ H _ I h) fun v s1 ⟨x,H1,I1,rx,ea,C,d,ex,hx,mk,q⟩=>wpAny_bind (wpAny_standAt (wpAny_pure ?_))))))
  subst ex
  obtain rfl:v=Value.ref ea:=rx
  obtain ⟨t0,g1⟩:=xo_get I1.hok hx
  exact ⟨ea,C,d,t0,rfl,I1.kIn,mk,g1,hR pins σ H1 s1 ea C d I1 hx q⟩
theorem Cx.Ok.caught (ok:X.Ok):(X.caught ea).Ok :=
  ⟨ok.mod,ok.kind,ok.glob,ok.blt,ok.above,ok.inj,ok.has,ok.cab,(fun z=>nomatch z),ok.frames,ok.stk,ok.exf,ok.bs,ok.bsz,ok.noex,ok.exfs,ok.funs,ok.frf⟩
theorem Inv.caught (I:Inv X pins σ H s):Inv (X.caught ea) pins σ H s:=⟨I.ok.caught,I.os,I.bare,I.base,I.loc,I.cell,I.free,I.freeC,I.pin,I.hok,I.len⟩
theorem Inv.uncaught (o:X.Ok) (I:Inv (X.caught ea) pins σ H s):Inv X pins σ H s:=⟨o,I.os,I.bare,I.base,I.loc,I.cell,I.free,I.freeC,I.pin,I.hok,I.len⟩
theorem Cx.Ok.inTry {ps:List (Addr×Obj)} {xe:Value→Shared→Prop} (ok:X.Ok):(X.inTry ps xe).Ok :=
  ⟨ok.mod,ok.kind,ok.glob,ok.blt,ok.above,ok.inj,ok.has,ok.cab,ok.hd,ok.frames,ok.stk,ok.exf,ok.bs,ok.bsz,ok.noex,ok.exfs,ok.funs,ok.frf⟩
theorem Inv.inTry {xe:Value→Shared→Prop} (I:Inv X pins σ H s):Inv (X.inTry pins xe) [] σ H s:=⟨I.ok.inTry,I.os,I.bare,I.base,I.loc,I.cell,I.free,I.freeC,fun p hp=>I.pin p (by rw [← List.append_nil (X.pn ++ pins)];exact hp),I.hok,I.len⟩
theorem Inv.outTry {ps:List (Addr×Obj)} {xe:Value→Shared→Prop} (o:X.Ok) (I:Inv (X.inTry ps xe) pins σ H s):Inv X ps σ H s:=⟨o,I.os,I.bare,I.base,I.loc,I.cell,I.free,I.freeC,fun p hp=>I.pin p (List.mem_append_left _ hp),I.hok,I.len⟩
theorem SP.outTry {ps:List (Addr×Obj)} {xe:Value→Shared→Prop} {D:Ends} {f:Flow} {s':Shared} (o:X.Ok) (h:SP (X.inTry ps xe) pins D f s'):SP X ps D f s':=by
  cases f with
  | next=>obtain ⟨σ',H',I,q⟩:=h;exact ⟨σ',H',I.outTry o,q⟩
  | brk=>obtain ⟨σ',H',I,q⟩:=h;exact ⟨σ',H',I.outTry o,q⟩
  | cont=>obtain ⟨σ',H',I,q⟩:=h;exact ⟨σ',H',I.outTry o,q⟩
  | ret u=>obtain ⟨v,σ',H',I,r,q⟩:=h;exact ⟨v,σ',H',I.outTry o,r,q⟩
theorem unbind_ok {M:Model} {A:Around} {E:Value→Shared→Prop} {i:Nat} {n:Str} {v:V} {Q:Unit→Shared→Prop} (I:Inv X pins σ H s) (hN:X.N.Nodup) (hi:X.N[i]?=some n) (hx:X.env.scope.names.lookup n=some .local) (hv:σ[i]?=some (some v))
    (h:∀ s',Inv X pins (σ.set i none) H s'→Q () s'):wpAny M A (unbindName X.env n) Q E s:=by
  obtain ⟨m,hn,hl⟩:=id I.loc
  obtain ⟨u,_,lk⟩:=hl i n v hi hv (.inl hx)
  have hm:m n=some u:=by
    rcases lk with ⟨_,e⟩ | ⟨k,_⟩
    · exact e
    · have kx:X.env.kindOf n=some .local:=hx
      rw [kx] at k
      rcases k with k | k <;> cases k
  have hcls:(X.env.scope.kind == .class || (X.env.scope.kind == .module && X.env.locals != X.env.globals))=false:=by rw [I.ok.kind];rfl
  have iσ:i < σ.length:=by rw [I.len];exact (List.getElem?_eq_some_iff.mp hi).1
  refine wpAny_unbindName_local hx hn hm hcls fun h' u' hn' hs=>h _ ?_
  obtain ⟨oLo,_,_,hoLo,_⟩:=id hn
  have ne0:∀ b o,X.s₀.heap.get? b=some o→b≠X.env.locals:=fun b o e=>Nat.ne_of_lt (Nat.lt_of_lt_of_le (Heap.lt_size e) I.ok.above)
  refine ⟨I.ok,I.os,I.bare,⟨fun b o e nn hb he=>(hs.2 b (ne0 b o e)).trans (I.base.keep b o e nn hb he),fun b o e nn hb he=>?_,I.base.free,fun b o e he=>?_,I.base.tups,I.base.frzs,I.base.tbls⟩,⟨_,hn',fun j y w' e1 e2 e3=>?_⟩,fun y c e=>?_,I.free,I.freeC,fun p hp=>?_,fun b ob e=>?_,by simpa using I.len⟩
  · obtain ⟨sl,q⟩:=I.base.slot b o e nn hb he
    exact ⟨sl,(hs.2 b (ne0 b o e)).trans q⟩
  · obtain ⟨o',q⟩:=I.base.there b o e he
    exact ⟨o',(hs.2 b (ne0 b o e)).trans q⟩
  · have hj:j≠i:=fun z=>by
      subst z
      rw [List.getElem?_set_self iσ] at e2
      cases e2
    rw [List.getElem?_set_ne (Ne.symm hj)] at e2
    obtain ⟨u2,r2,q⟩:=hl j y w' e1 e2 e3
    refine ⟨u2,r2,?_⟩
    rcases q with ⟨k,e⟩ | ⟨k,c,e,z⟩
    · refine .inl ⟨k,?_⟩
      have hy:y≠n:=fun z=>hj (nodup_ix hN e1 (z ▸ hi))
      show (if y=n then u' else m y)=some u2
      rw [if_neg hy]
      exact e
    · exact .inr ⟨k,c,e,z.sameBut hs (I.cne y c e)⟩
  · obtain ⟨w',z⟩:=I.cell y c e
    exact ⟨w',z.sameBut hs (I.cne y c e)⟩
  · obtain ⟨e,nn,ne,nf,dd⟩:=I.pin p hp
    exact ⟨(hs.2 p.1 ne).trans e,nn,ne,nf,dd⟩
  · refine (I.hok b ob e).stay (fun c w' hc q=>(hs.2 c ?_).trans q) (fun _ q=>q) fun _ _ q=>q
    rintro rfl
    rcases hc with rfl | hc
    · rw [I.free] at e;cases e
    · rw [I.free] at hc;cases hc
end
noncomputable abbrev TH:=Ends→St→Hp→Addr→Addr→Prop
noncomputable def PH (X:Cx) (hs:List ExceptHandler) (t:TH):Prop:=∀ (pins:List (Addr×Obj)) (s:Shared) (σ:St) (H:Hp) (D:Ends) (ea C:Addr) (d:Option Addr),Inv X pins σ H s→H ea=some (XC ea C d)→TrI X pins H ea s.heap→t D σ H C ea →
  wpAny (model X.prog X.w) X.A (handleBy (.ref ea) X.env hs) (SP X pins D) X.xe s
noncomputable def tNoH:TH:=fun _ _ _ _ _=>False
noncomputable def Ends.less (D:Ends) (i:Nat):Ends:={ nx:=fun σ H=>D.nx (σ.set i none) H,rt:=D.rt,bk:=fun σ H=>D.bk (σ.set i none) H,ct:=fun σ H=>D.ct (σ.set i none) H }
noncomputable def tAs (K:PySem.W.Frag) (B:Addr) (i:Nat) (ts:TS) (tr:TH):TH:=fun D σ H C ea=>PySem.W.excMk K C=true∧PySem.W.excMk K B=true∧∃ b,PySem.W.mroHas K C (.ref B)=b∧if b=true then ts (D.less i) (σ.set i (some (.ref ea))) H else tr D σ H C ea
noncomputable def tTry (tb:(St→XK)→TS) (th:TH):TS:=fun D σ H=>tb (fun σ' c oa H'=>∃ C ea,c=.ref C∧oa=some ea∧th D σ' H' C ea) D σ H
section
variable {X:Cx}
theorem ph_nil:PH X [] tNoH:=fun _ _ _ _ _ _ _ _ _ _ _ h=>h.elim
theorem ph_as {x n:Str} {B:Addr} {i:Nat} {b₀:Stmt} {suite:List Stmt} {ts:TS} {tr:TH} {np hpos:Pos} {rest:List ExceptHandler} (hg:Gl X x) (hm:X.mg x=some (.ref B)) (hN:X.N.Nodup) (hi:X.N[i]?=some n) (hl:X.env.scope.names.lookup n=some .local)
    (hs:∀ ea,PSs (X.caught ea) (b₀ :: suite) ts) (hr:PH X rest tr) (hd:(x == ("__debug__":Str))=false:=by decide):PH X (.ExceptHandler (some (.Name x np)) (some n) (b₀ :: suite) hpos :: rest) (tAs X.K B i ts tr):=by
  intro pins s σ H D ea C d I hx tr h
  obtain ⟨mC,mB,b,hb,h⟩:=h
  have I1:Inv (X.caught ea) pins σ H s:=I.caught
  refine wpAny_handleBy_cons (codeAny_handlers_test (ld_glob I1 hg hm ?_ hd)) (by intro q;cases q)
  obtain ⟨vs,sl,g1⟩:=x_get I.hok (.inr hx)
  refine PySem.W.exc_match (K:=X.K) I.kIn mC mB g1 rfl ?_
  rw [hb]
  cases b with
  | false=>exact hr pins s σ H D ea C d I hx tr h
  | true =>
    show codeAny _ _ _ _ _
    refine (codeAny_handlers_suite_as ?_)
    obtain ⟨cl,d',vs',sl',T,g1',g2,⟨nT,oT,ts',gT,dT,h3⟩,g4,g5,g6,g7,g8⟩:=tr
    rw [g1] at g1'
    cases g1'
    unfold setFlight
    refine wpAny_bind (wpAny_field g1 rfl g2 ?_)
    rw [if_pos (by simp)]
    refine wpAny_setField gT dT (Array.getElem?_eq_some_iff.mp h3).1 ?_
    have I2:Inv (X.caught ea) pins σ H { s with heap:=s.heap.update T (Obj.mapFields (·.setIfInBounds 3 ((none:Option Addr).elim Value.none fun f=>rawInt f))),toks:=s.toks } :=
      I1.turned (it:=T) (fun b o hb q=>by rw [Heap.get?_update_other _ _ (Ne.symm hb)];exact q) g5 g6 (.inr g4) g7 g8
    refine store_ok (X:=X.caught ea) I2 hN hi (.inl hl) (v:=.ref ea) rfl (fun s3 I3=>?_) (.inr hl)
    refine wpAny_mono (hs ea pins s3 _ H (D.less i) I3 h) (fun f s4 q=>?_) fun _ _ z=>False.elim z
    have fin:∀ {σ':St} {H':Hp} {Q:Shared→Prop},Inv (X.caught ea) pins σ' H' s4→(∀ s5,Inv X pins (σ'.set i none) H' s5→Q s5)→wpAny (model X.prog X.w) X.A (do bindName X.env n .none;unbindBehindTheSuite X.env n hpos) (fun _ s5=>Q s5) X.xe s4:=fun {σ' H' Q} J k=>by
      have J':=J.uncaught I.ok
      refine wpAny_bind (wpAny_bindName (store_ok J' hN hi (.inl hl) (v:=.non) rfl (fun s5 I5=>?_) (.inr hl)))
      unfold unbindBehindTheSuite
      refine wpAny_onRaise (unbind_ok I5 hN hi hl (List.getElem?_set_self (by rw [J'.len];exact (List.getElem?_eq_some_iff.mp hi).1)) fun s6 I6=>k s6 ?_)
      rwa [List.set_set] at I6
    cases f with
    | next=>obtain ⟨σ',H',J,q⟩:=q;exact fin (Q:=fun s5=>SP X pins D .next s5) J fun s5 I5=>⟨_,H',I5,q⟩
    | brk=>obtain ⟨σ',H',J,q⟩:=q;exact fin (Q:=fun s5=>SP X pins D .brk s5) J fun s5 I5=>⟨_,H',I5,q⟩
    | cont=>obtain ⟨σ',H',J,q⟩:=q;exact fin (Q:=fun s5=>SP X pins D .cont s5) J fun s5 I5=>⟨_,H',I5,q⟩
    | ret u=>obtain ⟨v,σ',H',J,r,q⟩:=q;exact fin (Q:=fun s5=>SP X pins D (.ret u) s5) J fun s5 I5=>⟨v,_,H',I5,r,q⟩
theorem ps_try {body:List Stmt} {h₀:ExceptHandler} {hs:List ExceptHandler} {pos:Pos} {tb:(St→XK)→TS} {th:TH} (t:Top X)
    (hb:∀ (ps:List (Addr×Obj)) (xe:Value→Shared→Prop) (G:St→XK),PassesS (X.inTry ps xe) G→PassesOwn (model X.prog X.w) X.A X.env xe→PSs (X.inTry ps xe) body (tb G))
    (hh:PH X (h₀ :: hs) th):PS X (.Try body (h₀ :: hs) [] [] pos) (tTry tb th):=by
  intro pins s σ H D I h
  have o:=I.ok
  refine wpAny_Try_except (thn (hb pins _ _ ?_ PassesOwn.looking [] s σ H D I.inTry h) fun f s1 q=>?_)
  · intro ps2 σ2 H2 s2 e s3 I2 c
    obtain ⟨ea,C,d,H3,rfl,I3,hx,tr,C',ea',e1,e2,q⟩:=I2.flew c
    cases e1
    cases e2
    have tr':TrI X pins H3 ea s3.heap:=let ⟨a1,a2,a3,a4,a5,b1,b2,b3,b4,b5,b6,b7,b8⟩:=tr;⟨a1,a2,a3,a4,a5,b1,b2,b3,b4,b5,b6,b7,fun p hp=>b8 p (List.mem_append_left _ hp)⟩
    exact note_flew t (I3.outTry o) hx tr' fun s4 I4 t4=>hh pins s4 σ2 H3 D ea C d I4 hx t4 q
  · have q':=q.outTry o
    cases f with
    | next=>exact wpAny_execs_nil q'
    | brk=>exact q'
    | cont=>exact q'
    | ret u=>exact q'
end
end L2
namespace L2
open PySem PyProof.Rows PySem.Spec PySem.Calls
noncomputable def XG (H:Hp) (e C:Addr) (fs:List (Str×V)):Prop:=∃ dx,IsX H e C (some dx)∧H dx=some (XD dx fs)∧dx≠e
theorem XF.raised {H:Hp} {e C:Addr} {fs:List (Str×V)} (x:XF H e C fs):∃ dx,H e=some (XO e C (some dx))∧XG (L2.upd H e (XC e C (some dx))) e C fs :=
  let ⟨d,a,b,c⟩:=x
  ⟨d,a,d,.inr upd_same,by rw [upd_ne c];exact b,c⟩
noncomputable def rIsO (K:PySem.W.Frag):List V→Hp→VK→Prop:=fun xs H Q=>∃ x c t b,xs=[x,c]∧TyOf K H x t∧(∀ u,RelV c u→u=clV c)∧PySem.W.kitOne K t (clV c)=some b∧Q (.bl b) H
noncomputable def rIsG (K:PySem.W.Frag):List V→Hp→VK→Prop:=fun xs H Q=>∃ a C fs c b,xs=[.ref a,c]∧XG H a C fs∧ClsI K C∧(∀ u,RelV c u→u=clV c)∧PySem.W.kitOne K (.ref C) (clV c)=some b∧Q (.bl b) H
noncomputable def rIsGT (K:PySem.W.Frag):List V→Hp→VK→Prop:=fun xs H Q=>∃ a C fs tp cs b,xs=[.ref a,.ref tp]∧XG H a C fs∧ClsI K C∧H tp=some (.tup cs)∧(∀ c∈cs,∀ u,RelV c u→u=clV c)∧PySem.W.kitAny K (.ref C) (cs.map clV)=some b∧Q (.bl b) H
noncomputable def tFldG (K:PySem.W.Frag) (ta:TE) (f:Str):TE:=fun σ H Q=>ta σ H fun x H1=>∃ a C fs v,x=.ref a∧XG H1 a C fs∧ClsX K C∧NoAttr K C f∧fs.lookup f=some v∧Q v H1
section
variable {X:Cx} {e o:Expr} {es:List Expr} {f x:Str} {p pos apos:Pos} {ta:TE} {t:TA} {k:Nat} {ps:List Str} {sp:Sp}
theorem call_isG:CallR X (.builtin "isinstance") (rIsG X.K):=by
  intro pins s σ H xs us Q I r h
  obtain ⟨a,C,fs,c,b,rfl,⟨dx,ea,ed,_⟩,cl,hc,e,q⟩:=h
  obtain ⟨u,w',rfl,r1,r2⟩:=vals2 r
  cases (show u=Value.ref a from r1)
  cases hc _ r2
  obtain ⟨vs,sl,hx⟩:=x_get I.hok ea
  obtain ⟨_,mA,hn,_,_⟩:=xd_get I.hok ed
  obtain ⟨od,ho,_⟩:=lookIn_ns hn
  exact PySem.W.kia_one (PySem.W.kitx_X (ox:=⟨.ref C,some dx,.fields vs,sl⟩) (od:=od) (cl.c.at cl.ca cl.cn cl.ct)) I.kIn ⟨hx,rfl,rfl,ho⟩ e (fun z=>nomatch z) fun tk=>⟨.bl b,H,I.tok tk,rfl,q⟩
theorem pe_fldG (he:PE X e ta) (hb:attributeBase e f X.env (eval e X.env)=eval e X.env):PE X (.Attribute e f pos) (tFldG X.K ta f):=by
  intro pins s σ H Q I h
  refine attr_of hb (thn (he pins s σ H _ I h) fun u s1 ⟨x,H1,I1,rx,a,C,fs,v,ex,⟨dx,ea,ed,_⟩,c,n,l,q⟩=>?_)
  subst ex
  obtain rfl:u=Value.ref a:=rx
  exact getX_ok I1 ea ed c n l fun u' s2 I2 ru=>⟨v,H1,I2,ru,q⟩
structure InO (K:PySem.W.Frag) (B f:Addr):Prop where
  sp:PySem.W.specialIn K (.ref B) "__getattribute__"=some (some (.builtin "type.__getattribute__"))
  rd:PySem.W.readsIn K B (.type "type")=true
  fc:PySem.W.findCls K (.ref B) (.type "type") "__init__"=some (.val (.ref f))
structure InD (P:Program) (w:World) (K:PySem.W.Frag) (mg:Str→Option Value) (base:Heap) (k:Nat) (x:Str) (B:Addr) (ps:List Str) (sp:Sp):Prop where
  ex:∃ f fd,InO K B f∧FnOk P w K mg base CX0 k f fd ps sp∧Binds K fd ps []∧PySem.W.keepIn K (.ref f)=true∧mg x=some (.ref B)
theorem pe_initD {B:Addr} {pl:Sem Bool} (D:InD X.prog X.w X.K X.mg X.base k x B ps sp) (hr:Room k X.A) (hg:Gl X x) (ha:PA X (e :: es) t) (hdb:(x == ("__debug__":Str))=false:=by decide)
    (hst:starEach (e :: es) X.env=(false,eval e X.env) :: starEach es X.env:=by rfl) (hpl:(backTo pos (starEach es X.env)).any (·.1)=false:=by rfl)
    (ht:eval (.Call (.Attribute (.Name x p) "__init__" apos) (e :: es) [] pos) X.env=(do
      let ov ← eval (.Name x p) X.env
      standAt apos.atName
      let (f,first) ← holding [ov] (getMethod ov "__init__" pl)
      callWith pos f first (backTo pos (starEach (e :: es) X.env)) (backToKw pos (keywordEach [] X.env))):=by rfl) :
    PE X (.Call (.Attribute (.Name x p) "__init__" apos) (e :: es) [] pos) (tCall sp [] E0 t):=by
  intro pins s σ H Q I h
  obtain ⟨f,fd,J,F,b,kp,hm⟩:=D.ex
  refine PySem.W.methodCall_KW (pl:=pl) (ld_glob I hg hm ?_ hdb) ht
  refine PySem.W.method_cls I.kIn J.sp (PySem.W.cls_value I.kIn J.rd J.fc rfl ?_)
  refine PySem.W.callWith_K (first:=[]) (h₀:=X.base) I.ok.mod.kin kp (thn (ha pos pins _ σ H _ (I.tok (s.toks + 1)) h) fun us s1 ⟨vs,H1,I1,r,q⟩=>⟨I1.kIn,?_⟩) hst hpl
  exact run_fn F hr b .nil pass0 I1 r q
theorem pe_makeD0 {C:Addr} (D:MkD X.prog X.w X.K X.mg X.base k x C ps sp) (hr:Room (k + 1) X.A) (hg:Gl X x) (hdb:(x == ("__debug__":Str))=false:=by decide):PE X (.Call (.Name x p) [] [] pos) (tMake C sp [] E0 tNil):=by
  obtain ⟨f,fd,M,F,b,m⟩:=D.ex
  exact pe_make0 M F hr hg m b .nil pass0 hdb
end
section
variable {P:Program} {w:World} {K:PySem.W.Frag} {mg:Str→Option Value} {base:Heap} {j k:Nat} {x m:Str} {C:Addr} {ps:List Str} {sp:Sp}
end
end L2
namespace L2
open PySem PyProof.Rows PySem.Spec PySem.Calls
structure OwnTy (K:PySem.W.Frag) (C:Addr):Prop where
  ha:PySem.W.findIn K (.ref C) "__class__"=some (some (.builtin "object.__class__"))
  hn:PySem.W.specialIn K (.builtin "object.__class__") "__get__"=some (some (.builtin "getset_descriptor.__get__"))
  tk:PySem.W.takesIn K (.builtin "object.__class__")=some true
  hm:PySem.W.mroIn K C (.type "object")=some true
theorem top_nox {CX:CXT} {P:Program} {w:World} {K:PySem.W.Frag} {mg:Str→Option Value} {base:Heap} {N:List Str} {qual:Str} {scope:Scope} {f:Addr} {cd:Value} {A:Around} {outer:List Env} {s:Shared} {H:Hp} {E:XK} :
    Top (cxOf CX P w K mg base N qual scope f cd A outer s H E).nox:=⟨rfl,rfl,rfl⟩
end L2
namespace L2
open PySem PyProof.Rows PySem.Spec PySem.Calls
section
variable {X:Cx} {P:Program} {w:World} {K:PySem.W.Frag} {mg:Str→Option Value} {base:Heap} {G:St→XK} {m:Str} {pos apos:Pos} {e o:Expr} {es:List Expr} {ta:TE} {t:TA}
theorem pe_methEK {pl:Sem Bool} (q:X.prog=P∧X.w=w∧X.K=K∧X.mg=mg∧X.base=base) (k:Nat) (hx:PassesS X G) (hr:Room k X.A) (he:PE X o ta) (ha:PA X (e :: es) t)
    (hst:starEach (e :: es) X.env=(false,eval e X.env) :: starEach es X.env:=by rfl) (hpl:(backTo pos (starEach es X.env)).any (·.1)=false:=by rfl)
    (ht:eval (.Call (.Attribute o m apos) (e :: es) [] pos) X.env=(do
      let ov ← eval o X.env
      standAt apos.atName
      let (f,first) ← holding [ov] (getMethod ov m pl)
      callWith pos f first (backTo pos (starEach (e :: es) X.env)) (backToKw pos (keywordEach [] X.env))):=by rfl) :
    PE X (.Call (.Attribute o m apos) (e :: es) [] pos) (tMethE P w K mg base k m G ta t):=by
  obtain ⟨rfl,rfl,rfl,rfl,rfl⟩:=q
  exact pe_methE (pl:=pl) k hx hr he ha hst hpl ht
end
end L2
namespace L2
open PySem PyProof.Rows PySem.Spec PySem.Calls
section
variable {X:Cx} {K:PySem.W.Frag} {e:Expr} {f:Str} {pos:Pos} {ta:TE}
theorem call_isGK (h:X.K=K):CallR X (.builtin "isinstance") (rIsG K):=h ▸ call_isG
theorem pe_fldGK (h:X.K=K) (he:PE X e ta) (hb:attributeBase e f X.env (eval e X.env)=eval e X.env):PE X (.Attribute e f pos) (tFldG K ta f):=by
  subst h
  exact pe_fldG he hb
end
end L2
namespace L2
open PySem PySem.Spec PyProof.Rows
noncomputable def Its (lo d:Int) (n:Nat):It:=⟨fun i _=>i < n,fun i H x H'=>H'=H∧x=.int (lo + i * d),fun i _=>n≤i⟩
theorem turn_rangeS {P:Program} {w:World} {K:PySem.W.Frag} {tg:Expr} (it:Addr) (lo d:Int) (n:Nat):Turn P w K tg (Its lo d n) [it] it (fun i h=>IsRangeIter h it (lo + (i:Nat) * d) ((n:Int) - (i:Nat)) d) where
  mem:=by simp
  obj:=fun i h st b hb=>by
    have e:b=it:=by simpa using hb
    subst e
    exact ⟨_,st,fun v z=>nomatch (show Data.fields _=Data.cell v from z)⟩
  keep:=fun i h h' st k=>k it (by simp) _ st
  item:=by
    intro X hP hw hK hc i pins s σ H E I hf st hg
    subst hP hw hK
    obtain ⟨f0,f1,f2,f3,f4,f5⟩:=hf it (by simp)
    have W:=Walks.range (prog:=X.prog) (w:=X.w) (I.ok.hd hc) it lo d n
    refine W.item i s _ _ hg st fun v h' tk hv st' kk=>?_
    obtain ⟨t,rfl⟩:=hv
    have I1:Inv X pins σ H { s with heap:=h',toks:=tk }:=I.turned (fun b o hb e=>kk b o (by simpa using hb) e) f0 f1 f3 f4 f5
    exact ⟨_,rfl,go_of (s:={ s with heap:=h',toks:=tk }) (n:="range_iterator") st' rfl rfl (by decide) ⟨.int (lo + i * d),H,I1,⟨t,rfl⟩,⟨rfl,rfl⟩,st',fun b hb=>(hf b hb).1⟩⟩
  done:=by
    intro X hP hw hK hc i pins s σ H E I hf st hg
    subst hP hw hK
    obtain ⟨f0,f1,f2,f3,f4,f5⟩:=hf it (by simp)
    exact wpAny_pyNext_range_end (I.ok.hd hc) st (by have:n≤i:=hg;omega) fun h' eb=>⟨rfl,I.turned (t':=s.toks) (fun b o hb e=>eb b o hb e) f0 f1 f3 f4 f5⟩
  self:=fun _ _ _ _ _ st h=>wpAny_pyIter_rangeiter st h
theorem seq_rangeS (lo d:Int) (n:Nat) (H1:Hp):Seq (Its lo d n) H1 ((List.range n).map fun i=>V.int (lo + (i:Nat) * d)) where
  go:=fun i H _ hi=>by
    rw [List.length_map,List.length_range] at hi
    exact hi
  yld:=fun i H x H' _ hi y=>by
    obtain ⟨e,hx⟩:=y
    refine ⟨e,?_⟩
    rw [List.length_map,List.length_range] at hi
    rw [List.getElem?_map,List.getElem?_range hi,hx]
    rfl
  stop:=fun H _=>by
    show n≤_
    rw [List.length_map,List.length_range]
    exact Nat.le_refl _
theorem small_step {a b d:Int} (ha:-(2 ^ 60)≤a) (ha':a < 2 ^ 60) (hb:-(2 ^ 60)≤b) (hb':b < 2 ^ 60) (hd:0 < d) (hd':d < 2 ^ 29):Builtin.Range.small a b d=true:=by
  unfold Builtin.Range.small Builtin.Range.rangeSize
  simp only [Builtin.Range.rangeFitsLong,Bool.and_eq_true,Bool.or_eq_true,decide_eq_true_eq,beq_iff_eq,show d > 0 from hd,if_true]
  by_cases h:a < b
  · have h1:(b - a - 1) / d≤b - a - 1:=Int.ediv_le_self _ (by omega)
    have h2:0≤(b - a - 1) / d:=Int.ediv_nonneg (by omega) (by omega)
    have h3:d * ((b - a - 1) / d)≤b - a - 1:=Int.mul_ediv_self_le (by omega)
    simp only [if_pos h]
    omega
  · simp only [if_neg h]
    omega
section
variable {X:Cx} {tg:Expr}
theorem range_itS {pins:List (Addr×Obj)} {σ:St} {H:Hp} {s:Shared} {R:It→Hp→Prop} {E:Value→Shared→Prop} {lo hi d:Int} {t u v:Tok} {tk:Nat} (I:Inv X pins σ H s) (hs:Builtin.Range.small lo hi d=true) (h0:0≤Builtin.Range.rangeSize lo hi d)
    (q:R (Its lo d (Builtin.Range.rangeSize lo hi d).toNat) H):wpAny (model X.prog X.w) X.A (pyIter (.ref s.heap.objs.size)) (PIE X pins σ tg R) E { s with heap:=s.heap.push { cls:=.type "range",data:=.fields #[.int lo t,.int hi u,.int d v] },toks:=tk }:=by
  refine wpAny_pyIter_range (IsRange.new ..) hs ?_
  have I1:Inv X pins σ H { s with heap:=s.heap.push { cls:=.type "range",data:=.fields #[.int lo t,.int hi u,.int d v] },toks:=tk }:=I.kept fun b o e=>Heap.get?_push_of_some _ e
  refine ⟨(s.heap.push { cls:=.type "range",data:=.fields #[.int lo t,.int hi u,.int d v] }).objs.size,[(s.heap.push { cls:=.type "range",data:=.fields #[.int lo t,.int hi u,.int d v] }).objs.size],_,_,H,rfl,
    I1.kept (t':=tk) fun b o e=>Heap.get?_push_of_some _ e,turn_rangeS _ lo d _,?_,fun b hb=>?_,q⟩
  · have e1:lo + ((0:Nat):Int) * d=lo:=by simp
    have e2:(((Builtin.Range.rangeSize lo hi d).toNat:Nat):Int) - ((0:Nat):Int)=Builtin.Range.rangeSize lo hi d:=by omega
    show IsRangeIter _ _ (lo + ((0:Nat):Int) * d) ((((Builtin.Range.rangeSize lo hi d).toNat:Nat):Int) - ((0:Nat):Int)) d
    rw [e1,e2]
    exact (Heap.get?_push_size _ rfl)
  · have e:b=(s.heap.push { cls:=.type "range",data:=.fields #[.int lo t,.int hi u,.int d v] }).objs.size:=by simpa using hb
    subst e
    exact I1.fpOk (Nat.le_refl _) (I1.hok.fresh (Nat.le_refl _))
noncomputable def iRng3 (ta:TA):TI:=fun σ H R=>ta σ H fun vs H1=>∃ i j d:Int,vs=[.int i,.int j,.int d]∧(-(2 ^ 60)≤i∧i < 2 ^ 60∧-(2 ^ 60)≤j∧j < 2 ^ 60∧0 < d∧d < 2 ^ 29)∧R (Its i d (if i < j then (j - i - 1) / d + 1 else 0).toNat) H1
theorem pi_range3 {a b c:Expr} {ta:TA} {p pos:Pos} (hg:Gl X "range") (hm:X.mg "range"=none) (ha:PA X [a,b,c] ta) (hs:starEach [a,b,c] X.env=[(false,eval a X.env),(false,eval b X.env),(false,eval c X.env)]:=by rfl) (hs2:starEach [b,c] X.env=[(false,eval b X.env),(false,eval c X.env)]:=by rfl) :
    PI X tg (.Call (.Name "range" p) [a,b,c] [] pos) (iRng3 ta):=by
  intro pins s σ H R I h
  refine Call_ (ld_blt I hg hm boot_range (PyProof.Rows.callWith_type1 (thn (ha pos pins s σ H _ I h) fun us s1 ⟨vs,H1,I1,r1,q1⟩=>?_) (by rw [hs,hs2]) (by rw [hs2];rfl)))
  obtain ⟨i,j,d,e,⟨q1,q2,q3,q4,q5,q6⟩,q⟩:=q1
  subst e
  obtain ⟨u1,u2,u3,rfl,x1,x2,x3⟩:∃ u1 u2 u3,us=[u1,u2,u3]∧RelV (.int i) u1∧RelV (.int j) u2∧RelV (.int d) u3:=by
    cases r1 with
    | cons x1 rr =>
      cases rr with
      | cons x2 rr =>
        cases rr with
        | cons x3 rr =>
          cases rr
          exact ⟨_,_,_,rfl,x1,x2,x3⟩
  obtain ⟨t1,rfl⟩:=x1
  obtain ⟨t2,rfl⟩:=x2
  obtain ⟨t3,rfl⟩:=x3
  have er:Builtin.Range.rangeSize i j d=if i < j then (j - i - 1) / d + 1 else 0:=by
    unfold Builtin.Range.rangeSize;rw [if_pos (show d > 0 from q5)]
  refine call_range_3 (by omega) (range_itS I1 (small_step q1 q2 q3 q4 q5 q6) ?_ (by rw [er];exact q)) (Or.inl (PyProof.noPylong_small (by omega)))
  rw [er]
  split
  · have:=Int.ediv_nonneg (a:=j - i - 1) (b:=d) (by omega) (by omega)
    omega
  · exact Int.le_refl _
end
end L2
namespace L2
open PySem PySem.Spec PyProof.Rows
noncomputable def New (H H':Hp) (G:Hp→Prop):Prop:=∃ S:Addr→Prop,(∀ b,S b→H b=none∧∃ o,H' b=some o)∧∀ H3,(∀ b,S b→H3 b=H' b)→G H3
theorem compB_mk {J:It} {tc:TT} {te:TE} {σf:Option V→St} {H1:Hp} {Q:VK} {xs:List V} (S:Seq J H1 xs) (G:V→V→Hp→Prop) (hz:xs.length < sizeLine)
    (hc:∀ x∈xs,∀ (H':Hp) (R:Bool→Hp→Prop),Same H1 H'→R true H'→tc (σf (some x)) H' R)
    (he:∀ x∈xs,∀ (H':Hp) (R:VK),Same H1 H'→(∀ y H'',Same H' H''→New H' H'' (G x y)→R y H'')→te (σf (some x)) H' R)
    (q:∀ D H' ys,Same H1 H'→H1 D=none→H' D=some (.lst ys)→ys.length=xs.length→(∀ (i:Nat) x y,xs[i]?=some x→ys[i]?=some y→G x y H')→Q (.ref D) H'):CompB J tc te σf H1 Q:=by
  intro D hD
  refine ⟨fun i m ys H2=>m=xs.length - i∧i≤xs.length∧Same H1 H2∧H2 D=some (.lst ys)∧ys.length=i∧∀ (k:Nat) x y,xs[k]?=some x→ys[k]?=some y→∃ Z:Addr→Prop,(∀ b,Z b→b≠D∧∃ o,H2 b=some o)∧∀ H3,(∀ b,Z b→H3 b=H2 b)→G x y H3,
    ⟨xs.length,rfl,Nat.zero_le _,same_new hD _,upd_same,rfl,fun k x y _ e=>by simp at e⟩,?_⟩
  rintro i m ys H2 ⟨rfl,hi,sm,hD2,hl,hg⟩
  refine ⟨hD2,?_⟩
  by_cases hlt:i < xs.length
  · refine .inr ⟨S.go i H2 sm hlt,by omega,fun x H3 y=>?_⟩
    obtain ⟨e,hx⟩:=S.yld i H2 x H3 sm hlt y
    subst e
    have mem:x∈xs:=List.mem_of_getElem? hx
    refine hc x mem _ _ sm (iteT (he x mem _ _ sm fun yv H5 s5 ny=>⟨s5 _ _ hD2,xs.length - (i + 1),by omega,rfl,hlt,same_on hD (sm.trans s5) _,upd_same,by rw [List.length_append,hl];rfl,fun k x' y' ex ey=>?_⟩))
    by_cases hk:k < i
    · rw [List.getElem?_append_left (by omega)] at ey
      obtain ⟨Z,z1,z2⟩:=hg k x' y' ex ey
      refine ⟨Z,fun b hb=>?_,fun H6 h6=>z2 H6 fun b hb=>?_⟩
      · obtain ⟨nb,o,ho⟩:=z1 b hb
        exact ⟨nb,o,by rw [upd_ne nb];exact s5 _ _ ho⟩
      · obtain ⟨nb,o,ho⟩:=z1 b hb
        rw [h6 b hb,upd_ne nb,s5 _ _ ho,ho]
    · have ek:k=i:=by
        have:=(List.getElem?_eq_some_iff.mp ey).1
        rw [List.length_append,hl] at this
        have:k < i + 1:=this
        omega
      subst ek
      rw [List.getElem?_append_right (by omega),hl,Nat.sub_self] at ey
      obtain rfl:yv=y':=Option.some.inj ey
      obtain rfl:x=x':=Option.some.inj (hx.symm.trans ex)
      obtain ⟨Z,z1,z2⟩:=ny
      have nD:∀ b,Z b→b≠D:=fun b hb e=>by
        have:=(z1 b hb).1
        rw [e,hD2] at this
        cases this
      refine ⟨Z,fun b hb=>?_,fun H6 h6=>z2 H6 fun b hb=>?_⟩
      · obtain ⟨_,o,ho⟩:=z1 b hb
        exact ⟨nD b hb,o,by rw [upd_ne (nD b hb)];exact ho⟩
      · rw [h6 b hb,upd_ne (nD b hb)]
  · have e:i=xs.length:=by omega
    refine .inl ⟨by rw [e];exact S.stop H2 sm,q D H2 ys sm hD hD2 (by omega) fun k x y ex ey=>?_⟩
    obtain ⟨Z,_,z2⟩:=hg k x y ex ey
    exact z2 H2 fun _ _=>rfl
end L2
namespace L2
open PySem PySem.Spec PyProof.Rows
noncomputable def ofVal:Value→V
  | .bool b=>.bl b
  | .int i _=>.int i
  | .str x _=>.str x
  | .bytes b _=>.byt b
  | .float b _=>.flt b
  | .ref a=>.ref a
  | .type n=>.ty n
  | _=>.non
noncomputable def rIndex:V→List V→Hp→VK→Prop:=fun x vs H Q=>∃ l xs y j,x=.ref l∧vs=[y]∧H l=some (.lst xs)∧xs.all flatV=true∧flatV y=true∧xs.length≤1000∧j < xs.length∧eqV (xs.getD j .non) y=true∧(∀ m,m < j→eqV (xs.getD m .non) y=false)∧Q (.int (j:Nat)) H
end L2
namespace L2
open PySem PyProof.Rows PySem.Spec PySem.Calls
noncomputable def rDq (K:PySem.W.Frag) (n:Nat) (b:Bool):R2:=fun x y H Q=>∃ a c xs ys,x=.ref a∧y=.ref c∧((SqL K H a xs∧SqL K H c ys)∨(SqT K H a xs∧SqT K H c ys))∧xs.length=ys.length∧(∀ j,j < xs.length→Deq K H n (xs.getD j .non) (ys.getD j .non))∧Q (.bl b) H
theorem in1_units {A:Around} {n:Nat} (h:A.units + (n + 1) < cLine):A.in1.units + n < cLine:=by
  have:A.in1.units=A.units + 1:=by first | rfl | exact Around.units_in1 _
  omega
theorem op_ne_dq {X:Cx} {n:Nat} (hu:X.A.units + (n + 1) < cLine):OpR X (compareOp .NotEq) (rDq X.K n false):=by
  intro pins s σ H x y v u Q I rx ry h
  obtain ⟨a,c,xs,ys,rfl,rfl,hs,hl,he,q⟩:=h
  cases rx
  cases ry
  rcases hs with ⟨h1,h2⟩ | ⟨h1,h2⟩
  · obtain ⟨its,r1,l1,_⟩:=I.list h1
    obtain ⟨jts,r2,l2,_⟩:=I.list h2
    have e1:=r1.length
    have e2:=r2.length
    have:=SeqAt.RcNeAt.lists (A:=X.A) (e:=fun _=>true) l1.isList l2.isList (by simp;omega) (by omega) (fun j q1 q2=>deq_eqAt I n X.A.in1 _ _ _ _ (in1_units hu) (he j (by simp at q1;omega)) (vals_at r1 j q1) (vals_at r2 j q2))
    rw [show (List.range its.toArray.size).all (fun _=>true)=true from List.all_eq_true.mpr fun _ _=>rfl] at this
    exact this X.prog X.w _ _ ⟨.bl false,H,I,rfl,q⟩
  · obtain ⟨its,r1,l1,_⟩:=I.tuple h1
    obtain ⟨jts,r2,l2,_⟩:=I.tuple h2
    have e1:=r1.length
    have e2:=r2.length
    have:=SeqAt.RcNeAt.tuples (A:=X.A) (e:=fun _=>true) l1 l2 (by omega) (fun j q1 q2=>deq_eqAt I n X.A.in1 _ _ _ _ (in1_units hu) (he j (by simp at q1;omega)) (vals_at r1 j q1) (vals_at r2 j q2))
    rw [show (List.range (min its.toArray.size jts.toArray.size)).all (fun _=>true)=true from List.all_eq_true.mpr fun _ _=>rfl,Bool.true_and,beq_iff_eq.mpr (by simp;omega)] at this
    exact this X.prog X.w _ _ ⟨.bl false,H,I,rfl,q⟩
end L2
namespace L2
open PySem PyProof.Rows PySem.Spec PySem.Calls
theorem hu_n {A:Around} {k:Nat} (hr:Room k A) (n:Nat) (h:n≤60):A.units + (n + 1) < cLine:=Nat.lt_of_le_of_lt (Nat.add_le_add_left (by omega:n + 1≤64) _) hr.units
end L2
namespace L2
open PySem PyProof.Rows PySem.Spec PySem.Calls
noncomputable def inSt2 (frees:List (Str×Nat)) (σ:St) (x y:Option V):St:=x :: y :: frees.map fun p=>(σ[p.2]?).join
noncomputable def CompB2 (K:PySem.W.Frag) (J:It) (tc:TT) (te:TE) (σf:Option V→Option V→St) (H1:Hp) (Q:VK):Prop:=∀ D,H1 D=none →
  ∃ W:Nat→Nat→List V→Hp→Prop,(∃ m,W 0 m [] (upd H1 D (.lst [])))∧∀ i m ys H2,W i m ys H2→H2 D=some (.lst ys) ∧
    ((J.stop i H2∧Q (.ref D) H2)∨(J.go i H2∧ys.length < sizeLine∧∀ z H3,J.yld i H2 z H3→∃ a x x2,z=.ref a∧SqT K H3 a [x,x2]∧tc (σf (some x) (some x2)) H3 fun b H4 =>
      if b=true then te (σf (some x) (some x2)) H4 fun y H5=>H5 D=some (.lst ys)∧∃ m',m' < m∧W (i + 1) m' (ys ++ [y]) (upd H5 D (.lst (ys ++ [y]))) else ∃ m',m' < m∧W (i + 1) m' ys H4))
section
variable {X:Cx} {elt iter:Expr} {x x2:Str} {px px2 tp pos:Pos} {kk:Nat} {ifs:List Expr} {scope:Scope} {frees:List (Str×Nat)} {tc:TT} {te:TE}
structure CompOk2 (X:Cx) (scope:Scope) (x x2:Str) (frees:List (Str×Nat)):Prop where
  cell:∀ y∈scope.names,y.2≠.cell
  kind:scope.kind=.function
  own:scope.names.lookup x=some .local
  own2:scope.names.lookup x2=some .local
  names:∀ y∈scope.names,y.2=.local→scope.names.lookup y.1=some .local
  fr:FreesOk X scope frees
  nd:(x :: x2 :: frees.map (·.1)).Nodup
  cl:∀ p∈scope.names,p.2=.free→(X.env.cells.lookup p.1).isSome=true
  calm:X.calm=true
noncomputable def tComp2 (K:PySem.W.Frag) (frees:List (Str×Nat)) (tc:TT) (te:TE) (wi:TI):TE:=fun σ H Q=>wi σ H fun J H1=>CompB2 K J tc te (inSt2 frees σ) H1 Q
end
end L2
namespace L2
open PySem PySem.Spec PyProof.Rows
noncomputable def rngV (i:Int) (n:Nat):List V:=(List.range n).map fun k=>V.int (i + (k:Nat))
section
variable {X:Cx}
noncomputable def tListRange (ta:TA):TE:=fun σ H Q=>ta σ H fun vs H1=>∃ i j:Int,vs=[.int i,.int j]∧(-(2 ^ 62)≤i∧i < 2 ^ 62∧-(2 ^ 62)≤j∧j < 2 ^ 62)∧(j - i).toNat≤sizeLine∧(j - i).toNat≤2 ^ 24∧∀ l,H1 l=none→Q (.ref l) (upd H1 l (.lst (rngV i (j - i).toNat)))
end
end L2
namespace L2
open PySem PySem.Spec PyProof.Rows
noncomputable def rListOf (K:PySem.W.Frag):List V→Hp→VK→Prop:=fun xs H Q=>∃ p ys,xs=[.ref p]∧(SqL K H p ys∨SqT K H p ys)∧∀ l,H l=none→Q (.ref l) (upd H l (.lst ys))
end L2
namespace PySem
open Sem (wp)
theorem list_keys_miss:typeLookup (.type "list") "keys"=pure none:=am_miss_of_fast (by decide +kernel)
theorem noKeys_list {prog:Program} {w:World} {A:Around} {E:Value→Shared→Prop} {s:Shared} {a:Addr} {xs:Array Value} {n:Nat} {Q:Option Value→Shared→Prop}
    (hx:s.heap.get? a=some { cls:=.type "list",dict:=none,data:=.seq xs n }) (hA:A.handled=none)
    (h:∀ h' tk,(∀ b ob,s.heap.get? b=some ob→h'.get? b=some ob)→Q none { s with heap:=h',toks:=tk }) :
    wpAny (model prog w) A (getAttr? (.ref a) "keys") Q E s:=by
  obtain ⟨hp,g,d,tk,os⟩:=s
  have hT:∀ tk',(⟨hp,g,d,tk',os⟩:Shared).TypeIs (.ref a) "list":=fun _=>⟨_,hx,rfl⟩
  have g1:=sub_AttributeError
  have g3:=F.slot_list_getattribute.lookup
  have g4:=F.slot_list_getattribute.bind (.ref a)
  have g5:=am_list_getattr_none
  unfold getAttr? getAttrBy? getAttrBy
  repeat (any_goals (first | assumption | exact hT _ | ((with_reducible show wpAny _ _ (call (Value.builtin "list.__getattribute__") _ _) _ _ _);refine call_meets F.slot_list_getattribute (hT _) am_entry_list_getattribute (F.args_list_getattribute_2 _ _) (meets_getattribute_miss_list a xs n _ "keys" _ list_keys_miss (by decide +kernel) (by size_fits)) ⟨hx,hA,fun h' tk' e hx=>?_⟩) | wp_step))
  obtain ⟨t',u',he⟩:=hx.there
  show wpAny (model prog w) A (getattributeRaised _ _ _ _ _ _ _) _ _ _
  have hTe:∀ tk',(⟨h',g,d,tk',os⟩:Shared).TypeIs (.ref e) "AttributeError":=fun _=>⟨_,he,rfl⟩
  unfold getattributeRaised
  repeat (any_goals (first | assumption | exact hTe _ | wp_step))
  exact h _ _ hx.keeps
end PySem
namespace PySem
open Sem (wp)
theorem entry_pairs_loop:entryFor table "dict.update.loop"=some Builtin.«dict.update.loop»:=entryFor_of_tree (by kernel_rfl)
theorem plain_pairs_loop:plainId "dict.update.loop"=true:=by decide +kernel
section
variable {prog:Program} {w:World} {K:Type} [DecidableEq K] {knd:KeyKind prog w K} {A:Around} {R:Result→Shared→Prop}
noncomputable def putAll (ps:List (K×Value)):List (K×Value):=ps.foldl (fun acc p=>stored acc p.1 p.2) []
theorem stored_few (kvs:List (K×Value)) (k:K) (v:Value):(stored kvs k v).length≤kvs.length + 1:=by
  unfold stored
  split
  · rw [List.length_map];exact Nat.le_succ _
  · rw [List.length_append];exact Nat.le_refl _
theorem putAll_snoc (ps:List (K×Value)) (p:K×Value):putAll (ps ++ [p])=stored (putAll ps) p.1 p.2:=by
  unfold putAll
  rw [List.foldl_append]
  rfl
theorem foldl_few:∀ (ps acc:List (K×Value)),(ps.foldl (fun acc p=>stored acc p.1 p.2) acc).length≤acc.length + ps.length
  | [],_=>Nat.le_refl _
  | p :: r,acc=>by
    have h1:=foldl_few r (stored acc p.1 p.2)
    have h2:=stored_few acc p.1 p.2
    rw [List.foldl_cons,List.length_cons]
    omega
theorem pairs_loop {h₀:Heap} {l it D:Addr} {items:Array Value} {ps:List (K×Value)} (hA:A.handled=none) (hl:h₀.IsList l items) (nit:h₀.get? it=none) (nD:h₀.get? D=none) (ne:it≠D)
    (hn:items.size=ps.length) (hi:∀ (i:Nat) p,ps[i]?=some p→∃ t key,items[i]?=some (.ref t)∧knd.is p.1 key=true∧h₀.IsTuple t #[key,p.2]) (hz:ps.length≤sizeLine) :
    ∀ (k i:Nat) (s:Shared) (tk:Tok),ps.length - i=k→i≤ps.length→s.heap.IsListIter it l i→(∀ b o,h₀.get? b=some o→s.heap.get? b=some o)→s.heap.DictOf knd D (putAll (ps.take i)) →
      (∀ h' tk',(∀ b o,b≠it→b≠D→s.heap.get? b=some o→h'.get? b=some o)→h'.DictOf knd D (putAll ps)→R (.ok (.ret .none)) { s with heap:=h',toks:=tk' }) →
      codeAny (model prog w) A (.builtin "dict.update.loop" ⟨[.ref D,.ref it,.int i tk,.none],[]⟩) R s:=by
  intro k
  induction k with
  | zero =>
    intro i s tk hk hi' hit kp hD hR
    have e:i=ps.length:=by omega
    subst e
    refine codeAny_builtin entry_pairs_loop ?_
    rw [Around.under_plainId plain_pairs_loop _]
    show wpAny _ A.in1 (pyNext (.ref it) >>= _) _ _ s
    refine wpAny_bind (wpAny_pyNext_list_end (i:=ps.length) (items:=items) hA hit ?_ ?_ fun h' hx=>?_)
    · exact let ⟨o,ho,r⟩:=hl;⟨o,kp _ _ ho,r⟩
    · exact Array.getElem?_eq_none (by omega)
    · show wpAny _ A.in1 (Builtin.Dict.addKeywords D [] >>= fun _=>ret Value.none) _ _ _
      refine wpAny_bind (wpAny_pure (wpAny_pure (hR h' s.toks (fun b o nb _ e=>hx b o nb e) ?_)))
      rw [List.take_length] at hD
      exact hD.extBut hx (Ne.symm ne)
  | succ k ih =>
    intro i s tk hk hi' hit kp hD hR
    obtain ⟨p,hp⟩:∃ p,ps[i]?=some p:=⟨_,List.getElem?_eq_getElem (by omega)⟩
    obtain ⟨t,key,ht,hkey,htup⟩:=hi i p hp
    refine codeAny_builtin entry_pairs_loop ?_
    rw [Around.under_plainId plain_pairs_loop _]
    show wpAny _ A.in1 (pyNext (.ref it) >>= _) _ _ s
    refine wpAny_bind (wpAny_pyNext_list_item (i:=i) (items:=items) hit (let ⟨o,ho,r⟩:=hl;⟨o,kp _ _ ho,r⟩) ht fun h' hit' hs=>?_)
    have kp':∀ b o,h₀.get? b=some o→h'.get? b=some o:=fun b o e=>(hs.2 b (fun z=>by rw [z,nit] at e;cases e)).trans (kp b o e)
    obtain ⟨ot,hot,hct,nt,hdt⟩:=htup
    have hot':=kp' _ _ hot
    have hT:(⟨h',s.gens,s.drawn,s.toks,s.os⟩:Shared).TypeIs (.ref t) "tuple":=⟨_,hot',hct⟩
    have tk1:ps.take (i + 1)=ps.take i ++ [p]:=by rw [List.take_add_one,hp];rfl
    have pz:(putAll (ps.take i)).length≤sizeLine:=by
      have h1:=foldl_few (ps.take i) []
      rw [List.length_take] at h1
      unfold putAll
      simp only [List.length_nil] at h1
      omega
    show wpAny _ A.in1 (holding [Value.ref t] _ >>= _) _ _ _
    refine wpAny_bind (wpAny_holding ?_)
    refine wpAny_bind (wpAny_tryCatch ?_)
    unfold Builtin.Dict.pairItems
    refine wpAny_bind (wpAny_typeOf hT ?_)
    rw [if_pos (by decide)]
    refine wpAny_bind (wpAny_seqItems hot' hdt (wpAny_pure ?_))
    show wpAny _ A.in1 (holding [key,p.2] (dictSet D key p.2)) _ _ _
    refine wpAny_holding ?_
    have hD':Heap.DictOf knd h' D (putAll (ps.take i)):=hD.sameBut hs (Ne.symm ne)
    refine wpAny_dictSet_pairs (s:=⟨h',s.gens,s.drawn,s.toks,s.os⟩) (hsz:=pz) hkey hD' fun h2 hD2 hs2=>?_
    rw [← putAll_snoc,← tk1] at hD2
    refine wpAny_pure ⟨plainId_quiet plain_pairs_loop _,?_⟩
    have hit2:h2.IsListIter it l (i + 1):=let ⟨o,ho,r⟩:=hit';⟨o,(hs2.2 it ne).trans ho,r⟩
    refine ih (i + 1) ⟨h2,s.gens,s.drawn,s.toks + 1,s.os⟩ 0 (by omega) (by omega) hit2 (fun b o e=>(hs2.2 b (fun z=>by rw [z,nD] at e;cases e)).trans (kp' b o e)) hD2 fun h3 tk3 k3 hD3=>?_
    exact hR h3 tk3 (fun b o n1 n2 e=>k3 b o n1 n2 ((hs2.2 b n2).trans ((hs.2 b n1).trans e))) hD3
theorem dict_of_pairs {E:Value→Shared→Prop} {s:Shared} {l:Addr} {items:Array Value} {n:Nat} {ps:List (K×Value)} {Q:Value→Shared→Prop} (hA:A.handled=none) (hx:s.heap.get? l=some { cls:=.type "list",dict:=none,data:=.seq items n })
    (hn:items.size=ps.length) (hi:∀ (i:Nat) p,ps[i]?=some p→∃ t key,items[i]?=some (.ref t)∧knd.is p.1 key=true∧s.heap.IsTuple t #[key,p.2]) (hz:ps.length≤sizeLine)
    (h:∀ h' tk,(∀ b o,s.heap.get? b=some o→h'.get? b=some o)→h'.DictOf knd s.heap.objs.size (putAll ps)→Q (.ref s.heap.objs.size) { s with heap:=h',toks:=tk }) :
    wpAny (model prog w) A (call (.type "dict") [.ref l]) Q E s:=by
  refine callType_codes (Q₁:=fun obj s₁=>obj=.ref s.heap.objs.size∧s₁={ s with heap:=s.heap.push { cls:=.type "dict",data:=.dict #[] } }) F.kt_called_dict (F.kt_typeCall_dict_1 _) F.entry_dict_init (kt_code_dict_new _ ⟨rfl,rfl⟩) ?_
  rintro obj s₁ ⟨rfl,rfl⟩
  have hnew:(s.heap.push { cls:=.type "dict",data:=.dict #[] }).DictOf knd s.heap.objs.size []:=Heap.DictOf.new s.heap
  have hx':(s.heap.push { cls:=.type "dict",data:=.dict #[] }).get? l=some { cls:=.type "list",dict:=none,data:=.seq items n }:=Heap.get?_push_of_some _ hx
  refine ⟨hnew.typeIs,F.args_dict_init_2 _ _,?_⟩
  unfold Builtin.«dict.__init__»
  refine wpAny_bind ?_
  unfold Builtin.Dict.selfAndRest
  refine wpAny_bind (wpAny_notOrdered_dict hnew.typeIs ?_)
  show wpAny _ _ (pure (s.heap.objs.size,[Value.ref l])) _ _ _
  refine wpAny_pure ?_
  show wpAny _ _ (Builtin.Dict.updateFrom "dict.__init__" s.heap.objs.size (.ref l) [] .none) _ _ _
  unfold Builtin.Dict.updateFrom
  refine wpAny_bind (wpAny_typeOf (T:="list") ⟨_,hx',rfl⟩ ?_)
  rw [if_pos (by decide)]
  refine wpAny_bind (noKeys_list hx' hA fun h1 tk1 k1=>?_)
  simp only [Option.isNone_none,if_true]
  refine wpAny_bind (wpAny_rule (wpAny_bind (wpAny_pyIter_list (items:=items) ⟨_,k1 _ _ hx',rfl,n,rfl⟩ ?_)))
  have hsz:s.heap.objs.size < h1.objs.size:=by
    obtain ⟨o,_,_,ho,_⟩:=hnew
    exact Heap.lt_size (k1 _ _ ho)
  refine wpAny_pure ⟨plainId_quiet plain_pairs_loop _,?_⟩
  have keep:∀ b o,s.heap.get? b=some o→(h1.push { cls:=.type "list_iterator",data:=.fields #[.ref l,.int 0 0] }).get? b=some o:=fun b o e=>Heap.get?_push_of_some _ (k1 _ _ (Heap.get?_push_of_some _ e))
  refine pairs_loop (A:=A.in1) (R:=wants (fun r s₂=>r=Value.none∧Q (Value.ref s.heap.objs.size) s₂) E) (h₀:=s.heap) (l:=l) (items:=items) (ps:=ps) hA ⟨_,hx,rfl,n,rfl⟩ (Heap.get?_none_of_le (Nat.le_of_lt hsz)) (Heap.get?_none_of_le (Nat.le_refl _)) (Ne.symm (Nat.ne_of_lt hsz)) hn hi hz ps.length 0 ⟨h1.push { cls:=.type "list_iterator",data:=.fields #[.ref l,.int 0 0] },s.gens,s.drawn,tk1,s.os⟩ 0 (Nat.sub_zero _) (Nat.zero_le _) ⟨_,Heap.get?_push_size _ rfl,rfl,rfl⟩ keep ?_ fun h' tk' k' hD'=>?_
  · obtain ⟨o,es,ep,ho,r⟩:=hnew
    exact ⟨o,es,ep,Heap.get?_push_of_some _ (k1 _ _ ho),r⟩
  · refine ⟨rfl,h h' tk' (fun b o e=>k' b o ?_ ?_ (keep b o e)) hD'⟩
    · intro z
      exact absurd (Heap.lt_size e) (by rw [z];exact Nat.not_lt.mpr (Nat.le_of_lt hsz))
    · intro z
      exact absurd (Heap.lt_size e) (by rw [z];exact Nat.lt_irrefl _)
end
end PySem
namespace L2
open PySem PySem.Spec PyProof.Rows
theorem kv_mk:∀ {kvs:List (Key×V)} {us:List Value},(kvs.map (·.2)).length=us.length→(∀ (i:Nat) q u,kvs[i]?=some q→us[i]?=some u→RelV q.2 u)→∃ vs:List (Key×Value),KV kvs vs∧vs.map (·.1)=kvs.map (·.1)∧vs.map (·.2)=us
  | [],[],_,_=>⟨[],.nil,rfl,rfl⟩
  | q :: r,u :: us,e,h=>by
    obtain ⟨vs,h1,h2,h3⟩:=kv_mk (kvs:=r) (us:=us) (Nat.succ.inj e) fun i q u e1 e2=>h (i + 1) q u e1 e2
    exact ⟨(q.1,u) :: vs,.cons ⟨rfl,h 0 q u rfl rfl⟩ h1,by rw [List.map_cons,List.map_cons,h2],by rw [List.map_cons,h3]⟩
  | [],_ :: _,e,_=>nomatch e
  | _ :: _,[],e,_=>nomatch e
noncomputable def rDictPairs (K:PySem.W.Frag):List V→Hp→VK→Prop:=fun xs H Q=>∃ p ts kvs,xs=[.ref p]∧H p=some (.lst ts)∧ts.length=kvs.length∧(∀ (i:Nat) y (q:Key×V),ts[i]?=some y→kvs[i]?=some q→∃ t,y=.ref t∧SqT K H t [kV q.1,q.2])∧(kvs.map (·.1)).Nodup ∧
  ∀ d,H d=none→Q (.ref d) (upd H d (.dK kvs))
theorem call_dict_pairs {X:Cx} (hc:X.calm=true):CallR X (.type "dict") (rDictPairs X.K):=by
  intro pins s σ H xs us Q I r h
  obtain ⟨p,ts,kvs,rfl,hp,lt,ht,nd,q⟩:=h
  obtain ⟨u,rfl,rx⟩:=vals1 r
  cases rx
  obtain ⟨hz,its,n,rv,e⟩:=Rd.ok (u:=.lst ts) (.inl hp) I.hok
  have li:=rv.length
  have at1:∀ (i:Nat) q,kvs[i]?=some q→∃ t key w',its[i]?=some (.ref t)∧RelV (kV q.1) key∧RelV q.2 w'∧s.heap.IsTuple t #[key,w']:=fun i q eq=>by
    have hi:i < kvs.length:=(List.getElem?_eq_some_iff.mp eq).1
    obtain ⟨y,ey⟩:∃ y,ts[i]?=some y:=⟨_,List.getElem?_eq_getElem (by omega)⟩
    obtain ⟨t,rfl,hq⟩:=ht i y q ey eq
    obtain ⟨u,eu,ru⟩:=Vals.get rv ey
    cases ru
    obtain ⟨jt,rj,tj,_⟩:=I.tuple hq
    cases rj with
    | cons r1 rr =>
      cases rr with
      | cons r2 rr =>
        cases rr
        exact ⟨t,_,_,eu,r1,r2,tj⟩
  obtain ⟨ws,lw,gw⟩:∃ ws:List Value,ws.length=kvs.length∧∀ (i:Nat) q u,kvs[i]?=some q→ws[i]?=some u→RelV q.2 u∧∃ t key,its[i]?=some (.ref t)∧RelV (kV q.1) key∧s.heap.IsTuple t #[key,u]:=by
    have ch:∀ i:Fin kvs.length,∃ w',RelV (kvs[i]).2 w'∧∃ t key,its[i.1]?=some (.ref t)∧RelV (kV (kvs[i]).1) key∧s.heap.IsTuple t #[key,w']:=fun i=>by
      obtain ⟨t,key,w',h1,h2,h3,h4⟩:=at1 i.1 kvs[i] (List.getElem?_eq_getElem i.2)
      exact ⟨w',h3,t,key,h1,h2,h4⟩
    refine ⟨List.ofFn fun i=>Classical.choose (ch i),List.length_ofFn,fun i q u e1 e2=>?_⟩
    obtain ⟨hi,rfl⟩:=List.getElem?_eq_some_iff.mp e1
    rw [List.getElem?_ofFn,dif_pos hi] at e2
    obtain rfl:=Option.some.inj e2
    exact Classical.choose_spec (ch ⟨i,hi⟩)
  obtain ⟨vs,kv,k1,k2⟩:=kv_mk (kvs:=kvs) (us:=ws) (by rw [List.length_map,lw]) fun i q u e1 e2=>(gw i q u e1 e2).1
  have lv:vs.length=kvs.length:=by rw [← List.length_map (f:=(·.1)),k1,List.length_map]
  refine dict_of_pairs (knd:=mixKind X.prog X.w) (ps:=vs) (I.ok.hd hc) e (by rw [List.size_toArray];omega) (fun i p ep=>?_) (by omega) fun h' tk keep hd=>?_
  · have hi:i < vs.length:=(List.getElem?_eq_some_iff.mp ep).1
    have e1:kvs[i]?=some kvs[i]:=List.getElem?_eq_getElem (by omega)
    have e2:ws[i]?=some p.2:=by rw [← k2,List.getElem?_map,ep];rfl
    have e3:kvs[i].1=p.1:=by
      have h1:(vs.map (·.1))[i]?=some p.1:=by rw [List.getElem?_map,ep];rfl
      rw [k1,List.getElem?_map,e1] at h1
      exact Option.some.inj h1
    obtain ⟨_,t,key,h1,h2,h3⟩:=gw i _ _ e1 e2
    refine ⟨t,key,by rw [List.getElem?_toArray];exact h1,?_,h3⟩
    rw [← e3]
    exact kV_is h2
  · rw [show putAll vs=vs from merged_nil_of_nodup vs (by rw [k1];exact nd)] at hd
    refine ⟨.ref s.heap.objs.size,_,I.laid (t':=tk) keep (Nat.le_refl _) (dk_new (by omega) (beq_eq_false_iff_ne.mpr (Ne.symm (Nat.ne_of_lt I.big))) kv hd),rfl,q _ (I.hok.fresh (Nat.le_refl _))⟩
noncomputable def rDictOf:List V→Hp→VK→Prop:=fun xs H Q=>∃ a kvs,xs=[.ref a]∧Rd H a (.dK kvs)∧∀ d,H d=none→Q (.ref d) (upd H d (.dK kvs))
theorem call_dict_copy {X:Cx}:CallR X (.type "dict") rDictOf:=by
  intro pins s σ H xs us Q I r h
  obtain ⟨a,kvs,rfl,e,q⟩:=h
  obtain ⟨u,rfl,rx⟩:=vals1 r
  cases rx
  exact d_copyOf I e fun p s' hp I'=>⟨.ref p,_,I',rfl,q p hp⟩
theorem bt_dict:bootBuiltins "dict"=some (.type "dict"):=by decide +kernel
end L2
namespace L2
open PySem PyProof.Rows PySem.Spec PySem.Calls
section
variable {X:Cx}
noncomputable def rGetL:V→V→Hp→VK→Prop:=fun o i H Q=>∃ p xs k,o=.ref p∧i=.int k∧H p=some (.lst xs)∧0≤k∧k < ((xs.length:Nat):Int)∧∀ v,xs[k.toNat]?=some v→Q v H
noncomputable def rEqT (K:PySem.W.Frag) (neg:Bool):R2:=fun x y H Q=>∃ p q xs ys,x=.ref p∧y=.ref q∧SqT K H p xs∧SqT K H q ys∧xs.length=ys.length∧xs.all flatV=true∧ys.all flatV=true∧Q (.bl (if neg then !eqVs xs ys else eqVs xs ys)) H
end
end L2
namespace L2
open PySem PySem.Spec PyProof.Rows
section
variable {X:Cx}
noncomputable def tPl (K:PySem.W.Frag) (B:Addr) (ts:TS) (tr:TH):TH:=fun D σ H C ea=>PySem.W.excMk K C=true∧PySem.W.excMk K B=true∧∃ b,PySem.W.mroHas K C (.ref B)=b∧if b=true then ts D σ H else tr D σ H C ea
end
end L2
namespace L2
open PySem PyProof.Rows PySem.Spec PySem.Calls
section
variable {X:Cx}
noncomputable def rNeS (K:PySem.W.Frag):R2:=fun x y H Q=>(∃ a i xs,x=.ref a∧y=.str i∧(SqL K H a xs∨SqT K H a xs)∧Q (.bl true) H)∨rNe x y H Q
end
end L2
namespace L2
open PySem PySem.Spec PyProof.Rows
end L2
namespace L2
open PySem PySem.Spec PyProof.Rows
section
variable {X:Cx}
noncomputable def rListDict:List V→Hp→VK→Prop:=fun xs H Q=>∃ p kvs,xs=[.ref p]∧H p=some (.dK kvs)∧∀ l,H l=none→Q (.ref l) (upd H l (.lst (kvs.map fun q=>kV q.1)))
end
end L2
namespace L2
open PySem PySem.Spec PyProof.Rows
section
variable {X:Cx}
noncomputable def rSortedL (K:PySem.W.Frag):List V→Hp→VK→Prop:=fun xs H Q=>∃ p ss,xs=[.ref p]∧SqL K H p (ss.map V.str)∧ss.length < 64∧∀ l ss',H l=none→List.Perm ss' ss→sortedS ss'=true→Q (.ref l) (upd H l (.lst (ss'.map V.str)))
end
end L2
namespace L2
open PySem PySem.Calls PyProof.Rows PyProof.V PySem.Spec PySem.W
end L2
namespace L2
open PySem PySem.Spec PyProof.Rows
section
variable {X:Cx}
noncomputable def rCount:V→List V→Hp→VK→Prop:=fun x vs H Q=>∃ l xs y,x=.ref l∧vs=[y]∧H l=some (.lst xs)∧xs.all flatV=true∧flatV y=true∧Q (.int ((xs.countP fun z=>eqV z y:Nat):Int)) H
noncomputable def rSortedD:List V→Hp→VK→Prop:=fun xs H Q=>∃ p kvs ss,xs=[.ref p]∧H p=some (.dK kvs)∧kvs.map (fun q=>kV q.1)=ss.map V.str∧ss.length < 64∧∀ l ss',H l=none→List.Perm ss' ss→sortedS ss'=true→Q (.ref l) (upd H l (.lst (ss'.map V.str)))
end
end L2
namespace L2
open PySem PySem.Spec PyProof.Rows
section
variable {X:Cx}
noncomputable def rSIndex:V→List V→Hp→VK→Prop:=fun x vs H Q=>∃ z y i rest,x=.str z∧vs=[.str y]∧Builtin.Str.occurrences z y 0 z.length 1=i :: rest∧Q (.int ((i:Nat):Int)) H
end
end L2
namespace L2
open PySem PyProof.Rows PySem.Spec PySem.Calls
section
variable {X:Cx}
noncomputable def rSetD:V→List V→Hp→VK→Prop:=fun x vs H Q=>∃ d kvs k y,x=.ref d∧vs=[kV k,y]∧H d=some (.dK kvs)∧kvs.length < 1000∧(∀ u,valV kvs k=some u→Q u H)∧(valV kvs k=none→Q y (upd H d (.dK (kvs ++ [(k,y)]))))
noncomputable def hasD (kb:List (Key×V)) (p:Key×V):Bool:=match valV kb p.1 with
  | some y=>eqV p.2 y
  | none=>false
noncomputable def eqD (ka kb:List (Key×V)):Bool:=ka.length == kb.length && ka.all (hasD kb)
noncomputable def rEqDk (neg:Bool):R2:=fun x y H Q=>∃ a b ka kb,x=.ref a∧y=.ref b∧H a=some (.dK ka)∧H b=some (.dK kb)∧(∀ p∈ka,flatV p.2=true)∧(∀ p∈kb,flatV p.2=true)∧Q (.bl (if neg then !eqD ka kb else eqD ka kb)) H
noncomputable def pickV (xs:List V) (lo hi st:Option Int):List V:=(sliceRange (sliceBounds lo hi st xs.length).1 (sliceBounds lo hi st xs.length).2.1 (sliceBounds lo hi st xs.length).2.2).filterMap (xs[·]?)
noncomputable def tSl3 (K:PySem.W.Frag) (te:TE) (tl th ts:TO):TE:=fun σ H Q=>te σ H fun x H1=>tl σ H1 fun l H2=>th σ H2 fun u H3=>ts σ H3 fun c H4=>∃ a xs,x=.ref a∧SqL K H4 a xs∧c≠some 0∧∀ p,H4 p=none→Q (.ref p) (upd H4 p (.lst (pickV xs l u c)))
noncomputable def thirds (n:Nat):List Nat:=(List.range n).filter fun k=>k % 3 == 1
end
end L2
namespace L2
open PySem PyProof.Rows PySem.Spec PySem.Calls
section
variable {X:Cx}
theorem op_isB:OpR X (compareOp .Is) (fun x y H Q=>∃ a b,x=.bl a∧y=.bl b∧Q (.bl (decide (a=b))) H):=by
  intro pins s σ H x y v u Q I rx ry h
  obtain ⟨a,b,rfl,rfl,q⟩:=h
  cases rx
  cases ry
  refine wpAny_of_eq (a:=Value.bool (decide (a=b))) ?_ (fin_bl I q rfl)
  cases a <;> cases b <;> rfl
theorem op_notB:OpR X (compareOp .IsNot) (fun x y H Q=>∃ a b,x=.bl a∧y=.bl b∧Q (.bl (!decide (a=b))) H):=by
  intro pins s σ H x y v u Q I rx ry h
  obtain ⟨a,b,rfl,rfl,q⟩:=h
  cases rx
  cases ry
  refine wpAny_of_eq (a:=Value.bool (!decide (a=b))) ?_ (fin_bl I q rfl)
  cases a <;> cases b <;> rfl
end
end L2
namespace My
open PySem L2
noncomputable def fig:List Nat:=List.range' 48 10
noncomputable def isnum (z:Str):Bool:=decide ((1:Int)≤(z.length:Nat)) && decide (((z.length:Nat):Int)≤9) && (z.cps.toList.all fun c=>decide (c∈fig)) && (decide (z=⟨#[48]⟩) || !decide (z.cps.toList.headD 0=48))
noncomputable def val (z:Str):Int:=((NumText.digitsVal z.cps.toList:Nat):Int)
noncomputable def wr (z:Str):V:=if isnum z=true then .int (val z) else .non
noncomputable def inNum (z:Str) (lo hi:Int):V:=if (isnum z && decide (lo≤val z) && decide (val z≤hi))=true then .int (val z) else .non
noncomputable def low:List Nat:=List.range' 97 26
noncomputable def good (z:Str):Bool:=decide ((1:Int)≤(z.length:Nat)) && decide (((z.length:Nat):Int)≤12) && decide (z.cps.toList.headD 0∈low) && z.cps.toList.all fun c=>decide (c∈low ++ fig)
noncomputable def lay (z:Str):Bool:=decide (z=Str.ofString "both") || (Txt.startswith z (Str.ofString "up:") && decide (¬ inNum (Txt.slice z (some 3) none) 2 16=V.non))
noncomputable def goods:List V:=(((List.range 15).map fun i=>V.int (2 + ((i:Nat):Int))).filter fun _=>true).map fun v=>match v with | .int n=>V.str (Str.ofString "up:" ++ Str.ofString (toString n)) | _=>.non
noncomputable def goodTexts:List Str:=(List.range 15).map fun i=>Str.ofString "up:" ++ Str.ofString (toString (2 + ((i:Nat):Int)))
end My
namespace My
open PySem L2
open Blk (sg sg_inj sg_app)
noncomputable def Jc (c:Nat):List (List Nat)→List Nat
  | []=>[]
  | [x]=>x
  | x :: y :: r=>x ++ c :: Jc c (y :: r)
noncomputable def Cc (c:Nat):List Nat→List (List Nat)
  | []=>[[]]
  | d :: r=>if d=c then [] :: Cc c r else match Cc c r with
    | []=>[[d]]
    | p :: ps=>(d :: p) :: ps
noncomputable def tn (n:Int):Str:=Str.ofString (toString n)
end My
namespace My
open PySem L2
open Blk (sg sg_inj sg_app)
inductive VO where
  | v (x:V) | pair (a b:Int)
  deriving DecidableEq
noncomputable def non:VO:=.v .non
noncomputable abbrev cX:Str:=Str.ofString "x"
noncomputable abbrev cCol:Str:=Str.ofString "colour:"
noncomputable abbrev cPap:Str:=Str.ofString "paper:"
noncomputable abbrev cCov:Str:=Str.ofString "cover:"
noncomputable abbrev cAft:Str:=Str.ofString "after:"
noncomputable abbrev cSta:Str:=Str.ofString "staple"
noncomputable abbrev cLay:Str:=Str.ofString "layout"
noncomputable abbrev yZ:Str:=Str.ofString "one"
noncomputable abbrev cPla:Str:=Str.ofString "plain"
noncomputable abbrev cDash:Str:=Str.ofString "-"
noncomputable abbrev cBlank:Str:=Str.ofString " "
noncomputable def rst (z p:Str):Str:=Txt.slice z (some ((p.length:Nat):Int)) none
noncomputable def readCol (span:Str) (pages:Int):VO:=match Txt.split span cDash with
  | [a,b]=>(match inNum a 1 pages with
    | .int f=>(match inNum b f pages with
      | .int l=>.pair f l
      | _=>non)
    | _=>non)
  | _=>non
noncomputable def three:List Str:=[cPap,cCov,cAft]
noncomputable def four:List Str:=[cX,cCol,cPap,cCov]
noncomputable def valueOf (z:Str) (pages:Int):VO :=
  if z=cSta then .v (.bl true) else if lay z=true then .v (.str z) else if Txt.startswith z cX=true then .v (inNum (rst z cX) 1 99) else if Txt.startswith z cCol=true then readCol (rst z cCol) pages
  else match three.find? (fun p=>Txt.startswith z p && good (rst z p)) with
    | some p=>.v (.str (rst z p))
    | none=>non
noncomputable def sortOf (z:Str):Str:=if lay z=true then cLay else (four.find? fun p=>Txt.startswith z p).getD z
noncomputable def readTail (pages:Int):List Str→Nat→List (Str×VO)→Except Nat (List (Str×VO))
  | [],_,t=>.ok t
  | w :: r,p,t=>if valueOf w pages=non∨sortOf w∈t.map (·.1) then .error p else readTail pages r (p + 1) (t ++ [(sortOf w,valueOf w pages)])
noncomputable def toldV (t:List (Str×VO)) (k:Str):Option VO:=(t.find? fun p=>decide (p.1=k)).map (·.2)
structure JF where
  name:Str
  asker:Str
  pages:Int
  copies:VO
  layout:VO
  paper:VO
  cover:VO
  colour:VO
  staple:VO
  after:List VO
noncomputable def readHead (ws:List Str):Except Nat Int :=
  if good (ws.getD 0 cBlank)=false then .error 0 else if ws.length < 2 then .error ws.length else if good (ws.getD 1 cBlank)=false then .error 1 else if ws.length < 3 then .error ws.length else
  match inNum (ws.getD 2 cBlank) 1 999 with
  | .int n=>.ok n
  | _=>.error 2
noncomputable def toldJob (ws:List Str) (pages:Int) (t:List (Str×VO)):JF :=
  { name:=ws.getD 0 cBlank,asker:=ws.getD 1 cBlank,pages:=pages,copies:=(toldV t cX).getD (.v (.int 1)),layout:=(toldV t cLay).getD (.v (.str yZ)),paper:=(toldV t cPap).getD (.v (.str cPla)),cover:=(toldV t cCov).getD non,colour:=(toldV t cCol).getD non,
    staple:=(toldV t cSta).getD (.v (.bl false)),after:=(t.filter fun p=>Txt.startswith p.1 cAft).map (·.2) }
noncomputable def readJ (z:Str):Except Nat JF:=match readHead (Txt.split z cBlank) with
  | .error p=>.error p
  | .ok n=>match readTail n ((Txt.split z cBlank).drop 3) 3 [] with
    | .error p=>.error p
    | .ok t=>.ok (toldJob (Txt.split z cBlank) n t)
structure Jb where
  name:Str
  asker:Str
  pages:Int
  copies:Int
  layout:Str
  paper:Str
  cover:Option Str
  colour:Option (Int×Int)
  staple:Bool
  after:List Str
structure Jb.Ok (j:Jb):Prop where
  name:good j.name=true
  asker:good j.asker=true
  p0:1≤j.pages
  p1:j.pages≤999
  c0:1≤j.copies
  c1:j.copies≤99
  lay:j.layout∈yZ :: Str.ofString "both" :: goodTexts
  paper:good j.paper=true
  cover:∀ z,j.cover=some z→good z=true
  colour:∀ a b,j.colour=some (a,b)→1≤a∧a≤b∧b≤j.pages
  after:∀ z∈j.after,good z=true
  nd:j.after.Nodup
  few:j.after.length≤3
noncomputable def Jb.jf (j:Jb):JF:={ name:=j.name,asker:=j.asker,pages:=j.pages,copies:=.v (.int j.copies),layout:=.v (.str j.layout),paper:=.v (.str j.paper),cover:=(match j.cover with | some z=>.v (.str z) | none=>non),colour:=(match j.colour with | some (a,b)=>.pair a b | none=>non),staple:=.v (.bl j.staple),after:=j.after.map fun z=>.v (.str z) }
noncomputable def Jb.ents (j:Jb) (told:Bool):List (Bool×Str×Str×VO) :=
  [(!decide (j.copies=1) || told,cX ++ tn j.copies,cX,.v (.int j.copies)),(!decide (j.layout=yZ),j.layout,cLay,.v (.str j.layout)),
   (j.colour.isSome,cCol ++ tn (j.colour.getD (1,1)).1 ++ cDash ++ tn (j.colour.getD (1,1)).2,cCol,.pair (j.colour.getD (1,1)).1 (j.colour.getD (1,1)).2),
   (!decide (j.paper=cPla) || told,cPap ++ j.paper,cPap,.v (.str j.paper)),(j.cover.isSome,cCov ++ j.cover.getD cPla,cCov,.v (.str (j.cover.getD cPla))),(j.staple,cSta,cSta,.v (.bl true))]
noncomputable def Jb.words (j:Jb) (told:Bool):List Str:=((j.ents told).filter (·.1)).map (·.2.1)
noncomputable def Jb.afts (j:Jb):List Str:=j.after.map fun n=>cAft ++ n
end My
namespace My
open PySem L2
open Blk (sg sg_inj sg_app)
noncomputable def sorts:List Str:=[cX,cLay,cCol,cPap,cCov,cSta]
noncomputable def told (pages:Int) (M:List Str):List (Str×VO):=M.map fun w=>(sortOf w,valueOf w pages)
structure Mix (ws as M:List Str):Prop where
  perm:M.Perm (ws ++ as)
  afts:(M.filter fun w=>Txt.startswith w cAft)=as
noncomputable def Jb.head (j:Jb):List Str:=[j.name,j.asker,tn j.pages]
end My
namespace My
open PySem L2
open Blk (sg sg_inj sg_app)
noncomputable def HoldsV (H:Hp) (x:V):VO→Prop
  | .v y=>x=y
  | .pair a b=>∃ p,x=.ref p∧H p=some (.tup [.int a,.int b])
noncomputable def TR (H:Hp) (q:Key×V) (p:Str×VO):Prop:=q.1=Sum.inr p.1∧HoldsV H q.2 p.2
structure Told (H:Hp) (D:Addr) (kvs:List (Key×V)) (t:List (Str×VO)):Prop where
  at_:H D=some (.dK kvs)
  rel:Paired (TR H) kvs t
  nd:(t.map (·.1)).Nodup
noncomputable def luV (kvs:List (Key×V)):V→V
  | .str s=>(valV kvs (Sum.inr s:Key)).getD .non
  | _=>.non
noncomputable def afterP:V→Bool
  | .str x=>Txt.startswith x cAft
  | _=>false
noncomputable def jobF (a b c d e f g h i j:V):List (Str×V):=[("name",a),("asker",b),("pages",c),("copies",d),("layout",e),("paper",f),("cover",g),("colour",h),("staple",i),("after",j)]
theorem putF_new {f:Str} {v:V}:∀ {fs:List (Str×V)},¬ f∈fs.map (·.1)→putF f v fs=fs ++ [(f,v)]
  | [],_=>rfl
  | (g,u) :: r,h=>by
    have h1:¬ g=f:=fun e=>h (by rw [← e];exact List.mem_cons_self)
    show (if g=f then _ else (g,u) :: putF f v r)=_
    rw [if_neg h1,putF_new fun m=>h (List.mem_cons_of_mem _ m)]
    rfl
structure JobAt (C:Addr) (H:Hp) (x:Addr) (f:JF):Prop where
  ex:∃ (dx pa:Addr) (d e p g h i:V) (as:List V),H x=some (.ins C dx (jobF (.str f.name) (.str f.asker) (.int f.pages) d e p g h i (.ref pa)))∧HoldsV H d f.copies∧HoldsV H e f.layout∧HoldsV H p f.paper∧HoldsV H g f.cover∧HoldsV H h f.colour∧HoldsV H i f.staple ∧
    H pa=some (.tup as)∧Paired (fun a o=>HoldsV H a o) as f.after
theorem cut_from (xs:List V) (k:Nat):cutV xs (some (k:Int)) none=xs.drop k:=by
  unfold cutV
  rw [HT.sIx_nat,HT.sIx_none]
  by_cases h:k≤xs.length
  · rw [Nat.min_eq_left h]
    exact List.take_of_length_le (by rw [List.length_drop];omega)
  · rw [Nat.min_eq_right (by omega),List.drop_of_length_le (Nat.le_refl _),List.drop_of_length_le (by omega),List.take_nil]
theorem cut_to (xs:List V) (k:Nat):cutV xs none (some (k:Int))=xs.take k:=by
  unfold cutV
  rw [HT.sIx_nat,HT.sIx_none]
  by_cases h:k≤xs.length
  · rw [Nat.min_eq_left h]
    rfl
  · rw [Nat.min_eq_right (by omega),List.drop_zero,Nat.sub_zero,List.take_of_length_le (Nat.le_refl _),List.take_of_length_le (by omega)]
end My
namespace My
open PySem L2
open Blk (sg sg_inj sg_app)
noncomputable def nmC (f r:Nat) (size place l:Nat):List Nat:=(f :: List.replicate (size - 1) r).set place l
noncomputable def nm (f r:Nat) (size place l:Nat):Str:=⟨(nmC f r size place l).toArray⟩
noncomputable def ltr (s:Nat) (j:Nat):Nat:=97 + (s + 5 * j) % 26
noncomputable def nms (f r size place s:Nat) (m:Nat):List Str:=(List.range m).map fun j=>nm f r size place (ltr s j)
structure NamesOk (ns:List Str) (m:Nat):Prop where
  len:ns.length=m
  good:∀ z∈ns,good z=true
  nd:ns.Nodup
noncomputable def six:List Str:=[Str.ofString "x2",Str.ofString "staple",Str.ofString "both",Str.ofString "up2",Str.ofString "plain",Str.ofString "after"]
noncomputable def one (c:Nat):Str:=⟨#[c]⟩
noncomputable def optV:Option Str→V
  | some z=>.str z
  | none=>.non
structure Due (H:Hp) (t:Addr) (j:Jb):Prop where
  ex:∃ (vc:V) (pa:Addr),H t=some (.tup [.str j.name,.str j.asker,.int j.pages,.int j.copies,.str j.layout,.str j.paper,optV j.cover,vc,.bl j.staple,.ref pa])∧HoldsV H vc j.jf.colour∧H pa=some (.tup (j.after.map V.str))
end My
namespace My
open PySem L2
open Blk (sg sg_inj sg_app)
structure Mid (ws as:List Str) (A:Nat) (M:List Str):Prop where
  perm:M.Perm (ws ++ as)
  le:A≤M.length
  pre:((M.take A).filter fun w=>Txt.startswith w cAft)=as
  post:((M.drop A).filter fun w=>Txt.startswith w cAft)=[]
end My
namespace My
open PySem L2
inductive Ly where
  | one | both | up (n:Nat)
noncomputable def Ly.Ok:Ly→Prop
  | .up n=>2≤n∧n≤16
  | _=>True
noncomputable def Ly.cells:Ly→Nat
  | .up n=>n
  | _=>1
noncomputable def Ly.backs:Ly→Bool
  | .one=>false
  | _=>true
noncomputable def Ly.per (l:Ly):Nat:=if l.backs=true then 2 * l.cells else l.cells
noncomputable def upT (n:Nat):Str:=Str.ofString "up:" ++ Str.ofString (toString (n:Int))
noncomputable def Ly.text:Ly→Str
  | .one=>Str.ofString "one"
  | .both=>Str.ofString "both"
  | .up n=>upT n
noncomputable def cellsL (f:Int) (m:Nat) (n:Int):List Int:=(List.range m).map fun i=>if f + (i:Nat)≤n then f + (i:Nat) else 0
noncomputable def sheetL (l:Ly) (n f:Int):List Int×List Int:=(cellsL f l.cells n,if l.backs=true then cellsL (f + l.cells) l.cells n else List.replicate l.cells 0)
noncomputable def cntL (l:Ly) (n:Nat):Nat:=(n - 1) / l.per + 1
noncomputable def laidL (l:Ly) (n:Nat):List (List Int×List Int):=(List.range (cntL l n)).map fun i=>sheetL l n (1 + (i:Nat) * (l.per:Int))
theorem Ly.cells_pos {l:Ly} (h:l.Ok):1≤l.cells∧l.cells≤16:=by
  cases l with
  | one=>exact ⟨by decide,by decide⟩
  | both=>exact ⟨by decide,by decide⟩
  | up n=>exact ⟨Nat.le_trans (by decide) h.1,h.2⟩
theorem Ly.per_pos {l:Ly} (h:l.Ok):1≤l.per∧l.per≤32:=by
  have:=Ly.cells_pos h
  unfold Ly.per
  split <;> omega
noncomputable def upCheck (n:Nat):Bool:=PySem.intText? (Txt.slice (upT n) (some 3) none) == some (n:Int) && decide ((Txt.slice (upT n) (some 3) none).length≤10) && decide (upT n≠Str.ofString "one") && decide (upT n≠Str.ofString "both") && decide ((upT n).length≤10)
theorem up_all:((List.range 17).drop 2).all upCheck=true:=by decide +kernel
theorem up_one {n:Nat} (h1:2≤n) (h2:n≤16):PySem.intText? (Txt.slice (upT n) (some 3) none)=some (n:Int)∧(Txt.slice (upT n) (some 3) none).length≤10∧upT n≠Str.ofString "one"∧upT n≠Str.ofString "both"∧(upT n).length≤10:=by
  have:=List.all_eq_true.mp up_all n (by
    have:n=((List.range 17).drop 2)[n - 2]'(by simp;omega):=by simp;omega
    rw [this]
    exact List.getElem_mem _)
  unfold upCheck at this
  simp only [Bool.and_eq_true,beq_iff_eq,decide_eq_true_eq] at this
  exact ⟨this.1.1.1.1,this.1.1.1.2,this.1.1.2,this.1.2,this.2⟩
end My
namespace My
open PySem L2
noncomputable def top (i:Nat):Stmt:=PySem.Challenge.pw_spoolhall_k34_dropped.main.body.getD i (.Pass ⟨0,0,0,0⟩)
noncomputable abbrev s_Unknown_init:Stmt:=inClass (top 3) 0
noncomputable abbrev s_NotNow_init:Stmt:=inClass (top 4) 0
noncomputable abbrev s_TooMuch_init:Stmt:=inClass (top 5) 0
noncomputable abbrev s_Dry_init:Stmt:=inClass (top 6) 0
noncomputable abbrev s_Over_init:Stmt:=inClass (top 7) 0
noncomputable abbrev s_Nowhere_init:Stmt:=inClass (top 8) 0
noncomputable abbrev s_cells_from:Stmt:=top 14
noncomputable abbrev s_Layout_init:Stmt:=inClass (top 15) 0
noncomputable abbrev s_Layout_per_sheet:Stmt:=inClass (top 15) 1
noncomputable abbrev s_Layout_laid:Stmt:=inClass (top 15) 2
noncomputable abbrev s_Layout_sheet_from:Stmt:=inClass (top 15) 3
noncomputable abbrev s_One_init:Stmt:=inClass (top 16) 0
noncomputable abbrev s_Both_init:Stmt:=inClass (top 17) 0
noncomputable abbrev s_Several_init:Stmt:=inClass (top 18) 0
noncomputable abbrev s_layout_of:Stmt:=top 19
noncomputable abbrev s_sheets_of:Stmt:=top 22
noncomputable abbrev s_paper_of:Stmt:=top 23
noncomputable abbrev s_ink_of:Stmt:=top 24
noncomputable abbrev s_is_coloured:Stmt:=top 25
noncomputable abbrev s_State_init:Stmt:=inClass (top 30) 0
noncomputable abbrev s_State_called:Stmt:=inClass (top 30) 1
noncomputable abbrev s_Ready_init:Stmt:=inClass (top 31) 0
noncomputable abbrev s_Ready_jam:Stmt:=inClass (top 31) 1
noncomputable abbrev s_Ready_leave:Stmt:=inClass (top 31) 2
noncomputable abbrev s_Jammed_init:Stmt:=inClass (top 32) 0
noncomputable abbrev s_Away_init:Stmt:=inClass (top 33) 0
noncomputable abbrev s_Run_init:Stmt:=inClass (top 35) 0
noncomputable abbrev s_Run_each:Stmt:=inClass (top 35) 1
noncomputable abbrev s_Run_total:Stmt:=inClass (top 35) 2
noncomputable abbrev s_Run_out:Stmt:=inClass (top 35) 3
noncomputable abbrev s_Run_at:Stmt:=inClass (top 35) 4
noncomputable abbrev s_Run_whole:Stmt:=inClass (top 35) 5
noncomputable abbrev s_Run_lack:Stmt:=inClass (top 35) 6
noncomputable abbrev s_Run_upcoming:Stmt:=inClass (top 35) 7
noncomputable abbrev s_Run_take:Stmt:=inClass (top 35) 8
noncomputable abbrev s_Run_drop:Stmt:=inClass (top 35) 9
noncomputable abbrev s_Run_step:Stmt:=inClass (top 35) 10
noncomputable abbrev s_Run_jam:Stmt:=inClass (top 35) 11
noncomputable abbrev s_Run_must_go_on:Stmt:=inClass (top 35) 12
noncomputable abbrev s_Run_must_be_placed:Stmt:=inClass (top 35) 13
noncomputable abbrev s_Run_used_by:Stmt:=inClass (top 35) 14
noncomputable abbrev s_Run_fed:Stmt:=inClass (top 35) 15
noncomputable abbrev s_Run_emptied:Stmt:=inClass (top 35) 16
noncomputable abbrev s_Run_note_out:Stmt:=inClass (top 35) 17
noncomputable abbrev s_Job_init:Stmt:=inClass (top 37) 0
noncomputable abbrev s_Stock_init:Stmt:=inClass (top 39) 0
noncomputable abbrev s_Stock_held:Stmt:=inClass (top 39) 1
noncomputable abbrev s_Stock_room:Stmt:=inClass (top 39) 2
noncomputable abbrev s_Stock_know:Stmt:=inClass (top 39) 3
noncomputable abbrev s_Stock_know_all:Stmt:=inClass (top 39) 4
noncomputable abbrev s_Stock_put:Stmt:=inClass (top 39) 5
noncomputable abbrev s_Stock_put_all:Stmt:=inClass (top 39) 6
noncomputable abbrev s_Stock_draw_all:Stmt:=inClass (top 39) 7
noncomputable abbrev s_Printer_init:Stmt:=inClass (top 44) 0
noncomputable abbrev s_Printer_stands:Stmt:=inClass (top 44) 1
noncomputable abbrev s_Printer_paper_left:Stmt:=inClass (top 44) 3
noncomputable abbrev s_Printer_within:Stmt:=inClass (top 44) 5
noncomputable abbrev s_Printer_load:Stmt:=inClass (top 44) 6
noncomputable abbrev s_Printer_fill:Stmt:=inClass (top 44) 7
noncomputable abbrev s_Printer_must_be_ready:Stmt:=inClass (top 44) 8
noncomputable abbrev s_Printer_feed:Stmt:=inClass (top 44) 9
noncomputable abbrev s_Printer_push:Stmt:=inClass (top 44) 10
noncomputable abbrev s_Printer_oldest:Stmt:=inClass (top 44) 11
noncomputable abbrev s_Printer_jam:Stmt:=inClass (top 44) 12
noncomputable abbrev s_Printer_leave:Stmt:=inClass (top 44) 13
noncomputable abbrev s__law_cell_at:Stmt:=top 46
noncomputable abbrev s__law_mix:Stmt:=top 47
noncomputable abbrev s__law_word:Stmt:=top 48
noncomputable abbrev s__law_each:Stmt:=top 49
noncomputable abbrev s__law_is:Stmt:=top 50
noncomputable abbrev s__law_tags:Stmt:=top 51
noncomputable abbrev s__law_printer:Stmt:=top 52
noncomputable abbrev s__law_way:Stmt:=top 53
noncomputable abbrev s__law_called:Stmt:=top 54
noncomputable abbrev s__law_over:Stmt:=top 55
noncomputable abbrev s__law_stands:Stmt:=top 56
noncomputable abbrev s_law:Stmt:=top 57
structure Txt (K:PySem.W.Frag) (mg:Str→Option Value) (yQ yZ yX yY yV yJ yW yU yK yG cQ cZ cV cK cG vQ vZ vX vY:Addr):Prop where
  len:mg "len"=none
  range:mg "range"=none
  str:mg "str"=none
  int:mg "int"=none
  bool:mg "bool"=none
  tuple:mg "tuple"=none
  list:mg "list"=none
  isinstance:mg "isinstance"=none
  min:mg "min"=none
  dict:mg "dict"=none
  ValueError:mg "ValueError"=none
  SLIP:GI mg "SLIP" (-1)
  UP:GS mg "UP" (Str.ofString "up:")
  NOTHING:GI mg "NOTHING" (0)
  FIRST_PAGE:GI mg "FIRST_PAGE" (1)
  COVER_SHEET:GI mg "COVER_SHEET" (0)
  READY:GS mg "READY" (Str.ofString "ready")
  JAMMED:GS mg "JAMMED" (Str.ofString "jammed")
  OFF:GS mg "OFF" (Str.ofString "off")
  BLACK:GS mg "BLACK" (Str.ofString "black")
  COLOUR:GS mg "COLOUR" (Str.ofString "colour")
  WITHIN:GS mg "WITHIN" (Str.ofString "within")
  cl_Layout:Cls K yQ
  mg_Layout:mg "Layout"=some (.ref yQ)
  n_Layout_cells:NoAttr K yQ "cells"
  n_Layout_backs:NoAttr K yQ "backs"
  cl_One:Cls K yZ
  mg_One:mg "One"=some (.ref yZ)
  n_One_cells:NoAttr K yZ "cells"
  n_One_backs:NoAttr K yZ "backs"
  cl_Both:Cls K yX
  mg_Both:mg "Both"=some (.ref yX)
  n_Both_cells:NoAttr K yX "cells"
  n_Both_backs:NoAttr K yX "backs"
  cl_Several:Cls K yY
  mg_Several:mg "Several"=some (.ref yY)
  n_Several_cells:NoAttr K yY "cells"
  n_Several_backs:NoAttr K yY "backs"
  cl_State:Cls K yV
  mg_State:mg "State"=some (.ref yV)
  n_State_word:NoAttr K yV "word"
  cl_Ready:Cls K yJ
  mg_Ready:mg "Ready"=some (.ref yJ)
  n_Ready_word:NoAttr K yJ "word"
  cl_Jammed:Cls K yW
  mg_Jammed:mg "Jammed"=some (.ref yW)
  n_Jammed_word:NoAttr K yW "word"
  cl_Away:Cls K yU
  mg_Away:mg "Away"=some (.ref yU)
  n_Away_word:NoAttr K yU "word"
  n_Away_jammed:NoAttr K yU "jammed"
  cl_Run:Cls K yK
  mg_Run:mg "Run"=some (.ref yK)
  n_Run_job:NoAttr K yK "job"
  n_Run_inks:NoAttr K yK "inks"
  n_Run_passed:NoAttr K yK "passed"
  n_Run_printer:NoAttr K yK "printer"
  n_Run_slipped:NoAttr K yK "slipped"
  n_Run_broken:NoAttr K yK "broken"
  cl_Job:Cls K yG
  mg_Job:mg "Job"=some (.ref yG)
  n_Job_name:NoAttr K yG "name"
  n_Job_asker:NoAttr K yG "asker"
  n_Job_pages:NoAttr K yG "pages"
  n_Job_copies:NoAttr K yG "copies"
  n_Job_layout:NoAttr K yG "layout"
  n_Job_paper:NoAttr K yG "paper"
  n_Job_cover:NoAttr K yG "cover"
  n_Job_colour:NoAttr K yG "colour"
  n_Job_staple:NoAttr K yG "staple"
  n_Job_after:NoAttr K yG "after"
  cl_Stock:Cls K cQ
  mg_Stock:mg "Stock"=some (.ref cQ)
  n_Stock_rooms:NoAttr K cQ "rooms"
  n_Stock_amounts:NoAttr K cQ "amounts"
  cl_Printer:Cls K cZ
  mg_Printer:mg "Printer"=some (.ref cZ)
  n_Printer_name:NoAttr K cZ "name"
  n_Printer_can:NoAttr K cZ "can"
  n_Printer_path:NoAttr K cZ "path"
  n_Printer_rooms:NoAttr K cZ "rooms"
  n_Printer_trays:NoAttr K cZ "trays"
  n_Printer_inks:NoAttr K cZ "inks"
  n_Printer_state:NoAttr K cZ "state"
  n_Printer_inside:NoAttr K cZ "inside"
  mh_Over_Over:PySem.W.mroHas K vZ (.ref vZ)=true
  x_Unknown:XCl K cV ["name"]
  mg_Unknown:mg "Unknown"=some (.ref cV)
  x_NotNow:XCl K cK ["found"]
  mg_NotNow:mg "NotNow"=some (.ref cK)
  x_TooMuch:XCl K cG ["name"]
  mg_TooMuch:mg "TooMuch"=some (.ref cG)
  x_Dry:XCl K vQ ["name"]
  mg_Dry:mg "Dry"=some (.ref vQ)
  x_Over:XCl K vZ ["job"]
  mg_Over:mg "Over"=some (.ref vZ)
  x_Nowhere:XCl K vX ["job"]
  mg_Nowhere:mg "Nowhere"=some (.ref vX)
  in_HallError:InX K vY
  mg_HallError:mg "HallError"=some (.ref vY)
  kit:kitTab K [cV,cK,cG,vQ,vZ,vX] vY=true
end My
seal L2.PE L2.PS L2.PSs L2.PT L2.PW L2.PA L2.PI L2.PG L2.PGs L2.PSet L2.PIfs L2.PO L2.PK L2.CallR L2.OpR L2.IxR L2.SlR L2.UnR
namespace My
open PySem L2
open Blk (sg sg_inj sg_app)
section
variable {P:Program} {w:World} {K:PySem.W.Frag} {mg:Str→Option Value} {base:Heap}
structure Scr (K:PySem.W.Frag) (H:Hp) (a:Addr):Prop where
  ex:∃ ns:List Int,SqL K H a (ns.map V.int)∧ns.length≤63
end
end My
namespace My
open PySem L2
open Blk (sg sg_inj sg_app)
section
variable {P:Program} {w:World} {K:PySem.W.Frag} {mg:Str→Option Value} {base:Heap}
noncomputable def KeptBut (x:Addr) (H H':Hp):Prop:=∀ b o,b≠x→H b=some o→H' b=some o
noncomputable def sp_one (C:Addr) (f:Str):Sp:=fun vs H Q _=>∃ (x:Addr) (y:V),vs=[.ref x,y]∧H x=some (XO x C none)∧∀ H',KeptBut x H H'→XF H' x C [(f,y)]→Q .non H'
theorem kept_set {H:Hp} {x dx:Addr} {o u:HO} (hd:H dx=none):KeptBut x H (upd (upd H dx o) x u):=fun b v hb e=>by
  rw [upd_ne hb,upd_ne (ne_of_none e hd)];exact e
theorem xf_set {H:Hp} {x dx C:Addr} {fs:List (Str×V)} (hx:dx≠x):XF (upd (upd H dx (XD dx fs)) x (XO x C (some dx))) x C fs:=⟨dx,upd_same,by rw [upd_ne hx,upd_same],hx⟩
theorem same_made {H H':Hp} {x:Addr} {o:HO} (hx:H x=none) (k:KeptBut x (upd H x o) H'):Same H H':=fun b v e=>by
  have hb:b≠x:=ne_of_none e hx
  exact k b v hb (by rw [upd_ne hb];exact e)
theorem raise_one {K:PySem.W.Frag} {C:Addr} {f:Str} {y:V} {H:Hp} {E:XK} (mk:PySem.W.excMk K C=true) (h:∀ ea H',Same H H'→H ea=none→XG H' ea C [(f,y)]→E (.ref C) (some ea) H') :
    ∀ x,H x=none→sp_one C f (.ref x :: [y]) (upd H x (XO x C none)) (fun v H2=>v=.non∧∃ ea C' d,V.ref x=.ref ea∧H2 ea=some (XO ea C' d)∧PySem.W.excMk K C'=true∧E (.ref C') (some ea) (upd H2 ea (XC ea C' d))) E0:=by
  intro x nx
  refine ⟨x,y,rfl,upd_same,fun H' kb xf=>⟨rfl,?_⟩⟩
  obtain ⟨dx,a,g⟩:=xf.raised
  exact ⟨x,C,some dx,rfl,a,mk,h x _ (same_on nx (same_made nx kb) _) nx g⟩
theorem iteYes {c A B:Prop} [Decidable c] (hc:c) (h:A):if decide c=true then A else B:=by
  rw [if_pos (decide_eq_true hc)]
  exact h
theorem iteNo {c A B:Prop} [Decidable c] (hc:¬ c) (h:B):if decide c=true then A else B:=by
  rw [if_neg (by rw [decide_eq_false hc];decide)]
  exact h
theorem iteNN {c A B:Prop} [Decidable c] (hc:¬ c) (h:A):if (!decide c)=true then A else B:=by
  rw [decide_eq_false hc]
  exact h
end
end My
namespace My
open PySem L2
open Blk (sg sg_inj sg_app)
section
variable {P:Program} {w:World} {K:PySem.W.Frag} {mg:Str→Option Value} {base:Heap}
theorem sc_Unknown_init:FnScope ["self","name"] ["self","name"] (defScope s_Unknown_init):=⟨rfl,rfl,rfl,by decide +kernel,rfl,by decide +kernel,by decide +kernel⟩
theorem ok_Unknown_init {fa yQ yZ yX yY yV yJ yW yU yK yG cQ cZ cV cK cG vQ vZ vX vY:Addr} {fd:FuncData} (F:Fun K "__init__" "Unknown.__init__" s_Unknown_init fa fd) (T:Txt K mg yQ yZ yX yY yV yJ yW yU yK yG cQ cZ cV cK cG vQ vZ vX vY)  :
    FnOk P w K mg base CX0 1 fa fd ["self","name"] (sp_one cV "name"):=by
  refine F.ok sc_Unknown_init (fun vs H Q E h=>?_) (fun cdv A outer s H vs Q E hr h=>?_)
  · obtain ⟨x,y,rfl,_⟩:=h
    rfl
  obtain ⟨x,y,rfl,hx,q⟩:=h
  refine ⟨_,(pss_cons (ps_expr (pe_initX T.in_HallError rfl T.mg_HallError (pa_cons (pv 0) (pa_cons (pv 1) pa_nil))))
  (pss_one (ps_fldX (pv 0) (pv 1) rfl))),?_⟩
  refine ⟨_,rfl,_,rfl,x,_,none,[y],rfl,(by simp),hx,T.x_Unknown.m,?_⟩
  refine ⟨_,rfl,_,rfl,.inl ⟨x,_,rfl,hx,T.x_Unknown.i.c,T.x_Unknown.n _ (.head _),fun dx nd ne=>?_⟩⟩
  exact q _ (kept_set nd) (xf_set ne)
theorem sc_TooMuch_init:FnScope ["self","name"] ["self","name"] (defScope s_TooMuch_init):=⟨rfl,rfl,rfl,by decide +kernel,rfl,by decide +kernel,by decide +kernel⟩
theorem ok_TooMuch_init {fa yQ yZ yX yY yV yJ yW yU yK yG cQ cZ cV cK cG vQ vZ vX vY:Addr} {fd:FuncData} (F:Fun K "__init__" "TooMuch.__init__" s_TooMuch_init fa fd) (T:Txt K mg yQ yZ yX yY yV yJ yW yU yK yG cQ cZ cV cK cG vQ vZ vX vY)  :
    FnOk P w K mg base CX0 1 fa fd ["self","name"] (sp_one cG "name"):=by
  refine F.ok sc_TooMuch_init (fun vs H Q E h=>?_) (fun cdv A outer s H vs Q E hr h=>?_)
  · obtain ⟨x,y,rfl,_⟩:=h
    rfl
  obtain ⟨x,y,rfl,hx,q⟩:=h
  refine ⟨_,(pss_cons (ps_expr (pe_initX T.in_HallError rfl T.mg_HallError (pa_cons (pv 0) (pa_cons (pv 1) pa_nil))))
  (pss_one (ps_fldX (pv 0) (pv 1) rfl))),?_⟩
  refine ⟨_,rfl,_,rfl,x,_,none,[y],rfl,(by simp),hx,T.x_TooMuch.m,?_⟩
  refine ⟨_,rfl,_,rfl,.inl ⟨x,_,rfl,hx,T.x_TooMuch.i.c,T.x_TooMuch.n _ (.head _),fun dx nd ne=>?_⟩⟩
  exact q _ (kept_set nd) (xf_set ne)
theorem sc_Dry_init:FnScope ["self","name"] ["self","name"] (defScope s_Dry_init):=⟨rfl,rfl,rfl,by decide +kernel,rfl,by decide +kernel,by decide +kernel⟩
theorem ok_Dry_init {fa yQ yZ yX yY yV yJ yW yU yK yG cQ cZ cV cK cG vQ vZ vX vY:Addr} {fd:FuncData} (F:Fun K "__init__" "Dry.__init__" s_Dry_init fa fd) (T:Txt K mg yQ yZ yX yY yV yJ yW yU yK yG cQ cZ cV cK cG vQ vZ vX vY)  :
    FnOk P w K mg base CX0 1 fa fd ["self","name"] (sp_one vQ "name"):=by
  refine F.ok sc_Dry_init (fun vs H Q E h=>?_) (fun cdv A outer s H vs Q E hr h=>?_)
  · obtain ⟨x,y,rfl,_⟩:=h
    rfl
  obtain ⟨x,y,rfl,hx,q⟩:=h
  refine ⟨_,(pss_cons (ps_expr (pe_initX T.in_HallError rfl T.mg_HallError (pa_cons (pv 0) (pa_cons (pv 1) pa_nil))))
  (pss_one (ps_fldX (pv 0) (pv 1) rfl))),?_⟩
  refine ⟨_,rfl,_,rfl,x,_,none,[y],rfl,(by simp),hx,T.x_Dry.m,?_⟩
  refine ⟨_,rfl,_,rfl,.inl ⟨x,_,rfl,hx,T.x_Dry.i.c,T.x_Dry.n _ (.head _),fun dx nd ne=>?_⟩⟩
  exact q _ (kept_set nd) (xf_set ne)
theorem putF_add {f:Str} {v:V}:∀ {fs:List (Str×V)},¬ f∈fs.map (·.1)→putF f v fs=fs ++ [(f,v)]
  | [],_=>rfl
  | (g,u) :: r,h=>by
    have h1:¬ g=f:=fun e=>h (by rw [← e];exact List.mem_cons_self)
    show (if g=f then _ else (g,u) :: putF f v r)=_
    rw [if_neg h1,putF_add fun m=>h (List.mem_cons_of_mem _ m)]
    rfl
noncomputable def dI (ps:List (Str×Int)):List (Key×V):=ps.map fun p=>(Sum.inr p.1,V.int p.2)
theorem nodup_map_inr {l:List Str} (h:l.Nodup):(l.map (Sum.inr:Str→Key)).Nodup:=by
  induction l with
  | nil=>exact List.nodup_nil
  | cons a r ih =>
    rw [List.nodup_cons] at h
    rw [List.map_cons,List.nodup_cons]
    refine ⟨fun m=>?_,ih h.2⟩
    obtain ⟨b,hb,e⟩:=List.mem_map.mp m
    cases e
    exact h.1 hb
noncomputable def sp_Stock_init (C:Addr):Sp:=fun vs H Q _=>∃ (x dx a:Addr) (rs:List (Str×Int)),vs=[.ref x,.ref a]∧H x=some (.ins C dx [])∧H a=some (.dK (dI rs))∧(rs.map (·.1)).Nodup∧rs.length≤1000 ∧
  ∀ r m H',(∀ b u,b≠x→H b=some u→H' b=some u)→H r=none→H m=none→r≠m→H' x=some (.ins C dx [("rooms",.ref r),("amounts",.ref m)])→H' r=some (.dK (dI rs))→H' m=some (.dK (dI (rs.map fun p=>(p.1,0))))→Q .non H'
theorem sc_Stock_init:FnScope ["self","rooms"] ["self","rooms"] (defScope s_Stock_init):=⟨rfl,rfl,rfl,by decide +kernel,rfl,by decide +kernel,by decide +kernel⟩
theorem ok_Stock_init {fa yQ yZ yX yY yV yJ yW yU yK yG cQ cZ cV cK cG vQ vZ vX vY:Addr} {fd:FuncData} (F:Fun K "__init__" "Stock.__init__" s_Stock_init fa fd) (T:Txt K mg yQ yZ yX yY yV yJ yW yU yK yG cQ cZ cV cK cG vQ vZ vX vY)  :
    FnOk P w K mg base CX0 1 fa fd ["self","rooms"] (sp_Stock_init cQ):=by
  refine F.ok sc_Stock_init (fun vs H Q E h=>?_) (fun cdv A outer s H vs Q E hr h=>?_)
  · obtain ⟨x,dx,a,rs,rfl,_⟩:=h
    rfl
  obtain ⟨x,dx,a,rs,rfl,hx,ha,nd,l1,q⟩:=h
  refine ⟨_,(pss_cons (ps_fld (pv 0) (pe_callTy call_dict_copy rfl T.dict bt_dict (pa_cons (pv 1) pa_nil)) rfl)
  (pss_one (ps_fld (pv 0) (pe_frz (pe_callTy (call_dict_pairs rfl) rfl T.dict bt_dict (pa_cons (pe_comp (frees:=[]) ⟨by decide +kernel,rfl,rfl,by decide +kernel,trivial,by decide +kernel,cellsFor_at rfl,rfl⟩ rfl (pi_dict (pv 1)) (fun _ _ _ _=>pifs_nil) (fun _ _ _ _=>by exact (pe_tup (pa_cons (pv 0) (pa_cons pe_int pa_nil))))) pa_nil))) rfl))),?_⟩
  have z2:2≤sizeLine:=small (by decide)
  refine ⟨_,rfl,a,_,rfl,.inl ha,fun r nr=>?_⟩
  have nrx:x≠r:=ne_of_none hx nr
  have nra:a≠r:=ne_of_none ha nr
  have nax:a≠x:=ne_of ha hx (by intro z;cases z)
  refine ⟨_,rfl,x,cQ,dx,_,rfl,(by rw [upd_ne nrx];exact hx),T.cl_Stock,T.n_Stock_rooms,(by show 0 < 1000;decide),?_⟩
  rw [putF_add (by show ¬ ("rooms":Str)∈([]:List Str);decide +kernel),List.nil_append]
  have k1:∀ b u,b≠x→H b=some u→upd (upd H r (.dK (dI rs))) x (.ins cQ dx [("rooms",.ref r)]) b=some u:=fun b u nb e=>by rw [upd_ne nb,upd_ne (ne_of_none e nr)];exact e
  have hr1:upd (upd H r (.dK (dI rs))) x (.ins cQ dx [("rooms",.ref r)]) r=some (.dK (dI rs)):=by rw [upd_ne (Ne.symm nrx),upd_same]
  have hx1:upd (upd H r (.dK (dI rs))) x (.ins cQ dx [("rooms",.ref r)]) x=some (.ins cQ dx [("rooms",.ref r)]):=upd_same
  generalize upd (upd H r (.dK (dI rs))) x (.ins cQ dx [("rooms",.ref r)])=H1 at k1 hr1 hx1 ⊢
  refine ⟨a,dI rs,k1 _ _ nax ha,fun o=>?_⟩
  refine ⟨_,rfl,a,o,dI rs,rfl,upd_same,?_⟩
  have zr:((dI rs).map fun p=>kV p.1).length=rs.length:=by unfold dI;rw [List.length_map,List.length_map]
  refine compB_mk (seq_dict upd_same) (fun n y H'=>∃ t,y=.ref t∧H' t=some (.tup [n,.int 0])) (by rw [zr];exact small1000 l1) (fun x _ H' R _ rr=>rr) (fun n _ H' R _ rr=>⟨_,rfl,z2,fun t nt=>rr _ _ (same_new nt _) ⟨fun z=>z=t,fun b hb=>by subst hb;exact ⟨nt,_,upd_same⟩,fun H3 h3=>⟨t,rfl,by rw [h3 t rfl];exact upd_same⟩⟩⟩) (fun D H2 ys s2 nD hD ly gy=>?_)
  have k2:∀ b u,b≠a→H1 b=some u→H2 b=some u:=fun b u nb e=>s2 b u (by rw [upd_ne nb];exact e)
  have ha2:=s2 _ _ (upd_same (H:=H1) (a:=a) (o:=.frz o (.dK (dI rs))))
  have nd':((dI (rs.map fun p=>(p.1,0))).map (·.1)).Nodup:=by
    have e:(dI (rs.map fun p=>(p.1,(0:Int)))).map (·.1)=(rs.map (·.1)).map (Sum.inr:Str→Key):=by
      unfold dI
      rw [List.map_map,List.map_map,List.map_map]
      rfl
    rw [e]
    exact nodup_map_inr nd
  refine ⟨D,ys,dI (rs.map fun p=>(p.1,0)),rfl,hD,?_,fun i y kv e1 e2=>?_,nd',fun m nm=>⟨?_,?_⟩⟩
  · rw [ly,zr]
    unfold dI
    rw [List.length_map,List.length_map]
  · unfold dI at e2
    rw [List.map_map,List.getElem?_map] at e2
    obtain ⟨p,ep,rfl⟩:=Option.map_eq_some_iff.mp e2
    have ex:((dI rs).map fun p=>kV p.1)[i]?=some (.str p.1):=by
      unfold dI
      rw [List.map_map,List.getElem?_map,ep]
      rfl
    obtain ⟨t,rfl,ht⟩:=gy i _ y ex e1
    exact ⟨t,rfl,SqT.of ht⟩
  · rw [upd_ne (ne_of_none ha2 nm)]
    exact ha2
  have nma:a≠m:=ne_of_none ha2 nm
  have hx2:=k2 _ _ (Ne.symm nax) hx1
  have nmx:x≠m:=ne_of_none hx2 nm
  have hr2:=k2 _ _ (Ne.symm nra) hr1
  have nmr:r≠m:=ne_of_none hr2 nm
  refine ⟨_,rfl,x,cQ,dx,_,rfl,(by rw [upd_ne (Ne.symm nax),upd_ne nmx];exact hx2),T.cl_Stock,T.n_Stock_amounts,(by show 1 < 1000;decide),?_⟩
  rw [putF_add (by show ¬ ("amounts":Str)∈(["rooms"]:List Str);decide +kernel)]
  have nm1:H m=none:=by
    cases e:H m with
    | none=>rfl
    | some u =>
      have:H2 m=some u:=k2 m u (Ne.symm nma) (k1 m u (Ne.symm nmx) e)
      rw [nm] at this
      cases this
  refine q r m _ (fun b u nb e=>?_) nr nm1 nmr upd_same ?_ ?_
  · rw [upd_ne nb]
    by_cases hb:b=a
    · subst hb
      rw [upd_same]
      rw [ha] at e
      exact e
    · have e2:=k2 b u hb (k1 b u nb e)
      rw [upd_ne hb,upd_ne (ne_of_none e2 nm)]
      exact e2
  · rw [upd_ne (Ne.symm nrx),upd_ne (Ne.symm nra),upd_ne nmr]
    exact hr2
  · rw [upd_ne (Ne.symm nmx),upd_ne (Ne.symm nma),upd_same]
theorem val_dI {rs:List (Str×Int)} {n:Str}:valV (dI rs) (Sum.inr n:Key)=(rs.lookup n).map V.int:=by
  induction rs with
  | nil=>rfl
  | cons p r ih =>
    obtain ⟨k,v⟩:=p
    show ((((Sum.inr k:Key),V.int v) :: dI r).find? fun kv=>decide (kv.1=Sum.inr n)).map (·.2)=_
    rw [List.find?_cons,List.lookup_cons]
    by_cases h:k=n
    · subst h
      rw [decide_eq_true rfl,beq_self_eq_true]
      rfl
    · rw [decide_eq_false (show ¬ (((Sum.inr k:Key),V.int v).1=Sum.inr n) from fun z=>h (Sum.inr.inj z)),beq_eq_false_iff_ne.mpr (Ne.symm h)]
      exact ih
theorem dget_dI {H:Hp} {m:Addr} {am:List (Str×Int)} {n:Str} {v:Int} (e:H m=some (.dK (dI am))) (l:am.lookup n=some v):DGet H m (.str n) (some (.int v)):=by
  have:=DGet.k (k:=Sum.inr n) e
  rw [val_dI,l] at this
  exact this
theorem look_some {rs:List (Str×Int)} {n:Str} {v:Int} (h:rs.lookup n=some v):n∈rs.map (·.1):=List.mem_map.mpr ⟨(n,v),PySem.mem_of_lookup h,rfl⟩
theorem look_none {rs:List (Str×Int)} {n:Str} (h:rs.lookup n=none):¬ n∈rs.map (·.1):=by
  intro m
  obtain ⟨p,hp,e⟩:=List.mem_map.mp m
  rw [List.lookup_eq_none_iff] at h
  have:=h p hp
  rw [e] at this
  simp at this
theorem look_in {rs:List (Str×Int)} {n:Str} (h:n∈rs.map (·.1)):(rs.lookup n).isNone=false:=by
  cases e:rs.lookup n with
  | none=>exact absurd h (look_none e)
  | some v=>rfl
theorem look_out {rs:List (Str×Int)} {n:Str} (h:¬ n∈rs.map (·.1)):(rs.lookup n).isNone=true:=by
  cases e:rs.lookup n with
  | none=>rfl
  | some v=>exact absurd (look_some e) h
noncomputable def StockAt (C:Addr) (H:Hp) (x:Addr) (rs am:List (Str×Int)):Prop:=∃ dx r m,H x=some (.ins C dx [("rooms",.ref r),("amounts",.ref m)])∧H r=some (.dK (dI rs))∧H m=some (.dK (dI am))∧r≠m
noncomputable def OutU (cU:Addr) (n:Str) (H:Hp) (E:XK):Prop:=∀ ea H',Same H H'→XG H' ea cU [("name",.str n)]→E (.ref cU) (some ea) H'
noncomputable def sp_know (C cU:Addr):Sp:=fun vs H Q E=>∃ x rs am n,vs=[.ref x,.str n]∧StockAt C H x rs am∧(n∈rs.map (·.1)→Q .non H)∧(¬ n∈rs.map (·.1)→OutU cU n H E)
theorem sc_Stock_know:FnScope ["self","name"] ["self","name"] (defScope s_Stock_know):=⟨rfl,rfl,rfl,by decide +kernel,rfl,by decide +kernel,by decide +kernel⟩
theorem ok_Stock_know {fa yQ yZ yX yY yV yJ yW yU yK yG cQ cZ cV cK cG vQ vZ vX vY:Addr} {fd:FuncData} (F:Fun K "know" "Stock.know" s_Stock_know fa fd) (T:Txt K mg yQ yZ yX yY yV yJ yW yU yK yG cQ cZ cV cK cG vQ vZ vX vY) (X_Unknown:MkXD P w K mg base 1 "Unknown" cV ["self","name"] (sp_one cV "name")) :
    FnOk P w K mg base (CXe P w) 3 fa fd ["self","name"] (sp_know cQ cV):=by
  refine F.okE sc_Stock_know (fun vs H Q E h=>?_) (fun cdv A outer s H vs Q E hr h=>?_)
  · obtain ⟨x,rs,am,n,rfl,_⟩:=h
    rfl
  obtain ⟨x,rs,am,n,rfl,⟨dx,r,m,hx,hr',hm,ne⟩,q1,q2⟩:=h
  have hu:=hu_n hr 0 (by decide)
  refine ⟨_,(pss_one (ps_if (pt_cmp (pc_dnotin hu (pv 1) (pe_fld (pv 0) rfl))) (pss_one (ps_raise raise_def rfl (pe_makeXD X_Unknown (hr.mono (by decide)) rfl (pa_cons (pv 1) pa_nil)))) pss_nil)),?_⟩
  refine ⟨_,rfl,_,rfl,x,cQ,dx,_,_,rfl,hx,T.cl_Stock,T.n_Stock_rooms,rfl,r,_,rfl,DGet.k (k:=Sum.inr n) hr',_,rfl,?_⟩
  rw [val_dI]
  cases e:rs.lookup n with
  | some v=>exact iteF (q1 (look_some e))
  | none=>exact iteT ⟨_,rfl,raise_one T.x_Unknown.m fun ea H' sm _ g=>q2 (look_none e) ea H' sm g⟩
noncomputable def sp_held (C cU:Addr):Sp:=fun vs H Q E=>∃ x rs am n,vs=[.ref x,.str n]∧StockAt C H x rs am∧(∀ v,n∈rs.map (·.1)→am.lookup n=some v→Q (.int v) H)∧(n∈rs.map (·.1)→∃ v,am.lookup n=some v)∧(¬ n∈rs.map (·.1)→OutU cU n H E)
noncomputable def sp_room (C cU:Addr):Sp:=fun vs H Q E=>∃ x rs am n,vs=[.ref x,.str n]∧StockAt C H x rs am∧(∀ v,rs.lookup n=some v→Q (.int v) H)∧(¬ n∈rs.map (·.1)→OutU cU n H E)
theorem sc_Stock_held:FnScope ["self","name"] ["self","name"] (defScope s_Stock_held):=⟨rfl,rfl,rfl,by decide +kernel,rfl,by decide +kernel,by decide +kernel⟩
theorem ok_Stock_held {fa yQ yZ yX yY yV yJ yW yU yK yG cQ cZ cV cK cG vQ vZ vX vY:Addr} {fd:FuncData} (F:Fun K "held" "Stock.held" s_Stock_held fa fd) (T:Txt K mg yQ yZ yX yY yV yJ yW yU yK yG cQ cZ cV cK cG vQ vZ vX vY) (D_Stock_know:MtE P w K mg base 3 "know" cQ ["self","name"] (sp_know cQ cV)) :
    FnOk P w K mg base (CXe P w) 4 fa fd ["self","name"] (sp_held cQ cV):=by
  refine F.okE sc_Stock_held (fun vs H Q E h=>?_) (fun cdv A outer s H vs Q E hr h=>?_)
  · obtain ⟨x,rs,am,n,rfl,_⟩:=h
    rfl
  obtain ⟨x,rs,am,n,rfl,S,q1,q0,q2⟩:=h
  have hu:=hu_n hr 0 (by decide)
  obtain ⟨dx,r,m,hx,hr',hm,ne⟩:=id S
  refine ⟨_,(pss_cons (ps_expr (pe_methE 3 pass_def (hr.mono (by decide)) (pv 0) (pa_cons (pv 1) pa_nil)))
  (pss_one (ps_ret (pe_dget hu (pe_fld (pv 0) rfl) (pv 1) (fun _ _=>rfl))))),?_⟩
  refine ⟨_,rfl,x,_,dx,_,_,_,rfl,hx,rfl,T.cl_Stock,D_Stock_know,_,rfl,x,rs,am,n,rfl,S,fun hn=>?_,q2⟩
  obtain ⟨v,ev⟩:=q0 hn
  exact ⟨_,rfl,x,cQ,dx,_,_,rfl,hx,T.cl_Stock,T.n_Stock_amounts,rfl,_,rfl,m,_,rfl,dget_dI hm ev,q1 v hn ev⟩
noncomputable def GiftAt (H:Hp) (y:V) (g:Str×Int):Prop:=∃ t,y=.ref t∧H t=some (.tup [.str g.1,.int g.2])
noncomputable def GiftsAt (H:Hp) (p:Addr) (ws:List (Str×Int)):Prop:=∃ ts,H p=some (.lst ts)∧ts.length=ws.length∧∀ (i:Nat) y g,ts[i]?=some y→ws[i]?=some g→GiftAt H y g
noncomputable def strange (rs ws:List (Str×Int)):Option Str:=(ws.find? fun g=>(rs.lookup g.1).isNone).map (·.1)
theorem find_first {α:Type} {f:α→Bool}:∀ {l:List α} {i:Nat} {a:α},l[i]?=some a→(∀ j b,j < i→l[j]?=some b→f b=false)→f a=true→l.find? f=some a
  | [],_,_,h,_,_=>by simp at h
  | b :: r,0,a,h,_,k=>by
    obtain rfl:b=a:=Option.some.inj h
    rw [List.find?_cons,k]
  | b :: r,i + 1,a,h,g,k=>by
    have hb:f b=false:=g 0 b (Nat.succ_pos _) rfl
    rw [List.find?_cons,hb]
    exact find_first (i:=i) h (fun j c hj e=>g (j + 1) c (Nat.succ_lt_succ hj) e) k
theorem find_no {α:Type} {f:α→Bool} {l:List α} (h:∀ (j:Nat) b,l[j]?=some b→f b=false):l.find? f=none:=by
  rw [List.find?_eq_none]
  intro x hx
  obtain ⟨j,hj⟩:=List.mem_iff_getElem?.mp hx
  rw [h j x hj]
  decide
noncomputable def sp_know_all (C cU:Addr):Sp:=fun vs H Q E=>∃ x p rs am ws,vs=[.ref x,.ref p]∧StockAt C H x rs am∧GiftsAt H p ws∧(strange rs ws=none→Q .non H)∧(∀ n,strange rs ws=some n→OutU cU n H E)
theorem sc_Stock_know_all:FnScope ["self","rows","row"] ["self","rows"] (defScope s_Stock_know_all):=⟨rfl,rfl,rfl,by decide +kernel,rfl,by decide +kernel,by decide +kernel⟩
theorem ok_Stock_know_all {fa yQ yZ yX yY yV yJ yW yU yK yG cQ cZ cV cK cG vQ vZ vX vY:Addr} {fd:FuncData} (F:Fun K "know_all" "Stock.know_all" s_Stock_know_all fa fd) (T:Txt K mg yQ yZ yX yY yV yJ yW yU yK yG cQ cZ cV cK cG vQ vZ vX vY) (D_Stock_know:MtE P w K mg base 3 "know" cQ ["self","name"] (sp_know cQ cV)) :
    FnOk P w K mg base (CXe P w) 4 fa fd ["self","rows"] (sp_know_all cQ cV):=by
  refine F.okE sc_Stock_know_all (fun vs H Q E h=>?_) (fun cdv A outer s H vs Q E hr h=>?_)
  · obtain ⟨x,p,rs,am,ws,rfl,_⟩:=h
    rfl
  obtain ⟨x,p,rs,am,ws,rfl,S,⟨ts,hp,lt,gt⟩,q1,q2⟩:=h
  have hu:=hu_n hr 0 (by decide)
  obtain ⟨dx,r,m,hx,hr',hm,ne⟩:=id S
  refine ⟨_,(pss_one (ps_for own_def rfl (pi_list (pv 1)) (pg_name (i:=2) sc_Stock_know_all.nd rfl (by first | exact Or.inl rfl | exact Or.inr rfl))
  (pss_one (ps_expr (pe_methE 3 pass_def (hr.mono (by decide)) (pv 0) (pa_cons (pe_ix ix_tup (pv 2) pe_int (fun _ _=>rfl)) pa_nil)))))),?_⟩
  refine ⟨_,rfl,p,rfl,⟨_,SqL.of hp⟩,for_list (K:=K) (a:=p) (xs:=ts) (fun i σ H'=>H'=H∧(∀ (j:Nat) g,j < i→ws[j]?=some g→(rs.lookup g.1).isNone=false)∧∃ v,σ=[some (.ref x),some (.ref p),v]) ⟨rfl,fun j g hj=>absurd hj (Nat.not_lt_zero j),_,rfl⟩ (fun i σ H' _ z=>by rw [z.1];exact SqL.of hp) (fun i y σ H' hy z=>?_) (fun σ H' z=>?_)⟩
  · obtain ⟨rfl,kn,v,rfl⟩:=z
    obtain ⟨g,eg⟩:∃ g,ws[i]?=some g:=⟨_,List.getElem?_eq_getElem (by rw [← lt];exact (List.getElem?_eq_some_iff.mp hy).1)⟩
    obtain ⟨t,rfl,ht⟩:=gt i y g hy eg
    refine ⟨_,rfl,x,_,dx,_,_,_,rfl,hx,rfl,T.cl_Stock,D_Stock_know,?_⟩
    refine ⟨_,rfl,t,_,_,_,rfl,rfl,SqT.of ht,atI_nat (j:=0) rfl,x,rs,am,g.1,rfl,S,fun hn=>⟨rfl,fun j g' hj e=>?_,_,rfl⟩,fun hn=>q2 g.1 ?_⟩
    · by_cases hji:j < i
      · exact kn j g' hji e
      · have:j=i:=by omega
        subst this
        rw [eg] at e
        obtain rfl:=Option.some.inj e
        exact look_in hn
    · unfold strange
      rw [find_first eg (fun j b hj e=>kn j b hj e) (look_out hn)]
      rfl
  · obtain ⟨rfl,kn,v,rfl⟩:=z
    refine q1 ?_
    unfold strange
    rw [find_no fun j g e=>kn j g (by rw [lt];exact (List.getElem?_eq_some_iff.mp e).1) e]
    rfl
noncomputable def StockM (C:Addr) (H:Hp) (x r m:Addr) (rs am:List (Str×Int)):Prop:=(∃ dx,H x=some (.ins C dx [("rooms",.ref r),("amounts",.ref m)]))∧H r=some (.dK (dI rs))∧H m=some (.dK (dI am))∧r≠m
theorem StockM.at {C:Addr} {H:Hp} {x r m:Addr} {rs am:List (Str×Int)} (h:StockM C H x r m rs am):StockAt C H x rs am:=let ⟨⟨dx,e1⟩,e2,e3,n⟩:=h;⟨dx,r,m,e1,e2,e3,n⟩
noncomputable def setA (am:List (Str×Int)) (n:Str) (v:Int):List (Str×Int):=am.map fun p=>if p.1=n then (p.1,v) else p
noncomputable def addAll (s:Int) (am ws:List (Str×Int)):List (Str×Int):=ws.foldl (fun am g=>setA am g.1 ((am.lookup g.1).getD 0 + s * g.2)) am
theorem keys_setA (am:List (Str×Int)) (n:Str) (v:Int):(setA am n v).map (·.1)=am.map (·.1):=by
  unfold setA
  rw [List.map_map]
  refine List.map_congr_left fun p _=>?_
  show (if p.1=n then (p.1,v) else p).1=p.1
  split <;> rfl
theorem put_dI {am:List (Str×Int)} {n:Str} {v:Int} (h:n∈am.map (·.1)):putK (dI am) (Sum.inr n:Key) (.int v)=dI (setA am n v):=by
  have hany:((dI am).any fun kv=>decide (kv.1=(Sum.inr n:Key)))=true:=by
    obtain ⟨p,hp,e⟩:=List.mem_map.mp h
    refine List.any_eq_true.mpr ⟨(Sum.inr p.1,V.int p.2),List.mem_map.mpr ⟨p,hp,rfl⟩,decide_eq_true ?_⟩
    rw [e]
  unfold putK
  rw [if_pos hany]
  unfold dI setA
  rw [List.map_map,List.map_map]
  refine List.map_congr_left fun p _=>?_
  show (if (Sum.inr p.1:Key)=Sum.inr n then ((Sum.inr p.1:Key),V.int v) else (Sum.inr p.1,V.int p.2))=(Sum.inr (if p.1=n then (p.1,v) else p).1,V.int (if p.1=n then (p.1,v) else p).2)
  by_cases e:p.1=n
  · rw [if_pos (by rw [e]),if_pos e]
  · rw [if_neg (fun z=>e (Sum.inr.inj z)),if_neg e]
noncomputable def tooMuch (rs am ws:List (Str×Int)):Option Str:=(ws.find? fun g=>decide ((rs.lookup g.1).getD 0 < (am.lookup g.1).getD 0 + g.2)).map (·.1)
noncomputable def tooFew (am ws:List (Str×Int)):Option Str:=(ws.find? fun g=>decide ((am.lookup g.1).getD 0 < g.2)).map (·.1)
noncomputable def sp_all (C cU cN:Addr) (s:Int) (bad:List (Str×Int)→List (Str×Int)→List (Str×Int)→Option Str):Sp:=fun vs H Q E=>∃ x r m p rs am ws,vs=[.ref x,.ref p]∧StockM C H x r m rs am∧am.map (·.1)=rs.map (·.1)∧am.length≤1000∧p≠m∧GiftsAt H p ws ∧
  (∀ n,strange rs ws=some n→OutU cU n H E)∧(∀ n,strange rs ws=none→bad rs am ws=some n→OutU cN n H E) ∧
  (strange rs ws=none→bad rs am ws=none→∀ H',(∀ b u,b≠m→H b=some u→H' b=some u)→StockM C H' x r m rs (addAll s am ws)→Q .non H')
theorem keys_addAll (s:Int):∀ (ws am:List (Str×Int)),(addAll s am ws).map (·.1)=am.map (·.1)
  | [],_=>rfl
  | g :: r,am=>by
    show (addAll s (setA am g.1 ((am.lookup g.1).getD 0 + s * g.2)) r).map (·.1)=_
    rw [keys_addAll s r,keys_setA]
theorem addAll_snoc (s:Int) (am ws:List (Str×Int)) (g:Str×Int):addAll s am (ws ++ [g])=setA (addAll s am ws) g.1 (((addAll s am ws).lookup g.1).getD 0 + s * g.2):=by
  unfold addAll
  rw [List.foldl_append]
  rfl
theorem look_keys {rs am:List (Str×Int)} {n:Str} {v:Int} (e:am.map (·.1)=rs.map (·.1)) (h:rs.lookup n=some v):∃ w,am.lookup n=some w:=by
  cases l:am.lookup n with
  | some w=>exact ⟨w,rfl⟩
  | none=>exact absurd (e ▸ look_some h) (look_none l)
theorem strange_none {rs ws:List (Str×Int)} (h:strange rs ws=none) {j:Nat} {g:Str×Int} (e:ws[j]?=some g):∃ v,rs.lookup g.1=some v:=by
  unfold strange at h
  have h1:=List.find?_eq_none.mp (Option.map_eq_none_iff.mp h) g (List.mem_of_getElem? e)
  cases l:rs.lookup g.1 with
  | some v=>exact ⟨v,rfl⟩
  | none=>rw [l] at h1;exact absurd rfl h1
theorem sc_Stock_put_all:FnScope ["self","gifts","name","many"] ["self","gifts"] (defScope s_Stock_put_all):=⟨rfl,rfl,rfl,by decide +kernel,rfl,by decide +kernel,by decide +kernel⟩
theorem ok_Stock_put_all {fa yQ yZ yX yY yV yJ yW yU yK yG cQ cZ cV cK cG vQ vZ vX vY:Addr} {fd:FuncData} (F:Fun K "put_all" "Stock.put_all" s_Stock_put_all fa fd) (T:Txt K mg yQ yZ yX yY yV yJ yW yU yK yG cQ cZ cV cK cG vQ vZ vX vY) (X_TooMuch:MkXD P w K mg base 1 "TooMuch" cG ["self","name"] (sp_one cG "name")) (D_Stock_know_all:MtE P w K mg base 4 "know_all" cQ ["self","rows"] (sp_know_all cQ cV)) :
    FnOk P w K mg base (CXe P w) 5 fa fd ["self","gifts"] (sp_all cQ cV cG 1 tooMuch):=by
  refine F.okE sc_Stock_put_all (fun vs H Q E h=>?_) (fun cdv A outer s H vs Q E hr h=>?_)
  · obtain ⟨x,r,m,p,rs,am,ws,rfl,_⟩:=h
    rfl
  obtain ⟨x,r,m,p,rs,am,ws,rfl,S,ek,la,npm,G,q1,q2,q3⟩:=h
  have hu:=hu_n hr 0 (by decide)
  obtain ⟨⟨dx,hx⟩,hr',hm,ne⟩:=id S
  obtain ⟨ts,hp,lt,gt⟩:=id G
  have nxm:x≠m:=ne_of hx hm (by intro z;cases z)
  refine ⟨_,(pss_cons (ps_expr (pe_methE 4 pass_def (hr.mono (by decide)) (pv 0) (pa_cons (pv 1) pa_nil)))
  (pss_cons (ps_for own_def rfl (pi_list (pv 1)) (pg_tup rfl (pgs_cons (pg_name (i:=2) sc_Stock_put_all.nd rfl (by first | exact Or.inl rfl | exact Or.inr rfl)) (pgs_cons (pg_name (i:=3) sc_Stock_put_all.nd rfl (by first | exact Or.inl rfl | exact Or.inr rfl)) pgs_nil)))
  (pss_one (ps_if (pt_cmpR op_gt (pe_op op_add (pe_dget hu (pe_fld (pv 0) rfl) (pv 2) (fun _ _=>rfl)) (pv 3)) (pe_dget hu (pe_fld (pv 0) rfl) (pv 2) (fun _ _=>rfl)) (nomark _)) (pss_one (ps_raise raise_def rfl (pe_makeXD X_TooMuch (hr.mono (by decide)) rfl (pa_cons (pv 2) pa_nil)))) pss_nil)))
  (pss_one (ps_for own_def rfl (pi_list (pv 1)) (pg_tup rfl (pgs_cons (pg_name (i:=2) sc_Stock_put_all.nd rfl (by first | exact Or.inl rfl | exact Or.inr rfl)) (pgs_cons (pg_name (i:=3) sc_Stock_put_all.nd rfl (by first | exact Or.inl rfl | exact Or.inr rfl)) pgs_nil)))
  (pss_one (ps_daug hu (pe_fld (pv 0) rfl) (pv 2) (pv 3) in_add (fun _ _ _=>rfl))))))),?_⟩
  refine ⟨_,rfl,x,_,dx,_,_,_,rfl,hx,rfl,T.cl_Stock,D_Stock_know_all,_,rfl,x,p,rs,am,ws,rfl,S.at,G,fun kn=>?_,q1⟩
  refine ⟨_,rfl,p,rfl,⟨_,SqL.of hp⟩,for_list (K:=K) (a:=p) (xs:=ts) (fun i σ H'=>H'=H∧(∀ (j:Nat) g,j < i→ws[j]?=some g→decide ((rs.lookup g.1).getD 0 < (am.lookup g.1).getD 0 + g.2)=false)∧∃ v2 v3,σ=[some (.ref x),some (.ref p),v2,v3]) ⟨rfl,fun j g hj=>absurd hj (Nat.not_lt_zero j),_,_,rfl⟩ (fun i σ H' _ z=>by rw [z.1];exact SqL.of hp) (fun i y σ H' hy z=>?_) (fun σ H' z=>?_)⟩
  · obtain ⟨rfl,kb,v2,v3,rfl⟩:=z
    obtain ⟨g,eg⟩:∃ g,ws[i]?=some g:=⟨_,List.getElem?_eq_getElem (by rw [← lt];exact (List.getElem?_eq_some_iff.mp hy).1)⟩
    obtain ⟨t,rfl,ht⟩:=gt i y g hy eg
    obtain ⟨vr,er⟩:=strange_none kn eg
    obtain ⟨va,ea⟩:=look_keys ek er
    refine ⟨t,[.str g.1,.int g.2],rfl,SqT.of ht,rfl,.str g.1,[.int g.2],rfl,.int g.2,[],rfl,rfl,?_⟩
    refine ⟨_,rfl,x,cQ,dx,_,_,rfl,hx,T.cl_Stock,T.n_Stock_amounts,rfl,_,rfl,m,_,rfl,dget_dI hm ea,_,rfl,_,_,rfl,rfl,_,rfl,x,cQ,dx,_,_,rfl,hx,T.cl_Stock,T.n_Stock_rooms,rfl,_,rfl,r,_,rfl,dget_dI hr' er,_,_,rfl,rfl,decide (vr < va + g.2),rfl,?_⟩
    have eb:(decide ((rs.lookup g.1).getD 0 < (am.lookup g.1).getD 0 + g.2))=decide (vr < va + g.2):=by rw [ea,er];rfl
    cases hd:decide (vr < va + g.2) with
    | false =>
      refine iteF ⟨rfl,fun j g' hj e=>?_,_,_,rfl⟩
      by_cases hji:j < i
      · exact kb j g' hji e
      · have:j=i:=by omega
        subst this
        rw [eg] at e
        obtain rfl:=Option.some.inj e
        rw [eb,hd]
    | true =>
      refine iteT ⟨_,rfl,raise_one T.x_TooMuch.m fun ea H2 sm _ gx=>q2 g.1 kn ?_ ea H2 sm gx⟩
      unfold tooMuch
      rw [find_first eg (fun j b hj e=>kb j b hj e) (by rw [eb,hd])]
      rfl
  · obtain ⟨rfl,kb,v2,v3,rfl⟩:=z
    have nb:tooMuch rs am ws=none:=by
      unfold tooMuch
      rw [find_no fun j g e=>kb j g (by rw [lt];exact (List.getElem?_eq_some_iff.mp e).1) e]
      rfl
    refine ⟨_,rfl,p,rfl,⟨_,SqL.of hp⟩,for_list (K:=K) (a:=p) (xs:=ts) (fun i σ H2=>(∀ b u,b≠m→H' b=some u→H2 b=some u)∧H2 m=some (.dK (dI (addAll 1 am (ws.take i))))∧∃ v2 v3,σ=[some (.ref x),some (.ref p),v2,v3]) ⟨fun b u _ e=>e,hm,_,_,rfl⟩ (fun i σ H2 _ z=>SqL.of (z.1 _ _ npm hp)) (fun i y σ H2 hy z=>?_) (fun σ H2 z=>?_)⟩
    · obtain ⟨kp,hm2,v2,v3,rfl⟩:=z
      obtain ⟨g,eg⟩:∃ g,ws[i]?=some g:=⟨_,List.getElem?_eq_getElem (by rw [← lt];exact (List.getElem?_eq_some_iff.mp hy).1)⟩
      obtain ⟨t,rfl,ht⟩:=gt i y g hy eg
      obtain ⟨vr,er⟩:=strange_none kn eg
      have ek2:(addAll 1 am (ws.take i)).map (·.1)=rs.map (·.1):=by rw [keys_addAll,ek]
      obtain ⟨va,ea⟩:=look_keys ek2 er
      have tk:ws.take (i + 1)=ws.take i ++ [g]:=by rw [List.take_add_one,eg];rfl
      refine ⟨t,[.str g.1,.int g.2],rfl,SqT.of (kp _ _ (ne_of ht hm (by intro z;cases z)) ht),rfl,.str g.1,[.int g.2],rfl,.int g.2,[],rfl,rfl,?_⟩
      have ln:(dI (addAll 1 am (ws.take i))).length < sizeLine:=by
        unfold dI
        have:=congrArg List.length (keys_addAll 1 (ws.take i) am)
        rw [List.length_map,List.length_map] at this
        rw [List.length_map,this]
        exact small1000 la
      refine ⟨_,rfl,x,cQ,dx,_,_,rfl,kp _ _ nxm hx,T.cl_Stock,T.n_Stock_amounts,rfl,_,rfl,m,_,rfl,dget_dI hm2 ea,_,rfl,_,_,rfl,rfl,_,DPut.k (k:=Sum.inr g.1) hm2 ln,?_⟩
      refine ⟨fun b u nb e=>by rw [upd_ne nb];exact kp b u nb e,?_,_,_,rfl⟩
      rw [upd_same,put_dI (look_some ea),tk,addAll_snoc,ea,Option.getD_some]
      rw [Int.one_mul]
    · obtain ⟨kp,hm2,v2,v3,rfl⟩:=z
      rw [List.take_of_length_le (by omega)] at hm2
      exact q3 kn nb H2 kp ⟨⟨dx,kp _ _ nxm hx⟩,kp _ _ ne hr',hm2,ne⟩
theorem sc_Stock_draw_all:FnScope ["self","wants","name","many"] ["self","wants"] (defScope s_Stock_draw_all):=⟨rfl,rfl,rfl,by decide +kernel,rfl,by decide +kernel,by decide +kernel⟩
theorem ok_Stock_draw_all {fa yQ yZ yX yY yV yJ yW yU yK yG cQ cZ cV cK cG vQ vZ vX vY:Addr} {fd:FuncData} (F:Fun K "draw_all" "Stock.draw_all" s_Stock_draw_all fa fd) (T:Txt K mg yQ yZ yX yY yV yJ yW yU yK yG cQ cZ cV cK cG vQ vZ vX vY) (X_Dry:MkXD P w K mg base 1 "Dry" vQ ["self","name"] (sp_one vQ "name")) (D_Stock_know_all:MtE P w K mg base 4 "know_all" cQ ["self","rows"] (sp_know_all cQ cV)) :
    FnOk P w K mg base (CXe P w) 5 fa fd ["self","wants"] (sp_all cQ cV vQ (-1) (fun _ am ws=>tooFew am ws)):=by
  refine F.okE sc_Stock_draw_all (fun vs H Q E h=>?_) (fun cdv A outer s H vs Q E hr h=>?_)
  · obtain ⟨x,r,m,p,rs,am,ws,rfl,_⟩:=h
    rfl
  obtain ⟨x,r,m,p,rs,am,ws,rfl,S,ek,la,npm,G,q1,q2,q3⟩:=h
  have hu:=hu_n hr 0 (by decide)
  obtain ⟨⟨dx,hx⟩,hr',hm,ne⟩:=id S
  obtain ⟨ts,hp,lt,gt⟩:=id G
  have nxm:x≠m:=ne_of hx hm (by intro z;cases z)
  refine ⟨_,(pss_cons (ps_expr (pe_methE 4 pass_def (hr.mono (by decide)) (pv 0) (pa_cons (pv 1) pa_nil)))
  (pss_cons (ps_for own_def rfl (pi_list (pv 1)) (pg_tup rfl (pgs_cons (pg_name (i:=2) sc_Stock_draw_all.nd rfl (by first | exact Or.inl rfl | exact Or.inr rfl)) (pgs_cons (pg_name (i:=3) sc_Stock_draw_all.nd rfl (by first | exact Or.inl rfl | exact Or.inr rfl)) pgs_nil)))
  (pss_one (ps_if (pt_cmpR op_lt (pe_dget hu (pe_fld (pv 0) rfl) (pv 2) (fun _ _=>rfl)) (pv 3) (nomark _)) (pss_one (ps_raise raise_def rfl (pe_makeXD X_Dry (hr.mono (by decide)) rfl (pa_cons (pv 2) pa_nil)))) pss_nil)))
  (pss_one (ps_for own_def rfl (pi_list (pv 1)) (pg_tup rfl (pgs_cons (pg_name (i:=2) sc_Stock_draw_all.nd rfl (by first | exact Or.inl rfl | exact Or.inr rfl)) (pgs_cons (pg_name (i:=3) sc_Stock_draw_all.nd rfl (by first | exact Or.inl rfl | exact Or.inr rfl)) pgs_nil)))
  (pss_one (ps_daug hu (pe_fld (pv 0) rfl) (pv 2) (pv 3) in_sub (fun _ _ _=>rfl))))))),?_⟩
  refine ⟨_,rfl,x,_,dx,_,_,_,rfl,hx,rfl,T.cl_Stock,D_Stock_know_all,_,rfl,x,p,rs,am,ws,rfl,S.at,G,fun kn=>?_,q1⟩
  refine ⟨_,rfl,p,rfl,⟨_,SqL.of hp⟩,for_list (K:=K) (a:=p) (xs:=ts) (fun i σ H'=>H'=H∧(∀ (j:Nat) g,j < i→ws[j]?=some g→decide ((am.lookup g.1).getD 0 < g.2)=false)∧∃ v2 v3,σ=[some (.ref x),some (.ref p),v2,v3]) ⟨rfl,fun j g hj=>absurd hj (Nat.not_lt_zero j),_,_,rfl⟩ (fun i σ H' _ z=>by rw [z.1];exact SqL.of hp) (fun i y σ H' hy z=>?_) (fun σ H' z=>?_)⟩
  · obtain ⟨rfl,kb,v2,v3,rfl⟩:=z
    obtain ⟨g,eg⟩:∃ g,ws[i]?=some g:=⟨_,List.getElem?_eq_getElem (by rw [← lt];exact (List.getElem?_eq_some_iff.mp hy).1)⟩
    obtain ⟨t,rfl,ht⟩:=gt i y g hy eg
    obtain ⟨vr,er⟩:=strange_none kn eg
    obtain ⟨va,ea⟩:=look_keys ek er
    refine ⟨t,[.str g.1,.int g.2],rfl,SqT.of ht,rfl,.str g.1,[.int g.2],rfl,.int g.2,[],rfl,rfl,?_⟩
    refine ⟨_,rfl,x,cQ,dx,_,_,rfl,hx,T.cl_Stock,T.n_Stock_amounts,rfl,_,rfl,m,_,rfl,dget_dI hm ea,_,rfl,_,_,rfl,rfl,decide (va < g.2),rfl,?_⟩
    have eb:(decide ((am.lookup g.1).getD 0 < g.2))=decide (va < g.2):=by rw [ea];rfl
    cases hd:decide (va < g.2) with
    | false =>
      refine iteF ⟨rfl,fun j g' hj e=>?_,_,_,rfl⟩
      by_cases hji:j < i
      · exact kb j g' hji e
      · have:j=i:=by omega
        subst this
        rw [eg] at e
        obtain rfl:=Option.some.inj e
        rw [eb,hd]
    | true =>
      refine iteT ⟨_,rfl,raise_one T.x_Dry.m fun ea H2 sm _ gx=>q2 g.1 kn ?_ ea H2 sm gx⟩
      show tooFew am ws=some g.1
      unfold tooFew
      rw [find_first eg (fun j b hj e=>kb j b hj e) (by rw [eb,hd])]
      rfl
  · obtain ⟨rfl,kb,v2,v3,rfl⟩:=z
    have nb:tooFew am ws=none:=by
      unfold tooFew
      rw [find_no fun j g e=>kb j g (by rw [lt];exact (List.getElem?_eq_some_iff.mp e).1) e]
      rfl
    refine ⟨_,rfl,p,rfl,⟨_,SqL.of hp⟩,for_list (K:=K) (a:=p) (xs:=ts) (fun i σ H2=>(∀ b u,b≠m→H' b=some u→H2 b=some u)∧H2 m=some (.dK (dI (addAll (-1) am (ws.take i))))∧∃ v2 v3,σ=[some (.ref x),some (.ref p),v2,v3]) ⟨fun b u _ e=>e,hm,_,_,rfl⟩ (fun i σ H2 _ z=>SqL.of (z.1 _ _ npm hp)) (fun i y σ H2 hy z=>?_) (fun σ H2 z=>?_)⟩
    · obtain ⟨kp,hm2,v2,v3,rfl⟩:=z
      obtain ⟨g,eg⟩:∃ g,ws[i]?=some g:=⟨_,List.getElem?_eq_getElem (by rw [← lt];exact (List.getElem?_eq_some_iff.mp hy).1)⟩
      obtain ⟨t,rfl,ht⟩:=gt i y g hy eg
      obtain ⟨vr,er⟩:=strange_none kn eg
      have ek2:(addAll (-1) am (ws.take i)).map (·.1)=rs.map (·.1):=by rw [keys_addAll,ek]
      obtain ⟨va,ea⟩:=look_keys ek2 er
      have tk:ws.take (i + 1)=ws.take i ++ [g]:=by rw [List.take_add_one,eg];rfl
      refine ⟨t,[.str g.1,.int g.2],rfl,SqT.of (kp _ _ (ne_of ht hm (by intro z;cases z)) ht),rfl,.str g.1,[.int g.2],rfl,.int g.2,[],rfl,rfl,?_⟩
      have ln:(dI (addAll (-1) am (ws.take i))).length < sizeLine:=by
        unfold dI
        have:=congrArg List.length (keys_addAll (-1) (ws.take i) am)
        rw [List.length_map,List.length_map] at this
        rw [List.length_map,this]
        exact small1000 la
      refine ⟨_,rfl,x,cQ,dx,_,_,rfl,kp _ _ nxm hx,T.cl_Stock,T.n_Stock_amounts,rfl,_,rfl,m,_,rfl,dget_dI hm2 ea,_,rfl,_,_,rfl,rfl,_,DPut.k (k:=Sum.inr g.1) hm2 ln,?_⟩
      refine ⟨fun b u nb e=>by rw [upd_ne nb];exact kp b u nb e,?_,_,_,rfl⟩
      rw [upd_same,put_dI (look_some ea),tk,addAll_snoc,ea,Option.getD_some]
      rw [show va + -1 * g.2=va - g.2 from by omega]
    · obtain ⟨kp,hm2,v2,v3,rfl⟩:=z
      rw [List.take_of_length_le (by omega)] at hm2
      exact q3 kn nb H2 kp ⟨⟨dx,kp _ _ nxm hx⟩,kp _ _ ne hr',hm2,ne⟩
noncomputable def sp_put (C cU cT:Addr):Sp:=fun vs H Q E=>∃ x r m rs am n k,vs=[.ref x,.str n,.int k]∧StockM C H x r m rs am∧am.map (·.1)=rs.map (·.1)∧am.length≤1000 ∧
  (∀ n',strange rs [(n,k)]=some n'→OutU cU n' H E)∧(∀ n',strange rs [(n,k)]=none→tooMuch rs am [(n,k)]=some n'→OutU cT n' H E) ∧
  (strange rs [(n,k)]=none→tooMuch rs am [(n,k)]=none→∀ H',(∀ b u,b≠m→H b=some u→H' b=some u)→StockM C H' x r m rs (addAll 1 am [(n,k)])→Q .non H')
theorem StockM.same {C:Addr} {H H':Hp} {x r m:Addr} {rs am:List (Str×Int)} (h:StockM C H x r m rs am) (k:Same H H'):StockM C H' x r m rs am:=let ⟨⟨dx,e1⟩,e2,e3,n⟩:=h;⟨⟨dx,k _ _ e1⟩,k _ _ e2,k _ _ e3,n⟩
theorem sc_Stock_put:FnScope ["self","name","many"] ["self","name","many"] (defScope s_Stock_put):=⟨rfl,rfl,rfl,by decide +kernel,rfl,by decide +kernel,by decide +kernel⟩
theorem ok_Stock_put {fa yQ yZ yX yY yV yJ yW yU yK yG cQ cZ cV cK cG vQ vZ vX vY:Addr} {fd:FuncData} (F:Fun K "put" "Stock.put" s_Stock_put fa fd) (T:Txt K mg yQ yZ yX yY yV yJ yW yU yK yG cQ cZ cV cK cG vQ vZ vX vY) (D_Stock_put_all:MtE P w K mg base 5 "put_all" cQ ["self","gifts"] (sp_all cQ cV cG 1 tooMuch)) :
    FnOk P w K mg base (CXe P w) 6 fa fd ["self","name","many"] (sp_put cQ cV cG):=by
  refine F.okE sc_Stock_put (fun vs H Q E h=>?_) (fun cdv A outer s H vs Q E hr h=>?_)
  · obtain ⟨x,r,m,rs,am,n,k,rfl,_⟩:=h
    rfl
  obtain ⟨x,r,m,rs,am,n,k,rfl,S,ek,la,q1,q2,q3⟩:=h
  have z1:1≤sizeLine:=small (by decide)
  have z2:2≤sizeLine:=small (by decide)
  obtain ⟨⟨dx,hx⟩,hr',hm,ne⟩:=id S
  refine ⟨_,(pss_one (ps_expr (pe_methE 5 pass_def (hr.mono (by decide)) (pv 0) (pa_cons (pe_lst (pa_cons (pe_tup (pa_cons (pv 1) (pa_cons (pv 2) pa_nil))) pa_nil)) pa_nil)))),?_⟩
  refine ⟨_,rfl,x,_,dx,_,_,_,rfl,hx,rfl,T.cl_Stock,D_Stock_put_all,_,rfl,_,rfl,z2,fun t nt=>⟨z1,fun p np=>?_⟩⟩
  have s1:=(same_new nt (.tup [.str n,.int k])).trans (same_new np (.lst [.ref t]))
  have ht:=same_new np (.lst [.ref t]) _ _ (upd_same (H:=H) (a:=t) (o:=.tup [.str n,.int k]))
  have hp:=upd_same (H:=upd H t (.tup [.str n,.int k])) (a:=p) (o:=.lst [.ref t])
  have npm:p≠m:=fun e=>by
    have:=same_new nt (.tup [.str n,.int k]) _ _ hm
    rw [← e,np] at this
    cases this
  refine ⟨x,r,m,p,rs,am,[(n,k)],rfl,S.same s1,ek,la,npm,⟨[.ref t],hp,rfl,fun i y g e1 e2=>?_⟩,fun n' h ea H' sm gx=>q1 n' h ea H' (s1.trans sm) gx,fun n' h h2 ea H' sm gx=>q2 n' h h2 ea H' (s1.trans sm) gx,fun h1 h2 H' kp S'=>q3 h1 h2 H' (fun b u nb e=>kp b u nb (s1 _ _ e)) S'⟩
  match i,e1,e2 with
  | 0,e1,e2 =>
    obtain rfl:V.ref t=y:=Option.some.inj e1
    obtain rfl:(n,k)=g:=Option.some.inj e2
    exact ⟨t,rfl,ht⟩
end
end My
namespace My
open PySem L2
open Blk (sg sg_inj sg_app)
section
variable {P:Program} {w:World} {K:PySem.W.Frag} {mg:Str→Option Value} {base:Heap}
theorem sc_NotNow_init:FnScope ["self","found"] ["self","found"] (defScope s_NotNow_init):=⟨rfl,rfl,rfl,by decide +kernel,rfl,by decide +kernel,by decide +kernel⟩
theorem ok_NotNow_init {fa yQ yZ yX yY yV yJ yW yU yK yG cQ cZ cV cK cG vQ vZ vX vY:Addr} {fd:FuncData} (F:Fun K "__init__" "NotNow.__init__" s_NotNow_init fa fd) (T:Txt K mg yQ yZ yX yY yV yJ yW yU yK yG cQ cZ cV cK cG vQ vZ vX vY)  :
    FnOk P w K mg base CX0 1 fa fd ["self","found"] (sp_one cK "found"):=by
  refine F.ok sc_NotNow_init (fun vs H Q E h=>?_) (fun cdv A outer s H vs Q E hr h=>?_)
  · obtain ⟨x,y,rfl,_⟩:=h
    rfl
  obtain ⟨x,y,rfl,hx,q⟩:=h
  refine ⟨_,(pss_cons (ps_expr (pe_initX T.in_HallError rfl T.mg_HallError (pa_cons (pv 0) (pa_cons (pv 1) pa_nil))))
  (pss_one (ps_fldX (pv 0) (pv 1) rfl))),?_⟩
  refine ⟨_,rfl,_,rfl,x,_,none,[y],rfl,(by simp),hx,T.x_NotNow.m,?_⟩
  refine ⟨_,rfl,_,rfl,.inl ⟨x,_,rfl,hx,T.x_NotNow.i.c,T.x_NotNow.n _ (.head _),fun dx nd ne=>?_⟩⟩
  exact q _ (kept_set nd) (xf_set ne)
inductive S3 where
  | rd | jm | aw (b:Bool)
  deriving DecidableEq
noncomputable def wd:S3→Str
  | .rd=>Str.ofString "ready"
  | .jm=>Str.ofString "jammed"
  | .aw _=>Str.ofString "off"
noncomputable def fsOf:S3→List (Str×V)
  | .rd=>[("word",.str (Str.ofString "ready"))]
  | .jm=>[("word",.str (Str.ofString "jammed"))]
  | .aw b=>[("word",.str (Str.ofString "off")),("jammed",.bl b)]
noncomputable def clOf (cR cJ cA:Addr):S3→Addr
  | .rd=>cR
  | .jm=>cJ
  | .aw _=>cA
noncomputable def sp_called (cR cJ cA:Addr):Sp:=fun vs H Q _=>∃ a dx s,vs=[.ref a]∧H a=some (.ins (clOf cR cJ cA s) dx (fsOf s))∧Q (.str (wd s)) H
noncomputable def sp_State_init (K:PySem.W.Frag):Sp:=fun vs H Q _=>∃ x dx C y,vs=[.ref x,y]∧H x=some (.ins C dx [])∧Cls K C∧NoAttr K C "word"∧Q .non (upd H x (.ins C dx [("word",y)]))
noncomputable def sp_inS (C:Addr) (fs:List (Str×V)):Sp:=fun vs H Q _=>∃ x dx,vs=[.ref x]∧H x=some (.ins C dx [])∧Q .non (upd H x (.ins C dx fs))
noncomputable def sp_Away_init (C:Addr):Sp:=fun vs H Q _=>∃ x dx b,vs=[.ref x,.bl b]∧H x=some (.ins C dx [])∧Q .non (upd H x (.ins C dx (fsOf (.aw b))))
noncomputable def sp_rto (C:Addr) (s:S3):Sp:=fun vs H Q _=>∃ a,vs=[.ref a]∧∀ p dp H',Same H H'→H p=none→H' p=some (.ins C dp (fsOf s))→Q (.ref p) H'
theorem made_sameS {H:Hp} {x dx:Addr} {o o1 o2:HO} (nx:H x=none) (nd:H dx=none):Same H (upd (upd (upd H dx o) x o1) x o2):=by
  rw [upd_upd]
  exact same_on nx (same_new nd _) _
theorem sc_State_init:FnScope ["self","word"] ["self","word"] (defScope s_State_init):=⟨rfl,rfl,rfl,by decide +kernel,rfl,by decide +kernel,by decide +kernel⟩
theorem ok_State_init {fa yQ yZ yX yY yV yJ yW yU yK yG cQ cZ cV cK cG vQ vZ vX vY:Addr} {fd:FuncData} (F:Fun K "__init__" "State.__init__" s_State_init fa fd) (T:Txt K mg yQ yZ yX yY yV yJ yW yU yK yG cQ cZ cV cK cG vQ vZ vX vY)  :
    FnOk P w K mg base CX0 1 fa fd ["self","word"] (sp_State_init K):=by
  refine F.ok sc_State_init (fun vs H Q E h=>?_) (fun cdv A outer s H vs Q E hr h=>?_)
  · obtain ⟨x,dx,C,y,rfl,_⟩:=h
    rfl
  obtain ⟨x,dx,C,y,rfl,hx,cl,n,q⟩:=h
  refine ⟨_,(pss_one (ps_fld (pv 0) (pv 1) rfl)),?_⟩
  exact ⟨_,rfl,_,rfl,x,C,dx,_,rfl,hx,cl,n,(by decide),q⟩
theorem sc_State_called:FnScope ["self"] ["self"] (defScope s_State_called):=⟨rfl,rfl,rfl,by decide +kernel,rfl,by decide +kernel,by decide +kernel⟩
theorem ok_State_called {fa yQ yZ yX yY yV yJ yW yU yK yG cQ cZ cV cK cG vQ vZ vX vY:Addr} {fd:FuncData} (F:Fun K "called" "State.called" s_State_called fa fd) (T:Txt K mg yQ yZ yX yY yV yJ yW yU yK yG cQ cZ cV cK cG vQ vZ vX vY)  :
    FnOk P w K mg base CX0 1 fa fd ["self"] (sp_called yJ yW yU):=by
  refine F.ok sc_State_called (fun vs H Q E h=>?_) (fun cdv A outer s H vs Q E hr h=>?_)
  · obtain ⟨a,dx,s,rfl,_⟩:=h
    rfl
  obtain ⟨a,dx,s,rfl,hx,q⟩:=h
  refine ⟨_,(pss_one (ps_ret (pe_fld (pv 0) rfl))),?_⟩
  cases s with
  | rd=>exact ⟨_,rfl,a,_,dx,_,_,rfl,hx,T.cl_Ready,T.n_Ready_word,rfl,q⟩
  | jm=>exact ⟨_,rfl,a,_,dx,_,_,rfl,hx,T.cl_Jammed,T.n_Jammed_word,rfl,q⟩
  | aw b=>exact ⟨_,rfl,a,_,dx,_,_,rfl,hx,T.cl_Away,T.n_Away_word,rfl,q⟩
theorem sc_Ready_init:FnScope ["self"] ["self"] (defScope s_Ready_init):=⟨rfl,rfl,rfl,by decide +kernel,rfl,by decide +kernel,by decide +kernel⟩
theorem ok_Ready_init {fa yQ yZ yX yY yV yJ yW yU yK yG cQ cZ cV cK cG vQ vZ vX vY:Addr} {fd:FuncData} (F:Fun K "__init__" "Ready.__init__" s_Ready_init fa fd) (T:Txt K mg yQ yZ yX yY yV yJ yW yU yK yG cQ cZ cV cK cG vQ vZ vX vY) (I_State:InD P w K mg base 1 "State" yV ["self","word"] (sp_State_init K)) :
    FnOk P w K mg base CX0 2 fa fd ["self"] (sp_inS yJ (fsOf .rd)):=by
  refine F.ok sc_Ready_init (fun vs H Q E h=>?_) (fun cdv A outer s H vs Q E hr h=>?_)
  · obtain ⟨x,dx,rfl,_⟩:=h
    rfl
  obtain ⟨x,dx,rfl,hx,q⟩:=h
  refine ⟨_,(pss_one (ps_expr (pe_initD I_State (hr.mono (by decide)) rfl (pa_cons (pv 0) (pa_cons (pe_gs T.READY rfl) pa_nil))))),?_⟩
  exact ⟨_,rfl,x,dx,_,_,rfl,hx,T.cl_Ready,T.n_Ready_word,q⟩
theorem sc_Jammed_init:FnScope ["self"] ["self"] (defScope s_Jammed_init):=⟨rfl,rfl,rfl,by decide +kernel,rfl,by decide +kernel,by decide +kernel⟩
theorem ok_Jammed_init {fa yQ yZ yX yY yV yJ yW yU yK yG cQ cZ cV cK cG vQ vZ vX vY:Addr} {fd:FuncData} (F:Fun K "__init__" "Jammed.__init__" s_Jammed_init fa fd) (T:Txt K mg yQ yZ yX yY yV yJ yW yU yK yG cQ cZ cV cK cG vQ vZ vX vY) (I_State:InD P w K mg base 1 "State" yV ["self","word"] (sp_State_init K)) :
    FnOk P w K mg base CX0 2 fa fd ["self"] (sp_inS yW (fsOf .jm)):=by
  refine F.ok sc_Jammed_init (fun vs H Q E h=>?_) (fun cdv A outer s H vs Q E hr h=>?_)
  · obtain ⟨x,dx,rfl,_⟩:=h
    rfl
  obtain ⟨x,dx,rfl,hx,q⟩:=h
  refine ⟨_,(pss_one (ps_expr (pe_initD I_State (hr.mono (by decide)) rfl (pa_cons (pv 0) (pa_cons (pe_gs T.JAMMED rfl) pa_nil))))),?_⟩
  exact ⟨_,rfl,x,dx,_,_,rfl,hx,T.cl_Jammed,T.n_Jammed_word,q⟩
theorem sc_Away_init:FnScope ["self","jammed"] ["self","jammed"] (defScope s_Away_init):=⟨rfl,rfl,rfl,by decide +kernel,rfl,by decide +kernel,by decide +kernel⟩
theorem ok_Away_init {fa yQ yZ yX yY yV yJ yW yU yK yG cQ cZ cV cK cG vQ vZ vX vY:Addr} {fd:FuncData} (F:Fun K "__init__" "Away.__init__" s_Away_init fa fd) (T:Txt K mg yQ yZ yX yY yV yJ yW yU yK yG cQ cZ cV cK cG vQ vZ vX vY) (I_State:InD P w K mg base 1 "State" yV ["self","word"] (sp_State_init K)) :
    FnOk P w K mg base CX0 2 fa fd ["self","jammed"] (sp_Away_init yU):=by
  refine F.ok sc_Away_init (fun vs H Q E h=>?_) (fun cdv A outer s H vs Q E hr h=>?_)
  · obtain ⟨x,dx,b,rfl,_⟩:=h
    rfl
  obtain ⟨x,dx,b,rfl,hx,q⟩:=h
  refine ⟨_,(pss_cons (ps_expr (pe_initD I_State (hr.mono (by decide)) rfl (pa_cons (pv 0) (pa_cons (pe_gs T.OFF rfl) pa_nil))))
  (pss_one (ps_fld (pv 0) (pv 1) rfl))),?_⟩
  refine ⟨_,rfl,x,dx,_,_,rfl,hx,T.cl_Away,T.n_Away_word,?_⟩
  refine ⟨_,rfl,_,rfl,x,_,dx,_,rfl,upd_same,T.cl_Away,T.n_Away_jammed,(by decide),?_⟩
  rw [upd_upd]
  exact q
theorem sc_Ready_jam:FnScope ["self"] ["self"] (defScope s_Ready_jam):=⟨rfl,rfl,rfl,by decide +kernel,rfl,by decide +kernel,by decide +kernel⟩
theorem ok_Ready_jam {fa yQ yZ yX yY yV yJ yW yU yK yG cQ cZ cV cK cG vQ vZ vX vY:Addr} {fd:FuncData} (F:Fun K "jam" "Ready.jam" s_Ready_jam fa fd) (T:Txt K mg yQ yZ yX yY yV yJ yW yU yK yG cQ cZ cV cK cG vQ vZ vX vY) (M_Jammed:MkD P w K mg base 2 "Jammed" yW ["self"] (sp_inS yW (fsOf .jm))) :
    FnOk P w K mg base CX0 4 fa fd ["self"] (sp_rto yW .jm):=by
  refine F.ok sc_Ready_jam (fun vs H Q E h=>?_) (fun cdv A outer s H vs Q E hr h=>?_)
  · obtain ⟨a,rfl,_⟩:=h
    rfl
  obtain ⟨a,rfl,q⟩:=h
  refine ⟨_,(pss_one (ps_ret (pe_makeD0 M_Jammed (hr.mono (by decide)) rfl))),?_⟩
  exact fun x dx nx nd ne=>⟨x,dx,rfl,upd_same,rfl,q x dx _ (made_sameS nx nd) nx upd_same⟩
theorem sc_Ready_leave:FnScope ["self"] ["self"] (defScope s_Ready_leave):=⟨rfl,rfl,rfl,by decide +kernel,rfl,by decide +kernel,by decide +kernel⟩
theorem ok_Ready_leave {fa yQ yZ yX yY yV yJ yW yU yK yG cQ cZ cV cK cG vQ vZ vX vY:Addr} {fd:FuncData} (F:Fun K "leave" "Ready.leave" s_Ready_leave fa fd) (T:Txt K mg yQ yZ yX yY yV yJ yW yU yK yG cQ cZ cV cK cG vQ vZ vX vY) (M_Away:MkD P w K mg base 2 "Away" yU ["self","jammed"] (sp_Away_init yU)) :
    FnOk P w K mg base CX0 4 fa fd ["self"] (sp_rto yU (.aw false)):=by
  refine F.ok sc_Ready_leave (fun vs H Q E h=>?_) (fun cdv A outer s H vs Q E hr h=>?_)
  · obtain ⟨a,rfl,_⟩:=h
    rfl
  obtain ⟨a,rfl,q⟩:=h
  refine ⟨_,(pss_one (ps_ret (pe_makeD M_Away (hr.mono (by decide)) rfl (pa_cons pe_bl pa_nil)))),?_⟩
  exact fun x dx nx nd ne=>⟨x,dx,_,rfl,upd_same,rfl,q x dx _ (made_sameS nx nd) nx upd_same⟩
end
end My
namespace My
open PySem L2
open Blk (sg sg_inj sg_app)
section
variable {P:Program} {w:World} {K:PySem.W.Frag} {mg:Str→Option Value} {base:Heap}
noncomputable abbrev blW:Str:=Str.ofString "black"
noncomputable abbrev coW:Str:=Str.ofString "colour"
theorem blco:blW≠coW:=by decide +kernel
noncomputable def inkL (b c:Int):List (Str×Int):=[(blW,b),(coW,c)]
structure PD where
  dx:Addr
  cn:Addr
  rm:Addr
  tr:Addr
  tr1:Addr
  tr2:Addr
  ik:Addr
  ik1:Addr
  ik2:Addr
  st:Addr
  dst:Addr
  ins:Addr
  name:Str
  path:Int
  rs:List (Str×Int)
  am:List (Str×Int)
  rb:Int
  rc:Int
  b:Int
  c:Int
  tags:List V
  S:S3
noncomputable def PD.fs (d:PD):List (Str×V):=[("name",.str d.name),("can",.ref d.cn),("path",.int d.path),("rooms",.ref d.rm),("trays",.ref d.tr),("inks",.ref d.ik),("state",.ref d.st),("inside",.ref d.ins)]
structure PrAt (cP cS cR cJ cA:Addr) (H:Hp) (x:Addr) (d:PD):Prop where
  o:H x=some (.ins cP d.dx d.fs)
  T:StockM cS H d.tr d.tr1 d.tr2 d.rs d.am
  I:StockM cS H d.ik d.ik1 d.ik2 (inkL d.rb d.rc) (inkL d.b d.c)
  s:H d.st=some (.ins (clOf cR cJ cA d.S) d.dst (fsOf d.S))
  n:H d.ins=some (.lst d.tags)
  ka:d.am.map (·.1)=d.rs.map (·.1)
  la:d.am.length≤900
  lt:d.tags.length≤900
  n22:d.tr2≠d.ik2
  n21:d.tr2≠d.ik1
  n12:d.tr1≠d.ik2
theorem PrAt.same {cP cS cR cJ cA:Addr} {H H':Hp} {x:Addr} {d:PD} (h:PrAt cP cS cR cJ cA H x d) (k:Same H H'):PrAt cP cS cR cJ cA H' x d :=
  { h with o:=k _ _ h.o,T:=h.T.same k,I:=h.I.same k,s:=k _ _ h.s,n:=k _ _ h.n }
noncomputable def sp_Pr_stands (cP cS cR cJ cA:Addr):Sp:=fun vs H Q _=>∃ x d,vs=[.ref x]∧PrAt cP cS cR cJ cA H x d∧Q (.str (wd d.S)) H
theorem sc_Printer_stands:FnScope ["self"] ["self"] (defScope s_Printer_stands):=⟨rfl,rfl,rfl,by decide +kernel,rfl,by decide +kernel,by decide +kernel⟩
theorem ok_Printer_stands {fa yQ yZ yX yY yV yJ yW yU yK yG cQ cZ cV cK cG vQ vZ vX vY:Addr} {fd:FuncData} (F:Fun K "stands" "Printer.stands" s_Printer_stands fa fd) (T:Txt K mg yQ yZ yX yY yV yJ yW yU yK yG cQ cZ cV cK cG vQ vZ vX vY) (D_Ready_called:MtE P w K mg base 1 "called" yJ ["self"] (sp_called yJ yW yU)) (D_Jammed_called:MtE P w K mg base 1 "called" yW ["self"] (sp_called yJ yW yU)) (D_Away_called:MtE P w K mg base 1 "called" yU ["self"] (sp_called yJ yW yU)) :
    FnOk P w K mg base CX0 2 fa fd ["self"] (sp_Pr_stands cZ cQ yJ yW yU):=by
  refine F.ok sc_Printer_stands (fun vs H Q E h=>?_) (fun cdv A outer s H vs Q E hr h=>?_)
  · obtain ⟨x,d,rfl,_⟩:=h
    rfl
  obtain ⟨x,d,rfl,P,q⟩:=h
  refine ⟨_,(pss_one (ps_ret (pe_methE0 1 passE0 (hr.mono (by decide)) (pe_fld (pv 0) rfl)))),?_⟩
  refine ⟨_,rfl,x,cZ,d.dx,_,_,rfl,P.o,T.cl_Printer,T.n_Printer_state,rfl,?_⟩
  have hs:=P.s
  cases eS:d.S with
  | rd =>
    rw [eS] at hs q
    exact ⟨d.st,_,_,_,_,_,rfl,hs,rfl,T.cl_Ready,D_Ready_called,d.st,_,.rd,rfl,hs,q⟩
  | jm =>
    rw [eS] at hs q
    exact ⟨d.st,_,_,_,_,_,rfl,hs,rfl,T.cl_Jammed,D_Jammed_called,d.st,_,.jm,rfl,hs,q⟩
  | aw b =>
    rw [eS] at hs q
    exact ⟨d.st,_,_,_,_,_,rfl,hs,rfl,T.cl_Away,D_Away_called,d.st,_,.aw b,rfl,hs,q⟩
noncomputable def sp_Pr_paper_left (cP cS cR cJ cA:Addr):Sp:=fun vs H Q _=>∃ x d n v,vs=[.ref x,.str n]∧PrAt cP cS cR cJ cA H x d∧d.am.lookup n=some v∧Q (.int v) H
theorem in_rooms {rs am:List (Str×Int)} {n:Str} {v:Int} (e:am.map (·.1)=rs.map (·.1)) (h:am.lookup n=some v):n∈rs.map (·.1):=e ▸ look_some h
theorem sc_Printer_paper_left:FnScope ["self","kind"] ["self","kind"] (defScope s_Printer_paper_left):=⟨rfl,rfl,rfl,by decide +kernel,rfl,by decide +kernel,by decide +kernel⟩
theorem ok_Printer_paper_left {fa yQ yZ yX yY yV yJ yW yU yK yG cQ cZ cV cK cG vQ vZ vX vY:Addr} {fd:FuncData} (F:Fun K "paper_left" "Printer.paper_left" s_Printer_paper_left fa fd) (T:Txt K mg yQ yZ yX yY yV yJ yW yU yK yG cQ cZ cV cK cG vQ vZ vX vY) (D_Stock_held:MtE P w K mg base 4 "held" cQ ["self","name"] (sp_held cQ cV)) :
    FnOk P w K mg base (CXe P w) 5 fa fd ["self","kind"] (sp_Pr_paper_left cZ cQ yJ yW yU):=by
  refine F.okE sc_Printer_paper_left (fun vs H Q E h=>?_) (fun cdv A outer s H vs Q E hr h=>?_)
  · obtain ⟨x,d,n,v,rfl,_⟩:=h
    rfl
  obtain ⟨x,d,n,v,rfl,P,l,q⟩:=h
  refine ⟨_,(pss_one (ps_ret (pe_methE 4 pass_def (hr.mono (by decide)) (pe_fld (pv 0) rfl) (pa_cons (pv 1) pa_nil)))),?_⟩
  refine ⟨_,rfl,x,cZ,d.dx,_,_,rfl,P.o,T.cl_Printer,T.n_Printer_trays,rfl,?_⟩
  obtain ⟨⟨dt,ht⟩,_⟩:=id P.T
  have mem:=in_rooms P.ka l
  exact ⟨d.tr,_,dt,_,_,_,rfl,ht,rfl,T.cl_Stock,D_Stock_held,_,rfl,d.tr,d.rs,d.am,n,rfl,P.T.at,fun v' _ l'=>by rw [l] at l';obtain rfl:=Option.some.inj l';exact q,fun _=>⟨v,l⟩,fun z=>absurd mem z⟩
theorem ink_b {b c:Int}:(inkL b c).lookup blW=some b:=by
  unfold inkL
  rw [List.lookup_cons,beq_self_eq_true]
theorem ink_c {b c:Int}:(inkL b c).lookup coW=some c:=by
  unfold inkL
  rw [List.lookup_cons,beq_eq_false_iff_ne.mpr (Ne.symm blco),List.lookup_cons,beq_self_eq_true]
noncomputable def sp_Pr_within (cP cS cR cJ cA:Addr):Sp:=fun vs H Q _=>∃ x d,vs=[.ref x]∧PrAt cP cS cR cJ cA H x d∧∀ l H',Same H H'→H l=none→H' l=some (.lst d.tags)→Q (.ref l) H'
theorem sc_Printer_within:FnScope ["self"] ["self"] (defScope s_Printer_within):=⟨rfl,rfl,rfl,by decide +kernel,rfl,by decide +kernel,by decide +kernel⟩
theorem ok_Printer_within {fa yQ yZ yX yY yV yJ yW yU yK yG cQ cZ cV cK cG vQ vZ vX vY:Addr} {fd:FuncData} (F:Fun K "within" "Printer.within" s_Printer_within fa fd) (T:Txt K mg yQ yZ yX yY yV yJ yW yU yK yG cQ cZ cV cK cG vQ vZ vX vY)  :
    FnOk P w K mg base CX0 1 fa fd ["self"] (sp_Pr_within cZ cQ yJ yW yU):=by
  refine F.ok sc_Printer_within (fun vs H Q E h=>?_) (fun cdv A outer s H vs Q E hr h=>?_)
  · obtain ⟨x,d,rfl,_⟩:=h
    rfl
  obtain ⟨x,d,rfl,P,q⟩:=h
  refine ⟨_,(pss_one (ps_ret (pe_callTy call_list_of rfl T.list bt_list (pa_cons (pe_fld (pv 0) rfl) pa_nil)))),?_⟩
  refine ⟨_,rfl,x,cZ,d.dx,_,_,rfl,P.o,T.cl_Printer,T.n_Printer_inside,rfl,?_⟩
  exact ⟨d.ins,_,rfl,.inl (SqL.of P.n),fun l nl=>q l _ (same_new nl _) nl upd_same⟩
noncomputable def sp_Pr_must_be_ready (cP cS cR cJ cA:Addr):Sp:=fun vs H Q _=>∃ x d,vs=[.ref x]∧PrAt cP cS cR cJ cA H x d∧d.S=.rd∧Q .non H
theorem sc_Printer_must_be_ready:FnScope ["self"] ["self"] (defScope s_Printer_must_be_ready):=⟨rfl,rfl,rfl,by decide +kernel,rfl,by decide +kernel,by decide +kernel⟩
theorem ok_Printer_must_be_ready {fa yQ yZ yX yY yV yJ yW yU yK yG cQ cZ cV cK cG vQ vZ vX vY:Addr} {fd:FuncData} (F:Fun K "must_be_ready" "Printer.must_be_ready" s_Printer_must_be_ready fa fd) (T:Txt K mg yQ yZ yX yY yV yJ yW yU yK yG cQ cZ cV cK cG vQ vZ vX vY) (X_NotNow:MkXD P w K mg base 1 "NotNow" cK ["self","found"] (sp_one cK "found")) (D_Printer_stands:MtE P w K mg base 2 "stands" cZ ["self"] (sp_Pr_stands cZ cQ yJ yW yU)) :
    FnOk P w K mg base (CXe P w) 3 fa fd ["self"] (sp_Pr_must_be_ready cZ cQ yJ yW yU):=by
  refine F.okE sc_Printer_must_be_ready (fun vs H Q E h=>?_) (fun cdv A outer s H vs Q E hr h=>?_)
  · obtain ⟨x,d,rfl,_⟩:=h
    rfl
  obtain ⟨x,d,rfl,P,eS,q⟩:=h
  refine ⟨_,(pss_one (ps_if (pt_cmpR op_ne (pe_methE0 2 pass_def (hr.mono (by decide)) (pv 0)) (pe_gs T.READY rfl) (nomark _)) (pss_one (ps_raise raise_def rfl (pe_makeXD X_NotNow (hr.mono (by decide)) rfl (pa_cons (pe_methE0 2 pass_def (hr.mono (by decide)) (pv 0)) pa_nil)))) pss_nil)),?_⟩
  exact ⟨_,rfl,x,_,d.dx,_,_,_,rfl,P.o,rfl,T.cl_Printer,D_Printer_stands,x,d,rfl,P,rfl,_,rfl,iteNS (by rw [eS];rfl) q⟩
theorem strange_two {rs:List (Str×Int)} {n:Str} {k v:Int} (h:rs.lookup n=some v):strange rs [(n,k)]=none:=by
  unfold strange
  rw [List.find?_cons,show ((rs.lookup (n,k).1).isNone)=false from by rw [show (n,k).1=n from rfl,h];rfl]
  rfl
theorem much_one {rs am:List (Str×Int)} {n:Str} {k v u:Int} (h:rs.lookup n=some v) (h':am.lookup n=some u):tooMuch rs am [(n,k)]=if v < u + k then some n else none:=by
  unfold tooMuch
  rw [List.find?_cons,show (rs.lookup (n,k).1).getD 0=v from by rw [show (n,k).1=n from rfl,h];rfl,show (am.lookup (n,k).1).getD 0=u from by rw [show (n,k).1=n from rfl,h'];rfl]
  by_cases c:v < u + k
  · rw [if_pos c,decide_eq_true (show v < u + (n,k).2 from c)]
    rfl
  · rw [if_neg c,decide_eq_false (show ¬ v < u + (n,k).2 from c)]
    rfl
theorem few_one {am:List (Str×Int)} {n:Str} {k u:Int} (h':am.lookup n=some u):tooFew am [(n,k)]=if u < k then some n else none:=by
  unfold tooFew
  rw [List.find?_cons,show (am.lookup (n,k).1).getD 0=u from by rw [show (n,k).1=n from rfl,h'];rfl]
  by_cases c:u < k
  · rw [if_pos c,decide_eq_true (show u < (n,k).2 from c)]
    rfl
  · rw [if_neg c,decide_eq_false (show ¬ u < (n,k).2 from c)]
    rfl
theorem add_one {am:List (Str×Int)} {n:Str} {s k u:Int} (h:am.lookup n=some u):addAll s am [(n,k)]=setA am n (u + s * k):=by
  show setA am n ((am.lookup n).getD 0 + s * k)=_
  rw [h]
  rfl
theorem ink_strange {a b x y:Int}:strange (inkL a b) (inkL x y)=none:=by
  unfold strange
  rw [show inkL x y=[(blW,x),(coW,y)] from rfl,List.find?_cons,show ((inkL a b).lookup (blW,x).1).isNone=false from by rw [show (blW,x).1=blW from rfl,ink_b];rfl]
  show (List.find? _ [(coW,y)]).map _=none
  rw [List.find?_cons,show ((inkL a b).lookup (coW,y).1).isNone=false from by rw [show (coW,y).1=coW from rfl,ink_c];rfl]
  rfl
theorem ink_much {rb rc a b x y:Int} (h1:a + x≤rb) (h2:b + y≤rc):tooMuch (inkL rb rc) (inkL a b) (inkL x y)=none:=by
  unfold tooMuch
  rw [show inkL x y=[(blW,x),(coW,y)] from rfl,List.find?_cons,show ((inkL rb rc).lookup (blW,x).1).getD 0=rb from by rw [show (blW,x).1=blW from rfl,ink_b];rfl,show ((inkL a b).lookup (blW,x).1).getD 0=a from by rw [show (blW,x).1=blW from rfl,ink_b];rfl,decide_eq_false (show ¬ rb < a + (blW,x).2 from Int.not_lt.mpr h1)]
  show (List.find? _ [(coW,y)]).map _=none
  rw [List.find?_cons,show ((inkL rb rc).lookup (coW,y).1).getD 0=rc from by rw [show (coW,y).1=coW from rfl,ink_c];rfl,show ((inkL a b).lookup (coW,y).1).getD 0=b from by rw [show (coW,y).1=coW from rfl,ink_c];rfl,decide_eq_false (show ¬ rc < b + (coW,y).2 from Int.not_lt.mpr h2)]
  rfl
theorem ink_few {a b x y:Int} (h1:x≤a) (h2:y≤b):tooFew (inkL a b) (inkL x y)=none:=by
  unfold tooFew
  rw [show inkL x y=[(blW,x),(coW,y)] from rfl,List.find?_cons,show ((inkL a b).lookup (blW,x).1).getD 0=a from by rw [show (blW,x).1=blW from rfl,ink_b];rfl,decide_eq_false (show ¬ a < (blW,x).2 from Int.not_lt.mpr h1)]
  show (List.find? _ [(coW,y)]).map _=none
  rw [List.find?_cons,show ((inkL a b).lookup (coW,y).1).getD 0=b from by rw [show (coW,y).1=coW from rfl,ink_c];rfl,decide_eq_false (show ¬ b < (coW,y).2 from Int.not_lt.mpr h2)]
  rfl
theorem set_b {a b v:Int}:setA (inkL a b) blW v=inkL v b:=by
  unfold setA inkL
  rw [List.map_cons,List.map_cons,if_pos rfl,if_neg (Ne.symm blco)]
  rfl
theorem set_c {a b v:Int}:setA (inkL a b) coW v=inkL a v:=by
  unfold setA inkL
  rw [List.map_cons,List.map_cons,if_neg blco,if_pos rfl]
  rfl
theorem ink_add {s a b x y:Int}:addAll s (inkL a b) (inkL x y)=inkL (a + s * x) (b + s * y):=by
  show setA (setA (inkL a b) blW (((inkL a b).lookup blW).getD 0 + s * x)) coW (((setA (inkL a b) blW (((inkL a b).lookup blW).getD 0 + s * x)).lookup coW).getD 0 + s * y)=_
  rw [ink_b]
  show setA (setA (inkL a b) blW (a + s * x)) coW (((setA (inkL a b) blW (a + s * x)).lookup coW).getD 0 + s * y)=_
  rw [set_b,ink_c]
  exact set_c
theorem PrAt.trays {cP cS cR cJ cA:Addr} {H H':Hp} {x:Addr} {d:PD} {am':List (Str×Int)} (h:PrAt cP cS cR cJ cA H x d) (kp:∀ b o,b≠d.tr2→H b=some o→H' b=some o) (S:StockM cS H' d.tr d.tr1 d.tr2 d.rs am') (k:am'.map (·.1)=d.rs.map (·.1)) (l:am'.length≤900):PrAt cP cS cR cJ cA H' x { d with am:=am' }:=by
  obtain ⟨⟨di,hi⟩,h1,h2,n⟩:=id h.I
  have hm:=h.T.2.2.1
  have off:∀ b o,H b=some o→(∀ kv,o≠.dK kv)→H' b=some o:=fun b o e n=>kp b o (fun z=>by rw [z,hm] at e;injection e with e;exact n _ e.symm) e
  exact { o:=off _ _ h.o (by intro kv z;cases z),T:=S,I:=⟨⟨di,off _ _ hi (by intro kv z;cases z)⟩,kp _ _ (Ne.symm h.n21) h1,kp _ _ (Ne.symm h.n22) h2,n⟩,s:=off _ _ h.s (by intro kv z;cases z),n:=off _ _ h.n (by intro kv z;cases z),ka:=k,la:=l,lt:=h.lt,n22:=h.n22,n21:=h.n21,n12:=h.n12 }
theorem PrAt.inks {cP cS cR cJ cA:Addr} {H H':Hp} {x:Addr} {d:PD} {b' c':Int} (h:PrAt cP cS cR cJ cA H x d) (kp:∀ b o,b≠d.ik2→H b=some o→H' b=some o) (S:StockM cS H' d.ik d.ik1 d.ik2 (inkL d.rb d.rc) (inkL b' c')):PrAt cP cS cR cJ cA H' x { d with b:=b',c:=c' }:=by
  obtain ⟨⟨di,hi⟩,h1,h2,n⟩:=id h.T
  have hm:=h.I.2.2.1
  have off:∀ b o,H b=some o→(∀ kv,o≠.dK kv)→H' b=some o:=fun b o e n=>kp b o (fun z=>by rw [z,hm] at e;injection e with e;exact n _ e.symm) e
  exact { o:=off _ _ h.o (by intro kv z;cases z),T:=⟨⟨di,off _ _ hi (by intro kv z;cases z)⟩,kp _ _ h.n12 h1,kp _ _ h.n22 h2,n⟩,I:=S,s:=off _ _ h.s (by intro kv z;cases z),n:=off _ _ h.n (by intro kv z;cases z),ka:=h.ka,la:=h.la,lt:=h.lt,n22:=h.n22,n21:=h.n21,n12:=h.n12 }
theorem PrAt.inside {cP cS cR cJ cA:Addr} {H H':Hp} {x:Addr} {d:PD} {ts:List V} (h:PrAt cP cS cR cJ cA H x d) (kp:∀ b o,b≠d.ins→H b=some o→H' b=some o) (hn:H' d.ins=some (.lst ts)) (l:ts.length≤900):PrAt cP cS cR cJ cA H' x { d with tags:=ts }:=by
  have off:∀ b o,H b=some o→(∀ xs,o≠.lst xs)→H' b=some o:=fun b o e n=>kp b o (fun z=>by rw [z,h.n] at e;injection e with e;exact n _ e.symm) e
  obtain ⟨⟨di,hi⟩,h1,h2,n⟩:=id h.T
  obtain ⟨⟨di',hi'⟩,h1',h2',n'⟩:=id h.I
  exact { o:=off _ _ h.o (by intro kv z;cases z),T:=⟨⟨di,off _ _ hi (by intro kv z;cases z)⟩,off _ _ h1 (by intro kv z;cases z),off _ _ h2 (by intro kv z;cases z),n⟩,I:=⟨⟨di',off _ _ hi' (by intro kv z;cases z)⟩,off _ _ h1' (by intro kv z;cases z),off _ _ h2' (by intro kv z;cases z),n'⟩,s:=off _ _ h.s (by intro kv z;cases z),n:=hn,ka:=h.ka,la:=h.la,lt:=l,n22:=h.n22,n21:=h.n21,n12:=h.n12 }
noncomputable def sp_Pr_load (cP cS cR cJ cA:Addr):Sp:=fun vs H Q _=>∃ x d n k R A,vs=[.ref x,.str n,.int k]∧PrAt cP cS cR cJ cA H x d∧d.rs.lookup n=some R∧d.am.lookup n=some A∧A + k≤R∧∀ H',(∀ b o,b≠d.tr2→H b=some o→H' b=some o)→PrAt cP cS cR cJ cA H' x { d with am:=setA d.am n (A + k) }→Q .non H'
theorem sc_Printer_load:FnScope ["self","kind","many"] ["self","kind","many"] (defScope s_Printer_load):=⟨rfl,rfl,rfl,by decide +kernel,rfl,by decide +kernel,by decide +kernel⟩
theorem ok_Printer_load {fa yQ yZ yX yY yV yJ yW yU yK yG cQ cZ cV cK cG vQ vZ vX vY:Addr} {fd:FuncData} (F:Fun K "load" "Printer.load" s_Printer_load fa fd) (T:Txt K mg yQ yZ yX yY yV yJ yW yU yK yG cQ cZ cV cK cG vQ vZ vX vY) (D_Stock_put:MtE P w K mg base 6 "put" cQ ["self","name","many"] (sp_put cQ cV cG)) :
    FnOk P w K mg base (CXe P w) 7 fa fd ["self","kind","many"] (sp_Pr_load cZ cQ yJ yW yU):=by
  refine F.okE sc_Printer_load (fun vs H Q E h=>?_) (fun cdv A outer s H vs Q E hr h=>?_)
  · obtain ⟨x,d,n,k,R,A,rfl,_⟩:=h
    rfl
  obtain ⟨x,d,n,k,R,A,rfl,P,lr,la,le,q⟩:=h
  refine ⟨_,(pss_one (ps_expr (pe_methE 6 pass_def (hr.mono (by decide)) (pe_fld (pv 0) rfl) (pa_cons (pv 1) (pa_cons (pv 2) pa_nil))))),?_⟩
  obtain ⟨⟨dt,ht⟩,_⟩:=id P.T
  refine ⟨_,rfl,x,cZ,d.dx,_,_,rfl,P.o,T.cl_Printer,T.n_Printer_trays,rfl,?_⟩
  refine ⟨d.tr,_,dt,_,_,_,rfl,ht,rfl,T.cl_Stock,D_Stock_put,_,rfl,_,rfl,d.tr,d.tr1,d.tr2,d.rs,d.am,n,k,rfl,P.T,P.ka,by have:=P.la;omega,fun n' h ea H1 sm g=>?_,fun n' h h2 ea H1 sm g=>?_,fun h h2 H1 kp S1=>?_⟩
  · rw [strange_two lr] at h
    cases h
  · rw [much_one lr la,if_neg (by omega)] at h2
    cases h2
  · rw [add_one la,Int.one_mul] at S1
    exact q H1 kp (P.trays kp S1 (by rw [keys_setA];exact P.ka) (by unfold setA;rw [List.length_map];exact P.la))
noncomputable def sp_Pr_fill (cP cS cR cJ cA:Addr):Sp:=fun vs H Q _=>∃ x d y z,vs=[.ref x,.int y,.int z]∧PrAt cP cS cR cJ cA H x d∧d.b + y≤d.rb∧d.c + z≤d.rc∧∀ H',(∀ b o,b≠d.ik2→H b=some o→H' b=some o)→PrAt cP cS cR cJ cA H' x { d with b:=d.b + y,c:=d.c + z }→Q .non H'
theorem gifts_ink {H:Hp} {l t1 t2:Addr} {y z:Int} (hl:H l=some (.lst [.ref t1,.ref t2])) (h1:H t1=some (.tup [.str blW,.int y])) (h2:H t2=some (.tup [.str coW,.int z])):GiftsAt H l (inkL y z):=by
  refine ⟨_,hl,rfl,fun i v g e1 e2=>?_⟩
  match i,e1,e2 with
  | 0,e1,e2 =>
    obtain rfl:=Option.some.inj e1
    obtain rfl:=Option.some.inj e2
    exact ⟨t1,rfl,h1⟩
  | 1,e1,e2 =>
    obtain rfl:=Option.some.inj e1
    obtain rfl:=Option.some.inj e2
    exact ⟨t2,rfl,h2⟩
theorem sc_Printer_fill:FnScope ["self","black","coloured"] ["self","black","coloured"] (defScope s_Printer_fill):=⟨rfl,rfl,rfl,by decide +kernel,rfl,by decide +kernel,by decide +kernel⟩
theorem ok_Printer_fill {fa yQ yZ yX yY yV yJ yW yU yK yG cQ cZ cV cK cG vQ vZ vX vY:Addr} {fd:FuncData} (F:Fun K "fill" "Printer.fill" s_Printer_fill fa fd) (T:Txt K mg yQ yZ yX yY yV yJ yW yU yK yG cQ cZ cV cK cG vQ vZ vX vY) (D_Stock_put_all:MtE P w K mg base 5 "put_all" cQ ["self","gifts"] (sp_all cQ cV cG 1 tooMuch)) :
    FnOk P w K mg base (CXe P w) 6 fa fd ["self","black","coloured"] (sp_Pr_fill cZ cQ yJ yW yU):=by
  refine F.okE sc_Printer_fill (fun vs H Q E h=>?_) (fun cdv A outer s H vs Q E hr h=>?_)
  · obtain ⟨x,d,y,z,rfl,_⟩:=h
    rfl
  obtain ⟨x,d,y,z,rfl,P,l1,l2,q⟩:=h
  have z2:2≤sizeLine:=small (by decide)
  refine ⟨_,(pss_one (ps_expr (pe_methE 5 pass_def (hr.mono (by decide)) (pe_fld (pv 0) rfl) (pa_cons (pe_lst (pa_cons (pe_tup (pa_cons (pe_gs T.BLACK rfl) (pa_cons (pv 1) pa_nil))) (pa_cons (pe_tup (pa_cons (pe_gs T.COLOUR rfl) (pa_cons (pv 2) pa_nil))) pa_nil))) pa_nil)))),?_⟩
  obtain ⟨⟨dt,ht⟩,_⟩:=id P.I
  refine ⟨_,rfl,x,cZ,d.dx,_,_,rfl,P.o,T.cl_Printer,T.n_Printer_inks,rfl,?_⟩
  refine ⟨d.ik,_,dt,_,_,_,rfl,ht,rfl,T.cl_Stock,D_Stock_put_all,_,rfl,z2,fun t1 nt1=>?_⟩
  have s1:=same_new nt1 (.tup [.str blW,.int y])
  have h1:upd H t1 (.tup [.str blW,.int y]) t1=some (.tup [.str blW,.int y]):=upd_same
  generalize upd H t1 (.tup [.str blW,.int y])=H1 at s1 h1 ⊢
  refine ⟨_,rfl,z2,fun t2 nt2=>?_⟩
  have s2:=same_new nt2 (.tup [.str coW,.int z])
  have h2:upd H1 t2 (.tup [.str coW,.int z]) t2=some (.tup [.str coW,.int z]):=upd_same
  generalize upd H1 t2 (.tup [.str coW,.int z])=H2 at s2 h2 ⊢
  refine ⟨z2,fun l nl=>?_⟩
  have s3:=same_new nl (.lst [.ref t1,.ref t2])
  have hl:upd H2 l (.lst [.ref t1,.ref t2]) l=some (.lst [.ref t1,.ref t2]):=upd_same
  generalize upd H2 l (.lst [.ref t1,.ref t2])=H3 at s3 hl ⊢
  have s03:=(s1.trans s2).trans s3
  have P3:=P.same s03
  refine ⟨d.ik,d.ik1,d.ik2,l,_,_,inkL y z,rfl,P3.I,rfl,by show 2≤1000;decide,ne_of hl P3.I.2.2.1 (by intro z;cases z),gifts_ink hl ((s2.trans s3) _ _ h1) (s3 _ _ h2),fun n h=>?_,fun n h h2=>?_,fun h h2 H4 kp S4=>?_⟩
  · rw [ink_strange] at h
    cases h
  · rw [ink_much l1 l2] at h2
    cases h2
  · rw [ink_add,Int.one_mul,Int.one_mul] at S4
    exact q H4 (fun b o nb e=>kp b o nb (s03 _ _ e)) (P3.inks kp S4)
noncomputable def sp_Pr_oldest (cP cS cR cJ cA:Addr):Sp:=fun vs H Q _=>∃ x d,vs=[.ref x]∧PrAt cP cS cR cJ cA H x d∧∀ l H',(∀ b o,b≠d.ins→H b=some o→H' b=some o)→H l=none→H' l=some (.lst (d.tags.take 1))→PrAt cP cS cR cJ cA H' x { d with tags:=d.tags.drop 1 }→Q (.ref l) H'
theorem sc_Printer_oldest:FnScope ["self"] ["self"] (defScope s_Printer_oldest):=⟨rfl,rfl,rfl,by decide +kernel,rfl,by decide +kernel,by decide +kernel⟩
theorem ok_Printer_oldest {fa yQ yZ yX yY yV yJ yW yU yK yG cQ cZ cV cK cG vQ vZ vX vY:Addr} {fd:FuncData} (F:Fun K "oldest" "Printer.oldest" s_Printer_oldest fa fd) (T:Txt K mg yQ yZ yX yY yV yJ yW yU yK yG cQ cZ cV cK cG vQ vZ vX vY)  :
    FnOk P w K mg base CX0 1 fa fd ["self"] (sp_Pr_oldest cZ cQ yJ yW yU):=by
  refine F.ok sc_Printer_oldest (fun vs H Q E h=>?_) (fun cdv A outer s H vs Q E hr h=>?_)
  · obtain ⟨x,d,rfl,_⟩:=h
    rfl
  obtain ⟨x,d,rfl,P,q⟩:=h
  have z1:1≤sizeLine:=small (by decide)
  refine ⟨_,(pss_one (ps_ret (pe_ifExp (pt_truth (pe_fld (pv 0) rfl) (fun _=>rfl)) (pe_lst (pa_cons (pe_bm PySem.F.plainAttrs_list PySem.F.slot_list_pop PySem.F.type_list_pop mt_popAt (pe_fld (pv 0) rfl) (pa_cons pe_int pa_nil)) pa_nil)) (pe_lst pa_nil)))),?_⟩
  refine ⟨_,rfl,x,cZ,d.dx,_,_,rfl,P.o,T.cl_Printer,T.n_Printer_inside,rfl,?_⟩
  cases et:d.tags with
  | nil =>
    refine ⟨false,.inl ⟨_,SqL.of P.n,by rw [et];rfl⟩,iteF ⟨Nat.zero_le _,fun l nl=>?_⟩⟩
    have s:=same_new nl (.lst [])
    refine q l _ (fun b o _ e=>s _ _ e) nl (by rw [upd_same,et];rfl) ?_
    have P':=P.same s
    have e:({ d with tags:=d.tags.drop 1 }:PD)=d:=by
      rw [et]
      show ({ d with tags:=[] }:PD)=d
      rw [← et]
    rw [e]
    exact P'
  | cons t r =>
    refine ⟨true,.inl ⟨_,SqL.of P.n,by rw [et];rfl⟩,iteT ?_⟩
    refine ⟨_,rfl,x,cZ,d.dx,_,_,rfl,P.o,T.cl_Printer,T.n_Printer_inside,rfl,.inl ⟨rfl,_,SqL.of P.n⟩,d.ins,_,0,0,t,rfl,rfl,P.n,by decide,by decide,?_,by rw [et];rfl,z1,fun l nl=>?_⟩
    · rw [et]
      exact seqIndex_of (by decide) (by show (0:Int) < ((r.length + 1:Nat):Int);omega)
    have kp:∀ b o,b≠d.ins→H b=some o→upd H d.ins (.lst (d.tags.eraseIdx 0)) b=some o:=fun b o nb e=>by rw [upd_ne nb];exact e
    have hi:upd H d.ins (.lst (d.tags.eraseIdx 0)) d.ins=some (.lst r):=by rw [upd_same,et];rfl
    have nl0:H l=none:=by
      have ne:l≠d.ins:=fun z=>by rw [z,hi] at nl;cases nl
      rw [upd_ne ne] at nl
      exact nl
    generalize upd H d.ins (.lst (d.tags.eraseIdx 0))=H1 at kp hi nl ⊢
    have s:=same_new nl (.lst [t])
    have P1:=(P.inside kp hi (by have:=P.lt;rw [et] at this;exact Nat.le_of_succ_le this)).same s
    refine q l _ (fun b o nb e=>s _ _ (kp b o nb e)) nl0 (by rw [upd_same,et];rfl) ?_
    rw [et]
    exact P1
noncomputable def sp_Pr_push (cP cS cR cJ cA:Addr):Sp:=fun vs H Q E=>∃ x d,vs=[.ref x]∧PrAt cP cS cR cJ cA H x d∧d.S=.rd∧∀ l H',(∀ b o,b≠d.ins→H b=some o→H' b=some o)→H l=none→H' l=some (.lst (d.tags.take 1))→PrAt cP cS cR cJ cA H' x { d with tags:=d.tags.drop 1 }→Q (.ref l) H'
theorem sc_Printer_push:FnScope ["self"] ["self"] (defScope s_Printer_push):=⟨rfl,rfl,rfl,by decide +kernel,rfl,by decide +kernel,by decide +kernel⟩
theorem ok_Printer_push {fa yQ yZ yX yY yV yJ yW yU yK yG cQ cZ cV cK cG vQ vZ vX vY:Addr} {fd:FuncData} (F:Fun K "push" "Printer.push" s_Printer_push fa fd) (T:Txt K mg yQ yZ yX yY yV yJ yW yU yK yG cQ cZ cV cK cG vQ vZ vX vY) (D_Printer_must_be_ready:MtE P w K mg base 3 "must_be_ready" cZ ["self"] (sp_Pr_must_be_ready cZ cQ yJ yW yU)) (D_Printer_oldest:MtE P w K mg base 1 "oldest" cZ ["self"] (sp_Pr_oldest cZ cQ yJ yW yU)) :
    FnOk P w K mg base (CXe P w) 4 fa fd ["self"] (sp_Pr_push cZ cQ yJ yW yU):=by
  refine F.okE sc_Printer_push (fun vs H Q E h=>?_) (fun cdv A outer s H vs Q E hr h=>?_)
  · obtain ⟨x,d,rfl,_⟩:=h
    rfl
  obtain ⟨x,d,rfl,P,eS,q⟩:=h
  refine ⟨_,(pss_cons (ps_expr (pe_methE0 3 pass_def (hr.mono (by decide)) (pv 0)))
  (pss_one (ps_ret (pe_methE0 1 pass_def (hr.mono (by decide)) (pv 0))))),?_⟩
  refine ⟨_,rfl,x,_,d.dx,_,_,_,rfl,P.o,rfl,T.cl_Printer,D_Printer_must_be_ready,x,d,rfl,P,eS,?_⟩
  exact ⟨_,rfl,x,_,d.dx,_,_,_,rfl,P.o,rfl,T.cl_Printer,D_Printer_oldest,x,d,rfl,P,q⟩
noncomputable def fedD (d:PD) (n:Str) (A y z:Int) (tag:V):PD:={ d with am:=setA d.am n (A - 1),b:=d.b - y,c:=d.c - z,tags:=d.tags ++ [tag] }
noncomputable def sp_Pr_feed (cP cS cR cJ cA:Addr):Sp:=fun vs H Q _=>∃ x d tag n y z A,vs=[.ref x,tag,.str n,.int y,.int z]∧PrAt cP cS cR cJ cA H x d∧d.S=.rd∧d.am.lookup n=some A∧1≤A∧y≤d.b∧z≤d.c∧d.tags.length≤800 ∧
  ∀ l H',(∀ b o,b≠d.ins→b≠d.tr2→b≠d.ik2→H b=some o→H' b=some o)→H l=none→H' l=some (.lst (if d.path < ((d.tags.length + 1:Nat):Int) then (d.tags ++ [tag]).take 1 else []))→PrAt cP cS cR cJ cA H' x { fedD d n A y z tag with tags:=if d.path < ((d.tags.length + 1:Nat):Int) then (d.tags ++ [tag]).drop 1 else d.tags ++ [tag] }→Q (.ref l) H'
theorem sc_Printer_feed:FnScope ["self","tag","kind","black","coloured"] ["self","tag","kind","black","coloured"] (defScope s_Printer_feed):=⟨rfl,rfl,rfl,by decide +kernel,rfl,by decide +kernel,by decide +kernel⟩
theorem ok_Printer_feed {fa yQ yZ yX yY yV yJ yW yU yK yG cQ cZ cV cK cG vQ vZ vX vY:Addr} {fd:FuncData} (F:Fun K "feed" "Printer.feed" s_Printer_feed fa fd) (T:Txt K mg yQ yZ yX yY yV yJ yW yU yK yG cQ cZ cV cK cG vQ vZ vX vY) (X_Dry:MkXD P w K mg base 1 "Dry" vQ ["self","name"] (sp_one vQ "name")) (D_Printer_must_be_ready:MtE P w K mg base 3 "must_be_ready" cZ ["self"] (sp_Pr_must_be_ready cZ cQ yJ yW yU)) (D_Printer_paper_left:MtE P w K mg base 5 "paper_left" cZ ["self","kind"] (sp_Pr_paper_left cZ cQ yJ yW yU)) (D_Stock_draw_all:MtE P w K mg base 5 "draw_all" cQ ["self","wants"] (sp_all cQ cV vQ (-1) (fun _ am ws=>tooFew am ws))) (D_Printer_oldest:MtE P w K mg base 1 "oldest" cZ ["self"] (sp_Pr_oldest cZ cQ yJ yW yU)) :
    FnOk P w K mg base (CXe P w) 6 fa fd ["self","tag","kind","black","coloured"] (sp_Pr_feed cZ cQ yJ yW yU):=by
  refine F.okE sc_Printer_feed (fun vs H Q E h=>?_) (fun cdv A outer s H vs Q E hr h=>?_)
  · obtain ⟨x,d,tag,n,y,z,A,rfl,_⟩:=h
    rfl
  obtain ⟨x,d,tag,n,y,z,A,rfl,P,eS,la,A1,yb,zc,lt,q⟩:=h
  have z1:1≤sizeLine:=small (by decide)
  have z2:2≤sizeLine:=small (by decide)
  refine ⟨_,(pss_cons (ps_expr (pe_methE0 3 pass_def (hr.mono (by decide)) (pv 0)))
  (pss_cons (ps_if (pt_cmpR op_lt (pe_methE 5 pass_def (hr.mono (by decide)) (pv 0) (pa_cons (pv 2) pa_nil)) pe_int (nomark _)) (pss_one (ps_raise raise_def rfl (pe_makeXD X_Dry (hr.mono (by decide)) rfl (pa_cons (pv 2) pa_nil)))) pss_nil)
  (pss_cons (ps_expr (pe_methE 5 pass_def (hr.mono (by decide)) (pe_fld (pv 0) rfl) (pa_cons (pe_lst (pa_cons (pe_tup (pa_cons (pe_gs T.BLACK rfl) (pa_cons (pv 3) pa_nil))) (pa_cons (pe_tup (pa_cons (pe_gs T.COLOUR rfl) (pa_cons (pv 4) pa_nil))) pa_nil))) pa_nil)))
  (pss_cons (ps_expr (pe_methE 5 pass_def (hr.mono (by decide)) (pe_fld (pv 0) rfl) (pa_cons (pe_lst (pa_cons (pe_tup (pa_cons (pv 2) (pa_cons pe_int pa_nil))) pa_nil)) pa_nil)))
  (pss_cons (ps_expr (pe_bm PySem.F.plainAttrs_list PySem.F.slot_list_append PySem.F.type_list_append mt_append (pe_fld (pv 0) rfl) (pa_cons (pv 1) pa_nil)))
  (pss_one (ps_ret (pe_ifExp (pt_cmpR op_gt (pe_callB call_len_seq rfl T.len PySem.boot_len (pa_cons (pe_fld (pv 0) rfl) pa_nil)) (pe_fld (pv 0) rfl) (nomark _)) (pe_methE0 1 pass_def (hr.mono (by decide)) (pv 0)) (pe_lst pa_nil))))))))),?_⟩
  refine ⟨_,rfl,x,_,d.dx,_,_,_,rfl,P.o,rfl,T.cl_Printer,D_Printer_must_be_ready,x,d,rfl,P,eS,?_⟩
  refine ⟨_,rfl,x,_,d.dx,_,_,_,rfl,P.o,rfl,T.cl_Printer,D_Printer_paper_left,_,rfl,x,d,n,A,rfl,P,la,?_⟩
  refine ⟨_,_,rfl,rfl,_,rfl,iteNo (by omega) ?_⟩
  obtain ⟨⟨di,hi⟩,_⟩:=id P.I
  refine ⟨_,rfl,x,cZ,d.dx,_,_,rfl,P.o,T.cl_Printer,T.n_Printer_inks,rfl,?_⟩
  refine ⟨d.ik,_,di,_,_,_,rfl,hi,rfl,T.cl_Stock,D_Stock_draw_all,_,rfl,z2,fun t1 nt1=>?_⟩
  have s1:=same_new nt1 (.tup [.str blW,.int y])
  have h1:upd H t1 (.tup [.str blW,.int y]) t1=some (.tup [.str blW,.int y]):=upd_same
  generalize upd H t1 (.tup [.str blW,.int y])=H1 at s1 h1 ⊢
  refine ⟨_,rfl,z2,fun t2 nt2=>?_⟩
  have s2:=same_new nt2 (.tup [.str coW,.int z])
  have h2:upd H1 t2 (.tup [.str coW,.int z]) t2=some (.tup [.str coW,.int z]):=upd_same
  generalize upd H1 t2 (.tup [.str coW,.int z])=H2 at s2 h2 ⊢
  refine ⟨z2,fun l nl=>?_⟩
  have s3:=same_new nl (.lst [.ref t1,.ref t2])
  have hl:upd H2 l (.lst [.ref t1,.ref t2]) l=some (.lst [.ref t1,.ref t2]):=upd_same
  generalize upd H2 l (.lst [.ref t1,.ref t2])=H3 at s3 hl ⊢
  have s03:=(s1.trans s2).trans s3
  have P3:=P.same s03
  refine ⟨d.ik,d.ik1,d.ik2,l,_,_,inkL y z,rfl,P3.I,rfl,by show 2≤1000;decide,ne_of hl P3.I.2.2.1 (by intro z;cases z),gifts_ink hl ((s2.trans s3) _ _ h1) (s3 _ _ h2),fun n h=>?_,fun n h h2=>?_,fun h h2 H4 kp4 S4=>?_⟩
  · rw [ink_strange] at h
    cases h
  · rw [show (fun _ am ws=>tooFew am ws) (inkL d.rb d.rc) (inkL d.b d.c) (inkL y z)=tooFew (inkL d.b d.c) (inkL y z) from rfl,ink_few yb zc] at h2
    cases h2
  rw [ink_add,show d.b + -1 * y=d.b - y by omega,show d.c + -1 * z=d.c - z by omega] at S4
  have P4:=P3.inks kp4 S4
  obtain ⟨⟨dt,ht4⟩,_⟩:=id P4.T
  refine ⟨_,rfl,x,cZ,d.dx,_,_,rfl,P4.o,T.cl_Printer,T.n_Printer_trays,rfl,?_⟩
  refine ⟨d.tr,_,dt,_,_,_,rfl,ht4,rfl,T.cl_Stock,D_Stock_draw_all,_,rfl,z2,fun t3 nt3=>?_⟩
  have s5:=same_new nt3 (.tup [.str n,.int 1])
  have h5:upd H4 t3 (.tup [.str n,.int 1]) t3=some (.tup [.str n,.int 1]):=upd_same
  generalize upd H4 t3 (.tup [.str n,.int 1])=H5 at s5 h5 ⊢
  refine ⟨z1,fun l2 nl2=>?_⟩
  have s6:=same_new nl2 (.lst [.ref t3])
  have hl2:upd H5 l2 (.lst [.ref t3]) l2=some (.lst [.ref t3]):=upd_same
  generalize upd H5 l2 (.lst [.ref t3])=H6 at s6 hl2 ⊢
  have P6:=P4.same (s5.trans s6)
  have hm6:H6 d.tr2=some (.dK (dI d.am)):=P6.T.2.2.1
  have G6:GiftsAt H6 l2 [(n,1)]:=by
    refine ⟨_,hl2,rfl,fun i v g e1 e2=>?_⟩
    match i,e1,e2 with
    | 0,e1,e2 =>
      obtain rfl:=Option.some.inj e1
      obtain rfl:=Option.some.inj e2
      exact ⟨t3,rfl,s6 _ _ h5⟩
  refine ⟨d.tr,d.tr1,d.tr2,l2,d.rs,d.am,[(n,1)],rfl,P6.T,P.ka,by have:=P.la;omega,ne_of hl2 hm6 (by intro z;cases z),G6,fun n' h=>?_,fun n' h h2=>?_,fun h h2 H7 kp7 S7=>?_⟩
  · obtain ⟨R,eR⟩:∃ R,d.rs.lookup n=some R:=by
      cases l:d.rs.lookup n with
      | some v=>exact ⟨v,rfl⟩
      | none=>exact absurd (in_rooms P.ka la) (look_none l)
    rw [strange_two eR] at h
    cases h
  · rw [show (fun _ am ws=>tooFew am ws) d.rs d.am [(n,1)]=tooFew d.am [(n,1)] from rfl,few_one la,if_neg (by omega)] at h2
    cases h2
  rw [add_one la,show A + -1 * 1=A - 1 by omega] at S7
  have P7:PrAt cZ cQ yJ yW yU H7 x { d with am:=setA d.am n (A - 1),b:=d.b - y,c:=d.c - z }:=P6.trays kp7 S7 (by rw [keys_setA];exact P.ka) (by unfold setA;rw [List.length_map];exact P.la)
  have hi7:H7 d.ins=some (.lst d.tags):=P7.n
  refine ⟨_,rfl,x,cZ,d.dx,_,_,rfl,P7.o,T.cl_Printer,T.n_Printer_inside,rfl,.inl ⟨rfl,_,SqL.of hi7⟩,_,rfl,d.ins,_,_,rfl,rfl,hi7,small1000 (by show d.tags.length≤1000;omega),?_⟩
  have kp8:∀ b o,b≠d.ins→H7 b=some o→upd H7 d.ins (.lst (d.tags ++ [tag])) b=some o:=fun b o nb e=>by rw [upd_ne nb];exact e
  have hi8:upd H7 d.ins (.lst (d.tags ++ [tag])) d.ins=some (.lst (d.tags ++ [tag])):=upd_same
  generalize upd H7 d.ins (.lst (d.tags ++ [tag]))=H8 at kp8 hi8 ⊢
  have P8:PrAt cZ cQ yJ yW yU H8 x (fedD d n A y z tag):=P7.inside kp8 hi8 (by rw [List.length_append];show d.tags.length + 1≤900;omega)
  have fr:∀ b o,b≠d.ins→b≠d.tr2→b≠d.ik2→H b=some o→H8 b=some o:=fun b o b1 b2 b3 e=>kp8 b o b1 (kp7 b o b2 ((s5.trans s6) b o (kp4 b o b3 (s03 b o e))))
  have ll:(d.tags ++ [tag]).length=d.tags.length + 1:=by rw [List.length_append];rfl
  refine ⟨_,rfl,x,cZ,d.dx,_,_,rfl,P8.o,T.cl_Printer,T.n_Printer_inside,rfl,d.ins,_,rfl,.inl (SqL.of hi8),_,rfl,x,cZ,d.dx,_,_,rfl,P8.o,T.cl_Printer,T.n_Printer_path,rfl,_,_,rfl,rfl,_,rfl,?_⟩
  have back:∀ l,H8 l=none→H l=none:=fun l nl=>by
    cases e:H l with
    | none=>rfl
    | some o =>
      by_cases c1:l=d.ins
      · rw [c1,hi8] at nl
        cases nl
      by_cases c2:l=d.tr2
      · rw [c2,show H8 d.tr2=_ from P8.T.2.2.1] at nl
        cases nl
      by_cases c3:l=d.ik2
      · rw [c3,show H8 d.ik2=_ from P8.I.2.2.1] at nl
        cases nl
      rw [fr l o c1 c2 c3 e] at nl
      cases nl
  refine ite2 (fun c=>?_) (fun c=>?_)
  · have c':d.path < ((d.tags.length + 1:Nat):Int):=by
      have:=of_decide_eq_true c
      rwa [ll] at this
    rw [if_pos c',if_pos c'] at q
    exact ⟨_,rfl,x,_,d.dx,_,_,_,rfl,P8.o,rfl,T.cl_Printer,D_Printer_oldest,x,fedD d n A y z tag,rfl,P8,fun l H9 kp9 nl hl9 P9=>q l H9 (fun b o b1 b2 b3 e=>kp9 b o b1 (fr b o b1 b2 b3 e)) (back l nl) hl9 P9⟩
  · have c':¬ d.path < ((d.tags.length + 1:Nat):Int):=fun z=>c (decide_eq_true (by rw [ll];exact z))
    rw [if_neg c',if_neg c'] at q
    refine ⟨Nat.zero_le _,fun l nl=>?_⟩
    have s9:=same_new nl (.lst [])
    exact q l _ (fun b o b1 b2 b3 e=>s9 _ _ (fr b o b1 b2 b3 e)) (back l nl) upd_same (P8.same s9)
end
end My
namespace My
open PySem L2
open Blk (sg sg_inj sg_app)
section
variable {P:Program} {w:World} {K:PySem.W.Frag} {mg:Str→Option Value} {base:Heap}
theorem put_state {d:PD} {st:Addr}:putF "state" (.ref st) d.fs=({ d with st:=st }:PD).fs:=by
  unfold PD.fs
  repeat (rw [show ∀ (g:Str) (u v:V) (r:List (Str×V)),putF "state" v ((g,u) :: r)=if g="state" then (g,v) :: r else (g,u) :: putF "state" v r from fun _ _ _ _=>rfl];first | rw [if_pos rfl] | rw [if_neg (by decide +kernel)])
theorem put_inside {d:PD} {il:Addr}:putF "inside" (.ref il) d.fs=({ d with ins:=il }:PD).fs:=by
  unfold PD.fs
  repeat (rw [show ∀ (g:Str) (u v:V) (r:List (Str×V)),putF "inside" v ((g,u) :: r)=if g="inside" then (g,v) :: r else (g,u) :: putF "inside" v r from fun _ _ _ _=>rfl];first | rw [if_pos rfl] | rw [if_neg (by decide +kernel)])
theorem PrAt.turned {cP cS cR cJ cA:Addr} {H H':Hp} {x st dst il:Addr} {S:S3} {ts:List V} {d:PD} (h:PrAt cP cS cR cJ cA H x d) (kp:∀ b o,b≠x→H b=some o→H' b=some o) (ho:H' x=some (.ins cP d.dx ({ d with st:=st,ins:=il }:PD).fs)) (hs:H' st=some (.ins (clOf cR cJ cA S) dst (fsOf S))) (hn:H' il=some (.lst ts)) (l:ts.length≤900):PrAt cP cS cR cJ cA H' x { d with st:=st,dst:=dst,S:=S,ins:=il,tags:=ts }:=by
  obtain ⟨⟨di,hi⟩,h1,h2,n⟩:=id h.T
  obtain ⟨⟨di',hi'⟩,h1',h2',n'⟩:=id h.I
  have off:∀ b o,H b=some o→o≠.ins cP d.dx d.fs→H' b=some o:=fun b o e n=>kp b o (ne_of e h.o n) e
  have two:∀ (c e:Addr) (u v:Str×V),HO.ins c e [u,v]≠.ins cP d.dx d.fs:=fun c e u v z=>by
    injection z with _ _ z
    have:=congrArg List.length z
    rw [show d.fs.length=8 from rfl] at this
    exact absurd (show 2=8 from this) (by decide)
  exact { o:=ho,T:=⟨⟨di,off _ _ hi (two _ _ _ _)⟩,off _ _ h1 (by intro z;cases z),off _ _ h2 (by intro z;cases z),n⟩,I:=⟨⟨di',off _ _ hi' (two _ _ _ _)⟩,off _ _ h1' (by intro z;cases z),off _ _ h2' (by intro z;cases z),n'⟩,s:=hs,n:=hn,ka:=h.ka,la:=h.la,lt:=l,n22:=h.n22,n21:=h.n21,n12:=h.n12 }
theorem St_ne {cP cR cJ cA:Addr} {H:Hp} {x a ds:Addr} {s:S3} {d:PD} (e:H a=some (.ins (clOf cR cJ cA s) ds (fsOf s))) (hx:H x=some (.ins cP d.dx d.fs)):a≠x:=by
  refine ne_of e hx fun z=>?_
  injection z with _ _ z
  have:=congrArg List.length z
  rw [show d.fs.length=8 from rfl] at this
  cases s with
  | rd=>exact absurd (show 1=8 from this) (by decide)
  | jm=>exact absurd (show 1=8 from this) (by decide)
  | aw b=>exact absurd (show 2=8 from this) (by decide)
noncomputable def sp_Pr_leave (cP cS cR cJ cA:Addr):Sp:=fun vs H Q _=>∃ x d,vs=[.ref x]∧PrAt cP cS cR cJ cA H x d∧d.S=.rd∧∀ st dst il H',(∀ b o,b≠x→H b=some o→H' b=some o)→H st=none→H il=none→PrAt cP cS cR cJ cA H' x { d with st:=st,dst:=dst,S:=.aw false,ins:=il,tags:=[] }→Q (.ref d.ins) H'
theorem sc_Printer_leave:FnScope ["self","lost"] ["self"] (defScope s_Printer_leave):=⟨rfl,rfl,rfl,by decide +kernel,rfl,by decide +kernel,by decide +kernel⟩
theorem ok_Printer_leave {fa yQ yZ yX yY yV yJ yW yU yK yG cQ cZ cV cK cG vQ vZ vX vY:Addr} {fd:FuncData} (F:Fun K "leave" "Printer.leave" s_Printer_leave fa fd) (T:Txt K mg yQ yZ yX yY yV yJ yW yU yK yG cQ cZ cV cK cG vQ vZ vX vY) (D_Ready_leave:MtE P w K mg base 4 "leave" yJ ["self"] (sp_rto yU (.aw false))) :
    FnOk P w K mg base (CXe P w) 5 fa fd ["self"] (sp_Pr_leave cZ cQ yJ yW yU):=by
  refine F.okE sc_Printer_leave (fun vs H Q E h=>?_) (fun cdv A outer s H vs Q E hr h=>?_)
  · obtain ⟨x,d,rfl,_⟩:=h
    rfl
  obtain ⟨x,d,rfl,P,eS,q⟩:=h
  refine ⟨_,(pss_cons (ps_fld (pv 0) (pe_methE0 4 pass_def (hr.mono (by decide)) (pe_fld (pv 0) rfl)) rfl)
  (pss_cons (ps_set (i:=1) sc_Printer_leave.nd rfl (by first | exact Or.inl rfl | exact Or.inr rfl) (pe_fld (pv 0) rfl))
  (pss_cons (ps_fld (pv 0) (pe_lst pa_nil) rfl)
  (pss_one (ps_ret (pv 1)))))),?_⟩
  refine ⟨_,rfl,x,cZ,d.dx,_,_,rfl,P.o,T.cl_Printer,T.n_Printer_state,rfl,?_⟩
  have hs0:=P.s
  rw [eS] at hs0
  refine ⟨d.st,_,_,_,_,_,rfl,hs0,rfl,T.cl_Ready,D_Ready_leave,d.st,rfl,fun p dp H1 sm np sa=>?_⟩
  have P1:=P.same sm
  refine ⟨_,rfl,x,cZ,d.dx,_,rfl,P1.o,T.cl_Printer,T.n_Printer_state,(by show 8 < 1000;decide),?_⟩
  rw [put_state]
  have kp:∀ b o,b≠x→H b=some o→upd H1 x (.ins cZ d.dx ({ d with st:=p }:PD).fs) b=some o:=fun b o nb e=>by rw [upd_ne nb];exact sm _ _ e
  have ho:upd H1 x (.ins cZ d.dx ({ d with st:=p }:PD).fs) x=some (.ins cZ d.dx ({ d with st:=p }:PD).fs):=upd_same
  have sa':H1 p=some (.ins (clOf yJ yW yU (.aw false)) dp (fsOf (.aw false))):=sa
  have hs:upd H1 x (.ins cZ d.dx ({ d with st:=p }:PD).fs) p=some (.ins (clOf yJ yW yU (.aw false)) dp (fsOf (.aw false))):=by rw [upd_ne (St_ne sa' P1.o)];exact sa'
  generalize upd H1 x (.ins cZ d.dx ({ d with st:=p }:PD).fs)=H2 at kp ho hs ⊢
  refine ⟨_,rfl,x,cZ,d.dx,_,_,rfl,ho,T.cl_Printer,T.n_Printer_inside,rfl,?_⟩
  refine ⟨Nat.zero_le _,fun il nil'=>?_⟩
  have s3:=same_new nil' (.lst [])
  have h3:upd H2 il (.lst []) il=some (.lst []):=upd_same
  generalize upd H2 il (.lst [])=H3 at s3 h3 ⊢
  refine ⟨_,rfl,x,cZ,d.dx,_,rfl,s3 _ _ ho,T.cl_Printer,T.n_Printer_inside,(by show 8 < 1000;decide),?_⟩
  rw [put_inside]
  have kp4:∀ b o,b≠x→H b=some o→upd H3 x (.ins cZ d.dx ({ d with st:=p,ins:=il }:PD).fs) b=some o:=fun b o nb e=>by rw [upd_ne nb];exact s3 _ _ (kp b o nb e)
  have nil0:H il=none:=by
    cases e:H il with
    | none=>rfl
    | some o =>
      by_cases c:il=x
      · rw [c,ho] at nil';cases nil'
      · rw [kp il o c e] at nil';cases nil'
  have nix:il≠x:=Ne.symm (ne_of_none ho nil')
  refine ⟨_,rfl,q p dp il _ kp4 np nil0 (PrAt.turned (st:=p) (dst:=dp) (il:=il) (S:=.aw false) (ts:=[]) P kp4 upd_same ?_ (by rw [upd_ne nix];exact h3) (Nat.zero_le _))⟩
  rw [upd_ne (St_ne (d:={ d with st:=p }) hs ho)]
  exact s3 _ _ hs
noncomputable def sp_Pr_jam (cP cS cR cJ cA:Addr):Sp:=fun vs H Q _=>∃ x d k,vs=[.ref x,.int (k:Nat)]∧PrAt cP cS cR cJ cA H x d∧d.S=.rd∧k≤d.tags.length∧∀ t l1 l2 st dst il H',(∀ b o,b≠x→H b=some o→H' b=some o)→H st=none→H il=none→H t=none→H l1=none→H' t=some (.tup [.ref l1,.ref l2])→H' l1=some (.lst (d.tags.take k))→H' l2=some (.lst (d.tags.drop k))→PrAt cP cS cR cJ cA H' x { d with st:=st,dst:=dst,S:=.jm,ins:=il,tags:=[] }→Q (.ref t) H'
theorem sc_Printer_jam:FnScope ["self","saved","jammed","out","lost"] ["self","saved"] (defScope s_Printer_jam):=⟨rfl,rfl,rfl,by decide +kernel,rfl,by decide +kernel,by decide +kernel⟩
theorem ok_Printer_jam {fa yQ yZ yX yY yV yJ yW yU yK yG cQ cZ cV cK cG vQ vZ vX vY:Addr} {fd:FuncData} (F:Fun K "jam" "Printer.jam" s_Printer_jam fa fd) (T:Txt K mg yQ yZ yX yY yV yJ yW yU yK yG cQ cZ cV cK cG vQ vZ vX vY) (X_TooMuch:MkXD P w K mg base 1 "TooMuch" cG ["self","name"] (sp_one cG "name")) (D_Ready_jam:MtE P w K mg base 4 "jam" yJ ["self"] (sp_rto yW .jm)) :
    FnOk P w K mg base (CXe P w) 5 fa fd ["self","saved"] (sp_Pr_jam cZ cQ yJ yW yU):=by
  refine F.okE sc_Printer_jam (fun vs H Q E h=>?_) (fun cdv A outer s H vs Q E hr h=>?_)
  · obtain ⟨x,d,k,rfl,_⟩:=h
    rfl
  obtain ⟨x,d,k,rfl,P,rd,hk,q⟩:=h
  refine ⟨_,(pss_cons (ps_set (i:=2) sc_Printer_jam.nd rfl (by first | exact Or.inl rfl | exact Or.inr rfl) (pe_methE0 4 pass_def (hr.mono (by decide)) (pe_fld (pv 0) rfl)))
  (pss_cons (ps_if (pt_cmpR op_gt (pv 1) (pe_callB call_len_seq rfl T.len PySem.boot_len (pa_cons (pe_fld (pv 0) rfl) pa_nil)) (nomark _)) (pss_one (ps_raise raise_def rfl (pe_makeXD X_TooMuch (hr.mono (by decide)) rfl (pa_cons (pe_gs T.WITHIN rfl) pa_nil)))) pss_nil)
  (pss_cons (ps_set (i:=3) sc_Printer_jam.nd rfl (by first | exact Or.inl rfl | exact Or.inr rfl) (pe_slice sl_list (pe_fld (pv 0) rfl) po_none (po_some (pv 1))))
  (pss_cons (ps_set (i:=4) sc_Printer_jam.nd rfl (by first | exact Or.inl rfl | exact Or.inr rfl) (pe_slice sl_list (pe_fld (pv 0) rfl) (po_some (pv 1)) po_none))
  (pss_cons (ps_fld (pv 0) (pe_lst pa_nil) rfl)
  (pss_cons (ps_fld (pv 0) (pv 2) rfl)
  (pss_one (ps_ret (pe_tup (pa_cons (pv 3) (pa_cons (pv 4) pa_nil))))))))))),?_⟩
  refine ⟨_,rfl,x,cZ,d.dx,_,_,rfl,P.o,T.cl_Printer,T.n_Printer_state,rfl,?_⟩
  have hs0:=P.s
  rw [rd] at hs0
  refine ⟨d.st,_,_,_,_,_,rfl,hs0,rfl,T.cl_Ready,D_Ready_jam,d.st,rfl,fun p dp H1 sm np sa=>?_⟩
  have P1:=P.same sm
  refine ⟨_,rfl,_,rfl,x,cZ,d.dx,_,_,rfl,P1.o,T.cl_Printer,T.n_Printer_inside,rfl,d.ins,_,rfl,.inl (SqL.of P1.n),_,_,rfl,rfl,_,rfl,?_⟩
  refine iteNo (by omega) ?_
  refine ⟨_,rfl,x,cZ,d.dx,_,_,rfl,P1.o,T.cl_Printer,T.n_Printer_inside,rfl,?_⟩
  refine ⟨_,rfl,_,rfl,d.ins,_,rfl,SqL.of P1.n,fun l1 nl1=>?_⟩
  rw [cut_to]
  have s2:=same_new nl1 (.lst (d.tags.take k))
  have h2:upd H1 l1 (.lst (d.tags.take k)) l1=some (.lst (d.tags.take k)):=upd_same
  generalize upd H1 l1 (.lst (d.tags.take k))=H2 at s2 h2 ⊢
  have P2:=P1.same s2
  refine ⟨_,rfl,x,cZ,d.dx,_,_,rfl,P2.o,T.cl_Printer,T.n_Printer_inside,rfl,?_⟩
  refine ⟨_,rfl,_,rfl,d.ins,_,rfl,SqL.of P2.n,fun l2 nl2=>?_⟩
  rw [cut_from]
  have s3:=same_new nl2 (.lst (d.tags.drop k))
  have h3:upd H2 l2 (.lst (d.tags.drop k)) l2=some (.lst (d.tags.drop k)):=upd_same
  generalize upd H2 l2 (.lst (d.tags.drop k))=H3 at s3 h3 ⊢
  refine ⟨Nat.zero_le _,fun il nil'=>?_⟩
  have s4:=same_new nil' (.lst [])
  have h4:upd H3 il (.lst []) il=some (.lst []):=upd_same
  generalize upd H3 il (.lst [])=H4 at s4 h4 ⊢
  have s14:=(s2.trans s3).trans s4
  have P4:=P1.same s14
  refine ⟨_,rfl,x,cZ,d.dx,_,rfl,P4.o,T.cl_Printer,T.n_Printer_inside,(by show 8 < 1000;decide),?_⟩
  rw [put_inside]
  have kp5:∀ b o,b≠x→H4 b=some o→upd H4 x (.ins cZ d.dx ({ d with ins:=il }:PD).fs) b=some o:=fun b o nb e=>by rw [upd_ne nb];exact e
  have ho5:upd H4 x (.ins cZ d.dx ({ d with ins:=il }:PD).fs) x=some (.ins cZ d.dx ({ d with ins:=il }:PD).fs):=upd_same
  generalize upd H4 x (.ins cZ d.dx ({ d with ins:=il }:PD).fs)=H5 at kp5 ho5 ⊢
  refine ⟨_,rfl,_,rfl,x,cZ,d.dx,_,rfl,ho5,T.cl_Printer,T.n_Printer_state,(by show 8 < 1000;decide),?_⟩
  rw [put_state]
  have kp6:∀ b o,b≠x→H5 b=some o→upd H5 x (.ins cZ d.dx ({ d with ins:=il,st:=p }:PD).fs) b=some o:=fun b o nb e=>by rw [upd_ne nb];exact e
  have ho6:upd H5 x (.ins cZ d.dx ({ d with ins:=il,st:=p }:PD).fs) x=some (.ins cZ d.dx ({ d with ins:=il,st:=p }:PD).fs):=upd_same
  generalize upd H5 x (.ins cZ d.dx ({ d with ins:=il,st:=p }:PD).fs)=H6 at kp6 ho6 ⊢
  have z2:2≤sizeLine:=small (by decide)
  refine ⟨_,rfl,_,rfl,z2,fun t nt=>?_⟩
  have s7:=same_new nt (.tup [.ref l1,.ref l2])
  have h7:upd H6 t (.tup [.ref l1,.ref l2]) t=some (.tup [.ref l1,.ref l2]):=upd_same
  generalize upd H6 t (.tup [.ref l1,.ref l2])=H7 at s7 h7 ⊢
  have kq:∀ b o,b≠x→H4 b=some o→H7 b=some o:=fun b o nb e=>s7 _ _ (kp6 b o nb (kp5 b o nb e))
  have nx4:∀ l ys,H4 l=some (.lst ys)→l≠x:=fun l ys e=>ne_of e P4.o (by intro z;cases z)
  have e1:=(s3.trans s4) _ _ h2
  have e2:=s4 _ _ h3
  refine q t l1 l2 p dp il H7 (fun b o nb e=>kq b o nb (s14 _ _ (sm _ _ e))) np (sm.free ((s2.trans s3).free nil')) ?_ (sm.free nl1) h7 (kq _ _ (nx4 _ _ e1) e1) (kq _ _ (nx4 _ _ e2) e2) ?_
  · cases e:H t with
    | none=>rfl
    | some o =>
      by_cases c:t=x
      · rw [c,ho6] at nt;cases nt
      · rw [kp6 t o c (kp5 t o c (s14 _ _ (sm _ _ e)))] at nt;cases nt
  · have sa':H4 p=some (.ins (clOf yJ yW yU .jm) dp (fsOf .jm)):=s14 _ _ sa
    exact PrAt.turned (st:=p) (dst:=dp) (il:=il) (S:=.jm) (ts:=[]) P4 kq (s7 _ _ ho6) (kq _ _ (St_ne sa' P4.o) sa') (kq _ _ (nx4 _ _ h4) h4) (Nat.zero_le _)
end
end My
namespace My
open PySem L2
open Blk (sg sg_inj sg_app)
section
variable {P:Program} {w:World} {K:PySem.W.Frag} {mg:Str→Option Value} {base:Heap}
noncomputable def sp_Pr_init (cP cS cR cJ cA:Addr):Sp:=fun vs H Q _=>∃ (x dx cl pp:Addr) (nm:Str) (path rb rc:Int) (cs:List V) (rs:List (Str×Int)),vs=[.ref x,.str nm,.ref cl,.int path,.ref pp,.int rb,.int rc]∧H x=some (.ins cP dx [])∧H cl=some (.lst cs)∧H pp=some (.dK (dI rs))∧(rs.map (·.1)).Nodup∧rs.length≤900 ∧
  ∀ d H',(∀ b o,b≠x→H b=some o→H' b=some o)→PrAt cP cS cR cJ cA H' x d→d.name=nm→d.path=path→d.rs=rs→d.am=rs.map (fun p=>(p.1,0))→d.rb=rb→d.rc=rc→d.b=0→d.c=0→d.tags=[]→d.S=.rd→H d.tr1=none→H d.tr2=none→H d.ik1=none→H d.ik2=none→H d.ins=none→Q .non H'
theorem sc_Printer_init:FnScope ["self","name","can","path","papers","black","colour"] ["self","name","can","path","papers","black","colour"] (defScope s_Printer_init):=⟨rfl,rfl,rfl,by decide +kernel,rfl,by decide +kernel,by decide +kernel⟩
theorem ok_Printer_init {fa yQ yZ yX yY yV yJ yW yU yK yG cQ cZ cV cK cG vQ vZ vX vY:Addr} {fd:FuncData} (F:Fun K "__init__" "Printer.__init__" s_Printer_init fa fd) (T:Txt K mg yQ yZ yX yY yV yJ yW yU yK yG cQ cZ cV cK cG vQ vZ vX vY) (M_Stock:MkD P w K mg base 1 "Stock" cQ ["self","rooms"] (sp_Stock_init cQ)) (M_Ready:MkD P w K mg base 2 "Ready" yJ ["self"] (sp_inS yJ (fsOf .rd))) :
    FnOk P w K mg base CX0 4 fa fd ["self","name","can","path","papers","black","colour"] (sp_Pr_init cZ cQ yJ yW yU):=by
  refine F.ok sc_Printer_init (fun vs H Q E h=>?_) (fun cdv A outer s H vs Q E hr h=>?_)
  · obtain ⟨x,dx,cl,pp,nm,path,rb,rc,cs,rs,rfl,_⟩:=h
    rfl
  obtain ⟨x,dx,cl,pp,nm,path,rb,rc,cs,rs,rfl,hx,hcl,hpp,nd,lr,q⟩:=h
  refine ⟨_,(pss_cons (ps_fld (pv 0) (pv 1) rfl)
  (pss_cons (ps_fld (pv 0) (pe_callTy call_tuple_of rfl T.tuple bt_tuple (pa_cons (pv 2) pa_nil)) rfl)
  (pss_cons (ps_fld (pv 0) (pv 3) rfl)
  (pss_cons (ps_fld (pv 0) (pe_callTy call_dict_copy rfl T.dict bt_dict (pa_cons (pv 4) pa_nil)) rfl)
  (pss_cons (ps_fld (pv 0) (pe_makeD M_Stock (hr.mono (by decide)) rfl (pa_cons (pv 4) pa_nil)) rfl)
  (pss_cons (ps_fld (pv 0) (pe_makeD M_Stock (hr.mono (by decide)) rfl (pa_cons (pe_disp (pps_cons (pe_gs T.BLACK rfl) (pv 5) (pps_cons (pe_gs T.COLOUR rfl) (pv 6) pps_nil)) rfl rfl (by decide) (by decide)) pa_nil)) rfl)
  (pss_cons (ps_fld (pv 0) (pe_makeD0 M_Ready (hr.mono (by decide)) rfl) rfl)
  (pss_one (ps_fld (pv 0) (pe_lst pa_nil) rfl))))))))),?_⟩
  have ncx:cl≠x:=ne_of hcl hx (by intro z;cases z)
  have npx:pp≠x:=ne_of hpp hx (by intro z;cases z)
  refine ⟨_,rfl,_,rfl,x,cZ,dx,_,rfl,hx,T.cl_Printer,T.n_Printer_name,(by show 0 < 1000;decide),?_⟩
  rw [putF_add (by show ¬ ("name":Str)∈([]:List Str);decide +kernel),List.nil_append]
  have k1:∀ b o,b≠x→H b=some o→upd H x (.ins cZ dx [("name",V.str nm)]) b=some o:=fun b o nb e=>by rw [upd_ne nb];exact e
  have hx1:upd H x (.ins cZ dx [("name",V.str nm)]) x=some (.ins cZ dx [("name",V.str nm)]):=upd_same
  generalize upd H x (.ins cZ dx [("name",V.str nm)])=H1 at k1 hx1 ⊢
  refine ⟨_,rfl,cl,_,rfl,.inl ⟨SqL.of (k1 _ _ ncx hcl),fun cn ncn=>?_⟩⟩
  have s2:=same_new ncn (.tup cs)
  generalize upd H1 cn (.tup cs)=H2 at s2 ⊢
  refine ⟨_,rfl,x,cZ,dx,_,rfl,s2 _ _ hx1,T.cl_Printer,T.n_Printer_can,(by show 1 < 1000;decide),?_⟩
  rw [putF_add (by show ¬ ("can":Str)∈(["name"]:List Str);decide +kernel)]
  have k3:∀ b o,b≠x→H1 b=some o→upd H2 x (.ins cZ dx (([("name",V.str nm)]:List (Str×V)) ++ ([("can",V.ref cn)]:List (Str×V)))) b=some o:=fun b o nb e=>by rw [upd_ne nb];exact s2 _ _ e
  have hx3:upd H2 x (.ins cZ dx (([("name",V.str nm)]:List (Str×V)) ++ ([("can",V.ref cn)]:List (Str×V)))) x=some (.ins cZ dx [("name",V.str nm),("can",V.ref cn)]):=upd_same
  generalize upd H2 x (.ins cZ dx (([("name",V.str nm)]:List (Str×V)) ++ ([("can",V.ref cn)]:List (Str×V))))=H3 at k3 hx3 ⊢
  refine ⟨_,rfl,_,rfl,x,cZ,dx,_,rfl,hx3,T.cl_Printer,T.n_Printer_path,(by show 2 < 1000;decide),?_⟩
  rw [putF_add (by show ¬ ("path":Str)∈(["name","can"]:List Str);decide +kernel)]
  have k4:∀ b o,b≠x→H3 b=some o→upd H3 x (.ins cZ dx (([("name",V.str nm),("can",V.ref cn)]:List (Str×V)) ++ ([("path",V.int path)]:List (Str×V)))) b=some o:=fun b o nb e=>by rw [upd_ne nb];exact e
  have hx4:upd H3 x (.ins cZ dx (([("name",V.str nm),("can",V.ref cn)]:List (Str×V)) ++ ([("path",V.int path)]:List (Str×V)))) x=some (.ins cZ dx [("name",V.str nm),("can",V.ref cn),("path",V.int path)]):=upd_same
  generalize upd H3 x (.ins cZ dx (([("name",V.str nm),("can",V.ref cn)]:List (Str×V)) ++ ([("path",V.int path)]:List (Str×V))))=H4 at k4 hx4 ⊢
  have k04:∀ b o,b≠x→H b=some o→H4 b=some o:=fun b o nb e=>k4 b o nb (k3 b o nb (k1 b o nb e))
  have hpp4:=k04 _ _ npx hpp
  refine ⟨_,rfl,pp,_,rfl,.inl hpp4,fun rm nrm=>?_⟩
  have s5:=same_new nrm (.dK (dI rs))
  generalize upd H4 rm (.dK (dI rs))=H5 at s5 ⊢
  refine ⟨_,rfl,x,cZ,dx,_,rfl,s5 _ _ hx4,T.cl_Printer,T.n_Printer_rooms,(by show 3 < 1000;decide),?_⟩
  rw [putF_add (by show ¬ ("rooms":Str)∈(["name","can","path"]:List Str);decide +kernel)]
  have k6:∀ b o,b≠x→H4 b=some o→upd H5 x (.ins cZ dx (([("name",V.str nm),("can",V.ref cn),("path",V.int path)]:List (Str×V)) ++ ([("rooms",V.ref rm)]:List (Str×V)))) b=some o:=fun b o nb e=>by rw [upd_ne nb];exact s5 _ _ e
  have hx6:upd H5 x (.ins cZ dx (([("name",V.str nm),("can",V.ref cn),("path",V.int path)]:List (Str×V)) ++ ([("rooms",V.ref rm)]:List (Str×V)))) x=some (.ins cZ dx [("name",V.str nm),("can",V.ref cn),("path",V.int path),("rooms",V.ref rm)]):=upd_same
  generalize upd H5 x (.ins cZ dx (([("name",V.str nm),("can",V.ref cn),("path",V.int path)]:List (Str×V)) ++ ([("rooms",V.ref rm)]:List (Str×V))))=H6 at k6 hx6 ⊢
  have k06:∀ b o,b≠x→H b=some o→H6 b=some o:=fun b o nb e=>k6 b o nb (k04 b o nb e)
  have free6:∀ b,H6 b=none→H b=none:=fun b nb=>by
    cases e:H b with
    | none=>rfl
    | some o =>
      by_cases c:b=x
      · rw [c,hx6] at nb;cases nb
      · rw [k06 b o c e] at nb;cases nb
  refine ⟨_,rfl,fun tr dt ntr ndt nde=>?_⟩
  have ki:∀ b o,H6 b=some o→b≠tr∧upd (upd H6 dt (.own tr)) tr (.ins cQ dt []) b=some o:=fun b o e=>by
    have b1:b≠tr:=ne_of_none e ntr
    exact ⟨b1,by rw [upd_ne b1,upd_ne (ne_of_none e ndt)];exact e⟩
  refine ⟨tr,dt,pp,rs,rfl,upd_same,(ki _ _ (k06 _ _ npx hpp)).2,nd,by omega,fun tr1 tr2 H7 kp7 nr nm' n12 ht7 hr7 hm7=>⟨rfl,?_⟩⟩
  have s7:Same H6 H7:=fun b o e=>kp7 b o (ki b o e).1 (ki b o e).2
  have ntr1:H6 tr1=none:=by
    cases e:H6 tr1 with
    | none=>rfl
    | some o=>rw [(ki _ _ e).2] at nr;cases nr
  have ntr2:H6 tr2=none:=by
    cases e:H6 tr2 with
    | none=>rfl
    | some o=>rw [(ki _ _ e).2] at nm';cases nm'
  refine ⟨_,rfl,x,cZ,dx,_,rfl,s7 _ _ hx6,T.cl_Printer,T.n_Printer_trays,(by show 4 < 1000;decide),?_⟩
  rw [putF_add (by show ¬ ("trays":Str)∈(["name","can","path","rooms"]:List Str);decide +kernel)]
  have hx7:=s7 _ _ hx6
  have ntx:tr≠x:=Ne.symm (ne_of_none hx6 ntr)
  have nt1x:tr1≠x:=Ne.symm (ne_of_none hx6 ntr1)
  have nt2x:tr2≠x:=Ne.symm (ne_of_none hx6 ntr2)
  have k8:∀ b o,b≠x→H7 b=some o→upd H7 x (.ins cZ dx (([("name",V.str nm),("can",V.ref cn),("path",V.int path),("rooms",V.ref rm)]:List (Str×V)) ++ ([("trays",V.ref tr)]:List (Str×V)))) b=some o:=fun b o nb e=>by rw [upd_ne nb];exact e
  have hx8:upd H7 x (.ins cZ dx (([("name",V.str nm),("can",V.ref cn),("path",V.int path),("rooms",V.ref rm)]:List (Str×V)) ++ ([("trays",V.ref tr)]:List (Str×V)))) x=some (.ins cZ dx [("name",V.str nm),("can",V.ref cn),("path",V.int path),("rooms",V.ref rm),("trays",V.ref tr)]):=upd_same
  generalize upd H7 x (.ins cZ dx (([("name",V.str nm),("can",V.ref cn),("path",V.int path),("rooms",V.ref rm)]:List (Str×V)) ++ ([("trays",V.ref tr)]:List (Str×V))))=H8 at k8 hx8 ⊢
  have ht8:=k8 _ _ ntx ht7
  have hr8:=k8 _ _ nt1x hr7
  have hm8:=k8 _ _ nt2x hm7
  have free8:∀ b,H8 b=none→H6 b=none:=fun b nb=>by
    cases e:H6 b with
    | none=>rfl
    | some o =>
      by_cases c:b=x
      · rw [c,hx8] at nb;cases nb
      · rw [k8 b o c (s7 _ _ e)] at nb;cases nb
  refine fun ip nip=>?_
  have s9:=same_new nip (.dK [])
  have h9:upd H8 ip (.dK []) ip=some (.dK []):=upd_same
  refine ⟨_,rfl,_,rfl,h9,[(Sum.inr blW,.int rb),(Sum.inr coW,.int rc)],rfl,(by show 2≤15;decide),?_⟩
  rw [mergeK_new (ks:=[Sum.inr blW,Sum.inr coW]) rfl (by decide +kernel)]
  have s10:Same H8 (upd (upd H8 ip (.dK [])) ip (.dK ([] ++ [((Sum.inr blW:Key),V.int rb),(Sum.inr coW,V.int rc)]))):=same_on nip s9 _
  have h10:upd (upd H8 ip (.dK [])) ip (.dK ([] ++ [((Sum.inr blW:Key),V.int rb),(Sum.inr coW,V.int rc)])) ip=some (.dK (dI (inkL rb rc))):=upd_same
  generalize upd (upd H8 ip (.dK [])) ip (.dK ([] ++ [((Sum.inr blW:Key),V.int rb),(Sum.inr coW,V.int rc)]))=H10 at s10 h10 ⊢
  refine fun ik di nik ndi ndie=>?_
  have kj:∀ b o,H10 b=some o→b≠ik∧upd (upd H10 di (.own ik)) ik (.ins cQ di []) b=some o:=fun b o e=>by
    have b1:b≠ik:=ne_of_none e nik
    exact ⟨b1,by rw [upd_ne b1,upd_ne (ne_of_none e ndi)];exact e⟩
  have ndk:((inkL rb rc).map (·.1)).Nodup:=by
    show [blW,coW].Nodup
    decide +kernel
  refine ⟨ik,di,ip,inkL rb rc,rfl,upd_same,(kj _ _ h10).2,ndk,by show 2≤1000;decide,fun ik1 ik2 H11 kp11 nr1 nm1 n12' hi11 hr11 hm11=>⟨rfl,?_⟩⟩
  have s11:Same H10 H11:=fun b o e=>kp11 b o (kj b o e).1 (kj b o e).2
  have nik1:H10 ik1=none:=by
    cases e:H10 ik1 with
    | none=>rfl
    | some o=>rw [(kj _ _ e).2] at nr1;cases nr1
  have nik2:H10 ik2=none:=by
    cases e:H10 ik2 with
    | none=>rfl
    | some o=>rw [(kj _ _ e).2] at nm1;cases nm1
  have s811:=s10.trans s11
  refine ⟨_,rfl,x,cZ,dx,_,rfl,s811 _ _ hx8,T.cl_Printer,T.n_Printer_inks,(by show 5 < 1000;decide),?_⟩
  rw [putF_add (by show ¬ ("inks":Str)∈(["name","can","path","rooms","trays"]:List Str);decide +kernel)]
  have k12:∀ b o,b≠x→H11 b=some o→upd H11 x (.ins cZ dx (([("name",V.str nm),("can",V.ref cn),("path",V.int path),("rooms",V.ref rm),("trays",V.ref tr)]:List (Str×V)) ++ ([("inks",V.ref ik)]:List (Str×V)))) b=some o:=fun b o nb e=>by rw [upd_ne nb];exact e
  have hx12:upd H11 x (.ins cZ dx (([("name",V.str nm),("can",V.ref cn),("path",V.int path),("rooms",V.ref rm),("trays",V.ref tr)]:List (Str×V)) ++ ([("inks",V.ref ik)]:List (Str×V)))) x=some (.ins cZ dx [("name",V.str nm),("can",V.ref cn),("path",V.int path),("rooms",V.ref rm),("trays",V.ref tr),("inks",V.ref ik)]):=upd_same
  generalize upd H11 x (.ins cZ dx (([("name",V.str nm),("can",V.ref cn),("path",V.int path),("rooms",V.ref rm),("trays",V.ref tr)]:List (Str×V)) ++ ([("inks",V.ref ik)]:List (Str×V))))=H12 at k12 hx12 ⊢
  have hx10:=s10 _ _ hx8
  have nikx:ik≠x:=Ne.symm (ne_of_none hx10 nik)
  have nik1x:ik1≠x:=Ne.symm (ne_of_none hx10 nik1)
  have nik2x:ik2≠x:=Ne.symm (ne_of_none hx10 nik2)
  refine fun st ds nst nds ndse=>⟨st,ds,rfl,upd_same,⟨rfl,?_⟩⟩
  have s13:Same H12 (upd (upd (upd H12 ds (.own st)) st (.ins yJ ds [])) st (.ins yJ ds (fsOf .rd))):=fun b o e=>by
    have b1:b≠st:=ne_of_none e nst
    rw [upd_ne b1,upd_ne b1,upd_ne (ne_of_none e nds)]
    exact e
  have h13:upd (upd (upd H12 ds (.own st)) st (.ins yJ ds [])) st (.ins yJ ds (fsOf .rd)) st=some (.ins yJ ds (fsOf .rd)):=upd_same
  generalize upd (upd (upd H12 ds (.own st)) st (.ins yJ ds [])) st (.ins yJ ds (fsOf .rd))=H13 at s13 h13 ⊢
  refine ⟨_,rfl,x,cZ,dx,_,rfl,s13 _ _ hx12,T.cl_Printer,T.n_Printer_state,(by show 6 < 1000;decide),?_⟩
  rw [putF_add (by show ¬ ("state":Str)∈(["name","can","path","rooms","trays","inks"]:List Str);decide +kernel)]
  have k14:∀ b o,b≠x→H13 b=some o→upd H13 x (.ins cZ dx (([("name",V.str nm),("can",V.ref cn),("path",V.int path),("rooms",V.ref rm),("trays",V.ref tr),("inks",V.ref ik)]:List (Str×V)) ++ ([("state",V.ref st)]:List (Str×V)))) b=some o:=fun b o nb e=>by rw [upd_ne nb];exact e
  have hx14:upd H13 x (.ins cZ dx (([("name",V.str nm),("can",V.ref cn),("path",V.int path),("rooms",V.ref rm),("trays",V.ref tr),("inks",V.ref ik)]:List (Str×V)) ++ ([("state",V.ref st)]:List (Str×V)))) x=some (.ins cZ dx [("name",V.str nm),("can",V.ref cn),("path",V.int path),("rooms",V.ref rm),("trays",V.ref tr),("inks",V.ref ik),("state",V.ref st)]):=upd_same
  generalize upd H13 x (.ins cZ dx (([("name",V.str nm),("can",V.ref cn),("path",V.int path),("rooms",V.ref rm),("trays",V.ref tr),("inks",V.ref ik)]:List (Str×V)) ++ ([("state",V.ref st)]:List (Str×V))))=H14 at k14 hx14 ⊢
  have nstx:st≠x:=Ne.symm (ne_of_none hx12 nst)
  refine ⟨Nat.zero_le _,fun il nil'=>?_⟩
  have s15:=same_new nil' (.lst [])
  have h15:upd H14 il (.lst []) il=some (.lst []):=upd_same
  generalize upd H14 il (.lst [])=H15 at s15 h15 ⊢
  have hx15:=s15 _ _ hx14
  refine ⟨_,rfl,x,cZ,dx,_,rfl,hx15,T.cl_Printer,T.n_Printer_inside,(by show 7 < 1000;decide),?_⟩
  rw [putF_add (by show ¬ ("inside":Str)∈(["name","can","path","rooms","trays","inks","state"]:List Str);decide +kernel)]
  have nilx:il≠x:=Ne.symm (ne_of_none hx14 nil')
  have k16:∀ b o,b≠x→H15 b=some o→upd H15 x (.ins cZ dx (([("name",V.str nm),("can",V.ref cn),("path",V.int path),("rooms",V.ref rm),("trays",V.ref tr),("inks",V.ref ik),("state",V.ref st)]:List (Str×V)) ++ ([("inside",V.ref il)]:List (Str×V)))) b=some o:=fun b o nb e=>by rw [upd_ne nb];exact e
  have hx16:upd H15 x (.ins cZ dx (([("name",V.str nm),("can",V.ref cn),("path",V.int path),("rooms",V.ref rm),("trays",V.ref tr),("inks",V.ref ik),("state",V.ref st)]:List (Str×V)) ++ ([("inside",V.ref il)]:List (Str×V)))) x=some (.ins cZ dx [("name",V.str nm),("can",V.ref cn),("path",V.int path),("rooms",V.ref rm),("trays",V.ref tr),("inks",V.ref ik),("state",V.ref st),("inside",V.ref il)]):=upd_same
  generalize upd H15 x (.ins cZ dx (([("name",V.str nm),("can",V.ref cn),("path",V.int path),("rooms",V.ref rm),("trays",V.ref tr),("inks",V.ref ik),("state",V.ref st)]:List (Str×V)) ++ ([("inside",V.ref il)]:List (Str×V))))=H16 at k16 hx16 ⊢
  have e12:∀ b o,b≠x→H12 b=some o→H16 b=some o:=fun b o nb e=>k16 b o nb (s15 _ _ (k14 b o nb (s13 _ _ e)))
  have e8:∀ b o,b≠x→H8 b=some o→H16 b=some o:=fun b o nb e=>e12 b o nb (k12 b o nb (s811 _ _ e))
  have e6:∀ b o,b≠x→H6 b=some o→H16 b=some o:=fun b o nb e=>e8 b o nb (k8 b o nb (s7 _ _ e))
  have f10:∀ b,H10 b=none→H6 b=none:=fun b nb=>free8 b (s10.free nb)
  have f14:∀ b,H14 b=none→H6 b=none:=fun b nb=>by
    cases e:H6 b with
    | none=>rfl
    | some o =>
      by_cases c:b=x
      · rw [c,hx14] at nb;cases nb
      · rw [k14 b o c (s13 _ _ (k12 b o c (s811 _ _ (k8 b o c (s7 _ _ e)))))] at nb;cases nb
  have hm10:=s10 _ _ hm8
  have hr10:=s10 _ _ hr8
  refine q ⟨dx,cn,rm,tr,tr1,tr2,ik,ik1,ik2,st,ds,il,nm,path,rs,rs.map fun p=>(p.1,0),rb,rc,0,0,[],.rd⟩ H16 (fun b o nb e=>e6 b o nb (k06 b o nb e)) ?_ rfl rfl rfl rfl rfl rfl rfl rfl rfl rfl (free6 _ ntr1) (free6 _ ntr2) (free6 _ (f10 _ nik1)) (free6 _ (f10 _ nik2)) (free6 _ (f14 _ nil'))
  exact { o:=hx16,T:=⟨⟨dt,e8 _ _ ntx ht8⟩,e8 _ _ nt1x hr8,e8 _ _ nt2x hm8,n12⟩,I:=⟨⟨di,e12 _ _ nikx (k12 _ _ nikx hi11)⟩,e12 _ _ nik1x (k12 _ _ nik1x hr11),e12 _ _ nik2x (k12 _ _ nik2x hm11),n12'⟩,s:=k16 _ _ nstx (s15 _ _ (k14 _ _ nstx h13)),n:=k16 _ _ nilx h15,ka:=by rw [List.map_map];rfl,la:=by rw [List.length_map];exact lr,lt:=Nat.zero_le _,n22:=ne_of_none hm10 nik2,n21:=ne_of_none hm10 nik1,n12:=ne_of_none hr10 nik2 }
end
end My
namespace My
open PySem L2
open Blk (sg sg_inj sg_app)
section
variable {P:Program} {w:World} {K:PySem.W.Frag} {mg:Str→Option Value} {base:Heap}
noncomputable def LyC (cO cB cS:Addr):Ly→Addr
  | .one=>cO
  | .both=>cB
  | .up _=>cS
noncomputable def LyAt (cO cB cS:Addr) (H:Hp) (a:Addr) (l:Ly):Prop:=∃ dx,H a=some (.ins (LyC cO cB cS l) dx [("cells",.int (l.cells:Int)),("backs",.bl l.backs)])
theorem LyAt.same {cO cB cS:Addr} {H H':Hp} {a:Addr} {l:Ly} (h:LyAt cO cB cS H a l) (k:Same H H'):LyAt cO cB cS H' a l:=let ⟨dx,e⟩:=h;⟨dx,k _ _ e⟩
noncomputable def SheetAt (H:Hp) (y:V) (s:List Int×List Int):Prop:=∃ t f b,y=.ref t∧H t=some (.tup [.ref f,.ref b])∧H f=some (.lst (s.1.map V.int))∧H b=some (.lst (s.2.map V.int))
noncomputable def SheetF (H0 H:Hp) (y:V) (s:List Int×List Int):Prop:=∃ t f b,y=.ref t∧H t=some (.tup [.ref f,.ref b])∧H f=some (.lst (s.1.map V.int))∧H b=some (.lst (s.2.map V.int))∧H0 t=none∧H0 f=none∧H0 b=none
theorem SheetF.at {H0 H:Hp} {y:V} {s:List Int×List Int} (h:SheetF H0 H y s):SheetAt H y s:=let ⟨t,f,b,e,e1,e2,e3,_⟩:=h;⟨t,f,b,e,e1,e2,e3⟩
theorem SheetF.old {H0 H1 H:Hp} {y:V} {s:List Int×List Int} (h:SheetF H1 H y s) (k:Same H0 H1):SheetF H0 H y s:=let ⟨t,f,b,e,e1,e2,e3,n1,n2,n3⟩:=h;⟨t,f,b,e,e1,e2,e3,k.free n1,k.free n2,k.free n3⟩
noncomputable def SheetsF (H0 H:Hp) (p:Addr) (L:List (List Int×List Int)):Prop:=∃ ys,H p=some (.lst ys)∧ys.length=L.length∧∀ (i:Nat) y s,ys[i]?=some y→L[i]?=some s→SheetF H0 H y s
noncomputable def SheetsAt (H:Hp) (p:Addr) (L:List (List Int×List Int)):Prop:=∃ ys,H p=some (.lst ys)∧ys.length=L.length∧∀ (i:Nat) y s,ys[i]?=some y→L[i]?=some s→SheetAt H y s
theorem SheetAt.same {H H':Hp} {y:V} {s:List Int×List Int} (h:SheetAt H y s) (k:Same H H'):SheetAt H' y s:=let ⟨t,f,b,e,e1,e2,e3⟩:=h;⟨t,f,b,e,k _ _ e1,k _ _ e2,k _ _ e3⟩
theorem made_same {H:Hp} {x dx:Addr} {o o1 o2:HO} (nx:H x=none) (nd:H dx=none):Same H (upd (upd (upd H dx o) x o1) x o2):=by
  rw [upd_upd]
  exact same_on nx (same_new nd _) _
noncomputable def sp_cells_from (K:PySem.W.Frag):Sp:=fun vs H Q _=>∃ (f n:Int) (m:Nat),vs=[.int f,.int (m:Int),.int n]∧-(2 ^ 40)≤f∧f≤2 ^ 40∧m≤900∧∀ p H',Same H H'→H p=none→H' p=some (.lst ((cellsL f m n).map V.int))→Q (.ref p) H'
noncomputable def sp_Layout_init (K:PySem.W.Frag):Sp:=fun vs H Q _=>∃ x dx C c b,vs=[.ref x,c,b]∧H x=some (.ins C dx [])∧Cls K C∧NoAttr K C "cells"∧NoAttr K C "backs"∧Q .non (upd H x (.ins C dx [("cells",c),("backs",b)]))
noncomputable def sp_init0 (C:Addr) (fs:List (Str×V)):Sp:=fun vs H Q _=>∃ x dx,vs=[.ref x]∧H x=some (.ins C dx [])∧Q .non (upd H x (.ins C dx fs))
noncomputable def sp_Several_init (C:Addr):Sp:=fun vs H Q _=>∃ x dx c,vs=[.ref x,c]∧H x=some (.ins C dx [])∧Q .non (upd H x (.ins C dx [("cells",c),("backs",.bl true)]))
noncomputable def sp_per (cO cB cS:Addr):Sp:=fun vs H Q _=>∃ a l,vs=[.ref a]∧Ly.Ok l∧LyAt cO cB cS H a l∧Q (.int (l.per:Int)) H
noncomputable def sp_sheet_from (cO cB cS:Addr):Sp:=fun vs H Q _=>∃ a l f n,vs=[.ref a,.int f,.int n]∧Ly.Ok l∧LyAt cO cB cS H a l∧-(2 ^ 20)≤f∧f≤2 ^ 20∧∀ y H',Same H H'→New H H' (fun H3=>SheetF H H3 y (sheetL l n f))→Q y H'
noncomputable def sp_laid (cO cB cS:Addr):Sp:=fun vs H Q _=>∃ a l,∃ n:Nat,vs=[.ref a,.int (n:Int)]∧Ly.Ok l∧LyAt cO cB cS H a l∧1≤n∧n≤999∧∀ p H',Same H H'→H p=none→SheetsF H H' p (laidL l n)→Q (.ref p) H'
noncomputable def sp_layout_of (cO cB cS:Addr):Sp:=fun vs H Q _=>∃ l,vs=[.str (Ly.text l)]∧Ly.Ok l∧∀ a H',Same H H'→H a=none→LyAt cO cB cS H' a l→Q (.ref a) H'
theorem sc_cells_from:FnScope ["first","many","pages"] ["first","many","pages"] (defScope s_cells_from):=⟨rfl,rfl,rfl,by decide +kernel,rfl,by decide +kernel,by decide +kernel⟩
theorem ok_cells_from {fa yQ yZ yX yY yV yJ yW yU yK yG cQ cZ cV cK cG vQ vZ vX vY:Addr} {fd:FuncData} (F:Fun K "cells_from" "cells_from" s_cells_from fa fd) (T:Txt K mg yQ yZ yX yY yV yJ yW yU yK yG cQ cZ cV cK cG vQ vZ vX vY)  :
    FnOk P w K mg base CX0 1 fa fd ["first","many","pages"] (sp_cells_from K):=by
  refine F.ok sc_cells_from (fun vs H Q E h=>?_) (fun cdv A outer s H vs Q E hr h=>?_)
  · obtain ⟨f,n,m,rfl,_⟩:=h
    rfl
  obtain ⟨f,n,m,rfl,f0,f1,hm,q⟩:=h
  refine ⟨_,(pss_one (ps_ret (pe_comp (frees:=[("pages",2)]) ⟨by decide +kernel,rfl,rfl,by decide +kernel,⟨⟨rfl,rfl,rfl,by decide +kernel⟩,trivial⟩,by decide +kernel,cellsFor_at rfl,rfl⟩ rfl (pi_range2 rfl T.range (pa_cons (pv 0) (pa_cons (pe_op op_add (pv 0) (pv 1)) pa_nil))) (fun _ _ _ _=>pifs_nil) (fun _ _ _ _=>by exact (pe_ifExp (pt_cmpR op_le (pv 0) (pv 1) (nomark _)) (pv 0) (pe_gi T.NOTHING rfl)))))),?_⟩
  refine ⟨_,rfl,_,rfl,_,rfl,_,_,rfl,rfl,_,_,rfl,⟨by omega,by omega,by omega,by omega⟩,?_⟩
  rw [show (f + (m:Int) - f).toNat=m from by omega]
  refine compB_seq (seq_range f m H) (fun _=>true) (fun v=>match v with | .int x=>.int (if x≤n then x else 0) | v=>v) ?_ (fun x hx H' R _ r=>r) (fun x hx H' R sm _ r=>?_) (fun D H' sm hD hH=>?_)
  · rw [List.length_map,List.length_range]
    exact small1000 (by omega)
  · obtain ⟨i,_,rfl⟩:=List.mem_map.mp hx
    refine ⟨_,rfl,_,rfl,_,_,rfl,rfl,_,rfl,?_⟩
    refine ite2 (fun c=>⟨_,rfl,?_⟩) (fun c=>?_)
    · have c':=of_decide_eq_true c
      dsimp only at r
      rw [if_pos c'] at r
      exact r
    · have c':¬ (f + ((i:Nat):Int)≤n):=fun z=>c (decide_eq_true z)
      dsimp only at r
      rw [if_neg c'] at r
      exact r
  · refine q D H' sm hD ?_
    rw [hH,List.filter_eq_self.mpr (fun _ _=>rfl),List.map_map]
    unfold cellsL
    rw [List.map_map]
    rfl
theorem sc_Layout_init:FnScope ["self","cells","backs"] ["self","cells","backs"] (defScope s_Layout_init):=⟨rfl,rfl,rfl,by decide +kernel,rfl,by decide +kernel,by decide +kernel⟩
theorem ok_Layout_init {fa yQ yZ yX yY yV yJ yW yU yK yG cQ cZ cV cK cG vQ vZ vX vY:Addr} {fd:FuncData} (F:Fun K "__init__" "Layout.__init__" s_Layout_init fa fd) (T:Txt K mg yQ yZ yX yY yV yJ yW yU yK yG cQ cZ cV cK cG vQ vZ vX vY)  :
    FnOk P w K mg base CX0 1 fa fd ["self","cells","backs"] (sp_Layout_init K):=by
  refine F.ok sc_Layout_init (fun vs H Q E h=>?_) (fun cdv A outer s H vs Q E hr h=>?_)
  · obtain ⟨x,dx,C,c,b,rfl,_⟩:=h
    rfl
  obtain ⟨x,dx,C,c,b,rfl,hx,cl,n1,n2,q⟩:=h
  refine ⟨_,(pss_cons (ps_fld (pv 0) (pv 1) rfl)
  (pss_one (ps_fld (pv 0) (pv 2) rfl))),?_⟩
  refine ⟨_,rfl,_,rfl,x,C,dx,_,rfl,hx,cl,n1,(by decide),?_⟩
  refine ⟨_,rfl,_,rfl,x,C,dx,_,rfl,upd_same,cl,n2,(by show 1 < 1000;decide),?_⟩
  rw [upd_upd]
  exact q
theorem sc_One_init:FnScope ["self"] ["self"] (defScope s_One_init):=⟨rfl,rfl,rfl,by decide +kernel,rfl,by decide +kernel,by decide +kernel⟩
theorem ok_One_init {fa yQ yZ yX yY yV yJ yW yU yK yG cQ cZ cV cK cG vQ vZ vX vY:Addr} {fd:FuncData} (F:Fun K "__init__" "One.__init__" s_One_init fa fd) (T:Txt K mg yQ yZ yX yY yV yJ yW yU yK yG cQ cZ cV cK cG vQ vZ vX vY) (I_Layout:InD P w K mg base 1 "Layout" yQ ["self","cells","backs"] (sp_Layout_init K)) :
    FnOk P w K mg base CX0 2 fa fd ["self"] (sp_init0 yZ [("cells",.int 1),("backs",.bl false)]):=by
  refine F.ok sc_One_init (fun vs H Q E h=>?_) (fun cdv A outer s H vs Q E hr h=>?_)
  · obtain ⟨x,dx,rfl,_⟩:=h
    rfl
  obtain ⟨x,dx,rfl,hx,q⟩:=h
  refine ⟨_,(pss_one (ps_expr (pe_initD I_Layout (hr.mono (by decide)) rfl (pa_cons (pv 0) (pa_cons pe_int (pa_cons pe_bl pa_nil)))))),?_⟩
  exact ⟨_,rfl,x,dx,_,_,_,rfl,hx,T.cl_One,T.n_One_cells,T.n_One_backs,q⟩
theorem sc_Both_init:FnScope ["self"] ["self"] (defScope s_Both_init):=⟨rfl,rfl,rfl,by decide +kernel,rfl,by decide +kernel,by decide +kernel⟩
theorem ok_Both_init {fa yQ yZ yX yY yV yJ yW yU yK yG cQ cZ cV cK cG vQ vZ vX vY:Addr} {fd:FuncData} (F:Fun K "__init__" "Both.__init__" s_Both_init fa fd) (T:Txt K mg yQ yZ yX yY yV yJ yW yU yK yG cQ cZ cV cK cG vQ vZ vX vY) (I_Layout:InD P w K mg base 1 "Layout" yQ ["self","cells","backs"] (sp_Layout_init K)) :
    FnOk P w K mg base CX0 2 fa fd ["self"] (sp_init0 yX [("cells",.int 1),("backs",.bl true)]):=by
  refine F.ok sc_Both_init (fun vs H Q E h=>?_) (fun cdv A outer s H vs Q E hr h=>?_)
  · obtain ⟨x,dx,rfl,_⟩:=h
    rfl
  obtain ⟨x,dx,rfl,hx,q⟩:=h
  refine ⟨_,(pss_one (ps_expr (pe_initD I_Layout (hr.mono (by decide)) rfl (pa_cons (pv 0) (pa_cons pe_int (pa_cons pe_bl pa_nil)))))),?_⟩
  exact ⟨_,rfl,x,dx,_,_,_,rfl,hx,T.cl_Both,T.n_Both_cells,T.n_Both_backs,q⟩
theorem sc_Several_init:FnScope ["self","many"] ["self","many"] (defScope s_Several_init):=⟨rfl,rfl,rfl,by decide +kernel,rfl,by decide +kernel,by decide +kernel⟩
theorem ok_Several_init {fa yQ yZ yX yY yV yJ yW yU yK yG cQ cZ cV cK cG vQ vZ vX vY:Addr} {fd:FuncData} (F:Fun K "__init__" "Several.__init__" s_Several_init fa fd) (T:Txt K mg yQ yZ yX yY yV yJ yW yU yK yG cQ cZ cV cK cG vQ vZ vX vY) (I_Layout:InD P w K mg base 1 "Layout" yQ ["self","cells","backs"] (sp_Layout_init K)) :
    FnOk P w K mg base CX0 2 fa fd ["self","many"] (sp_Several_init yY):=by
  refine F.ok sc_Several_init (fun vs H Q E h=>?_) (fun cdv A outer s H vs Q E hr h=>?_)
  · obtain ⟨x,dx,c,rfl,_⟩:=h
    rfl
  obtain ⟨x,dx,c,rfl,hx,q⟩:=h
  refine ⟨_,(pss_one (ps_expr (pe_initD I_Layout (hr.mono (by decide)) rfl (pa_cons (pv 0) (pa_cons (pv 1) (pa_cons pe_bl pa_nil)))))),?_⟩
  exact ⟨_,rfl,_,rfl,x,dx,_,_,_,rfl,hx,T.cl_Several,T.n_Several_cells,T.n_Several_backs,q⟩
theorem sc_Layout_per_sheet:FnScope ["self"] ["self"] (defScope s_Layout_per_sheet):=⟨rfl,rfl,rfl,by decide +kernel,rfl,by decide +kernel,by decide +kernel⟩
theorem ok_Layout_per_sheet {fa yQ yZ yX yY yV yJ yW yU yK yG cQ cZ cV cK cG vQ vZ vX vY:Addr} {fd:FuncData} (F:Fun K "per_sheet" "Layout.per_sheet" s_Layout_per_sheet fa fd) (T:Txt K mg yQ yZ yX yY yV yJ yW yU yK yG cQ cZ cV cK cG vQ vZ vX vY)  :
    FnOk P w K mg base CX0 1 fa fd ["self"] (sp_per yZ yX yY):=by
  refine F.ok sc_Layout_per_sheet (fun vs H Q E h=>?_) (fun cdv A outer s H vs Q E hr h=>?_)
  · obtain ⟨a,l,rfl,_⟩:=h
    rfl
  obtain ⟨a,l,rfl,ok,⟨dx,hx⟩,q⟩:=h
  have hc:=Ly.cells_pos ok
  refine ⟨_,(pss_one (ps_ret (pe_ifExp (pt_truth (pe_fld (pv 0) rfl) (fun _=>rfl)) (pe_op op_mul pe_int (pe_fld (pv 0) rfl)) (pe_fld (pv 0) rfl)))),?_⟩
  have cl:Cls K (LyC yZ yX yY l)∧NoAttr K (LyC yZ yX yY l) "cells"∧NoAttr K (LyC yZ yX yY l) "backs":=by
    cases l with
    | one=>exact ⟨T.cl_One,T.n_One_cells,T.n_One_backs⟩
    | both=>exact ⟨T.cl_Both,T.n_Both_cells,T.n_Both_backs⟩
    | up n=>exact ⟨T.cl_Several,T.n_Several_cells,T.n_Several_backs⟩
  refine ⟨_,rfl,a,_,dx,_,_,rfl,hx,cl.1,cl.2.2,rfl,l.backs,rfl,?_⟩
  unfold Ly.per at q
  cases hb:l.backs with
  | true =>
    rw [hb,if_pos rfl] at q
    refine iteT ⟨_,rfl,a,_,dx,_,_,rfl,hx,cl.1,cl.2.1,rfl,_,_,rfl,rfl,.inl ⟨by decide,by decide⟩,?_⟩
    have e:(2:Int) * (l.cells:Int)=((2 * l.cells:Nat):Int):=by omega
    show Q (V.int ((2:Int) * (l.cells:Int))) H
    rw [e]
    exact q
  | false =>
    rw [hb,if_neg (by decide)] at q
    exact iteF ⟨_,rfl,a,_,dx,_,_,rfl,hx,cl.1,cl.2.1,rfl,q⟩
theorem sc_Layout_sheet_from:FnScope ["self","first","pages","front"] ["self","first","pages"] (defScope s_Layout_sheet_from):=⟨rfl,rfl,rfl,by decide +kernel,rfl,by decide +kernel,by decide +kernel⟩
theorem ok_Layout_sheet_from {fa yQ yZ yX yY yV yJ yW yU yK yG cQ cZ cV cK cG vQ vZ vX vY:Addr} {fd:FuncData} (F:Fun K "sheet_from" "Layout.sheet_from" s_Layout_sheet_from fa fd) (T:Txt K mg yQ yZ yX yY yV yJ yW yU yK yG cQ cZ cV cK cG vQ vZ vX vY) (D_cells_from:Dfn P w K mg base 1 "cells_from" ["first","many","pages"] (sp_cells_from K)) :
    FnOk P w K mg base CX0 2 fa fd ["self","first","pages"] (sp_sheet_from yZ yX yY):=by
  refine F.ok sc_Layout_sheet_from (fun vs H Q E h=>?_) (fun cdv A outer s H vs Q E hr h=>?_)
  · obtain ⟨a,l,f,n,rfl,_⟩:=h
    rfl
  obtain ⟨a,l,f,n,rfl,ok,⟨dx,hx⟩,f0,f1,q⟩:=h
  have hc:=Ly.cells_pos ok
  refine ⟨_,(pss_cons (ps_set (i:=3) sc_Layout_sheet_from.nd rfl (by first | exact Or.inl rfl | exact Or.inr rfl) (pe_callD D_cells_from (hr.mono (by decide)) rfl (pa_cons (pv 1) (pa_cons (pe_fld (pv 0) rfl) (pa_cons (pv 2) pa_nil)))))
  (pss_cons (ps_if (pt_truth (pe_fld (pv 0) rfl) (fun _=>rfl)) (pss_one (ps_ret (pe_tup (pa_cons (pv 3) (pa_cons (pe_callD D_cells_from (hr.mono (by decide)) rfl (pa_cons (pe_op op_add (pv 1) (pe_fld (pv 0) rfl)) (pa_cons (pe_fld (pv 0) rfl) (pa_cons (pv 2) pa_nil)))) pa_nil))))) pss_nil)
  (pss_one (ps_ret (pe_tup (pa_cons (pv 3) (pa_cons (pe_op op_rep (pe_lst (pa_cons (pe_gi T.NOTHING rfl) pa_nil)) (pe_fld (pv 0) rfl)) pa_nil))))))),?_⟩
  have cl:Cls K (LyC yZ yX yY l)∧NoAttr K (LyC yZ yX yY l) "cells"∧NoAttr K (LyC yZ yX yY l) "backs":=by
    cases l with
    | one=>exact ⟨T.cl_One,T.n_One_cells,T.n_One_backs⟩
    | both=>exact ⟨T.cl_Both,T.n_Both_cells,T.n_Both_backs⟩
    | up n=>exact ⟨T.cl_Several,T.n_Several_cells,T.n_Several_backs⟩
  refine ⟨_,rfl,_,rfl,a,_,dx,_,_,rfl,hx,cl.1,cl.2.1,rfl,_,rfl,f,n,l.cells,rfl,by omega,by omega,by omega,fun p H1 s1 np hp=>?_⟩
  have hx1:=s1 _ _ hx
  refine ⟨_,rfl,a,_,dx,_,_,rfl,hx1,cl.1,cl.2.2,rfl,l.backs,rfl,?_⟩
  have fin:∀ (b:Addr) (H2:Hp) (bs:List Int),Same H1 H2→H1 b=none→H2 b=some (.lst (bs.map V.int))→(sheetL l n f).2=bs→∀ t,H2 t=none→Q (.ref t) (upd H2 t (.tup [.ref p,.ref b])):=fun b H2 bs s2 nb hb eb t nt=>by
    have hp2:=s2 _ _ hp
    refine q _ _ ((s1.trans s2).trans (same_new nt _)) ⟨fun z=>z=t∨z=p∨z=b,?_,fun H3 h3=>⟨t,p,b,rfl,?_,?_,?_,(s1.trans s2).free nt,np,s1.free nb⟩⟩
    · rintro z (rfl | rfl | rfl)
      · exact ⟨(s1.trans s2).free nt,_,upd_same⟩
      · exact ⟨np,_,by rw [upd_ne (ne_of_none hp2 nt)];exact hp2⟩
      · exact ⟨s1.free nb,_,by rw [upd_ne (ne_of_none hb nt)];exact hb⟩
    · rw [h3 t (.inl rfl)];exact upd_same
    · rw [h3 p (.inr (.inl rfl)),upd_ne (ne_of_none hp2 nt)];exact hp2
    · rw [h3 b (.inr (.inr rfl)),upd_ne (ne_of_none hb nt),eb];exact hb
  cases hb:l.backs with
  | true =>
    refine iteT ⟨_,rfl,_,rfl,_,rfl,a,_,dx,_,_,rfl,hx1,cl.1,cl.2.1,rfl,_,_,rfl,rfl,_,rfl,a,_,dx,_,_,rfl,hx1,cl.1,cl.2.1,rfl,_,rfl,f + (l.cells:Int),n,l.cells,rfl,by omega,by omega,by omega,fun b H2 s2 nb hb2=>⟨small (by show 2≤1000;decide),fun t nt=>?_⟩⟩
    exact fin b H2 _ s2 nb hb2 (by unfold sheetL;rw [hb,if_pos rfl]) t nt
  | false =>
    refine iteF ⟨_,rfl,small (by show 1≤1000;decide),fun z nz=>⟨_,rfl,a,_,dx,_,_,rfl,(same_new nz _ _ _ hx1),cl.1,cl.2.1,rfl,z,_,_,rfl,rfl,upd_same,by omega,by omega,?_,fun b nb=>⟨small (by show 2≤1000;decide),fun t nt=>?_⟩⟩⟩
    · refine Nat.le_of_lt (small1000 ?_)
      show 1 * ((l.cells:Int).toNat)≤1000
      omega
    · refine fin b _ (List.replicate l.cells 0) ((same_new nz _).trans (same_new nb _)) ((same_new nz _).free nb) ?_ (by unfold sheetL;rw [hb,if_neg (by decide)]) t nt
      rw [upd_same]
      congr 2
      rw [Int.toNat_natCast]
      clear fin q
      induction l.cells with
      | zero=>rfl
      | succ k ih=>rw [List.replicate_succ,List.replicate_succ,List.flatten_cons,List.map_cons,ih];rfl
theorem sc_Layout_laid:FnScope ["self","pages"] ["self","pages"] (defScope s_Layout_laid):=⟨rfl,rfl,rfl,by decide +kernel,rfl,by decide +kernel,by decide +kernel⟩
theorem ok_Layout_laid {fa yQ yZ yX yY yV yJ yW yU yK yG cQ cZ cV cK cG vQ vZ vX vY:Addr} {fd:FuncData} (F:Fun K "laid" "Layout.laid" s_Layout_laid fa fd) (T:Txt K mg yQ yZ yX yY yV yJ yW yU yK yG cQ cZ cV cK cG vQ vZ vX vY) (D_One_per_sheet:MtE P w K mg base 1 "per_sheet" yZ ["self"] (sp_per yZ yX yY)) (D_Both_per_sheet:MtE P w K mg base 1 "per_sheet" yX ["self"] (sp_per yZ yX yY)) (D_Several_per_sheet:MtE P w K mg base 1 "per_sheet" yY ["self"] (sp_per yZ yX yY)) (D_One_sheet_from:MtE P w K mg base 2 "sheet_from" yZ ["self","first","pages"] (sp_sheet_from yZ yX yY)) (D_Both_sheet_from:MtE P w K mg base 2 "sheet_from" yX ["self","first","pages"] (sp_sheet_from yZ yX yY)) (D_Several_sheet_from:MtE P w K mg base 2 "sheet_from" yY ["self","first","pages"] (sp_sheet_from yZ yX yY)) :
    FnOk P w K mg base CX0 3 fa fd ["self","pages"] (sp_laid yZ yX yY):=by
  refine F.ok sc_Layout_laid (fun vs H Q E h=>?_) (fun cdv A outer s H vs Q E hr h=>?_)
  · obtain ⟨a,l,n,rfl,_⟩:=h
    rfl
  obtain ⟨a,l,n,rfl,ok,hl,n0,n1,q⟩:=h
  have hp:=Ly.per_pos ok
  refine ⟨_,(pss_one (ps_ret (pe_comp (frees:=[("pages",1),("self",0)]) ⟨by decide +kernel,rfl,rfl,by decide +kernel,⟨⟨rfl,rfl,rfl,by decide +kernel⟩,⟨⟨rfl,rfl,rfl,by decide +kernel⟩,trivial⟩⟩,by decide +kernel,cellsFor_at rfl,rfl⟩ rfl (pi_range3 rfl T.range (pa_cons (pe_gi T.FIRST_PAGE rfl) (pa_cons (pe_op op_add (pv 1) pe_int) (pa_cons (pe_methE0 1 passE0 (hr.mono (by decide)) (pv 0)) pa_nil)))) (fun _ _ _ _=>pifs_nil) (fun _ _ _ _=>by exact (pe_methEK (P:=P) (w:=w) (K:=K) (mg:=mg) (base:=base) ⟨rfl,rfl,rfl,rfl,rfl⟩ 2 passE0 (hr.mono (by decide)) (pv 2) (pa_cons (pv 0) (pa_cons (pv 1) pa_nil))))))),?_⟩
  obtain ⟨dx,hx⟩:=id hl
  have cl:Cls K (LyC yZ yX yY l):=by
    cases l with
    | one=>exact T.cl_One
    | both=>exact T.cl_Both
    | up n=>exact T.cl_Several
  have D1:MtE P w K mg base 1 "per_sheet" (LyC yZ yX yY l) ["self"] (sp_per yZ yX yY):=by
    cases l with
    | one=>exact D_One_per_sheet
    | both=>exact D_Both_per_sheet
    | up n=>exact D_Several_per_sheet
  have D2:MtE P w K mg base 2 "sheet_from" (LyC yZ yX yY l) ["self","first","pages"] (sp_sheet_from yZ yX yY):=by
    cases l with
    | one=>exact D_One_sheet_from
    | both=>exact D_Both_sheet_from
    | up n=>exact D_Several_sheet_from
  refine ⟨_,rfl,_,_,rfl,rfl,_,rfl,a,_,dx,_,_,_,rfl,hx,rfl,cl,D1,a,l,rfl,ok,hl,_,_,_,rfl,⟨by decide,by decide,by omega,by omega,by omega,by omega⟩,?_⟩
  have hm:(n - 1) / l.per * l.per≤n - 1:=Nat.div_mul_le_self _ _
  have hm2:(n - 1) / l.per≤n - 1:=Nat.div_le_self _ _
  have ec:(if (1:Int) < (n:Int) + 1 then ((n:Int) + 1 - 1 - 1) / (l.per:Int) + 1 else 0).toNat=cntL l n:=by
    rw [if_pos (by omega),show (n:Int) + 1 - 1 - 1=((n - 1:Nat):Int) from by omega,← Int.natCast_ediv]
    unfold cntL
    generalize (n - 1) / l.per=z
    omega
  rw [ec]
  refine compB_mk (seq_rangeS 1 (l.per:Int) (cntL l n) H) (fun x y H3=>∃ f:Int,x=.int f∧SheetF H H3 y (sheetL l n f)) ?_ (fun x hx' H' R _ r=>r) (fun x hx' H' R sm r=>?_) (fun D H' ys sm hD hH hl' hg=>?_)
  · rw [List.length_map,List.length_range]
    unfold cntL
    exact small1000 (by omega)
  · obtain ⟨i,hi,rfl⟩:=List.mem_map.mp hx'
    have hi':i < (n - 1) / l.per + 1:=List.mem_range.mp hi
    have hb:i * l.per≤(n - 1) / l.per * l.per:=Nat.mul_le_mul_right _ (by omega)
    have hb2:((i:Nat):Int) * (l.per:Int)=((i * l.per:Nat):Int):=by rw [Int.natCast_mul]
    refine ⟨_,rfl,a,_,dx,_,_,_,rfl,sm _ _ hx,rfl,cl,D2,_,rfl,_,rfl,a,l,_,_,rfl,ok,hl.same sm,by omega,by omega,fun y H'' s2 nw=>r y H'' s2 ?_⟩
    obtain ⟨Z,z1,z2⟩:=nw
    exact ⟨Z,z1,fun H3 h3=>⟨_,rfl,(z2 H3 h3).old sm⟩⟩
  · refine q D H' sm hD ⟨ys,hH,?_,fun i y s ey es=>?_⟩
    · rw [hl']
      unfold laidL
      simp only [List.length_range,List.length_map]
    · have hi:i < cntL l n:=by
        have:=(List.getElem?_eq_some_iff.mp ey).1
        rw [hl',List.length_map,List.length_range] at this
        exact this
      unfold laidL at es
      rw [List.getElem?_map,List.getElem?_range hi] at es
      obtain rfl:=Option.some.inj es
      obtain ⟨f,ef,g⟩:=hg i _ y (by rw [List.getElem?_map,List.getElem?_range hi];rfl) ey
      cases ef
      exact g
theorem sc_layout_of:FnScope ["text"] ["text"] (defScope s_layout_of):=⟨rfl,rfl,rfl,by decide +kernel,rfl,by decide +kernel,by decide +kernel⟩
theorem ok_layout_of {fa yQ yZ yX yY yV yJ yW yU yK yG cQ cZ cV cK cG vQ vZ vX vY:Addr} {fd:FuncData} (F:Fun K "layout_of" "layout_of" s_layout_of fa fd) (T:Txt K mg yQ yZ yX yY yV yJ yW yU yK yG cQ cZ cV cK cG vQ vZ vX vY) (M_Several:MkD P w K mg base 2 "Several" yY ["self","many"] (sp_Several_init yY)) (M_One:MkD P w K mg base 2 "One" yZ ["self"] (sp_init0 yZ [("cells",.int 1),("backs",.bl false)])) (M_Both:MkD P w K mg base 2 "Both" yX ["self"] (sp_init0 yX [("cells",.int 1),("backs",.bl true)])) :
    FnOk P w K mg base CX0 4 fa fd ["text"] (sp_layout_of yZ yX yY):=by
  refine F.ok sc_layout_of (fun vs H Q E h=>?_) (fun cdv A outer s H vs Q E hr h=>?_)
  · obtain ⟨l,rfl,_⟩:=h
    rfl
  obtain ⟨l,rfl,ok,q⟩:=h
  refine ⟨_,(pss_cons (ps_if (pt_cmpR op_eq (pv 0) pe_str (nomark _)) (pss_one (ps_ret (pe_makeD0 M_One (hr.mono (by decide)) rfl))) pss_nil)
  (pss_cons (ps_if (pt_cmpR op_eq (pv 0) pe_str (nomark _)) (pss_one (ps_ret (pe_makeD0 M_Both (hr.mono (by decide)) rfl))) pss_nil)
  (pss_one (ps_ret (pe_makeD M_Several (hr.mono (by decide)) rfl (pa_cons (pe_callTy call_int_text rfl T.int bt_int (pa_cons (pe_slice sl_str (pv 0) (po_some (pe_callB call_len_str rfl T.len PySem.boot_len (pa_cons (pe_gs T.UP rfl) pa_nil))) po_none) pa_nil)) pa_nil)))))),?_⟩
  refine ⟨_,rfl,rfl,_,rfl,?_⟩
  cases l with
  | one=>exact iteYes rfl fun x dx nx nd ne=>⟨x,dx,rfl,upd_same,rfl,q x _ (made_same nx nd) nx ⟨dx,upd_same⟩⟩
  | both=>exact iteNo (by decide +kernel) ⟨_,rfl,rfl,_,rfl,iteYes rfl fun x dx nx nd ne=>⟨x,dx,rfl,upd_same,rfl,q x _ (made_same nx nd) nx ⟨dx,upd_same⟩⟩⟩
  | up n =>
    obtain ⟨u1,u2,u3,u4,u5⟩:=up_one ok.1 ok.2
    have l3:(((Str.ofString "up:").length:Nat):Int)=3:=by decide +kernel
    refine iteNo (by intro z;injection z with z;exact u3 z) ⟨_,rfl,rfl,_,rfl,iteNo (by intro z;injection z with z;exact u4 z) ?_⟩
    refine ⟨_,rfl,_,rfl,(by decide +kernel),_,rfl,_,rfl,small (Nat.le_trans u5 (by decide)),?_⟩
    rw [l3]
    exact ⟨_,_,rfl,u1,Nat.le_trans u2 (by decide),fun x dx nx nd ne=>⟨x,dx,_,rfl,upd_same,rfl,q x _ (made_same nx nd) nx ⟨dx,upd_same⟩⟩⟩
end
end My
namespace My
open PySem L2
open Blk (sg sg_inj sg_app)
section
variable {P:Program} {w:World} {K:PySem.W.Frag} {mg:Str→Option Value} {base:Heap}
noncomputable def sp_Job_init (C:Addr):Sp:=fun vs H Q _=>∃ (x dx:Addr) (a b c d e f g h i j:V),vs=[.ref x,a,b,c,d,e,f,g,h,i,j]∧H x=some (.ins C dx [])∧Q .non (upd H x (.ins C dx (jobF a b c d e f g h i j)))
theorem jF0 (a b c d e f g h i j:V):(jobF a b c d e f g h i j).lookup ("name":Str)=some a:=rfl
theorem jF2 (a b c d e f g h i j:V):(jobF a b c d e f g h i j).lookup ("pages":Str)=some c:=rfl
theorem jF3 (a b c d e f g h i j:V):(jobF a b c d e f g h i j).lookup ("copies":Str)=some d:=rfl
theorem jF4 (a b c d e f g h i j:V):(jobF a b c d e f g h i j).lookup ("layout":Str)=some e:=rfl
theorem jF5 (a b c d e f g h i j:V):(jobF a b c d e f g h i j).lookup ("paper":Str)=some f:=rfl
theorem jF6 (a b c d e f g h i j:V):(jobF a b c d e f g h i j).lookup ("cover":Str)=some g:=rfl
theorem jF7 (a b c d e f g h i j:V):(jobF a b c d e f g h i j).lookup ("colour":Str)=some h:=rfl
theorem sc_Job_init:FnScope ["self","name","asker","pages","copies","layout","paper","cover","colour","staple","after"] ["self","name","asker","pages","copies","layout","paper","cover","colour","staple","after"] (defScope s_Job_init):=⟨rfl,rfl,rfl,by decide +kernel,rfl,by decide +kernel,by decide +kernel⟩
theorem ok_Job_init {fa yQ yZ yX yY yV yJ yW yU yK yG cQ cZ cV cK cG vQ vZ vX vY:Addr} {fd:FuncData} (F:Fun K "__init__" "Job.__init__" s_Job_init fa fd) (T:Txt K mg yQ yZ yX yY yV yJ yW yU yK yG cQ cZ cV cK cG vQ vZ vX vY)  :
    FnOk P w K mg base CX0 1 fa fd ["self","name","asker","pages","copies","layout","paper","cover","colour","staple","after"] (sp_Job_init yG):=by
  refine F.ok sc_Job_init (fun vs H Q E h=>?_) (fun cdv A outer s H vs Q E hr h=>?_)
  · obtain ⟨x,dx,a,b,c,d,e,f,g,h,i,j,rfl,_⟩:=h
    rfl
  obtain ⟨x,dx,a,b,c,d,e,f,g,h,i,j,rfl,hx,q⟩:=h
  refine ⟨_,(pss_cons (ps_fld (pv 0) (pv 1) rfl)
  (pss_cons (ps_fld (pv 0) (pv 2) rfl)
  (pss_cons (ps_fld (pv 0) (pv 3) rfl)
  (pss_cons (ps_fld (pv 0) (pv 4) rfl)
  (pss_cons (ps_fld (pv 0) (pv 5) rfl)
  (pss_cons (ps_fld (pv 0) (pv 6) rfl)
  (pss_cons (ps_fld (pv 0) (pv 7) rfl)
  (pss_cons (ps_fld (pv 0) (pv 8) rfl)
  (pss_cons (ps_fld (pv 0) (pv 9) rfl)
  (pss_one (ps_fld (pv 0) (pv 10) rfl))))))))))),?_⟩
  refine ⟨_,rfl,_,rfl,x,yG,dx,_,rfl,hx,T.cl_Job,T.n_Job_name,(by show 0 < 1000;decide),?_⟩
  rw [putF_new (by show ¬ ("name":Str)∈([]:List Str);decide +kernel)]
  refine ⟨_,rfl,_,rfl,x,yG,dx,_,rfl,upd_same,T.cl_Job,T.n_Job_asker,(by show 1 < 1000;decide),?_⟩
  rw [upd_upd,putF_new (by show ¬ ("asker":Str)∈(["name"]:List Str);decide +kernel)]
  refine ⟨_,rfl,_,rfl,x,yG,dx,_,rfl,upd_same,T.cl_Job,T.n_Job_pages,(by show 2 < 1000;decide),?_⟩
  rw [upd_upd,putF_new (by show ¬ ("pages":Str)∈(["name","asker"]:List Str);decide +kernel)]
  refine ⟨_,rfl,_,rfl,x,yG,dx,_,rfl,upd_same,T.cl_Job,T.n_Job_copies,(by show 3 < 1000;decide),?_⟩
  rw [upd_upd,putF_new (by show ¬ ("copies":Str)∈(["name","asker","pages"]:List Str);decide +kernel)]
  refine ⟨_,rfl,_,rfl,x,yG,dx,_,rfl,upd_same,T.cl_Job,T.n_Job_layout,(by show 4 < 1000;decide),?_⟩
  rw [upd_upd,putF_new (by show ¬ ("layout":Str)∈(["name","asker","pages","copies"]:List Str);decide +kernel)]
  refine ⟨_,rfl,_,rfl,x,yG,dx,_,rfl,upd_same,T.cl_Job,T.n_Job_paper,(by show 5 < 1000;decide),?_⟩
  rw [upd_upd,putF_new (by show ¬ ("paper":Str)∈(["name","asker","pages","copies","layout"]:List Str);decide +kernel)]
  refine ⟨_,rfl,_,rfl,x,yG,dx,_,rfl,upd_same,T.cl_Job,T.n_Job_cover,(by show 6 < 1000;decide),?_⟩
  rw [upd_upd,putF_new (by show ¬ ("cover":Str)∈(["name","asker","pages","copies","layout","paper"]:List Str);decide +kernel)]
  refine ⟨_,rfl,_,rfl,x,yG,dx,_,rfl,upd_same,T.cl_Job,T.n_Job_colour,(by show 7 < 1000;decide),?_⟩
  rw [upd_upd,putF_new (by show ¬ ("colour":Str)∈(["name","asker","pages","copies","layout","paper","cover"]:List Str);decide +kernel)]
  refine ⟨_,rfl,_,rfl,x,yG,dx,_,rfl,upd_same,T.cl_Job,T.n_Job_staple,(by show 8 < 1000;decide),?_⟩
  rw [upd_upd,putF_new (by show ¬ ("staple":Str)∈(["name","asker","pages","copies","layout","paper","cover","colour"]:List Str);decide +kernel)]
  refine ⟨_,rfl,_,rfl,x,yG,dx,_,rfl,upd_same,T.cl_Job,T.n_Job_after,(by show 9 < 1000;decide),?_⟩
  rw [upd_upd,putF_new (by show ¬ ("after":Str)∈(["name","asker","pages","copies","layout","paper","cover","colour","staple"]:List Str);decide +kernel)]
  exact q
end
end My
namespace My
open PySem L2
open Blk (sg sg_inj sg_app)
section
variable {P:Program} {w:World} {K:PySem.W.Frag} {mg:Str→Option Value} {base:Heap}
structure Jv where
  n:Nat
  l:Ly
  paper:Str
  cover:Option Str
  colour:Option (Int×Int)
noncomputable def Jv.Ok (j:Jv):Prop:=1≤j.n∧j.n≤999∧Ly.Ok j.l
noncomputable def oV:Option Str→V
  | some z=>.str z
  | none=>.non
noncomputable def ColAt (H:Hp) (v:V):Option (Int×Int)→Prop
  | none=>v=.non
  | some c=>∃ t,v=.ref t∧H t=some (.tup [.int c.1,.int c.2])
theorem ColAt.same {H H':Hp} {v:V} {c:Option (Int×Int)} (h:ColAt H v c) (k:Same H H'):ColAt H' v c:=by
  cases c with
  | none=>exact h
  | some c=>obtain ⟨t,e,g⟩:=h;exact ⟨t,e,k _ _ g⟩
noncomputable def JO (C:Addr) (H:Hp) (x:Addr) (j:Jv):Prop:=∃ dx a b d i k cv,H x=some (.ins C dx (jobF a b (.int (j.n:Int)) d (.str (Ly.text j.l)) (.str j.paper) (oV j.cover) cv i k))∧ColAt H cv j.colour
noncomputable def isCol (c:Option (Int×Int)) (x:Int):Bool:=match c with
  | none=>false
  | some c=>decide (c.1≤x) && decide (x≤c.2)
noncomputable def printedL (s:List Int×List Int):List Int:=(s.1 ++ s.2).filter fun x=>decide (x≠0)
noncomputable def inkS (s:List Int×List Int) (c:Option (Int×Int)):Int×Int:=(((printedL s).length:Int) - (((printedL s).filter (isCol c)).length:Int),(((printedL s).filter (isCol c)).length:Int))
noncomputable def sp_sheets_of (cJ:Addr):Sp:=fun vs H Q _=>∃ x j,vs=[.ref x]∧JO cJ H x j∧j.Ok∧∀ p H',Same H H'→H p=none→SheetsF H H' p (laidL j.l j.n)→Q (.ref p) H'
noncomputable def sp_paper_of (cJ:Addr):Sp:=fun vs H Q _=>∃ x j,∃ s:Int,vs=[.ref x,.int s]∧JO cJ H x j∧Q (.str (if s=0 then j.cover.getD j.paper else j.paper)) H
noncomputable def sp_ink_of (K:PySem.W.Frag):Sp:=fun vs H Q _=>∃ (t:V) (cv:V) (s:List Int×List Int) (c:Option (Int×Int)),vs=[t,cv]∧SheetAt H t s∧s.1.length≤100∧s.2.length≤100∧ColAt H cv c∧∀ p H',Same H H'→H p=none→H' p=some (.tup [.int (inkS s c).1,.int (inkS s c).2])→Q (.ref p) H'
noncomputable def sp_is_coloured (K:PySem.W.Frag):Sp:=fun vs H Q _=>∃ (x:Int) (cv:V) (c:Option (Int×Int)),vs=[.int x,cv]∧ColAt H cv c∧Q (.bl (isCol c x)) H
theorem LyD {K:PySem.W.Frag} {cO cB cS:Addr} {M:Addr→Prop} (l:Ly) (h0:M cO) (h1:M cB) (h2:M cS):M (LyC cO cB cS l):=by
  cases l with
  | one=>exact h0
  | both=>exact h1
  | up n=>exact h2
theorem sc_sheets_of:FnScope ["job"] ["job"] (defScope s_sheets_of):=⟨rfl,rfl,rfl,by decide +kernel,rfl,by decide +kernel,by decide +kernel⟩
theorem ok_sheets_of {fa yQ yZ yX yY yV yJ yW yU yK yG cQ cZ cV cK cG vQ vZ vX vY:Addr} {fd:FuncData} (F:Fun K "sheets_of" "sheets_of" s_sheets_of fa fd) (T:Txt K mg yQ yZ yX yY yV yJ yW yU yK yG cQ cZ cV cK cG vQ vZ vX vY) (D_layout_of:Dfn P w K mg base 4 "layout_of" ["text"] (sp_layout_of yZ yX yY)) (D_One_laid:MtE P w K mg base 3 "laid" yZ ["self","pages"] (sp_laid yZ yX yY)) (D_Both_laid:MtE P w K mg base 3 "laid" yX ["self","pages"] (sp_laid yZ yX yY)) (D_Several_laid:MtE P w K mg base 3 "laid" yY ["self","pages"] (sp_laid yZ yX yY)) :
    FnOk P w K mg base CX0 5 fa fd ["job"] (sp_sheets_of yG):=by
  refine F.ok sc_sheets_of (fun vs H Q E h=>?_) (fun cdv A outer s H vs Q E hr h=>?_)
  · obtain ⟨x,j,rfl,_⟩:=h
    rfl
  obtain ⟨x,j,rfl,⟨dx,a,b,d,i,k,cv,hx,_⟩,⟨n0,n1,ok⟩,q⟩:=h
  refine ⟨_,(pss_one (ps_ret (pe_methE 3 passE0 (hr.mono (by decide)) (pe_callD D_layout_of (hr.mono (by decide)) rfl (pa_cons (pe_fld (pv 0) rfl) pa_nil)) (pa_cons (pe_fld (pv 0) rfl) pa_nil)))),?_⟩
  refine ⟨_,rfl,x,yG,dx,_,_,rfl,hx,T.cl_Job,T.n_Job_layout,jF4 _ _ _ _ _ _ _ _ _ _,j.l,rfl,ok,fun y H1 s1 ny Y=>?_⟩
  obtain ⟨dy,hy⟩:=id Y
  refine ⟨y,_,dy,_,_,_,rfl,hy,rfl,LyD (K:=K) (M:=fun C=>Cls K C) j.l T.cl_One T.cl_Both T.cl_Several,LyD (K:=K) (M:=fun C=>MtE P w K mg base 3 "laid" C ["self","pages"] (sp_laid yZ yX yY)) j.l D_One_laid D_Both_laid D_Several_laid,?_⟩
  exact ⟨_,rfl,x,yG,dx,_,_,rfl,s1 _ _ hx,T.cl_Job,T.n_Job_pages,jF2 _ _ _ _ _ _ _ _ _ _,y,j.l,j.n,rfl,ok,Y,n0,n1,fun p H' s2 np SF=>q p H' (s1.trans s2) (s1.free np) (let ⟨ys,e1,e2,g⟩:=SF;⟨ys,e1,e2,fun i y s h1 h2=>(g i y s h1 h2).old s1⟩)⟩
theorem sc_paper_of:FnScope ["job","sheet"] ["job","sheet"] (defScope s_paper_of):=⟨rfl,rfl,rfl,by decide +kernel,rfl,by decide +kernel,by decide +kernel⟩
theorem ok_paper_of {fa yQ yZ yX yY yV yJ yW yU yK yG cQ cZ cV cK cG vQ vZ vX vY:Addr} {fd:FuncData} (F:Fun K "paper_of" "paper_of" s_paper_of fa fd) (T:Txt K mg yQ yZ yX yY yV yJ yW yU yK yG cQ cZ cV cK cG vQ vZ vX vY)  :
    FnOk P w K mg base CX0 1 fa fd ["job","sheet"] (sp_paper_of yG):=by
  refine F.ok sc_paper_of (fun vs H Q E h=>?_) (fun cdv A outer s H vs Q E hr h=>?_)
  · obtain ⟨x,j,s,rfl,_⟩:=h
    rfl
  obtain ⟨x,j,s,rfl,⟨dx,a,b,d,i,k,cv,hx,_⟩,q⟩:=h
  refine ⟨_,(pss_cons (ps_if (PW.pt (pw_and (pt_cmpR op_eq (pv 1) (pe_gi T.COVER_SHEET rfl) (nomark _)) (pw_and1 (pt_cmpR op_notN (pe_fld (pv 0) rfl) pe_non (nomark _))))) (pss_one (ps_ret (pe_fld (pv 0) rfl))) pss_nil)
  (pss_one (ps_ret (pe_fld (pv 0) rfl)))),?_⟩
  refine ⟨_,rfl,rfl,_,rfl,?_⟩
  by_cases hs:s=0
  · subst hs
    rw [if_pos rfl] at q
    refine iteYes rfl ?_
    refine ⟨_,rfl,x,yG,dx,_,_,rfl,hx,T.cl_Job,T.n_Job_cover,jF6 _ _ _ _ _ _ _ _ _ _,(by cases j.cover <;> rfl),_,rfl,?_⟩
    cases e:j.cover with
    | none =>
      rw [e] at q
      exact iteF ⟨_,rfl,x,yG,dx,_,_,rfl,hx,T.cl_Job,T.n_Job_paper,jF5 _ _ _ _ _ _ _ _ _ _,q⟩
    | some z =>
      rw [e] at q hx
      exact iteT ⟨_,rfl,x,yG,dx,_,_,rfl,hx,T.cl_Job,T.n_Job_cover,jF6 _ _ _ _ _ _ _ _ _ _,q⟩
  · rw [if_neg hs] at q
    exact iteNo (by intro z;injection z with z;exact hs z) (iteF ⟨_,rfl,x,yG,dx,_,_,rfl,hx,T.cl_Job,T.n_Job_paper,jF5 _ _ _ _ _ _ _ _ _ _,q⟩)
theorem sc_is_coloured:FnScope ["page","colour"] ["page","colour"] (defScope s_is_coloured):=⟨rfl,rfl,rfl,by decide +kernel,rfl,by decide +kernel,by decide +kernel⟩
theorem ok_is_coloured {fa yQ yZ yX yY yV yJ yW yU yK yG cQ cZ cV cK cG vQ vZ vX vY:Addr} {fd:FuncData} (F:Fun K "is_coloured" "is_coloured" s_is_coloured fa fd) (T:Txt K mg yQ yZ yX yY yV yJ yW yU yK yG cQ cZ cV cK cG vQ vZ vX vY)  :
    FnOk P w K mg base CX0 1 fa fd ["page","colour"] (sp_is_coloured K):=by
  refine F.ok sc_is_coloured (fun vs H Q E h=>?_) (fun cdv A outer s H vs Q E hr h=>?_)
  · obtain ⟨x,cv,c,rfl,_⟩:=h
    rfl
  obtain ⟨x,cv,c,rfl,hc,q⟩:=h
  refine ⟨_,(pss_one (ps_ret (pe_and (pe_cmpR op_notN (pv 1) pe_non (nomark _)) (pe_one (pe_chain op_le op_le (pe_ix ix_tup (pv 1) pe_int (fun _ _=>rfl)) (pv 0) (pe_ix ix_tup (pv 1) pe_int (fun _ _=>rfl))))))),?_⟩
  cases c with
  | none =>
    have e:cv=.non:=hc
    subst e
    exact ⟨_,rfl,rfl,false,rfl,iteF q⟩
  | some c =>
    obtain ⟨t,rfl,ht⟩:=hc
    refine ⟨_,rfl,rfl,true,rfl,iteT ?_⟩
    refine ⟨_,rfl,t,_,_,_,rfl,rfl,SqT.of ht,atI_nat (j:=0) rfl,_,rfl,_,_,rfl,rfl,decide (c.1≤x),rfl,?_⟩
    have e:isCol (some c) x=(decide (c.1≤x) && decide (x≤c.2)):=rfl
    rw [e] at q
    cases h1:decide (c.1≤x) with
    | false =>
      rw [h1] at q
      exact iteF q
    | true =>
      rw [h1] at q
      exact iteT ⟨_,rfl,t,_,_,_,rfl,rfl,SqT.of ht,atI_nat (j:=1) rfl,_,_,rfl,rfl,q⟩
theorem fil_ints (xs:List Int) (p:Int→Bool):(((xs.map V.int).filter fun v=>match v with | .int x=>p x | _=>false).map fun v=>v)=(xs.filter p).map V.int:=by
  rw [List.map_id']
  induction xs with
  | nil=>rfl
  | cons x r ih =>
    rw [List.map_cons,List.filter_cons,List.filter_cons]
    dsimp only
    by_cases h:p x=true
    · rw [if_pos h,if_pos h,List.map_cons,ih]
    · rw [if_neg h,if_neg h,ih]
theorem sc_ink_of:FnScope ["sheet","colour","printed","coloured"] ["sheet","colour"] (defScope s_ink_of):=⟨rfl,rfl,rfl,by decide +kernel,rfl,by decide +kernel,by decide +kernel⟩
theorem ok_ink_of {fa yQ yZ yX yY yV yJ yW yU yK yG cQ cZ cV cK cG vQ vZ vX vY:Addr} {fd:FuncData} (F:Fun K "ink_of" "ink_of" s_ink_of fa fd) (T:Txt K mg yQ yZ yX yY yV yJ yW yU yK yG cQ cZ cV cK cG vQ vZ vX vY) (D_is_coloured:Dfn P w K mg base 1 "is_coloured" ["page","colour"] (sp_is_coloured K)) :
    FnOk P w K mg base CX0 2 fa fd ["sheet","colour"] (sp_ink_of K):=by
  refine F.ok sc_ink_of (fun vs H Q E h=>?_) (fun cdv A outer s H vs Q E hr h=>?_)
  · obtain ⟨t,cv,s,c,rfl,_⟩:=h
    rfl
  obtain ⟨t,cv,s,c,rfl,⟨ta,fa',ba,rfl,ht,hf,hb⟩,lf,lb,hc,q⟩:=h
  refine ⟨_,(pss_cons (ps_comp (i:=2) (frees:=[]) ⟨by decide +kernel,rfl,rfl,by decide +kernel,trivial,by decide +kernel,cellsFor_at rfl,rfl⟩ sc_ink_of.nd rfl rfl rfl (pi_list (pe_op op_cat (pe_ix ix_tup (pv 0) pe_int (fun _ _=>rfl)) (pe_ix ix_tup (pv 0) pe_int (fun _ _=>rfl)))) (fun _ _ _ _=>by exact (pifs_one (pt_cmpR op_ne (pv 0) (pe_gi T.NOTHING rfl) (nomark _)))) (fun _ _ _ _=>by exact (pv 0)))
  (pss_cons (ps_set (i:=3) sc_ink_of.nd rfl (by first | exact Or.inl rfl | exact Or.inr rfl) (pe_callB call_len_seq rfl T.len PySem.boot_len (pa_cons (pe_comp (frees:=[("colour",1)]) ⟨by decide +kernel,rfl,rfl,by decide +kernel,⟨⟨rfl,rfl,rfl,by decide +kernel⟩,trivial⟩,by decide +kernel,cellsFor_at rfl,rfl⟩ rfl (pi_list (pv 2)) (fun _ _ _ _=>by exact (pifs_one (pt_truthK (K:=K) rfl (pe_callD D_is_coloured (hr.mono (by decide)) rfl (pa_cons (pv 0) (pa_cons (pv 1) pa_nil))) (fun _=>rfl)))) (fun _ _ _ _=>by exact (pv 0))) pa_nil)))
  (pss_one (ps_ret (pe_tup (pa_cons (pe_op op_sub (pe_callB call_len_seq rfl T.len PySem.boot_len (pa_cons (pv 2) pa_nil)) (pv 3)) (pa_cons (pv 3) pa_nil))))))),?_⟩
  refine ⟨_,rfl,ta,_,_,_,rfl,rfl,SqT.of ht,atI_nat (j:=0) rfl,_,rfl,ta,_,_,_,rfl,rfl,SqT.of ht,atI_nat (j:=1) rfl,fa',ba,_,_,rfl,rfl,hf,hb,(by rw [List.length_map,List.length_map];exact small (by omega)),fun pc npc=>?_⟩
  rw [← List.map_append]
  have s1:=same_new npc (.lst ((s.1 ++ s.2).map V.int))
  refine ⟨pc,rfl,⟨_,SqL.of upd_same⟩,compB_seq (seq_list (K:=K) (SqL.of upd_same)) (fun v=>match v with | .int x=>decide (x≠0) | _=>false) (fun v=>v) ?_ (fun x hx H' R _ r=>?_) (fun x hx H' R sm _ r=>⟨_,rfl,r⟩) (fun D H2 s2 hD hH=>?_)⟩
  · rw [List.length_map,List.length_append]
    exact small1000 (by omega)
  · obtain ⟨y,_,rfl⟩:=List.mem_map.mp hx
    refine ⟨_,rfl,rfl,_,rfl,?_⟩
    have e:(!decide (V.int y=V.int 0))=decide (y≠0):=by
      by_cases h:y=0
      · rw [decide_eq_true (by rw [h]),decide_eq_false (fun z=>z h)];rfl
      · rw [decide_eq_false (by intro z;injection z with z;exact h z),decide_eq_true h];rfl
    rw [e]
    exact r
  rw [fil_ints] at hH
  have hH':H2 D=some (.lst ((printedL s).map V.int)):=hH
  have lp:(printedL s).length≤200:=by
    refine Nat.le_trans (List.length_filter_le _ _) ?_
    rw [List.length_append]
    omega
  have s12:=s1.trans s2
  refine ⟨_,rfl,D,rfl,⟨_,SqL.of hH'⟩,compB_seq (seq_list (K:=K) (SqL.of hH')) (fun v=>match v with | .int x=>isCol c x | _=>false) (fun v=>v) ?_ (fun x hx H' R sm r=>?_) (fun x hx H' R sm _ r=>⟨_,rfl,r⟩) (fun D2 H3 s3 hD2 hH3=>?_)⟩
  · rw [List.length_map]
    exact small1000 (by omega)
  · obtain ⟨y,_,rfl⟩:=List.mem_map.mp hx
    exact ⟨_,rfl,_,rfl,y,cv,c,rfl,(hc.same s12).same sm,_,rfl,r⟩
  rw [fil_ints] at hH3
  refine ⟨D2,_,rfl,.inl (SqL.of hH3),?_⟩
  refine ⟨_,rfl,D,_,rfl,.inl (SqL.of (s3 _ _ hH')),_,rfl,_,_,rfl,rfl,_,rfl,small (by show 2≤1000;decide),fun p np=>?_⟩
  refine q p _ ((s12.trans s3).trans (same_new np _)) ((s12.trans s3).free np) ?_
  rw [upd_same]
  unfold inkS
  simp only [List.length_map]
end
end My
namespace My
open PySem L2
open Blk (sg sg_inj sg_app)
section
variable {P:Program} {w:World} {K:PySem.W.Frag} {mg:Str→Option Value} {base:Heap}
noncomputable def sp__law_cell_at (K:PySem.W.Frag):Sp:=fun vs H Q _=>∃ (a:Addr) (k:Int) (ns:List Int),vs=[.ref a,.int k]∧SqL K H a (ns.map V.int)∧0≤k∧Q (.int (ns.getD k.toNat 0)) H
theorem sc__law_cell_at:FnScope ["_law_script","_law_k"] ["_law_script","_law_k"] (defScope s__law_cell_at):=⟨rfl,rfl,rfl,by decide +kernel,rfl,by decide +kernel,by decide +kernel⟩
theorem ok__law_cell_at {fa yQ yZ yX yY yV yJ yW yU yK yG cQ cZ cV cK cG vQ vZ vX vY:Addr} {fd:FuncData} (F:Fun K "_law_cell_at" "_law_cell_at" s__law_cell_at fa fd) (T:Txt K mg yQ yZ yX yY yV yJ yW yU yK yG cQ cZ cV cK cG vQ vZ vX vY)  :
    FnOk P w K mg base CX0 1 fa fd ["_law_script","_law_k"] (sp__law_cell_at K):=by
  refine F.ok sc__law_cell_at (fun vs H Q E h=>?_) (fun cdv A outer s H vs Q E hr h=>?_)
  · obtain ⟨a,k,ns,rfl,_⟩:=h
    rfl
  obtain ⟨a,k,ns,rfl,hS,k0,q⟩:=h
  refine ⟨_,(pss_cons (ps_if (pt_cmpR op_lt (pv 1) (pe_callB call_len_seq rfl T.len PySem.boot_len (pa_cons (pv 0) pa_nil)) (nomark _)) (pss_one (ps_ret (pe_ix ix_listA (pv 0) (pv 1) (fun _ _=>rfl)))) pss_nil)
  (pss_one (ps_ret pe_int))),?_⟩
  refine ⟨_,rfl,_,rfl,a,_,rfl,.inl hS,_,_,rfl,rfl,_,rfl,?_⟩
  refine ite2 (fun c=>?_) (fun c=>?_)
  · refine ⟨_,rfl,_,rfl,a,_,_,rfl,rfl,hS,k0,of_decide_eq_true c,fun v hv=>?_⟩
    rw [List.getElem?_map] at hv
    obtain ⟨z,ez,rfl⟩:=Option.map_eq_some_iff.mp hv
    rw [List.getD_eq_getElem?_getD,ez] at q
    exact q
  · have c':¬ k < ((ns.map V.int).length:Int):=fun z=>c (decide_eq_true z)
    rw [List.length_map] at c'
    rw [List.getD_eq_getElem?_getD,List.getElem?_eq_none (by omega)] at q
    exact q
noncomputable def mixV (c k m:Int):Int:=((c % 1000003 + 1) * (k * k + 48271)) % (([65537,64007,62003]:List Int).getD (k % 3).toNat 1) % m
theorem mix_lo {c k m:Int} (h:0 < m):0≤mixV c k m:=Int.emod_nonneg _ (by omega)
theorem mix_hi {c k m:Int} (h:0 < m):mixV c k m < m:=Int.emod_lt_of_pos _ h
noncomputable def sp__law_mix (K:PySem.W.Frag):Sp:=fun vs H Q _=>∃ c k m:Int,vs=[.int c,.int k,.int m]∧0≤k∧k≤10000∧0 < m∧∀ H',Same H H'→Q (.int (mixV c k m)) H'
theorem sc__law_mix:FnScope ["_law_cell","_law_k","_law_many"] ["_law_cell","_law_k","_law_many"] (defScope s__law_mix):=⟨rfl,rfl,rfl,by decide +kernel,rfl,by decide +kernel,by decide +kernel⟩
theorem ok__law_mix {fa yQ yZ yX yY yV yJ yW yU yK yG cQ cZ cV cK cG vQ vZ vX vY:Addr} {fd:FuncData} (F:Fun K "_law_mix" "_law_mix" s__law_mix fa fd) (T:Txt K mg yQ yZ yX yY yV yJ yW yU yK yG cQ cZ cV cK cG vQ vZ vX vY)  :
    FnOk P w K mg base CX0 1 fa fd ["_law_cell","_law_k","_law_many"] (sp__law_mix K):=by
  refine F.ok sc__law_mix (fun vs H Q E h=>?_) (fun cdv A outer s H vs Q E hr h=>?_)
  · obtain ⟨c,k,m,rfl,_⟩:=h
    rfl
  obtain ⟨c,k,m,rfl,k0,k1,m0,q⟩:=h
  have z3:3≤sizeLine:=small (by decide)
  refine ⟨_,(pss_one (ps_ret (pe_op op_mod (pe_op op_mod (pe_op op_mul (pe_op op_add (pe_op op_mod (pv 0) pe_int) pe_int) (pe_op op_add (pe_op op_mul (pv 1) (pv 1)) pe_int)) (pe_ix ix_listA (pe_lst (pa_cons pe_int (pa_cons pe_int (pa_cons pe_int pa_nil)))) (pe_op op_mod (pv 1) pe_int) (fun _ _=>rfl))) (pv 2)))),?_⟩
  have b0:=Int.emod_nonneg c (show (1000003:Int)≠0 by decide)
  have b1:=Int.emod_lt_of_pos c (show (0:Int) < 1000003 by decide)
  have d0:=Int.emod_nonneg k (show (3:Int)≠0 by decide)
  have d1:=Int.emod_lt_of_pos k (show (0:Int) < 3 by decide)
  refine ⟨_,rfl,_,_,rfl,rfl,(by show (0:Int) < 1000003;decide),_,_,rfl,rfl,_,rfl,_,rfl,_,_,rfl,rfl,.inr ⟨by omega,by omega⟩,_,_,rfl,rfl,_,_,rfl,rfl,.inl ⟨by omega,by omega⟩,z3,fun p np=>?_⟩
  have s1:=same_new np (.lst [V.int 65537,V.int 64007,V.int 62003])
  have h1:upd H p (.lst [V.int 65537,V.int 64007,V.int 62003]) p=some (.lst (([65537,64007,62003]:List Int).map V.int)):=upd_same
  generalize upd H p (.lst [V.int 65537,V.int 64007,V.int 62003])=H1 at s1 h1 ⊢
  refine ⟨_,rfl,_,_,rfl,rfl,(by show (0:Int) < 3;decide),p,_,_,rfl,rfl,SqL.of h1,d0,(by show k % 3 < 3;exact d1),fun v hv=>?_⟩
  rw [List.getElem?_map] at hv
  obtain ⟨d,ed,rfl⟩:=Option.map_eq_some_iff.mp hv
  have hd:0 < d:=by
    have hm:=List.mem_of_getElem? ed
    simp only [List.mem_cons,List.not_mem_nil,or_false] at hm
    rcases hm with rfl | rfl | rfl <;> decide
  have eg:([65537,64007,62003]:List Int).getD (k % 3).toNat 1=d:=by rw [List.getD_eq_getElem?_getD,ed];rfl
  refine ⟨_,_,rfl,rfl,hd,_,rfl,_,_,rfl,rfl,m0,?_⟩
  have:=q H1 s1
  unfold mixV at this
  rw [eg] at this
  exact this
noncomputable abbrev abc:Str:=Str.ofString "abcdefghijklmnopqrstuvwxyz"
noncomputable def ltr5 (j:Nat):Nat:=abc.cps.toList.getD j 0
noncomputable def stp (c t:Int) (k:Nat):Int:=c / 12 + (k:Int) * (k:Int) + (if (k:Int)=c / 144 % (1 + c % 12) then t else 0)
noncomputable def wordL (c t:Int) (n:Nat):List Nat:=(List.range n).map fun k=>ltr5 (stp c t k % 26).toNat
noncomputable def wordP (c t:Int) (n:Nat):Str:=⟨(wordL c t n).toArray⟩
theorem word_step {c t:Int} {i:Nat} {S:Int} {ch:Nat} (e:S=stp c t i) (h:abc.cps.toList[(S % 26).toNat]?=some ch):wordP c t i ++ (⟨#[ch]⟩:Str)=wordP c t (i + 1):=by
  refine Blk.sg_inj ?_
  rw [Blk.sg_app]
  show wordL c t i ++ [ch]=wordL c t (i + 1)
  unfold wordL
  rw [List.range_succ,List.map_append]
  have:ltr5 (stp c t i % 26).toNat=ch:=by
    unfold ltr5
    rw [List.getD_eq_getElem?_getD,← e,h]
    rfl
  rw [List.map_cons,List.map_nil,this]
theorem word_len {c t:Int} {n:Nat}:(wordP c t n).length=n:=by
  show (wordL c t n).toArray.size=n
  unfold wordL
  rw [List.size_toArray,List.length_map,List.length_range]
noncomputable def wSize (c:Int):Nat:=(1 + c % 12).toNat
noncomputable def sp__law_word (K:PySem.W.Frag):Sp:=fun vs H Q _=>∃ c t:Int,vs=[.int c,.int t]∧Q (.str (wordP c t (wSize c))) H
theorem sc__law_word:FnScope ["_law_cell","_law_turn","_law_letters","_law_size","_law_word_here","_law_k","_law_step"] ["_law_cell","_law_turn"] (defScope s__law_word):=⟨rfl,rfl,rfl,by decide +kernel,rfl,by decide +kernel,by decide +kernel⟩
theorem ok__law_word {fa yQ yZ yX yY yV yJ yW yU yK yG cQ cZ cV cK cG vQ vZ vX vY:Addr} {fd:FuncData} (F:Fun K "_law_word" "_law_word" s__law_word fa fd) (T:Txt K mg yQ yZ yX yY yV yJ yW yU yK yG cQ cZ cV cK cG vQ vZ vX vY)  :
    FnOk P w K mg base CX0 1 fa fd ["_law_cell","_law_turn"] (sp__law_word K):=by
  refine F.ok sc__law_word (fun vs H Q E h=>?_) (fun cdv A outer s H vs Q E hr h=>?_)
  · obtain ⟨c,t,rfl,_⟩:=h
    rfl
  obtain ⟨c,t,rfl,q⟩:=h
  refine ⟨_,(pss_cons (ps_set (i:=2) sc__law_word.nd rfl (by first | exact Or.inl rfl | exact Or.inr rfl) pe_str)
  (pss_cons (ps_set (i:=3) sc__law_word.nd rfl (by first | exact Or.inl rfl | exact Or.inr rfl) (pe_op op_add pe_int (pe_op op_mod (pv 0) pe_int)))
  (pss_cons (ps_set (i:=4) sc__law_word.nd rfl (by first | exact Or.inl rfl | exact Or.inr rfl) pe_str)
  (pss_cons (ps_for PassesOwn.never rfl (pi_range1 rfl T.range (pa_cons (pv 3) pa_nil)) (pg_name (i:=5) sc__law_word.nd rfl (by first | exact Or.inl rfl | exact Or.inr rfl))
  (pss_cons (ps_set (i:=6) sc__law_word.nd rfl (by first | exact Or.inl rfl | exact Or.inr rfl) (pe_op op_add (pe_op op_fdiv (pv 0) pe_int) (pe_op op_mul (pv 5) (pv 5))))
  (pss_cons (ps_if (pt_cmpR op_eq (pv 5) (pe_op op_mod (pe_op op_fdiv (pv 0) pe_int) (pv 3)) (nomark _)) (pss_one (ps_set (i:=6) sc__law_word.nd rfl (by first | exact Or.inl rfl | exact Or.inr rfl) (pe_op op_add (pv 6) (pv 1)))) pss_nil)
  (pss_one (ps_set (i:=4) sc__law_word.nd rfl (by first | exact Or.inl rfl | exact Or.inr rfl) (pe_op op_add_str (pv 4) (pe_ix ix_strA (pv 2) (pe_op op_mod (pv 6) pe_int) (fun _ _=>rfl))))))))
  (pss_one (ps_ret (pv 4))))))),?_⟩
  have m0:=Int.emod_nonneg c (show (12:Int)≠0 by decide)
  have m1:=Int.emod_lt_of_pos c (show (0:Int) < 12 by decide)
  have l26:abc.length=26:=by decide +kernel
  refine ⟨_,rfl,_,_,rfl,rfl,(by show (0:Int) < 12;decide),_,_,rfl,rfl,?_⟩
  refine ⟨_,rfl,_,rfl,by omega,by omega,for_range (lo:=0) (n:=(1 + c % 12).toNat) (fun i σ H'=>H'=H∧∃ (v5 v6:Option V),σ=[some (.int c),some (.int t),some (.str abc),some (.int (1 + c % 12)),some (.str (wordP c t i)),v5,v6]) ⟨rfl,_,_,rfl⟩ (fun i σ H' hi z=>?_) (fun σ H' z=>?_)⟩
  · obtain ⟨rfl,v5,v6,rfl⟩:=z
    rw [Int.zero_add]
    refine ⟨_,rfl,_,_,rfl,rfl,⟨by decide,by decide⟩,_,rfl,_,rfl,_,_,rfl,rfl,.inl ⟨by omega,by omega⟩,_,_,rfl,rfl,?_⟩
    refine ⟨_,rfl,_,rfl,_,_,rfl,rfl,⟨by decide,by decide⟩,_,rfl,_,_,rfl,rfl,(by show (0:Int) < 1 + c % 12;omega),rfl,_,rfl,?_⟩
    have one:∀ ch:Nat,(⟨#[ch]⟩:Str).length=1:=fun _=>rfl
    have un:∀ {a b:Int},decide (V.int a=V.int b)=true→a=b:=fun h=>by
      have:=of_decide_eq_true h
      injection this
    have nu:∀ {a b:Int},¬ decide (V.int a=V.int b)=true→¬ a=b:=fun h e=>h (decide_eq_true (by rw [e]))
    refine ite2 (fun c1=>⟨_,rfl,_,rfl,_,_,rfl,rfl,?_⟩) (fun c1=>?_)
    all_goals
      refine ⟨_,rfl,_,rfl,_,rfl,_,_,rfl,rfl,(by show (0:Int) < 26;decide),_,_,rfl,rfl,(by rw [l26];exact small (by decide)),Int.emod_nonneg _ (by decide),(by rw [l26];exact Int.emod_lt_of_pos _ (by decide)),fun ch hch=>?_⟩
      refine ⟨_,_,rfl,rfl,(by rw [one,word_len];exact small (by omega)),?_⟩
    · rw [word_step (i:=i) (by unfold stp;rw [if_pos (un c1)]) hch]
      exact ⟨rfl,_,_,rfl⟩
    · rw [word_step (i:=i) (by unfold stp;rw [if_neg (nu c1),Int.add_zero]) hch]
      exact ⟨rfl,_,_,rfl⟩
  · obtain ⟨rfl,v5,v6,rfl⟩:=z
    exact ⟨_,rfl,q⟩
end
end My
namespace My
open PySem L2
open Blk (sg sg_inj sg_app)
section
variable {P:Program} {w:World} {K:PySem.W.Frag} {mg:Str→Option Value} {base:Heap}
theorem sc_Over_init:FnScope ["self","job"] ["self","job"] (defScope s_Over_init):=⟨rfl,rfl,rfl,by decide +kernel,rfl,by decide +kernel,by decide +kernel⟩
theorem ok_Over_init {fa yQ yZ yX yY yV yJ yW yU yK yG cQ cZ cV cK cG vQ vZ vX vY:Addr} {fd:FuncData} (F:Fun K "__init__" "Over.__init__" s_Over_init fa fd) (T:Txt K mg yQ yZ yX yY yV yJ yW yU yK yG cQ cZ cV cK cG vQ vZ vX vY)  :
    FnOk P w K mg base CX0 1 fa fd ["self","job"] (sp_one vZ "job"):=by
  refine F.ok sc_Over_init (fun vs H Q E h=>?_) (fun cdv A outer s H vs Q E hr h=>?_)
  · obtain ⟨x,y,rfl,_⟩:=h
    rfl
  obtain ⟨x,y,rfl,hx,q⟩:=h
  refine ⟨_,(pss_cons (ps_expr (pe_initX T.in_HallError rfl T.mg_HallError (pa_cons (pv 0) (pa_cons (pv 1) pa_nil))))
  (pss_one (ps_fldX (pv 0) (pv 1) rfl))),?_⟩
  refine ⟨_,rfl,_,rfl,x,_,none,[y],rfl,(by simp),hx,T.x_Over.m,?_⟩
  refine ⟨_,rfl,_,rfl,.inl ⟨x,_,rfl,hx,T.x_Over.i.c,T.x_Over.n _ (.head _),fun dx nd ne=>?_⟩⟩
  exact q _ (kept_set nd) (xf_set ne)
theorem sc_Nowhere_init:FnScope ["self","job"] ["self","job"] (defScope s_Nowhere_init):=⟨rfl,rfl,rfl,by decide +kernel,rfl,by decide +kernel,by decide +kernel⟩
theorem ok_Nowhere_init {fa yQ yZ yX yY yV yJ yW yU yK yG cQ cZ cV cK cG vQ vZ vX vY:Addr} {fd:FuncData} (F:Fun K "__init__" "Nowhere.__init__" s_Nowhere_init fa fd) (T:Txt K mg yQ yZ yX yY yV yJ yW yU yK yG cQ cZ cV cK cG vQ vZ vX vY)  :
    FnOk P w K mg base CX0 1 fa fd ["self","job"] (sp_one vX "job"):=by
  refine F.ok sc_Nowhere_init (fun vs H Q E h=>?_) (fun cdv A outer s H vs Q E hr h=>?_)
  · obtain ⟨x,y,rfl,_⟩:=h
    rfl
  obtain ⟨x,y,rfl,hx,q⟩:=h
  refine ⟨_,(pss_cons (ps_expr (pe_initX T.in_HallError rfl T.mg_HallError (pa_cons (pv 0) (pa_cons (pv 1) pa_nil))))
  (pss_one (ps_fldX (pv 0) (pv 1) rfl))),?_⟩
  refine ⟨_,rfl,_,rfl,x,_,none,[y],rfl,(by simp),hx,T.x_Nowhere.m,?_⟩
  refine ⟨_,rfl,_,rfl,.inl ⟨x,_,rfl,hx,T.x_Nowhere.i.c,T.x_Nowhere.n _ (.head _),fun dx nd ne=>?_⟩⟩
  exact q _ (kept_set nd) (xf_set ne)
noncomputable def prV:Option Addr→V
  | none=>.non
  | some a=>.ref a
noncomputable def JobR (cJ:Addr) (H:Hp) (x:Addr) (nm:Str) (cp:Nat) (j:Jv):Prop:=∃ dx b i k cv,H x=some (.ins cJ dx (jobF (.str nm) b (.int (j.n:Int)) (.int (cp:Int)) (.str (Ly.text j.l)) (.str j.paper) (oV j.cover) cv i k))∧ColAt H cv j.colour
theorem JobR.jo {cJ:Addr} {H:Hp} {x:Addr} {nm:Str} {cp:Nat} {j:Jv} (h:JobR cJ H x nm cp j):JO cJ H x j:=let ⟨dx,b,i,k,cv,e,c⟩:=h;⟨dx,_,b,_,i,k,cv,e,c⟩
theorem JobR.fr {cJ:Addr} {H H':Hp} {x:Addr} {nm:Str} {cp:Nat} {j:Jv} (h:JobR cJ H x nm cp j) (kx:∀ o,H x=some o→H' x=some o) (kt:∀ b xs,H b=some (.tup xs)→H' b=some (.tup xs)):JobR cJ H' x nm cp j:=by
  obtain ⟨dx,b,i,k,cv,e,c⟩:=h
  refine ⟨dx,b,i,k,cv,kx _ e,?_⟩
  cases hc:j.colour with
  | none=>rw [hc] at c;exact c
  | some z=>rw [hc] at c;obtain ⟨t,e1,e2⟩:=c;exact ⟨t,e1,kt _ _ e2⟩
noncomputable def InksAt (H:Hp) (p:Addr) (is:List (Int×Int)):Prop:=∃ ys,H p=some (.lst ys)∧ys.length=is.length∧∀ (i:Nat) y s,ys[i]?=some y→is[i]?=some s→∃ t,y=.ref t∧H t=some (.tup [.int s.1,.int s.2])
theorem InksAt.fr {H H':Hp} {p:Addr} {is:List (Int×Int)} (h:InksAt H p is) (kx:∀ o,H p=some o→H' p=some o) (kt:∀ b xs,H b=some (.tup xs)→H' b=some (.tup xs)):InksAt H' p is:=let ⟨ys,e,l,g⟩:=h;⟨ys,kx _ e,l,fun i y s a b=>let ⟨t,e1,e2⟩:=g i y s a b;⟨t,e1,kt _ _ e2⟩⟩
structure RD where
  dx:Addr
  jb:Addr
  il:Addr
  nm:Str
  cp:Nat
  j:Jv
  inks:List (Int×Int)
  ps:Nat
  pr:Option Addr
  sl:Bool
  br:Bool
noncomputable def RD.fs (r:RD):List (Str×V):=[("job",.ref r.jb),("inks",.ref r.il),("passed",.int (r.ps:Int)),("printer",prV r.pr),("slipped",.bl r.sl),("broken",.bl r.br)]
structure RnAt (cR cJ:Addr) (H:Hp) (x:Addr) (r:RD):Prop where
  o:H x=some (.ins cR r.dx r.fs)
  j:JobR cJ H r.jb r.nm r.cp r.j
  i:InksAt H r.il r.inks
  n:r.jb≠x
  c1:1≤r.cp
  c2:r.cp≤99
  i1:1≤r.inks.length
  i2:r.inks.length≤999
theorem RnAt.fr {cR cJ:Addr} {H H':Hp} {x:Addr} {r:RD} (h:RnAt cR cJ H x r) (kx:∀ b C d fs,H b=some (.ins C d fs)→H' b=some (.ins C d fs)) (kl:∀ o,H r.il=some o→H' r.il=some o) (kt:∀ b xs,H b=some (.tup xs)→H' b=some (.tup xs)):RnAt cR cJ H' x r:=by
  obtain ⟨dx,b,i,k,cv,e,c⟩:=id h.j
  exact { h with o:=kx _ _ _ _ h.o,j:=h.j.fr (fun o e'=>by rw [e] at e';cases e';exact kx _ _ _ _ e) kt,i:=h.i.fr kl kt }
theorem RnAt.same {cR cJ:Addr} {H H':Hp} {x:Addr} {r:RD} (h:RnAt cR cJ H x r) (k:Same H H'):RnAt cR cJ H' x r:=h.fr (fun b C d fs e=>k _ _ e) (fun o e=>k _ _ e) (fun b xs e=>k _ _ e)
theorem RnAt.set {cR cJ:Addr} {H:Hp} {x:Addr} {r:RD} (h:RnAt cR cJ H x r) (ps:Nat) (pr:Option Addr) (sl br:Bool):RnAt cR cJ (upd H x (.ins cR r.dx ({ r with ps:=ps,pr:=pr,sl:=sl,br:=br }:RD).fs)) x { r with ps:=ps,pr:=pr,sl:=sl,br:=br }:=by
  obtain ⟨ys,hy,_⟩:=id h.i
  exact { h with o:=upd_same,j:=h.j.fr (fun o e=>by rw [upd_ne h.n];exact e) (fun b xs e=>by rw [upd_ne (ne_of e h.o (by intro z;cases z))];exact e),i:=h.i.fr (fun o e=>by rw [upd_ne (ne_of hy h.o (by intro z;cases z))];exact e) (fun b xs e=>by rw [upd_ne (ne_of e h.o (by intro z;cases z))];exact e) }
noncomputable def RD.tot (r:RD):Nat:=r.inks.length * r.cp
noncomputable def sp_Rn_each (cR cJ cP cS cY cM cW:Addr):Sp:=fun vs H Q _=>∃ x r,vs=[.ref x]∧RnAt cR cJ H x r∧Q (.int (r.inks.length:Int)) H
theorem sc_Run_each:FnScope ["self"] ["self"] (defScope s_Run_each):=⟨rfl,rfl,rfl,by decide +kernel,rfl,by decide +kernel,by decide +kernel⟩
theorem ok_Run_each {fa yQ yZ yX yY yV yJ yW yU yK yG cQ cZ cV cK cG vQ vZ vX vY:Addr} {fd:FuncData} (F:Fun K "each" "Run.each" s_Run_each fa fd) (T:Txt K mg yQ yZ yX yY yV yJ yW yU yK yG cQ cZ cV cK cG vQ vZ vX vY)  :
    FnOk P w K mg base CX0 1 fa fd ["self"] (sp_Rn_each yK yG cZ cQ yJ yW yU):=by
  refine F.ok sc_Run_each (fun vs H Q E h=>?_) (fun cdv A outer s H vs Q E hr h=>?_)
  · obtain ⟨x,r,rfl,_⟩:=h
    rfl
  obtain ⟨x,r,rfl,R,q⟩:=h
  refine ⟨_,(pss_one (ps_ret (pe_callB call_len_seq rfl T.len PySem.boot_len (pa_cons (pe_fld (pv 0) rfl) pa_nil)))),?_⟩
  obtain ⟨ys,hy,ly,_⟩:=id R.i
  refine ⟨_,rfl,x,yK,r.dx,_,_,rfl,R.o,T.cl_Run,T.n_Run_inks,rfl,r.il,_,rfl,.inl (SqL.of hy),?_⟩
  rw [ly]
  exact q
noncomputable def sp_Rn_total (cR cJ cP cS cY cM cW:Addr):Sp:=fun vs H Q _=>∃ x r,vs=[.ref x]∧RnAt cR cJ H x r∧Q (.int (r.tot:Int)) H
theorem sc_Run_total:FnScope ["self"] ["self"] (defScope s_Run_total):=⟨rfl,rfl,rfl,by decide +kernel,rfl,by decide +kernel,by decide +kernel⟩
theorem ok_Run_total {fa yQ yZ yX yY yV yJ yW yU yK yG cQ cZ cV cK cG vQ vZ vX vY:Addr} {fd:FuncData} (F:Fun K "total" "Run.total" s_Run_total fa fd) (T:Txt K mg yQ yZ yX yY yV yJ yW yU yK yG cQ cZ cV cK cG vQ vZ vX vY) (D_Run_each:MtE P w K mg base 1 "each" yK ["self"] (sp_Rn_each yK yG cZ cQ yJ yW yU)) :
    FnOk P w K mg base CX0 2 fa fd ["self"] (sp_Rn_total yK yG cZ cQ yJ yW yU):=by
  refine F.ok sc_Run_total (fun vs H Q E h=>?_) (fun cdv A outer s H vs Q E hr h=>?_)
  · obtain ⟨x,r,rfl,_⟩:=h
    rfl
  obtain ⟨x,r,rfl,R,q⟩:=h
  refine ⟨_,(pss_one (ps_ret (pe_op op_mul (pe_methE0 1 passE0 (hr.mono (by decide)) (pv 0)) (pe_fld (pe_fld (pv 0) rfl) rfl)))),?_⟩
  obtain ⟨dx,b,i,k,cv,e,c⟩:=id R.j
  have:=R.i2
  have:=R.c2
  refine ⟨_,rfl,x,_,r.dx,_,_,_,rfl,R.o,rfl,T.cl_Run,D_Run_each,x,r,rfl,R,_,rfl,x,yK,r.dx,_,_,rfl,R.o,T.cl_Run,T.n_Run_job,rfl,r.jb,yG,dx,_,_,rfl,e,T.cl_Job,T.n_Job_copies,jF3 _ _ _ _ _ _ _ _ _ _,_,_,rfl,rfl,.inl ⟨by omega,by omega⟩,?_⟩
  have e2:((r.tot:Nat):Int)=(r.inks.length:Int) * (r.cp:Int):=by unfold RD.tot;rw [Int.natCast_mul]
  rw [e2] at q
  exact q
noncomputable def sp_Rn_out (cR cJ cP cS cY cM cW:Addr):Sp:=fun vs H Q _=>∃ x r,vs=[.ref x]∧RnAt cR cJ H x r∧Q (.int (r.ps:Int)) H
theorem sc_Run_out:FnScope ["self"] ["self"] (defScope s_Run_out):=⟨rfl,rfl,rfl,by decide +kernel,rfl,by decide +kernel,by decide +kernel⟩
theorem ok_Run_out {fa yQ yZ yX yY yV yJ yW yU yK yG cQ cZ cV cK cG vQ vZ vX vY:Addr} {fd:FuncData} (F:Fun K "out" "Run.out" s_Run_out fa fd) (T:Txt K mg yQ yZ yX yY yV yJ yW yU yK yG cQ cZ cV cK cG vQ vZ vX vY)  :
    FnOk P w K mg base CX0 1 fa fd ["self"] (sp_Rn_out yK yG cZ cQ yJ yW yU):=by
  refine F.ok sc_Run_out (fun vs H Q E h=>?_) (fun cdv A outer s H vs Q E hr h=>?_)
  · obtain ⟨x,r,rfl,_⟩:=h
    rfl
  obtain ⟨x,r,rfl,R,q⟩:=h
  refine ⟨_,(pss_one (ps_ret (pe_fld (pv 0) rfl))),?_⟩
  exact ⟨_,rfl,x,yK,r.dx,_,_,rfl,R.o,T.cl_Run,T.n_Run_passed,rfl,q⟩
noncomputable def sp_Rn_whole (cR cJ cP cS cY cM cW:Addr):Sp:=fun vs H Q _=>∃ x r,vs=[.ref x]∧RnAt cR cJ H x r∧Q (.bl (decide (r.ps=r.tot))) H
theorem sc_Run_whole:FnScope ["self"] ["self"] (defScope s_Run_whole):=⟨rfl,rfl,rfl,by decide +kernel,rfl,by decide +kernel,by decide +kernel⟩
theorem ok_Run_whole {fa yQ yZ yX yY yV yJ yW yU yK yG cQ cZ cV cK cG vQ vZ vX vY:Addr} {fd:FuncData} (F:Fun K "whole" "Run.whole" s_Run_whole fa fd) (T:Txt K mg yQ yZ yX yY yV yJ yW yU yK yG cQ cZ cV cK cG vQ vZ vX vY) (D_Run_total:MtE P w K mg base 2 "total" yK ["self"] (sp_Rn_total yK yG cZ cQ yJ yW yU)) :
    FnOk P w K mg base CX0 3 fa fd ["self"] (sp_Rn_whole yK yG cZ cQ yJ yW yU):=by
  refine F.ok sc_Run_whole (fun vs H Q E h=>?_) (fun cdv A outer s H vs Q E hr h=>?_)
  · obtain ⟨x,r,rfl,_⟩:=h
    rfl
  obtain ⟨x,r,rfl,R,q⟩:=h
  refine ⟨_,(pss_one (ps_ret (pe_cmpR op_eq (pe_fld (pv 0) rfl) (pe_methE0 2 passE0 (hr.mono (by decide)) (pv 0)) (nomark _)))),?_⟩
  refine ⟨_,rfl,x,yK,r.dx,_,_,rfl,R.o,T.cl_Run,T.n_Run_passed,rfl,_,rfl,x,_,r.dx,_,_,_,rfl,R.o,rfl,T.cl_Run,D_Run_total,x,r,rfl,R,rfl,?_⟩
  have e:decide (V.int (r.ps:Int)=V.int (r.tot:Int))=decide (r.ps=r.tot):=by
    rw [Bool.eq_iff_iff,decide_eq_true_iff,decide_eq_true_iff]
    exact ⟨fun z=>by injection z with z;omega,fun z=>by rw [z]⟩
  rw [← e] at q
  exact q
noncomputable def sp_Rn_lack (cR cJ cP cS cY cM cW:Addr):Sp:=fun vs H Q _=>∃ x r,vs=[.ref x]∧RnAt cR cJ H x r∧(r.br=false→Q .non H)∧(r.br=true→∀ t H',Same H H'→H' t=some (.tup [.int ((r.ps:Int) / (r.inks.length:Int) + 1),.int ((r.ps:Int) % (r.inks.length:Int) + 1)])→Q (.ref t) H')
theorem sc_Run_lack:FnScope ["self"] ["self"] (defScope s_Run_lack):=⟨rfl,rfl,rfl,by decide +kernel,rfl,by decide +kernel,by decide +kernel⟩
theorem ok_Run_lack {fa yQ yZ yX yY yV yJ yW yU yK yG cQ cZ cV cK cG vQ vZ vX vY:Addr} {fd:FuncData} (F:Fun K "lack" "Run.lack" s_Run_lack fa fd) (T:Txt K mg yQ yZ yX yY yV yJ yW yU yK yG cQ cZ cV cK cG vQ vZ vX vY) (D_Run_each:MtE P w K mg base 1 "each" yK ["self"] (sp_Rn_each yK yG cZ cQ yJ yW yU)) :
    FnOk P w K mg base CX0 2 fa fd ["self"] (sp_Rn_lack yK yG cZ cQ yJ yW yU):=by
  refine F.ok sc_Run_lack (fun vs H Q E h=>?_) (fun cdv A outer s H vs Q E hr h=>?_)
  · obtain ⟨x,r,rfl,_⟩:=h
    rfl
  obtain ⟨x,r,rfl,R,q1,q2⟩:=h
  refine ⟨_,(pss_cons (ps_if (pt_not (pt_truth (pe_fld (pv 0) rfl) (fun _=>rfl))) (pss_one (ps_ret pe_non)) pss_nil)
  (pss_one (ps_ret (pe_tup (pa_cons (pe_op op_add (pe_op op_fdiv (pe_fld (pv 0) rfl) (pe_methE0 1 passE0 (hr.mono (by decide)) (pv 0))) pe_int) (pa_cons (pe_op op_add (pe_op op_mod (pe_fld (pv 0) rfl) (pe_methE0 1 passE0 (hr.mono (by decide)) (pv 0))) pe_int) pa_nil)))))),?_⟩
  refine ⟨_,rfl,x,yK,r.dx,_,_,rfl,R.o,T.cl_Run,T.n_Run_broken,rfl,r.br,rfl,?_⟩
  have i1:=R.i1
  have i2:=R.i2
  cases e:r.br with
  | false=>exact iteT (q1 e)
  | true =>
    refine iteF ⟨_,rfl,x,yK,r.dx,_,_,rfl,R.o,T.cl_Run,T.n_Run_passed,rfl,_,rfl,x,_,r.dx,_,_,_,rfl,R.o,rfl,T.cl_Run,D_Run_each,x,r,rfl,R,_,_,rfl,rfl,⟨by omega,by omega⟩,_,_,rfl,rfl,?_⟩
    refine ⟨_,rfl,x,yK,r.dx,_,_,rfl,R.o,T.cl_Run,T.n_Run_passed,rfl,_,rfl,x,_,r.dx,_,_,_,rfl,R.o,rfl,T.cl_Run,D_Run_each,x,r,rfl,R,_,_,rfl,rfl,(by omega),_,_,rfl,rfl,small (by show 2≤1000;decide),fun t nt=>q2 e t _ (same_new nt _) upd_same⟩
noncomputable def sp_Rn_at (cR cJ cP cS cY cM cW:Addr):Sp:=fun vs H Q _=>∃ x r,vs=[.ref x]∧RnAt cR cJ H x r∧(r.pr=none→Q .non H)∧∀ p,r.pr=some p→∃ d,PrAt cP cS cY cM cW H p d∧Q (.str d.name) H
theorem sc_Run_at:FnScope ["self"] ["self"] (defScope s_Run_at):=⟨rfl,rfl,rfl,by decide +kernel,rfl,by decide +kernel,by decide +kernel⟩
theorem ok_Run_at {fa yQ yZ yX yY yV yJ yW yU yK yG cQ cZ cV cK cG vQ vZ vX vY:Addr} {fd:FuncData} (F:Fun K "at" "Run.at" s_Run_at fa fd) (T:Txt K mg yQ yZ yX yY yV yJ yW yU yK yG cQ cZ cV cK cG vQ vZ vX vY)  :
    FnOk P w K mg base CX0 1 fa fd ["self"] (sp_Rn_at yK yG cZ cQ yJ yW yU):=by
  refine F.ok sc_Run_at (fun vs H Q E h=>?_) (fun cdv A outer s H vs Q E hr h=>?_)
  · obtain ⟨x,r,rfl,_⟩:=h
    rfl
  obtain ⟨x,r,rfl,R,q1,q2⟩:=h
  refine ⟨_,(pss_one (ps_ret (pe_ifExp (pt_cmpR op_isN (pe_fld (pv 0) rfl) pe_non (nomark _)) pe_non (pe_fld (pe_fld (pv 0) rfl) rfl)))),?_⟩
  refine ⟨_,rfl,x,yK,r.dx,_,_,rfl,R.o,T.cl_Run,T.n_Run_printer,rfl,?_⟩
  cases hp:r.pr with
  | none=>exact ⟨rfl,true,rfl,iteT (q1 hp)⟩
  | some p =>
    obtain ⟨d,P,q⟩:=q2 p hp
    refine ⟨rfl,false,rfl,iteF ⟨_,rfl,x,yK,r.dx,_,_,rfl,R.o,T.cl_Run,T.n_Run_printer,rfl,?_⟩⟩
    rw [hp]
    exact ⟨p,cZ,d.dx,_,_,rfl,P.o,T.cl_Printer,T.n_Printer_name,rfl,q⟩
end
end My
namespace My
open PySem L2
open Blk (sg sg_inj sg_app)
section
variable {P:Program} {w:World} {K:PySem.W.Frag} {mg:Str→Option Value} {base:Heap}
noncomputable def TagsAt (H:Hp) (nm:Str) (ts:List V) (ns:List Int):Prop:=ts.length=ns.length∧∀ (i:Nat) y n,ts[i]?=some y→ns[i]?=some n→∃ t,y=.ref t∧H t=some (.tup [.str nm,.int n])
theorem TagsAt.fr {H H':Hp} {nm:Str} {ts:List V} {ns:List Int} (h:TagsAt H nm ts ns) (kt:∀ b xs,H b=some (.tup xs)→H' b=some (.tup xs)):TagsAt H' nm ts ns:=⟨h.1,fun i y n a b=>let ⟨t,e,e1⟩:=h.2 i y n a b;⟨t,e,kt _ _ e1⟩⟩
theorem TagsAt.same {H H':Hp} {nm:Str} {ts:List V} {ns:List Int} (h:TagsAt H nm ts ns) (s:Same H H'):TagsAt H' nm ts ns:=h.fr fun b xs e=>s _ _ e
theorem TagsAt.get {H:Hp} {nm:Str} {ts:List V} {ns:List Int} (h:TagsAt H nm ts ns) {i:Nat} {y:V} (e:ts[i]?=some y):∃ t n,y=.ref t∧ns[i]?=some n∧H t=some (.tup [.str nm,.int n]):=by
  obtain ⟨n,en⟩:∃ n,ns[i]?=some n:=⟨_,List.getElem?_eq_getElem (by rw [← h.1];exact (List.getElem?_eq_some_iff.mp e).1)⟩
  obtain ⟨t,e1,e2⟩:=h.2 i y n e en
  exact ⟨t,n,e1,en,e2⟩
theorem TagsAt.drop1 {H:Hp} {nm:Str} {ts:List V} {ns:List Int} (h:TagsAt H nm ts ns):TagsAt H nm (ts.drop 1) (ns.drop 1):=⟨by rw [List.length_drop,List.length_drop,h.1],fun i y n a b=>by rw [List.getElem?_drop] at a b;exact h.2 _ y n a b⟩
theorem TagsAt.take1 {H:Hp} {nm:Str} {ts:List V} {ns:List Int} (h:TagsAt H nm ts ns):TagsAt H nm (ts.take 1) (ns.take 1):=⟨by rw [List.length_take,List.length_take,h.1],fun i y n a b=>by
  rw [List.getElem?_take] at a b
  by_cases c:i < 1
  · rw [if_pos c] at a b;exact h.2 i y n a b
  · rw [if_neg c] at a;cases a⟩
theorem TagsAt.snoc {H:Hp} {nm:Str} {ts:List V} {ns:List Int} {t:Addr} {n:Int} (h:TagsAt H nm ts ns) (e:H t=some (.tup [.str nm,.int n])):TagsAt H nm (ts ++ [.ref t]) (ns ++ [n]):=⟨by rw [List.length_append,List.length_append,h.1];rfl,fun i y m a b=>by
  by_cases c:i < ts.length
  · rw [List.getElem?_append_left c] at a
    rw [List.getElem?_append_left (by rw [← h.1];exact c)] at b
    exact h.2 i y m a b
  · rw [List.getElem?_append_right (by omega)] at a
    rw [List.getElem?_append_right (by rw [← h.1];omega),← h.1] at b
    have l:=(List.getElem?_eq_some_iff.mp a).1
    have l':i - ts.length < 1:=l
    rw [show i - ts.length=0 by omega] at a b
    obtain rfl:=Option.some.inj a
    obtain rfl:=Option.some.inj b
    exact ⟨t,rfl,e⟩⟩
theorem ifs_cut {t:TT} {A B C:TS} {D:Ends} {σ:St} {H:Hp} (P:Prop) (ht:∀ Q:Bool→Hp→Prop,(P→Q true H)→(¬ P→Q false H)→t σ H Q) (hA:P→A { D with nx:=C D } σ H) (hB:¬ P→B { D with nx:=C D } σ H):tSeq (tIfS t A B) C D σ H:=ht _ (fun p=>by rw [if_pos rfl];exact hA p) (fun p=>by rw [if_neg (by decide)];exact hB p)
noncomputable def isSlip (H:Hp) (nm:Str) (v:V):Prop:=∃ a,v=.ref a∧H a=some (.tup [.str nm,.int (-1)])
noncomputable def isSheet (H:Hp) (nm:Str) (v:V):Bool:=!@decide (isSlip H nm v) (Classical.propDecidable _)
theorem sheet_at {H:Hp} {nm:Str} {t:Addr} {n:Int} (h:H t=some (.tup [.str nm,.int n])):isSheet H nm (.ref t)=!decide (V.int n=V.int (-1)):=by
  unfold isSheet
  refine congrArg (fun c=>!c) ?_
  by_cases c:n=-1
  · exact (@decide_eq_true _ (Classical.propDecidable _) ⟨t,rfl,by rw [← c];exact h⟩).trans (decide_eq_true (by rw [c])).symm
  · refine (@decide_eq_false _ (Classical.propDecidable _) (fun ⟨a',z1,z2⟩=>?_)).trans (decide_eq_false (fun z=>c (by injection z))).symm
    cases z1
    rw [h] at z2
    injection z2 with z2
    injection z2 with z2
    injection z2 with _ z2
    injection z2 with z2 _
    injection z2 with z2
    exact c z2
noncomputable def sheetsN (ns:List Int):Nat:=ns.countP fun n=>decide (n≠-1)
noncomputable def Liv (r:RD):Prop:=r.br=false∧r.ps≠r.tot
noncomputable def OvR (cO:Addr) (r:RD) (H:Hp) (E:XK):Prop:=∀ ea H',Same H H'→H ea=none→XG H' ea cO [("job",.str r.nm)]→E (.ref cO) (some ea) H'
noncomputable def sp_Rn_must_go_on (cR cJ cO cP cS cY cM cW:Addr):Sp:=fun vs H Q E=>∃ x r,vs=[.ref x]∧RnAt cR cJ H x r∧(Liv r→Q .non H)∧(¬ Liv r→OvR cO r H E)
theorem sc_Run_must_go_on:FnScope ["self"] ["self"] (defScope s_Run_must_go_on):=⟨rfl,rfl,rfl,by decide +kernel,rfl,by decide +kernel,by decide +kernel⟩
theorem ok_Run_must_go_on {fa yQ yZ yX yY yV yJ yW yU yK yG cQ cZ cV cK cG vQ vZ vX vY:Addr} {fd:FuncData} (F:Fun K "must_go_on" "Run.must_go_on" s_Run_must_go_on fa fd) (T:Txt K mg yQ yZ yX yY yV yJ yW yU yK yG cQ cZ cV cK cG vQ vZ vX vY) (X_Over:MkXD P w K mg base 1 "Over" vZ ["self","job"] (sp_one vZ "job")) (D_Run_whole:MtE P w K mg base 3 "whole" yK ["self"] (sp_Rn_whole yK yG cZ cQ yJ yW yU)) :
    FnOk P w K mg base (CXe P w) 4 fa fd ["self"] (sp_Rn_must_go_on yK yG vZ cZ cQ yJ yW yU):=by
  refine F.okE sc_Run_must_go_on (fun vs H Q E h=>?_) (fun cdv A outer s H vs Q E hr h=>?_)
  · obtain ⟨x,r,rfl,_⟩:=h
    rfl
  obtain ⟨x,r,rfl,R,q,q2⟩:=h
  refine ⟨_,(pss_one (ps_if (PW.pt (pw_or (pt_truth (pe_fld (pv 0) rfl) (fun _=>rfl)) (pw_or1 (pt_truth (pe_methE0 3 pass_def (hr.mono (by decide)) (pv 0)) (fun _=>rfl))))) (pss_one (ps_raise raise_def rfl (pe_makeXD X_Over (hr.mono (by decide)) rfl (pa_cons (pe_fld (pe_fld (pv 0) rfl) rfl) pa_nil)))) pss_nil)),?_⟩
  obtain ⟨jx,jb,ji,jk,jc,je,_⟩:=id R.j
  refine ⟨_,rfl,x,yK,r.dx,_,_,rfl,R.o,T.cl_Run,T.n_Run_broken,rfl,r.br,rfl,?_⟩
  cases e:r.br with
  | true =>
    refine iteT (iteT ⟨_,rfl,x,yK,r.dx,_,_,rfl,R.o,T.cl_Run,T.n_Run_job,rfl,r.jb,yG,jx,_,_,rfl,je,T.cl_Job,T.n_Job_name,jF0 _ _ _ _ _ _ _ _ _ _,?_⟩)
    exact raise_one T.x_Over.m fun ea H' sm ne g=>q2 (fun z=>by rw [z.1] at e;cases e) ea H' sm ne g
  | false =>
    refine iteF ⟨_,rfl,x,_,r.dx,_,_,_,rfl,R.o,rfl,T.cl_Run,D_Run_whole,x,r,rfl,R,decide (r.ps=r.tot),rfl,ite2 (fun c=>?_) (fun c=>q ⟨e,fun z=>c (decide_eq_true z)⟩)⟩
    refine ⟨_,rfl,x,yK,r.dx,_,_,rfl,R.o,T.cl_Run,T.n_Run_job,rfl,r.jb,yG,jx,_,_,rfl,je,T.cl_Job,T.n_Job_name,jF0 _ _ _ _ _ _ _ _ _ _,?_⟩
    exact raise_one T.x_Over.m fun ea H' sm ne g=>q2 (fun z=>z.2 (of_decide_eq_true c)) ea H' sm ne g
noncomputable def sp_Rn_must_be_placed (cR cJ cO cP cS cY cM cW:Addr):Sp:=fun vs H Q E=>∃ x r,vs=[.ref x]∧RnAt cR cJ H x r∧(Liv r→(∃ p,r.pr=some p)∧Q .non H)∧(¬ Liv r→OvR cO r H E)
theorem sc_Run_must_be_placed:FnScope ["self"] ["self"] (defScope s_Run_must_be_placed):=⟨rfl,rfl,rfl,by decide +kernel,rfl,by decide +kernel,by decide +kernel⟩
theorem ok_Run_must_be_placed {fa yQ yZ yX yY yV yJ yW yU yK yG cQ cZ cV cK cG vQ vZ vX vY:Addr} {fd:FuncData} (F:Fun K "must_be_placed" "Run.must_be_placed" s_Run_must_be_placed fa fd) (T:Txt K mg yQ yZ yX yY yV yJ yW yU yK yG cQ cZ cV cK cG vQ vZ vX vY) (X_Nowhere:MkXD P w K mg base 1 "Nowhere" vX ["self","job"] (sp_one vX "job")) (D_Run_must_go_on:MtE P w K mg base 4 "must_go_on" yK ["self"] (sp_Rn_must_go_on yK yG vZ cZ cQ yJ yW yU)) :
    FnOk P w K mg base (CXe P w) 5 fa fd ["self"] (sp_Rn_must_be_placed yK yG vZ cZ cQ yJ yW yU):=by
  refine F.okE sc_Run_must_be_placed (fun vs H Q E h=>?_) (fun cdv A outer s H vs Q E hr h=>?_)
  · obtain ⟨x,r,rfl,_⟩:=h
    rfl
  obtain ⟨x,r,rfl,R,q,q2⟩:=h
  refine ⟨_,(pss_cons (ps_expr (pe_methE0 4 pass_def (hr.mono (by decide)) (pv 0)))
  (pss_one (ps_if (pt_cmpR op_isN (pe_fld (pv 0) rfl) pe_non (nomark _)) (pss_one (ps_raise raise_def rfl (pe_makeXD X_Nowhere (hr.mono (by decide)) rfl (pa_cons (pe_fld (pe_fld (pv 0) rfl) rfl) pa_nil)))) pss_nil))),?_⟩
  refine ⟨_,rfl,x,_,r.dx,_,_,_,rfl,R.o,rfl,T.cl_Run,D_Run_must_go_on,x,r,rfl,R,fun lv=>?_,q2⟩
  obtain ⟨⟨p,hp⟩,q⟩:=q lv
  refine ⟨_,rfl,x,yK,r.dx,_,_,rfl,R.o,T.cl_Run,T.n_Run_printer,rfl,?_⟩
  rw [hp]
  exact ⟨rfl,false,rfl,iteF q⟩
theorem sheet_len {H:Hp} {nm:Str}:∀ {ts:List V} {ns:List Int},TagsAt H nm ts ns→(ts.filter (isSheet H nm)).length=sheetsN ns
  | [],[],_=>rfl
  | [],_ :: _,h=>by have:=h.1;cases this
  | _ :: _,[],h=>by have:=h.1;cases this
  | v :: ts,n :: ns,h=>by
    have ih:=sheet_len (H:=H) (nm:=nm) (ts:=ts) (ns:=ns) h.drop1
    obtain ⟨t,rfl,ht⟩:=h.2 0 v n rfl rfl
    unfold sheetsN at ih ⊢
    rw [List.countP_cons,← ih,List.filter_cons,sheet_at ht]
    by_cases c:n=-1
    · rw [decide_eq_true (by rw [c]:V.int n=V.int (-1)),if_neg (by decide),decide_eq_false (by rw [c];decide),if_neg (by decide),Nat.add_zero]
    · rw [decide_eq_false (fun z=>c (by injection z):¬ V.int n=V.int (-1)),if_pos (by decide),decide_eq_true c,if_pos rfl,List.length_cons]
noncomputable def nextN (r:RD) (ns:List Int):Int:=if r.sl=false∧ns=[] then -1 else ((r.ps + sheetsN ns:Nat):Int)
noncomputable def sp_Rn_upcoming (cR cJ cP cS cY cM cW:Addr):Sp:=fun vs H Q _=>∃ x r,vs=[.ref x]∧RnAt cR cJ H x r∧(r.pr=none→Q .non H)∧∀ p,r.pr=some p→∃ d ns,PrAt cP cS cY cM cW H p d∧TagsAt H r.nm d.tags ns ∧
  (nextN r ns < (r.tot:Int)→∀ t H',Same H H'→H t=none→H' t=some (.tup [.str r.nm,.int (nextN r ns)])→Q (.ref t) H')∧(¬ nextN r ns < (r.tot:Int)→∀ H',Same H H'→Q .non H')
theorem sc_Run_upcoming:FnScope ["self","within","number"] ["self"] (defScope s_Run_upcoming):=⟨rfl,rfl,rfl,by decide +kernel,rfl,by decide +kernel,by decide +kernel⟩
theorem ok_Run_upcoming {fa yQ yZ yX yY yV yJ yW yU yK yG cQ cZ cV cK cG vQ vZ vX vY:Addr} {fd:FuncData} (F:Fun K "upcoming" "Run.upcoming" s_Run_upcoming fa fd) (T:Txt K mg yQ yZ yX yY yV yJ yW yU yK yG cQ cZ cV cK cG vQ vZ vX vY) (D_Printer_within:MtE P w K mg base 1 "within" cZ ["self"] (sp_Pr_within cZ cQ yJ yW yU)) (D_Run_total:MtE P w K mg base 2 "total" yK ["self"] (sp_Rn_total yK yG cZ cQ yJ yW yU)) :
    FnOk P w K mg base CX0 3 fa fd ["self"] (sp_Rn_upcoming yK yG cZ cQ yJ yW yU):=by
  refine F.ok sc_Run_upcoming (fun vs H Q E h=>?_) (fun cdv A outer s H vs Q E hr h=>?_)
  · obtain ⟨x,r,rfl,_⟩:=h
    rfl
  obtain ⟨x,r,rfl,R,q1,q2⟩:=h
  have z2:2≤sizeLine:=small (by decide)
  refine ⟨_,(pss_cons (ps_if (pt_cmpR op_isN (pe_fld (pv 0) rfl) pe_non (nomark _)) (pss_one (ps_ret pe_non)) pss_nil)
  (pss_cons (ps_set (i:=1) sc_Run_upcoming.nd rfl (by first | exact Or.inl rfl | exact Or.inr rfl) (pe_methE0 1 passE0 (hr.mono (by decide)) (pe_fld (pv 0) rfl)))
  (pss_cons (ps_if (PW.pt (pw_and (pt_not (pt_truth (pe_fld (pv 0) rfl) (fun _=>rfl))) (pw_and1 (pt_not (pt_truth (pv 1) (fun _=>rfl)))))) (pss_one (ps_ret (pe_tup (pa_cons (pe_fld (pe_fld (pv 0) rfl) rfl) (pa_cons (pe_gi T.SLIP rfl) pa_nil))))) pss_nil)
  (pss_cons (ps_set (i:=2) sc_Run_upcoming.nd rfl (by first | exact Or.inl rfl | exact Or.inr rfl) (pe_op op_add (pe_fld (pv 0) rfl) (pe_callB call_len_seq rfl T.len PySem.boot_len (pa_cons (pe_comp (frees:=[]) ⟨by decide +kernel,rfl,rfl,by decide +kernel,trivial,by decide +kernel,cellsFor_at rfl,rfl⟩ rfl (pi_list (pv 1)) (fun _ _ _ _=>by exact (pifs_one (pt_cmpR op_ne (pe_ixK (K:=K) (r:=rIxT) rfl ix_tup (pv 0) pe_int (fun _ _=>rfl)) (pe_gi T.SLIP rfl) (nomark _)))) (fun _ _ _ _=>by exact (pv 0))) pa_nil))))
  (pss_one (ps_ret (pe_ifExp (pt_cmpR op_lt (pv 2) (pe_methE0 2 passE0 (hr.mono (by decide)) (pv 0)) (nomark _)) (pe_tup (pa_cons (pe_fld (pe_fld (pv 0) rfl) rfl) (pa_cons (pv 2) pa_nil))) pe_non))))))),?_⟩
  refine ⟨_,rfl,x,yK,r.dx,_,_,rfl,R.o,T.cl_Run,T.n_Run_printer,rfl,?_⟩
  cases hp:r.pr with
  | none=>exact ⟨rfl,true,rfl,iteT (q1 hp)⟩
  | some p =>
  obtain ⟨d,ns,P,tg,k1,k2⟩:=q2 p hp
  refine ⟨rfl,false,rfl,iteF ?_⟩
  refine ⟨_,rfl,x,yK,r.dx,_,_,rfl,R.o,T.cl_Run,T.n_Run_printer,rfl,?_⟩
  rw [hp]
  refine ⟨p,_,d.dx,_,_,_,rfl,P.o,rfl,T.cl_Printer,D_Printer_within,p,d,rfl,P,fun l H1 s1 nl hl=>?_⟩
  have R1:=R.same s1
  obtain ⟨jx,jb,ji,jk,jc,je,_⟩:=id R1.j
  have tg1:=tg.same s1
  have lw:d.tags=[] ↔ ns=[]:=by
    rw [← List.length_eq_zero_iff,← List.length_eq_zero_iff,tg.1]
  dsimp only [gName]
  refine ifs_cut (r.sl=false∧ns=[]) (fun W qt qf=>?_) (fun c=>?_) (fun c=>?_)
  · refine ⟨_,rfl,x,yK,r.dx,_,_,rfl,R1.o,T.cl_Run,T.n_Run_slipped,rfl,r.sl,rfl,?_⟩
    cases hs:r.sl with
    | true=>exact iteF (qf (fun z=>by rw [hs] at z;cases z.1))
    | false =>
      refine iteT ⟨_,rfl,!d.tags.isEmpty,.inl ⟨_,SqL.of hl,rfl⟩,?_⟩
      by_cases c:ns=[]
      · rw [lw.mpr c]
        exact qt ⟨hs,c⟩
      · have:d.tags.isEmpty=false:=by rw [List.isEmpty_eq_false_iff];exact fun z=>c (lw.mp z)
        rw [this]
        exact qf (fun z=>c z.2)
  · have en:nextN r ns=-1:=by unfold nextN;rw [if_pos c]
    refine ⟨_,rfl,x,yK,r.dx,_,_,rfl,R1.o,T.cl_Run,T.n_Run_job,rfl,r.jb,yG,jx,_,_,rfl,je,T.cl_Job,T.n_Job_name,jF0 _ _ _ _ _ _ _ _ _ _,z2,fun t nt=>?_⟩
    refine k1 (by rw [en];omega) t _ (s1.trans (same_new nt _)) (s1.free nt) ?_
    rw [en]
    exact upd_same
  have en:nextN r ns=((r.ps + sheetsN ns:Nat):Int):=by unfold nextN;rw [if_neg c]
  have lt9:=P.lt
  refine ⟨_,rfl,x,yK,r.dx,_,_,rfl,R1.o,T.cl_Run,T.n_Run_passed,rfl,_,rfl,l,rfl,⟨_,SqL.of hl⟩,?_⟩
  refine compB_seq (seq_list (K:=K) (SqL.of hl)) (isSheet H1 r.nm) id (small1000 (by omega)) (fun y hy H' W sm rr=>?_) (fun y hy H' W sm py rr=>⟨_,rfl,rr⟩) (fun D H2 s2 nD hD=>?_)
  · obtain ⟨i,ei⟩:=List.mem_iff_getElem?.mp hy
    obtain ⟨t,n,rfl,_,ht⟩:=tg1.get ei
    refine ⟨_,rfl,t,_,_,_,rfl,rfl,SqT.of (sm _ _ ht),atI_nat (j:=1) rfl,rfl,_,?_,rr⟩
    rw [sheet_at ht]
  rw [List.map_id] at hD
  have R2:=R1.same s2
  refine ⟨D,_,rfl,.inl (SqL.of hD),_,_,rfl,rfl,?_⟩
  rw [sheet_len tg1]
  dsimp only [gName]
  rw [show (r.ps:Int) + ((sheetsN ns:Nat):Int)=nextN r ns by rw [en];omega]
  have s12:=s1.trans s2
  obtain ⟨jx2,jb2,ji2,jk2,jc2,je2,_⟩:=id R2.j
  refine ⟨_,rfl,_,rfl,x,_,r.dx,_,_,_,rfl,R2.o,rfl,T.cl_Run,D_Run_total,x,r,rfl,R2,_,_,rfl,rfl,_,rfl,ite2 (fun cc=>?_) (fun cc=>?_)⟩
  · refine ⟨_,rfl,x,yK,r.dx,_,_,rfl,R2.o,T.cl_Run,T.n_Run_job,rfl,r.jb,yG,jx2,_,_,rfl,je2,T.cl_Job,T.n_Job_name,jF0 _ _ _ _ _ _ _ _ _ _,_,rfl,z2,fun t nt=>?_⟩
    exact k1 (of_decide_eq_true cc) t _ (s12.trans (same_new nt _)) (s12.free nt) upd_same
  · exact k2 (fun z=>cc (decide_eq_true z)) _ s12
end
end My
namespace My
open PySem L2
open Blk (sg sg_inj sg_app)
section
variable {P:Program} {w:World} {K:PySem.W.Frag} {mg:Str→Option Value} {base:Heap}
noncomputable def papR (j:Jv) (i:Nat):Str:=if i=0 then j.cover.getD j.paper else j.paper
noncomputable def useR (r:RD) (n:Int):Str×Int×Int:=if n=-1 then (r.j.paper,0,0) else (papR r.j (n.toNat % r.inks.length),r.inks.getD (n.toNat % r.inks.length) (0,0))
noncomputable def sp_Rn_used_by (cR cJ cP cS cY cM cW:Addr):Sp:=fun vs H Q _=>∃ x r tg n,vs=[.ref x,.ref tg]∧RnAt cR cJ H x r∧H tg=some (.tup [.str r.nm,.int n])∧-1≤n∧∀ t H',Same H H'→H' t=some (.tup [.str (useR r n).1,.int (useR r n).2.1,.int (useR r n).2.2])→Q (.ref t) H'
theorem sc_Run_used_by:FnScope ["self","tag","sheet","ink"] ["self","tag"] (defScope s_Run_used_by):=⟨rfl,rfl,rfl,by decide +kernel,rfl,by decide +kernel,by decide +kernel⟩
theorem ok_Run_used_by {fa yQ yZ yX yY yV yJ yW yU yK yG cQ cZ cV cK cG vQ vZ vX vY:Addr} {fd:FuncData} (F:Fun K "used_by" "Run.used_by" s_Run_used_by fa fd) (T:Txt K mg yQ yZ yX yY yV yJ yW yU yK yG cQ cZ cV cK cG vQ vZ vX vY) (D_paper_of:Dfn P w K mg base 1 "paper_of" ["job","sheet"] (sp_paper_of yG)) (D_Run_each:MtE P w K mg base 1 "each" yK ["self"] (sp_Rn_each yK yG cZ cQ yJ yW yU)) :
    FnOk P w K mg base CX0 2 fa fd ["self","tag"] (sp_Rn_used_by yK yG cZ cQ yJ yW yU):=by
  refine F.ok sc_Run_used_by (fun vs H Q E h=>?_) (fun cdv A outer s H vs Q E hr h=>?_)
  · obtain ⟨x,r,tg,n,rfl,_⟩:=h
    rfl
  obtain ⟨x,r,tg,n,rfl,R,ht,n1,q⟩:=h
  have z3:3≤sizeLine:=small (by decide)
  refine ⟨_,(pss_cons (ps_if (pt_cmpR op_eq (pe_ix ix_tup (pv 1) pe_int (fun _ _=>rfl)) (pe_gi T.SLIP rfl) (nomark _)) (pss_one (ps_ret (pe_tup (pa_cons (pe_fld (pe_fld (pv 0) rfl) rfl) (pa_cons pe_int (pa_cons pe_int pa_nil)))))) pss_nil)
  (pss_cons (ps_set (i:=2) sc_Run_used_by.nd rfl (by first | exact Or.inl rfl | exact Or.inr rfl) (pe_op op_mod (pe_ix ix_tup (pv 1) pe_int (fun _ _=>rfl)) (pe_methE0 1 passE0 (hr.mono (by decide)) (pv 0))))
  (pss_cons (ps_set (i:=3) sc_Run_used_by.nd rfl (by first | exact Or.inl rfl | exact Or.inr rfl) (pe_ix ix_listA (pe_fld (pv 0) rfl) (pv 2) (fun _ _=>rfl)))
  (pss_one (ps_ret (pe_tup (pa_cons (pe_callD D_paper_of (hr.mono (by decide)) rfl (pa_cons (pe_fld (pv 0) rfl) (pa_cons (pv 2) pa_nil))) (pa_cons (pe_ix ix_tup (pv 3) pe_int (fun _ _=>rfl)) (pa_cons (pe_ix ix_tup (pv 3) pe_int (fun _ _=>rfl)) pa_nil))))))))),?_⟩
  obtain ⟨jx,jb,ji,jk,jc,je,_⟩:=id R.j
  have i1:=R.i1
  refine ⟨_,rfl,tg,_,_,_,rfl,rfl,SqT.of ht,atI_nat (j:=1) rfl,rfl,?_⟩
  by_cases c:n=-1
  · have eu:useR r n=(r.j.paper,0,0):=by unfold useR;rw [if_pos c]
    rw [eu] at q
    exact ⟨true,by rw [c];rfl,iteT ⟨_,rfl,x,yK,r.dx,_,_,rfl,R.o,T.cl_Run,T.n_Run_job,rfl,r.jb,yG,jx,_,_,rfl,je,T.cl_Job,T.n_Job_paper,jF5 _ _ _ _ _ _ _ _ _ _,z3,fun t nt=>q t _ (same_new nt _) upd_same⟩⟩
  have eu:useR r n=(papR r.j (n.toNat % r.inks.length),r.inks.getD (n.toNat % r.inks.length) (0,0)):=by unfold useR;rw [if_neg c]
  rw [eu] at q
  refine ⟨false,by rw [decide_eq_false (fun z=>c (by injection z))],iteF ?_⟩
  refine ⟨_,rfl,tg,_,_,_,rfl,rfl,SqT.of ht,atI_nat (j:=1) rfl,_,rfl,x,_,r.dx,_,_,_,rfl,R.o,rfl,T.cl_Run,D_Run_each,x,r,rfl,R,_,_,rfl,rfl,by omega,?_⟩
  have em:n % (r.inks.length:Int)=((n.toNat % r.inks.length:Nat):Int):=by
    rw [Int.natCast_emod,Int.toNat_of_nonneg (by omega)]
  have lm:n.toNat % r.inks.length < r.inks.length:=Nat.mod_lt _ (by omega)
  dsimp only [gName]
  rw [em]
  generalize n.toNat % r.inks.length=i at lm q ⊢
  obtain ⟨ys,hy,ly,gy⟩:=id R.i
  have ey:ys[i]?=some ys[i]:=List.getElem?_eq_getElem (by omega)
  have es:r.inks[i]?=some r.inks[i]:=List.getElem?_eq_getElem lm
  obtain ⟨t,et,ht2⟩:=gy i _ _ ey es
  rw [et] at ey
  rw [List.getD_eq_getElem?_getD,es,Option.getD_some] at q
  generalize r.inks[i]=s at ht2 q
  refine ⟨_,rfl,x,yK,r.dx,_,_,rfl,R.o,T.cl_Run,T.n_Run_inks,rfl,_,rfl,r.il,_,_,rfl,rfl,SqL.of hy,by omega,by omega,fun v hv=>?_⟩
  rw [Int.toNat_natCast,ey] at hv
  obtain rfl:=Option.some.inj hv
  refine ⟨_,rfl,x,yK,r.dx,_,_,rfl,R.o,T.cl_Run,T.n_Run_job,rfl,_,rfl,r.jb,r.j,(i:Int),rfl,R.j.jo,?_⟩
  refine ⟨_,rfl,t,_,_,_,rfl,rfl,SqT.of ht2,atI_nat (j:=0) rfl,_,rfl,t,_,_,_,rfl,rfl,SqT.of ht2,atI_nat (j:=1) rfl,z3,fun t' nt'=>q t' _ (same_new nt' _) ?_⟩
  have ep:(if (i:Int)=0 then r.j.cover.getD r.j.paper else r.j.paper)=papR r.j i:=by
    unfold papR
    by_cases c0:i=0
    · rw [if_pos c0,if_pos (by omega)]
    · rw [if_neg c0,if_neg (by omega)]
  rw [ep]
  exact upd_same
noncomputable def feedD (d:PD) (n:Str) (A y z:Int) (tag:V):PD:={ fedD d n A y z tag with tags:=if d.path < ((d.tags.length + 1:Nat):Int) then (d.tags ++ [tag]).drop 1 else d.tags ++ [tag] }
noncomputable def sp_Rn_fed (cR cJ cP cS cY cM cW:Addr):Sp:=fun vs H Q _=>∃ x r tg n p d A,vs=[.ref x,.ref tg]∧RnAt cR cJ H x r∧H tg=some (.tup [.str r.nm,.int n])∧-1≤n∧r.pr=some p∧PrAt cP cS cY cM cW H p d∧d.S=.rd∧d.am.lookup (useR r n).1=some A∧1≤A∧(useR r n).2.1≤d.b∧(useR r n).2.2≤d.c∧d.tags.length≤800 ∧
  ∀ l H',(∀ b o,b≠d.ins→b≠d.tr2→b≠d.ik2→H b=some o→H' b=some o)→H l=none→H' l=some (.lst (if d.path < ((d.tags.length + 1:Nat):Int) then (d.tags ++ [V.ref tg]).take 1 else []))→PrAt cP cS cY cM cW H' p (feedD d (useR r n).1 A (useR r n).2.1 (useR r n).2.2 (.ref tg))→Q (.ref l) H'
theorem sc_Run_fed:FnScope ["self","tag","used"] ["self","tag"] (defScope s_Run_fed):=⟨rfl,rfl,rfl,by decide +kernel,rfl,by decide +kernel,by decide +kernel⟩
theorem ok_Run_fed {fa yQ yZ yX yY yV yJ yW yU yK yG cQ cZ cV cK cG vQ vZ vX vY:Addr} {fd:FuncData} (F:Fun K "fed" "Run.fed" s_Run_fed fa fd) (T:Txt K mg yQ yZ yX yY yV yJ yW yU yK yG cQ cZ cV cK cG vQ vZ vX vY) (D_Run_used_by:MtE P w K mg base 2 "used_by" yK ["self","tag"] (sp_Rn_used_by yK yG cZ cQ yJ yW yU)) (D_Printer_feed:MtE P w K mg base 6 "feed" cZ ["self","tag","kind","black","coloured"] (sp_Pr_feed cZ cQ yJ yW yU)) :
    FnOk P w K mg base (CXe P w) 7 fa fd ["self","tag"] (sp_Rn_fed yK yG cZ cQ yJ yW yU):=by
  refine F.okE sc_Run_fed (fun vs H Q E h=>?_) (fun cdv A outer s H vs Q E hr h=>?_)
  · obtain ⟨x,r,tg,n,p,d,A,rfl,_⟩:=h
    rfl
  obtain ⟨x,r,tg,n,p,d,A,rfl,R,ht,n1,hp,P,eS,la,a1,ub,uc,lt,q⟩:=h
  refine ⟨_,(pss_cons (ps_set (i:=2) sc_Run_fed.nd rfl (by first | exact Or.inl rfl | exact Or.inr rfl) (pe_methE 2 pass_def (hr.mono (by decide)) (pv 0) (pa_cons (pv 1) pa_nil)))
  (pss_one (ps_ret (pe_methE 6 pass_def (hr.mono (by decide)) (pe_fld (pv 0) rfl) (pa_cons (pv 1) (pa_cons (pe_ix ix_tup (pv 2) pe_int (fun _ _=>rfl)) (pa_cons (pe_ix ix_tup (pv 2) pe_int (fun _ _=>rfl)) (pa_cons (pe_ix ix_tup (pv 2) pe_int (fun _ _=>rfl)) pa_nil)))))))),?_⟩
  refine ⟨_,rfl,x,_,r.dx,_,_,_,rfl,R.o,rfl,T.cl_Run,D_Run_used_by,_,rfl,x,r,tg,n,rfl,R,ht,n1,fun t H1 s1 h1=>?_⟩
  have R1:=R.same s1
  have P1:=P.same s1
  refine ⟨_,rfl,x,yK,r.dx,_,_,rfl,R1.o,T.cl_Run,T.n_Run_printer,rfl,?_⟩
  rw [hp]
  refine ⟨p,_,d.dx,_,_,_,rfl,P1.o,rfl,T.cl_Printer,D_Printer_feed,_,rfl,_,rfl,t,_,_,_,rfl,rfl,SqT.of h1,atI_nat (j:=0) rfl,_,rfl,t,_,_,_,rfl,rfl,SqT.of h1,atI_nat (j:=1) rfl,_,rfl,t,_,_,_,rfl,rfl,SqT.of h1,atI_nat (j:=2) rfl,p,d,V.ref tg,_,_,_,A,rfl,P1,eS,la,a1,ub,uc,lt,fun l H2 k2 nl hl P2=>?_⟩
  exact q l H2 (fun b o e1 e2 e3 e=>k2 b o e1 e2 e3 (s1 _ _ e)) (s1.free nl) hl P2
theorem putR_sl (r:RD) (b:Bool):putF "slipped" (.bl b) r.fs=({ r with sl:=b }:RD).fs:=by first | rfl | decide +kernel
theorem putR_ps (r:RD) (n:Nat):putF "passed" (.int (n:Int)) r.fs=({ r with ps:=n }:RD).fs:=by first | rfl | decide +kernel
theorem putR_pr (r:RD) (p:Option Addr):putF "printer" (prV p) r.fs=({ r with pr:=p }:RD).fs:=by first | rfl | decide +kernel
noncomputable def slipN (sl:Bool) (ns:List Int):Bool:=sl || ns.any fun n=>decide (n=-1)
noncomputable def outR (r:RD) (ns:List Int):RD:={ r with ps:=r.ps + sheetsN ns,sl:=slipN r.sl ns }
noncomputable def outE (r:RD) (ns:List Int):RD:=if (outR r ns).ps=r.tot then { outR r ns with pr:=none } else outR r ns
theorem outR_nil (r:RD):outR r []=r:=by
  cases r
  unfold outR sheetsN slipN
  simp
theorem outR_snoc (r:RD) (ns:List Int) (n:Int):outR r (ns ++ [n])=if n=-1 then { outR r ns with sl:=true } else { outR r ns with ps:=(outR r ns).ps + 1 }:=by
  unfold outR sheetsN slipN
  rw [List.countP_append,List.any_append]
  by_cases c:n=-1
  · rw [if_pos c]
    simp [c]
  · rw [if_neg c]
    simp [c]
    omega
noncomputable def sp_Rn_note_out (cR cJ cP cS cY cM cW:Addr):Sp:=fun vs H Q _=>∃ x r l ts ns,vs=[.ref x,.ref l]∧RnAt cR cJ H x r∧H l=some (.lst ts)∧TagsAt H r.nm ts ns∧∀ H',(∀ b o,b≠x→H b=some o→H' b=some o)→RnAt cR cJ H' x (outE r ns)→Q (.ref l) H'
theorem sc_Run_note_out:FnScope ["self","tags","tag"] ["self","tags"] (defScope s_Run_note_out):=⟨rfl,rfl,rfl,by decide +kernel,rfl,by decide +kernel,by decide +kernel⟩
theorem ok_Run_note_out {fa yQ yZ yX yY yV yJ yW yU yK yG cQ cZ cV cK cG vQ vZ vX vY:Addr} {fd:FuncData} (F:Fun K "note_out" "Run.note_out" s_Run_note_out fa fd) (T:Txt K mg yQ yZ yX yY yV yJ yW yU yK yG cQ cZ cV cK cG vQ vZ vX vY) (D_Run_whole:MtE P w K mg base 3 "whole" yK ["self"] (sp_Rn_whole yK yG cZ cQ yJ yW yU)) :
    FnOk P w K mg base CX0 4 fa fd ["self","tags"] (sp_Rn_note_out yK yG cZ cQ yJ yW yU):=by
  refine F.ok sc_Run_note_out (fun vs H Q E h=>?_) (fun cdv A outer s H vs Q E hr h=>?_)
  · obtain ⟨x,r,l,ts,ns,rfl,_⟩:=h
    rfl
  obtain ⟨x,r,l,ts,ns,rfl,R,hl,tg,q⟩:=h
  refine ⟨_,(pss_cons (ps_for PassesOwn.never rfl (pi_list (pv 1)) (pg_name (i:=2) sc_Run_note_out.nd rfl (by first | exact Or.inl rfl | exact Or.inr rfl))
  (pss_one (ps_if (pt_cmpR op_eq (pe_ix ix_tup (pv 2) pe_int (fun _ _=>rfl)) (pe_gi T.SLIP rfl) (nomark _)) (pss_one (ps_fld (pv 0) pe_bl rfl)) (pss_one (ps_fldaug (pv 0) pe_int ip_add)))))
  (pss_cons (ps_if (pt_truth (pe_methE0 3 passE0 (hr.mono (by decide)) (pv 0)) (fun _=>rfl)) (pss_one (ps_fld (pv 0) pe_non rfl)) pss_nil)
  (pss_one (ps_ret (pv 1))))),?_⟩
  have nlx:l≠x:=ne_of hl R.o (by intro z;cases z)
  refine ⟨_,rfl,l,rfl,⟨_,SqL.of hl⟩,for_list (K:=K) (a:=l) (xs:=ts) (fun i σ G=>∃ v2:Option V,σ=[some (.ref x),some (.ref l),v2]∧RnAt yK yG G x (outR r (ns.take i))∧∀ b o,b≠x→H b=some o→G b=some o) ⟨_,rfl,by rw [List.take_zero,outR_nil];exact R,fun b o _ e=>e⟩ (fun i σ G _ z=>by obtain ⟨v2,_,_,k⟩:=z;exact SqL.of (k _ _ nlx hl)) (fun i y σ G hy z=>?_) (fun σ G z=>?_)⟩
  · obtain ⟨v2,rfl,RG,k⟩:=z
    obtain ⟨t,n,rfl,en,ht⟩:=tg.get hy
    have htG:=k _ _ (ne_of ht R.o (by intro z;cases z)) ht
    have et:ns.take (i + 1)=ns.take i ++ [n]:=by rw [List.take_add_one,en];rfl
    rw [et,outR_snoc]
    refine ⟨_,rfl,t,_,_,_,rfl,rfl,SqT.of htG,atI_nat (j:=1) rfl,rfl,?_⟩
    by_cases c:n=-1
    · rw [if_pos c]
      refine ⟨true,by rw [c];rfl,iteT ⟨_,rfl,x,yK,_,_,rfl,RG.o,T.cl_Run,T.n_Run_slipped,(by show 6 < 1000;decide),?_⟩⟩
      rw [putR_sl]
      exact ⟨_,rfl,RG.set _ _ true _,fun b o nb e=>by rw [upd_ne nb];exact k b o nb e⟩
    · rw [if_neg c]
      refine ⟨false,by rw [decide_eq_false (fun z=>c (by injection z))],iteF ?_⟩
      refine ⟨_,rfl,x,yK,_,_,_,rfl,RG.o,T.cl_Run,T.n_Run_passed,rfl,_,_,rfl,rfl,_,_,RG.o,(by show 6 < 1000;decide),?_⟩
      have ep:putF "passed" (.int (((outR r (ns.take i)).ps:Int) + 1)) (outR r (ns.take i)).fs=({ outR r (ns.take i) with ps:=(outR r (ns.take i)).ps + 1 }:RD).fs:=by
        rw [show ((outR r (ns.take i)).ps:Int) + 1=(((outR r (ns.take i)).ps + 1:Nat):Int) by omega]
        exact putR_ps _ _
      rw [ep]
      exact ⟨_,rfl,RG.set _ _ _ _,fun b o nb e=>by rw [upd_ne nb];exact k b o nb e⟩
  · obtain ⟨v2,rfl,RG,k⟩:=z
    rw [List.take_of_length_le (by rw [tg.1];exact Nat.le_refl _)] at RG
    refine ⟨_,rfl,x,_,r.dx,_,_,_,rfl,RG.o,rfl,T.cl_Run,D_Run_whole,x,_,rfl,RG,?_⟩
    by_cases c:(outR r ns).ps=r.tot
    · refine ⟨true,(by show true=decide ((outR r ns).ps=r.tot);rw [decide_eq_true c]),iteT ⟨_,rfl,x,yK,_,_,rfl,RG.o,T.cl_Run,T.n_Run_printer,(by show 6 < 1000;decide),?_⟩⟩
      rw [show (V.non)=prV none from rfl,putR_pr]
      refine ⟨_,rfl,q _ (fun b o nb e=>by rw [upd_ne nb];exact k b o nb e) ?_⟩
      have:=RG.set (outR r ns).ps none (outR r ns).sl (outR r ns).br
      unfold outE
      rw [if_pos c]
      exact this
    · refine ⟨false,(by show false=decide ((outR r ns).ps=r.tot);rw [decide_eq_false c]),iteF ⟨_,rfl,q _ k ?_⟩⟩
      unfold outE
      rw [if_neg c]
      exact RG
end
end My
namespace My
open PySem L2
open Blk (sg sg_inj sg_app)
section
variable {P:Program} {w:World} {K:PySem.W.Frag} {mg:Str→Option Value} {base:Heap}
theorem PrAt.off {cP cS cY cM cW:Addr} {H H':Hp} {p x C dx:Addr} {fs:List (Str×V)} {d:PD} (P:PrAt cP cS cY cM cW H p d) (hx:H x=some (.ins C dx fs)) (k:∀ b o,b≠x→H b=some o→H' b=some o) (n1:p≠x) (n2:d.tr≠x) (n3:d.ik≠x) (n4:d.st≠x):PrAt cP cS cY cM cW H' p d:=by
  obtain ⟨⟨dt,t1⟩,t2,t3,t4⟩:=P.T
  obtain ⟨⟨di,i1⟩,i2,i3,i4⟩:=P.I
  exact { P with o:=k _ _ n1 P.o,T:=⟨⟨dt,k _ _ n2 t1⟩,k _ _ (ne_of t2 hx (by intro z;cases z)) t2,k _ _ (ne_of t3 hx (by intro z;cases z)) t3,t4⟩,I:=⟨⟨di,k _ _ n3 i1⟩,k _ _ (ne_of i2 hx (by intro z;cases z)) i2,k _ _ (ne_of i3 hx (by intro z;cases z)) i3,i4⟩,s:=k _ _ n4 P.s,n:=k _ _ (ne_of P.n hx (by intro z;cases z)) P.n }
structure Wd (cR cJ cP cS cY cM cW:Addr) (H:Hp) (x:Addr) (r:RD) (p:Addr) (d:PD) (ns:List Int):Prop where
  R:RnAt cR cJ H x r
  P:PrAt cP cS cY cM cW H p d
  tg:TagsAt H r.nm d.tags ns
  n1:p≠x
  n2:d.tr≠x
  n3:d.ik≠x
  n4:d.st≠x
  n5:r.il≠d.ins
theorem Wd.same {cR cJ cP cS cY cM cW:Addr} {H H':Hp} {x:Addr} {r:RD} {p:Addr} {d:PD} {ns:List Int} (w:Wd cR cJ cP cS cY cM cW H x r p d ns) (s:Same H H'):Wd cR cJ cP cS cY cM cW H' x r p d ns:={ w with R:=w.R.same s,P:=w.P.same s,tg:=w.tg.same s }
theorem RnAt.prn {cR cJ cP cS cY cM cW:Addr} {H H':Hp} {x:Addr} {r:RD} {p:Addr} {d:PD} (R:RnAt cR cJ H x r) (P:PrAt cP cS cY cM cW H p d) (n5:r.il≠d.ins) (k:∀ b o,b≠d.ins→b≠d.tr2→b≠d.ik2→H b=some o→H' b=some o):RnAt cR cJ H' x r:=by
  have h1:=P.n
  have h2:=P.T.2.2.1
  have h3:=P.I.2.2.1
  obtain ⟨ys,hy,_⟩:=id R.i
  refine R.fr (fun b C dd fs e=>k _ _ (ne_of e h1 (by intro z;cases z)) (ne_of e h2 (by intro z;cases z)) (ne_of e h3 (by intro z;cases z)) e) (fun o e=>k _ _ n5 (ne_of hy h2 (by intro z;cases z)) (ne_of hy h3 (by intro z;cases z)) e) (fun b xs e=>k _ _ (ne_of e h1 (by intro z;cases z)) (ne_of e h2 (by intro z;cases z)) (ne_of e h3 (by intro z;cases z)) e)
theorem outE_nm (r:RD) (ns:List Int):(outE r ns).nm=r.nm:=by unfold outE;split <;> rfl
theorem outE_il (r:RD) (ns:List Int):(outE r ns).il=r.il:=by unfold outE;split <;> rfl
theorem sheets_app (a b:List Int):sheetsN (a ++ b)=sheetsN a + sheetsN b:=List.countP_append
theorem outR_app (r:RD) (a b:List Int):outR (outR r a) b=outR r (a ++ b):=by
  unfold outR slipN
  rw [sheets_app,List.any_append]
  dsimp only
  rw [Nat.add_assoc,Bool.or_assoc]
theorem outE_app (r:RD) (a b:List Int):outE (outR r a) b=outE r (a ++ b):=by
  unfold outE
  rw [outR_app]
  rfl
theorem outE_R {r:RD} {ns:List Int} (h:(outR r ns).ps≠r.tot):outE r ns=outR r ns:=by
  unfold outE
  rw [if_neg h]
theorem TagsAt.app {H:Hp} {nm:Str} {ts us:List V} {ns ms:List Int} (h:TagsAt H nm ts ns) (g:TagsAt H nm us ms):TagsAt H nm (ts ++ us) (ns ++ ms):=⟨by rw [List.length_append,List.length_append,h.1,g.1],fun i y n a b=>by
  by_cases c:i < ts.length
  · rw [List.getElem?_append_left c] at a
    rw [List.getElem?_append_left (by rw [← h.1];exact c)] at b
    exact h.2 i y n a b
  · rw [List.getElem?_append_right (by omega)] at a
    rw [List.getElem?_append_right (by rw [← h.1];omega),← h.1] at b
    exact g.2 _ y n a b⟩
theorem Wd.list {cR cJ cP cS cY cM cW:Addr} {H:Hp} {x:Addr} {r:RD} {p:Addr} {d:PD} {ns:List Int} {l:Addr} {ts us:List V} (w:Wd cR cJ cP cS cY cM cW H x r p d ns) (hl:H l=some (.lst ts)) (n1:l≠d.ins) (n2:r.il≠l):Wd cR cJ cP cS cY cM cW (upd H l (.lst us)) x r p d ns:=by
  have off:∀ b o,H b=some o→(∀ zs,o≠.lst zs)→upd H l (.lst us) b=some o:=fun b o e n=>by
    rw [upd_ne (fun z=>by rw [z,hl] at e;injection e with e;exact n _ e.symm)]
    exact e
  obtain ⟨⟨dt,t1⟩,t2,t3,t4⟩:=w.P.T
  obtain ⟨⟨di,i1⟩,i2,i3,i4⟩:=w.P.I
  refine { w with R:=w.R.fr (fun b C dd fs e=>off _ _ e (by intro zs z;cases z)) (fun o e=>by rw [upd_ne n2];exact e) (fun b xs e=>off _ _ e (by intro zs z;cases z)),P:=?_,tg:=w.tg.fr fun b xs e=>off _ _ e (by intro zs z;cases z) }
  exact { w.P with o:=off _ _ w.P.o (by intro zs z;cases z),T:=⟨⟨dt,off _ _ t1 (by intro zs z;cases z)⟩,off _ _ t2 (by intro zs z;cases z),off _ _ t3 (by intro zs z;cases z),t4⟩,I:=⟨⟨di,off _ _ i1 (by intro zs z;cases z)⟩,off _ _ i2 (by intro zs z;cases z),off _ _ i3 (by intro zs z;cases z),i4⟩,s:=off _ _ w.P.s (by intro zs z;cases z),n:=by rw [upd_ne (Ne.symm n1)];exact w.P.n }
noncomputable def NW (r:RD) (ns:List Int):Prop:=∀ i,i < ns.length→(outR r (ns.take i)).ps≠r.tot
structure Emp (cR cJ cP cS cY cM cW:Addr) (H H':Hp) (x:Addr) (r:RD) (p:Addr) (d:PD) (l:Addr) (ns:List Int):Prop where
  fr:∀ b o,b≠x→b≠d.ins→H b=some o→H' b=some o
  nl:H l=none
  l:∃ ts,H' l=some (.lst ts)∧TagsAt H' r.nm ts ns
  w:Wd cR cJ cP cS cY cM cW H' x (outE r ns) p { d with tags:=[] } []
noncomputable def sp_Rn_emptied (cR cJ cP cS cY cM cW:Addr):Sp:=fun vs H Q _=>∃ x r,vs=[.ref x]∧RnAt cR cJ H x r∧(r.pr=none→∀ l H',Same H H'→H l=none→H' l=some (.lst [])→Q (.ref l) H') ∧
  ∀ p,r.pr=some p→∃ d ns,Wd cR cJ cP cS cY cM cW H x r p d ns∧(ns≠[]→d.S=.rd)∧NW r ns∧r.ps≠r.tot∧∀ l H',Emp cR cJ cP cS cY cM cW H H' x r p d l ns→Q (.ref l) H'
theorem sc_Run_emptied:FnScope ["self","came"] ["self"] (defScope s_Run_emptied):=⟨rfl,rfl,rfl,by decide +kernel,rfl,by decide +kernel,by decide +kernel⟩
theorem ok_Run_emptied {fa yQ yZ yX yY yV yJ yW yU yK yG cQ cZ cV cK cG vQ vZ vX vY:Addr} {fd:FuncData} (F:Fun K "emptied" "Run.emptied" s_Run_emptied fa fd) (T:Txt K mg yQ yZ yX yY yV yJ yW yU yK yG cQ cZ cV cK cG vQ vZ vX vY) (D_Printer_within:MtE P w K mg base 1 "within" cZ ["self"] (sp_Pr_within cZ cQ yJ yW yU)) (D_Printer_push:MtE P w K mg base 4 "push" cZ ["self"] (sp_Pr_push cZ cQ yJ yW yU)) (D_Run_note_out:MtE P w K mg base 4 "note_out" yK ["self","tags"] (sp_Rn_note_out yK yG cZ cQ yJ yW yU)) :
    FnOk P w K mg base (CXe P w) 5 fa fd ["self"] (sp_Rn_emptied yK yG cZ cQ yJ yW yU):=by
  refine F.okE sc_Run_emptied (fun vs H Q E h=>?_) (fun cdv A outer s H vs Q E hr h=>?_)
  · obtain ⟨x,r,rfl,_⟩:=h
    rfl
  obtain ⟨x,r,rfl,R,q1,q2⟩:=h
  refine ⟨_,(pss_cons (ps_set (i:=1) sc_Run_emptied.nd rfl (by first | exact Or.inl rfl | exact Or.inr rfl) (pe_lst pa_nil))
  (pss_cons (ps_while own_def (PW.pt (pw_and (pt_cmpR op_notN (pe_fld (pv 0) rfl) pe_non (nomark _)) (pw_and1 (pt_truth (pe_methE0 1 pass_def (hr.mono (by decide)) (pe_fld (pv 0) rfl)) (fun _=>rfl))))) (pss_one (ps_expr (pe_bm PySem.F.plainAttrs_list PySem.F.slot_list_extend PySem.F.type_list_extend mt_extend (pv 1) (pa_cons (pe_methE 4 pass_def (hr.mono (by decide)) (pv 0) (pa_cons (pe_methE0 4 pass_def (hr.mono (by decide)) (pe_fld (pv 0) rfl)) pa_nil)) pa_nil)))))
  (pss_one (ps_ret (pv 1))))),?_⟩
  refine ⟨small (Nat.zero_le _),fun l nl=>?_⟩
  have s1:=same_new nl (.lst [])
  have hl:upd H l (.lst []) l=some (.lst []):=upd_same
  generalize upd H l (.lst [])=H1 at s1 hl ⊢
  cases hp:r.pr with
  | none =>
    refine ⟨fun m σ G=>m=0∧G=H1∧σ=[some (.ref x),some (.ref l)],⟨0,rfl,rfl,rfl⟩,?_⟩
    rintro m σ G ⟨rfl,rfl,rfl⟩
    refine ⟨_,rfl,x,yK,r.dx,_,_,rfl,(R.same s1).o,T.cl_Run,T.n_Run_printer,rfl,?_⟩
    rw [hp]
    exact ⟨rfl,false,rfl,iteF (iteF ⟨_,rfl,q1 hp l _ s1 nl hl⟩)⟩
  | some p =>
  obtain ⟨d,ns,W,hS,nw,n0,q⟩:=q2 p hp
  have lt9:=W.P.lt
  have ltn:=W.tg.1
  refine ⟨fun m σ G=>∃ i ts,m + i=ns.length∧(∀ b o,b≠x→b≠d.ins→H b=some o→G b=some o)∧G l=some (.lst ts)∧TagsAt G r.nm ts (ns.take i)∧Wd yK yG cZ cQ yJ yW yU G x (outE r (ns.take i)) p { d with tags:=d.tags.drop i } (ns.drop i)∧σ=[some (.ref x),some (.ref l)],⟨ns.length,0,[],rfl,fun b o _ _ e=>s1 _ _ e,hl,⟨rfl,fun i y n a=>by cases a⟩,?_,rfl⟩,?_⟩
  · rw [List.take_zero,outE_R (by rw [outR_nil];exact n0),outR_nil,List.drop_zero,List.drop_zero]
    exact W.same s1
  rintro m σ G ⟨i,ts,mi,fr,hl,tg,WG,rfl⟩
  have lts:=tg.1
  rw [List.length_take] at lts
  have nlx:l≠x:=ne_of hl WG.R.o (by intro z;cases z)
  have done:∀ H',i=ns.length→Same G H'→Q (.ref l) H':=fun H' ei s'=>by
    subst ei
    rw [List.take_length] at tg WG
    rw [List.drop_length] at WG
    have W2:=WG.same s'
    rw [show d.tags.drop ns.length=[] by rw [← ltn,List.drop_length]] at W2
    exact q l H' ⟨fun b o b1 b2 e=>s' _ _ (fr b o b1 b2 e),nl,⟨ts,s' _ _ hl,tg.same s'⟩,W2⟩
  refine ⟨_,rfl,x,yK,_,_,_,rfl,WG.R.o,T.cl_Run,T.n_Run_printer,rfl,?_⟩
  have hpi:i < ns.length→(outE r (ns.take i))=outR r (ns.take i):=fun z=>outE_R (nw i z)
  by_cases ci:i < ns.length
  · have er:=hpi ci
    rw [er] at WG
    rw [er,show (outR r (ns.take i)).pr=some p from hp]
    refine ⟨rfl,true,rfl,iteT ?_⟩
    refine ⟨_,rfl,x,yK,_,_,_,rfl,WG.R.o,T.cl_Run,T.n_Run_printer,rfl,?_⟩
    rw [show (outR r (ns.take i)).pr=some p from hp]
    refine ⟨p,_,d.dx,_,_,_,rfl,WG.P.o,rfl,T.cl_Printer,D_Printer_within,p,_,rfl,WG.P,fun wl G1 sg nwl hwl=>?_⟩
    have lne:(d.tags.drop i).isEmpty=false:=by
      rw [List.isEmpty_eq_false_iff]
      intro z
      have:=congrArg List.length z
      rw [List.length_drop] at this
      have:d.tags.length - i=0:=this
      omega
    refine ⟨!(d.tags.drop i).isEmpty,.inl ⟨_,SqL.of hwl,rfl⟩,?_⟩
    rw [lne]
    refine iteT ⟨fun σ' G'=>∃ ts,(∀ b o,b≠x→b≠d.ins→H b=some o→G' b=some o)∧G' l=some (.lst ts)∧TagsAt G' r.nm ts (ns.take (i + 1))∧Wd yK yG cZ cQ yJ yW yU G' x (outE r (ns.take (i + 1))) p { d with tags:=d.tags.drop (i + 1) } (ns.drop (i + 1))∧σ'=[some (.ref x),some (.ref l)],fun σ' G' ⟨ts,h1,h2,h3,h4,h5⟩=>⟨m - 1,by omega,i + 1,ts,by omega,h1,h2,h3,h4,h5⟩,?_⟩
    have W1:=WG.same sg
    have hl1:=sg _ _ hl
    refine ⟨_,rfl,.inl ⟨rfl,_,SqL.of hl1⟩,_,rfl,x,_,_,_,_,_,rfl,W1.R.o,rfl,T.cl_Run,D_Run_note_out,_,rfl,x,yK,_,_,_,rfl,W1.R.o,T.cl_Run,T.n_Run_printer,rfl,?_⟩
    rw [show (outR r (ns.take i)).pr=some p from hp]
    refine ⟨p,_,d.dx,_,_,_,rfl,W1.P.o,rfl,T.cl_Printer,D_Printer_push,p,_,rfl,W1.P,hS (fun z=>by rw [z] at ci;cases ci),fun l1 G2 k2 nl1 hl2 P2=>?_⟩
    have k2':∀ b o,b≠d.ins→b≠d.tr2→b≠d.ik2→G1 b=some o→G2 b=some o:=fun b o e1 _ _ e=>k2 b o e1 e
    have tg2:TagsAt G2 r.nm (d.tags.drop i) (ns.drop i):=W1.tg.fr fun b xs e=>k2 _ _ (ne_of e W1.P.n (by intro z;cases z)) e
    have R2:=W1.R.prn W1.P W1.n5 k2'
    refine ⟨x,_,l1,_,(ns.drop i).take 1,rfl,R2,hl2,tg2.take1,fun G3 k3 R3=>?_⟩
    have e1:ns.take i ++ (ns.drop i).take 1=ns.take (i + 1):=by
      rw [List.take_add]
    rw [outE_app,e1] at R3
    have kt3:∀ b xs,G2 b=some (.tup xs)→G3 b=some (.tup xs):=fun b xs e=>k3 _ _ (ne_of e R2.o (by intro z;cases z)) e
    have nli:l≠d.ins:=fun z=>by
      have h1:=W.P.n
      rw [← z] at h1
      rw [nl] at h1
      cases h1
    have hl3:G3 l=some (.lst ts):=k3 _ _ nlx (k2 _ _ nli hl1)
    have nl1x:l1≠x:=fun z=>by rw [z,W1.R.o] at nl1;cases nl1
    have hl13:=k3 _ _ nl1x hl2
    have tgt:TagsAt G3 r.nm (ts ++ (d.tags.drop i).take 1) (ns.take (i + 1)):=by
      have a1:=((tg.same sg).fr fun b xs e=>k2 _ _ (ne_of e W1.P.n (by intro z;cases z)) e).fr kt3
      have a2:=tg2.take1.fr kt3
      rw [← e1]
      exact a1.app a2
    refine ⟨l,l1,_,_,rfl,rfl,hl3,hl13,?_,_,?_,upd_same,tgt.fr ?_,?_,rfl⟩
    · have:((d.tags.drop i).take 1).length≤1:=by rw [List.length_take];exact Nat.min_le_left _ _
      show ts.length + ((d.tags.drop i).take 1).length≤sizeLine
      exact small (by omega)
    · intro b o b1 b2 e
      have b3:b≠l:=fun z=>by rw [z,nl] at e;cases e
      rw [upd_ne b3]
      exact k3 _ _ b1 (k2 _ _ b2 (sg _ _ (fr b o b1 b2 e)))
    · intro b xs e
      rw [upd_ne (ne_of e hl3 (by intro z;cases z))]
      exact e
    · have P3:=P2.off R2.o k3 W.n1 W.n2 W.n3 W.n4
      have hl3':=hl3
      rw [List.drop_drop] at P3
      have W3:Wd yK yG cZ cQ yJ yW yU G3 x (outE r (ns.take (i + 1))) p { d with tags:=d.tags.drop (i + 1) } (ns.drop (i + 1)):=⟨R3,P3,by rw [outE_nm];have:=tg2.drop1.fr kt3;rw [List.drop_drop,List.drop_drop] at this;exact this,W.n1,W.n2,W.n3,W.n4,by rw [outE_il];exact W.n5⟩
      have nil':r.il≠l:=fun z=>by
        obtain ⟨ys,hy,_⟩:=id R.i
        rw [z,nl] at hy
        cases hy
      exact W3.list hl3 nli (by rw [outE_il];exact nil')
  · have ei:i=ns.length:=by omega
    cases hpe:(outE r (ns.take i)).pr with
    | none =>
      exact ⟨rfl,false,rfl,iteF (iteF ⟨_,rfl,done G ei (Same.refl _)⟩)⟩
    | some p' =>
      have ep:p'=p:=by
        unfold outE at hpe
        split at hpe
        · cases hpe
        · have:r.pr=some p':=hpe
          rw [hp] at this
          exact (Option.some.inj this).symm
      subst ep
      refine ⟨rfl,true,rfl,iteT ?_⟩
      refine ⟨_,rfl,x,yK,_,_,_,rfl,WG.R.o,T.cl_Run,T.n_Run_printer,rfl,?_⟩
      rw [hpe]
      refine ⟨p',_,d.dx,_,_,_,rfl,WG.P.o,rfl,T.cl_Printer,D_Printer_within,p',_,rfl,WG.P,fun wl G1 sg nwl hwl=>?_⟩
      refine ⟨!(d.tags.drop i).isEmpty,.inl ⟨_,SqL.of hwl,rfl⟩,?_⟩
      rw [show d.tags.drop i=[] by rw [ei,← ltn,List.drop_length]]
      exact iteF ⟨_,rfl,done G1 ei sg⟩
end
end My
namespace My
open PySem L2
open Blk (sg sg_inj sg_app)
section
variable {P:Program} {w:World} {K:PySem.W.Frag} {mg:Str→Option Value} {base:Heap}
theorem TagsAt.takeN {H:Hp} {nm:Str} {ts:List V} {ns:List Int} (h:TagsAt H nm ts ns) (k:Nat):TagsAt H nm (ts.take k) (ns.take k):=⟨by rw [List.length_take,List.length_take,h.1],fun i y n a b=>by
  rw [List.getElem?_take] at a b
  by_cases c:i < k
  · rw [if_pos c] at a b;exact h.2 i y n a b
  · rw [if_neg c] at a;cases a⟩
noncomputable def takeR (r:RD) (p:Addr):RD:=if r.ps=r.tot then r else { r with pr:=some p,sl:=false }
noncomputable def sp_Rn_take (cR cJ cO cP cS cY cM cW:Addr):Sp:=fun vs H Q E=>∃ x r p2,vs=[.ref x,.ref p2]∧RnAt cR cJ H x r∧(¬ Liv r→OvR cO r H E) ∧
  (Liv r→∃ d2,PrAt cP cS cY cM cW H p2 d2∧d2.S=.rd∧(r.pr=none→∀ l H',(∀ b o,b≠x→H b=some o→H' b=some o)→RnAt cR cJ H' x (takeR r p2)→Q (.ref l) H') ∧
    ∀ p,r.pr=some p→∃ d ns,Wd cR cJ cP cS cY cM cW H x r p d ns∧(ns≠[]→d.S=.rd)∧NW r ns∧∀ l H1 H',Emp cR cJ cP cS cY cM cW H H1 x r p d l ns→(∀ b o,b≠x→H1 b=some o→H' b=some o)→RnAt cR cJ H' x (takeR (outE r ns) p2)→Q (.ref l) H')
theorem sc_Run_take:FnScope ["self","printer","came"] ["self","printer"] (defScope s_Run_take):=⟨rfl,rfl,rfl,by decide +kernel,rfl,by decide +kernel,by decide +kernel⟩
theorem ok_Run_take {fa yQ yZ yX yY yV yJ yW yU yK yG cQ cZ cV cK cG vQ vZ vX vY:Addr} {fd:FuncData} (F:Fun K "take" "Run.take" s_Run_take fa fd) (T:Txt K mg yQ yZ yX yY yV yJ yW yU yK yG cQ cZ cV cK cG vQ vZ vX vY) (X_NotNow:MkXD P w K mg base 1 "NotNow" cK ["self","found"] (sp_one cK "found")) (D_Run_must_go_on:MtE P w K mg base 4 "must_go_on" yK ["self"] (sp_Rn_must_go_on yK yG vZ cZ cQ yJ yW yU)) (D_Printer_stands:MtE P w K mg base 2 "stands" cZ ["self"] (sp_Pr_stands cZ cQ yJ yW yU)) (D_Run_emptied:MtE P w K mg base 5 "emptied" yK ["self"] (sp_Rn_emptied yK yG cZ cQ yJ yW yU)) (D_Run_whole:MtE P w K mg base 3 "whole" yK ["self"] (sp_Rn_whole yK yG cZ cQ yJ yW yU)) :
    FnOk P w K mg base (CXe P w) 6 fa fd ["self","printer"] (sp_Rn_take yK yG vZ cZ cQ yJ yW yU):=by
  refine F.okE sc_Run_take (fun vs H Q E h=>?_) (fun cdv A outer s H vs Q E hr h=>?_)
  · obtain ⟨x,r,p,rfl,_⟩:=h
    rfl
  obtain ⟨x,r,p2,rfl,R,qo,qg⟩:=h
  refine ⟨_,(pss_cons (ps_expr (pe_methE0 4 pass_def (hr.mono (by decide)) (pv 0)))
  (pss_cons (ps_if (pt_cmpR op_ne (pe_methE0 2 pass_def (hr.mono (by decide)) (pv 1)) (pe_gs T.READY rfl) (nomark _)) (pss_one (ps_raise raise_def rfl (pe_makeXD X_NotNow (hr.mono (by decide)) rfl (pa_cons (pe_methE0 2 pass_def (hr.mono (by decide)) (pv 1)) pa_nil)))) pss_nil)
  (pss_cons (ps_set (i:=2) sc_Run_take.nd rfl (by first | exact Or.inl rfl | exact Or.inr rfl) (pe_methE0 5 pass_def (hr.mono (by decide)) (pv 0)))
  (pss_cons (ps_if (pt_not (pt_truth (pe_methE0 3 pass_def (hr.mono (by decide)) (pv 0)) (fun _=>rfl))) (pss_cons (ps_fld (pv 0) (pv 1) rfl)
  (pss_one (ps_fld (pv 0) pe_bl rfl))) pss_nil)
  (pss_one (ps_ret (pv 2))))))),?_⟩
  refine ⟨_,rfl,x,_,r.dx,_,_,_,rfl,R.o,rfl,T.cl_Run,D_Run_must_go_on,x,r,rfl,R,fun lv=>?_,qo⟩
  obtain ⟨d2,P,eS,q1,q2⟩:=qg lv
  refine ⟨_,rfl,p2,_,d2.dx,_,_,_,rfl,P.o,rfl,T.cl_Printer,D_Printer_stands,p2,d2,rfl,P,rfl,_,rfl,iteNS (by rw [eS];rfl) ?_⟩
  refine ⟨_,rfl,x,_,r.dx,_,_,_,rfl,R.o,rfl,T.cl_Run,D_Run_emptied,x,r,rfl,R,fun hp l H1 s1 nl hl=>?_,fun p hp=>?_⟩
  · have R1:=R.same s1
    refine ⟨_,rfl,x,_,_,_,_,_,rfl,R1.o,rfl,T.cl_Run,D_Run_whole,x,r,rfl,R1,false,(by show false=decide (r.ps=r.tot);rw [decide_eq_false lv.2]),iteT ?_⟩
    refine ⟨_,rfl,_,rfl,x,yK,_,_,rfl,R1.o,T.cl_Run,T.n_Run_printer,(by show 6 < 1000;decide),?_⟩
    rw [show V.ref p2=prV (some p2) from rfl,putR_pr]
    have R2:=R1.set r.ps (some p2) r.sl r.br
    refine ⟨_,rfl,x,yK,_,_,rfl,R2.o,T.cl_Run,T.n_Run_slipped,(by show 6 < 1000;decide),?_⟩
    rw [putR_sl]
    refine ⟨_,rfl,q1 hp l _ (fun b o nb e=>by rw [upd_ne nb,upd_ne nb];exact s1 _ _ e) ?_⟩
    unfold takeR
    rw [if_neg lv.2]
    exact R2.set r.ps (some p2) false r.br
  · obtain ⟨d,ns,W,hS,nw,q⟩:=q2 p hp
    refine ⟨d,ns,W,hS,nw,lv.2,fun l H1 em=>?_⟩
    have R1:=em.w.R
    have et:(outE r ns).tot=r.tot:=by unfold outE;split <;> rfl
    refine ⟨_,rfl,x,_,_,_,_,_,rfl,R1.o,rfl,T.cl_Run,D_Run_whole,x,_,rfl,R1,_,rfl,?_⟩
    by_cases c:(outE r ns).ps=(outE r ns).tot
    · rw [decide_eq_true c]
      refine iteF ⟨_,rfl,q l H1 _ em (fun b o _ e=>e) ?_⟩
      unfold takeR
      rw [if_pos c]
      exact R1
    · rw [decide_eq_false c]
      refine iteT ?_
      refine ⟨_,rfl,_,rfl,x,yK,_,_,rfl,R1.o,T.cl_Run,T.n_Run_printer,(by show 6 < 1000;decide),?_⟩
      rw [show V.ref p2=prV (some p2) from rfl,putR_pr]
      have R2:=R1.set (outE r ns).ps (some p2) (outE r ns).sl (outE r ns).br
      refine ⟨_,rfl,x,yK,_,_,rfl,R2.o,T.cl_Run,T.n_Run_slipped,(by show 6 < 1000;decide),?_⟩
      rw [putR_sl]
      refine ⟨_,rfl,q l H1 _ em (fun b o nb e=>by rw [upd_ne nb,upd_ne nb];exact e) ?_⟩
      unfold takeR
      rw [if_neg c]
      exact R2.set (outE r ns).ps (some p2) false (outE r ns).br
theorem putR_br (r:RD) (b:Bool):putF "broken" (.bl b) r.fs=({ r with br:=b }:RD).fs:=by first | rfl | decide +kernel
noncomputable def dropR (r:RD):RD:={ r with br:=!decide (r.ps=r.tot),pr:=none }
noncomputable def sp_Rn_drop (cR cJ cO cP cS cY cM cW:Addr):Sp:=fun vs H Q E=>∃ x r,vs=[.ref x]∧RnAt cR cJ H x r∧(¬ Liv r→OvR cO r H E) ∧
  (Liv r→(r.pr=none→∀ l H',(∀ b o,b≠x→H b=some o→H' b=some o)→l≠x→H' l=some (.lst [])→RnAt cR cJ H' x (dropR r)→Q (.ref l) H') ∧
    ∀ p,r.pr=some p→∃ d ns,Wd cR cJ cP cS cY cM cW H x r p d ns∧(ns≠[]→d.S=.rd)∧NW r ns∧∀ l H1 H',Emp cR cJ cP cS cY cM cW H H1 x r p d l ns→(∀ b o,b≠x→H1 b=some o→H' b=some o)→RnAt cR cJ H' x (dropR (outE r ns))→Q (.ref l) H')
theorem sc_Run_drop:FnScope ["self","came"] ["self"] (defScope s_Run_drop):=⟨rfl,rfl,rfl,by decide +kernel,rfl,by decide +kernel,by decide +kernel⟩
theorem ok_Run_drop {fa yQ yZ yX yY yV yJ yW yU yK yG cQ cZ cV cK cG vQ vZ vX vY:Addr} {fd:FuncData} (F:Fun K "drop" "Run.drop" s_Run_drop fa fd) (T:Txt K mg yQ yZ yX yY yV yJ yW yU yK yG cQ cZ cV cK cG vQ vZ vX vY) (D_Run_must_go_on:MtE P w K mg base 4 "must_go_on" yK ["self"] (sp_Rn_must_go_on yK yG vZ cZ cQ yJ yW yU)) (D_Run_emptied:MtE P w K mg base 5 "emptied" yK ["self"] (sp_Rn_emptied yK yG cZ cQ yJ yW yU)) (D_Run_whole:MtE P w K mg base 3 "whole" yK ["self"] (sp_Rn_whole yK yG cZ cQ yJ yW yU)) :
    FnOk P w K mg base (CXe P w) 6 fa fd ["self"] (sp_Rn_drop yK yG vZ cZ cQ yJ yW yU):=by
  refine F.okE sc_Run_drop (fun vs H Q E h=>?_) (fun cdv A outer s H vs Q E hr h=>?_)
  · obtain ⟨x,r,rfl,_⟩:=h
    rfl
  obtain ⟨x,r,rfl,R,qo,qg⟩:=h
  refine ⟨_,(pss_cons (ps_expr (pe_methE0 4 pass_def (hr.mono (by decide)) (pv 0)))
  (pss_cons (ps_set (i:=1) sc_Run_drop.nd rfl (by first | exact Or.inl rfl | exact Or.inr rfl) (pe_methE0 5 pass_def (hr.mono (by decide)) (pv 0)))
  (pss_cons (ps_fld (pv 0) (pe_not (pe_methE0 3 pass_def (hr.mono (by decide)) (pv 0))) rfl)
  (pss_cons (ps_fld (pv 0) pe_non rfl)
  (pss_one (ps_ret (pv 1))))))),?_⟩
  refine ⟨_,rfl,x,_,r.dx,_,_,_,rfl,R.o,rfl,T.cl_Run,D_Run_must_go_on,x,r,rfl,R,fun lv=>?_,qo⟩
  obtain ⟨q1,q2⟩:=qg lv
  have fin:∀ {H1:Hp} {r1:RD},RnAt yK yG H1 x r1→RnAt yK yG (upd (upd H1 x (.ins yK r1.dx ({ r1 with br:=!decide (r1.ps=r1.tot) }:RD).fs)) x (.ins yK r1.dx (dropR r1).fs)) x (dropR r1):=fun {H1 r1} R1=>(R1.set r1.ps r1.pr r1.sl (!decide (r1.ps=r1.tot))).set r1.ps none r1.sl (!decide (r1.ps=r1.tot))
  refine ⟨_,rfl,x,_,r.dx,_,_,_,rfl,R.o,rfl,T.cl_Run,D_Run_emptied,x,r,rfl,R,fun hp l H1 s1 nl hl=>?_,fun p hp=>?_⟩
  · have R1:=R.same s1
    refine ⟨_,rfl,x,_,_,_,_,_,rfl,R1.o,rfl,T.cl_Run,D_Run_whole,x,r,rfl,R1,_,rfl,?_⟩
    refine ⟨_,rfl,x,yK,_,_,rfl,R1.o,T.cl_Run,T.n_Run_broken,(by show 6 < 1000;decide),?_⟩
    rw [putR_br]
    have R2:=R1.set r.ps r.pr r.sl (!decide (r.ps=r.tot))
    refine ⟨_,rfl,x,yK,_,_,rfl,R2.o,T.cl_Run,T.n_Run_printer,(by show 6 < 1000;decide),?_⟩
    rw [show (V.non)=prV none from rfl,putR_pr]
    have nlx:l≠x:=fun z=>by rw [z,R.o] at nl;cases nl
    exact ⟨_,rfl,q1 hp l _ (fun b o nb e=>by rw [upd_ne nb,upd_ne nb];exact s1 _ _ e) nlx (by rw [upd_ne nlx,upd_ne nlx];exact hl) (fin R1)⟩
  · obtain ⟨d,ns,W,hS,nw,q⟩:=q2 p hp
    refine ⟨d,ns,W,hS,nw,lv.2,fun l H1 em=>?_⟩
    have R1:=em.w.R
    refine ⟨_,rfl,x,_,_,_,_,_,rfl,R1.o,rfl,T.cl_Run,D_Run_whole,x,_,rfl,R1,_,rfl,?_⟩
    refine ⟨_,rfl,x,yK,_,_,rfl,R1.o,T.cl_Run,T.n_Run_broken,(by show 6 < 1000;decide),?_⟩
    rw [putR_br]
    have R2:=R1.set (outE r ns).ps (outE r ns).pr (outE r ns).sl (!decide ((outE r ns).ps=(outE r ns).tot))
    refine ⟨_,rfl,x,yK,_,_,rfl,R2.o,T.cl_Run,T.n_Run_printer,(by show 6 < 1000;decide),?_⟩
    rw [show (V.non)=prV none from rfl,putR_pr]
    exact ⟨_,rfl,q l H1 _ em (fun b o nb e=>by rw [upd_ne nb,upd_ne nb];exact e) (fin R1)⟩
noncomputable def sp_Rn_jam (cR cJ cO cP cS cY cM cW:Addr):Sp:=fun vs H Q E=>∃ x r,∃ k:Nat,vs=[.ref x,.int (k:Int)]∧RnAt cR cJ H x r∧(¬ Liv r→OvR cO r H E) ∧
  (Liv r→∃ p d ns,r.pr=some p∧Wd cR cJ cP cS cY cM cW H x r p d ns∧d.S=.rd∧k≤ns.length∧∀ t st dst il H',(∀ b o,b≠x→b≠p→H b=some o→H' b=some o)→H st=none→H il=none→Wd cR cJ cP cS cY cM cW H' x (outE r (ns.take k)) p { d with st:=st,dst:=dst,S:=.jm,ins:=il,tags:=[] } []→Q (.ref t) H')
theorem sc_Run_jam:FnScope ["self","saved","told"] ["self","saved"] (defScope s_Run_jam):=⟨rfl,rfl,rfl,by decide +kernel,rfl,by decide +kernel,by decide +kernel⟩
theorem ok_Run_jam {fa yQ yZ yX yY yV yJ yW yU yK yG cQ cZ cV cK cG vQ vZ vX vY:Addr} {fd:FuncData} (F:Fun K "jam" "Run.jam" s_Run_jam fa fd) (T:Txt K mg yQ yZ yX yY yV yJ yW yU yK yG cQ cZ cV cK cG vQ vZ vX vY) (D_Run_must_be_placed:MtE P w K mg base 5 "must_be_placed" yK ["self"] (sp_Rn_must_be_placed yK yG vZ cZ cQ yJ yW yU)) (D_Printer_jam:MtE P w K mg base 5 "jam" cZ ["self","saved"] (sp_Pr_jam cZ cQ yJ yW yU)) (D_Run_note_out:MtE P w K mg base 4 "note_out" yK ["self","tags"] (sp_Rn_note_out yK yG cZ cQ yJ yW yU)) :
    FnOk P w K mg base (CXe P w) 6 fa fd ["self","saved"] (sp_Rn_jam yK yG vZ cZ cQ yJ yW yU):=by
  refine F.okE sc_Run_jam (fun vs H Q E h=>?_) (fun cdv A outer s H vs Q E hr h=>?_)
  · obtain ⟨x,r,k,rfl,_⟩:=h
    rfl
  obtain ⟨x,r,k,rfl,R,qo,qg⟩:=h
  refine ⟨_,(pss_cons (ps_expr (pe_methE0 5 pass_def (hr.mono (by decide)) (pv 0)))
  (pss_cons (ps_set (i:=2) sc_Run_jam.nd rfl (by first | exact Or.inl rfl | exact Or.inr rfl) (pe_methE 5 pass_def (hr.mono (by decide)) (pe_fld (pv 0) rfl) (pa_cons (pv 1) pa_nil)))
  (pss_cons (ps_expr (pe_methE 4 pass_def (hr.mono (by decide)) (pv 0) (pa_cons (pe_ix ix_tup (pv 2) pe_int (fun _ _=>rfl)) pa_nil)))
  (pss_one (ps_ret (pv 2)))))),?_⟩
  refine ⟨_,rfl,x,_,r.dx,_,_,_,rfl,R.o,rfl,T.cl_Run,D_Run_must_be_placed,x,r,rfl,R,fun lv=>?_,qo⟩
  obtain ⟨p,d,ns,hp,W,eS,kn,q⟩:=qg lv
  refine ⟨⟨p,hp⟩,?_⟩
  refine ⟨_,rfl,x,yK,r.dx,_,_,rfl,R.o,T.cl_Run,T.n_Run_printer,rfl,?_⟩
  rw [hp]
  have ltn:=W.tg.1
  refine ⟨p,_,d.dx,_,_,_,rfl,W.P.o,rfl,T.cl_Printer,D_Printer_jam,_,rfl,p,d,k,rfl,W.P,eS,by omega,fun t l1 l2 st dst il H1 kp nst nil' nt nl1 ht hl1 hl2 P1=>?_⟩
  have kt:∀ b xs,H b=some (.tup xs)→H1 b=some (.tup xs):=fun b xs e=>kp _ _ (ne_of e W.P.o (by intro z;cases z)) e
  obtain ⟨ys,hy,_⟩:=id R.i
  obtain ⟨jx,jb,ji,jk,jc,je,_⟩:=id R.j
  have fs8:∀ (C dx:Addr) (fs:List (Str×V)),fs.length≠8→HO.ins C dx fs≠.ins cZ d.dx d.fs:=fun C dx fs n z=>by
    injection z with _ _ z
    exact n (by rw [z];rfl)
  have R1:RnAt yK yG H1 x r:=by
    exact { R with o:=kp _ _ (Ne.symm W.n1) R.o,j:=R.j.fr (fun o e=>kp _ _ (ne_of je W.P.o (fs8 _ _ _ (by show 10≠8;decide))) e) kt,i:=R.i.fr (fun o e=>kp _ _ (ne_of hy W.P.o (by intro z;cases z)) e) kt }
  have tg1:TagsAt H1 r.nm (d.tags.take k) (ns.take k):=(W.tg.fr kt).takeN k
  refine ⟨_,rfl,x,_,r.dx,_,_,_,rfl,R1.o,rfl,T.cl_Run,D_Run_note_out,_,rfl,t,_,_,_,rfl,rfl,SqT.of ht,atI_nat (j:=0) rfl,x,r,l1,_,ns.take k,rfl,R1,hl1,tg1,fun H2 k2 R2=>?_⟩
  have nstx:st≠x:=fun z=>by rw [z,R.o] at nst;cases nst
  have P2:=P1.off R1.o k2 W.n1 W.n2 W.n3 nstx
  refine ⟨_,rfl,q t st dst il H2 (fun b o b1 b2 e=>k2 _ _ b1 (kp _ _ b2 e)) nst nil' ⟨R2,P2,⟨rfl,fun i y n a=>by cases a⟩,W.n1,W.n2,W.n3,nstx,?_⟩⟩
  rw [outE_il]
  intro z
  have z':r.il=il:=z
  rw [← z',hy] at nil'
  cases nil'
end
end My
namespace My
open PySem L2
open Blk (sg sg_inj sg_app)
section
variable {P:Program} {w:World} {K:PySem.W.Frag} {mg:Str→Option Value} {base:Heap}
noncomputable def outsN (over:Bool) (ns:List Int):List Int:=if over=true then ns.take 1 else []
noncomputable def restN (over:Bool) (ns:List Int):List Int:=if over=true then ns.drop 1 else ns
structure Stp (cR cJ cP cS cY cM cW:Addr) (H H':Hp) (x:Addr) (r:RD) (p:Addr) (d d':PD) (l:Addr) (outs ns:List Int):Prop where
  fr:∀ b o,b≠x→b≠d.ins→b≠d.tr2→b≠d.ik2→H b=some o→H' b=some o
  nl:H l=none
  l:∃ ts,H' l=some (.lst ts)∧TagsAt H' r.nm ts outs
  w:Wd cR cJ cP cS cY cM cW H' x (outE r outs) p d' ns
theorem take_if {α:Type} {c:Prop} [Decidable c] {over:Bool} (e:decide c=over) (l:List α):(if c then l.take 1 else [])=if over=true then l.take 1 else []:=by
  subst e
  by_cases h:c
  · rw [if_pos h,if_pos (decide_eq_true h)]
  · rw [if_neg h,if_neg (fun z=>h (of_decide_eq_true z))]
theorem drop_if {α:Type} {c:Prop} [Decidable c] {over:Bool} (e:decide c=over) (l:List α):(if c then l.drop 1 else l)=if over=true then l.drop 1 else l:=by
  subst e
  by_cases h:c
  · rw [if_pos h,if_pos (decide_eq_true h)]
  · rw [if_neg h,if_neg (fun z=>h (of_decide_eq_true z))]
theorem TagsAt.outs {H:Hp} {nm:Str} {ts:List V} {ns:List Int} (h:TagsAt H nm ts ns) (over:Bool):TagsAt H nm (if over=true then ts.take 1 else []) (outsN over ns):=by
  unfold outsN
  cases over with
  | true=>rw [if_pos rfl,if_pos rfl];exact h.take1
  | false=>rw [if_neg (by decide),if_neg (by decide)];exact ⟨rfl,fun i y n a=>by simp at a⟩
theorem TagsAt.rest {H:Hp} {nm:Str} {ts:List V} {ns:List Int} (h:TagsAt H nm ts ns) (over:Bool):TagsAt H nm (if over=true then ts.drop 1 else ts) (restN over ns):=by
  unfold restN
  cases over with
  | true=>rw [if_pos rfl,if_pos rfl];exact h.drop1
  | false=>rw [if_neg (by decide),if_neg (by decide)];exact h
theorem next_lo (r:RD) (ns:List Int):-1≤nextN r ns:=by
  unfold nextN
  split <;> omega
noncomputable def sp_Rn_step (cR cJ cO cP cS cY cM cW:Addr):Sp:=fun vs H Q E=>∃ x r,vs=[.ref x]∧RnAt cR cJ H x r∧(¬ Liv r→OvR cO r H E)∧(Liv r→∃ p d ns,Wd cR cJ cP cS cY cM cW H x r p d ns∧r.pr=some p∧d.S=.rd ∧
  (nextN r ns < (r.tot:Int)→d.tags.length≤800∧∃ A,d.am.lookup (useR r (nextN r ns)).1=some A∧1≤A∧(useR r (nextN r ns)).2.1≤d.b∧(useR r (nextN r ns)).2.2≤d.c∧∀ l H' ts over,over=decide (d.path < ((ns.length + 1:Nat):Int)) →
    Stp cR cJ cP cS cY cM cW H H' x r p d { d with am:=setA d.am (useR r (nextN r ns)).1 (A - 1),b:=d.b - (useR r (nextN r ns)).2.1,c:=d.c - (useR r (nextN r ns)).2.2,tags:=ts } l (outsN over (ns ++ [nextN r ns])) (restN over (ns ++ [nextN r ns]))→Q (.ref l) H') ∧
  (¬ nextN r ns < (r.tot:Int)→∀ l H' ts,Stp cR cJ cP cS cY cM cW H H' x r p d { d with tags:=ts } l (ns.take 1) (ns.drop 1)→Q (.ref l) H'))
theorem sc_Run_step:FnScope ["self","tag"] ["self"] (defScope s_Run_step):=⟨rfl,rfl,rfl,by decide +kernel,rfl,by decide +kernel,by decide +kernel⟩
theorem ok_Run_step {fa yQ yZ yX yY yV yJ yW yU yK yG cQ cZ cV cK cG vQ vZ vX vY:Addr} {fd:FuncData} (F:Fun K "step" "Run.step" s_Run_step fa fd) (T:Txt K mg yQ yZ yX yY yV yJ yW yU yK yG cQ cZ cV cK cG vQ vZ vX vY) (D_Run_must_be_placed:MtE P w K mg base 5 "must_be_placed" yK ["self"] (sp_Rn_must_be_placed yK yG vZ cZ cQ yJ yW yU)) (D_Run_upcoming:MtE P w K mg base 3 "upcoming" yK ["self"] (sp_Rn_upcoming yK yG cZ cQ yJ yW yU)) (D_Printer_push:MtE P w K mg base 4 "push" cZ ["self"] (sp_Pr_push cZ cQ yJ yW yU)) (D_Run_fed:MtE P w K mg base 7 "fed" yK ["self","tag"] (sp_Rn_fed yK yG cZ cQ yJ yW yU)) (D_Run_note_out:MtE P w K mg base 4 "note_out" yK ["self","tags"] (sp_Rn_note_out yK yG cZ cQ yJ yW yU)) :
    FnOk P w K mg base (CXe P w) 8 fa fd ["self"] (sp_Rn_step yK yG vZ cZ cQ yJ yW yU):=by
  refine F.okE sc_Run_step (fun vs H Q E h=>?_) (fun cdv A outer s H vs Q E hr h=>?_)
  · obtain ⟨x,r,rfl,_⟩:=h
    rfl
  obtain ⟨x,r,rfl,R0,qo,qg⟩:=h
  refine ⟨_,(pss_cons (ps_expr (pe_methE0 5 pass_def (hr.mono (by decide)) (pv 0)))
  (pss_cons (ps_set (i:=1) sc_Run_step.nd rfl (by first | exact Or.inl rfl | exact Or.inr rfl) (pe_methE0 3 pass_def (hr.mono (by decide)) (pv 0)))
  (pss_one (ps_ret (pe_methE 4 pass_def (hr.mono (by decide)) (pv 0) (pa_cons (pe_ifExp (pt_cmpR op_isN (pv 1) pe_non (nomark _)) (pe_methE0 4 pass_def (hr.mono (by decide)) (pe_fld (pv 0) rfl)) (pe_methE 7 pass_def (hr.mono (by decide)) (pv 0) (pa_cons (pv 1) pa_nil))) pa_nil)))))),?_⟩
  refine ⟨_,rfl,x,_,r.dx,_,_,_,rfl,R0.o,rfl,T.cl_Run,D_Run_must_be_placed,x,r,rfl,R0,fun lv=>?_,qo⟩
  obtain ⟨p,d,ns,W,hp,eS,q1,q2⟩:=qg lv
  refine ⟨⟨p,hp⟩,?_⟩
  refine ⟨_,rfl,x,_,r.dx,_,_,_,rfl,W.R.o,rfl,T.cl_Run,D_Run_upcoming,x,r,rfl,W.R,(fun z=>by rw [hp] at z;cases z),fun p' hp'=>?_⟩
  obtain rfl:p=p':=by rw [hp] at hp';exact Option.some.inj hp'
  refine ⟨d,ns,W.P,W.tg,fun cn t H1 s1 nt ht=>?_,fun cn H1 s1=>?_⟩
  · obtain ⟨lt8,A,la,a1,ub,uc,q⟩:=q1 cn
    have W1:=W.same s1
    refine ⟨_,rfl,x,_,r.dx,_,_,_,rfl,W1.R.o,rfl,T.cl_Run,D_Run_note_out,_,rfl,rfl,false,rfl,iteF ?_⟩
    refine ⟨_,rfl,x,_,r.dx,_,_,_,rfl,W1.R.o,rfl,T.cl_Run,D_Run_fed,_,rfl,x,r,t,_,p,d,A,rfl,W1.R,ht,next_lo _ _,hp,W1.P,eS,la,a1,ub,uc,lt8,fun l H2 k2 nl hl P2=>?_⟩
    have elen:=W.tg.1
    have tg1:=W1.tg.snoc ht
    have h1:=W1.P.n
    have h2:=W1.P.T.2.2.1
    have h3:=W1.P.I.2.2.1
    have tg2:TagsAt H2 r.nm (d.tags ++ [V.ref t]) (ns ++ [nextN r ns]):=tg1.fr fun b xs e=>k2 _ _ (ne_of e h1 (by intro z;cases z)) (ne_of e h2 (by intro z;cases z)) (ne_of e h3 (by intro z;cases z)) e
    have R2:=W1.R.prn W1.P W1.n5 k2
    generalize hov:decide (d.path < ((d.tags.length + 1:Nat):Int))=over at hl
    rw [take_if hov] at hl
    refine ⟨x,r,l,_,outsN over (ns ++ [nextN r ns]),rfl,R2,hl,tg2.outs over,fun H3 k3 R3=>?_⟩
    have nlx:l≠x:=fun z=>by rw [z,W1.R.o] at nl;cases nl
    have kt3:∀ b xs,H2 b=some (.tup xs)→H3 b=some (.tup xs):=fun b xs e=>k3 _ _ (ne_of e R2.o (by intro z;cases z)) e
    refine q l H3 (if over=true then (d.tags ++ [V.ref t]).drop 1 else d.tags ++ [V.ref t]) over (by rw [← hov,elen]) ⟨fun b o e1 e2 e3 e4 e=>k3 _ _ e1 (k2 _ _ e2 e3 e4 (s1 _ _ e)),s1.free nl,⟨_,k3 _ _ nlx hl,(tg2.outs over).fr kt3⟩,?_⟩
    have P3:=P2.off R2.o k3 W.n1 W.n2 W.n3 W.n4
    have ed:feedD d (useR r (nextN r ns)).1 A (useR r (nextN r ns)).2.1 (useR r (nextN r ns)).2.2 (V.ref t)={ d with am:=setA d.am (useR r (nextN r ns)).1 (A - 1),b:=d.b - (useR r (nextN r ns)).2.1,c:=d.c - (useR r (nextN r ns)).2.2,tags:=if over=true then (d.tags ++ [V.ref t]).drop 1 else d.tags ++ [V.ref t] }:=by
      unfold feedD fedD
      rw [drop_if hov]
    rw [ed] at P3
    exact ⟨R3,P3,by rw [outE_nm];exact (tg2.rest over).fr kt3,W.n1,W.n2,W.n3,W.n4,by rw [outE_il];exact W.n5⟩
  · have W1:=W.same s1
    refine ⟨_,rfl,x,_,r.dx,_,_,_,rfl,W1.R.o,rfl,T.cl_Run,D_Run_note_out,_,rfl,rfl,true,rfl,iteT ?_⟩
    refine ⟨_,rfl,x,yK,r.dx,_,_,rfl,W1.R.o,T.cl_Run,T.n_Run_printer,rfl,?_⟩
    rw [hp]
    refine ⟨p,_,d.dx,_,_,_,rfl,W1.P.o,rfl,T.cl_Printer,D_Printer_push,p,d,rfl,W1.P,eS,fun l H2 k2 nl hl P2=>?_⟩
    have k2':∀ b o,b≠d.ins→b≠d.tr2→b≠d.ik2→H1 b=some o→H2 b=some o:=fun b o e1 _ _ e=>k2 b o e1 e
    have tg2:TagsAt H2 r.nm d.tags ns:=W1.tg.fr fun b xs e=>k2 _ _ (ne_of e W1.P.n (by intro z;cases z)) e
    have R2:=W1.R.prn W1.P W1.n5 k2'
    refine ⟨x,r,l,_,ns.take 1,rfl,R2,hl,tg2.take1,fun H3 k3 R3=>?_⟩
    have nlx:l≠x:=fun z=>by rw [z,W1.R.o] at nl;cases nl
    have kt3:∀ b xs,H2 b=some (.tup xs)→H3 b=some (.tup xs):=fun b xs e=>k3 _ _ (ne_of e R2.o (by intro z;cases z)) e
    refine q2 cn l H3 (d.tags.drop 1) ⟨fun b o e1 e2 e3 e4 e=>k3 _ _ e1 (k2 _ _ e2 (s1 _ _ e)),s1.free nl,⟨_,k3 _ _ nlx hl,tg2.take1.fr kt3⟩,?_⟩
    exact ⟨R3,P2.off R2.o k3 W.n1 W.n2 W.n3 W.n4,by rw [outE_nm];exact tg2.drop1.fr kt3,W.n1,W.n2,W.n3,W.n4,by rw [outE_il];exact W.n5⟩
end
end My
namespace My
open PySem L2
open Blk (sg sg_inj sg_app)
section
variable {P:Program} {w:World} {K:PySem.W.Frag} {mg:Str→Option Value} {base:Heap}
noncomputable def inksJ (j:Jv):List (Int×Int):=(laidL j.l j.n).map fun s=>inkS s j.colour
noncomputable def newR (dx jb il:Addr) (nm:Str) (cp:Nat) (j:Jv):RD:=⟨dx,jb,il,nm,cp,j,inksJ j,0,none,false,false⟩
theorem laid_small {l:Ly} {n:Nat} (ok:Ly.Ok l) {i:Nat} {s:List Int×List Int} (h:(laidL l n)[i]?=some s):s.1.length≤100∧s.2.length≤100:=by
  have c:=Ly.cells_pos ok
  unfold laidL at h
  rw [List.getElem?_map] at h
  obtain ⟨k,_,rfl⟩:=Option.map_eq_some_iff.mp h
  unfold sheetL cellsL
  refine ⟨by rw [List.length_map,List.length_range];omega,?_⟩
  dsimp only
  split
  · rw [List.length_map,List.length_range];omega
  · rw [List.length_replicate];omega
theorem laid_len (l:Ly) (n:Nat):(laidL l n).length=cntL l n:=by unfold laidL;rw [List.length_map,List.length_range]
theorem cnt_hi {l:Ly} {n:Nat} (h:1≤n):cntL l n≤n:=by
  unfold cntL
  have:=Nat.div_le_self (n - 1) l.per
  omega
noncomputable def sp_Rn_init (cR cJ:Addr):Sp:=fun vs H Q _=>∃ (x dx jb:Addr) (nm:Str) (cp:Nat) (j:Jv),vs=[.ref x,.ref jb]∧H x=some (.ins cR dx [])∧JobR cJ H jb nm cp j∧j.Ok∧1≤cp∧cp≤99∧jb≠x ∧
  ∀ il H',(∀ b o,b≠x→H b=some o→H' b=some o)→H il=none→RnAt cR cJ H' x (newR dx jb il nm cp j)→Q .non H'
theorem sc_Run_init:FnScope ["self","job"] ["self","job"] (defScope s_Run_init):=⟨rfl,rfl,rfl,by decide +kernel,rfl,by decide +kernel,by decide +kernel⟩
theorem ok_Run_init {fa yQ yZ yX yY yV yJ yW yU yK yG cQ cZ cV cK cG vQ vZ vX vY:Addr} {fd:FuncData} (F:Fun K "__init__" "Run.__init__" s_Run_init fa fd) (T:Txt K mg yQ yZ yX yY yV yJ yW yU yK yG cQ cZ cV cK cG vQ vZ vX vY) (D_ink_of:Dfn P w K mg base 2 "ink_of" ["sheet","colour"] (sp_ink_of K)) (D_sheets_of:Dfn P w K mg base 5 "sheets_of" ["job"] (sp_sheets_of yG)) :
    FnOk P w K mg base CX0 6 fa fd ["self","job"] (sp_Rn_init yK yG):=by
  refine F.ok sc_Run_init (fun vs H Q E h=>?_) (fun cdv A outer s H vs Q E hr h=>?_)
  · obtain ⟨x,dx,jb,nm,cp,j,rfl,_⟩:=h
    rfl
  obtain ⟨x,dx,jb,nm,cp,j,rfl,hx,J,ok,c1,c2,njx,q⟩:=h
  refine ⟨_,(pss_cons (ps_fld (pv 0) (pv 1) rfl)
  (pss_cons (ps_fld (pv 0) (pe_comp (frees:=[("job",1)]) ⟨by decide +kernel,rfl,rfl,by decide +kernel,⟨⟨rfl,rfl,rfl,by decide +kernel⟩,trivial⟩,by decide +kernel,cellsFor_at rfl,rfl⟩ rfl (pi_list (pe_callD D_sheets_of (hr.mono (by decide)) rfl (pa_cons (pv 1) pa_nil))) (fun _ _ _ _=>pifs_nil) (fun _ _ _ _=>by exact (pe_callD D_ink_of (hr.mono (by decide)) rfl (pa_cons (pv 0) (pa_cons (pe_fldK (K:=K) rfl (pv 1) rfl) pa_nil))))) rfl)
  (pss_cons (ps_fld (pv 0) pe_int rfl)
  (pss_cons (ps_fld (pv 0) pe_non rfl)
  (pss_cons (ps_fld (pv 0) pe_bl rfl)
  (pss_one (ps_fld (pv 0) pe_bl rfl))))))),?_⟩
  refine ⟨_,rfl,_,rfl,x,yK,dx,_,rfl,hx,T.cl_Run,T.n_Run_job,(by show 0 < 1000;decide),?_⟩
  rw [putF_add (by show ¬ ("job":Str)∈([]:List Str);decide +kernel),List.nil_append]
  have hx1:upd H x (.ins yK dx [("job",V.ref jb)]) x=some (.ins yK dx [("job",V.ref jb)]):=upd_same
  have k1:∀ b o,b≠x→H b=some o→upd H x (.ins yK dx [("job",V.ref jb)]) b=some o:=fun b o nb e=>by rw [upd_ne nb];exact e
  generalize upd H x (.ins yK dx [("job",V.ref jb)])=H1 at hx1 k1 ⊢
  have J1:JobR yG H1 jb nm cp j:=J.fr (fun o e=>k1 _ _ njx e) (fun b xs e=>k1 _ _ (ne_of e hx (by intro z;cases z)) e)
  obtain ⟨jx,jb',ji,jk,jc,je,jcol⟩:=id J1
  refine ⟨_,rfl,jb,j,rfl,J1.jo,ok,fun pl H2 s2 npl SF=>?_⟩
  obtain ⟨ys,hpl,ly,gy⟩:=SF
  have lc:=laid_len j.l j.n
  have ch:=cnt_hi (l:=j.l) ok.1
  have n9:=ok.2.1
  refine ⟨pl,rfl,⟨_,SqL.of hpl⟩,?_⟩
  refine compB_mk (seq_list (K:=K) (SqL.of hpl)) (fun y z H3=>∀ s,SheetAt H2 y s→∃ t,z=.ref t∧H3 t=some (.tup [.int (inkS s j.colour).1,.int (inkS s j.colour).2])) (small1000 (by omega)) (fun y hy H' R _ rr=>rr) (fun y hy H' R sm rr=>?_) (fun il H3 zs s3 nil' hil lz gz=>?_)
  · obtain ⟨i,ei⟩:=List.mem_iff_getElem?.mp hy
    obtain ⟨s,es⟩:∃ s,(laidL j.l j.n)[i]?=some s:=⟨_,List.getElem?_eq_getElem (by rw [← ly];exact (List.getElem?_eq_some_iff.mp ei).1)⟩
    have sa:=(gy i y s ei es).at
    obtain ⟨l1,l2⟩:=laid_small ok.2.2 es
    refine ⟨_,rfl,_,rfl,jb,yG,jx,_,_,rfl,(s2.trans sm) _ _ je,T.cl_Job,T.n_Job_colour,jF7 _ _ _ _ _ _ _ _ _ _,y,jc,s,j.colour,rfl,sa.same sm,l1,l2,jcol.same (s2.trans sm),fun t H'' s'' nt ht=>?_⟩
    refine rr _ _ s'' ⟨fun b=>b=t,fun b hb=>by subst hb;exact ⟨nt,_,ht⟩,fun H3 h3 s' sa'=>⟨t,rfl,?_⟩⟩
    rw [h3 t rfl,ht]
    obtain ⟨t1,f1,b1,e1,g1,g2,g3⟩:=sa
    obtain ⟨t2,f2,b2,e2,g4,g5,g6⟩:=sa'
    rw [e1] at e2
    cases e2
    rw [g1] at g4
    cases g4
    rw [g2] at g5
    rw [g3] at g6
    have q1:s.1=s'.1:=by injection g5 with g5;injection g5 with g5;exact (List.map_inj_right (fun a b z=>by injection z)).mp g5
    have q2:s.2=s'.2:=by injection g6 with g6;injection g6 with g6;exact (List.map_inj_right (fun a b z=>by injection z)).mp g6
    rw [show s=s' from Prod.ext q1 q2]
  have s13:=s2.trans s3
  have hx3:=s13 _ _ hx1
  have nilx:il≠x:=ne_of hil hx3 (by intro z;cases z)
  have kk:∀ b o,b≠x→H b=some o→H3 b=some o:=fun b o nb e=>s13 _ _ (k1 b o nb e)
  have I3:InksAt H3 il (inksJ j):=by
    refine ⟨zs,hil,by unfold inksJ;rw [List.length_map,lz,ly],fun i z s e1 e2=>?_⟩
    unfold inksJ at e2
    rw [List.getElem?_map] at e2
    obtain ⟨sh,es,rfl⟩:=Option.map_eq_some_iff.mp e2
    obtain ⟨y,ey⟩:∃ y,ys[i]?=some y:=⟨_,List.getElem?_eq_getElem (by rw [ly];exact (List.getElem?_eq_some_iff.mp es).1)⟩
    exact gz i y z ey e1 sh (gy i y sh ey es).at
  have J3:=J1.fr (fun o e=>s13 _ _ e) (fun b xs e=>s13 _ _ e)
  have k1':=k1
  clear gz gy hx1 k1 J1
  refine ⟨_,rfl,x,yK,dx,_,rfl,hx3,T.cl_Run,T.n_Run_inks,(by show 1 < 1000;decide),?_⟩
  rw [putF_add (by show ¬ ("inks":Str)∈(["job"]:List Str);decide +kernel)]
  have hx4:upd H3 x (.ins yK dx (([("job",V.ref jb)]:List (Str×V)) ++ ([("inks",V.ref il)]:List (Str×V)))) x=some (.ins yK dx [("job",V.ref jb),("inks",V.ref il)]):=upd_same
  have e4:∀ b o,b≠x→H3 b=some o→upd H3 x (.ins yK dx (([("job",V.ref jb)]:List (Str×V)) ++ ([("inks",V.ref il)]:List (Str×V)))) b=some o:=fun b o nb e=>by rw [upd_ne nb];exact e
  generalize upd H3 x (.ins yK dx (([("job",V.ref jb)]:List (Str×V)) ++ ([("inks",V.ref il)]:List (Str×V))))=H4 at hx4 e4 ⊢
  refine ⟨_,rfl,x,yK,dx,_,rfl,hx4,T.cl_Run,T.n_Run_passed,(by show 2 < 1000;decide),?_⟩
  rw [putF_add (by show ¬ ("passed":Str)∈(["job","inks"]:List Str);decide +kernel)]
  have hx5:upd H4 x (.ins yK dx (([("job",V.ref jb),("inks",V.ref il)]:List (Str×V)) ++ ([("passed",V.int 0)]:List (Str×V)))) x=some (.ins yK dx [("job",V.ref jb),("inks",V.ref il),("passed",V.int 0)]):=upd_same
  have e5:∀ b o,b≠x→H4 b=some o→upd H4 x (.ins yK dx (([("job",V.ref jb),("inks",V.ref il)]:List (Str×V)) ++ ([("passed",V.int 0)]:List (Str×V)))) b=some o:=fun b o nb e=>by rw [upd_ne nb];exact e
  generalize upd H4 x (.ins yK dx (([("job",V.ref jb),("inks",V.ref il)]:List (Str×V)) ++ ([("passed",V.int 0)]:List (Str×V))))=H5 at hx5 e5 ⊢
  refine ⟨_,rfl,x,yK,dx,_,rfl,hx5,T.cl_Run,T.n_Run_printer,(by show 3 < 1000;decide),?_⟩
  rw [putF_add (by show ¬ ("printer":Str)∈(["job","inks","passed"]:List Str);decide +kernel)]
  have hx6:upd H5 x (.ins yK dx (([("job",V.ref jb),("inks",V.ref il),("passed",V.int 0)]:List (Str×V)) ++ ([("printer",V.non)]:List (Str×V)))) x=some (.ins yK dx [("job",V.ref jb),("inks",V.ref il),("passed",V.int 0),("printer",V.non)]):=upd_same
  have e6:∀ b o,b≠x→H5 b=some o→upd H5 x (.ins yK dx (([("job",V.ref jb),("inks",V.ref il),("passed",V.int 0)]:List (Str×V)) ++ ([("printer",V.non)]:List (Str×V)))) b=some o:=fun b o nb e=>by rw [upd_ne nb];exact e
  generalize upd H5 x (.ins yK dx (([("job",V.ref jb),("inks",V.ref il),("passed",V.int 0)]:List (Str×V)) ++ ([("printer",V.non)]:List (Str×V))))=H6 at hx6 e6 ⊢
  refine ⟨_,rfl,x,yK,dx,_,rfl,hx6,T.cl_Run,T.n_Run_slipped,(by show 4 < 1000;decide),?_⟩
  rw [putF_add (by show ¬ ("slipped":Str)∈(["job","inks","passed","printer"]:List Str);decide +kernel)]
  have hx7:upd H6 x (.ins yK dx (([("job",V.ref jb),("inks",V.ref il),("passed",V.int 0),("printer",V.non)]:List (Str×V)) ++ ([("slipped",V.bl false)]:List (Str×V)))) x=some (.ins yK dx [("job",V.ref jb),("inks",V.ref il),("passed",V.int 0),("printer",V.non),("slipped",V.bl false)]):=upd_same
  have e7:∀ b o,b≠x→H6 b=some o→upd H6 x (.ins yK dx (([("job",V.ref jb),("inks",V.ref il),("passed",V.int 0),("printer",V.non)]:List (Str×V)) ++ ([("slipped",V.bl false)]:List (Str×V)))) b=some o:=fun b o nb e=>by rw [upd_ne nb];exact e
  generalize upd H6 x (.ins yK dx (([("job",V.ref jb),("inks",V.ref il),("passed",V.int 0),("printer",V.non)]:List (Str×V)) ++ ([("slipped",V.bl false)]:List (Str×V))))=H7 at hx7 e7 ⊢
  refine ⟨_,rfl,x,yK,dx,_,rfl,hx7,T.cl_Run,T.n_Run_broken,(by show 5 < 1000;decide),?_⟩
  rw [putF_add (by show ¬ ("broken":Str)∈(["job","inks","passed","printer","slipped"]:List Str);decide +kernel)]
  have hx8:upd H7 x (.ins yK dx (([("job",V.ref jb),("inks",V.ref il),("passed",V.int 0),("printer",V.non),("slipped",V.bl false)]:List (Str×V)) ++ ([("broken",V.bl false)]:List (Str×V)))) x=some (.ins yK dx [("job",V.ref jb),("inks",V.ref il),("passed",V.int 0),("printer",V.non),("slipped",V.bl false),("broken",V.bl false)]):=upd_same
  have e8:∀ b o,b≠x→H7 b=some o→upd H7 x (.ins yK dx (([("job",V.ref jb),("inks",V.ref il),("passed",V.int 0),("printer",V.non),("slipped",V.bl false)]:List (Str×V)) ++ ([("broken",V.bl false)]:List (Str×V)))) b=some o:=fun b o nb e=>by rw [upd_ne nb];exact e
  generalize upd H7 x (.ins yK dx (([("job",V.ref jb),("inks",V.ref il),("passed",V.int 0),("printer",V.non),("slipped",V.bl false)]:List (Str×V)) ++ ([("broken",V.bl false)]:List (Str×V))))=H8 at hx8 e8 ⊢
  have e38:∀ b o,b≠x→H3 b=some o→H8 b=some o:=fun b o nb e=>e8 b o nb (e7 b o nb (e6 b o nb (e5 b o nb (e4 b o nb e))))
  have kt:∀ b xs,H3 b=some (.tup xs)→H8 b=some (.tup xs):=fun b xs e=>e38 _ _ (ne_of e hx3 (by intro z;cases z)) e
  have il0:H il=none:=by
    cases e:H il with
    | none=>rfl
    | some u =>
      rw [s2 _ _ (k1' _ _ nilx e)] at nil'
      cases nil'
  exact q il H8 (fun b o nb e=>e38 _ _ nb (kk b o nb e)) il0 { o:=hx8,j:=J3.fr (fun o e=>e38 _ _ njx e) kt,i:=I3.fr (fun o e=>e38 _ _ nilx e) kt,n:=njx,c1:=c1,c2:=c2,i1:=by unfold newR inksJ;rw [List.length_map,lc];unfold cntL;exact Nat.le_add_left 1 _,i2:=by unfold newR inksJ;rw [List.length_map,lc];omega }
end
end My
namespace My
open PySem L2
open Blk (sg sg_inj sg_app)
section
variable {P:Program} {w:World} {K:PySem.W.Frag} {mg:Str→Option Value} {base:Heap}
theorem seq_cut {a rest:TS} {D:Ends} {σ:St} {H:Hp} (P:St→Hp→Prop) (h1:∀ R:St→Hp→Prop,(∀ σ H,P σ H→R σ H)→a { D with nx:=R } σ H) (h2:∀ σ H,P σ H→rest D σ H):tSeq a rest D σ H:=h1 _ h2
noncomputable def sp__law_is (_K:PySem.W.Frag):Sp:=fun vs H Q _=>∃ n:Int,vs=[.int n,.int n]∧Q (.bl true) H
theorem sc__law_is:FnScope ["_law_num","_law_due"] ["_law_num","_law_due"] (defScope s__law_is):=⟨rfl,rfl,rfl,by decide +kernel,rfl,by decide +kernel,by decide +kernel⟩
theorem ok__law_is {fa yQ yZ yX yY yV yJ yW yU yK yG cQ cZ cV cK cG vQ vZ vX vY:Addr} {fd:FuncData} (F:Fun K "_law_is" "_law_is" s__law_is fa fd) (T:Txt K mg yQ yZ yX yY yV yJ yW yU yK yG cQ cZ cV cK cG vQ vZ vX vY)  :
    FnOk P w K mg base CX0 1 fa fd ["_law_num","_law_due"] (sp__law_is K):=by
  refine F.ok sc__law_is (fun vs H Q E h=>?_) (fun cdv A outer s H vs Q E hr h=>?_)
  · obtain ⟨n,rfl,_⟩:=h
    rfl
  obtain ⟨n,rfl,q⟩:=h
  refine ⟨_,(pss_one (ps_ret (pe_and (pe_callB call_isi rfl T.isinstance bt_isi (pa_cons (pv 0) (pa_cons (pe_bltn rfl T.int bt_int (rel_ty _)) pa_nil))) (pe_and (pe_not (pe_callB call_isi rfl T.isinstance bt_isi (pa_cons (pv 0) (pa_cons (pe_bltn rfl T.bool bt_bool (rel_ty _)) pa_nil)))) (pe_one (pe_cmpR op_eq (pv 0) (pv 1) (nomark _))))))),?_⟩
  refine ⟨_,rfl,_,_,_,true,rfl,TyOf.int _,kit_same _,true,rfl,iteT ?_⟩
  refine ⟨_,rfl,_,_,_,false,rfl,TyOf.int _,kit_int_bool _,false,rfl,true,rfl,iteT ?_⟩
  refine ⟨_,rfl,_,rfl,rfl,?_⟩
  rw [decide_eq_true rfl]
  exact q
noncomputable def sp__law_tags (_K:PySem.W.Frag):Sp:=fun vs H Q _=>∃ (a b:Addr) (nm:Str) (ts us:List V) (ns:List Int),vs=[.ref a,.ref b]∧H a=some (.lst ts)∧H b=some (.lst us)∧TagsAt H nm ts ns∧TagsAt H nm us ns∧ns.length≤900∧Q (.bl true) H
theorem sc__law_tags:FnScope ["_law_told","_law_due","_law_k"] ["_law_told","_law_due"] (defScope s__law_tags):=⟨rfl,rfl,rfl,by decide +kernel,rfl,by decide +kernel,by decide +kernel⟩
theorem ok__law_tags {fa yQ yZ yX yY yV yJ yW yU yK yG cQ cZ cV cK cG vQ vZ vX vY:Addr} {fd:FuncData} (F:Fun K "_law_tags" "_law_tags" s__law_tags fa fd) (T:Txt K mg yQ yZ yX yY yV yJ yW yU yK yG cQ cZ cV cK cG vQ vZ vX vY) (D__law_is:Dfn P w K mg base 1 "_law_is" ["_law_num","_law_due"] (sp__law_is K)) :
    FnOk P w K mg base CX0 2 fa fd ["_law_told","_law_due"] (sp__law_tags K):=by
  refine F.ok sc__law_tags (fun vs H Q E h=>?_) (fun cdv A outer s H vs Q E hr h=>?_)
  · obtain ⟨a,b,nm,ts,us,ns,rfl,_⟩:=h
    rfl
  obtain ⟨a,b,nm,ts,us,ns,rfl,ha,hb,ta,tb,l9,q⟩:=h
  have hu:=hu_n hr 0 (by decide)
  refine ⟨_,(pss_cons (ps_if (PW.pt (pw_or (pt_not (pt_truth (pe_callB call_isi rfl T.isinstance bt_isi (pa_cons (pv 0) (pa_cons (pe_bltn rfl T.list bt_list (rel_ty _)) pa_nil))) (fun _=>rfl))) (pw_or1 (pt_cmpR op_ne (pe_callB call_len_seq rfl T.len PySem.boot_len (pa_cons (pv 0) pa_nil)) (pe_callB call_len_seq rfl T.len PySem.boot_len (pa_cons (pv 1) pa_nil)) (nomark _))))) (pss_one (ps_ret pe_bl)) pss_nil)
  (pss_cons (ps_for PassesOwn.never rfl (pi_range1 rfl T.range (pa_cons (pe_callB call_len_seq rfl T.len PySem.boot_len (pa_cons (pv 1) pa_nil)) pa_nil)) (pg_name (i:=2) sc__law_tags.nd rfl (by first | exact Or.inl rfl | exact Or.inr rfl))
  (pss_one (ps_if (PW.pt (pw_or (pt_not (pt_truth (pe_callB call_isi rfl T.isinstance bt_isi (pa_cons (pe_ix ix_listA (pv 0) (pv 2) (fun _ _=>rfl)) (pa_cons (pe_bltn rfl T.tuple bt_tuple (rel_ty _)) pa_nil))) (fun _=>rfl))) (pw_or (pt_cmpR (op_ne_dq (n:=0) hu) (pe_ix ix_listA (pv 0) (pv 2) (fun _ _=>rfl)) (pe_ix ix_listA (pv 1) (pv 2) (fun _ _=>rfl)) (nomark _)) (pw_or1 (pt_not (pt_truth (pe_callD D__law_is (hr.mono (by decide)) rfl (pa_cons (pe_ix ix_tup (pe_ix ix_listA (pv 0) (pv 2) (fun _ _=>rfl)) pe_int (fun _ _=>rfl)) (pa_cons (pe_ix ix_tup (pe_ix ix_listA (pv 1) (pv 2) (fun _ _=>rfl)) pe_int (fun _ _=>rfl)) pa_nil))) (fun _=>rfl))))))) (pss_one (ps_ret pe_bl)) pss_nil)))
  (pss_one (ps_ret pe_bl)))),?_⟩
  have e1:=ta.1
  have e2:=tb.1
  refine ⟨_,rfl,_,_,_,true,rfl,TyOf.lst ha,kit_same _,true,rfl,iteF ?_⟩
  refine ⟨_,rfl,a,_,rfl,.inl (SqL.of ha),_,rfl,b,_,rfl,.inl (SqL.of hb),rfl,false,by rw [e1,e2,decide_eq_true rfl];rfl,iteF ?_⟩
  refine ⟨_,rfl,b,_,rfl,.inl (SqL.of hb),_,rfl,by omega,by omega,?_⟩
  rw [Int.toNat_natCast]
  refine for_range (lo:=0) (n:=us.length) (fun i σ G=>G=H∧∃ v2:Option V,σ=[some (.ref a),some (.ref b),v2]) ⟨rfl,_,rfl⟩ (fun i σ G hi z=>?_) (fun σ G z=>?_)
  · obtain ⟨rfl,v2,rfl⟩:=z
    obtain ⟨n,en⟩:∃ n,ns[i]?=some n:=⟨_,List.getElem?_eq_getElem (by omega)⟩
    obtain ⟨ya,ea⟩:∃ y,ts[i]?=some y:=⟨_,List.getElem?_eq_getElem (by omega)⟩
    obtain ⟨yb,eb⟩:∃ y,us[i]?=some y:=⟨_,List.getElem?_eq_getElem (by omega)⟩
    obtain ⟨t,rfl,ht⟩:=ta.2 i ya n ea en
    obtain ⟨u,rfl,hu'⟩:=tb.2 i yb n eb en
    have ix:((0:Int) + (i:Int)).toNat=i:=by omega
    have gA:∀ {v:V},ts[((0:Int) + (i:Int)).toNat]?=some v→v=.ref t:=fun hv=>by rw [ix,ea] at hv;exact (Option.some.inj hv).symm
    have gB:∀ {v:V},us[((0:Int) + (i:Int)).toNat]?=some v→v=.ref u:=fun hv=>by rw [ix,eb] at hv;exact (Option.some.inj hv).symm
    refine ⟨_,rfl,_,rfl,a,_,_,rfl,rfl,SqL.of ha,by omega,by omega,fun v hv=>?_⟩
    obtain rfl:=gA hv
    refine ⟨_,_,_,true,rfl,TyOf.tup ht,kit_same _,true,rfl,iteF ?_⟩
    refine ⟨_,rfl,_,rfl,a,_,_,rfl,rfl,SqL.of ha,by omega,by omega,fun v hv=>?_⟩
    obtain rfl:=gA hv
    refine ⟨_,rfl,_,rfl,b,_,_,rfl,rfl,SqL.of hb,by omega,by omega,fun v hv=>?_⟩
    obtain rfl:=gB hv
    refine ⟨t,u,_,_,rfl,rfl,.inr ⟨SqT.of ht,SqT.of hu'⟩,rfl,fun k hk=>?_,false,rfl,iteF ?_⟩
    · have:k=0∨k=1:=by have:k < 2:=hk;omega
      rcases this with rfl | rfl <;> exact ⟨rfl,rfl⟩
    refine ⟨_,rfl,_,rfl,a,_,_,rfl,rfl,SqL.of ha,by omega,by omega,fun v hv=>?_⟩
    obtain rfl:=gA hv
    refine ⟨t,_,_,_,rfl,rfl,SqT.of ht,atI_nat (j:=1) rfl,?_⟩
    refine ⟨_,rfl,_,rfl,b,_,_,rfl,rfl,SqL.of hb,by omega,by omega,fun v hv=>?_⟩
    obtain rfl:=gB hv
    exact ⟨u,_,_,_,rfl,rfl,SqT.of hu',atI_nat (j:=1) rfl,n,rfl,true,rfl,iteF ⟨rfl,_,rfl⟩⟩
  · obtain ⟨rfl,_⟩:=z
    exact q
theorem up_head {n:Nat} (h1:2≤n) (h2:n≤16):Txt.slice (Ly.text (.up n)) none (some 3)=Str.ofString "up:"∧(Ly.text (.up n)).length≤20:=by
  have all:∀ n:Fin 17,2≤n.val→Txt.slice (Ly.text (.up n.val)) none (some 3)=Str.ofString "up:"∧(Ly.text (.up n.val)).length≤20:=by decide +kernel
  exact all ⟨n,by omega⟩ h1
noncomputable def sp__law_each (_K:PySem.W.Frag):Sp:=fun vs H Q _=>∃ (n:Nat) (l:Ly),vs=[.int (n:Int),.str (Ly.text l)]∧Ly.Ok l∧1≤n∧n≤999∧Q (.int ((cntL l n:Nat):Int)) H
theorem sc__law_each:FnScope ["_law_pages","_law_layout","_law_per"] ["_law_pages","_law_layout"] (defScope s__law_each):=⟨rfl,rfl,rfl,by decide +kernel,rfl,by decide +kernel,by decide +kernel⟩
theorem ok__law_each {fa yQ yZ yX yY yV yJ yW yU yK yG cQ cZ cV cK cG vQ vZ vX vY:Addr} {fd:FuncData} (F:Fun K "_law_each" "_law_each" s__law_each fa fd) (T:Txt K mg yQ yZ yX yY yV yJ yW yU yK yG cQ cZ cV cK cG vQ vZ vX vY)  :
    FnOk P w K mg base CX0 1 fa fd ["_law_pages","_law_layout"] (sp__law_each K):=by
  refine F.ok sc__law_each (fun vs H Q E h=>?_) (fun cdv A outer s H vs Q E hr h=>?_)
  · obtain ⟨n,l,rfl,_⟩:=h
    rfl
  obtain ⟨n,l,rfl,ok,n1,n9,q⟩:=h
  refine ⟨_,(pss_cons (ps_set (i:=2) sc__law_each.nd rfl (by first | exact Or.inl rfl | exact Or.inr rfl) pe_int)
  (pss_cons (ps_if (pt_cmpR op_eq (pv 1) pe_str (nomark _)) (pss_one (ps_set (i:=2) sc__law_each.nd rfl (by first | exact Or.inl rfl | exact Or.inr rfl) pe_int)) pss_nil)
  (pss_cons (ps_if (pt_cmpR op_eq (pe_slice sl_str (pv 1) po_none (po_some pe_int)) pe_str (nomark _)) (pss_one (ps_set (i:=2) sc__law_each.nd rfl (by first | exact Or.inl rfl | exact Or.inr rfl) (pe_op op_mul pe_int (pe_callTy call_int_text rfl T.int bt_int (pa_cons (pe_slice sl_str (pv 1) (po_some pe_int) po_none) pa_nil))))) pss_nil)
  (pss_one (ps_ret (pe_op op_fdiv (pe_op op_sub (pe_op op_add (pv 0) (pv 2)) pe_int) (pv 2))))))),?_⟩
  have hp:=Ly.per_pos ok
  have fin:∀ k:Int,k=(l.per:Int)→Q (.int (((n:Int) + k - 1) / k)) H:=fun k ek=>by
    have e:((n:Int) + (l.per:Int) - 1) / (l.per:Int)=((cntL l n:Nat):Int):=by
      rw [show (n:Int) + (l.per:Int) - 1=((n - 1 + l.per:Nat):Int) from by omega,← Int.natCast_ediv,Nat.add_div_right _ (by omega)]
      rfl
    rw [ek,e]
    exact q
  have tail:∀ k:Int,k=(l.per:Int)→k < 1000→0 < k→tRet (tOp (rI CDiv fun i j=>.int (i / j)) (tOp (rI0 fun i j=>.int (i - j)) (tOp (rI0 fun i j=>.int (i + j)) (tVar 0) (tVar 2)) (tC (.int 1))) (tVar 2)) { nx:=fun _ H'=>Q .non H',rt:=Q } [some (.int (n:Int)),some (.str (Ly.text l)),some (.int k)] H:=fun k ek k1 k0=>⟨_,rfl,_,rfl,_,_,rfl,rfl,_,_,rfl,rfl,_,rfl,_,_,rfl,rfl,⟨k0,by omega⟩,fin k ek⟩
  refine ⟨_,rfl,rfl,_,rfl,?_⟩
  cases l with
  | one =>
    refine iteNo (by decide +kernel) ⟨_,rfl,_,rfl,_,rfl,(by decide +kernel),rfl,_,rfl,iteNo (by decide +kernel) ?_⟩
    exact tail 1 rfl (by decide) (by decide)
  | both =>
    refine iteYes rfl ⟨_,rfl,_,rfl,_,rfl,(by decide +kernel),rfl,_,rfl,iteNo (by decide +kernel) ?_⟩
    exact tail 2 rfl (by decide) (by decide)
  | up n' =>
    obtain ⟨u1,u2,u3,u4,u5⟩:=up_one ok.1 ok.2
    obtain ⟨h1,h2⟩:=up_head ok.1 ok.2
    have n6:n'≤16:=ok.2
    have n2:2≤n':=ok.1
    refine iteNo (by intro z;injection z with z;exact u4 z) ⟨_,rfl,_,rfl,_,rfl,small (by omega),rfl,_,rfl,?_⟩
    rw [h1]
    refine iteYes rfl ⟨_,rfl,_,rfl,_,rfl,small (by omega),_,_,rfl,u1,Nat.le_trans u2 (by decide),_,_,rfl,rfl,.inl ⟨by decide,by decide⟩,?_⟩
    refine tail (2 * (n':Int)) ?_ (by omega) (by omega)
    show _=((2 * n':Nat):Int)
    omega
noncomputable def itm (b j:Nat):Int:=if j=0 then -1 else ((b + j - 1:Nat):Int)
noncomputable def win (b a f:Nat):List Int:=(List.range (f - a)).map fun i=>itm b (a + i)
theorem win_len (b a f:Nat):(win b a f).length=f - a:=by unfold win;rw [List.length_map,List.length_range]
theorem win_same (b a:Nat):win b a a=[]:=by unfold win;rw [Nat.sub_self];rfl
theorem win_snoc {b a f:Nat} (h:a≤f):win b a f ++ [itm b f]=win b a (f + 1):=by
  unfold win
  rw [show f + 1 - a=(f - a) + 1 by omega,List.range_succ,List.map_append]
  show _=_ ++ [itm b (a + (f - a))]
  rw [show a + (f - a)=f by omega]
theorem win_take {b a f k:Nat} (h:a + k≤f):(win b a f).take k=win b a (a + k):=by
  unfold win
  rw [← List.map_take,List.take_range,show min k (f - a)=a + k - a by omega]
theorem win_cons {b a f:Nat} (h:a < f):win b a f=itm b a :: win b (a + 1) f:=by
  unfold win
  rw [show f - a=(f - (a + 1)) + 1 by omega,List.range_succ_eq_map,List.map_cons,List.map_map]
  congr 1
  refine List.map_congr_left fun i _=>?_
  show itm b (a + (i + 1))=itm b (a + 1 + i)
  rw [show a + (i + 1)=a + 1 + i by omega]
noncomputable def shN (b a f:Nat):Nat:=if a=0 then f - 1 else f - a
theorem itm_ne {b j:Nat} (h:j≠0):itm b j≠-1:=by
  unfold itm
  rw [if_neg h]
  omega
theorem itm_lo (b j:Nat):-1≤itm b j:=by
  unfold itm
  split <;> omega
theorem sheets_win (b a:Nat):∀ k,sheetsN (win b a (a + k))=shN b a (a + k)
  | 0=>by
    rw [Nat.add_zero,win_same]
    unfold shN
    split
    · next h=>rw [h];rfl
    · rw [Nat.sub_self];rfl
  | k + 1=>by
    have ih:=sheets_win b a k
    rw [← Nat.add_assoc,← win_snoc (by omega),sheets_app,ih]
    by_cases c:a + k=0
    · have e1:itm b (a + k)=-1:=by unfold itm;rw [if_pos c]
      rw [e1]
      unfold shN
      rw [if_pos (by omega),if_pos (by omega),c]
      rfl
    · have e1:sheetsN [itm b (a + k)]=1:=by
        unfold sheetsN
        rw [List.countP_cons,decide_eq_true (itm_ne c)]
        rfl
      rw [e1]
      unfold shN
      split <;> omega
noncomputable def R4 (r:RD) (p:Addr) (b M a:Nat):RD:={ r with ps:=b + (a - 1),sl:=decide (1≤a),pr:=if a=M then none else some p }
theorem next_win {r:RD} {p:Addr} {b M a f:Nat} (h:a≤f):nextN (R4 r p b M a) (win b a f)=itm b f:=by
  have es:=sheets_win b a (f - a)
  rw [show a + (f - a)=f by omega] at es
  unfold nextN
  by_cases c:(R4 r p b M a).sl=false∧win b a f=[]
  · rw [if_pos c]
    have h1:¬ 1≤a:=of_decide_eq_false c.1
    have h2:=congrArg List.length c.2
    rw [win_len] at h2
    have h3:f - a=0:=h2
    unfold itm
    rw [if_pos (by omega)]
  · rw [if_neg c,es]
    have h4:f≠0:=fun z=>c ⟨decide_eq_false (by omega),by rw [z,show a=0 by omega];exact win_same b 0⟩
    unfold itm shN
    rw [if_neg h4]
    show ((b + (a - 1) + (if a=0 then f - 1 else f - a):Nat):Int)=_
    split <;> omega
theorem slip_win {sl:Bool} {b a f:Nat} (h:a < f) (e:sl=decide (1≤a)):slipN sl (win b a f)=decide (1≤f):=by
  unfold slipN
  rw [decide_eq_true (show 1≤f by omega),e]
  by_cases c:1≤a
  · rw [decide_eq_true c];rfl
  · rw [win_cons h,List.any_cons,show itm b a=-1 by unfold itm;rw [if_pos (by omega)]]
    simp
theorem outR_win {r:RD} {p:Addr} {b M a f:Nat} (h:a≤f):(outR (R4 r p b M a) (win b a f)).ps=b + (f - 1)∧(outR (R4 r p b M a) (win b a f)).sl=decide (1≤f):=by
  have es:=sheets_win b a (f - a)
  rw [show a + (f - a)=f by omega] at es
  refine ⟨?_,?_⟩
  · show b + (a - 1) + sheetsN (win b a f)=_
    rw [es]
    unfold shN
    split <;> omega
  · show slipN (decide (1≤a)) (win b a f)=_
    by_cases c:a < f
    · exact slip_win c rfl
    · rw [show f=a by omega,win_same]
      unfold slipN
      simp
theorem out_win {r:RD} {p:Addr} {b M a f:Nat} (hM:r.tot + 1=b + M) (h2:2≤M) (h:a≤f) (hf:f≤M) (ha:a < M):outE (R4 r p b M a) (win b a f)=R4 r p b M f:=by
  obtain ⟨e1,e2⟩:=outR_win (r:=r) (p:=p) (b:=b) (M:=M) h
  have et:(R4 r p b M a).tot=r.tot:=rfl
  have full:outR (R4 r p b M a) (win b a f)={ R4 r p b M a with ps:=b + (f - 1),sl:=decide (1≤f) }:=by
    have g:outR (R4 r p b M a) (win b a f)={ R4 r p b M a with ps:=(outR (R4 r p b M a) (win b a f)).ps,sl:=(outR (R4 r p b M a) (win b a f)).sl }:=rfl
    rw [g,e1,e2]
  unfold outE
  rw [et,e1,full]
  unfold R4
  by_cases c:f=M
  · rw [if_pos (by omega),if_pos c]
  · rw [if_neg (by omega),if_neg c,if_neg (by omega)]
theorem nw_win {r:RD} {p:Addr} {b M a f:Nat} (hM:r.tot + 1=b + M) (h2:2≤M) (h:a≤f) (hf:f≤M):NW (R4 r p b M a) (win b a f):=fun i hi=>by
  rw [win_len] at hi
  rw [win_take (by omega),(outR_win (by omega)).1]
  show b + (a + i - 1)≠r.tot
  omega
theorem liv_4 {r:RD} {p:Addr} {b M a:Nat} (hb:r.br=false) (hM:r.tot + 1=b + M) (h2:2≤M) (h:a < M):Liv (R4 r p b M a):=⟨hb,by show b + (a - 1)≠r.tot;omega⟩
theorem dead_4 {r:RD} {p:Addr} {b M:Nat} (hM:r.tot + 1=b + M) (h2:2≤M):(R4 r p b M M).ps=r.tot:=by show b + (M - 1)=r.tot;omega
theorem up_small:∀ u:Nat,u < 17→((u:Int)).natAbs.log2 < 1920∧(Str.ofString "up:").length + (Str.ofString (toString (u:Int))).length≤1000:=by decide +kernel
theorem new_triv {H H':Hp} {G:Prop} (g:G):New H H' (fun _=>G):=⟨fun _=>False,fun _ z=>z.elim,fun _ _=>g⟩
end
end My
namespace My
open PySem L2
open Blk (sg sg_inj sg_app)
section
variable {P:Program} {w:World} {K:PySem.W.Frag} {mg:Str→Option Value} {base:Heap}
theorem look_setA1 {n:Str} {u v:Int}:(setA [(n,u)] n v).lookup n=some v:=by
  unfold setA
  show List.lookup n [if n=n then (n,v) else (n,u)]=_
  rw [if_pos rfl,List.lookup_cons,beq_self_eq_true]
structure Pnew (cP cS cY cM cW:Addr) (H0 H:Hp) (p:Addr) (d:PD) (nm kd:Str) (path:Int):Prop where
  P:PrAt cP cS cY cM cW H p d
  nm:d.name=nm
  pa:d.path=path
  am:d.am.lookup kd=some 500
  b:d.b=9999
  c:d.c=9999
  tg:d.tags=[]
  S:d.S=.rd
  np:H0 p=none
  ni:H0 d.ins=none
  n1:H0 d.tr1=none
  n2:H0 d.tr2=none
  n3:H0 d.ik1=none
  n4:H0 d.ik2=none
theorem Pnew.same {cP cS cY cM cW:Addr} {H0 H H':Hp} {p:Addr} {d:PD} {nm kd:Str} {path:Int} (h:Pnew cP cS cY cM cW H0 H p d nm kd path) (s:Same H H'):Pnew cP cS cY cM cW H0 H' p d nm kd path:={ h with P:=h.P.same s }
theorem Pnew.old {cP cS cY cM cW:Addr} {H0 H1 H:Hp} {p:Addr} {d:PD} {nm kd:Str} {path:Int} (h:Pnew cP cS cY cM cW H1 H p d nm kd path) (s:Same H0 H1):Pnew cP cS cY cM cW H0 H p d nm kd path:={ h with np:=s.free h.np,ni:=s.free h.ni,n1:=s.free h.n1,n2:=s.free h.n2,n3:=s.free h.n3,n4:=s.free h.n4 }
noncomputable def sp__law_printer (cP cS cY cM cW:Addr):Sp:=fun vs H Q _=>∃ (nm kd:Str) (path:Int),vs=[.str nm,.int path,.str kd]∧∀ p d H',Same H H'→Pnew cP cS cY cM cW H H' p d nm kd path→Q (.ref p) H'
theorem sc__law_printer:FnScope ["_law_name","_law_path","_law_kind","_law_printer_here"] ["_law_name","_law_path","_law_kind"] (defScope s__law_printer):=⟨rfl,rfl,rfl,by decide +kernel,rfl,by decide +kernel,by decide +kernel⟩
theorem ok__law_printer {fa yQ yZ yX yY yV yJ yW yU yK yG cQ cZ cV cK cG vQ vZ vX vY:Addr} {fd:FuncData} (F:Fun K "_law_printer" "_law_printer" s__law_printer fa fd) (T:Txt K mg yQ yZ yX yY yV yJ yW yU yK yG cQ cZ cV cK cG vQ vZ vX vY) (M_Printer:MkD P w K mg base 4 "Printer" cZ ["self","name","can","path","papers","black","colour"] (sp_Pr_init cZ cQ yJ yW yU)) (D_Printer_load:MtE P w K mg base 7 "load" cZ ["self","kind","many"] (sp_Pr_load cZ cQ yJ yW yU)) (D_Printer_fill:MtE P w K mg base 6 "fill" cZ ["self","black","coloured"] (sp_Pr_fill cZ cQ yJ yW yU)) :
    FnOk P w K mg base CX0 8 fa fd ["_law_name","_law_path","_law_kind"] (sp__law_printer cZ cQ yJ yW yU):=by
  refine F.ok sc__law_printer (fun vs H Q E h=>?_) (fun cdv A outer s H vs Q E hr h=>?_)
  · obtain ⟨nm,kd,path,rfl,_⟩:=h
    rfl
  obtain ⟨nm,kd,path,rfl,q⟩:=h
  refine ⟨_,(pss_cons (ps_set (i:=3) sc__law_printer.nd rfl (by first | exact Or.inl rfl | exact Or.inr rfl) (pe_makeD M_Printer (hr.mono (by decide)) rfl (pa_cons (pv 0) (pa_cons (pe_lst pa_nil) (pa_cons (pv 1) (pa_cons (pe_disp (pps_cons (pv 2) pe_int pps_nil) rfl rfl (by decide) (by decide)) (pa_cons pe_int (pa_cons pe_int pa_nil))))))))
  (pss_cons (ps_expr (pe_methE 7 passE0 (hr.mono (by decide)) (pv 3) (pa_cons (pv 2) (pa_cons pe_int pa_nil))))
  (pss_cons (ps_expr (pe_methE 6 passE0 (hr.mono (by decide)) (pv 3) (pa_cons pe_int (pa_cons pe_int pa_nil))))
  (pss_one (ps_ret (pv 3)))))),?_⟩
  refine ⟨_,rfl,Nat.zero_le _,fun cl ncl=>?_⟩
  have t1:=same_new ncl (.lst [])
  have hcl:upd H cl (.lst []) cl=some (.lst []):=upd_same
  generalize upd H cl (.lst [])=H1 at t1 hcl ⊢
  refine ⟨_,rfl,fun rd nrd=>?_⟩
  have t2:=same_new nrd (.dK [])
  have hrd1:upd H1 rd (.dK []) rd=some (.dK []):=upd_same
  refine ⟨_,rfl,hrd1,[(Sum.inr kd,.int 500)],rfl,(by show 1≤15;decide),?_⟩
  rw [mergeK_new (ks:=[Sum.inr kd]) rfl (List.nodup_cons.mpr ⟨List.not_mem_nil,List.nodup_nil⟩)]
  have t3:Same H1 (upd (upd H1 rd (.dK [])) rd (.dK ([] ++ [((Sum.inr kd:Key),V.int 500)]))):=same_on nrd t2 _
  have hrd:upd (upd H1 rd (.dK [])) rd (.dK ([] ++ [((Sum.inr kd:Key),V.int 500)])) rd=some (.dK (dI [(kd,500)])):=upd_same
  generalize upd (upd H1 rd (.dK [])) rd (.dK ([] ++ [((Sum.inr kd:Key),V.int 500)]))=H4 at t3 hrd ⊢
  refine fun x dx nx ndx nxd=>?_
  have ki:∀ b o,H4 b=some o→b≠x∧upd (upd H4 dx (.own x)) x (.ins cZ dx []) b=some o:=fun b o e=>by
    have b1:b≠x:=ne_of_none e nx
    exact ⟨b1,by rw [upd_ne b1,upd_ne (ne_of_none e ndx)];exact e⟩
  have fk:∀ b,upd (upd H4 dx (.own x)) x (.ins cZ dx []) b=none→H4 b=none:=fun b nb=>by
    cases e:H4 b with
    | none=>rfl
    | some o=>rw [(ki b o e).2] at nb;cases nb
  refine ⟨x,dx,cl,rd,nm,path,9999,9999,_,[(kd,500)],rfl,upd_same,(ki _ _ (t3 _ _ hcl)).2,(ki _ _ hrd).2,List.nodup_cons.mpr ⟨List.not_mem_nil,List.nodup_nil⟩,by show 1≤900;decide,fun d G4 kp4 P4 enm ep ers eam erb erc eb ec etg eS n1' n2' n3' n4' n5'=>⟨rfl,?_⟩⟩
  have u4:Same H4 G4:=fun b o e=>kp4 b o (ki b o e).1 (ki b o e).2
  have lk1:∀ v:Int,([(kd,v)]:List (Str×Int)).lookup kd=some v:=fun v=>by rw [List.lookup_cons,beq_self_eq_true]
  have eam':d.am=[(kd,0)]:=eam
  refine ⟨_,rfl,x,_,d.dx,_,_,_,rfl,P4.o,rfl,T.cl_Printer,D_Printer_load,_,rfl,x,d,kd,500,500,0,rfl,P4,by rw [ers];exact lk1 500,by rw [eam'];exact lk1 0,by decide,fun G5 kp5 P5=>?_⟩
  refine ⟨_,rfl,x,_,d.dx,_,_,_,rfl,P5.o,rfl,T.cl_Printer,D_Printer_fill,x,_,9999,9999,rfl,P5,by show d.b + 9999≤d.rb;rw [eb,erb];decide,by show d.c + 9999≤d.rc;rw [ec,erc];decide,fun G6 kp6 P6=>?_⟩
  have ntr2:H4 d.tr2=none:=fk _ n2'
  have nik2:H4 d.ik2=none:=fk _ n4'
  have u6:Same H4 G6:=fun b o e=>kp6 b o (ne_of_none e nik2) (kp5 b o (ne_of_none e ntr2) (u4 b o e))
  have t13:=t1.trans t3
  refine ⟨_,rfl,q x _ G6 (t13.trans u6) ⟨P6,enm,ep,?_,by show d.b + 9999=_;rw [eb];rfl,by show d.c + 9999=_;rw [ec];rfl,etg,eS,t13.free nx,t13.free (fk _ n5'),t13.free (fk _ n1'),t13.free ntr2,t13.free (fk _ n3'),t13.free nik2⟩⟩
  show (setA d.am kd (0 + 500)).lookup kd=some 500
  rw [eam']
  exact look_setA1
end
end My
namespace My
open PySem L2
open Blk (sg sg_inj sg_app)
section
variable {P:Program} {w:World} {K:PySem.W.Frag} {mg:Str→Option Value} {base:Heap}
structure Sp2 (p q:Addr) (d e:PD):Prop where
  pq:p≠q
  ii:d.ins≠e.ins
  a1:d.tr2≠e.tr1
  a2:d.tr2≠e.tr2
  a3:d.tr2≠e.ik1
  a4:d.tr2≠e.ik2
  b1:d.ik2≠e.tr1
  b2:d.ik2≠e.tr2
  b3:d.ik2≠e.ik1
  b4:d.ik2≠e.ik2
  c1:e.tr2≠d.tr1
  c3:e.tr2≠d.ik1
  e1:e.ik2≠d.tr1
  e3:e.ik2≠d.ik1
theorem Sp2.swap {p q:Addr} {d e:PD} (s:Sp2 p q d e):Sp2 q p e d:=⟨s.pq.symm,s.ii.symm,s.c1,s.a2.symm,s.c3,s.b2.symm,s.e1,s.a4.symm,s.e3,s.b4.symm,s.a1,s.a3,s.b1,s.b3⟩
theorem PrAt.keep {cP cS cY cM cW:Addr} {H H':Hp} {q:Addr} {e:PD} (P:PrAt cP cS cY cM cW H q e) (k:∀ b o,(b=q∨b=e.tr∨b=e.ik∨b=e.st)→H b=some o→H' b=some o) (kd:∀ b o,(b=e.tr1∨b=e.tr2∨b=e.ik1∨b=e.ik2)→H b=some o→H' b=some o) (kl:∀ o,H e.ins=some o→H' e.ins=some o):PrAt cP cS cY cM cW H' q e:=by
  obtain ⟨⟨dt,t1⟩,t2,t3,t4⟩:=P.T
  obtain ⟨⟨di,i1⟩,i2,i3,i4⟩:=P.I
  exact { P with o:=k _ _ (.inl rfl) P.o,T:=⟨⟨dt,k _ _ (.inr (.inl rfl)) t1⟩,kd _ _ (.inl rfl) t2,kd _ _ (.inr (.inl rfl)) t3,t4⟩,I:=⟨⟨di,k _ _ (.inr (.inr (.inl rfl))) i1⟩,kd _ _ (.inr (.inr (.inl rfl))) i2,kd _ _ (.inr (.inr (.inr rfl))) i3,i4⟩,s:=k _ _ (.inr (.inr (.inr rfl))) P.s,n:=kl _ P.n }
structure Z2 (cR cJ cP cS cY cM cW:Addr) (H:Hp) (x p q:Addr) (r:RD) (d e:PD) (n m:List Int):Prop where
  W:Wd cR cJ cP cS cY cM cW H x r p d n
  U:Wd cR cJ cP cS cY cM cW H x r q e m
  s:Sp2 p q d e
section
variable {cR cJ cP cS cY cM cW:Addr} {H H':Hp} {x p q:Addr} {r r':RD} {d d' e:PD} {n n' m:List Int}
theorem Z2.swap (z:Z2 cR cJ cP cS cY cM cW H x p q r d e n m):Z2 cR cJ cP cS cY cM cW H x q p r e d m n:=⟨z.U,z.W,z.s.swap⟩
theorem Z2.same (z:Z2 cR cJ cP cS cY cM cW H x p q r d e n m) (s:Same H H'):Z2 cR cJ cP cS cY cM cW H' x p q r d e n m:=⟨z.W.same s,z.U.same s,z.s⟩
theorem ins_dict {b c C dx:Addr} {fs:List (Str×V)} {kv:List (Key×V)} (h:H b=some (.ins C dx fs)) (g:H c=some (.dK kv)):b≠c:=ne_of h g (by intro z;cases z)
theorem ins_lst {b c C dx:Addr} {fs:List (Str×V)} {ts:List V} (h:H b=some (.ins C dx fs)) (g:H c=some (.lst ts)):b≠c:=ne_of h g (by intro z;cases z)
theorem Z2.other (z:Z2 cR cJ cP cS cY cM cW H x p q r d e n m) (k:∀ b o,b≠x→b≠d.ins→b≠d.tr2→b≠d.ik2→H b=some o→H' b=some o):PrAt cP cS cY cM cW H' q e:=by
  obtain ⟨⟨dt,t1⟩,t2,t3,_⟩:=z.U.P.T
  obtain ⟨⟨di,i1⟩,i2,i3,_⟩:=z.U.P.I
  have hn:=z.W.P.n
  have h2:=z.W.P.T.2.2.1
  have h3:=z.W.P.I.2.2.1
  have hx:=z.W.R.o
  refine z.U.P.keep (fun b o hb eo=>?_) (fun b o hb eo=>?_) (fun o eo=>?_)
  · have:∃ C dx fs,H b=some (.ins C dx fs)∧b≠x:=by
      rcases hb with rfl | rfl | rfl | rfl
      · exact ⟨_,_,_,z.U.P.o,z.U.n1⟩
      · exact ⟨_,_,_,t1,z.U.n2⟩
      · exact ⟨_,_,_,i1,z.U.n3⟩
      · exact ⟨_,_,_,z.U.P.s,z.U.n4⟩
    obtain ⟨C,dx,fs,hb',bx⟩:=this
    exact k _ _ bx (ins_lst hb' hn) (ins_dict hb' h2) (ins_dict hb' h3) eo
  · have:∃ kv,H b=some (.dK kv)∧b≠d.tr2∧b≠d.ik2:=by
      rcases hb with rfl | rfl | rfl | rfl
      · exact ⟨_,t2,z.s.a1.symm,z.s.b1.symm⟩
      · exact ⟨_,t3,z.s.a2.symm,z.s.b2.symm⟩
      · exact ⟨_,i2,z.s.a3.symm,z.s.b3.symm⟩
      · exact ⟨_,i3,z.s.a4.symm,z.s.b4.symm⟩
    obtain ⟨kv,hb',c1,c2⟩:=this
    exact k _ _ (ins_dict hx hb').symm (ne_of hb' hn (by intro z;cases z)) c1 c2 eo
  · exact k _ _ (ins_lst hx z.U.P.n).symm z.s.ii.symm (ne_of z.U.P.n h2 (by intro z;cases z)) (ne_of z.U.P.n h3 (by intro z;cases z)) eo
theorem Z2.tags (z:Z2 cR cJ cP cS cY cM cW H x p q r d e n m) (k:∀ b o,b≠x→b≠d.ins→b≠d.tr2→b≠d.ik2→H b=some o→H' b=some o):TagsAt H' r.nm e.tags m:=z.U.tg.fr fun b xs eo=>k _ _ (ne_of eo z.W.R.o (by intro z;cases z)) (ne_of eo z.W.P.n (by intro z;cases z)) (ne_of eo z.W.P.T.2.2.1 (by intro z;cases z)) (ne_of eo z.W.P.I.2.2.1 (by intro z;cases z)) eo
noncomputable def Kl (i:Addr) (H H':Hp):Prop:=∀ b o,b≠i→(∀ C dx fs,o≠.ins C dx fs)→(∀ kv,o≠.dK kv)→H b=some o→H' b=some o
theorem kl_same {i:Addr} (s:Same H H'):Kl i H H':=fun b o _ _ _ e=>s _ _ e
theorem kl_obj {i x C dx:Addr} {fs:List (Str×V)} (hx:H x=some (.ins C dx fs)) (k:∀ b o,b≠x→H b=some o→H' b=some o):Kl i H H':=fun b o _ n2 _ eo=>k b o (fun z=>by rw [z,hx] at eo;exact n2 _ _ _ (Option.some.inj eo).symm) eo
theorem Z2.kl (z:Z2 cR cJ cP cS cY cM cW H x p q r d e n m) (k:∀ b o,b≠x→b≠d.ins→b≠d.tr2→b≠d.ik2→H b=some o→H' b=some o):Kl d.ins H H':=fun b o n1 n2 n3 eo=>by
  have off:∀ c u,H c=some u→o≠u→b≠c:=fun c u hc nu zz=>by rw [zz,hc] at eo;exact nu (Option.some.inj eo).symm
  exact k b o (off _ _ z.W.R.o (n2 _ _ _)) n1 (off _ _ z.W.P.T.2.2.1 (n3 _)) (off _ _ z.W.P.I.2.2.1 (n3 _)) eo
theorem Z2.klt {i:Addr} (z:Z2 cR cJ cP cS cY cM cW H x p q r d e n m) (k:∀ b o,b≠x→b≠p→H b=some o→H' b=some o):Kl i H H':=fun b o n1 n2 n3 eo=>by
  have off:∀ c u,H c=some u→o≠u→b≠c:=fun c u hc nu zz=>by rw [zz,hc] at eo;exact nu (Option.some.inj eo).symm
  exact k b o (off _ _ z.W.R.o (n2 _ _ _)) (off _ _ z.W.P.o (n2 _ _ _)) eo
theorem Z2.deed (z:Z2 cR cJ cP cS cY cM cW H x p q r d e n m) (k:∀ b o,b≠x→b≠d.ins→b≠d.tr2→b≠d.ik2→H b=some o→H' b=some o) (w:Wd cR cJ cP cS cY cM cW H' x r' p d' n') (en:r'.nm=r.nm) (ei:r'.il=r.il) (es:Sp2 p q d' e):Z2 cR cJ cP cS cY cM cW H' x p q r' d' e n' m :=
  ⟨w,⟨w.R,z.other k,by rw [en];exact z.tags k,z.U.n1,z.U.n2,z.U.n3,z.U.n4,by rw [ei];exact z.U.n5⟩,es⟩
theorem Z2.run (z:Z2 cR cJ cP cS cY cM cW H x p q r d e n m) (k:∀ b o,b≠x→H b=some o→H' b=some o) (R:RnAt cR cJ H' x r') (en:r'.nm=r.nm) (ei:r'.il=r.il):Z2 cR cJ cP cS cY cM cW H' x p q r' d e n m:=by
  have kt:∀ b xs,H b=some (.tup xs)→H' b=some (.tup xs):=fun b xs eo=>k _ _ (ne_of eo z.W.R.o (by intro z;cases z)) eo
  exact ⟨⟨R,z.W.P.off z.W.R.o k z.W.n1 z.W.n2 z.W.n3 z.W.n4,by rw [en];exact z.W.tg.fr kt,z.W.n1,z.W.n2,z.W.n3,z.W.n4,by rw [ei];exact z.W.n5⟩,⟨R,z.U.P.off z.W.R.o k z.U.n1 z.U.n2 z.U.n3 z.U.n4,by rw [en];exact z.U.tg.fr kt,z.U.n1,z.U.n2,z.U.n3,z.U.n4,by rw [ei];exact z.U.n5⟩,z.s⟩
theorem fs_ne {C C' dx dx':Addr} {fs:List (Str×V)} {d:PD} (h:fs.length≠8):HO.ins C dx fs≠.ins C' dx' d.fs:=fun z=>by
  injection z with _ _ z
  exact h (by rw [z];rfl)
theorem fsOf_len (s:S3):(fsOf s).length≠8:=by cases s with
  | rd=>show 1≠8;decide
  | jm=>show 1≠8;decide
  | aw b=>show 2≠8;decide
theorem Z2.turn {st dst il:Addr} {S:S3} (z:Z2 cR cJ cP cS cY cM cW H x p q r d e n m) (k:∀ b o,b≠x→b≠p→H b=some o→H' b=some o) (w:Wd cR cJ cP cS cY cM cW H' x r' p { d with st:=st,dst:=dst,S:=S,ins:=il,tags:=[] } n') (en:r'.nm=r.nm) (ei:r'.il=r.il) (ni:H il=none):Z2 cR cJ cP cS cY cM cW H' x p q r' { d with st:=st,dst:=dst,S:=S,ins:=il,tags:=[] } e n' m:=by
  obtain ⟨⟨dt,t1⟩,t2,t3,_⟩:=z.U.P.T
  obtain ⟨⟨di,i1⟩,i2,i3,_⟩:=z.U.P.I
  have hx:=z.W.R.o
  have hp:=z.W.P.o
  have P':PrAt cP cS cY cM cW H' q e:=by
    refine z.U.P.keep (fun b o hb eo=>?_) (fun b o hb eo=>?_) (fun o eo=>k _ _ (ins_lst hx z.U.P.n).symm (ins_lst hp z.U.P.n).symm eo)
    · rcases hb with rfl | rfl | rfl | rfl
      · exact k _ _ z.U.n1 z.s.pq.symm eo
      · exact k _ _ z.U.n2 (ne_of t1 hp (fs_ne (by show 2≠8;decide))) eo
      · exact k _ _ z.U.n3 (ne_of i1 hp (fs_ne (by show 2≠8;decide))) eo
      · exact k _ _ z.U.n4 (ne_of z.U.P.s hp (fs_ne (fsOf_len _))) eo
    · have:∃ kv,H b=some (.dK kv):=by
        rcases hb with rfl | rfl | rfl | rfl
        · exact ⟨_,t2⟩
        · exact ⟨_,t3⟩
        · exact ⟨_,i2⟩
        · exact ⟨_,i3⟩
      obtain ⟨kv,hb'⟩:=this
      exact k _ _ (ins_dict hx hb').symm (ins_dict hp hb').symm eo
  refine ⟨w,⟨w.R,P',?_,z.U.n1,z.U.n2,z.U.n3,z.U.n4,by rw [ei];exact z.U.n5⟩,{ z.s with ii:=fun zz=>?_ }⟩
  · rw [en]
    exact z.U.tg.fr fun b xs eo=>k _ _ (ne_of eo hx (by intro z;cases z)) (ne_of eo hp (by intro z;cases z)) eo
  · have zz':il=e.ins:=zz
    rw [zz',z.U.P.n] at ni
    cases ni
end
noncomputable def Stk (d:PD) (kd:Str) (i:Nat):Prop:=(∃ A,d.am.lookup kd=some A∧500 - (i:Int)≤A)∧9999 - 200 * (i:Int)≤d.b∧9999 - 200 * (i:Int)≤d.c
noncomputable def Jbk (r:RD) (kd:Str):Prop:=r.j.paper=kd∧r.j.cover=none∧∀ s∈r.inks,s.1≤200∧s.2≤200
theorem use_kd {r:RD} {kd:Str} (h:Jbk r kd) (n:Int):(useR r n).1=kd∧(useR r n).2.1≤200∧(useR r n).2.2≤200:=by
  obtain ⟨h1,h2,h3⟩:=h
  unfold useR
  by_cases c:n=-1
  · rw [if_pos c]
    exact ⟨h1,by show (0:Int)≤200;decide,by show (0:Int)≤200;decide⟩
  · rw [if_neg c]
    refine ⟨?_,?_⟩
    · show papR r.j _=kd
      unfold papR
      rw [h2,h1]
      split <;> rfl
    · dsimp only
      rw [List.getD_eq_getElem?_getD]
      cases e:r.inks[n.toNat % r.inks.length]? with
      | none=>exact ⟨by show (0:Int)≤200;decide,by show (0:Int)≤200;decide⟩
      | some s=>exact h3 s (List.mem_of_getElem? e)
theorem look_set {am:List (Str×Int)} {n:Str} {v u:Int} (h:am.lookup n=some u):(setA am n v).lookup n=some v:=by
  unfold setA
  induction am with
  | nil=>cases h
  | cons q r ih =>
    rw [List.lookup_cons] at h
    rw [List.map_cons,List.lookup_cons]
    by_cases c:(n == q.1)=true
    · have e:q.1=n:=(eq_of_beq c).symm
      rw [if_pos e,show (n == (q.1,v).1)=true from c]
    · have e:¬ q.1=n:=fun z=>c (by rw [z];exact beq_self_eq_true _)
      rw [if_neg e,Bool.eq_false_iff.mpr c]
      rw [Bool.eq_false_iff.mpr c] at h
      exact ih h
noncomputable def need (M P a f:Nat):Nat:=(M - f) + min P (M - a)
structure Pc (cR cJ cP cS cY cM cW:Addr) (H:Hp) (x p q:Addr) (r:RD) (d e:PD) (m:List Int) (kd:Str) (P b M a f i:Nat):Prop where
  z:Z2 cR cJ cP cS cY cM cW H x p q (R4 r p b M a) d e (win b a f) m
  af:a≤f
  fM:f≤M
  wP:f - a≤P
  pa:d.path=(P:Int)
  S:d.S=.rd
  st:Stk d kd i
structure Rk (r:RD) (kd:Str) (b M:Nat):Prop where
  hb:r.br=false
  hM:r.tot + 1=b + M
  h2:2≤M
  hM8:M≤700
  j:Jbk r kd
theorem Pc.step {cR cJ cO cP cS cY cM cW:Addr} {H:Hp} {x p q:Addr} {r:RD} {d e:PD} {m:List Int} {kd:Str} {P b M a f i:Nat} {Q:VK} {E:XK} (h:Pc cR cJ cP cS cY cM cW H x p q r d e m kd P b M a f i) (k:Rk r kd b M) (P1:1≤P) (aM:a < M) (i4:i≤45)
    (hq:∀ l H' a' f' d',Pc cR cJ cP cS cY cM cW H' x p q r d' e m kd P b M a' f' (i + 1)→need M P a' f' + 1=need M P a f→d'.ins=d.ins→d'.name=d.name→Kl d.ins H H'→Q (.ref l) H'):sp_Rn_step cR cJ cO cP cS cY cM cW [.ref x] H Q E:=by
  have lv:=liv_4 (p:=p) k.hb k.hM k.h2 aM
  have tl:=h.z.W.tg.1
  have wl:=win_len b a f
  obtain ⟨h1,h2,h3,h4,h5,h6,h7⟩:=h
  have hM:=k.hM
  have hp:(R4 r p b M a).pr=some p:=by show (if a=M then none else some p)=_;rw [if_neg (by omega)]
  refine ⟨x,_,rfl,h1.W.R,fun z=>absurd lv z,fun _=>⟨p,d,_,h1.W,hp,h6,fun c=>?_,fun c=>?_⟩⟩
  · rw [next_win h2] at c ⊢
    obtain ⟨u1,u2,u3⟩:=use_kd (r:=R4 r p b M a) (kd:=kd) k.j (itm b f)
    obtain ⟨⟨A,la,lA⟩,lb,lc⟩:=h7
    have fl:f < M:=by
      have c':itm b f < ((r.tot:Nat):Int):=c
      unfold itm at c'
      split at c' <;> omega
    refine ⟨by rw [tl,wl];have:=k.hM8;omega,A,by rw [u1];exact la,by omega,by omega,by omega,fun l H' ts over eo st=>?_⟩
    rw [wl,h5] at eo
    rw [win_snoc h2,u1] at st
    rw [u1] at *
    have kk:=st.fr
    have stk:∀ d':PD,d'.am=setA d.am kd (A - 1)→d'.b=d.b - (useR (R4 r p b M a) (itm b f)).2.1→d'.c=d.c - (useR (R4 r p b M a) (itm b f)).2.2→Stk d' kd (i + 1):=fun d' e1 e2 e3=>⟨⟨A - 1,by rw [e1];exact look_set la,by omega⟩,by rw [e2];omega,by rw [e3];omega⟩
    by_cases co:(P:Int) < ((f - a + 1:Nat):Int)
    · have eo':over=true:=by rw [eo];exact decide_eq_true co
      subst eo'
      have e1:outsN true (win b a (f + 1))=win b a (a + 1):=by
        unfold outsN
        rw [if_pos rfl,win_take (by omega)]
      have e2:restN true (win b a (f + 1))=win b (a + 1) (f + 1):=by
        unfold restN
        rw [if_pos rfl,win_cons (by omega)]
        rfl
      have sw:=st.w
      rw [e1,e2,out_win hM k.h2 (by omega) (by omega) aM] at sw
      refine hq l H' (a + 1) (f + 1) _ ⟨h1.deed kk sw rfl rfl { h1.s with },by omega,by omega,by omega,h5,h6,stk _ rfl rfl rfl⟩ ?_ rfl rfl (h1.kl kk)
      unfold need
      omega
    · have eo':over=false:=by rw [eo];exact decide_eq_false co
      subst eo'
      have e1:outsN false (win b a (f + 1))=win b a a:=by
        unfold outsN
        rw [if_neg (by decide),win_same]
      have e2:restN false (win b a (f + 1))=win b a (f + 1):=by
        unfold restN
        rw [if_neg (by decide)]
      have sw:=st.w
      rw [e1,e2,out_win hM k.h2 (Nat.le_refl _) (by omega) aM] at sw
      refine hq l H' a (f + 1) _ ⟨h1.deed kk sw rfl rfl { h1.s with },by omega,by omega,by omega,h5,h6,stk _ rfl rfl rfl⟩ ?_ rfl rfl (h1.kl kk)
      unfold need
      omega
  · intro l H' ts st
    rw [next_win h2] at c
    have fl:f=M:=by
      have c':¬ itm b f < ((r.tot:Nat):Int):=c
      unfold itm at c'
      split at c' <;> omega
    have kk:=st.fr
    have e1:(win b a f).take 1=win b a (a + 1):=win_take (by omega)
    have e2:(win b a f).drop 1=win b (a + 1) f:=by
      rw [win_cons (by omega)]
      rfl
    have sw:=st.w
    rw [e1,e2,out_win hM k.h2 (by omega) (by omega) aM] at sw
    obtain ⟨⟨A,la,lA⟩,lb,lc⟩:=h7
    refine hq l H' (a + 1) f _ ⟨h1.deed kk sw rfl rfl { h1.s with },by omega,by omega,by omega,h5,h6,⟨⟨A,la,by omega⟩,by show 9999 - 200 * ((i + 1:Nat):Int)≤d.b;omega,by show 9999 - 200 * ((i + 1:Nat):Int)≤d.c;omega⟩⟩ ?_ rfl rfl (h1.kl kk)
    unfold need
    omega
theorem Pc.stepN {cR cJ cO cP cS cY cM cW:Addr} {H:Hp} {x p q:Addr} {r:RD} {d e:PD} {m:List Int} {kd:Str} {P b M a f i:Nat} {Q:VK} {E:XK} {σ:St} (h:Pc cR cJ cP cS cY cM cW H x p q r d e m kd P b M a f i) (k:Rk r kd b M) (P1:1≤P) (aM:a < M) (i4:i≤45)
    (hq:∀ l H' a' f' d',Pc cR cJ cP cS cY cM cW H' x p q r d' e m kd P b M a' f' (i + 1)→need M P a' f' + 1=need M P a f→d'.ins=d.ins→d'.name=d.name→Kl d.ins H H'→Q (.ref l) H'):tNil σ H fun vs H2=>sp_Rn_step cR cJ cO cP cS cY cM cW (.ref x :: vs) H2 Q E:=h.step k P1 aM i4 hq
noncomputable def Sk (K:PySem.W.Frag) (H:Hp) (a i j:Addr) (xs:List V):Prop:=(Rd H a (.lst xs)∧a≠i∧a≠j)∨∀ H',SqL K H' a xs
theorem Sk.sq {K:PySem.W.Frag} {H:Hp} {a i j:Addr} {xs:List V} (s:Sk K H a i j xs):SqL K H a xs:=by
  rcases s with ⟨h,_,_⟩ | h
  · exact .inl h
  · exact h H
theorem Sk.fr {K:PySem.W.Frag} {H H':Hp} {a i j i' j':Addr} {xs:List V} (s:Sk K H a i j xs) (k:∀ o,a≠i→a≠j→(∀ C dx fs,o≠.ins C dx fs)→(∀ kv,o≠.dK kv)→H a=some o→H' a=some o) (hi:i'=i∨H i'=none) (hj:j'=j∨H j'=none):Sk K H' a i' j' xs:=by
  rcases s with ⟨h,n1,n2⟩ | h
  · obtain ⟨o,ho,g1,g2,g3⟩:∃ o,H a=some o∧(∀ C dx fs,o≠.ins C dx fs)∧(∀ kv,o≠.dK kv)∧(H' a=some o→Rd H' a (.lst xs)):=by
      rcases h with h | ⟨ob,h⟩
      · exact ⟨_,h,(by intro _ _ _ z;cases z),(by intro _ z;cases z),.inl⟩
      · exact ⟨_,h,(by intro _ _ _ z;cases z),(by intro _ z;cases z),fun z=>.inr ⟨ob,z⟩⟩
    have ne:∀ c c':Addr,a≠c→(c'=c∨H c'=none)→a≠c':=fun c c' nc hc=>by
      rcases hc with hc | hc
      · rw [hc];exact nc
      · intro z;rw [← z,ho] at hc;cases hc
    exact .inl ⟨g3 (k o n1 n2 g1 g2 ho),ne _ _ n1 hi,ne _ _ n2 hj⟩
  · exact .inr h
structure Lw (K:PySem.W.Frag) (H:Hp) (a pl p q:Addr) (d e:PD) (xs:List V):Prop where
  s:Sk K H a d.ins e.ins xs
  l:H pl=some (.lst [.ref p,.ref q])
  n0:pl≠d.ins
  n1:pl≠e.ins
theorem Lw.kl {K:PySem.W.Frag} {H H':Hp} {a pl p q:Addr} {d d' e:PD} {xs:List V} (h:Lw K H a pl p q d e xs) (k:Kl d.ins H H') (hd:d'.ins=d.ins∨H d'.ins=none):Lw K H' a pl p q d' e xs:=by
  refine ⟨h.s.fr (fun o n1 _ n3 n4 eo=>k a o n1 n3 n4 eo) hd (.inl rfl),k pl _ h.n0 (by intro _ _ _ z;cases z) (by intro _ z;cases z) h.l,fun z=>?_,h.n1⟩
  rcases hd with hd | hd
  · exact h.n0 (z.trans hd)
  · rw [← z,h.l] at hd
    cases hd
theorem Lw.kl2 {K:PySem.W.Frag} {H H':Hp} {a pl p q:Addr} {d e e':PD} {xs:List V} (h:Lw K H a pl p q d e xs) (k:Kl e.ins H H') (hd:e'.ins=e.ins):Lw K H' a pl p q d e' xs:=⟨h.s.fr (fun o _ n2 n3 n4 eo=>k a o n2 n3 n4 eo) (.inl rfl) (.inl hd),k pl _ h.n1 (by intro _ _ _ z;cases z) (by intro _ z;cases z) h.l,h.n0,by rw [hd];exact h.n1⟩
end
end My
namespace My
open PySem L2
open Blk (sg sg_inj sg_app)
section
variable {P:Program} {w:World} {K:PySem.W.Frag} {mg:Str→Option Value} {base:Heap}
theorem take_4 {r:RD} {p:Addr} {M:Nat} (h0:r.ps=0) (h1:r.sl=false) (h2:1≤M) (nt:r.ps≠r.tot):takeR r p=R4 r p 0 M 0:=by
  unfold takeR R4
  rw [if_neg nt,if_neg (by omega)]
  cases r
  cases h0
  cases h1
  rfl
theorem take_5 {r:RD} {p q:Addr} {M f:Nat} (hM:r.tot + 1=0 + M) (h2:2≤M) (hf:f < M):takeR (R4 r p 0 M f) q=R4 r q (f - 1) (M - (f - 1)) 0:=by
  have et:(R4 r p 0 M f).tot=r.tot:=rfl
  have ep:(R4 r p 0 M f).ps=0 + (f - 1):=rfl
  unfold takeR
  rw [if_neg (by rw [et,ep];omega)]
  unfold R4
  rw [if_neg (show ¬ f=M by omega),if_neg (show ¬ 0=M - (f - 1) by omega)]
  show ({ r with ps:=0 + (f - 1),sl:=false,pr:=some q }:RD)={ r with ps:=f - 1 + 0,sl:=false,pr:=some q }
  rw [Nat.zero_add,Nat.add_zero]
theorem take_6 {r:RD} {p q:Addr} {M:Nat} (hM:r.tot + 1=0 + M) (h2:2≤M):takeR (R4 r p 0 M M) q=R4 r p 0 M M:=by
  have et:(R4 r p 0 M M).tot=r.tot:=rfl
  have ep:(R4 r p 0 M M).ps=0 + (M - 1):=rfl
  unfold takeR
  rw [if_pos (by rw [et,ep];omega)]
structure Wy (K:PySem.W.Frag) (cR cJ cP cS cY cM cW:Addr) (H:Hp) (a pl x p q:Addr) (xs:List V) (r r':RD) (d e:PD) (n m:List Int):Prop where
  z:Z2 cR cJ cP cS cY cM cW H x p q r' d e n m
  l:Lw K H a pl p q d e xs
  nd:d.name="p0"
  ne:e.name="p1"
  st:(r'=r∧n=[]∧m=[])∨∃ b M u f,r.tot + 1=b + M∧2≤M∧u≤f∧f≤M∧((r'=R4 r p b M u∧n=win b u f∧m=[]∧(n≠[]→d.S=.rd))∨(r'=R4 r q b M u∧m=win b u f∧n=[]∧(m≠[]→e.S=.rd)))
noncomputable def sp__law_way (K:PySem.W.Frag) (cR cJ cO cP cS cY cM cW:Addr):Sp:=fun vs H Q _=>∃ (a x pl p q:Addr) (r:RD) (d e:PD) (kd:Str) (P P':Nat) (ns:List Int),vs=[.ref a,.ref x,.ref pl,.int ((r.tot + 1 + min r.tot P:Nat):Int)]∧Z2 cR cJ cP cS cY cM cW H x p q r d e [] []∧Lw K H a pl p q d e (ns.map V.int)∧d.name="p0"∧e.name="p1" ∧
  r.ps=0∧r.pr=none∧r.sl=false∧Rk r kd 0 (r.tot + 1)∧r.tot≤36∧d.path=(P:Int)∧e.path=(P':Int)∧1≤P∧P≤4∧1≤P'∧P'≤4∧d.S=.rd∧e.S=.rd∧Stk d kd 0∧Stk e kd 0∧∀ H' r' d' e' n m,Wy K cR cJ cP cS cY cM cW H' a pl x p q (ns.map V.int) r r' d' e' n m→Q .non H'
theorem Z2.left {cR cJ cP cS cY cM cW:Addr} {H H':Hp} {x p q:Addr} {r:RD} {d e:PD} {n m:List Int} {st dst il:Addr} {S:S3} (z:Z2 cR cJ cP cS cY cM cW H x p q r d e n m) (k:∀ b o,b≠p→H b=some o→H' b=some o) (P:PrAt cP cS cY cM cW H' p { d with st:=st,dst:=dst,S:=S,ins:=il,tags:=[] }) (nst:H st=none) (nil':H il=none):Z2 cR cJ cP cS cY cM cW H' x p q r { d with st:=st,dst:=dst,S:=S,ins:=il,tags:=[] } e [] m:=by
  have hp:=z.W.P.o
  have R:=z.W.R
  have kt:∀ b xs,H b=some (.tup xs)→H' b=some (.tup xs):=fun b xs eo=>k _ _ (ne_of eo hp (by intro z;cases z)) eo
  obtain ⟨ys,hy,_⟩:=id R.i
  obtain ⟨jx,jb,ji,jk,jc,je,_⟩:=id R.j
  have R1:RnAt cR cJ H' x r:={ R with o:=k _ _ (Ne.symm z.W.n1) R.o,j:=R.j.fr (fun o eo=>k _ _ (ne_of je hp (fs_ne (by show 10≠8;decide))) eo) kt,i:=R.i.fr (fun o eo=>k _ _ (ne_of hy hp (by intro z;cases z)) eo) kt }
  refine z.turn (fun b o _ nb eo=>k b o nb eo) ⟨R1,P,⟨rfl,fun i y n a=>by cases a⟩,z.W.n1,z.W.n2,z.W.n3,fun zz=>?_,fun zz=>?_⟩ rfl rfl nil'
  · have zz':st=x:=zz
    rw [zz',R.o] at nst
    cases nst
  · have zz':r.il=il:=zz
    rw [← zz',hy] at nil'
    cases nil'
theorem Stk.more {d:PD} {kd:Str} {i:Nat} (h:Stk d kd i):Stk d kd (i + 1):=by
  obtain ⟨⟨A,la,lA⟩,lb,lc⟩:=h
  exact ⟨⟨A,la,by omega⟩,by omega,by omega⟩
theorem sc__law_way:FnScope ["_law_script","_law_run","_law_printers","_law_most","_law_way_here","_law_turn","_law_here"] ["_law_script","_law_run","_law_printers","_law_most"] (defScope s__law_way):=⟨rfl,rfl,rfl,by decide +kernel,rfl,by decide +kernel,by decide +kernel⟩
theorem ok__law_way {fa yQ yZ yX yY yV yJ yW yU yK yG cQ cZ cV cK cG vQ vZ vX vY:Addr} {fd:FuncData} (F:Fun K "_law_way" "_law_way" s__law_way fa fd) (T:Txt K mg yQ yZ yX yY yV yJ yW yU yK yG cQ cZ cV cK cG vQ vZ vX vY) (D__law_cell_at:Dfn P w K mg base 1 "_law_cell_at" ["_law_script","_law_k"] (sp__law_cell_at K)) (D_Run_take:MtE P w K mg base 6 "take" yK ["self","printer"] (sp_Rn_take yK yG vZ cZ cQ yJ yW yU)) (D_Run_step:MtE P w K mg base 8 "step" yK ["self"] (sp_Rn_step yK yG vZ cZ cQ yJ yW yU)) (D_Run_whole:MtE P w K mg base 3 "whole" yK ["self"] (sp_Rn_whole yK yG cZ cQ yJ yW yU)) (D_Run_jam:MtE P w K mg base 6 "jam" yK ["self","saved"] (sp_Rn_jam yK yG vZ cZ cQ yJ yW yU)) (D_Printer_within:MtE P w K mg base 1 "within" cZ ["self"] (sp_Pr_within cZ cQ yJ yW yU)) (D_Printer_leave:MtE P w K mg base 5 "leave" cZ ["self"] (sp_Pr_leave cZ cQ yJ yW yU)) :
    FnOk P w K mg base CX0 9 fa fd ["_law_script","_law_run","_law_printers","_law_most"] (sp__law_way K yK yG vZ cZ cQ yJ yW yU):=by
  refine F.ok sc__law_way (fun vs H Q E h=>?_) (fun cdv A outer s H vs Q E hr h=>?_)
  · obtain ⟨a,x,pl,p,q,r,d,e,kd,P,P',ns,rfl,_⟩:=h
    rfl
  obtain ⟨a,x,pl,p,q,r,d,e,kd,P,P',ns,rfl,Z,L,nd,ne,h0,hpr,hsl,k,T36,pa,pb,P1,P4,P1',P4',dS,eS,sd,se,qq⟩:=h
  have hM:=k.hM
  have h2:=k.h2
  refine ⟨_,(pss_cons (ps_set (i:=4) sc__law_way.nd rfl (by first | exact Or.inl rfl | exact Or.inr rfl) (pe_callD D__law_cell_at (hr.mono (by decide)) rfl (pa_cons (pv 0) (pa_cons pe_int pa_nil))))
  (pss_cons (ps_if (pt_cmpR op_eq (pe_op op_mod (pv 4) pe_int) pe_int (nomark _)) (pss_one ps_retN) pss_nil)
  (pss_cons (ps_expr (pe_methE 6 passE0 (hr.mono (by decide)) (pv 1) (pa_cons (pe_ix ix_list (pv 2) pe_int (fun _ _=>rfl)) pa_nil)))
  (pss_cons (ps_for PassesOwn.never rfl (pi_range1 rfl T.range (pa_cons (pe_op op_mod (pe_callD D__law_cell_at (hr.mono (by decide)) rfl (pa_cons (pv 0) (pa_cons pe_int pa_nil))) (pv 3)) pa_nil)) (pg_name (i:=5) sc__law_way.nd rfl (by first | exact Or.inl rfl | exact Or.inr rfl))
  (pss_one (ps_expr (pe_methE0 8 passE0 (hr.mono (by decide)) (pv 1)))))
  (pss_cons (ps_set (i:=6) sc__law_way.nd rfl (by first | exact Or.inl rfl | exact Or.inr rfl) (pe_op op_mod (pe_op op_fdiv (pv 4) pe_int) pe_int))
  (pss_cons (ps_if (PW.pt (pw_and (pt_cmpR op_eq (pv 6) pe_int (nomark _)) (pw_and1 (pt_not (pt_truth (pe_methE0 3 passE0 (hr.mono (by decide)) (pv 1)) (fun _=>rfl)))))) (pss_one (ps_expr (pe_methE 6 passE0 (hr.mono (by decide)) (pv 1) (pa_cons (pe_op op_mod (pe_callD D__law_cell_at (hr.mono (by decide)) rfl (pa_cons (pv 0) (pa_cons pe_int pa_nil))) (pe_op op_add pe_int (pe_callB call_len_seq rfl T.len PySem.boot_len (pa_cons (pe_methE0 1 passE0 (hr.mono (by decide)) (pe_ix ix_list (pv 2) pe_int (fun _ _=>rfl))) pa_nil)))) pa_nil)))) pss_nil)
  (pss_cons (ps_if (pt_cmpR op_eq (pv 6) pe_int (nomark _)) (pss_one (ps_expr (pe_methE0 5 passE0 (hr.mono (by decide)) (pe_ix ix_list (pv 2) pe_int (fun _ _=>rfl))))) pss_nil)
  (pss_one (ps_if (PW.pt (pw_and (pt_cmpR op_eq (pv 6) pe_int (nomark _)) (pw_and1 (pt_not (pt_truth (pe_methE0 3 passE0 (hr.mono (by decide)) (pv 1)) (fun _=>rfl)))))) (pss_cons (ps_expr (pe_methE 6 passE0 (hr.mono (by decide)) (pv 1) (pa_cons (pe_ix ix_list (pv 2) pe_int (fun _ _=>rfl)) pa_nil)))
  (pss_one (ps_for PassesOwn.never rfl (pi_range1 rfl T.range (pa_cons (pe_op op_mod (pe_callD D__law_cell_at (hr.mono (by decide)) rfl (pa_cons (pv 0) (pa_cons pe_int pa_nil))) pe_int) pa_nil)) (pg_name (i:=5) sc__law_way.nd rfl (by first | exact Or.inl rfl | exact Or.inr rfl))
  (pss_one (ps_if (pt_not (pt_truth (pe_methE0 3 passE0 (hr.mono (by decide)) (pv 1)) (fun _=>rfl))) (pss_one (ps_expr (pe_methE0 8 passE0 (hr.mono (by decide)) (pv 1)))) pss_nil))))) pss_nil))))))))),?_⟩
  refine ⟨_,rfl,a,2,ns,rfl,L.s.sq,by decide,?_⟩
  generalize ns.getD (2:Int).toNat 0=wh
  refine ⟨_,rfl,_,_,rfl,rfl,(by show (0:Int) < 9;decide),rfl,_,rfl,ite2 (fun _=>?_) (fun _=>?_)⟩
  · exact qq H r d e [] [] ⟨Z,L,nd,ne,.inl ⟨rfl,rfl,rfl⟩⟩
  have lv:Liv r:=⟨k.hb,by omega⟩
  refine ⟨_,rfl,x,_,r.dx,_,_,_,rfl,Z.W.R.o,rfl,T.cl_Run,D_Run_take,_,rfl,pl,_,_,_,rfl,rfl,SqL.of L.l,atI_nat (j:=0) rfl,x,r,p,rfl,Z.W.R,fun z=>absurd lv z,fun _=>⟨d,Z.W.P,dS,fun _ l0 H1 k1 R1=>?_,fun p' hp'=>by rw [hpr] at hp';cases hp'⟩⟩
  rw [take_4 (M:=r.tot + 1) h0 hsl (by omega) lv.2] at R1
  have Z1:=Z.run k1 R1 rfl rfl
  have L1:=L.kl (d':=d) (kl_obj Z.W.R.o k1) (.inl rfl)
  have C0:Pc yK yG cZ cQ yJ yW yU H1 x p q r d e [] kd P 0 (r.tot + 1) 0 0 0:=⟨by rw [win_same];exact Z1,Nat.le_refl _,by omega,by omega,pa,dS,sd⟩
  clear Z1 R1 k1 Z L
  have mo:((r.tot + 1 + min r.tot P:Nat):Int) > 0:=by omega
  refine ⟨_,rfl,a,3,ns,rfl,L1.s.sq,by decide,_,rfl,_,_,rfl,rfl,mo,?_⟩
  obtain ⟨N,hN⟩:∃ N,ns.getD (3:Int).toNat 0 % ((r.tot + 1 + min r.tot P:Nat):Int)=N:=⟨_,rfl⟩
  have N0:0≤N:=by rw [← hN];exact Int.emod_nonneg _ (by omega)
  have N1:N < ((r.tot + 1 + min r.tot P:Nat):Int):=by rw [← hN];exact Int.emod_lt_of_pos _ mo
  have nd0:need (r.tot + 1) P 0 0=r.tot + 1 + min P (r.tot + 1):=rfl
  refine ⟨N,congrArg (fun z=>[V.int z]) hN,by omega,by omega,?_⟩
  refine for_range (lo:=0) (n:=N.toNat) (fun i σ G=>∃ u f d',Pc yK yG cZ cQ yJ yW yU G x p q r d' e [] kd P 0 (r.tot + 1) u f i∧need (r.tot + 1) P u f + i=need (r.tot + 1) P 0 0∧Lw K G a pl p q d' e (ns.map V.int)∧d'.name=d.name∧∃ v5,σ=[some (.ref a),some (.ref x),some (.ref pl),some (.int ((r.tot + 1 + min r.tot P:Nat):Int)),some (.int wh),v5,none]) ⟨0,0,d,C0,rfl,L1,rfl,_,rfl⟩ (fun i σ G hi z=>?_) (fun σ G z=>?_)
  · obtain ⟨u,f,d',C,en,LG,dn,v5,rfl⟩:=z
    have uM:u < r.tot + 1:=by
      have c1:=C.af
      have c2:=C.fM
      by_cases cu:u < r.tot + 1
      · exact cu
      · exfalso
        unfold need at en
        omega
    refine ⟨_,rfl,x,_,_,_,_,_,rfl,C.z.W.R.o,rfl,T.cl_Run,D_Run_step,?_⟩
    refine C.stepN k P1 uM (by omega) fun l H' u' f' d'' C' en' ei edn kl=>?_
    exact ⟨u',f',d'',C',by omega,LG.kl kl (.inl ei),by rw [edn];exact dn,_,rfl⟩
  obtain ⟨u,f,d',C,en,LG,dn,v5,rfl⟩:=z
  have uM:u < r.tot + 1:=by
    have c1:=C.af
    have c2:=C.fM
    by_cases cu:u < r.tot + 1
    · exact cu
    · exfalso
      unfold need at en
      omega
  have dn':d'.name="p0":=dn.trans nd
  have lv1:Liv (R4 r p 0 (r.tot + 1) u):=liv_4 k.hb hM h2 uM
  have hpu:(R4 r p 0 (r.tot + 1) u).pr=some p:=by show (if u=r.tot + 1 then none else some p)=_;rw [if_neg (by omega)]
  refine ⟨_,rfl,_,_,rfl,rfl,⟨by decide,by decide⟩,_,_,rfl,rfl,(by show (0:Int) < 4;decide),?_⟩
  dsimp only [gName]
  generalize hh:wh / 9 % 4=hr'
  -- the jam
  have e1:∀ v:Int,decide (V.int hr'=V.int v)=decide (hr'=v):=fun v=>by
    rw [Bool.eq_iff_iff,decide_eq_true_iff,decide_eq_true_iff]
    exact ⟨fun z=>by injection z,fun z=>by rw [z]⟩
  refine seq_cut (fun σ G'=>(∃ v5,σ=[some (.ref a),some (.ref x),some (.ref pl),some (.int ((r.tot + 1 + min r.tot P:Nat):Int)),some (.int wh),v5,some (.int hr')])∧((hr'=1∧∃ r' d' n m,Wy K yK yG cZ cQ yJ yW yU G' a pl x p q (ns.map V.int) r r' d' e n m)∨(hr'≠1∧G'=G))) (fun R hR=>?_) ?_
  · refine ⟨_,rfl,rfl,_,rfl,?_⟩
    rw [e1]
    refine ite2 (fun c=>?_) (fun c=>iteF (hR _ _ ⟨⟨_,rfl⟩,.inr ⟨fun z=>c (decide_eq_true z),rfl⟩⟩))
    refine ⟨_,rfl,x,_,_,_,_,_,rfl,C.z.W.R.o,rfl,T.cl_Run,D_Run_whole,x,_,rfl,C.z.W.R,false,(by show false=decide (_=_);rw [decide_eq_false lv1.2]),iteT ?_⟩
    refine ⟨_,rfl,x,_,_,_,_,_,rfl,C.z.W.R.o,rfl,T.cl_Run,D_Run_jam,_,rfl,a,4,ns,rfl,LG.s.sq,by decide,_,rfl,pl,_,_,_,rfl,rfl,SqL.of LG.l,atI_nat (j:=0) rfl,p,_,d'.dx,_,_,_,rfl,C.z.W.P.o,rfl,T.cl_Printer,D_Printer_within,p,d',rfl,C.z.W.P,fun wl G1 s1 nwl hwl=>?_⟩
    have tl:=C.z.W.tg.1
    have wl':=win_len 0 u f
    refine ⟨wl,_,rfl,.inl (SqL.of hwl),_,_,rfl,rfl,_,_,rfl,rfl,(by show (0:Int) < 1 + _;omega),?_⟩
    obtain ⟨kk,ek⟩:∃ kk:Nat,ns.getD (4:Int).toNat 0 % (1 + ((d'.tags.length:Nat):Int))=(kk:Int):=⟨(ns.getD (4:Int).toNat 0 % (1 + ((d'.tags.length:Nat):Int))).toNat,by have:=Int.emod_nonneg (ns.getD (4:Int).toNat 0) (show (1 + ((d'.tags.length:Nat):Int))≠0 by omega);omega⟩
    have k1:kk≤d'.tags.length:=by
      have:=Int.emod_lt_of_pos (ns.getD (4:Int).toNat 0) (show (0:Int) < 1 + ((d'.tags.length:Nat):Int) by omega)
      omega
    have c1:=C.af
    have c2:=C.fM
    have Zg:=C.z.same s1
    refine ⟨x,_,kk,congrArg (fun z=>[V.ref x,V.int z]) ek,Zg.W.R,fun z=>absurd lv1 z,fun _=>⟨p,d',_,hpu,Zg.W,C.S,by omega,fun t st dst il H' fr nst nil' w=>?_⟩⟩
    rw [win_take (by omega),out_win hM h2 (by omega) (by omega) uM] at w
    have Zj:=Zg.turn fr w rfl rfl nil'
    refine hR _ _ ⟨⟨_,rfl⟩,.inl ⟨of_decide_eq_true c,_,_,[],[],Zj,(LG.kl (kl_same s1) (d':=d') (.inl rfl)).kl (Zg.klt fr) (.inr nil'),dn',ne,.inr ⟨0,r.tot + 1,u + kk,u + kk,hM,h2,Nat.le_refl _,by omega,.inl ⟨rfl,by rw [win_same],rfl,fun z=>absurd rfl z⟩⟩⟩⟩
  rintro σ G' ⟨⟨v5,rfl⟩,hw⟩
  -- the leaving
  refine seq_cut (fun σ G'=>(∃ v5,σ=[some (.ref a),some (.ref x),some (.ref pl),some (.int ((r.tot + 1 + min r.tot P:Nat):Int)),some (.int wh),v5,some (.int hr')])∧((hr'≠3∧∃ r' d' n m,Wy K yK yG cZ cQ yJ yW yU G' a pl x p q (ns.map V.int) r r' d' e n m)∨G'=G)) (fun R hR=>?_) ?_
  · rcases hw with ⟨h1,r',d1,n1,m1,Y⟩ | ⟨h1,rfl⟩
    · refine ⟨_,rfl,rfl,_,rfl,?_⟩
      rw [e1]
      exact iteNo (by omega) (hR _ _ ⟨⟨_,rfl⟩,.inl ⟨by omega,r',d1,n1,m1,Y⟩⟩)
    · refine ⟨_,rfl,rfl,_,rfl,?_⟩
      rw [e1]
      refine ite2 (fun c=>?_) (fun c=>hR _ _ ⟨⟨_,rfl⟩,.inr rfl⟩)
      have c':=of_decide_eq_true c
      have c1:=C.af
      have c2:=C.fM
      refine ⟨_,rfl,pl,_,_,_,rfl,rfl,SqL.of LG.l,atI_nat (j:=0) rfl,p,_,d'.dx,_,_,_,rfl,C.z.W.P.o,rfl,T.cl_Printer,D_Printer_leave,p,d',rfl,C.z.W.P,C.S,fun st dst il H' fr nst nil' P'=>?_⟩
      refine hR _ _ ⟨⟨_,rfl⟩,.inl ⟨by omega,_,_,[],[],C.z.left fr P' nst nil',LG.kl (C.z.klt fun b o _ nb eo=>fr b o nb eo) (.inr nil'),dn',ne,.inr ⟨0,r.tot + 1,u,u,hM,h2,Nat.le_refl _,by omega,.inl ⟨rfl,by rw [win_same],rfl,fun z=>absurd rfl z⟩⟩⟩⟩
  clear hw
  rintro σ G1 ⟨⟨v5',rfl⟩,hw⟩
  rcases hw with ⟨h3,r',d1,n1,m1,Y⟩ | rfl
  · refine ⟨_,rfl,rfl,_,rfl,?_⟩
    rw [e1]
    exact iteNo h3 (iteF (qq _ _ _ _ _ _ Y))
  refine ⟨_,rfl,rfl,_,rfl,?_⟩
  rw [e1]
  have c1:=C.af
  have c2:=C.fM
  have same:Wy K yK yG cZ cQ yJ yW yU G1 a pl x p q (ns.map V.int) r (R4 r p 0 (r.tot + 1) u) d' e (win 0 u f) []:=⟨C.z,LG,dn',ne,.inr ⟨0,r.tot + 1,u,f,hM,h2,c1,c2,.inl ⟨rfl,rfl,rfl,fun _=>C.S⟩⟩⟩
  refine ite2 (fun c=>?_) (fun c=>iteF (qq _ _ _ _ _ _ same))
  refine ⟨_,rfl,x,_,_,_,_,_,rfl,C.z.W.R.o,rfl,T.cl_Run,D_Run_whole,x,_,rfl,C.z.W.R,false,(by show false=decide (_=_);rw [decide_eq_false lv1.2]),iteT ?_⟩
  refine ⟨_,rfl,x,_,_,_,_,_,rfl,C.z.W.R.o,rfl,T.cl_Run,D_Run_take,_,rfl,pl,_,_,_,rfl,rfl,SqL.of LG.l,atI_nat (j:=1) rfl,x,_,q,rfl,C.z.W.R,fun z=>absurd lv1 z,fun _=>⟨e,C.z.U.P,eS,(fun z=>by rw [hpu] at z;cases z),fun p' hp'=>?_⟩⟩
  obtain rfl:p=p':=by rw [hpu] at hp';exact Option.some.inj hp'
  refine ⟨d',win 0 u f,C.z.W,fun _=>C.S,nw_win hM h2 c1 c2,fun l0 H2 H3 em k3 R3=>?_⟩
  have fr2:∀ b o,b≠x→b≠d'.ins→b≠d'.tr2→b≠d'.ik2→G1 b=some o→H2 b=some o:=fun b o n1 n2 _ _ eo=>em.fr b o n1 n2 eo
  have w2:=em.w
  rw [out_win hM h2 c1 c2 uM] at w2 R3
  have Z2':=C.z.deed fr2 w2 rfl rfl { C.z.s with }
  have ti:(takeR (R4 r p 0 (r.tot + 1) f) q).nm=r.nm∧(takeR (R4 r p 0 (r.tot + 1) f) q).il=r.il:=by unfold takeR;split <;> exact ⟨rfl,rfl⟩
  have Z3:=Z2'.run k3 R3 ti.1 ti.2
  have L3:=(LG.kl (d':={ d' with tags:=[] }) (C.z.kl fr2) (.inl rfl)).kl (d':={ d' with tags:=[] }) (kl_obj w2.R.o k3) (.inl rfl)
  refine ⟨_,rfl,a,4,ns,rfl,L3.s.sq,by decide,_,_,rfl,rfl,(by show (0:Int) < 4;decide),?_⟩
  obtain ⟨N,hN⟩:∃ N,ns.getD (4:Int).toNat 0 % 4=N:=⟨_,rfl⟩
  have N0:0≤N:=by rw [← hN];exact Int.emod_nonneg _ (by decide)
  have N1:N < 4:=by rw [← hN];exact Int.emod_lt_of_pos _ (by decide)
  refine ⟨N,congrArg (fun z=>[V.int z]) hN,by omega,by omega,?_⟩
  by_cases cf:f=r.tot + 1
  · rw [cf,take_6 hM h2] at Z3
    refine for_range (lo:=0) (n:=N.toNat) (fun i σ G=>G=H3∧∃ v5,σ=[some (.ref a),some (.ref x),some (.ref pl),some (.int ((r.tot + 1 + min r.tot P:Nat):Int)),some (.int wh),v5,some (.int hr')]) ⟨rfl,_,rfl⟩ (fun i σ G hi z=>?_) (fun σ G z=>?_)
    · obtain ⟨rfl,v5,rfl⟩:=z
      refine ⟨_,rfl,x,_,_,_,_,_,rfl,Z3.W.R.o,rfl,T.cl_Run,D_Run_whole,x,_,rfl,Z3.W.R,true,(by show true=decide (_=_);rw [decide_eq_true];exact dead_4 hM h2),iteF ⟨rfl,_,rfl⟩⟩
    · obtain ⟨rfl,v5,rfl⟩:=z
      exact qq _ _ _ _ _ _ ⟨Z3,L3,dn',ne,.inr ⟨0,r.tot + 1,r.tot + 1,r.tot + 1,hM,h2,Nat.le_refl _,Nat.le_refl _,.inl ⟨rfl,by rw [win_same],rfl,fun z=>absurd rfl z⟩⟩⟩
  have fl:f < r.tot + 1:=by omega
  rw [take_5 hM h2 fl] at Z3
  have k':Rk r kd (f - 1) (r.tot + 1 - (f - 1)):=⟨k.hb,by omega,by omega,by omega,k.j⟩
  have C3:Pc yK yG cZ cQ yJ yW yU H3 x q p r e { d' with tags:=[] } [] kd P' (f - 1) (r.tot + 1 - (f - 1)) 0 0 0:=⟨by rw [win_same];exact Z3.swap,Nat.le_refl _,by omega,by omega,pb,eS,se⟩
  refine for_range (lo:=0) (n:=N.toNat) (fun i σ G=>∃ u' f' e',Pc yK yG cZ cQ yJ yW yU G x q p r e' { d' with tags:=[] } [] kd P' (f - 1) (r.tot + 1 - (f - 1)) u' f' i∧Lw K G a pl p q { d' with tags:=[] } e' (ns.map V.int)∧e'.name=e.name∧∃ v5,σ=[some (.ref a),some (.ref x),some (.ref pl),some (.int ((r.tot + 1 + min r.tot P:Nat):Int)),some (.int wh),v5,some (.int hr')]) ⟨0,0,e,C3,L3,rfl,_,rfl⟩ (fun i σ G hi z=>?_) (fun σ G z=>?_)
  · obtain ⟨u',f',e',C',LG',en',v5,rfl⟩:=z
    have g1:=C'.af
    have g2:=C'.fM
    refine ⟨_,rfl,x,_,_,_,_,_,rfl,C'.z.W.R.o,rfl,T.cl_Run,D_Run_whole,x,_,rfl,C'.z.W.R,_,rfl,?_⟩
    by_cases cu:u' < r.tot + 1 - (f - 1)
    · have lv':Liv (R4 r q (f - 1) (r.tot + 1 - (f - 1)) u'):=liv_4 k'.hb k'.hM k'.h2 cu
      rw [decide_eq_false lv'.2]
      refine iteT ⟨_,rfl,x,_,_,_,_,_,rfl,C'.z.W.R.o,rfl,T.cl_Run,D_Run_step,?_⟩
      refine C'.stepN k' P1' cu (by omega) fun l H' u2 f2 e2 C2 _ ei edn kl=>?_
      exact ⟨u2,f2,e2,C2,LG'.kl2 kl ei,by rw [edn];exact en',_,rfl⟩
    · have eu:u'=r.tot + 1 - (f - 1):=by omega
      have dd:(R4 r q (f - 1) (r.tot + 1 - (f - 1)) u').ps=(R4 r q (f - 1) (r.tot + 1 - (f - 1)) u').tot:=by rw [eu];exact dead_4 k'.hM k'.h2
      rw [decide_eq_true dd]
      exact iteF ⟨u',f',e',{ C' with st:=C'.st.more },LG',en',_,rfl⟩
  · obtain ⟨u',f',e',C',LG',en',v5,rfl⟩:=z
    exact qq _ _ _ _ _ _ ⟨C'.z.swap,LG',dn',by rw [en'];exact ne,.inr ⟨f - 1,r.tot + 1 - (f - 1),u',f',k'.hM,k'.h2,C'.af,C'.fM,.inr ⟨rfl,rfl,rfl,fun _=>C'.S⟩⟩⟩
end
end My
namespace My
open PySem L2
open Blk (sg sg_inj sg_app)
section
variable {P:Program} {w:World} {K:PySem.W.Frag} {mg:Str→Option Value} {base:Heap}
noncomputable def sp__law_called (_K:PySem.W.Frag) (cR cJ cO cP cS cY cM cW:Addr):Sp:=fun vs H Q E=>∃ (x p:Addr) (r:RD) (k:Nat),vs=[.ref x,.ref p,.int (k:Int)]∧k < 4∧RnAt cR cJ H x r∧¬ Liv r∧OvR cO r H E
theorem sc__law_called:FnScope ["_law_run","_law_printer_here","_law_k"] ["_law_run","_law_printer_here","_law_k"] (defScope s__law_called):=⟨rfl,rfl,rfl,by decide +kernel,rfl,by decide +kernel,by decide +kernel⟩
theorem ok__law_called {fa yQ yZ yX yY yV yJ yW yU yK yG cQ cZ cV cK cG vQ vZ vX vY:Addr} {fd:FuncData} (F:Fun K "_law_called" "_law_called" s__law_called fa fd) (T:Txt K mg yQ yZ yX yY yV yJ yW yU yK yG cQ cZ cV cK cG vQ vZ vX vY) (D_Run_take:MtE P w K mg base 6 "take" yK ["self","printer"] (sp_Rn_take yK yG vZ cZ cQ yJ yW yU)) (D_Run_step:MtE P w K mg base 8 "step" yK ["self"] (sp_Rn_step yK yG vZ cZ cQ yJ yW yU)) (D_Run_jam:MtE P w K mg base 6 "jam" yK ["self","saved"] (sp_Rn_jam yK yG vZ cZ cQ yJ yW yU)) (D_Run_drop:MtE P w K mg base 6 "drop" yK ["self"] (sp_Rn_drop yK yG vZ cZ cQ yJ yW yU)) :
    FnOk P w K mg base (CXe P w) 9 fa fd ["_law_run","_law_printer_here","_law_k"] (sp__law_called K yK yG vZ cZ cQ yJ yW yU):=by
  refine F.okE sc__law_called (fun vs H Q E h=>?_) (fun cdv A outer s H vs Q E hr h=>?_)
  · obtain ⟨x,p,r,k,rfl,_⟩:=h
    rfl
  obtain ⟨x,p,r,k,rfl,k4,R,nl,ov⟩:=h
  refine ⟨_,(pss_cons (ps_if (pt_cmpR op_eq (pv 2) pe_int (nomark _)) (pss_one (ps_expr (pe_methE 6 pass_def (hr.mono (by decide)) (pv 0) (pa_cons (pv 1) pa_nil)))) pss_nil)
  (pss_cons (ps_if (pt_cmpR op_eq (pv 2) pe_int (nomark _)) (pss_one (ps_expr (pe_methE0 8 pass_def (hr.mono (by decide)) (pv 0)))) pss_nil)
  (pss_cons (ps_if (pt_cmpR op_eq (pv 2) pe_int (nomark _)) (pss_one (ps_expr (pe_methE 6 pass_def (hr.mono (by decide)) (pv 0) (pa_cons pe_int pa_nil)))) pss_nil)
  (pss_one (ps_if (pt_cmpR op_eq (pv 2) pe_int (nomark _)) (pss_one (ps_expr (pe_methE0 6 pass_def (hr.mono (by decide)) (pv 0)))) pss_nil))))),?_⟩
  have ne:∀ j v:Int,j≠v→¬ V.int j=V.int v:=fun j v n z=>n (by injection z)
  have ks:k=0∨k=1∨k=2∨k=3:=by omega
  rcases ks with rfl | rfl | rfl | rfl
  · refine ⟨_,rfl,rfl,_,rfl,iteYes rfl ?_⟩
    exact ⟨_,rfl,x,_,r.dx,_,_,_,rfl,R.o,rfl,T.cl_Run,D_Run_take,_,rfl,x,r,p,rfl,R,fun _=>ov,fun lv=>absurd lv nl⟩
  · refine ⟨_,rfl,rfl,_,rfl,iteNo (ne _ _ (by decide)) ⟨_,rfl,rfl,_,rfl,iteYes rfl ?_⟩⟩
    exact ⟨_,rfl,x,_,r.dx,_,_,_,rfl,R.o,rfl,T.cl_Run,D_Run_step,x,r,rfl,R,fun _=>ov,fun lv=>absurd lv nl⟩
  · refine ⟨_,rfl,rfl,_,rfl,iteNo (ne _ _ (by decide)) ⟨_,rfl,rfl,_,rfl,iteNo (ne _ _ (by decide)) ⟨_,rfl,rfl,_,rfl,iteYes rfl ?_⟩⟩⟩
    exact ⟨_,rfl,x,_,r.dx,_,_,_,rfl,R.o,rfl,T.cl_Run,D_Run_jam,x,r,0,rfl,R,fun _=>ov,fun lv=>absurd lv nl⟩
  · refine ⟨_,rfl,rfl,_,rfl,iteNo (ne _ _ (by decide)) ⟨_,rfl,rfl,_,rfl,iteNo (ne _ _ (by decide)) ⟨_,rfl,rfl,_,rfl,iteNo (ne _ _ (by decide)) ⟨_,rfl,rfl,_,rfl,iteYes rfl ?_⟩⟩⟩⟩
    exact ⟨_,rfl,x,_,r.dx,_,_,_,rfl,R.o,rfl,T.cl_Run,D_Run_drop,x,r,rfl,R,fun _=>ov,fun lv=>absurd lv nl⟩
noncomputable def sp__law_over (_K:PySem.W.Frag) (cR cJ cO cP cS cY cM cW:Addr):Sp:=fun vs H Q _=>∃ (x p:Addr) (r:RD) (k:Nat),vs=[.ref x,.ref p,.str r.nm,.int (k:Int)]∧k < 4∧RnAt cR cJ H x r∧¬ Liv r∧∀ H',Same H H'→Q (.bl true) H'
theorem sc__law_over:FnScope ["_law_run","_law_printer_here","_law_name","_law_k","_law_kind","_law_plain","e"] ["_law_run","_law_printer_here","_law_name","_law_k"] (defScope s__law_over):=⟨rfl,rfl,rfl,by decide +kernel,rfl,by decide +kernel,by decide +kernel⟩
theorem ok__law_over {fa yQ yZ yX yY yV yJ yW yU yK yG cQ cZ cV cK cG vQ vZ vX vY:Addr} {fd:FuncData} (F:Fun K "_law_over" "_law_over" s__law_over fa fd) (T:Txt K mg yQ yZ yX yY yV yJ yW yU yK yG cQ cZ cV cK cG vQ vZ vX vY) (D__law_called:DfE P w K mg base 9 "_law_called" ["_law_run","_law_printer_here","_law_k"] (sp__law_called K yK yG vZ cZ cQ yJ yW yU)) :
    FnOk P w K mg base CX0 10 fa fd ["_law_run","_law_printer_here","_law_name","_law_k"] (sp__law_over K yK yG vZ cZ cQ yJ yW yU):=by
  refine F.ok sc__law_over (fun vs H Q E h=>?_) (fun cdv A outer s H vs Q E hr h=>?_)
  · obtain ⟨x,p,r,k,rfl,_⟩:=h
    rfl
  obtain ⟨x,p,r,k,rfl,k4,R,nl,q⟩:=h
  refine ⟨_,(pss_cons (ps_set (i:=4) sc__law_over.nd rfl (by first | exact Or.inl rfl | exact Or.inr rfl) pe_str)
  (pss_cons (ps_set (i:=5) sc__law_over.nd rfl (by first | exact Or.inl rfl | exact Or.inr rfl) pe_bl)
  (pss_cons (ps_try top_nox (fun _ _ _ hP hO=>by exact (pss_one (ps_expr (pe_callE D__law_called hP (hr.mono (show 9≤9 by decide)) rfl (pa_cons (pv 0) (pa_cons (pv 1) (pa_cons (pv 3) pa_nil))))))) (ph_as (i:=6) rfl T.mg_Over sc__law_over.nd rfl rfl (fun _=>by exact (pss_cons (ps_set (i:=4) sc__law_over.nd rfl (by first | exact Or.inl rfl | exact Or.inr rfl) (pe_fldGK (K:=K) rfl (pv 6) rfl))
  (pss_one (ps_set (i:=5) sc__law_over.nd rfl (by first | exact Or.inl rfl | exact Or.inr rfl) (pe_callB (call_isGK (K:=K) rfl) rfl T.isinstance bt_isi (pa_cons (pv 6) (pa_cons (pe_glob (v:=.ref vY) rfl T.mg_HallError rfl) pa_nil))))))) ph_nil))
  (pss_one (ps_ret (pe_and (pe_cmpR op_eq (pv 4) (pv 2) (nomark _)) (pe_one (pv 5)))))))),?_⟩
  refine ⟨_,rfl,_,rfl,_,rfl,x,p,r,k,rfl,k4,R,nl,fun ea H1 sm ne g=>?_⟩
  refine ⟨vZ,ea,rfl,rfl,T.x_Over.m,T.x_Over.m,true,T.mh_Over_Over,iteT ?_⟩
  have cc:ClsX K vZ∧NoAttr K vZ "job":=⟨T.x_Over.i.c,T.x_Over.n _ (.head _)⟩
  refine ⟨_,rfl,ea,_,_,_,rfl,g,cc.1,cc.2,rfl,?_⟩
  refine ⟨_,rfl,ea,_,_,_,true,rfl,g,T.x_Over.i,(fun u r=>r),kitTab_base (i:=4) T.kit (show 4 < 6 by decide),?_⟩
  refine ⟨_,rfl,_,rfl,rfl,?_⟩
  rw [decide_eq_true rfl]
  exact ⟨true,rfl,iteT ⟨_,rfl,q H1 sm⟩⟩
noncomputable def LkV (H:Hp) (r:RD) (v:V):Prop:=(r.br=false∧r.ps=r.tot∧v=.non)∨(r.br=true∧r.ps≠r.tot∧∃ t,v=.ref t∧H t=some (.tup [.int ((r.ps:Int) / (r.inks.length:Int) + 1),.int ((r.ps:Int) % (r.inks.length:Int) + 1)]))
theorem LkV.fr {H H':Hp} {r:RD} {v:V} (h:LkV H r v) (kt:∀ b xs,H b=some (.tup xs)→H' b=some (.tup xs)):LkV H' r v:=by
  rcases h with h | ⟨h1,h2,t,h3,h4⟩
  · exact .inl h
  · exact .inr ⟨h1,h2,t,h3,kt _ _ h4⟩
noncomputable def sp__law_stands (_K:PySem.W.Frag) (cR cJ cO cP cS cY cM cW:Addr):Sp:=fun vs H Q _=>∃ (x:Addr) (r:RD) (v:V),vs=[.ref x,.int (r.ps:Int),v]∧RnAt cR cJ H x r∧r.pr=none∧LkV H r v∧∀ H',Same H H'→Q (.bl true) H'
theorem sc__law_stands:FnScope ["_law_run","_law_out","_law_lack","_law_told"] ["_law_run","_law_out","_law_lack"] (defScope s__law_stands):=⟨rfl,rfl,rfl,by decide +kernel,rfl,by decide +kernel,by decide +kernel⟩
theorem ok__law_stands {fa yQ yZ yX yY yV yJ yW yU yK yG cQ cZ cV cK cG vQ vZ vX vY:Addr} {fd:FuncData} (F:Fun K "_law_stands" "_law_stands" s__law_stands fa fd) (T:Txt K mg yQ yZ yX yY yV yJ yW yU yK yG cQ cZ cV cK cG vQ vZ vX vY) (D__law_is:Dfn P w K mg base 1 "_law_is" ["_law_num","_law_due"] (sp__law_is K)) (D_Run_at:MtE P w K mg base 1 "at" yK ["self"] (sp_Rn_at yK yG cZ cQ yJ yW yU)) (D_Run_upcoming:MtE P w K mg base 3 "upcoming" yK ["self"] (sp_Rn_upcoming yK yG cZ cQ yJ yW yU)) (D_Run_out:MtE P w K mg base 1 "out" yK ["self"] (sp_Rn_out yK yG cZ cQ yJ yW yU)) (D_Run_lack:MtE P w K mg base 2 "lack" yK ["self"] (sp_Rn_lack yK yG cZ cQ yJ yW yU)) (D_Run_whole:MtE P w K mg base 3 "whole" yK ["self"] (sp_Rn_whole yK yG cZ cQ yJ yW yU)) :
    FnOk P w K mg base CX0 4 fa fd ["_law_run","_law_out","_law_lack"] (sp__law_stands K yK yG vZ cZ cQ yJ yW yU):=by
  refine F.ok sc__law_stands (fun vs H Q E h=>?_) (fun cdv A outer s H vs Q E hr h=>?_)
  · obtain ⟨x,r,v,rfl,_⟩:=h
    rfl
  obtain ⟨x,r,v,rfl,R,hp,lk,q⟩:=h
  refine ⟨_,(pss_cons (ps_if (PW.pt (pw_or (pt_cmpR op_notN (pe_methE0 1 passE0 (hr.mono (by decide)) (pv 0)) pe_non (nomark _)) (pw_or (pt_cmpR op_notN (pe_methE0 3 passE0 (hr.mono (by decide)) (pv 0)) pe_non (nomark _)) (pw_or1 (pt_not (pt_truth (pe_callD D__law_is (hr.mono (by decide)) rfl (pa_cons (pe_methE0 1 passE0 (hr.mono (by decide)) (pv 0)) (pa_cons (pv 1) pa_nil))) (fun _=>rfl))))))) (pss_one (ps_ret pe_bl)) pss_nil)
  (pss_cons (ps_set (i:=3) sc__law_stands.nd rfl (by first | exact Or.inl rfl | exact Or.inr rfl) (pe_methE0 2 passE0 (hr.mono (by decide)) (pv 0)))
  (pss_cons (ps_if (pt_cmpR op_isN (pv 2) pe_non (nomark _)) (pss_one (ps_ret (pe_and (pe_cmpR op_isN (pv 3) pe_non (nomark _)) (pe_one (pe_cmpR op_isB (pe_methE0 3 passE0 (hr.mono (by decide)) (pv 0)) pe_bl (nomark _)))))) pss_nil)
  (pss_cons (ps_if (PW.pt (pw_or (pt_not (pt_truth (pe_callB call_isi rfl T.isinstance bt_isi (pa_cons (pv 3) (pa_cons (pe_bltn rfl T.tuple bt_tuple (rel_ty _)) pa_nil))) (fun _=>rfl))) (pw_or (pt_cmpR op_ne (pe_callB call_len_seq rfl T.len PySem.boot_len (pa_cons (pv 3) pa_nil)) pe_int (nomark _)) (pw_or1 (pt_cmpR op_notB (pe_methE0 3 passE0 (hr.mono (by decide)) (pv 0)) pe_bl (nomark _)))))) (pss_one (ps_ret pe_bl)) pss_nil)
  (pss_one (ps_ret (pe_and (pe_callD D__law_is (hr.mono (by decide)) rfl (pa_cons (pe_ix ix_tup (pv 3) pe_int (fun _ _=>rfl)) (pa_cons (pe_ix ix_tup (pv 2) pe_int (fun _ _=>rfl)) pa_nil))) (pe_one (pe_callD D__law_is (hr.mono (by decide)) rfl (pa_cons (pe_ix ix_tup (pv 3) pe_int (fun _ _=>rfl)) (pa_cons (pe_ix ix_tup (pv 2) pe_int (fun _ _=>rfl)) pa_nil))))))))))),?_⟩
  have np:∀ p,r.pr≠some p:=fun p z=>by rw [hp] at z;cases z
  refine ⟨_,rfl,x,_,r.dx,_,_,_,rfl,R.o,rfl,T.cl_Run,D_Run_at,x,r,rfl,R,fun _=>⟨rfl,_,rfl,iteF ?_⟩,fun p z=>absurd z (np p)⟩
  refine ⟨_,rfl,x,_,r.dx,_,_,_,rfl,R.o,rfl,T.cl_Run,D_Run_upcoming,x,r,rfl,R,fun _=>⟨rfl,_,rfl,iteF ?_⟩,fun p z=>absurd z (np p)⟩
  refine ⟨_,rfl,x,_,r.dx,_,_,_,rfl,R.o,rfl,T.cl_Run,D_Run_out,x,r,rfl,R,_,rfl,_,rfl,true,rfl,iteF ?_⟩
  refine ⟨_,rfl,x,_,r.dx,_,_,_,rfl,R.o,rfl,T.cl_Run,D_Run_lack,x,r,rfl,R,fun eb=>?_,fun eb t H1 s1 ht=>?_⟩
  · rcases lk with ⟨_,ew,rfl⟩ | ⟨z,_⟩
    · refine ⟨_,rfl,rfl,_,rfl,iteYes rfl ?_⟩
      refine ⟨_,rfl,rfl,?_⟩
      rw [decide_eq_true rfl]
      refine ⟨true,rfl,iteT ?_⟩
      refine ⟨_,rfl,x,_,r.dx,_,_,_,rfl,R.o,rfl,T.cl_Run,D_Run_whole,x,r,rfl,R,?_⟩
      rw [decide_eq_true ew]
      exact ⟨_,_,rfl,rfl,q H (Same.refl H)⟩
    · rw [eb] at z;cases z
  · rcases lk with ⟨z,_⟩ | ⟨_,nw,t0,rfl,ht0⟩
    · rw [eb] at z;cases z
    have R1:=R.same s1
    have ht01:=s1 _ _ ht0
    refine ⟨_,rfl,rfl,_,rfl,iteNo (by intro z;cases z) ?_⟩
    refine ⟨_,rfl,_,_,_,true,rfl,TyOf.tup ht,kit_same _,true,rfl,iteF ?_⟩
    refine ⟨_,rfl,t,_,rfl,.inr (SqT.of ht),rfl,_,rfl,ite2 (fun c=>by simp at c) fun _=>?_⟩
    refine ⟨_,rfl,x,_,r.dx,_,_,_,rfl,R1.o,rfl,T.cl_Run,D_Run_whole,x,r,rfl,R1,?_⟩
    rw [decide_eq_false nw]
    refine ⟨_,_,rfl,rfl,_,rfl,iteF ?_⟩
    refine ⟨_,rfl,t,_,_,_,rfl,rfl,SqT.of ht,atI_nat (j:=0) rfl,_,rfl,t0,_,_,_,rfl,rfl,SqT.of ht01,atI_nat (j:=0) rfl,_,rfl,true,rfl,iteT ?_⟩
    exact ⟨_,rfl,t,_,_,_,rfl,rfl,SqT.of ht,atI_nat (j:=1) rfl,_,rfl,t0,_,_,_,rfl,rfl,SqT.of ht01,atI_nat (j:=1) rfl,_,rfl,q H1 s1⟩
end
end My
namespace My
open PySem L2
open Blk (sg sg_inj sg_app)
section
variable {P:Program} {w:World} {K:PySem.W.Frag} {mg:Str→Option Value} {base:Heap}
theorem compB_inv {J:It} {tc:TT} {te:TE} {σf:Option V→St} {H1:Hp} {Q:VK} {xs:List V} (S:Seq J H1 xs) (Pv:Addr→Nat→List V→Hp→Prop) (hz:xs.length < sizeLine)
    (h0:∀ D,H1 D=none→Pv D 0 [] (upd H1 D (.lst [])))
    (hD:∀ D i ys H,Pv D i ys H→Same H1 H∧H D=some (.lst ys)∧ys.length≤i)
    (hs:∀ D i x ys H (N:List V→Hp→Prop),xs[i]?=some x→H1 D=none→Pv D i ys H→(∀ ys' H',Pv D (i + 1) ys' H'→N ys' H')→tc (σf (some x)) H fun b H4=>if b=true then te (σf (some x)) H4 fun y H5=>H5 D=some (.lst ys)∧N (ys ++ [y]) (upd H5 D (.lst (ys ++ [y]))) else N ys H4)
    (q:∀ D ys H,H1 D=none→Pv D xs.length ys H→Q (.ref D) H):CompB J tc te σf H1 Q:=by
  intro D hD1
  refine ⟨fun i m ys H2=>m=xs.length - i∧i≤xs.length∧Pv D i ys H2,⟨xs.length,rfl,Nat.zero_le _,h0 D hD1⟩,?_⟩
  rintro i m ys H2 ⟨rfl,hi,p⟩
  obtain ⟨d0,d1,d2⟩:=hD D i ys H2 p
  refine ⟨d1,?_⟩
  by_cases hlt:i < xs.length
  · refine .inr ⟨S.go i H2 d0 hlt,by omega,fun x H3 y=>?_⟩
    obtain ⟨rfl,hx⟩:=S.yld i H2 x H3 d0 hlt y
    exact hs D i x ys _ (fun ys' H'=>∃ m',m' < xs.length - i∧(m'=xs.length - (i + 1)∧i + 1≤xs.length∧Pv D (i + 1) ys' H')) hx hD1 p fun ys' H' z=>⟨xs.length - (i + 1),by omega,rfl,hlt,z⟩
  · have e:i=xs.length:=by omega
    subst e
    exact .inl ⟨S.stop H2 d0,q D ys H2 hD1 p⟩
theorem ink_le {j:Jv} (ok:j.Ok):∀ s∈inksJ j,s.1≤200∧s.2≤200:=fun s hs=>by
  unfold inksJ at hs
  obtain ⟨t,ht,rfl⟩:=List.mem_map.mp hs
  obtain ⟨i,hi⟩:=List.mem_iff_getElem?.mp ht
  obtain ⟨l1,l2⟩:=laid_small ok.2.2 hi
  have h1:(printedL t).length≤200:=by
    unfold printedL
    have:=List.length_filter_le (fun x=>decide (x≠0)) (t.1 ++ t.2)
    rw [List.length_append] at this
    omega
  have h2:=List.length_filter_le (isCol j.colour) (printedL t)
  unfold inkS
  dsimp only
  constructor <;> omega
theorem two_of {us:List V} (hl:us.length=2) (h:∀ (i:Nat) y,us[i]?=some y→∃ P:Nat,y=.int (P:Int)∧1≤P∧P≤4):∃ P Q:Nat,us=[.int (P:Int),.int (Q:Int)]∧1≤P∧P≤4∧1≤Q∧Q≤4:=by
  match us,hl with
  | [u,v],_ =>
    obtain ⟨P,rfl,p1,p2⟩:=h 0 u rfl
    obtain ⟨Q,rfl,q1,q2⟩:=h 1 v rfl
    exact ⟨P,Q,rfl,p1,p2,q1,q2⟩
theorem PrAt.upl {cP cS cY cM cW:Addr} {H:Hp} {p l:Addr} {d:PD} {ts us:List V} (P:PrAt cP cS cY cM cW H p d) (hl:H l=some (.lst ts)) (n1:l≠d.ins):PrAt cP cS cY cM cW (upd H l (.lst us)) p d:=by
  have off:∀ b o,H b=some o→(∀ zs,o≠.lst zs)→upd H l (.lst us) b=some o:=fun b o e n=>by
    rw [upd_ne (fun z=>by rw [z,hl] at e;injection e with e;exact n _ e.symm)]
    exact e
  obtain ⟨⟨dt,t1⟩,t2,t3,_⟩:=P.T
  obtain ⟨⟨di,i1⟩,i2,i3,_⟩:=P.I
  refine P.keep (fun b o hb eo=>?_) (fun b o hb eo=>?_) (fun o eo=>by rw [upd_ne (Ne.symm n1)];exact eo)
  · have:∃ C dx fs,H b=some (.ins C dx fs):=by
      rcases hb with rfl | rfl | rfl | rfl
      · exact ⟨_,_,_,P.o⟩
      · exact ⟨_,_,_,t1⟩
      · exact ⟨_,_,_,i1⟩
      · exact ⟨_,_,_,P.s⟩
    obtain ⟨C,dx,fs,h⟩:=this
    rw [eo] at h
    injection h with h
    exact off b o eo (by rw [h];intro zs z;cases z)
  · have:∃ kv,H b=some (.dK kv):=by
      rcases hb with rfl | rfl | rfl | rfl
      · exact ⟨_,t2⟩
      · exact ⟨_,t3⟩
      · exact ⟨_,i2⟩
      · exact ⟨_,i3⟩
    obtain ⟨kv,h⟩:=this
    rw [eo] at h
    injection h with h
    exact off b o eo (by rw [h];intro zs z;cases z)
theorem sp2_new {cP cS cY cM cW:Addr} {G G2:Hp} {p q:Addr} {d e:PD} {nm kd:Str} {path:Int} (P:PrAt cP cS cY cM cW G p d) (N:Pnew cP cS cY cM cW G G2 q e nm kd path):Sp2 p q d e:=by
  obtain ⟨⟨dt,t1⟩,t2,t3,_⟩:=P.T
  obtain ⟨⟨di,i1⟩,i2,i3,_⟩:=P.I
  exact ⟨ne_of_none P.o N.np,ne_of_none P.n N.ni,ne_of_none t3 N.n1,ne_of_none t3 N.n2,ne_of_none t3 N.n3,ne_of_none t3 N.n4,ne_of_none i3 N.n1,ne_of_none i3 N.n2,ne_of_none i3 N.n3,ne_of_none i3 N.n4,(ne_of_none t2 N.n2).symm,(ne_of_none i2 N.n2).symm,(ne_of_none t2 N.n4).symm,(ne_of_none i2 N.n4).symm⟩
theorem Pnew.upl {cP cS cY cM cW:Addr} {H0 H:Hp} {p l:Addr} {d:PD} {nm kd:Str} {path:Int} {ts us:List V} (h:Pnew cP cS cY cM cW H0 H p d nm kd path) (hl:H l=some (.lst ts)) (n1:l≠d.ins):Pnew cP cS cY cM cW H0 (upd H l (.lst us)) p d nm kd path:={ h with P:=h.P.upl hl n1 }
theorem outE_all (r:RD) (ns:List Int):(outE r ns).ps=r.ps + sheetsN ns∧(outE r ns).tot=r.tot∧(outE r ns).inks=r.inks:=by
  unfold outE
  split <;> exact ⟨rfl,rfl,rfl⟩
theorem ge_sheet {n:Int} (h:-1≤n):decide (0≤n)=!decide (V.int n=V.int (-1)):=by
  by_cases c:n=-1
  · rw [decide_eq_true (show V.int n=V.int (-1) by rw [c]),decide_eq_false (by omega)]
    rfl
  · rw [decide_eq_false (fun z=>c (by injection z):¬ V.int n=V.int (-1)),decide_eq_true (by omega)]
    rfl
structure Af (r0 r1:RD) (p q:Addr) (d e:PD) (n m:List Int):Prop where
  br:r1.br=false
  tot:r1.tot=r0.tot
  nm:r1.nm=r0.nm
  il:r1.il=r0.il
  ik:r1.inks=r0.inks
  wh:r1.ps=r1.tot→r1.pr=none∧n=[]∧m=[]
  at_:r1.ps≠r1.tot→(r1.pr=none∧n=[]∧m=[])∨(r1.pr=some p∧m=[]∧(n≠[]→d.S=.rd))∨(r1.pr=some q∧n=[]∧(m≠[]→e.S=.rd))
  nw:NW r1 (n ++ m)
  lo:∀ k∈n ++ m,-1≤k
  hi:(outE r1 (n ++ m)).ps≤r1.tot
theorem Wy.sum {K:PySem.W.Frag} {cR cJ cP cS cY cM cW:Addr} {H:Hp} {a pl x p q:Addr} {xs:List V} {r r':RD} {d e:PD} {n m:List Int} (y:Wy K cR cJ cP cS cY cM cW H a pl x p q xs r r' d e n m) (hb:r.br=false) (hp:r.pr=none) (h0:r.ps=0) (h1:1≤r.tot):Af r r' p q d e n m:=by
  rcases y.st with ⟨rfl,rfl,rfl⟩ | ⟨b,M,u,f,hM,h2,uf,fM,hc⟩
  · exact ⟨hb,rfl,rfl,rfl,rfl,(fun z=>by omega),fun _=>.inl ⟨hp,rfl,rfl⟩,(fun i hi=>by cases hi),(fun k hk=>by cases hk),by rw [List.append_nil,outE_R (by rw [outR_nil];omega),outR_nil];omega⟩
  have go:∀ (pp:Addr),(R4 r pp b M u).br=false∧(R4 r pp b M u).tot=r.tot∧NW (R4 r pp b M u) (win b u f)∧(outE (R4 r pp b M u) (win b u f)).ps≤r.tot∧((R4 r pp b M u).ps=r.tot→u=M)∧(u=M→(R4 r pp b M u).pr=none)∧(u≠M→(R4 r pp b M u).pr=some pp):=fun pp=>by
    refine ⟨hb,rfl,nw_win hM h2 uf fM,?_,fun z=>?_,fun z=>?_,fun z=>?_⟩
    · have e1:=(outR_win (r:=r) (p:=pp) (b:=b) (M:=M) uf).1
      have e2:(outE (R4 r pp b M u) (win b u f)).ps=(outR (R4 r pp b M u) (win b u f)).ps:=by unfold outE;split <;> rfl
      rw [e2,e1]
      omega
    · have z':b + (u - 1)=r.tot:=z
      omega
    · show (if u=M then none else some pp)=none
      rw [if_pos z]
    · show (if u=M then none else some pp)=some pp
      rw [if_neg z]
  have lw:∀ k∈win b u f,-1≤k:=fun k hk=>by
    unfold win at hk
    obtain ⟨i,_,rfl⟩:=List.mem_map.mp hk
    exact itm_lo _ _
  have we:u=M→win b u f=[]:=fun z=>by rw [show f=u by omega,win_same]
  rcases hc with ⟨rfl,rfl,rfl,hS⟩ | ⟨rfl,rfl,rfl,hS⟩
  · obtain ⟨g1,g2,g3,g4,g5,g6,g7⟩:=go p
    refine ⟨g1,rfl,rfl,rfl,rfl,fun z=>⟨g6 (g5 z),we (g5 z),rfl⟩,fun z=>?_,by rw [List.append_nil];exact g3,by rw [List.append_nil];exact lw,by rw [List.append_nil];exact g4⟩
    by_cases c:u=M
    · exact .inl ⟨g6 c,we c,rfl⟩
    · exact .inr (.inl ⟨g7 c,rfl,hS⟩)
  · obtain ⟨g1,g2,g3,g4,g5,g6,g7⟩:=go q
    refine ⟨g1,rfl,rfl,rfl,rfl,fun z=>⟨g6 (g5 z),rfl,we (g5 z)⟩,fun z=>?_,g3,lw,g4⟩
    by_cases c:u=M
    · exact .inl ⟨g6 c,rfl,we c⟩
    · exact .inr (.inr ⟨g7 c,rfl,hS⟩)
noncomputable def sp_law (K:PySem.W.Frag):Sp:=fun vs H Q _=>∃ a:Addr,vs=[.ref a]∧Scr K H a∧∀ H',Q (.bl true) H'
theorem sc_law:FnScope ["_law_script","_law_pages","_law_layout","_law_copies","_law_name","_law_kind","_law_paths","_law_printers","_law_run","_law_each_here","_law_out","_law_lack","_law_within","_law_first","_law_k"] ["_law_script"] (defScope s_law):=⟨rfl,rfl,rfl,by decide +kernel,rfl,by decide +kernel,by decide +kernel⟩
theorem ok_law {fa yQ yZ yX yY yV yJ yW yU yK yG cQ cZ cV cK cG vQ vZ vX vY:Addr} {fd:FuncData} (F:Fun K "law" "law" s_law fa fd) (T:Txt K mg yQ yZ yX yY yV yJ yW yU yK yG cQ cZ cV cK cG vQ vZ vX vY) (D__law_word:Dfn P w K mg base 1 "_law_word" ["_law_cell","_law_turn"] (sp__law_word K)) (M_Run:MkD P w K mg base 6 "Run" yK ["self","job"] (sp_Rn_init yK yG)) (D__law_each:Dfn P w K mg base 1 "_law_each" ["_law_pages","_law_layout"] (sp__law_each K)) (D__law_way:Dfn P w K mg base 9 "_law_way" ["_law_script","_law_run","_law_printers","_law_most"] (sp__law_way K yK yG vZ cZ cQ yJ yW yU)) (D__law_mix:Dfn P w K mg base 1 "_law_mix" ["_law_cell","_law_k","_law_many"] (sp__law_mix K)) (D__law_cell_at:Dfn P w K mg base 1 "_law_cell_at" ["_law_script","_law_k"] (sp__law_cell_at K)) (D__law_printer:Dfn P w K mg base 8 "_law_printer" ["_law_name","_law_path","_law_kind"] (sp__law_printer cZ cQ yJ yW yU)) (M_Job:MkD P w K mg base 1 "Job" yG ["self","name","asker","pages","copies","layout","paper","cover","colour","staple","after"] (sp_Job_init yG)) (D__law_tags:Dfn P w K mg base 2 "_law_tags" ["_law_told","_law_due"] (sp__law_tags K)) (D__law_stands:Dfn P w K mg base 4 "_law_stands" ["_law_run","_law_out","_law_lack"] (sp__law_stands K yK yG vZ cZ cQ yJ yW yU)) (D__law_over:Dfn P w K mg base 10 "_law_over" ["_law_run","_law_printer_here","_law_name","_law_k"] (sp__law_over K yK yG vZ cZ cQ yJ yW yU)) (D_Run_out:MtE P w K mg base 1 "out" yK ["self"] (sp_Rn_out yK yG cZ cQ yJ yW yU)) (D_Run_whole:MtE P w K mg base 3 "whole" yK ["self"] (sp_Rn_whole yK yG cZ cQ yJ yW yU)) (D_Run_at:MtE P w K mg base 1 "at" yK ["self"] (sp_Rn_at yK yG cZ cQ yJ yW yU)) (D_Printer_within:MtE P w K mg base 1 "within" cZ ["self"] (sp_Pr_within cZ cQ yJ yW yU)) (D_Run_drop:MtE P w K mg base 6 "drop" yK ["self"] (sp_Rn_drop yK yG vZ cZ cQ yJ yW yU)) (D_Printer_stands:MtE P w K mg base 2 "stands" cZ ["self"] (sp_Pr_stands cZ cQ yJ yW yU)) (D_Printer_jam:MtE P w K mg base 5 "jam" cZ ["self","saved"] (sp_Pr_jam cZ cQ yJ yW yU)) :
    FnOk P w K mg base CX0 11 fa fd ["_law_script"] (sp_law K):=by
  refine F.ok sc_law (fun vs H Q E h=>?_) (fun cdv A outer s H vs Q E hr h=>?_)
  · obtain ⟨a,rfl,_⟩:=h
    rfl
  obtain ⟨a,rfl,S0,q⟩:=h
  have hu0:=hr.units0
  have z0:0≤sizeLine:=Nat.zero_le _
  have z4:4≤sizeLine:=small (by decide)
  refine ⟨_,(pss_cons (ps_set (i:=1) sc_law.nd rfl (by first | exact Or.inl rfl | exact Or.inr rfl) (pe_op op_add pe_int (pe_op op_mod (pe_callD D__law_cell_at (hr.mono (by decide)) rfl (pa_cons (pv 0) (pa_cons pe_int pa_nil))) pe_int)))
  (pss_cons (ps_set (i:=2) sc_law.nd rfl (by first | exact Or.inl rfl | exact Or.inr rfl) (pe_lst (pa_cons pe_str (pa_cons pe_str (pa_cons pe_str (pa_cons (pe_op op_add_str pe_str (pe_callTy call_str_int rfl T.str bt_str (pa_cons (pe_op op_add pe_int (pe_callD D__law_mix (hr.mono (by decide)) rfl (pa_cons (pe_callD D__law_cell_at (hr.mono (by decide)) rfl (pa_cons (pv 0) (pa_cons pe_int pa_nil))) (pa_cons pe_int (pa_cons pe_int pa_nil))))) pa_nil))) pa_nil))))))
  (pss_cons (ps_set (i:=2) sc_law.nd rfl (by first | exact Or.inl rfl | exact Or.inr rfl) (pe_ix ix_listA (pv 2) (pe_callD D__law_mix (hr.mono (by decide)) rfl (pa_cons (pe_callD D__law_cell_at (hr.mono (by decide)) rfl (pa_cons (pv 0) (pa_cons pe_int pa_nil))) (pa_cons pe_int (pa_cons pe_int pa_nil)))) (fun _ _=>rfl)))
  (pss_cons (ps_set (i:=3) sc_law.nd rfl (by first | exact Or.inl rfl | exact Or.inr rfl) (pe_op op_add pe_int (pe_callD D__law_mix (hr.mono (by decide)) rfl (pa_cons (pe_callD D__law_cell_at (hr.mono (by decide)) rfl (pa_cons (pv 0) (pa_cons pe_int pa_nil))) (pa_cons pe_int (pa_cons pe_int pa_nil))))))
  (pss_cons (ps_set (i:=4) sc_law.nd rfl (by first | exact Or.inl rfl | exact Or.inr rfl) (pe_callD D__law_word (hr.mono (by decide)) rfl (pa_cons (pe_callD D__law_cell_at (hr.mono (by decide)) rfl (pa_cons (pv 0) (pa_cons pe_int pa_nil))) (pa_cons pe_int pa_nil))))
  (pss_cons (ps_set (i:=5) sc_law.nd rfl (by first | exact Or.inl rfl | exact Or.inr rfl) (pe_callD D__law_word (hr.mono (by decide)) rfl (pa_cons (pe_callD D__law_cell_at (hr.mono (by decide)) rfl (pa_cons (pv 0) (pa_cons pe_int pa_nil))) (pa_cons pe_int pa_nil))))
  (pss_cons (ps_set (i:=6) sc_law.nd rfl (by first | exact Or.inl rfl | exact Or.inr rfl) (pe_comp (frees:=[("_law_script",0)]) ⟨by decide +kernel,rfl,rfl,by decide +kernel,⟨⟨rfl,rfl,rfl,by decide +kernel⟩,trivial⟩,by decide +kernel,cellsFor_at rfl,rfl⟩ rfl (pi_range1 rfl T.range (pa_cons pe_int pa_nil)) (fun _ _ _ _=>pifs_nil) (fun _ _ _ _=>by exact (pe_op op_add pe_int (pe_callD D__law_mix (hr.mono (by decide)) rfl (pa_cons (pe_callD D__law_cell_at (hr.mono (by decide)) rfl (pa_cons (pv 1) (pa_cons pe_int pa_nil))) (pa_cons (pv 0) (pa_cons pe_int pa_nil))))))))
  (pss_cons (ps_comp (i:=7) (frees:=[("_law_kind",5),("_law_paths",6)]) ⟨by decide +kernel,rfl,rfl,by decide +kernel,⟨⟨rfl,rfl,rfl,by decide +kernel⟩,⟨⟨rfl,rfl,rfl,by decide +kernel⟩,trivial⟩⟩,by decide +kernel,cellsFor_at rfl,rfl⟩ sc_law.nd rfl rfl rfl (pi_range1 rfl T.range (pa_cons pe_int pa_nil)) (fun _ _ _ _=>pifs_nil) (fun _ _ _ _=>by exact (pe_callD D__law_printer (hr.mono (by decide)) rfl (pa_cons (pe_op op_add_str pe_str (pe_callTy call_str_int rfl T.str bt_str (pa_cons (pv 0) pa_nil))) (pa_cons (pe_ixK (K:=K) (r:=rIxLA) rfl ix_listA (pv 2) (pv 0) (fun _ _=>rfl)) (pa_cons (pv 1) pa_nil))))))
  (pss_cons (ps_set (i:=8) sc_law.nd rfl (by first | exact Or.inl rfl | exact Or.inr rfl) (pe_makeD M_Run (hr.mono (by decide)) rfl (pa_cons (pe_makeD M_Job (hr.mono (by decide)) rfl (pa_cons (pv 4) (pa_cons pe_str (pa_cons (pv 1) (pa_cons (pv 3) (pa_cons (pv 2) (pa_cons (pv 5) (pa_cons pe_non (pa_cons pe_non (pa_cons pe_bl (pa_cons (pe_tup pa_nil) pa_nil))))))))))) pa_nil)))
  (pss_cons (ps_set (i:=9) sc_law.nd rfl (by first | exact Or.inl rfl | exact Or.inr rfl) (pe_callD D__law_each (hr.mono (by decide)) rfl (pa_cons (pv 1) (pa_cons (pv 2) pa_nil))))
  (pss_cons (ps_expr (pe_callD D__law_way (hr.mono (by decide)) rfl (pa_cons (pv 0) (pa_cons (pv 8) (pa_cons (pv 7) (pa_cons (pe_op op_add (pe_op op_add (pe_op op_mul (pv 9) (pv 3)) pe_int) (pe_callB (call_min2 rfl) rfl T.min bt_min (pa_cons (pe_op op_mul (pv 9) (pv 3)) (pa_cons (pe_ix ix_list (pv 6) pe_int (fun _ _=>rfl)) pa_nil)))) pa_nil))))))
  (pss_cons (ps_set (i:=10) sc_law.nd rfl (by first | exact Or.inl rfl | exact Or.inr rfl) (pe_methE0 1 passE0 (hr.mono (by decide)) (pv 8)))
  (pss_cons (ps_set (i:=11) sc_law.nd rfl (by first | exact Or.inl rfl | exact Or.inr rfl) pe_non)
  (pss_cons (ps_if (pt_not (pt_truth (pe_methE0 3 passE0 (hr.mono (by decide)) (pv 8)) (fun _=>rfl))) (pss_cons (ps_set (i:=12) sc_law.nd rfl (by first | exact Or.inl rfl | exact Or.inr rfl) (pe_lst pa_nil))
  (pss_cons (ps_if (pt_cmpR op_notN (pe_methE0 1 passE0 (hr.mono (by decide)) (pv 8)) pe_non (nomark _)) (pss_one (ps_set (i:=12) sc_law.nd rfl (by first | exact Or.inl rfl | exact Or.inr rfl) (pe_methE0 1 passE0 (hr.mono (by decide)) (pe_ix ix_listA (pv 7) (pe_callTy call_int1 rfl T.int bt_int (pa_cons (pe_cmpR op_eq (pe_methE0 1 passE0 (hr.mono (by decide)) (pv 8)) pe_str (nomark _)) pa_nil)) (fun _ _=>rfl))))) pss_nil)
  (pss_cons (ps_if (pt_not (pt_truth (pe_callD D__law_tags (hr.mono (by decide)) rfl (pa_cons (pe_methE0 6 passE0 (hr.mono (by decide)) (pv 8)) (pa_cons (pv 12) pa_nil))) (fun _=>rfl))) (pss_one (ps_ret pe_bl)) pss_nil)
  (pss_cons (ps_set (i:=10) sc_law.nd rfl (by first | exact Or.inl rfl | exact Or.inr rfl) (pe_op op_add (pv 10) (pe_callB call_len_seq rfl T.len PySem.boot_len (pa_cons (pe_comp (frees:=[]) ⟨by decide +kernel,rfl,rfl,by decide +kernel,trivial,by decide +kernel,cellsFor_at rfl,rfl⟩ rfl (pi_list (pv 12)) (fun _ _ _ _=>by exact (pifs_one (pt_cmpR op_ge (pe_ixK (K:=K) (r:=rIxT) rfl ix_tup (pv 0) pe_int (fun _ _=>rfl)) pe_int (nomark _)))) (fun _ _ _ _=>by exact (pv 0))) pa_nil))))
  (pss_one (ps_if (pt_cmpR op_lt (pv 10) (pe_op op_mul (pv 9) (pv 3)) (nomark _)) (pss_one (ps_set (i:=11) sc_law.nd rfl (by first | exact Or.inl rfl | exact Or.inr rfl) (pe_tup (pa_cons (pe_op op_add (pe_op op_fdiv (pv 10) (pv 9)) pe_int) (pa_cons (pe_op op_add (pe_op op_mod (pv 10) (pv 9)) pe_int) pa_nil))))) pss_nil)))))) pss_nil)
  (pss_cons (ps_if (PW.pt (pw_or (pt_not (pt_truth (pe_callD D__law_stands (hr.mono (by decide)) rfl (pa_cons (pv 8) (pa_cons (pv 10) (pa_cons (pv 11) pa_nil)))) (fun _=>rfl))) (pw_or (pt_cmpR (op_ne_list hu0) (pe_methE0 1 passE0 (hr.mono (by decide)) (pe_ix ix_list (pv 7) pe_int (fun _ _=>rfl))) (pe_lst pa_nil) (nomark _)) (pw_or1 (pt_cmpR (op_ne_list hu0) (pe_methE0 1 passE0 (hr.mono (by decide)) (pe_ix ix_list (pv 7) pe_int (fun _ _=>rfl))) (pe_lst pa_nil) (nomark _)))))) (pss_one (ps_ret pe_bl)) pss_nil)
  (pss_cons (ps_set (i:=13) sc_law.nd rfl (by first | exact Or.inl rfl | exact Or.inr rfl) (pe_op op_mod (pe_callD D__law_cell_at (hr.mono (by decide)) rfl (pa_cons (pv 0) (pa_cons pe_int pa_nil))) pe_int))
  (pss_cons (ps_if (PW.pt (pw_and (pt_cmpR op_eq (pe_methE0 2 passE0 (hr.mono (by decide)) (pe_ix ix_list (pv 7) pe_int (fun _ _=>rfl))) pe_str (nomark _)) (pw_and1 (pt_cmpR op_eq (pe_op op_mod (pe_callD D__law_cell_at (hr.mono (by decide)) rfl (pa_cons (pv 0) (pa_cons pe_int pa_nil))) pe_int) pe_int (nomark _))))) (pss_one (ps_expr (pe_methE 5 passE0 (hr.mono (by decide)) (pe_ix ix_list (pv 7) pe_int (fun _ _=>rfl)) (pa_cons pe_int pa_nil)))) pss_nil)
  (pss_cons (ps_for PassesOwn.never rfl (pi_range1 rfl T.range (pa_cons pe_int pa_nil)) (pg_name (i:=14) sc_law.nd rfl (by first | exact Or.inl rfl | exact Or.inr rfl))
  (pss_one (ps_if (PW.pt (pw_or (pt_not (pt_truth (pe_callD D__law_over (hr.mono (by decide)) rfl (pa_cons (pv 8) (pa_cons (pe_ix ix_list (pv 7) pe_int (fun _ _=>rfl)) (pa_cons (pv 4) (pa_cons (pe_op op_mod (pe_op op_add (pv 13) (pv 14)) pe_int) pa_nil))))) (fun _=>rfl))) (pw_or1 (pt_not (pt_truth (pe_callD D__law_stands (hr.mono (by decide)) rfl (pa_cons (pv 8) (pa_cons (pv 10) (pa_cons (pv 11) pa_nil)))) (fun _=>rfl)))))) (pss_one (ps_ret pe_bl)) pss_nil)))
  (pss_one (ps_ret (pe_and (pe_cmpR (op_eq_list hu0) (pe_methE0 1 passE0 (hr.mono (by decide)) (pe_ix ix_list (pv 7) pe_int (fun _ _=>rfl))) (pe_lst pa_nil) (nomark _)) (pe_one (pe_cmpR (op_eq_list hu0) (pe_methE0 1 passE0 (hr.mono (by decide)) (pe_ix ix_list (pv 7) pe_int (fun _ _=>rfl))) (pe_lst pa_nil) (nomark _)))))))))))))))))))))))),?_⟩
  obtain ⟨ns,hS,h63⟩:=id S0.ex
  -- pages, layout, copies
  obtain ⟨n,en,n1,n9⟩:∃ n:Nat,1 + ns.getD (0:Int).toNat 0 % 9=(n:Int)∧1≤n∧n≤9:=by
    have:=Int.emod_nonneg (ns.getD (0:Int).toNat 0) (show (9:Int)≠0 by decide)
    have:=Int.emod_lt_of_pos (ns.getD (0:Int).toNat 0) (show (0:Int) < 9 by decide)
    exact ⟨(1 + ns.getD (0:Int).toNat 0 % 9).toNat,by omega,by omega,by omega⟩
  refine seq_cut (fun σ G=>H=G∧σ=[some (.ref a),some (.int (n:Int)),none,none,none,none,none,none,none,none,none,none,none,none,none]) (fun R hR=>⟨_,rfl,a,0,ns,rfl,hS,by decide,_,_,rfl,rfl,(by show (0:Int) < 9;decide),_,_,rfl,rfl,hR _ _ ⟨rfl,by rw [← en];rfl⟩⟩) ?_
  rintro σ G ⟨rfl,rfl⟩
  obtain ⟨u,eu,u1,u2⟩:∃ u:Nat,2 + mixV (ns.getD (0:Int).toNat 0) 2 15=(u:Int)∧2≤u∧u≤16:=by
    have:=mix_lo (c:=(ns.getD (0:Int).toNat 0)) (k:=2) (show (0:Int) < 15 by decide)
    have:=mix_hi (c:=(ns.getD (0:Int).toNat 0)) (k:=2) (show (0:Int) < 15 by decide)
    exact ⟨(2 + mixV (ns.getD (0:Int).toNat 0) 2 15).toNat,by omega,by omega,by omega⟩
  have us:=up_small u (by omega)
  refine seq_cut (fun σ G=>Same H G∧∃ ll,G ll=some (.lst [V.str (Str.ofString "one"),.str (Str.ofString "one"),.str (Str.ofString "both"),.str (Ly.text (.up u))])∧σ=[some (.ref a),some (.int (n:Int)),some (.ref ll),none,none,none,none,none,none,none,none,none,none,none,none]) (fun R hR=>⟨_,rfl,a,0,ns,rfl,hS,by decide,(ns.getD (0:Int).toNat 0),2,15,rfl,by decide,by decide,by decide,fun H1 s1=>⟨_,_,rfl,rfl,_,rfl,(by show (2 + mixV (ns.getD (0:Int).toNat 0) 2 15).natAbs.log2 < 1920;rw [eu];exact us.1),_,_,rfl,rfl,(by show (Str.ofString "up:").length + (Str.ofString (toString (2 + mixV (ns.getD (0:Int).toNat 0) 2 15))).length≤sizeLine;rw [eu];exact small us.2),z4,fun ll nll=>?_⟩⟩) ?_
  · dsimp only [gName]
    rw [eu]
    exact hR _ _ ⟨s1.trans (same_new nll _),ll,upd_same,rfl⟩
  rintro σ H2 ⟨t2,ll,hll,rfl⟩
  refine seq_cut (fun σ G=>Same H G∧∃ ly:Ly,ly.Ok∧σ=[some (.ref a),some (.int (n:Int)),some (.str (Ly.text ly)),none,none,none,none,none,none,none,none,none,none,none,none]) (fun R hR=>⟨_,rfl,_,rfl,a,0,ns,rfl,t2.seq hS,by decide,(ns.getD (0:Int).toNat 0),1,4,rfl,by decide,by decide,by decide,fun H3 s3=>⟨ll,_,_,rfl,rfl,SqL.of (s3 _ _ hll),mix_lo (by decide),mix_hi (by decide),fun v hv=>?_⟩⟩) ?_
  · obtain ⟨ly,rfl,okl⟩:∃ ly:Ly,v=.str (Ly.text ly)∧ly.Ok:=by
      have hm:=List.mem_of_getElem? hv
      simp only [List.mem_cons,List.not_mem_nil,or_false] at hm
      rcases hm with rfl | rfl | rfl | rfl
      · exact ⟨.one,rfl,trivial⟩
      · exact ⟨.one,rfl,trivial⟩
      · exact ⟨.both,rfl,trivial⟩
      · exact ⟨.up u,rfl,u1,u2⟩
    exact hR _ _ ⟨t2.trans s3,ly,okl,rfl⟩
  rintro σ H3 ⟨t3,ly,okl,rfl⟩
  obtain ⟨cp,ec,c1,c4⟩:∃ cp:Nat,1 + mixV (ns.getD (0:Int).toNat 0) 3 4=(cp:Int)∧1≤cp∧cp≤4:=by
    have:=mix_lo (c:=(ns.getD (0:Int).toNat 0)) (k:=3) (show (0:Int) < 4 by decide)
    have:=mix_hi (c:=(ns.getD (0:Int).toNat 0)) (k:=3) (show (0:Int) < 4 by decide)
    exact ⟨(1 + mixV (ns.getD (0:Int).toNat 0) 3 4).toNat,by omega,by omega,by omega⟩
  refine seq_cut (fun σ G=>Same H3 G∧σ=[some (.ref a),some (.int (n:Int)),some (.str (Ly.text ly)),some (.int (cp:Int)),none,none,none,none,none,none,none,none,none,none,none]) (fun R hR=>⟨_,rfl,a,0,ns,rfl,t3.seq hS,by decide,(ns.getD (0:Int).toNat 0),3,4,rfl,by decide,by decide,by decide,fun H4 s4=>⟨_,_,rfl,rfl,hR _ _ ⟨s4,by rw [← ec];rfl⟩⟩⟩) ?_
  rintro σ H4 ⟨s4,rfl⟩
  have t4:=t3.trans s4
  refine seq_cut (fun σ G=>H4=G∧∃ nm,σ=[some (.ref a),some (.int (n:Int)),some (.str (Ly.text ly)),some (.int (cp:Int)),some (.str nm),none,none,none,none,none,none,none,none,none,none]) (fun R hR=>⟨_,rfl,a,1,ns,rfl,t4.seq hS,by decide,_,_,rfl,hR _ _ ⟨rfl,_,rfl⟩⟩) ?_
  rintro σ G ⟨rfl,nm,rfl⟩
  refine seq_cut (fun σ G=>H4=G∧∃ kd,σ=[some (.ref a),some (.int (n:Int)),some (.str (Ly.text ly)),some (.int (cp:Int)),some (.str nm),some (.str kd),none,none,none,none,none,none,none,none,none]) (fun R hR=>⟨_,rfl,a,1,ns,rfl,t4.seq hS,by decide,_,_,rfl,hR _ _ ⟨rfl,_,rfl⟩⟩) ?_
  rintro σ G ⟨rfl,kd,rfl⟩
  -- the paths
  refine ⟨_,rfl,by decide,by decide,?_⟩
  refine compB_mk (seq_range 0 (2:Int).toNat H4) (fun x y H3=>∃ P:Nat,y=.int (P:Int)∧1≤P∧P≤4) (by rw [List.length_map,List.length_range];exact small1000 (by decide)) (fun x hx' H' R _ r=>r) (fun x hx' H' R sm rr=>?_) (fun ph H5 us5 s5 nph hph hl5 hg5=>?_)
  · obtain ⟨j,hj,rfl⟩:=List.mem_map.mp hx'
    have j2:j < 2:=List.mem_range.mp hj
    obtain ⟨P,eP,P1,P4⟩:∃ P:Nat,1 + mixV (ns.getD (5:Int).toNat 0) (0 + (j:Int)) 4=(P:Int)∧1≤P∧P≤4:=by
      have:=mix_lo (c:=ns.getD (5:Int).toNat 0) (k:=0 + (j:Int)) (show (0:Int) < 4 by decide)
      have:=mix_hi (c:=ns.getD (5:Int).toNat 0) (k:=0 + (j:Int)) (show (0:Int) < 4 by decide)
      exact ⟨(1 + mixV (ns.getD (5:Int).toNat 0) (0 + (j:Int)) 4).toNat,by omega,by omega,by omega⟩
    refine ⟨_,rfl,a,5,ns,rfl,(t4.trans sm).seq hS,by decide,_,rfl,_,_,4,rfl,by omega,by omega,by decide,fun H6 s6=>⟨_,_,rfl,rfl,?_⟩⟩
    exact rr _ _ s6 (new_triv ⟨P,congrArg V.int eP,P1,P4⟩)
  rw [List.length_map,List.length_range] at hl5
  obtain ⟨P0,Pq,rfl,P01,P04,Pq1,Pq4⟩:=two_of hl5 (fun i y e=>by
    obtain ⟨x,ex⟩:∃ x,((List.range (2:Int).toNat).map fun i=>V.int (0 + (i:Nat)))[i]?=some x:=⟨_,List.getElem?_eq_getElem (by rw [List.length_map,List.length_range,← hl5];exact (List.getElem?_eq_some_iff.mp e).1)⟩
    exact hg5 i x y ex e)
  clear hg5 hl5
  have t5:=t4.trans s5
  -- the printers
  have nm01:∀ i:Nat,i < 2→((0 + (i:Int)).natAbs.log2 < 1920∧(Str.ofString "p").length + (Str.ofString (toString (0 + (i:Int)))).length≤1000∧Str.ofString "p" ++ Str.ofString (toString (0 + (i:Int)))=if i=0 then ("p0":Str) else "p1"):=by decide +kernel
  refine ⟨_,rfl,by decide,by decide,?_⟩
  refine compB_inv (seq_range 0 (2:Int).toNat H5) (fun D i ys G=>Same H5 G∧H5 D=none∧G D=some (.lst ys)∧ys.length=i∧((i=0∧ys=[])∨(i=1∧∃ p d,ys=[.ref p]∧Pnew cZ cQ yJ yW yU H5 G p d "p0" kd P0∧D≠d.ins)∨(i=2∧∃ p d q e,ys=[.ref p,.ref q]∧Pnew cZ cQ yJ yW yU H5 G p d "p0" kd P0∧Pnew cZ cQ yJ yW yU H5 G q e "p1" kd Pq∧Sp2 p q d e∧D≠d.ins∧D≠e.ins))) (by rw [List.length_map,List.length_range];exact small1000 (by decide)) (fun D nD=>⟨same_new nD _,nD,upd_same,rfl,.inl ⟨rfl,rfl⟩⟩) (fun D i ys G z=>⟨z.1,z.2.2.1,by rw [z.2.2.2.1];exact Nat.le_refl _⟩) (fun D i x ys G N hx nD z nx=>?_) (fun pl ys H6 npl z=>?_)
  · obtain ⟨sm,_,hD,ly',hc⟩:=z
    have i2:i < 2:=by
      have:=(List.getElem?_eq_some_iff.mp hx).1
      rw [List.length_map,List.length_range] at this
      exact this
    rw [List.getElem?_map,show (2:Int).toNat=2 from rfl,List.getElem?_range i2] at hx
    obtain rfl:=Option.some.inj hx
    obtain ⟨g1,g2,g3⟩:=nm01 i i2
    refine iteT ⟨_,rfl,_,rfl,g1,_,_,rfl,rfl,small g2,_,rfl,_,rfl,ph,_,_,rfl,rfl,SqL.of (sm _ _ hph),by omega,by show 0 + (i:Int) < 2;omega,fun v hv=>?_⟩
    rw [show (0 + (i:Int)).toNat=i by omega] at hv
    rw [g3]
    rcases hc with ⟨rfl,rfl⟩ | ⟨rfl,p,d,rfl,Pp,nDi⟩ | ⟨rfl,_⟩
    · obtain rfl:=Option.some.inj hv
      refine ⟨_,rfl,"p0",kd,_,rfl,fun p d G2 s2' PN=>⟨s2' _ _ hD,nx _ _ ⟨same_on nD (sm.trans s2') _,nD,upd_same,rfl,.inr (.inl ⟨rfl,p,d,rfl,?_,ne_of_none hD PN.ni⟩)⟩⟩⟩
      exact (PN.old sm).upl (s2' _ _ hD) (ne_of_none hD PN.ni)
    · obtain rfl:=Option.some.inj hv
      refine ⟨_,rfl,"p1",kd,_,rfl,fun q' e G2 s2' PN=>⟨s2' _ _ hD,nx _ _ ⟨same_on nD (sm.trans s2') _,nD,upd_same,rfl,.inr (.inr ⟨rfl,p,d,q',e,rfl,?_,?_,sp2_new Pp.P PN,nDi,ne_of_none hD PN.ni⟩)⟩⟩⟩
      · exact (Pp.same s2').upl (s2' _ _ hD) nDi
      · exact (PN.old sm).upl (s2' _ _ hD) (ne_of_none hD PN.ni)
    · omega
  obtain ⟨s6,_,hpl,_,hc⟩:=z
  rcases hc with ⟨z,_⟩ | ⟨z,_⟩ | ⟨_,p,d,q',e,rfl,Pp,Pe,S2,nDi,nDe⟩
  · exact absurd z (by decide)
  · exact absurd z (by decide)
  have t6:=t5.trans s6
  -- the run
  refine ⟨_,rfl,_,rfl,_,rfl,_,rfl,_,rfl,z0,fun tp ntp=>?_⟩
  have l5:=same_new ntp (.tup [])
  generalize upd H6 tp (.tup [])=G11 at l5 ⊢
  refine fun jx jdx njx njdx njxd=>⟨jx,jdx,_,_,_,_,_,_,_,_,_,_,rfl,upd_same,⟨rfl,?_⟩⟩
  dsimp only
  have l6:Same G11 (upd (upd (upd G11 jdx (.own jx)) jx (.ins yG jdx [])) jx (.ins yG jdx (jobF (.str nm) (.str (Str.ofString "ann")) (.int (n:Int)) (.int (cp:Int)) (.str (Ly.text ly)) (.str kd) .non .non (.bl true) (.ref tp)))):=made_same njx njdx
  have hj:upd (upd (upd G11 jdx (.own jx)) jx (.ins yG jdx [])) jx (.ins yG jdx (jobF (.str nm) (.str (Str.ofString "ann")) (.int (n:Int)) (.int (cp:Int)) (.str (Ly.text ly)) (.str kd) .non .non (.bl true) (.ref tp))) jx=some (.ins yG jdx (jobF (.str nm) (.str (Str.ofString "ann")) (.int (n:Int)) (.int (cp:Int)) (.str (Ly.text ly)) (.str kd) .non .non (.bl true) (.ref tp))):=upd_same
  generalize upd (upd (upd G11 jdx (.own jx)) jx (.ins yG jdx [])) jx (.ins yG jdx (jobF (.str nm) (.str (Str.ofString "ann")) (.int (n:Int)) (.int (cp:Int)) (.str (Ly.text ly)) (.str kd) .non .non (.bl true) (.ref tp)))=G12 at l6 hj ⊢
  have l46:=l5.trans l6
  obtain ⟨j,ej⟩:∃ j:Jv,j=⟨n,ly,kd,none,none⟩:=⟨_,rfl⟩
  have jok:j.Ok:=by rw [ej];exact ⟨n1,by show n≤999;omega,okl⟩
  have J12:JobR yG G12 jx nm cp j:=⟨jdx,_,_,_,.non,by rw [ej];exact hj,by rw [ej];rfl⟩
  refine fun rx rdx nrx nrdx nrxd=>?_
  have kr:∀ b o,G12 b=some o→b≠rx∧upd (upd G12 rdx (.own rx)) rx (.ins yK rdx []) b=some o:=fun b o e=>by
    have b1:b≠rx:=ne_of_none e nrx
    exact ⟨b1,by rw [upd_ne b1,upd_ne (ne_of_none e nrdx)];exact e⟩
  refine ⟨rx,rdx,jx,nm,cp,j,rfl,upd_same,J12.fr (fun o e=>(kr _ _ e).2) (fun b xs e=>(kr _ _ e).2),jok,c1,by omega,(kr _ _ hj).1,fun il G13 k13 nil' R13=>⟨rfl,?_⟩⟩
  have l7:Same G12 G13:=fun b o e=>k13 b o (kr b o e).1 (kr b o e).2
  have l47:=l46.trans l7
  have nil12:H6 il=none:=by
    cases e:H6 il with
    | none=>rfl
    | some o=>rw [(kr il o (l46 _ _ e)).2] at nil';cases nil'
  have nrx6:∀ b o,H6 b=some o→b≠rx:=fun b o e=>(kr b o (l46 _ _ e)).1
  generalize hr0:newR rdx jx il nm cp j=r0 at R13
  have rnm:r0.nm=nm:=by rw [← hr0];rfl
  have rpr:r0.pr=none:=by rw [← hr0];rfl
  have rps:r0.ps=0:=by rw [← hr0];rfl
  have rsl:r0.sl=false:=by rw [← hr0];rfl
  have rbr:r0.br=false:=by rw [← hr0];rfl
  have rin:r0.inks=inksJ j:=by rw [← hr0];rfl
  have rj:r0.j=j:=by rw [← hr0];rfl
  have ril:r0.il=il:=by rw [← hr0];rfl
  have elen:(inksJ j).length=cntL ly n:=by unfold inksJ;rw [List.length_map,laid_len,ej]
  have rtot:r0.tot=cntL ly n * cp:=by rw [← hr0];show (inksJ j).length * cp=_;rw [elen]
  have cn1:1≤cntL ly n:=by unfold cntL;exact Nat.le_add_left 1 _
  have cn9:cntL ly n≤n:=cnt_hi n1
  have T1:1≤r0.tot:=by rw [rtot];exact Nat.mul_le_mul cn1 c1
  have T36:r0.tot≤36:=by rw [rtot];exact Nat.mul_le_mul (Nat.le_trans cn9 n9) c4
  have wd:∀ (pp:Addr) (dd:PD),PrAt cZ cQ yJ yW yU H6 pp dd→dd.tags=[]→Wd yK yG cZ cQ yJ yW yU G13 rx r0 pp dd []:=fun pp dd PP et=>by
    obtain ⟨⟨dt,tt1⟩,_⟩:=id PP.T
    obtain ⟨⟨di,ii1⟩,_⟩:=id PP.I
    exact ⟨R13,PP.same l47,by rw [et];exact ⟨rfl,fun i y n a=>by cases a⟩,nrx6 _ _ PP.o,nrx6 _ _ tt1,nrx6 _ _ ii1,nrx6 _ _ PP.s,by rw [ril];exact (ne_of_none PP.n nil12).symm⟩
  have Z0:Z2 yK yG cZ cQ yJ yW yU G13 rx p q' r0 d e [] []:=⟨wd p d Pp.P Pp.tg,wd q' e Pe.P Pe.tg,S2⟩
  have t13:=t6.trans l47
  have sk:Sk K G13 a d.ins e.ins (ns.map V.int):=by
    rcases hS with h | h
    · have ne:∀ b,H5 b=none→a≠b:=fun b nb z=>by
        rcases h with h | ⟨ob,h⟩
        · rw [← z,t5 _ _ h] at nb;cases nb
        · rw [← z,t5 _ _ h] at nb;cases nb
      refine .inl ⟨?_,ne _ Pp.ni,ne _ Pe.ni⟩
      rcases h with h | ⟨ob,h⟩
      · exact .inl (t13 _ _ h)
      · exact .inr ⟨ob,t13 _ _ h⟩
    · exact .inr fun _=>.inr h
  have L0:Lw K G13 a pl p q' d e (ns.map V.int):=⟨sk,l47 _ _ hpl,nDi,nDe⟩
  have k0:Rk r0 kd 0 (r0.tot + 1):=⟨rbr,by omega,by omega,by omega,by rw [rj,ej],by rw [rj,ej],by rw [rin];exact ink_le jok⟩
  have stk:∀ (dd:PD),dd.am.lookup kd=some 500→dd.b=9999→dd.c=9999→Stk dd kd 0:=fun dd h1 h2 h3=>⟨⟨500,h1,by decide⟩,by rw [h2];decide,by rw [h3];decide⟩
  have hph13:=(s6.trans l47) _ _ hph
  clear R13 hj J12 kr nrx6 wd sk
  refine ⟨_,rfl,_,rfl,n,ly,rfl,okl,n1,by omega,?_⟩
  -- the way
  have em:((cntL ly n:Nat):Int) * (cp:Int)=(r0.tot:Int):=by rw [rtot,Int.natCast_mul]
  have hmost:((cntL ly n:Nat):Int) * (cp:Int) + 1 + (if ((P0:Nat):Int) < ((cntL ly n:Nat):Int) * (cp:Int) then ((P0:Nat):Int) else ((cntL ly n:Nat):Int) * (cp:Int))=((r0.tot + 1 + min r0.tot P0:Nat):Int):=by
    rw [em]
    split <;> omega
  refine ⟨_,rfl,_,rfl,_,rfl,_,rfl,_,rfl,_,_,rfl,rfl,.inl ⟨by omega,by omega⟩,_,_,rfl,rfl,_,rfl,_,rfl,_,_,rfl,rfl,.inl ⟨by omega,by omega⟩,_,rfl,ph,_,_,_,rfl,rfl,SqL.of hph13,atI_nat (j:=0) rfl,_,_,rfl,_,_,rfl,rfl,a,rx,pl,p,q',r0,d,e,kd,P0,Pq,ns,?_,Z0,L0,Pp.nm,Pe.nm,rps,rpr,rsl,k0,T36,Pp.pa,Pe.pa,P01,P04,Pq1,Pq4,Pp.S,Pe.S,stk d Pp.am Pp.b Pp.c,stk e Pe.am Pe.b Pe.c,fun H7 r1 d1 e1 n0 m0 Y=>?_⟩
  · exact congrArg (fun z=>[V.ref a,V.ref rx,V.ref pl,V.int z]) hmost
  have A:=Y.sum rbr rpr rps T1
  have Z7:=Y.z
  have L7:=Y.l
  clear Z0 L0 k0 hmost stk hph13 hph
  refine ⟨_,rfl,rx,_,_,_,_,_,rfl,Z7.W.R.o,rfl,T.cl_Run,D_Run_out,rx,r1,rfl,Z7.W.R,?_⟩
  dsimp only [gName]
  have kt_obj:∀ {G G':Hp} {b C dx:Addr} {fs:List (Str×V)},G b=some (.ins C dx fs)→(∀ c o,c≠b→G c=some o→G' c=some o)→∀ c xs,G c=some (.tup xs)→G' c=some (.tup xs):=fun hb k c xs eo=>k _ _ (ne_of eo hb (by intro z;cases z)) eo
  refine seq_cut (fun σ G=>H7=G∧σ=[some (.ref a),some (.int (n:Int)),some (.str (Ly.text ly)),some (.int (cp:Int)),some (.str nm),some (.str kd),some (.ref ph),some (.ref pl),some (.ref rx),some (.int ((cntL ly n:Nat):Int)),some (.int (r1.ps:Int)),some .non,none,none,none]) (fun R hR=>hR _ _ ⟨rfl,rfl⟩) ?_
  rintro σ G ⟨eG,rfl⟩
  subst eG
  refine seq_cut (fun σ G=>∃ (r2:RD) (d2 e2:PD) (v:V) (v12:Option V),Z2 yK yG cZ cQ yJ yW yU G rx p q' r2 d2 e2 [] []∧Lw K G a pl p q' d2 e2 (ns.map V.int)∧¬ Liv r2∧r2.pr=none∧r2.nm=nm∧LkV G r2 v∧σ=[some (.ref a),some (.int (n:Int)),some (.str (Ly.text ly)),some (.int (cp:Int)),some (.str nm),some (.str kd),some (.ref ph),some (.ref pl),some (.ref rx),some (.int ((cntL ly n:Nat):Int)),some (.int (r2.ps:Int)),some v,v12,none,none]) (fun R hR=>?_) ?_
  · refine ⟨_,rfl,rx,_,_,_,_,_,rfl,Z7.W.R.o,rfl,T.cl_Run,D_Run_whole,rx,r1,rfl,Z7.W.R,_,rfl,?_⟩
    by_cases cw:r1.ps=r1.tot
    · rw [decide_eq_true cw]
      obtain ⟨w1,rfl,rfl⟩:=A.wh cw
      exact iteF (hR _ _ ⟨r1,d1,e1,.non,_,Z7,L7,fun lv=>lv.2 cw,w1,A.nm.trans rnm,.inl ⟨A.br,cw,rfl⟩,rfl⟩)
    rw [decide_eq_false cw]
    have lv:Liv r1:=⟨A.br,cw⟩
    refine iteT ⟨z0,fun w0 nw0=>?_⟩
    have s8:=same_new nw0 (.lst [])
    have hw0:upd H7 w0 (.lst []) w0=some (.lst []):=upd_same
    generalize upd H7 w0 (.lst [])=H8 at s8 hw0 ⊢
    have Z8:=Z7.same s8
    have L8:=L7.kl (d':=d1) (kl_same s8) (.inl rfl)
    have tn:∀ G:Hp,TagsAt G nm [] []:=fun G=>⟨rfl,fun i y n a=>by cases a⟩
    have rn1:r1.nm=nm:=A.nm.trans rnm
    dsimp only [gName]
    refine seq_cut (fun σ G=>∃ (wl:Addr) (ts:List V),Same H8 G∧G wl=some (.lst ts)∧wl≠d1.ins∧wl≠e1.ins∧TagsAt G nm ts (n0 ++ m0)∧σ=[some (.ref a),some (.int (n:Int)),some (.str (Ly.text ly)),some (.int (cp:Int)),some (.str nm),some (.str kd),some (.ref ph),some (.ref pl),some (.ref rx),some (.int ((cntL ly n:Nat):Int)),some (.int (r1.ps:Int)),some .non,some (.ref wl),none,none]) (fun R hR=>?_) ?_
    · have w1:w0≠d1.ins:=(ne_of_none Z7.W.P.n nw0).symm
      have w2:w0≠e1.ins:=(ne_of_none Z7.U.P.n nw0).symm
      rcases A.at_ cw with ⟨hp,rfl,rfl⟩ | ⟨hp,rfl,_⟩ | ⟨hp,rfl,_⟩
      · exact ⟨_,rfl,rx,_,_,_,_,_,rfl,Z8.W.R.o,rfl,T.cl_Run,D_Run_at,rx,r1,rfl,Z8.W.R,fun _=>⟨rfl,_,rfl,iteF (hR _ _ ⟨w0,[],Same.refl _,hw0,w1,w2,tn _,rfl⟩)⟩,fun p' z=>by rw [hp] at z;cases z⟩
      · refine ⟨_,rfl,rx,_,_,_,_,_,rfl,Z8.W.R.o,rfl,T.cl_Run,D_Run_at,rx,r1,rfl,Z8.W.R,(fun z=>by rw [hp] at z;cases z),fun p' z=>?_⟩
        obtain rfl:p=p':=by rw [hp] at z;exact Option.some.inj z
        refine ⟨d1,Z8.W.P,rfl,_,rfl,iteNN (by intro z;cases z) ?_⟩
        refine ⟨_,rfl,_,rfl,rx,_,_,_,_,_,rfl,Z8.W.R.o,rfl,T.cl_Run,D_Run_at,rx,r1,rfl,Z8.W.R,(fun z=>by rw [hp] at z;cases z),fun p' z=>?_⟩
        obtain rfl:p=p':=by rw [hp] at z;exact Option.some.inj z
        refine ⟨d1,Z8.W.P,rfl,.inr ⟨_,rfl,?_⟩⟩
        rw [show (if decide (V.str d1.name=V.str (Str.ofString "p1"))=true then (1:Int) else 0)=0 by rw [Y.nd];decide +kernel]
        refine ⟨pl,_,_,rfl,rfl,SqL.of L8.l,by decide,by show (0:Int) < 2;decide,fun v hv=>?_⟩
        obtain rfl:=Option.some.inj hv
        refine ⟨p,_,_,_,_,_,rfl,Z8.W.P.o,rfl,T.cl_Printer,D_Printer_within,p,d1,rfl,Z8.W.P,fun wl G sg nwl hwl=>hR _ _ ⟨wl,d1.tags,sg,hwl,(ne_of_none Z8.W.P.n nwl).symm,(ne_of_none Z8.U.P.n nwl).symm,?_,rfl⟩⟩
        rw [List.append_nil,← rn1]
        exact Z8.W.tg.same sg
      · refine ⟨_,rfl,rx,_,_,_,_,_,rfl,Z8.W.R.o,rfl,T.cl_Run,D_Run_at,rx,r1,rfl,Z8.W.R,(fun z=>by rw [hp] at z;cases z),fun p' z=>?_⟩
        obtain rfl:q'=p':=by rw [hp] at z;exact Option.some.inj z
        refine ⟨e1,Z8.U.P,rfl,_,rfl,iteNN (by intro z;cases z) ?_⟩
        refine ⟨_,rfl,_,rfl,rx,_,_,_,_,_,rfl,Z8.W.R.o,rfl,T.cl_Run,D_Run_at,rx,r1,rfl,Z8.W.R,(fun z=>by rw [hp] at z;cases z),fun p' z=>?_⟩
        obtain rfl:q'=p':=by rw [hp] at z;exact Option.some.inj z
        refine ⟨e1,Z8.U.P,rfl,.inr ⟨_,rfl,?_⟩⟩
        rw [show (if decide (V.str e1.name=V.str (Str.ofString "p1"))=true then (1:Int) else 0)=1 by rw [Y.ne];decide +kernel]
        refine ⟨pl,_,_,rfl,rfl,SqL.of L8.l,by decide,by show (1:Int) < 2;decide,fun v hv=>?_⟩
        obtain rfl:=Option.some.inj hv
        refine ⟨q',_,_,_,_,_,rfl,Z8.U.P.o,rfl,T.cl_Printer,D_Printer_within,q',e1,rfl,Z8.U.P,fun wl G sg nwl hwl=>hR _ _ ⟨wl,e1.tags,sg,hwl,(ne_of_none Z8.W.P.n nwl).symm,(ne_of_none Z8.U.P.n nwl).symm,?_,rfl⟩⟩
        rw [List.nil_append,← rn1]
        exact Z8.U.tg.same sg
    rintro σ G ⟨wl,ts,s9,hwl,nw1,nw2,tgw,rfl⟩
    have Z9:=Z8.same s9
    have L9:=L8.kl (d':=d1) (kl_same s9) (.inl rfl)
    clear Z8 L8 hw0
    have notTup:∀ ts:List V,(∀ C dx fs,HO.lst ts≠.ins C dx fs)∧∀ kv,HO.lst ts≠.dK kv:=fun ts=>⟨(by intro _ _ _ z;cases z),(by intro _ z;cases z)⟩
    refine seq_cut (fun σ G'=>∃ d2 e2,Z2 yK yG cZ cQ yJ yW yU G' rx p q' (dropR (outE r1 (n0 ++ m0))) d2 e2 [] []∧Lw K G' a pl p q' d2 e2 (ns.map V.int)∧G' wl=some (.lst ts)∧TagsAt G' nm ts (n0 ++ m0)∧σ=[some (.ref a),some (.int (n:Int)),some (.str (Ly.text ly)),some (.int (cp:Int)),some (.str nm),some (.str kd),some (.ref ph),some (.ref pl),some (.ref rx),some (.int ((cntL ly n:Nat):Int)),some (.int (r1.ps:Int)),some .non,some (.ref wl),none,none]) (fun R hR=>?_) ?_
    · refine ⟨_,rfl,rx,_,_,_,_,_,rfl,Z9.W.R.o,rfl,T.cl_Run,D_Run_drop,rx,r1,rfl,Z9.W.R,fun z=>absurd lv z,fun _=>⟨fun hp l H10 k10 nlx hl R10=>?_,fun p' hp'=>?_⟩⟩
      · obtain ⟨rfl,rfl⟩:n0=[]∧m0=[]:=by
          rcases A.at_ cw with ⟨_,h1,h2⟩ | ⟨h,_⟩ | ⟨h,_⟩
          · exact ⟨h1,h2⟩
          · rw [hp] at h;cases h
          · rw [hp] at h;cases h
        have eo:outE r1 ([] ++ [])=r1:=by
          show outE r1 []=r1
          rw [outE_R (by rw [outR_nil];exact cw),outR_nil]
        have kl10:∀ i,Kl i G H10:=fun i=>kl_obj Z9.W.R.o k10
        have hw10:H10 wl=some (.lst ts):=k10 _ _ (ins_lst Z9.W.R.o hwl).symm hwl
        have tg10:=tgw.fr (kt_obj Z9.W.R.o k10)
        refine ⟨_,rfl,l,wl,nm,[],ts,[],rfl,hl,hw10,tn _,tg10,by decide,true,rfl,iteF (hR _ _ ⟨d1,e1,?_,L9.kl (kl10 _) (.inl rfl),hw10,tg10,rfl⟩)⟩
        rw [eo]
        exact Z9.run k10 R10 rfl rfl
      · rcases A.at_ cw with ⟨h,_⟩ | ⟨h,rfl,hSd⟩ | ⟨h,rfl,hSe⟩
        · rw [h] at hp';cases hp'
        · obtain rfl:p=p':=by rw [h] at hp';exact Option.some.inj hp'
          have nw:=A.nw
          rw [List.append_nil] at nw tgw
          simp only [List.append_nil] at hR
          refine ⟨d1,n0,Z9.W,hSd,nw,fun l H10 H11 em k11 R11=>?_⟩
          have fr2:∀ b o,b≠rx→b≠d1.ins→b≠d1.tr2→b≠d1.ik2→G b=some o→H10 b=some o:=fun b o n1 n2 _ _ eo=>em.fr b o n1 n2 eo
          have Z10:=Z9.deed fr2 em.w (outE_nm _ _) (outE_il _ _) { Z9.s with }
          have Z11:=Z10.run k11 R11 rfl rfl
          obtain ⟨us,hl,tgl⟩:=em.l
          have kt11:=kt_obj Z10.W.R.o k11
          have hw10:=Z9.kl fr2 wl _ nw1 (notTup ts).1 (notTup ts).2 hwl
          have hw11:=k11 _ _ (ins_lst Z10.W.R.o hw10).symm hw10
          have tg11:=(tgw.fr fun b xs eo=>fr2 _ _ (ne_of eo Z9.W.R.o (by intro z;cases z)) (ne_of eo Z9.W.P.n (by intro z;cases z)) (ne_of eo Z9.W.P.T.2.2.1 (by intro z;cases z)) (ne_of eo Z9.W.P.I.2.2.1 (by intro z;cases z)) eo).fr kt11
          rw [rn1] at tgl
          refine ⟨_,rfl,l,wl,nm,us,ts,n0,rfl,k11 _ _ (ins_lst Z10.W.R.o hl).symm hl,hw11,tgl.fr kt11,tg11,by rw [← Z9.W.tg.1];exact Z9.W.P.lt,true,rfl,iteF (hR _ _ ⟨_,e1,Z11,(L9.kl (d':={ d1 with tags:=[] }) (Z9.kl fr2) (.inl rfl)).kl (d':={ d1 with tags:=[] }) (kl_obj Z10.W.R.o k11) (.inl rfl),hw11,tg11,rfl⟩)⟩
        · obtain rfl:q'=p':=by rw [h] at hp';exact Option.some.inj hp'
          have nw:=A.nw
          rw [List.nil_append] at nw tgw
          have Z9s:=Z9.swap
          refine ⟨e1,m0,Z9s.W,hSe,nw,fun l H10 H11 em k11 R11=>?_⟩
          have fr2:∀ b o,b≠rx→b≠e1.ins→b≠e1.tr2→b≠e1.ik2→G b=some o→H10 b=some o:=fun b o n1 n2 _ _ eo=>em.fr b o n1 n2 eo
          have Z10:=Z9s.deed fr2 em.w (outE_nm _ _) (outE_il _ _) { Z9s.s with }
          have Z11:=Z10.run k11 R11 rfl rfl
          obtain ⟨us,hl,tgl⟩:=em.l
          have kt11:=kt_obj Z10.W.R.o k11
          have hw10:=Z9s.kl fr2 wl _ nw2 (notTup ts).1 (notTup ts).2 hwl
          have hw11:=k11 _ _ (ins_lst Z10.W.R.o hw10).symm hw10
          have tg11:=(tgw.fr fun b xs eo=>fr2 _ _ (ne_of eo Z9s.W.R.o (by intro z;cases z)) (ne_of eo Z9s.W.P.n (by intro z;cases z)) (ne_of eo Z9s.W.P.T.2.2.1 (by intro z;cases z)) (ne_of eo Z9s.W.P.I.2.2.1 (by intro z;cases z)) eo).fr kt11
          rw [rn1] at tgl
          refine ⟨_,rfl,l,wl,nm,us,ts,m0,rfl,k11 _ _ (ins_lst Z10.W.R.o hl).symm hl,hw11,tgl.fr kt11,tg11,by rw [← Z9s.W.tg.1];exact Z9s.W.P.lt,true,rfl,iteF (hR _ _ ⟨d1,_,Z11.swap,(L9.kl2 (e':={ e1 with tags:=[] }) (Z9s.kl fr2) rfl).kl2 (e':={ e1 with tags:=[] }) (kl_obj Z10.W.R.o k11) rfl,hw11,tg11,rfl⟩)⟩
    rintro σ G10 ⟨d2,e2,Z10,L10,hw10,tg10,rfl⟩
    have ww9:(n0 ++ m0).length≤900:=by
      rcases A.at_ cw with ⟨_,rfl,rfl⟩ | ⟨_,rfl,_⟩ | ⟨_,rfl,_⟩
      · exact Nat.zero_le _
      · rw [List.append_nil,← Z9.W.tg.1];exact Z9.W.P.lt
      · rw [List.nil_append,← Z9.U.tg.1];exact Z9.U.P.lt
    obtain ⟨o1,o2,o3⟩:=outE_all r1 (n0 ++ m0)
    refine ⟨_,rfl,_,rfl,wl,rfl,⟨_,SqL.of hw10⟩,?_⟩
    refine compB_seq (seq_list (K:=K) (SqL.of hw10)) (isSheet G10 nm) id (by rw [tg10.1];exact small1000 (by omega)) (fun y hy H' W sm rr=>?_) (fun y hy H' W sm py rr=>⟨_,rfl,rr⟩) (fun D G11 s11 nD hD=>?_)
    · obtain ⟨i,ei⟩:=List.mem_iff_getElem?.mp hy
      obtain ⟨t,k,rfl,ek,ht⟩:=tg10.get ei
      refine ⟨_,rfl,t,_,_,_,rfl,rfl,SqT.of (sm _ _ ht),atI_nat (j:=1) rfl,_,_,rfl,rfl,_,?_,rr⟩
      rw [sheet_at ht,← ge_sheet (A.lo k (List.mem_of_getElem? ek))]
    rw [List.map_id] at hD
    refine ⟨D,_,rfl,.inl (SqL.of hD),_,_,rfl,rfl,?_⟩
    rw [sheet_len tg10]
    dsimp only [gName]
    rw [show (r1.ps:Int) + ((sheetsN (n0 ++ m0):Nat):Int)=(((dropR (outE r1 (n0 ++ m0))).ps:Nat):Int) by show _=(((outE r1 (n0 ++ m0)).ps:Nat):Int);rw [o1];omega]
    have Z11:=Z10.same s11
    have L11:=L10.kl (d':=d2) (kl_same s11) (.inl rfl)
    have hi:=A.hi
    have rnm2:(dropR (outE r1 (n0 ++ m0))).nm=nm:=by show (outE r1 (n0 ++ m0)).nm=nm;rw [outE_nm];exact rn1
    have tot2:(dropR (outE r1 (n0 ++ m0))).tot=r0.tot:=by show (outE r1 (n0 ++ m0)).tot=_;rw [o2,A.tot]
    have len2:(dropR (outE r1 (n0 ++ m0))).inks.length=cntL ly n:=by show (outE r1 (n0 ++ m0)).inks.length=_;rw [o3,A.ik,rin,elen]
    have ps2:(dropR (outE r1 (n0 ++ m0))).ps=(outE r1 (n0 ++ m0)).ps:=rfl
    have br2:(dropR (outE r1 (n0 ++ m0))).br=!decide ((outE r1 (n0 ++ m0)).ps=r0.tot):=by show (!decide ((outE r1 (n0 ++ m0)).ps=(outE r1 (n0 ++ m0)).tot))=_;rw [o2,A.tot]
    have hi':(outE r1 (n0 ++ m0)).ps≤r0.tot:=by rw [← A.tot];exact hi
    refine ⟨_,rfl,_,rfl,_,rfl,_,_,rfl,rfl,.inl ⟨by omega,by omega⟩,_,_,rfl,rfl,_,rfl,?_⟩
    dsimp only
    rw [em]
    refine ite2 (fun c=>?_) (fun c=>?_)
    · have c':=of_decide_eq_true c
      refine ⟨_,rfl,_,rfl,_,_,rfl,rfl,⟨by omega,by omega⟩,_,_,rfl,rfl,_,rfl,_,rfl,_,_,rfl,rfl,by omega,_,_,rfl,rfl,small (by show 2≤1000;decide),fun t nt=>?_⟩
      have s12:=same_new nt (.tup [V.int ((((dropR (outE r1 (n0 ++ m0))).ps:Nat):Int) / ((cntL ly n:Nat):Int) + 1),.int ((((dropR (outE r1 (n0 ++ m0))).ps:Nat):Int) % ((cntL ly n:Nat):Int) + 1)])
      refine hR _ _ ⟨_,d2,e2,.ref t,_,Z11.same s12,L11.kl (d':=d2) (kl_same s12) (.inl rfl),fun lv2=>?_,rfl,rnm2,.inr ⟨?_,?_,t,rfl,?_⟩,rfl⟩
      · have:=lv2.1
        rw [br2,decide_eq_false (by omega)] at this
        cases this
      · rw [br2,decide_eq_false (by omega)]
        rfl
      · rw [tot2,ps2]
        omega
      · rw [len2]
        exact upd_same
    · have c':¬ (((dropR (outE r1 (n0 ++ m0))).ps:Nat):Int) < (r0.tot:Int):=fun z=>c (decide_eq_true z)
      have ep:(outE r1 (n0 ++ m0)).ps=r0.tot:=by omega
      refine hR _ _ ⟨_,d2,e2,.non,_,Z11,L11,fun lv2=>lv2.2 (by rw [tot2,ps2];exact ep),rfl,rnm2,.inl ⟨by rw [br2,decide_eq_true ep];rfl,by rw [tot2,ps2];exact ep,rfl⟩,rfl⟩
  clear Y A Z7 L7
  rintro σ G ⟨r2,d2,e2,v,v12,Z,L,nl,hp2,nm2,lk,rfl⟩
  have nil_of:∀ {G':Hp} {ts:List V},TagsAt G' r2.nm ts []→ts=[]:=fun tg=>List.eq_nil_of_length_eq_zero tg.1
  -- a printer's list of what is within is empty
  have lkS:∀ {G':Hp},Same G G'→LkV G' r2 v:=fun s'=>lk.fr fun b xs eo=>s' _ _ eo
  refine ⟨_,rfl,_,rfl,_,rfl,rx,r2,v,rfl,Z.W.R,hp2,lk,fun G1 s1=>⟨true,rfl,iteF ?_⟩⟩
  have Za:=Z.same s1
  have La:=L.kl (d':=d2) (kl_same s1) (.inl rfl)
  refine ⟨_,rfl,pl,_,_,_,rfl,rfl,SqL.of La.l,atI_nat (j:=0) rfl,p,_,_,_,_,_,rfl,Za.W.P.o,rfl,T.cl_Printer,D_Printer_within,p,d2,rfl,Za.W.P,fun w1 G2 s2' _ hw1=>⟨z0,fun w2 nw2=>?_⟩⟩
  have t1:=same_new nw2 (.lst [])
  rw [nil_of Za.W.tg] at hw1
  refine ⟨w1,w2,[],[],rfl,rfl,SqL.of (t1 _ _ hw1),SqL.of upd_same,rfl,rfl,_,rfl,iteF ?_⟩
  have s13:=(s1.trans s2').trans t1
  generalize upd G2 w2 (.lst [])=G3 at t1 s13 ⊢
  have Zb:=Z.same s13
  have Lb:=L.kl (d':=d2) (kl_same s13) (.inl rfl)
  refine ⟨_,rfl,pl,_,_,_,rfl,rfl,SqL.of Lb.l,atI_nat (j:=1) rfl,q',_,_,_,_,_,rfl,Zb.U.P.o,rfl,T.cl_Printer,D_Printer_within,q',e2,rfl,Zb.U.P,fun w3 G4 s4' _ hw3=>⟨z0,fun w4 nw4=>?_⟩⟩
  have t4':=same_new nw4 (.lst [])
  rw [nil_of Zb.U.tg] at hw3
  refine ⟨w3,w4,[],[],rfl,rfl,SqL.of (t4' _ _ hw3),SqL.of upd_same,rfl,rfl,_,rfl,iteF ?_⟩
  have s15:=(s13.trans s4').trans t4'
  generalize upd G4 w4 (.lst [])=G5 at t4' s15 ⊢
  have Zc:=Z.same s15
  have Lc:=L.kl (d':=d2) (kl_same s15) (.inl rfl)
  have lkc:=lkS s15
  clear Za La Zb Lb t1 t4' s13 Z L lk lkS
  refine ⟨_,rfl,a,6,ns,rfl,Lc.s.sq,by decide,_,_,rfl,rfl,(by show (0:Int) < 4;decide),?_⟩
  dsimp only [gName]
  generalize hfi:ns.getD (6:Int).toNat 0 % 4=fi
  have f0:0≤fi:=by rw [← hfi];exact Int.emod_nonneg _ (by decide)
  refine seq_cut (fun σ G'=>∃ d3,Z2 yK yG cZ cQ yJ yW yU G' rx p q' r2 d3 e2 [] []∧Lw K G' a pl p q' d3 e2 (ns.map V.int)∧LkV G' r2 v∧σ=[some (.ref a),some (.int (n:Int)),some (.str (Ly.text ly)),some (.int (cp:Int)),some (.str nm),some (.str kd),some (.ref ph),some (.ref pl),some (.ref rx),some (.int ((cntL ly n:Nat):Int)),some (.int (r2.ps:Int)),some v,v12,some (.int fi),none]) (fun R hR=>?_) ?_
  · refine ⟨_,rfl,pl,_,_,_,rfl,rfl,SqL.of Lc.l,atI_nat (j:=0) rfl,p,_,_,_,_,_,rfl,Zc.W.P.o,rfl,T.cl_Printer,D_Printer_stands,p,d2,rfl,Zc.W.P,rfl,_,rfl,?_⟩
    have stay:R [some (.ref a),some (.int (n:Int)),some (.str (Ly.text ly)),some (.int (cp:Int)),some (.str nm),some (.str kd),some (.ref ph),some (.ref pl),some (.ref rx),some (.int ((cntL ly n:Nat):Int)),some (.int (r2.ps:Int)),some v,v12,some (.int fi),none] G5:=hR _ _ ⟨d2,Zc,Lc,lkc,rfl⟩
    refine ite2 (fun c=>?_) (fun _=>iteF stay)
    refine ⟨_,rfl,a,7,ns,rfl,Lc.s.sq,by decide,_,_,rfl,rfl,(by show (0:Int) < 2;decide),rfl,_,rfl,ite2 (fun _=>?_) (fun _=>stay)⟩
    have dS:d2.S=.rd:=by
      have c':=of_decide_eq_true c
      injection c' with c'
      cases e:d2.S with
      | rd=>rfl
      | jm=>rw [e] at c';exact absurd c' (by decide +kernel)
      | aw b=>rw [e] at c';exact absurd (show Str.ofString "off"=Str.ofString "ready" from c') (by decide +kernel)
    refine ⟨_,rfl,pl,_,_,_,rfl,rfl,SqL.of Lc.l,atI_nat (j:=0) rfl,p,_,_,_,_,_,rfl,Zc.W.P.o,rfl,T.cl_Printer,D_Printer_jam,p,d2,0,rfl,Zc.W.P,dS,Nat.zero_le _,fun t l1 l2 st dst il G6 k6 nst nil6 nt nl1 ht hl1 hl2 P6=>?_⟩
    exact hR _ _ ⟨_,Zc.left k6 P6 nst nil6,Lc.kl (kl_obj Zc.W.P.o k6) (.inr nil6),lkc.fr (kt_obj Zc.W.P.o k6),rfl⟩
  clear Zc Lc lkc
  rintro σ G6 ⟨d3,Z,L,lk,rfl⟩
  refine ⟨_,rfl,by decide,by decide,?_⟩
  refine for_range (lo:=0) (n:=(4:Int).toNat) (fun i σ G'=>Same G6 G'∧∃ v14,σ=[some (.ref a),some (.int (n:Int)),some (.str (Ly.text ly)),some (.int (cp:Int)),some (.str nm),some (.str kd),some (.ref ph),some (.ref pl),some (.ref rx),some (.int ((cntL ly n:Nat):Int)),some (.int (r2.ps:Int)),some v,v12,some (.int fi),v14]) ⟨Same.refl _,_,rfl⟩ (fun i σ G' hi z=>?_) (fun σ G' z=>?_)
  · obtain ⟨sm,v14,rfl⟩:=z
    obtain ⟨kk,ek,k4⟩:∃ kk:Nat,(fi + (0 + (i:Int))) % 4=(kk:Int)∧kk < 4:=by
      have:=Int.emod_nonneg (fi + (0 + (i:Int))) (show (4:Int)≠0 by decide)
      have:=Int.emod_lt_of_pos (fi + (0 + (i:Int))) (show (0:Int) < 4 by decide)
      exact ⟨((fi + (0 + (i:Int))) % 4).toNat,by omega,by omega⟩
    refine ⟨_,rfl,_,rfl,pl,_,_,_,rfl,rfl,SqL.of (sm _ _ L.l),atI_nat (j:=0) rfl,_,rfl,_,rfl,_,rfl,_,_,rfl,rfl,_,_,rfl,rfl,(by show (0:Int) < 4;decide),rx,p,r2,kk,?_,k4,(Z.same sm).W.R,nl,fun G7 s7=>⟨true,rfl,iteF ?_⟩⟩
    · rw [← ek,nm2]
      rfl
    have sm7:=sm.trans s7
    exact ⟨_,rfl,_,rfl,_,rfl,rx,r2,v,rfl,(Z.same sm7).W.R,hp2,lk.fr (fun b xs eo=>sm7 _ _ eo),fun G8 s8=>⟨true,rfl,iteF ⟨sm7.trans s8,_,rfl⟩⟩⟩
  obtain ⟨sm,v14,rfl⟩:=z
  have Zd:=Z.same sm
  refine ⟨_,rfl,pl,_,_,_,rfl,rfl,SqL.of (sm _ _ L.l),atI_nat (j:=0) rfl,p,_,_,_,_,_,rfl,Zd.W.P.o,rfl,T.cl_Printer,D_Printer_within,p,d3,rfl,Zd.W.P,fun w1 G2 s2' _ hw1=>⟨z0,fun w2 nw2=>?_⟩⟩
  have t1:=same_new nw2 (.lst [])
  rw [nil_of Zd.W.tg] at hw1
  refine ⟨w1,w2,[],[],rfl,rfl,SqL.of (t1 _ _ hw1),SqL.of upd_same,rfl,rfl,true,rfl,iteT ?_⟩
  have s13:=(sm.trans s2').trans t1
  generalize upd G2 w2 (.lst [])=G3 at t1 s13 ⊢
  have Ze:=Z.same s13
  refine ⟨_,rfl,pl,_,_,_,rfl,rfl,SqL.of (s13 _ _ L.l),atI_nat (j:=1) rfl,q',_,_,_,_,_,rfl,Ze.U.P.o,rfl,T.cl_Printer,D_Printer_within,q',e2,rfl,Ze.U.P,fun w3 G4 s4' _ hw3=>⟨z0,fun w4 nw4=>?_⟩⟩
  have t4':=same_new nw4 (.lst [])
  rw [nil_of Ze.U.tg] at hw3
  exact ⟨w3,w4,[],[],rfl,rfl,SqL.of (t4' _ _ hw3),SqL.of upd_same,rfl,rfl,q _⟩
end
end My
namespace PySem.W.Fast
theorem tw1529556591837339460:True:=⟨⟩
theorem tw7039592035131025011:True:=⟨⟩
theorem tw84721898530050021:True:=⟨⟩
theorem tw2461360739597076758:True:=⟨⟩
theorem tw11379952427847429806:True:=⟨⟩
theorem tw4634960624102448332:True:=⟨⟩
theorem tw9982097075610643564:True:=⟨⟩
theorem tw4300074671174331885:True:=⟨⟩
theorem tw4254070538048019813:True:=⟨⟩
theorem tw10870154089473037265:True:=⟨⟩
theorem tw9890328907422008894:True:=⟨⟩
theorem tw1859566337155761540:True:=⟨⟩
theorem tw15810113715066123148:True:=⟨⟩
theorem tw16180016181163263945:True:=⟨⟩
theorem tw17355998016717170943:True:=⟨⟩
theorem tw13525171637118101955:True:=⟨⟩
theorem tw4294652030203478971:True:=⟨⟩
theorem tw14565206951260493644:True:=⟨⟩
theorem tw12203379118689172436:True:=⟨⟩
theorem tw2268682028109079037:True:=⟨⟩
theorem tw3051273345527683521:True:=⟨⟩
theorem tw2309097061935994204:True:=⟨⟩
theorem tw3687054960654377464:True:=⟨⟩
theorem tw8050074722947356535:True:=⟨⟩
theorem tw14293675201764087924:True:=⟨⟩
theorem tw8309534101814475455:True:=⟨⟩
theorem tw1154291139637937739:True:=⟨⟩
theorem tw4584671665702267806:True:=⟨⟩
theorem tw600537727945588986:True:=⟨⟩
theorem tw3657774367114969799:True:=⟨⟩
theorem tw7730872534747120008:True:=⟨⟩
theorem tw1540219902228479255:True:=⟨⟩
theorem tw12640714205302028440:True:=⟨⟩
theorem tw6508048116285295844:True:=⟨⟩
theorem tw3264567752470124622:True:=⟨⟩
theorem tw10304994690902327287:True:=⟨⟩
theorem tw11824791644248378241:True:=⟨⟩
theorem tw11959735364905566487:True:=⟨⟩
theorem tw2640289679054706421:True:=⟨⟩
theorem tw14895825070200805641:True:=⟨⟩
theorem tw2919057550749425854:True:=⟨⟩
theorem tw14361235142003356314:True:=⟨⟩
theorem tw13807746420739922021:True:=⟨⟩
theorem tw13723009267992383097:True:=⟨⟩
theorem tw1990128048334774076:True:=⟨⟩
theorem tw15584557111259618404:True:=⟨⟩
theorem tw5567121385372146486:True:=⟨⟩
theorem tw11647105842915185264:True:=⟨⟩
theorem tw18009476486045198737:True:=⟨⟩
theorem tw12865247247142035344:True:=⟨⟩
theorem tw10929952233502321689:True:=⟨⟩
theorem tw5418742949305325910:True:=⟨⟩
theorem tw6472724391820214702:True:=⟨⟩
theorem tw325046092790374227:True:=⟨⟩
theorem tw470499708883900552:True:=⟨⟩
theorem tw7321491735640647792:True:=⟨⟩
theorem tw6585733585881047568:True:=⟨⟩
theorem tw9249403614944414099:True:=⟨⟩
theorem tw3847122280706563775:True:=⟨⟩
theorem tw397564125630959077:True:=⟨⟩
theorem tw17192255355542704422:True:=⟨⟩
theorem tw10863066463908550262:True:=⟨⟩
theorem tw16735910091747092560:True:=⟨⟩
theorem tw16172655932401427072:True:=⟨⟩
theorem tw10429519613150671625:True:=⟨⟩
theorem tw7523830385734196185:True:=⟨⟩
theorem tw353211493596479782:True:=⟨⟩
theorem tw11410789671530492830:True:=⟨⟩
theorem tw14733364166753079239:True:=⟨⟩
theorem tw14739180924993555386:True:=⟨⟩
theorem tw14214479709019526922:True:=⟨⟩
theorem tw6185810237745751837:True:=⟨⟩
theorem tw11219770599204336656:True:=⟨⟩
theorem tw11665293964844046569:True:=⟨⟩
theorem tw5439685867779941416:True:=⟨⟩
theorem tw3455438467267551507:True:=⟨⟩
theorem tw7421824778846866705:True:=⟨⟩
theorem tw10933990546029601425:True:=⟨⟩
theorem tw7108521719600728280:True:=⟨⟩
theorem tw13633215709077515150:True:=⟨⟩
theorem tw7946520942646560167:True:=⟨⟩
theorem tw16528068092587733306:True:=⟨⟩
theorem tw13013538934124120417:True:=⟨⟩
theorem tw6150738068749705546:True:=⟨⟩
theorem tw16159504164373949619:True:=⟨⟩
theorem tw321939274436889124:True:=⟨⟩
theorem tw2339579662271566124:True:=⟨⟩
theorem tw5788725154010849142:True:=⟨⟩
theorem tw16204909130078740591:True:=⟨⟩
theorem tw793343386919203343:True:=⟨⟩
theorem tw9690364507751840727:True:=⟨⟩
theorem tw278080008468823069:True:=⟨⟩
theorem tw7852011664057662407:True:=⟨⟩
theorem tw11276886830190982528:True:=⟨⟩
theorem tw4142390232066577459:True:=⟨⟩
theorem tw2645951275109367551:True:=⟨⟩
theorem tw13160399354030372566:True:=⟨⟩
theorem tw12685999947107639941:True:=⟨⟩
theorem tw18212041342027985037:True:=⟨⟩
theorem tw4578210881157162296:True:=⟨⟩
theorem tw16484752151583720695:True:=⟨⟩
theorem tw850753055762652529:True:=⟨⟩
theorem tw12575103066589811249:True:=⟨⟩
theorem tw942327460405637228:True:=⟨⟩
theorem tw7558021516747424837:True:=⟨⟩
theorem tw6757833662723735067:True:=⟨⟩
theorem tw9326235878473205932:True:=⟨⟩
theorem tw16272442761921963922:True:=⟨⟩
theorem tw7477732568807378668:True:=⟨⟩
theorem tw18091048521676116474:True:=⟨⟩
theorem tw5103431037199651087:True:=⟨⟩
theorem tw4478566697279358440:True:=⟨⟩
theorem tw13068435297724514148:True:=⟨⟩
theorem tw17505198088065549025:True:=⟨⟩
theorem tw9705795070478056357:True:=⟨⟩
theorem tw12583309521793360174:True:=⟨⟩
theorem tw11436498417801725892:True:=⟨⟩
theorem tw13008073973470319764:True:=⟨⟩
theorem tw16204846094597570554:True:=⟨⟩
theorem tw7676634088152136589:True:=⟨⟩
theorem tw1505544001596763512:True:=⟨⟩
theorem tw9074819482437509600:True:=⟨⟩
theorem tw8208247591273671763:True:=⟨⟩
theorem tw4082062556990016155:True:=⟨⟩
theorem tw5810256320602695277:True:=⟨⟩
theorem tw9781027489147171519:True:=⟨⟩
theorem tw17016505514963120103:True:=⟨⟩
theorem tw6520683364276498632:True:=⟨⟩
theorem tw8080858739501700712:True:=⟨⟩
theorem tw16909959598775499715:True:=⟨⟩
theorem tw16730779579332675275:True:=⟨⟩
theorem tw2518807017204688512:True:=⟨⟩
theorem tw4184302894806327812:True:=⟨⟩
theorem tw2750783276546086948:True:=⟨⟩
theorem tw2461797996900869621:True:=⟨⟩
theorem tw15091380600064389849:True:=⟨⟩
theorem tw16852495599777351954:True:=⟨⟩
theorem tw4311801190774098967:True:=⟨⟩
theorem tw10000127790199785864:True:=⟨⟩
theorem tw10616841539862541115:True:=⟨⟩
theorem tw13950018414853011438:True:=⟨⟩
theorem tw16271665491677612584:True:=⟨⟩
theorem tw5501155403199861909:True:=⟨⟩
theorem tw17025603750205166133:True:=⟨⟩
theorem tw2026587829000607256:True:=⟨⟩
theorem tw7082427492542068903:True:=⟨⟩
theorem tw15713163018561435219:True:=⟨⟩
theorem tw11259389223075786475:True:=⟨⟩
theorem tw3535502390553542611:True:=⟨⟩
theorem tw5507708380047393156:True:=⟨⟩
theorem tw5493334990318379267:True:=⟨⟩
theorem tw18302338589565478098:True:=⟨⟩
theorem tw1806956272102708677:True:=⟨⟩
theorem tw7866457860999865294:True:=⟨⟩
theorem tw12316158143103048058:True:=⟨⟩
theorem tw10940792895334216414:True:=⟨⟩
theorem tw14112425922764031903:True:=⟨⟩
theorem tw15929058595201172592:True:=⟨⟩
theorem tw18167206558461543286:True:=⟨⟩
theorem tw6390396193149328294:True:=⟨⟩
theorem tw15221742197527001441:True:=⟨⟩
theorem tw8962189068838537358:True:=⟨⟩
theorem tw7870859246669810283:True:=⟨⟩
theorem tw9017943464068104524:True:=⟨⟩
theorem tw12300357725968210902:True:=⟨⟩
theorem tw12853248170486727586:True:=⟨⟩
theorem tw16758281932783878368:True:=⟨⟩
theorem tw6623119356570542276:True:=⟨⟩
theorem tw9402733653612969479:True:=⟨⟩
theorem tw4126847401677542111:True:=⟨⟩
theorem tw12224755136718013179:True:=⟨⟩
theorem tw15962049250109737200:True:=⟨⟩
theorem tw6197513764871027499:True:=⟨⟩
theorem tw618081982534375014:True:=⟨⟩
theorem tw15520839620995836219:True:=⟨⟩
theorem tw12186127550632104597:True:=⟨⟩
theorem tw6669877846797887981:True:=⟨⟩
theorem tw3405701379777103620:True:=⟨⟩
theorem tw15431321154737069296:True:=⟨⟩
theorem tw6673848072003057465:True:=⟨⟩
theorem tw5166628832300455221:True:=⟨⟩
theorem tw8916237968048576706:True:=⟨⟩
theorem tw3460191661129638597:True:=⟨⟩
theorem tw15255110556560510416:True:=⟨⟩
theorem tw11143203492913653166:True:=⟨⟩
theorem tw11736491662801162581:True:=⟨⟩
theorem tw11592905521583069703:True:=⟨⟩
theorem tw8561357685235833847:True:=⟨⟩
theorem tw767925206212770467:True:=⟨⟩
theorem tw17544033992030322041:True:=⟨⟩
theorem tw7091926752778236783:True:=⟨⟩
theorem tw6867253914403969785:True:=⟨⟩
theorem tw12975485651415855101:True:=⟨⟩
theorem tw8767760809154781818:True:=⟨⟩
theorem tw12612353713772489954:True:=⟨⟩
theorem tw18294055377123142107:True:=⟨⟩
theorem tw1292217122264899493:True:=⟨⟩
theorem tw16644666290432352186:True:=⟨⟩
theorem tw8886363527279480835:True:=⟨⟩
theorem tw8650634677212643734:True:=⟨⟩
theorem tw9740094428974532579:True:=⟨⟩
theorem tw11896366452974137867:True:=⟨⟩
theorem tw23437508864628771:True:=⟨⟩
theorem tw2839647375514013846:True:=⟨⟩
theorem tw17991989510205629296:True:=⟨⟩
theorem tw2748969327089248686:True:=⟨⟩
theorem tw2711691957563946681:True:=⟨⟩
theorem tw18240148718141743859:True:=⟨⟩
theorem tw9868584289045371913:True:=⟨⟩
theorem tw6638039288709961670:True:=⟨⟩
theorem tw2038089868167619688:True:=⟨⟩
theorem tw658306469938538350:True:=⟨⟩
theorem tw9635486289301568680:True:=⟨⟩
theorem tw7963584817187607305:True:=⟨⟩
theorem tw8226077474761784158:True:=⟨⟩
theorem tw18250576968451108127:True:=⟨⟩
theorem tw475993105707166684:True:=⟨⟩
theorem tw14341775631889626042:True:=⟨⟩
theorem tw11526885040359431632:True:=⟨⟩
theorem tw2817445961232499563:True:=⟨⟩
theorem tw6325873637158115567:True:=⟨⟩
theorem tw2362820165872329072:True:=⟨⟩
theorem tw7708524348881596249:True:=⟨⟩
theorem tw8566805623253882409:True:=⟨⟩
theorem tw4894995799678967575:True:=⟨⟩
theorem tw7091655784526728393:True:=⟨⟩
theorem tw3696310385029567809:True:=⟨⟩
theorem tw6432620038759829510:True:=⟨⟩
theorem tw13903760856662915809:True:=⟨⟩
theorem tw11394823753356185544:True:=⟨⟩
theorem tw1375496788611671706:True:=⟨⟩
theorem tw11082693038406350183:True:=⟨⟩
theorem tw17116291627830110145:True:=⟨⟩
theorem tw17856117143953195292:True:=⟨⟩
theorem tw7288604413878606174:True:=⟨⟩
theorem tw15339860222957066478:True:=⟨⟩
theorem tw14284401083033737125:True:=⟨⟩
theorem tw14164944396047416077:True:=⟨⟩
theorem tw2650686521996440549:True:=⟨⟩
theorem tw121586480998579628:True:=⟨⟩
theorem tw540483408224404426:True:=⟨⟩
theorem tw3823055482086096277:True:=⟨⟩
theorem tw11905517853338704804:True:=⟨⟩
theorem tw4885566052246783146:True:=⟨⟩
theorem tw5075766762685556547:True:=⟨⟩
theorem tw8292310570153975850:True:=⟨⟩
theorem tw3354933078523505037:True:=⟨⟩
theorem tw14111199139750265912:True:=⟨⟩
theorem tw6272143387006251550:True:=⟨⟩
theorem tw6542273222640756530:True:=⟨⟩
theorem tw3445706781805377512:True:=⟨⟩
theorem tw7824606953522055247:True:=⟨⟩
theorem tw15853354743686164422:True:=⟨⟩
theorem tw13564528609782048119:True:=⟨⟩
theorem tw16309937426777198343:True:=⟨⟩
theorem tw8518087625883982093:True:=⟨⟩
theorem tw10129668333873409195:True:=⟨⟩
theorem tw13677690697889253967:True:=⟨⟩
theorem tw8265956910555678334:True:=⟨⟩
theorem tw12553174161973445148:True:=⟨⟩
theorem tw16473672170773475899:True:=⟨⟩
theorem tw15836502827410603248:True:=⟨⟩
theorem tw5818567380780064098:True:=⟨⟩
theorem tw737769808249672275:True:=⟨⟩
theorem tw15744072362865149016:True:=⟨⟩
theorem tw3090665031866428957:True:=⟨⟩
theorem tw16285383587421712598:True:=⟨⟩
theorem tw9780355778365214341:True:=⟨⟩
theorem tw6458132621060851281:True:=⟨⟩
theorem tw12223884337727519264:True:=⟨⟩
theorem tw13758596198397669617:True:=⟨⟩
theorem tw10769043482493695013:True:=⟨⟩
theorem tw14988920746344729088:True:=⟨⟩
theorem tw7874810489376023766:True:=⟨⟩
theorem tw9354984224971261550:True:=⟨⟩
theorem tw12499651393858991319:True:=⟨⟩
theorem tw16740381041046919633:True:=⟨⟩
theorem tw12034701301798274716:True:=⟨⟩
theorem tw14854065490502647025:True:=⟨⟩
theorem tw2913095186043540101:True:=⟨⟩
theorem tw11344942620496847236:True:=⟨⟩
theorem tw9172861687571375217:True:=⟨⟩
theorem tw2449045433345720995:True:=⟨⟩
theorem tw3829865920113197028:True:=⟨⟩
theorem tw202306401841102487:True:=⟨⟩
theorem tw16445230616644076190:True:=⟨⟩
theorem tw5034211796329789239:True:=⟨⟩
theorem tw18252324908555978032:True:=⟨⟩
theorem tw12708730413264866972:True:=⟨⟩
theorem tw7996861124836754829:True:=⟨⟩
theorem tw80702824123209144:True:=⟨⟩
theorem tw10693599419785302052:True:=⟨⟩
theorem tw13324788060805129716:True:=⟨⟩
theorem tw14734133105368132830:True:=⟨⟩
theorem tw2310444842754454419:True:=⟨⟩
theorem tw12000976694206227440:True:=⟨⟩
theorem tw16971678203643384264:True:=⟨⟩
theorem tw14112397360238243562:True:=⟨⟩
theorem tw7784611407206327412:True:=⟨⟩
theorem tw1811229838763263328:True:=⟨⟩
theorem tw1388821633383035896:True:=⟨⟩
theorem tw7836560324648733278:True:=⟨⟩
theorem tw14412110339963392988:True:=⟨⟩
theorem tw6049467141176592766:True:=⟨⟩
theorem tw10073311914197113580:True:=⟨⟩
theorem tw3351716426446021201:True:=⟨⟩
theorem tw612567168921736264:True:=⟨⟩
theorem tw3759865176604726344:True:=⟨⟩
theorem tw2538411917778622512:True:=⟨⟩
theorem tw10519096173635278852:True:=⟨⟩
theorem tw9763131601454812013:True:=⟨⟩
theorem tw8460306311575295865:True:=⟨⟩
theorem tw12743315441478362373:True:=⟨⟩
theorem tw12157018787651941925:True:=⟨⟩
theorem tw16260704794011815775:True:=⟨⟩
theorem tw16567103717401743579:True:=⟨⟩
theorem tw6127058765651346864:True:=⟨⟩
theorem tw13554607790531784606:True:=⟨⟩
theorem tw17495065415661296122:True:=⟨⟩
theorem tw10647788268215517975:True:=⟨⟩
theorem tw2355639020230959509:True:=⟨⟩
theorem tw1319285840673172638:True:=⟨⟩
theorem tw14822602888954575432:True:=⟨⟩
theorem tw881075794568789550:True:=⟨⟩
theorem tw15089346126635852695:True:=⟨⟩
theorem tw957480657658370229:True:=⟨⟩
theorem tw14542724011992661988:True:=⟨⟩
theorem tw2138450054923936378:True:=⟨⟩
theorem tw2573628332913224372:True:=⟨⟩
theorem tw7416429117735996994:True:=⟨⟩
theorem tw16548253394031170630:True:=⟨⟩
theorem tw9624819778251899353:True:=⟨⟩
theorem tw18038545920194915914:True:=⟨⟩
theorem tw15294448569887327333:True:=⟨⟩
theorem tw284470646402834590:True:=⟨⟩
theorem tw16665870992164427365:True:=⟨⟩
theorem tw11221192379761851512:True:=⟨⟩
theorem tw16310332860466014708:True:=⟨⟩
theorem tw49871090393507408:True:=⟨⟩
theorem tw10059300536666771422:True:=⟨⟩
theorem tw17646270471880762656:True:=⟨⟩
theorem tw16433090513409750637:True:=⟨⟩
theorem tw3118653865568893400:True:=⟨⟩
theorem tw16082809724021166835:True:=⟨⟩
theorem tw13671689202698060231:True:=⟨⟩
theorem tw5156668146992703088:True:=⟨⟩
theorem tw5966632500796093344:True:=⟨⟩
theorem tw14150597799368411124:True:=⟨⟩
theorem tw3745326409472749064:True:=⟨⟩
theorem tw326877953874752472:True:=⟨⟩
theorem tw9180214639085198865:True:=⟨⟩
theorem tw15717707829129624819:True:=⟨⟩
theorem tw2272353519501914665:True:=⟨⟩
theorem tw7497489797693422352:True:=⟨⟩
theorem tw11200224938265253126:True:=⟨⟩
theorem tw9649090097260939536:True:=⟨⟩
theorem tw7740172583509619573:True:=⟨⟩
theorem tw16139072266075774769:True:=⟨⟩
theorem tw14041884531324656547:True:=⟨⟩
theorem tw9124273886594990967:True:=⟨⟩
theorem tw3196660768306667635:True:=⟨⟩
theorem tw155903178581489636:True:=⟨⟩
theorem tw2680333956662513894:True:=⟨⟩
theorem tw7273805895646480807:True:=⟨⟩
theorem tw5834588361314813330:True:=⟨⟩
theorem tw4487829421679306239:True:=⟨⟩
theorem tw6192860012977079006:True:=⟨⟩
theorem tw7083452803346165683:True:=⟨⟩
theorem tw18042634421299972542:True:=⟨⟩
theorem tw18267963043665636410:True:=⟨⟩
theorem tw11177948310837406574:True:=⟨⟩
theorem tw9244302406972175721:True:=⟨⟩
theorem tw1364411353964104069:True:=⟨⟩
theorem tw7108511470900599789:True:=⟨⟩
theorem tw15792369016978600782:True:=⟨⟩
theorem tw8181674661588399208:True:=⟨⟩
theorem tw691724039540121027:True:=⟨⟩
theorem tw4644970044050696161:True:=⟨⟩
theorem tw15400903613420167148:True:=⟨⟩
theorem tw1549562783742998852:True:=⟨⟩
theorem tw11143246781202465284:True:=⟨⟩
theorem tw5974308978666971704:True:=⟨⟩
theorem tw12123604410902432805:True:=⟨⟩
theorem tw12959243668217063947:True:=⟨⟩
theorem tw15967400226529029508:True:=⟨⟩
theorem tw11217213889305287945:True:=⟨⟩
theorem tw15434097879812993744:True:=⟨⟩
theorem tw1953405820959527126:True:=⟨⟩
theorem tw8680290766892464840:True:=⟨⟩
theorem tw6016181547348883382:True:=⟨⟩
theorem tw7659865623844976857:True:=⟨⟩
theorem tw768788603650658649:True:=⟨⟩
theorem tw3508361298155431760:True:=⟨⟩
theorem tw4790174577833402089:True:=⟨⟩
theorem tw2741223679224170440:True:=⟨⟩
theorem tw1327583581416778625:True:=⟨⟩
theorem tw9297382948643246560:True:=⟨⟩
theorem tw15493881883746513941:True:=⟨⟩
theorem tw2458165546150465900:True:=⟨⟩
theorem tw18015147550368802256:True:=⟨⟩
theorem tw17954979173024234906:True:=⟨⟩
theorem tw17144430630539806244:True:=⟨⟩
theorem tw6693052768124659227:True:=⟨⟩
theorem tw9189297556695114945:True:=⟨⟩
theorem tw16776949605346409437:True:=⟨⟩
theorem tw17919767408211138048:True:=⟨⟩
theorem tw11879283775441189826:True:=⟨⟩
theorem tw14677352755853283669:True:=⟨⟩
theorem tw3889844858724538151:True:=⟨⟩
theorem tw13626059874886568438:True:=⟨⟩
theorem tw9817637007055974651:True:=⟨⟩
theorem tw15107948964000034942:True:=⟨⟩
theorem tw12059014468374867605:True:=⟨⟩
theorem tw16373593699888806789:True:=⟨⟩
theorem tw3378278767758226702:True:=⟨⟩
theorem tw10174791346568494663:True:=⟨⟩
theorem tw18105650267104756951:True:=⟨⟩
theorem tw7757438119973929788:True:=⟨⟩
theorem tw9846386711598112621:True:=⟨⟩
theorem tw5772219093566825757:True:=⟨⟩
theorem tw8057352619226059250:True:=⟨⟩
theorem tw12229999908100880908:True:=⟨⟩
theorem tw11746141262717661889:True:=⟨⟩
theorem tw15436416607122711420:True:=⟨⟩
theorem tw4727998250712016682:True:=⟨⟩
theorem tw9670631930317989183:True:=⟨⟩
theorem tw3425038992771540710:True:=⟨⟩
theorem tw3782172287703902493:True:=⟨⟩
theorem tw7372221712220075325:True:=⟨⟩
theorem tw3144945131730457296:True:=⟨⟩
theorem tw762420297587055468:True:=⟨⟩
theorem tw1813644155887031808:True:=⟨⟩
theorem tw15355196945123899155:True:=⟨⟩
theorem tw2779241864239252301:True:=⟨⟩
theorem tw3362859559918386229:True:=⟨⟩
theorem tw2741217236157110666:True:=⟨⟩
theorem tw5980059606250505144:True:=⟨⟩
theorem tw1169421667200501267:True:=⟨⟩
theorem tw17547628872843374565:True:=⟨⟩
theorem tw11555236970646202253:True:=⟨⟩
theorem tw6756198099046745500:True:=⟨⟩
theorem tw6032699009827796180:True:=⟨⟩
theorem tw6035808401793422379:True:=⟨⟩
theorem tw17473059952462717510:True:=⟨⟩
theorem tw12279875894901358002:True:=⟨⟩
theorem tw1548290924387354162:True:=⟨⟩
theorem tw550032991352091410:True:=⟨⟩
theorem tw3500318168380803134:True:=⟨⟩
theorem tw11858873564574202386:True:=⟨⟩
theorem tw963936710067798929:True:=⟨⟩
theorem tw8511160710671984786:True:=⟨⟩
theorem tw7056133518541500768:True:=⟨⟩
theorem tw6368120293448534434:True:=⟨⟩
theorem tw1572226614590602506:True:=⟨⟩
theorem tw10267084369783984997:True:=⟨⟩
theorem tw10489628736853030519:True:=⟨⟩
theorem tw14579372001256605294:True:=⟨⟩
theorem tw1388430040028855573:True:=⟨⟩
theorem tw11907970324460059534:True:=⟨⟩
theorem tw1803048686158012359:True:=⟨⟩
theorem tw3024539513182490604:True:=⟨⟩
theorem tw12049255881495102481:True:=⟨⟩
theorem tw18064773452802072592:True:=⟨⟩
theorem tw2073575073206767461:True:=⟨⟩
theorem tw9151961300856378311:True:=⟨⟩
theorem tw15894248794361294901:True:=⟨⟩
theorem tw3967215156449601192:True:=⟨⟩
theorem tw8091341748996722779:True:=⟨⟩
theorem tw15297750620310781593:True:=⟨⟩
theorem tw8869255010716462421:True:=⟨⟩
theorem tw16159083594140526419:True:=⟨⟩
theorem tw4469584429612073334:True:=⟨⟩
theorem tw17693648091745975343:True:=⟨⟩
theorem tw7413206262430791457:True:=⟨⟩
theorem tw11175578063758906777:True:=⟨⟩
theorem tw15321473037833107603:True:=⟨⟩
theorem tw12684946991221599759:True:=⟨⟩
theorem tw15396580280412623863:True:=⟨⟩
theorem tw3936775427588309721:True:=⟨⟩
theorem tw7178063772753355631:True:=⟨⟩
theorem tw12416069931394898194:True:=⟨⟩
theorem tw12198682555448105932:True:=⟨⟩
theorem tw4753036186271050505:True:=⟨⟩
theorem tw11235306712970145628:True:=⟨⟩
theorem tw2473602412454751227:True:=⟨⟩
theorem tw6144038834862923558:True:=⟨⟩
theorem tw6586540707096818167:True:=⟨⟩
theorem tw8204791291718328677:True:=⟨⟩
theorem tw2223644109130260866:True:=⟨⟩
theorem tw9293697481218560092:True:=⟨⟩
theorem tw8712452750410992723:True:=⟨⟩
theorem tw6427520199797874098:True:=⟨⟩
theorem tw10387760849780591890:True:=⟨⟩
theorem tw5881265860732714617:True:=⟨⟩
theorem tw1800505681253596281:True:=⟨⟩
theorem tw7119445217462458137:True:=⟨⟩
theorem tw9120178159171558380:True:=⟨⟩
theorem tw438475808064437130:True:=⟨⟩
theorem tw1534482516252455142:True:=⟨⟩
theorem tw10289031816454156396:True:=⟨⟩
theorem tw3146819745040423925:True:=⟨⟩
theorem tw2389108316476386100:True:=⟨⟩
theorem tw5033572596104789080:True:=⟨⟩
theorem tw382402176441001533:True:=⟨⟩
theorem tw2415752805606259419:True:=⟨⟩
theorem tw8131391238927861161:True:=⟨⟩
theorem tw4244266631844288297:True:=⟨⟩
theorem tw235368657672373146:True:=⟨⟩
theorem tw2792576694387436009:True:=⟨⟩
theorem tw12880296607920508590:True:=⟨⟩
theorem tw9626166001473140408:True:=⟨⟩
theorem tw14594332739550562467:True:=⟨⟩
theorem tw10340220185900045689:True:=⟨⟩
theorem tw4847951870368608483:True:=⟨⟩
theorem tw14843477604826469455:True:=⟨⟩
theorem tw55230710487668718:True:=⟨⟩
theorem tw8849619889226807565:True:=⟨⟩
theorem tw12715794024037610965:True:=⟨⟩
theorem tw13238865219325354041:True:=⟨⟩
theorem tw6808252256747817623:True:=⟨⟩
theorem tw11196090083774080625:True:=⟨⟩
theorem tw5677880008513746290:True:=⟨⟩
theorem tw6550014333362789830:True:=⟨⟩
theorem tw7269281197127058703:True:=⟨⟩
theorem tw15669739360977302967:True:=⟨⟩
theorem tw265317902946192612:True:=⟨⟩
theorem tw3097710959011186274:True:=⟨⟩
theorem tw17073262993037803447:True:=⟨⟩
theorem tw12603619224655893342:True:=⟨⟩
theorem tw8175007176380345326:True:=⟨⟩
theorem tw1496596607871014094:True:=⟨⟩
theorem tw16288616081545510077:True:=⟨⟩
theorem tw13446403562426647527:True:=⟨⟩
theorem tw3561930256640744131:True:=⟨⟩
theorem tw7779048074282246105:True:=⟨⟩
theorem tw9189286963017280555:True:=⟨⟩
theorem tw10899727492577394300:True:=⟨⟩
theorem tw8329216847222146363:True:=⟨⟩
theorem tw7789113218011109669:True:=⟨⟩
theorem tw16980513977444348206:True:=⟨⟩
theorem tw8473801294058402356:True:=⟨⟩
theorem tw6601177437101749785:True:=⟨⟩
theorem tw3579291221458726880:True:=⟨⟩
theorem tw17193675202364389681:True:=⟨⟩
theorem tw2109661541175293664:True:=⟨⟩
theorem tw7108774098240548404:True:=⟨⟩
theorem tw7922209944179688342:True:=⟨⟩
theorem tw12585051524002372988:True:=⟨⟩
theorem tw9035340594907735851:True:=⟨⟩
theorem tw15601224299410944529:True:=⟨⟩
theorem tw14656929851342259417:True:=⟨⟩
theorem tw17667569255423516656:True:=⟨⟩
theorem tw8664379794864596201:True:=⟨⟩
theorem tw16600075372429816926:True:=⟨⟩
theorem tw6506917484949964650:True:=⟨⟩
theorem tw16854071083162179365:True:=⟨⟩
theorem tw16546598547946660621:True:=⟨⟩
theorem tw11097319654351175943:True:=⟨⟩
theorem tw6053016515548739325:True:=⟨⟩
theorem tw3470169931064413848:True:=⟨⟩
theorem tw6716779175781647817:True:=⟨⟩
theorem tw16727761767461204356:True:=⟨⟩
theorem tw5998108703745025454:True:=⟨⟩
theorem tw7444254881770624347:True:=⟨⟩
theorem tw1604941457574015531:True:=⟨⟩
theorem tw17426247610292302722:True:=⟨⟩
theorem tw8541131255764408688:True:=⟨⟩
theorem tw6616464664581641039:True:=⟨⟩
theorem tw8583538030081915159:True:=⟨⟩
theorem tw14733497022571805731:True:=⟨⟩
theorem tw2253688048181952565:True:=⟨⟩
theorem tw3929517329435543158:True:=⟨⟩
theorem tw6491511504954947642:True:=⟨⟩
theorem tw2421893061909238478:True:=⟨⟩
theorem tw807798490425250347:True:=⟨⟩
theorem tw8630610015413747912:True:=⟨⟩
theorem tw8451621205699076920:True:=⟨⟩
theorem tw7948700453304484418:True:=⟨⟩
theorem tw17630446369721400284:True:=⟨⟩
theorem tw4222118617066434279:True:=⟨⟩
theorem tw5929939058716091396:True:=⟨⟩
theorem tw16459521159680513567:True:=⟨⟩
theorem tw1483503269974318446:True:=⟨⟩
theorem tw8246366177361556608:True:=⟨⟩
theorem tw8807769627031657830:True:=⟨⟩
theorem tw11926087741523359026:True:=⟨⟩
theorem tw684939021068977783:True:=⟨⟩
theorem tw13487227103497977001:True:=⟨⟩
theorem tw5638694752950255454:True:=⟨⟩
theorem tw9406066206849645333:True:=⟨⟩
theorem tw3271448632553913559:True:=⟨⟩
theorem tw8866382952255392442:True:=⟨⟩
theorem tw17415966054316099580:True:=⟨⟩
theorem tw9902775561236542335:True:=⟨⟩
theorem tw15662408547422548613:True:=⟨⟩
theorem tw17304903850658151176:True:=⟨⟩
theorem tw15321210251725953685:True:=⟨⟩
theorem tw609790476319736257:True:=⟨⟩
theorem tw18252009131833600380:True:=⟨⟩
theorem tw3040102051393794335:True:=⟨⟩
theorem tw13989106074571492605:True:=⟨⟩
theorem tw2238452051425844240:True:=⟨⟩
theorem tw2331556503081240080:True:=⟨⟩
theorem tw6846140330635505213:True:=⟨⟩
theorem tw13669919668088232736:True:=⟨⟩
theorem tw6183190723840502609:True:=⟨⟩
theorem tw6539388365580641424:True:=⟨⟩
theorem tw2112715496619603087:True:=⟨⟩
theorem tw9643082752616341486:True:=⟨⟩
theorem tw14821766358355970086:True:=⟨⟩
theorem tw9049083787091522631:True:=⟨⟩
theorem tw4557869339823871202:True:=⟨⟩
theorem tw11468694705570708010:True:=⟨⟩
theorem tw5232658623112058406:True:=⟨⟩
theorem tw5448011666847387294:True:=⟨⟩
theorem tw2213574099507451224:True:=⟨⟩
theorem tw3696849512248137114:True:=⟨⟩
theorem tw9038120825917951685:True:=⟨⟩
theorem tw4651173401529804197:True:=⟨⟩
theorem tw14219541557469925015:True:=⟨⟩
theorem tw5212121924608206617:True:=⟨⟩
theorem tw8828737533971354085:True:=⟨⟩
theorem tw17968602980854292647:True:=⟨⟩
theorem tw16311147151757331822:True:=⟨⟩
theorem tw9984465016647408460:True:=⟨⟩
theorem tw9023859335122872265:True:=⟨⟩
theorem tw16758905729513298810:True:=⟨⟩
theorem tw685705241913726318:True:=⟨⟩
theorem tw8206015604337930403:True:=⟨⟩
theorem tw599067977298015598:True:=⟨⟩
theorem tw13152107059652005850:True:=⟨⟩
theorem tw9570600716758610051:True:=⟨⟩
theorem tw10948401783576418308:True:=⟨⟩
theorem tw806252436146518449:True:=⟨⟩
theorem tw14782361431207987108:True:=⟨⟩
theorem tw12878906146648203839:True:=⟨⟩
theorem tw15434044577725375497:True:=⟨⟩
theorem tw17443813900429489298:True:=⟨⟩
theorem tw8938748058690129350:True:=⟨⟩
theorem tw13754932054748012730:True:=⟨⟩
theorem tw10559597496551147840:True:=⟨⟩
theorem tw11916613620590001627:True:=⟨⟩
theorem tw13966983143148031090:True:=⟨⟩
theorem tw2653927147545768056:True:=⟨⟩
theorem tw8369759204823434246:True:=⟨⟩
theorem tw7393720134646301937:True:=⟨⟩
theorem tw6726378553294542599:True:=⟨⟩
theorem tw11386452074974044828:True:=⟨⟩
theorem tw3115371044435051703:True:=⟨⟩
theorem tw17910516070465983106:True:=⟨⟩
theorem tw17682975761935346124:True:=⟨⟩
theorem tw3785114358901687658:True:=⟨⟩
theorem tw14872110991372888363:True:=⟨⟩
theorem tw16295310195050913474:True:=⟨⟩
theorem tw9023758914421873323:True:=⟨⟩
theorem tw12348090329516974471:True:=⟨⟩
theorem tw10166534481084945945:True:=⟨⟩
theorem tw10222057006161388745:True:=⟨⟩
theorem tw10256849183741420522:True:=⟨⟩
theorem tw10266802485186066294:True:=⟨⟩
theorem tw10412149625812898404:True:=⟨⟩
theorem tw10415762468200649775:True:=⟨⟩
theorem tw10509889892462295823:True:=⟨⟩
theorem tw10583040567634802188:True:=⟨⟩
theorem tw10595886133579477078:True:=⟨⟩
theorem tw10688272148323681948:True:=⟨⟩
theorem tw10719133515209644440:True:=⟨⟩
theorem tw10824445933302776117:True:=⟨⟩
theorem tw10908419861605034874:True:=⟨⟩
theorem tw10950349111572115253:True:=⟨⟩
theorem tw11125479234794438917:True:=⟨⟩
theorem tw11161667280669819070:True:=⟨⟩
theorem tw11163939572099437633:True:=⟨⟩
theorem tw11205068961036416411:True:=⟨⟩
theorem tw11376595116894279956:True:=⟨⟩
theorem tw11395251095327744372:True:=⟨⟩
theorem tw11406327253869355669:True:=⟨⟩
theorem tw11421171649362334112:True:=⟨⟩
theorem tw11454295837154881863:True:=⟨⟩
theorem tw11507212076211496359:True:=⟨⟩
theorem tw11524278836172086868:True:=⟨⟩
theorem tw11607785632853348677:True:=⟨⟩
theorem tw1171484309611349479:True:=⟨⟩
theorem tw11795858046644496329:True:=⟨⟩
theorem tw11803363344207172668:True:=⟨⟩
theorem tw11899739211723747897:True:=⟨⟩
theorem tw11961995402022931718:True:=⟨⟩
theorem tw12038115937652570446:True:=⟨⟩
theorem tw12068917192110707319:True:=⟨⟩
theorem tw121498702151800081:True:=⟨⟩
theorem tw12232790192475818224:True:=⟨⟩
theorem tw12529164368917834403:True:=⟨⟩
theorem tw12552679576003774323:True:=⟨⟩
theorem tw12597096599670486069:True:=⟨⟩
theorem tw12642248840240412409:True:=⟨⟩
theorem tw12673048213939548378:True:=⟨⟩
theorem tw12694524632686378192:True:=⟨⟩
theorem tw12703852248878874495:True:=⟨⟩
theorem tw12820552047380798737:True:=⟨⟩
theorem tw12855543689344699303:True:=⟨⟩
theorem tw128571744427932913:True:=⟨⟩
theorem tw12992003852004899554:True:=⟨⟩
theorem tw13004092252984742459:True:=⟨⟩
theorem tw13045802834489396308:True:=⟨⟩
theorem tw13100764423653685203:True:=⟨⟩
theorem tw13131364870153605681:True:=⟨⟩
theorem tw13154295800379188868:True:=⟨⟩
theorem tw13221101090600443781:True:=⟨⟩
theorem tw13276795326148674048:True:=⟨⟩
theorem tw13311000091828728659:True:=⟨⟩
theorem tw13343266213523600044:True:=⟨⟩
theorem tw13353812164992181730:True:=⟨⟩
theorem tw13459945874429788309:True:=⟨⟩
theorem tw1348281748346102875:True:=⟨⟩
theorem tw13517348899900917078:True:=⟨⟩
theorem tw13531688379120286002:True:=⟨⟩
theorem tw13539186849853502058:True:=⟨⟩
theorem tw1358437386121267250:True:=⟨⟩
theorem tw13958111169645369825:True:=⟨⟩
theorem tw13960356014790329305:True:=⟨⟩
theorem tw13971508290603548161:True:=⟨⟩
theorem tw13990098585736358751:True:=⟨⟩
theorem tw14064592072165250819:True:=⟨⟩
theorem tw14137691760832884302:True:=⟨⟩
theorem tw14191094001949160869:True:=⟨⟩
theorem tw14219744314286313401:True:=⟨⟩
theorem tw14328196392188245120:True:=⟨⟩
theorem tw14379104777412902823:True:=⟨⟩
theorem tw14431013759831678911:True:=⟨⟩
theorem tw14440201424100999585:True:=⟨⟩
theorem tw14524161745815040088:True:=⟨⟩
theorem tw14556503678909172777:True:=⟨⟩
theorem tw14561932110986209262:True:=⟨⟩
theorem tw14771560698874593970:True:=⟨⟩
theorem tw14773970334895611574:True:=⟨⟩
theorem tw14787322286026976134:True:=⟨⟩
theorem tw14797283746839328622:True:=⟨⟩
theorem tw14810152346581734534:True:=⟨⟩
theorem tw14863054305022948111:True:=⟨⟩
theorem tw14893315932549170495:True:=⟨⟩
theorem tw14902102344255132258:True:=⟨⟩
theorem tw1490849707253118534:True:=⟨⟩
theorem tw14949973272637379401:True:=⟨⟩
theorem tw14993450842250366537:True:=⟨⟩
theorem tw15078233063464564645:True:=⟨⟩
theorem tw15103789961584908976:True:=⟨⟩
theorem tw15131068652986723633:True:=⟨⟩
theorem tw15220397643173259833:True:=⟨⟩
theorem tw15242493989549749279:True:=⟨⟩
theorem tw1532426310908355370:True:=⟨⟩
theorem tw15423079770251072406:True:=⟨⟩
theorem tw15460832336043074835:True:=⟨⟩
theorem tw15611748242921008979:True:=⟨⟩
theorem tw15731874310133869860:True:=⟨⟩
theorem tw1577540101121238677:True:=⟨⟩
theorem tw15794447079145018295:True:=⟨⟩
theorem tw15881793004894281351:True:=⟨⟩
theorem tw15927342168281105598:True:=⟨⟩
theorem tw16062502513174581649:True:=⟨⟩
theorem tw16113004583953210343:True:=⟨⟩
theorem tw16222926951561424360:True:=⟨⟩
theorem tw16359970101283576311:True:=⟨⟩
theorem tw16394387929710085341:True:=⟨⟩
theorem tw16398524879480503773:True:=⟨⟩
theorem tw16479153220150975504:True:=⟨⟩
theorem tw16613415581127658275:True:=⟨⟩
theorem tw16649112036596080828:True:=⟨⟩
theorem tw16689104799704757284:True:=⟨⟩
theorem tw16710220692214832723:True:=⟨⟩
theorem tw16766701812504963042:True:=⟨⟩
theorem tw16813396885594914622:True:=⟨⟩
theorem tw16891835679952661867:True:=⟨⟩
theorem tw16983053212947774743:True:=⟨⟩
theorem tw17039996228338113907:True:=⟨⟩
theorem tw17114556047106654992:True:=⟨⟩
theorem tw17153560609404706520:True:=⟨⟩
theorem tw17163878837007569980:True:=⟨⟩
theorem tw17167850794649296239:True:=⟨⟩
theorem tw1743700279832360222:True:=⟨⟩
theorem tw17545565507217479780:True:=⟨⟩
theorem tw17629073961422237635:True:=⟨⟩
theorem tw17667662198086129160:True:=⟨⟩
theorem tw1768133276442591158:True:=⟨⟩
theorem tw17694874044483181170:True:=⟨⟩
theorem tw17811895523432137769:True:=⟨⟩
theorem tw17834618536304928123:True:=⟨⟩
theorem tw17860234205134359573:True:=⟨⟩
theorem tw17872247129439633193:True:=⟨⟩
theorem tw17874049613220716929:True:=⟨⟩
theorem tw17971790310059395716:True:=⟨⟩
theorem tw18000583238626134709:True:=⟨⟩
theorem tw18002985841526539618:True:=⟨⟩
theorem tw18064778792839335540:True:=⟨⟩
theorem tw18143559286672616735:True:=⟨⟩
theorem tw18156444113441493725:True:=⟨⟩
theorem tw18233811080496681244:True:=⟨⟩
theorem tw18279648177659765657:True:=⟨⟩
theorem tw18310943625400190213:True:=⟨⟩
theorem tw1911160286885737337:True:=⟨⟩
theorem tw2068895946639816362:True:=⟨⟩
theorem tw2131224411141938318:True:=⟨⟩
theorem tw2197216562898174737:True:=⟨⟩
theorem tw2304919837481155818:True:=⟨⟩
theorem tw2329888043938922934:True:=⟨⟩
theorem tw246795801117148865:True:=⟨⟩
theorem tw2488289326282198653:True:=⟨⟩
theorem tw2522791949568766280:True:=⟨⟩
theorem tw2548161081363299193:True:=⟨⟩
theorem tw2563949064124097379:True:=⟨⟩
theorem tw2680746447077474097:True:=⟨⟩
theorem tw2864117896149029616:True:=⟨⟩
theorem tw2872590762175352697:True:=⟨⟩
theorem tw2943713541623451025:True:=⟨⟩
theorem tw2983379641028652846:True:=⟨⟩
theorem tw2994746818722923091:True:=⟨⟩
theorem tw3011385625804535647:True:=⟨⟩
theorem tw3016360512535640135:True:=⟨⟩
theorem tw3021991352096436723:True:=⟨⟩
theorem tw3036536690698557663:True:=⟨⟩
theorem tw305401885976347119:True:=⟨⟩
theorem tw3092526355588156635:True:=⟨⟩
theorem tw3094991052713997590:True:=⟨⟩
theorem tw3112351047479748496:True:=⟨⟩
theorem tw318580626621506300:True:=⟨⟩
theorem tw3232336864902839427:True:=⟨⟩
theorem tw3244236748313964332:True:=⟨⟩
theorem tw3251457951640824355:True:=⟨⟩
theorem tw3257933722179166240:True:=⟨⟩
theorem tw3314954801443570070:True:=⟨⟩
theorem tw3537976488552975721:True:=⟨⟩
theorem tw3591702997269422446:True:=⟨⟩
theorem tw3625506215098708699:True:=⟨⟩
theorem tw3690322648458904646:True:=⟨⟩
theorem tw3734699577788919801:True:=⟨⟩
theorem tw3778306522544564923:True:=⟨⟩
theorem tw383336295608356063:True:=⟨⟩
theorem tw3939644516586022657:True:=⟨⟩
theorem tw3969548185322870572:True:=⟨⟩
theorem tw4046225771600410637:True:=⟨⟩
theorem tw4086744619532482756:True:=⟨⟩
theorem tw4185035492581775635:True:=⟨⟩
theorem tw4211000611918775256:True:=⟨⟩
theorem tw4214839223990187900:True:=⟨⟩
theorem tw4293378536310015360:True:=⟨⟩
theorem tw4315074718938569980:True:=⟨⟩
theorem tw4318039191182379523:True:=⟨⟩
theorem tw433743805790473259:True:=⟨⟩
theorem tw4456953829184532622:True:=⟨⟩
theorem tw447414036728932635:True:=⟨⟩
theorem tw4508307881045280262:True:=⟨⟩
theorem tw4680027868487909317:True:=⟨⟩
theorem tw4710910958342627406:True:=⟨⟩
theorem tw4831393044314350340:True:=⟨⟩
theorem tw4905006446519528547:True:=⟨⟩
theorem tw4921173874775748866:True:=⟨⟩
theorem tw4938483787014385457:True:=⟨⟩
theorem tw5083631933994607610:True:=⟨⟩
theorem tw5155831640281298253:True:=⟨⟩
theorem tw5292980769541023405:True:=⟨⟩
theorem tw54200510944806682:True:=⟨⟩
theorem tw5506278031355817744:True:=⟨⟩
theorem tw5523494302929167935:True:=⟨⟩
theorem tw5525039055507033851:True:=⟨⟩
theorem tw5543953087651852832:True:=⟨⟩
theorem tw5589957952124180671:True:=⟨⟩
theorem tw5600410052065110618:True:=⟨⟩
theorem tw5732469734221065896:True:=⟨⟩
theorem tw5738177225424590386:True:=⟨⟩
theorem tw5943822639059231534:True:=⟨⟩
theorem tw6048683505418084293:True:=⟨⟩
theorem tw6113792481463563913:True:=⟨⟩
theorem tw6162353705868768375:True:=⟨⟩
theorem tw6178693699694716919:True:=⟨⟩
theorem tw6189864687488938908:True:=⟨⟩
theorem tw6221276313988041167:True:=⟨⟩
theorem tw6223927499259508593:True:=⟨⟩
theorem tw6231207429678135488:True:=⟨⟩
theorem tw6284188020026691888:True:=⟨⟩
theorem tw6304565367927647605:True:=⟨⟩
theorem tw632813234280470602:True:=⟨⟩
theorem tw636090621019879483:True:=⟨⟩
theorem tw6387892983125166515:True:=⟨⟩
theorem tw6411782941959625328:True:=⟨⟩
theorem tw6430138710201935238:True:=⟨⟩
theorem tw6500477969311313011:True:=⟨⟩
theorem tw6531372968397845648:True:=⟨⟩
theorem tw658991662046714251:True:=⟨⟩
theorem tw6604403001437658125:True:=⟨⟩
theorem tw6620215608949580168:True:=⟨⟩
theorem tw6678831990312698296:True:=⟨⟩
theorem tw6705787950145114757:True:=⟨⟩
theorem tw6834902376862009110:True:=⟨⟩
theorem tw688066531603871603:True:=⟨⟩
theorem tw6886560718702999067:True:=⟨⟩
theorem tw6911929630739704666:True:=⟨⟩
theorem tw7024609843040656152:True:=⟨⟩
theorem tw7162740215062231953:True:=⟨⟩
theorem tw7180015143503859020:True:=⟨⟩
theorem tw7258214154600515014:True:=⟨⟩
theorem tw7269448861332588705:True:=⟨⟩
theorem tw7329599348022502691:True:=⟨⟩
theorem tw7342202094212726746:True:=⟨⟩
theorem tw7359222655671260994:True:=⟨⟩
theorem tw7408463092796056513:True:=⟨⟩
theorem tw7468351935051835036:True:=⟨⟩
theorem tw7524051613934968447:True:=⟨⟩
theorem tw788124237850632165:True:=⟨⟩
theorem tw7920198156373749802:True:=⟨⟩
theorem tw7951612719177714394:True:=⟨⟩
theorem tw8023298308311632331:True:=⟨⟩
theorem tw8032928505322539781:True:=⟨⟩
theorem tw8046918667476778479:True:=⟨⟩
theorem tw8049849512283327255:True:=⟨⟩
theorem tw8121645119043026394:True:=⟨⟩
theorem tw8136509490136322691:True:=⟨⟩
theorem tw8141026126363056731:True:=⟨⟩
theorem tw8416822485989415393:True:=⟨⟩
theorem tw8418524702908903649:True:=⟨⟩
theorem tw8448798668194444139:True:=⟨⟩
theorem tw8479010002508605725:True:=⟨⟩
theorem tw8507719777146135631:True:=⟨⟩
theorem tw8674405053490640888:True:=⟨⟩
theorem tw8678161198894772503:True:=⟨⟩
theorem tw8774303529644719:True:=⟨⟩
theorem tw8861412271432823888:True:=⟨⟩
theorem tw8941265353713882578:True:=⟨⟩
theorem tw900248328270964957:True:=⟨⟩
theorem tw9017075889270018937:True:=⟨⟩
theorem tw9029877977630650691:True:=⟨⟩
theorem tw9143976109930126607:True:=⟨⟩
theorem tw9147861626449565439:True:=⟨⟩
theorem tw9168079950420224703:True:=⟨⟩
theorem tw9188521357560151981:True:=⟨⟩
theorem tw9290919697990516769:True:=⟨⟩
theorem tw9302292661683694322:True:=⟨⟩
theorem tw9352733479322699183:True:=⟨⟩
theorem tw9376052499140877151:True:=⟨⟩
theorem tw9395272582984259187:True:=⟨⟩
theorem tw9446381448508507830:True:=⟨⟩
theorem tw9464057468976117467:True:=⟨⟩
theorem tw9476613361695604914:True:=⟨⟩
theorem tw9526456582351889531:True:=⟨⟩
theorem tw9551414546266785757:True:=⟨⟩
theorem tw9553547670577804466:True:=⟨⟩
theorem tw9568148297645661110:True:=⟨⟩
theorem tw9609859886295200371:True:=⟨⟩
theorem tw9632128257708100814:True:=⟨⟩
theorem tw9648197374996587192:True:=⟨⟩
theorem tw9660804314301023590:True:=⟨⟩
theorem tw9764551329999636234:True:=⟨⟩
theorem tw9897610646919106844:True:=⟨⟩
theorem tw9936080336171023060:True:=⟨⟩
end PySem.W.Fast
namespace My
open PySem L2
theorem bn1 {p:List Value→Prop} (h:∀ a0:Value,p [a0]) (us:List Value) (l:us.length=1):p us:=match us,l with | [a0],_=>h a0
theorem bn2 {p:List Value→Prop} (h:∀ a0 a1:Value,p [a0,a1]) (us:List Value) (l:us.length=2):p us:=match us,l with | [a0,a1],_=>h a0 a1
theorem bn3 {p:List Value→Prop} (h:∀ a0 a1 a2:Value,p [a0,a1,a2]) (us:List Value) (l:us.length=3):p us:=match us,l with | [a0,a1,a2],_=>h a0 a1 a2
theorem bn4 {p:List Value→Prop} (h:∀ a0 a1 a2 a3:Value,p [a0,a1,a2,a3]) (us:List Value) (l:us.length=4):p us:=match us,l with | [a0,a1,a2,a3],_=>h a0 a1 a2 a3
theorem bn5 {p:List Value→Prop} (h:∀ a0 a1 a2 a3 a4:Value,p [a0,a1,a2,a3,a4]) (us:List Value) (l:us.length=5):p us:=match us,l with | [a0,a1,a2,a3,a4],_=>h a0 a1 a2 a3 a4
theorem bn7 {p:List Value→Prop} (h:∀ a0 a1 a2 a3 a4 a5 a6:Value,p [a0,a1,a2,a3,a4,a5,a6]) (us:List Value) (l:us.length=7):p us:=match us,l with | [a0,a1,a2,a3,a4,a5,a6],_=>h a0 a1 a2 a3 a4 a5 a6
theorem bn11 {p:List Value→Prop} (h:∀ a0 a1 a2 a3 a4 a5 a6 a7 a8 a9 a10:Value,p [a0,a1,a2,a3,a4,a5,a6,a7,a8,a9,a10]) (us:List Value) (l:us.length=11):p us:=match us,l with | [a0,a1,a2,a3,a4,a5,a6,a7,a8,a9,a10],_=>h a0 a1 a2 a3 a4 a5 a6 a7 a8 a9 a10
theorem all_mk {l:PySem.W.OpenLaw} {w:World} {K:PySem.W.Frag} {h:Heap} {mg:Str→Option Value} {fa yQ yZ yX yY yV yJ yW yU yK yG cQ cZ cV cK cG vQ vZ vX vY f0 f1 f2 f3 f4 f5 f6 f7 f8 f9 f10 f11 f12 f13 f14 f15 f16 f17 f18 f19 f20 f21 f22 f23 f24 f25 f26 f27 f28 f29 f30 f31 f32 f33 f34 f35 f36 f37 f38 f39 f40 f41 f42 f43 f44 f45 f46 f47 f48 f49 f50 f51 f52 f53 f54 f55 f56 f57 f58 f59 f60 f61 f62 f63 f64 f65 f66 f67 f68 f69 f70 f71 f72 f73 f74 f75 f76:Addr} (X:K.In h) (G:h.Ns mainGlobals mg) (hfa:mg "law"=some (.ref fa))
    {od0 an0 od1 an1 od2 an2 od3 an3 od4 an4 od5 an5 od6 an6 od7 an7 od8 an8 od9 an9 od10 an10 od11 an11 od12 an12 od13 an13 od14 an14 od15 an15 od16 an16 od17 an17 od18 an18 od19 an19 od20 an20 od21 an21 od22 an22 od23 an23 od24 an24 od25 an25 od26 an26 od27 an27 od28 an28 od29 an29 od30 an30 od31 an31 od32 an32 od33 an33 od34 an34 od35 an35 od36 an36 od37 an37 od38 an38 od39 an39 od40 an40 od41 an41 od42 an42 od43 an43 od44 an44 od45 an45 od46 an46 od47 an47 od48 an48 od49 an49 od50 an50 od51 an51 od52 an52 od53 an53 od54 an54 od55 an55 od56 an56 od57 an57 od58 an58 od59 an59 od60 an60 od61 an61 od62 an62 od63 an63 od64 an64 od65 an65 od66 an66 od67 an67 od68 an68 od69 an69 od70 an70 od71 an71 od72 an72 od73 an73 od74 an74 od75 an75 od76 an76:Option Addr} {sl0 sl1 sl2 sl3 sl4 sl5 sl6 sl7 sl8 sl9 sl10 sl11 sl12 sl13 sl14 sl15 sl16 sl17 sl18 sl19 sl20 sl21 sl22 sl23 sl24 sl25 sl26 sl27 sl28 sl29 sl30 sl31 sl32 sl33 sl34 sl35 sl36 sl37 sl38 sl39 sl40 sl41 sl42 sl43 sl44 sl45 sl46 sl47 sl48 sl49 sl50 sl51 sl52 sl53 sl54 sl55 sl56 sl57 sl58 sl59 sl60 sl61 sl62 sl63 sl64 sl65 sl66 sl67 sl68 sl69 sl70 sl71 sl72 sl73 sl74 sl75 sl76:Array (Option Value)}
    {oc0 kV0 dc0 pm0 cd0 ct0 oc1 kV1 dc1 pm1 cd1 ct1 oc2 kV2 dc2 pm2 cd2 ct2 oc3 kV3 dc3 pm3 cd3 ct3 oc4 kV4 dc4 pm4 cd4 ct4 oc5 kV5 dc5 pm5 cd5 ct5 oc6 kV6 dc6 pm6 cd6 ct6 oc7 kV7 dc7 pm7 cd7 ct7 oc8 kV8 dc8 pm8 cd8 ct8 oc9 kV9 dc9 pm9 cd9 ct9 oc10 kV10 dc10 pm10 cd10 ct10 oc11 kV11 dc11 pm11 cd11 ct11 oc12 kV12 dc12 pm12 cd12 ct12 oc13 kV13 dc13 pm13 cd13 ct13 oc14 kV14 dc14 pm14 cd14 ct14 oc15 kV15 dc15 pm15 cd15 ct15 oc16 kV16 dc16 pm16 cd16 ct16 oc17 kV17 dc17 pm17 cd17 ct17 oc18 kV18 dc18 pm18 cd18 ct18 oc19 kV19 dc19 pm19 cd19 ct19 oc20 kV20 dc20 pm20 cd20 ct20 oc21 kV21 dc21 pm21 cd21 ct21 oc22 kV22 dc22 pm22 cd22 ct22 oc23 kV23 dc23 pm23 cd23 ct23 oc24 kV24 dc24 pm24 cd24 ct24 oc25 kV25 dc25 pm25 cd25 ct25 oc26 kV26 dc26 pm26 cd26 ct26 oc27 kV27 dc27 pm27 cd27 ct27 oc28 kV28 dc28 pm28 cd28 ct28 oc29 kV29 dc29 pm29 cd29 ct29 oc30 kV30 dc30 pm30 cd30 ct30 oc31 kV31 dc31 pm31 cd31 ct31 oc32 kV32 dc32 pm32 cd32 ct32 oc33 kV33 dc33 pm33 cd33 ct33 oc34 kV34 dc34 pm34 cd34 ct34 oc35 kV35 dc35 pm35 cd35 ct35 oc36 kV36 dc36 pm36 cd36 ct36 oc37 kV37 dc37 pm37 cd37 ct37 oc38 kV38 dc38 pm38 cd38 ct38 oc39 kV39 dc39 pm39 cd39 ct39 oc40 kV40 dc40 pm40 cd40 ct40 oc41 kV41 dc41 pm41 cd41 ct41 oc42 kV42 dc42 pm42 cd42 ct42 oc43 kV43 dc43 pm43 cd43 ct43 oc44 kV44 dc44 pm44 cd44 ct44 oc45 kV45 dc45 pm45 cd45 ct45 oc46 kV46 dc46 pm46 cd46 ct46 oc47 kV47 dc47 pm47 cd47 ct47 oc48 kV48 dc48 pm48 cd48 ct48 oc49 kV49 dc49 pm49 cd49 ct49 oc50 kV50 dc50 pm50 cd50 ct50 oc51 kV51 dc51 pm51 cd51 ct51 oc52 kV52 dc52 pm52 cd52 ct52 oc53 kV53 dc53 pm53 cd53 ct53 oc54 kV54 dc54 pm54 cd54 ct54 oc55 kV55 dc55 pm55 cd55 ct55 oc56 kV56 dc56 pm56 cd56 ct56 oc57 kV57 dc57 pm57 cd57 ct57 oc58 kV58 dc58 pm58 cd58 ct58 oc59 kV59 dc59 pm59 cd59 ct59 oc60 kV60 dc60 pm60 cd60 ct60 oc61 kV61 dc61 pm61 cd61 ct61 oc62 kV62 dc62 pm62 cd62 ct62 oc63 kV63 dc63 pm63 cd63 ct63 oc64 kV64 dc64 pm64 cd64 ct64 oc65 kV65 dc65 pm65 cd65 ct65 oc66 kV66 dc66 pm66 cd66 ct66 oc67 kV67 dc67 pm67 cd67 ct67 oc68 kV68 dc68 pm68 cd68 ct68 oc69 kV69 dc69 pm69 cd69 ct69 oc70 kV70 dc70 pm70 cd70 ct70 oc71 kV71 dc71 pm71 cd71 ct71 oc72 kV72 dc72 pm72 cd72 ct72 oc73 kV73 dc73 pm73 cd73 ct73 oc74 kV74 dc74 pm74 cd74 ct74 oc75 kV75 dc75 pm75 cd75 ct75 oc76 kV76 dc76 pm76 cd76 ct76:Value}
    (qaa:PySem.W.nsIn K mainGlobals "Layout"=some (some (.ref yQ)))
    (qab:PySem.W.nsIn K mainGlobals "One"=some (some (.ref yZ)))
    (qac:PySem.W.nsIn K mainGlobals "Both"=some (some (.ref yX)))
    (qad:PySem.W.nsIn K mainGlobals "Several"=some (some (.ref yY)))
    (qae:PySem.W.nsIn K mainGlobals "State"=some (some (.ref yV)))
    (qaf:PySem.W.nsIn K mainGlobals "Ready"=some (some (.ref yJ)))
    (qag:PySem.W.nsIn K mainGlobals "Jammed"=some (some (.ref yW)))
    (qah:PySem.W.nsIn K mainGlobals "Away"=some (some (.ref yU)))
    (qai:PySem.W.nsIn K mainGlobals "Run"=some (some (.ref yK)))
    (qaj:PySem.W.nsIn K mainGlobals "Job"=some (some (.ref yG)))
    (qak:PySem.W.nsIn K mainGlobals "Stock"=some (some (.ref cQ)))
    (qal:PySem.W.nsIn K mainGlobals "Printer"=some (some (.ref cZ)))
    (qam:PySem.W.nsIn K mainGlobals "Unknown"=some (some (.ref cV)))
    (qan:PySem.W.nsIn K mainGlobals "NotNow"=some (some (.ref cK)))
    (qao:PySem.W.nsIn K mainGlobals "TooMuch"=some (some (.ref cG)))
    (qap:PySem.W.nsIn K mainGlobals "Dry"=some (some (.ref vQ)))
    (qaq:PySem.W.nsIn K mainGlobals "Over"=some (some (.ref vZ)))
    (qar:PySem.W.nsIn K mainGlobals "Nowhere"=some (some (.ref vX)))
    (qas:PySem.W.nsIn K mainGlobals "HallError"=some (some (.ref vY)))
    (a0:PySem.W.findIn K (.ref cV) "__init__"=some (some (.ref f0)))
    (i0:PySem.W.isFn K (.ref f0)=true)
    (l0:K.lookup f0=some ⟨oc0,od0,.func (PySem.W.fnOf "__init__" "Unknown.__init__" (defArgs s_Unknown_init) (defBody s_Unknown_init) (defScope s_Unknown_init) .none kV0 dc0 pm0 an0 cd0 ct0),sl0⟩)
    (c0:PySem.W.codeIn K cd0 "Unknown.__init__"=true)
    (k0:PySem.W.keepIn K (.ref f0)=true)
    (a1:PySem.W.findIn K (.ref cK) "__init__"=some (some (.ref f1)))
    (i1:PySem.W.isFn K (.ref f1)=true)
    (l1:K.lookup f1=some ⟨oc1,od1,.func (PySem.W.fnOf "__init__" "NotNow.__init__" (defArgs s_NotNow_init) (defBody s_NotNow_init) (defScope s_NotNow_init) .none kV1 dc1 pm1 an1 cd1 ct1),sl1⟩)
    (c1:PySem.W.codeIn K cd1 "NotNow.__init__"=true)
    (k1:PySem.W.keepIn K (.ref f1)=true)
    (a2:PySem.W.findIn K (.ref cG) "__init__"=some (some (.ref f2)))
    (i2:PySem.W.isFn K (.ref f2)=true)
    (l2:K.lookup f2=some ⟨oc2,od2,.func (PySem.W.fnOf "__init__" "TooMuch.__init__" (defArgs s_TooMuch_init) (defBody s_TooMuch_init) (defScope s_TooMuch_init) .none kV2 dc2 pm2 an2 cd2 ct2),sl2⟩)
    (c2:PySem.W.codeIn K cd2 "TooMuch.__init__"=true)
    (k2:PySem.W.keepIn K (.ref f2)=true)
    (a3:PySem.W.findIn K (.ref vQ) "__init__"=some (some (.ref f3)))
    (i3:PySem.W.isFn K (.ref f3)=true)
    (l3:K.lookup f3=some ⟨oc3,od3,.func (PySem.W.fnOf "__init__" "Dry.__init__" (defArgs s_Dry_init) (defBody s_Dry_init) (defScope s_Dry_init) .none kV3 dc3 pm3 an3 cd3 ct3),sl3⟩)
    (c3:PySem.W.codeIn K cd3 "Dry.__init__"=true)
    (k3:PySem.W.keepIn K (.ref f3)=true)
    (a4:PySem.W.findIn K (.ref vZ) "__init__"=some (some (.ref f4)))
    (i4:PySem.W.isFn K (.ref f4)=true)
    (l4:K.lookup f4=some ⟨oc4,od4,.func (PySem.W.fnOf "__init__" "Over.__init__" (defArgs s_Over_init) (defBody s_Over_init) (defScope s_Over_init) .none kV4 dc4 pm4 an4 cd4 ct4),sl4⟩)
    (c4:PySem.W.codeIn K cd4 "Over.__init__"=true)
    (k4:PySem.W.keepIn K (.ref f4)=true)
    (a5:PySem.W.findIn K (.ref vX) "__init__"=some (some (.ref f5)))
    (i5:PySem.W.isFn K (.ref f5)=true)
    (l5:K.lookup f5=some ⟨oc5,od5,.func (PySem.W.fnOf "__init__" "Nowhere.__init__" (defArgs s_Nowhere_init) (defBody s_Nowhere_init) (defScope s_Nowhere_init) .none kV5 dc5 pm5 an5 cd5 ct5),sl5⟩)
    (c5:PySem.W.codeIn K cd5 "Nowhere.__init__"=true)
    (k5:PySem.W.keepIn K (.ref f5)=true)
    (a6:PySem.W.nsIn K mainGlobals "cells_from"=some (some (.ref f6)))
    (l6:K.lookup f6=some ⟨oc6,od6,.func (PySem.W.fnOf "cells_from" "cells_from" (defArgs s_cells_from) (defBody s_cells_from) (defScope s_cells_from) .none kV6 dc6 pm6 an6 cd6 ct6),sl6⟩)
    (c6:PySem.W.codeIn K cd6 "cells_from"=true)
    (k6:PySem.W.keepIn K (.ref f6)=true)
    (a7:PySem.W.findIn K (.ref yQ) "__init__"=some (some (.ref f7)))
    (i7:PySem.W.isFn K (.ref f7)=true)
    (l7:K.lookup f7=some ⟨oc7,od7,.func (PySem.W.fnOf "__init__" "Layout.__init__" (defArgs s_Layout_init) (defBody s_Layout_init) (defScope s_Layout_init) .none kV7 dc7 pm7 an7 cd7 ct7),sl7⟩)
    (c7:PySem.W.codeIn K cd7 "Layout.__init__"=true)
    (k7:PySem.W.keepIn K (.ref f7)=true)
    (a8:PySem.W.findIn K (.ref yQ) "per_sheet"=some (some (.ref f8)))
    (i8:PySem.W.isFn K (.ref f8)=true)
    (l8:K.lookup f8=some ⟨oc8,od8,.func (PySem.W.fnOf "per_sheet" "Layout.per_sheet" (defArgs s_Layout_per_sheet) (defBody s_Layout_per_sheet) (defScope s_Layout_per_sheet) .none kV8 dc8 pm8 an8 cd8 ct8),sl8⟩)
    (c8:PySem.W.codeIn K cd8 "Layout.per_sheet"=true)
    (k8:PySem.W.keepIn K (.ref f8)=true)
    (a9:PySem.W.findIn K (.ref yQ) "laid"=some (some (.ref f9)))
    (i9:PySem.W.isFn K (.ref f9)=true)
    (l9:K.lookup f9=some ⟨oc9,od9,.func (PySem.W.fnOf "laid" "Layout.laid" (defArgs s_Layout_laid) (defBody s_Layout_laid) (defScope s_Layout_laid) .none kV9 dc9 pm9 an9 cd9 ct9),sl9⟩)
    (c9:PySem.W.codeIn K cd9 "Layout.laid"=true)
    (k9:PySem.W.keepIn K (.ref f9)=true)
    (a10:PySem.W.findIn K (.ref yQ) "sheet_from"=some (some (.ref f10)))
    (i10:PySem.W.isFn K (.ref f10)=true)
    (l10:K.lookup f10=some ⟨oc10,od10,.func (PySem.W.fnOf "sheet_from" "Layout.sheet_from" (defArgs s_Layout_sheet_from) (defBody s_Layout_sheet_from) (defScope s_Layout_sheet_from) .none kV10 dc10 pm10 an10 cd10 ct10),sl10⟩)
    (c10:PySem.W.codeIn K cd10 "Layout.sheet_from"=true)
    (k10:PySem.W.keepIn K (.ref f10)=true)
    (a11:PySem.W.findIn K (.ref yZ) "__init__"=some (some (.ref f11)))
    (i11:PySem.W.isFn K (.ref f11)=true)
    (l11:K.lookup f11=some ⟨oc11,od11,.func (PySem.W.fnOf "__init__" "One.__init__" (defArgs s_One_init) (defBody s_One_init) (defScope s_One_init) .none kV11 dc11 pm11 an11 cd11 ct11),sl11⟩)
    (c11:PySem.W.codeIn K cd11 "One.__init__"=true)
    (k11:PySem.W.keepIn K (.ref f11)=true)
    (a12:PySem.W.findIn K (.ref yX) "__init__"=some (some (.ref f12)))
    (i12:PySem.W.isFn K (.ref f12)=true)
    (l12:K.lookup f12=some ⟨oc12,od12,.func (PySem.W.fnOf "__init__" "Both.__init__" (defArgs s_Both_init) (defBody s_Both_init) (defScope s_Both_init) .none kV12 dc12 pm12 an12 cd12 ct12),sl12⟩)
    (c12:PySem.W.codeIn K cd12 "Both.__init__"=true)
    (k12:PySem.W.keepIn K (.ref f12)=true)
    (a13:PySem.W.findIn K (.ref yY) "__init__"=some (some (.ref f13)))
    (i13:PySem.W.isFn K (.ref f13)=true)
    (l13:K.lookup f13=some ⟨oc13,od13,.func (PySem.W.fnOf "__init__" "Several.__init__" (defArgs s_Several_init) (defBody s_Several_init) (defScope s_Several_init) .none kV13 dc13 pm13 an13 cd13 ct13),sl13⟩)
    (c13:PySem.W.codeIn K cd13 "Several.__init__"=true)
    (k13:PySem.W.keepIn K (.ref f13)=true)
    (a14:PySem.W.nsIn K mainGlobals "layout_of"=some (some (.ref f14)))
    (l14:K.lookup f14=some ⟨oc14,od14,.func (PySem.W.fnOf "layout_of" "layout_of" (defArgs s_layout_of) (defBody s_layout_of) (defScope s_layout_of) .none kV14 dc14 pm14 an14 cd14 ct14),sl14⟩)
    (c14:PySem.W.codeIn K cd14 "layout_of"=true)
    (k14:PySem.W.keepIn K (.ref f14)=true)
    (a15:PySem.W.nsIn K mainGlobals "sheets_of"=some (some (.ref f15)))
    (l15:K.lookup f15=some ⟨oc15,od15,.func (PySem.W.fnOf "sheets_of" "sheets_of" (defArgs s_sheets_of) (defBody s_sheets_of) (defScope s_sheets_of) .none kV15 dc15 pm15 an15 cd15 ct15),sl15⟩)
    (c15:PySem.W.codeIn K cd15 "sheets_of"=true)
    (k15:PySem.W.keepIn K (.ref f15)=true)
    (a16:PySem.W.nsIn K mainGlobals "paper_of"=some (some (.ref f16)))
    (l16:K.lookup f16=some ⟨oc16,od16,.func (PySem.W.fnOf "paper_of" "paper_of" (defArgs s_paper_of) (defBody s_paper_of) (defScope s_paper_of) .none kV16 dc16 pm16 an16 cd16 ct16),sl16⟩)
    (c16:PySem.W.codeIn K cd16 "paper_of"=true)
    (k16:PySem.W.keepIn K (.ref f16)=true)
    (a17:PySem.W.nsIn K mainGlobals "ink_of"=some (some (.ref f17)))
    (l17:K.lookup f17=some ⟨oc17,od17,.func (PySem.W.fnOf "ink_of" "ink_of" (defArgs s_ink_of) (defBody s_ink_of) (defScope s_ink_of) .none kV17 dc17 pm17 an17 cd17 ct17),sl17⟩)
    (c17:PySem.W.codeIn K cd17 "ink_of"=true)
    (k17:PySem.W.keepIn K (.ref f17)=true)
    (a18:PySem.W.nsIn K mainGlobals "is_coloured"=some (some (.ref f18)))
    (l18:K.lookup f18=some ⟨oc18,od18,.func (PySem.W.fnOf "is_coloured" "is_coloured" (defArgs s_is_coloured) (defBody s_is_coloured) (defScope s_is_coloured) .none kV18 dc18 pm18 an18 cd18 ct18),sl18⟩)
    (c18:PySem.W.codeIn K cd18 "is_coloured"=true)
    (k18:PySem.W.keepIn K (.ref f18)=true)
    (a19:PySem.W.findIn K (.ref yV) "__init__"=some (some (.ref f19)))
    (i19:PySem.W.isFn K (.ref f19)=true)
    (l19:K.lookup f19=some ⟨oc19,od19,.func (PySem.W.fnOf "__init__" "State.__init__" (defArgs s_State_init) (defBody s_State_init) (defScope s_State_init) .none kV19 dc19 pm19 an19 cd19 ct19),sl19⟩)
    (c19:PySem.W.codeIn K cd19 "State.__init__"=true)
    (k19:PySem.W.keepIn K (.ref f19)=true)
    (a20:PySem.W.findIn K (.ref yV) "called"=some (some (.ref f20)))
    (i20:PySem.W.isFn K (.ref f20)=true)
    (l20:K.lookup f20=some ⟨oc20,od20,.func (PySem.W.fnOf "called" "State.called" (defArgs s_State_called) (defBody s_State_called) (defScope s_State_called) .none kV20 dc20 pm20 an20 cd20 ct20),sl20⟩)
    (c20:PySem.W.codeIn K cd20 "State.called"=true)
    (k20:PySem.W.keepIn K (.ref f20)=true)
    (a21:PySem.W.findIn K (.ref yJ) "__init__"=some (some (.ref f21)))
    (i21:PySem.W.isFn K (.ref f21)=true)
    (l21:K.lookup f21=some ⟨oc21,od21,.func (PySem.W.fnOf "__init__" "Ready.__init__" (defArgs s_Ready_init) (defBody s_Ready_init) (defScope s_Ready_init) .none kV21 dc21 pm21 an21 cd21 ct21),sl21⟩)
    (c21:PySem.W.codeIn K cd21 "Ready.__init__"=true)
    (k21:PySem.W.keepIn K (.ref f21)=true)
    (a22:PySem.W.findIn K (.ref yJ) "jam"=some (some (.ref f22)))
    (i22:PySem.W.isFn K (.ref f22)=true)
    (l22:K.lookup f22=some ⟨oc22,od22,.func (PySem.W.fnOf "jam" "Ready.jam" (defArgs s_Ready_jam) (defBody s_Ready_jam) (defScope s_Ready_jam) .none kV22 dc22 pm22 an22 cd22 ct22),sl22⟩)
    (c22:PySem.W.codeIn K cd22 "Ready.jam"=true)
    (k22:PySem.W.keepIn K (.ref f22)=true)
    (a23:PySem.W.findIn K (.ref yJ) "leave"=some (some (.ref f23)))
    (i23:PySem.W.isFn K (.ref f23)=true)
    (l23:K.lookup f23=some ⟨oc23,od23,.func (PySem.W.fnOf "leave" "Ready.leave" (defArgs s_Ready_leave) (defBody s_Ready_leave) (defScope s_Ready_leave) .none kV23 dc23 pm23 an23 cd23 ct23),sl23⟩)
    (c23:PySem.W.codeIn K cd23 "Ready.leave"=true)
    (k23:PySem.W.keepIn K (.ref f23)=true)
    (a24:PySem.W.findIn K (.ref yW) "__init__"=some (some (.ref f24)))
    (i24:PySem.W.isFn K (.ref f24)=true)
    (l24:K.lookup f24=some ⟨oc24,od24,.func (PySem.W.fnOf "__init__" "Jammed.__init__" (defArgs s_Jammed_init) (defBody s_Jammed_init) (defScope s_Jammed_init) .none kV24 dc24 pm24 an24 cd24 ct24),sl24⟩)
    (c24:PySem.W.codeIn K cd24 "Jammed.__init__"=true)
    (k24:PySem.W.keepIn K (.ref f24)=true)
    (a25:PySem.W.findIn K (.ref yU) "__init__"=some (some (.ref f25)))
    (i25:PySem.W.isFn K (.ref f25)=true)
    (l25:K.lookup f25=some ⟨oc25,od25,.func (PySem.W.fnOf "__init__" "Away.__init__" (defArgs s_Away_init) (defBody s_Away_init) (defScope s_Away_init) .none kV25 dc25 pm25 an25 cd25 ct25),sl25⟩)
    (c25:PySem.W.codeIn K cd25 "Away.__init__"=true)
    (k25:PySem.W.keepIn K (.ref f25)=true)
    (a26:PySem.W.findIn K (.ref yK) "__init__"=some (some (.ref f26)))
    (i26:PySem.W.isFn K (.ref f26)=true)
    (l26:K.lookup f26=some ⟨oc26,od26,.func (PySem.W.fnOf "__init__" "Run.__init__" (defArgs s_Run_init) (defBody s_Run_init) (defScope s_Run_init) .none kV26 dc26 pm26 an26 cd26 ct26),sl26⟩)
    (c26:PySem.W.codeIn K cd26 "Run.__init__"=true)
    (k26:PySem.W.keepIn K (.ref f26)=true)
    (a27:PySem.W.findIn K (.ref yK) "each"=some (some (.ref f27)))
    (i27:PySem.W.isFn K (.ref f27)=true)
    (l27:K.lookup f27=some ⟨oc27,od27,.func (PySem.W.fnOf "each" "Run.each" (defArgs s_Run_each) (defBody s_Run_each) (defScope s_Run_each) .none kV27 dc27 pm27 an27 cd27 ct27),sl27⟩)
    (c27:PySem.W.codeIn K cd27 "Run.each"=true)
    (k27:PySem.W.keepIn K (.ref f27)=true)
    (a28:PySem.W.findIn K (.ref yK) "total"=some (some (.ref f28)))
    (i28:PySem.W.isFn K (.ref f28)=true)
    (l28:K.lookup f28=some ⟨oc28,od28,.func (PySem.W.fnOf "total" "Run.total" (defArgs s_Run_total) (defBody s_Run_total) (defScope s_Run_total) .none kV28 dc28 pm28 an28 cd28 ct28),sl28⟩)
    (c28:PySem.W.codeIn K cd28 "Run.total"=true)
    (k28:PySem.W.keepIn K (.ref f28)=true)
    (a29:PySem.W.findIn K (.ref yK) "out"=some (some (.ref f29)))
    (i29:PySem.W.isFn K (.ref f29)=true)
    (l29:K.lookup f29=some ⟨oc29,od29,.func (PySem.W.fnOf "out" "Run.out" (defArgs s_Run_out) (defBody s_Run_out) (defScope s_Run_out) .none kV29 dc29 pm29 an29 cd29 ct29),sl29⟩)
    (c29:PySem.W.codeIn K cd29 "Run.out"=true)
    (k29:PySem.W.keepIn K (.ref f29)=true)
    (a30:PySem.W.findIn K (.ref yK) "at"=some (some (.ref f30)))
    (i30:PySem.W.isFn K (.ref f30)=true)
    (l30:K.lookup f30=some ⟨oc30,od30,.func (PySem.W.fnOf "at" "Run.at" (defArgs s_Run_at) (defBody s_Run_at) (defScope s_Run_at) .none kV30 dc30 pm30 an30 cd30 ct30),sl30⟩)
    (c30:PySem.W.codeIn K cd30 "Run.at"=true)
    (k30:PySem.W.keepIn K (.ref f30)=true)
    (a31:PySem.W.findIn K (.ref yK) "whole"=some (some (.ref f31)))
    (i31:PySem.W.isFn K (.ref f31)=true)
    (l31:K.lookup f31=some ⟨oc31,od31,.func (PySem.W.fnOf "whole" "Run.whole" (defArgs s_Run_whole) (defBody s_Run_whole) (defScope s_Run_whole) .none kV31 dc31 pm31 an31 cd31 ct31),sl31⟩)
    (c31:PySem.W.codeIn K cd31 "Run.whole"=true)
    (k31:PySem.W.keepIn K (.ref f31)=true)
    (a32:PySem.W.findIn K (.ref yK) "lack"=some (some (.ref f32)))
    (i32:PySem.W.isFn K (.ref f32)=true)
    (l32:K.lookup f32=some ⟨oc32,od32,.func (PySem.W.fnOf "lack" "Run.lack" (defArgs s_Run_lack) (defBody s_Run_lack) (defScope s_Run_lack) .none kV32 dc32 pm32 an32 cd32 ct32),sl32⟩)
    (c32:PySem.W.codeIn K cd32 "Run.lack"=true)
    (k32:PySem.W.keepIn K (.ref f32)=true)
    (a33:PySem.W.findIn K (.ref yK) "upcoming"=some (some (.ref f33)))
    (i33:PySem.W.isFn K (.ref f33)=true)
    (l33:K.lookup f33=some ⟨oc33,od33,.func (PySem.W.fnOf "upcoming" "Run.upcoming" (defArgs s_Run_upcoming) (defBody s_Run_upcoming) (defScope s_Run_upcoming) .none kV33 dc33 pm33 an33 cd33 ct33),sl33⟩)
    (c33:PySem.W.codeIn K cd33 "Run.upcoming"=true)
    (k33:PySem.W.keepIn K (.ref f33)=true)
    (a34:PySem.W.findIn K (.ref yK) "take"=some (some (.ref f34)))
    (i34:PySem.W.isFn K (.ref f34)=true)
    (l34:K.lookup f34=some ⟨oc34,od34,.func (PySem.W.fnOf "take" "Run.take" (defArgs s_Run_take) (defBody s_Run_take) (defScope s_Run_take) .none kV34 dc34 pm34 an34 cd34 ct34),sl34⟩)
    (c34:PySem.W.codeIn K cd34 "Run.take"=true)
    (k34:PySem.W.keepIn K (.ref f34)=true)
    (a35:PySem.W.findIn K (.ref yK) "drop"=some (some (.ref f35)))
    (i35:PySem.W.isFn K (.ref f35)=true)
    (l35:K.lookup f35=some ⟨oc35,od35,.func (PySem.W.fnOf "drop" "Run.drop" (defArgs s_Run_drop) (defBody s_Run_drop) (defScope s_Run_drop) .none kV35 dc35 pm35 an35 cd35 ct35),sl35⟩)
    (c35:PySem.W.codeIn K cd35 "Run.drop"=true)
    (k35:PySem.W.keepIn K (.ref f35)=true)
    (a36:PySem.W.findIn K (.ref yK) "step"=some (some (.ref f36)))
    (i36:PySem.W.isFn K (.ref f36)=true)
    (l36:K.lookup f36=some ⟨oc36,od36,.func (PySem.W.fnOf "step" "Run.step" (defArgs s_Run_step) (defBody s_Run_step) (defScope s_Run_step) .none kV36 dc36 pm36 an36 cd36 ct36),sl36⟩)
    (c36:PySem.W.codeIn K cd36 "Run.step"=true)
    (k36:PySem.W.keepIn K (.ref f36)=true)
    (a37:PySem.W.findIn K (.ref yK) "jam"=some (some (.ref f37)))
    (i37:PySem.W.isFn K (.ref f37)=true)
    (l37:K.lookup f37=some ⟨oc37,od37,.func (PySem.W.fnOf "jam" "Run.jam" (defArgs s_Run_jam) (defBody s_Run_jam) (defScope s_Run_jam) .none kV37 dc37 pm37 an37 cd37 ct37),sl37⟩)
    (c37:PySem.W.codeIn K cd37 "Run.jam"=true)
    (k37:PySem.W.keepIn K (.ref f37)=true)
    (a38:PySem.W.findIn K (.ref yK) "must_go_on"=some (some (.ref f38)))
    (i38:PySem.W.isFn K (.ref f38)=true)
    (l38:K.lookup f38=some ⟨oc38,od38,.func (PySem.W.fnOf "must_go_on" "Run.must_go_on" (defArgs s_Run_must_go_on) (defBody s_Run_must_go_on) (defScope s_Run_must_go_on) .none kV38 dc38 pm38 an38 cd38 ct38),sl38⟩)
    (c38:PySem.W.codeIn K cd38 "Run.must_go_on"=true)
    (k38:PySem.W.keepIn K (.ref f38)=true)
    (a39:PySem.W.findIn K (.ref yK) "must_be_placed"=some (some (.ref f39)))
    (i39:PySem.W.isFn K (.ref f39)=true)
    (l39:K.lookup f39=some ⟨oc39,od39,.func (PySem.W.fnOf "must_be_placed" "Run.must_be_placed" (defArgs s_Run_must_be_placed) (defBody s_Run_must_be_placed) (defScope s_Run_must_be_placed) .none kV39 dc39 pm39 an39 cd39 ct39),sl39⟩)
    (c39:PySem.W.codeIn K cd39 "Run.must_be_placed"=true)
    (k39:PySem.W.keepIn K (.ref f39)=true)
    (a40:PySem.W.findIn K (.ref yK) "used_by"=some (some (.ref f40)))
    (i40:PySem.W.isFn K (.ref f40)=true)
    (l40:K.lookup f40=some ⟨oc40,od40,.func (PySem.W.fnOf "used_by" "Run.used_by" (defArgs s_Run_used_by) (defBody s_Run_used_by) (defScope s_Run_used_by) .none kV40 dc40 pm40 an40 cd40 ct40),sl40⟩)
    (c40:PySem.W.codeIn K cd40 "Run.used_by"=true)
    (k40:PySem.W.keepIn K (.ref f40)=true)
    (a41:PySem.W.findIn K (.ref yK) "fed"=some (some (.ref f41)))
    (i41:PySem.W.isFn K (.ref f41)=true)
    (l41:K.lookup f41=some ⟨oc41,od41,.func (PySem.W.fnOf "fed" "Run.fed" (defArgs s_Run_fed) (defBody s_Run_fed) (defScope s_Run_fed) .none kV41 dc41 pm41 an41 cd41 ct41),sl41⟩)
    (c41:PySem.W.codeIn K cd41 "Run.fed"=true)
    (k41:PySem.W.keepIn K (.ref f41)=true)
    (a42:PySem.W.findIn K (.ref yK) "emptied"=some (some (.ref f42)))
    (i42:PySem.W.isFn K (.ref f42)=true)
    (l42:K.lookup f42=some ⟨oc42,od42,.func (PySem.W.fnOf "emptied" "Run.emptied" (defArgs s_Run_emptied) (defBody s_Run_emptied) (defScope s_Run_emptied) .none kV42 dc42 pm42 an42 cd42 ct42),sl42⟩)
    (c42:PySem.W.codeIn K cd42 "Run.emptied"=true)
    (k42:PySem.W.keepIn K (.ref f42)=true)
    (a43:PySem.W.findIn K (.ref yK) "note_out"=some (some (.ref f43)))
    (i43:PySem.W.isFn K (.ref f43)=true)
    (l43:K.lookup f43=some ⟨oc43,od43,.func (PySem.W.fnOf "note_out" "Run.note_out" (defArgs s_Run_note_out) (defBody s_Run_note_out) (defScope s_Run_note_out) .none kV43 dc43 pm43 an43 cd43 ct43),sl43⟩)
    (c43:PySem.W.codeIn K cd43 "Run.note_out"=true)
    (k43:PySem.W.keepIn K (.ref f43)=true)
    (a44:PySem.W.findIn K (.ref yG) "__init__"=some (some (.ref f44)))
    (i44:PySem.W.isFn K (.ref f44)=true)
    (l44:K.lookup f44=some ⟨oc44,od44,.func (PySem.W.fnOf "__init__" "Job.__init__" (defArgs s_Job_init) (defBody s_Job_init) (defScope s_Job_init) .none kV44 dc44 pm44 an44 cd44 ct44),sl44⟩)
    (c44:PySem.W.codeIn K cd44 "Job.__init__"=true)
    (k44:PySem.W.keepIn K (.ref f44)=true)
    (a45:PySem.W.findIn K (.ref cQ) "__init__"=some (some (.ref f45)))
    (i45:PySem.W.isFn K (.ref f45)=true)
    (l45:K.lookup f45=some ⟨oc45,od45,.func (PySem.W.fnOf "__init__" "Stock.__init__" (defArgs s_Stock_init) (defBody s_Stock_init) (defScope s_Stock_init) .none kV45 dc45 pm45 an45 cd45 ct45),sl45⟩)
    (c45:PySem.W.codeIn K cd45 "Stock.__init__"=true)
    (k45:PySem.W.keepIn K (.ref f45)=true)
    (a46:PySem.W.findIn K (.ref cQ) "held"=some (some (.ref f46)))
    (i46:PySem.W.isFn K (.ref f46)=true)
    (l46:K.lookup f46=some ⟨oc46,od46,.func (PySem.W.fnOf "held" "Stock.held" (defArgs s_Stock_held) (defBody s_Stock_held) (defScope s_Stock_held) .none kV46 dc46 pm46 an46 cd46 ct46),sl46⟩)
    (c46:PySem.W.codeIn K cd46 "Stock.held"=true)
    (k46:PySem.W.keepIn K (.ref f46)=true)
    (a47:PySem.W.findIn K (.ref cQ) "room"=some (some (.ref f47)))
    (i47:PySem.W.isFn K (.ref f47)=true)
    (l47:K.lookup f47=some ⟨oc47,od47,.func (PySem.W.fnOf "room" "Stock.room" (defArgs s_Stock_room) (defBody s_Stock_room) (defScope s_Stock_room) .none kV47 dc47 pm47 an47 cd47 ct47),sl47⟩)
    (c47:PySem.W.codeIn K cd47 "Stock.room"=true)
    (k47:PySem.W.keepIn K (.ref f47)=true)
    (a48:PySem.W.findIn K (.ref cQ) "know"=some (some (.ref f48)))
    (i48:PySem.W.isFn K (.ref f48)=true)
    (l48:K.lookup f48=some ⟨oc48,od48,.func (PySem.W.fnOf "know" "Stock.know" (defArgs s_Stock_know) (defBody s_Stock_know) (defScope s_Stock_know) .none kV48 dc48 pm48 an48 cd48 ct48),sl48⟩)
    (c48:PySem.W.codeIn K cd48 "Stock.know"=true)
    (k48:PySem.W.keepIn K (.ref f48)=true)
    (a49:PySem.W.findIn K (.ref cQ) "know_all"=some (some (.ref f49)))
    (i49:PySem.W.isFn K (.ref f49)=true)
    (l49:K.lookup f49=some ⟨oc49,od49,.func (PySem.W.fnOf "know_all" "Stock.know_all" (defArgs s_Stock_know_all) (defBody s_Stock_know_all) (defScope s_Stock_know_all) .none kV49 dc49 pm49 an49 cd49 ct49),sl49⟩)
    (c49:PySem.W.codeIn K cd49 "Stock.know_all"=true)
    (k49:PySem.W.keepIn K (.ref f49)=true)
    (a50:PySem.W.findIn K (.ref cQ) "put"=some (some (.ref f50)))
    (i50:PySem.W.isFn K (.ref f50)=true)
    (l50:K.lookup f50=some ⟨oc50,od50,.func (PySem.W.fnOf "put" "Stock.put" (defArgs s_Stock_put) (defBody s_Stock_put) (defScope s_Stock_put) .none kV50 dc50 pm50 an50 cd50 ct50),sl50⟩)
    (c50:PySem.W.codeIn K cd50 "Stock.put"=true)
    (k50:PySem.W.keepIn K (.ref f50)=true)
    (a51:PySem.W.findIn K (.ref cQ) "put_all"=some (some (.ref f51)))
    (i51:PySem.W.isFn K (.ref f51)=true)
    (l51:K.lookup f51=some ⟨oc51,od51,.func (PySem.W.fnOf "put_all" "Stock.put_all" (defArgs s_Stock_put_all) (defBody s_Stock_put_all) (defScope s_Stock_put_all) .none kV51 dc51 pm51 an51 cd51 ct51),sl51⟩)
    (c51:PySem.W.codeIn K cd51 "Stock.put_all"=true)
    (k51:PySem.W.keepIn K (.ref f51)=true)
    (a52:PySem.W.findIn K (.ref cQ) "draw_all"=some (some (.ref f52)))
    (i52:PySem.W.isFn K (.ref f52)=true)
    (l52:K.lookup f52=some ⟨oc52,od52,.func (PySem.W.fnOf "draw_all" "Stock.draw_all" (defArgs s_Stock_draw_all) (defBody s_Stock_draw_all) (defScope s_Stock_draw_all) .none kV52 dc52 pm52 an52 cd52 ct52),sl52⟩)
    (c52:PySem.W.codeIn K cd52 "Stock.draw_all"=true)
    (k52:PySem.W.keepIn K (.ref f52)=true)
    (a53:PySem.W.findIn K (.ref cZ) "__init__"=some (some (.ref f53)))
    (i53:PySem.W.isFn K (.ref f53)=true)
    (l53:K.lookup f53=some ⟨oc53,od53,.func (PySem.W.fnOf "__init__" "Printer.__init__" (defArgs s_Printer_init) (defBody s_Printer_init) (defScope s_Printer_init) .none kV53 dc53 pm53 an53 cd53 ct53),sl53⟩)
    (c53:PySem.W.codeIn K cd53 "Printer.__init__"=true)
    (k53:PySem.W.keepIn K (.ref f53)=true)
    (a54:PySem.W.findIn K (.ref cZ) "stands"=some (some (.ref f54)))
    (i54:PySem.W.isFn K (.ref f54)=true)
    (l54:K.lookup f54=some ⟨oc54,od54,.func (PySem.W.fnOf "stands" "Printer.stands" (defArgs s_Printer_stands) (defBody s_Printer_stands) (defScope s_Printer_stands) .none kV54 dc54 pm54 an54 cd54 ct54),sl54⟩)
    (c54:PySem.W.codeIn K cd54 "Printer.stands"=true)
    (k54:PySem.W.keepIn K (.ref f54)=true)
    (a55:PySem.W.findIn K (.ref cZ) "paper_left"=some (some (.ref f55)))
    (i55:PySem.W.isFn K (.ref f55)=true)
    (l55:K.lookup f55=some ⟨oc55,od55,.func (PySem.W.fnOf "paper_left" "Printer.paper_left" (defArgs s_Printer_paper_left) (defBody s_Printer_paper_left) (defScope s_Printer_paper_left) .none kV55 dc55 pm55 an55 cd55 ct55),sl55⟩)
    (c55:PySem.W.codeIn K cd55 "Printer.paper_left"=true)
    (k55:PySem.W.keepIn K (.ref f55)=true)
    (a56:PySem.W.findIn K (.ref cZ) "within"=some (some (.ref f56)))
    (i56:PySem.W.isFn K (.ref f56)=true)
    (l56:K.lookup f56=some ⟨oc56,od56,.func (PySem.W.fnOf "within" "Printer.within" (defArgs s_Printer_within) (defBody s_Printer_within) (defScope s_Printer_within) .none kV56 dc56 pm56 an56 cd56 ct56),sl56⟩)
    (c56:PySem.W.codeIn K cd56 "Printer.within"=true)
    (k56:PySem.W.keepIn K (.ref f56)=true)
    (a57:PySem.W.findIn K (.ref cZ) "load"=some (some (.ref f57)))
    (i57:PySem.W.isFn K (.ref f57)=true)
    (l57:K.lookup f57=some ⟨oc57,od57,.func (PySem.W.fnOf "load" "Printer.load" (defArgs s_Printer_load) (defBody s_Printer_load) (defScope s_Printer_load) .none kV57 dc57 pm57 an57 cd57 ct57),sl57⟩)
    (c57:PySem.W.codeIn K cd57 "Printer.load"=true)
    (k57:PySem.W.keepIn K (.ref f57)=true)
    (a58:PySem.W.findIn K (.ref cZ) "fill"=some (some (.ref f58)))
    (i58:PySem.W.isFn K (.ref f58)=true)
    (l58:K.lookup f58=some ⟨oc58,od58,.func (PySem.W.fnOf "fill" "Printer.fill" (defArgs s_Printer_fill) (defBody s_Printer_fill) (defScope s_Printer_fill) .none kV58 dc58 pm58 an58 cd58 ct58),sl58⟩)
    (c58:PySem.W.codeIn K cd58 "Printer.fill"=true)
    (k58:PySem.W.keepIn K (.ref f58)=true)
    (a59:PySem.W.findIn K (.ref cZ) "must_be_ready"=some (some (.ref f59)))
    (i59:PySem.W.isFn K (.ref f59)=true)
    (l59:K.lookup f59=some ⟨oc59,od59,.func (PySem.W.fnOf "must_be_ready" "Printer.must_be_ready" (defArgs s_Printer_must_be_ready) (defBody s_Printer_must_be_ready) (defScope s_Printer_must_be_ready) .none kV59 dc59 pm59 an59 cd59 ct59),sl59⟩)
    (c59:PySem.W.codeIn K cd59 "Printer.must_be_ready"=true)
    (k59:PySem.W.keepIn K (.ref f59)=true)
    (a60:PySem.W.findIn K (.ref cZ) "feed"=some (some (.ref f60)))
    (i60:PySem.W.isFn K (.ref f60)=true)
    (l60:K.lookup f60=some ⟨oc60,od60,.func (PySem.W.fnOf "feed" "Printer.feed" (defArgs s_Printer_feed) (defBody s_Printer_feed) (defScope s_Printer_feed) .none kV60 dc60 pm60 an60 cd60 ct60),sl60⟩)
    (c60:PySem.W.codeIn K cd60 "Printer.feed"=true)
    (k60:PySem.W.keepIn K (.ref f60)=true)
    (a61:PySem.W.findIn K (.ref cZ) "push"=some (some (.ref f61)))
    (i61:PySem.W.isFn K (.ref f61)=true)
    (l61:K.lookup f61=some ⟨oc61,od61,.func (PySem.W.fnOf "push" "Printer.push" (defArgs s_Printer_push) (defBody s_Printer_push) (defScope s_Printer_push) .none kV61 dc61 pm61 an61 cd61 ct61),sl61⟩)
    (c61:PySem.W.codeIn K cd61 "Printer.push"=true)
    (k61:PySem.W.keepIn K (.ref f61)=true)
    (a62:PySem.W.findIn K (.ref cZ) "oldest"=some (some (.ref f62)))
    (i62:PySem.W.isFn K (.ref f62)=true)
    (l62:K.lookup f62=some ⟨oc62,od62,.func (PySem.W.fnOf "oldest" "Printer.oldest" (defArgs s_Printer_oldest) (defBody s_Printer_oldest) (defScope s_Printer_oldest) .none kV62 dc62 pm62 an62 cd62 ct62),sl62⟩)
    (c62:PySem.W.codeIn K cd62 "Printer.oldest"=true)
    (k62:PySem.W.keepIn K (.ref f62)=true)
    (a63:PySem.W.findIn K (.ref cZ) "jam"=some (some (.ref f63)))
    (i63:PySem.W.isFn K (.ref f63)=true)
    (l63:K.lookup f63=some ⟨oc63,od63,.func (PySem.W.fnOf "jam" "Printer.jam" (defArgs s_Printer_jam) (defBody s_Printer_jam) (defScope s_Printer_jam) .none kV63 dc63 pm63 an63 cd63 ct63),sl63⟩)
    (c63:PySem.W.codeIn K cd63 "Printer.jam"=true)
    (k63:PySem.W.keepIn K (.ref f63)=true)
    (a64:PySem.W.findIn K (.ref cZ) "leave"=some (some (.ref f64)))
    (i64:PySem.W.isFn K (.ref f64)=true)
    (l64:K.lookup f64=some ⟨oc64,od64,.func (PySem.W.fnOf "leave" "Printer.leave" (defArgs s_Printer_leave) (defBody s_Printer_leave) (defScope s_Printer_leave) .none kV64 dc64 pm64 an64 cd64 ct64),sl64⟩)
    (c64:PySem.W.codeIn K cd64 "Printer.leave"=true)
    (k64:PySem.W.keepIn K (.ref f64)=true)
    (a65:PySem.W.nsIn K mainGlobals "_law_cell_at"=some (some (.ref f65)))
    (l65:K.lookup f65=some ⟨oc65,od65,.func (PySem.W.fnOf "_law_cell_at" "_law_cell_at" (defArgs s__law_cell_at) (defBody s__law_cell_at) (defScope s__law_cell_at) .none kV65 dc65 pm65 an65 cd65 ct65),sl65⟩)
    (c65:PySem.W.codeIn K cd65 "_law_cell_at"=true)
    (k65:PySem.W.keepIn K (.ref f65)=true)
    (a66:PySem.W.nsIn K mainGlobals "_law_mix"=some (some (.ref f66)))
    (l66:K.lookup f66=some ⟨oc66,od66,.func (PySem.W.fnOf "_law_mix" "_law_mix" (defArgs s__law_mix) (defBody s__law_mix) (defScope s__law_mix) .none kV66 dc66 pm66 an66 cd66 ct66),sl66⟩)
    (c66:PySem.W.codeIn K cd66 "_law_mix"=true)
    (k66:PySem.W.keepIn K (.ref f66)=true)
    (a67:PySem.W.nsIn K mainGlobals "_law_word"=some (some (.ref f67)))
    (l67:K.lookup f67=some ⟨oc67,od67,.func (PySem.W.fnOf "_law_word" "_law_word" (defArgs s__law_word) (defBody s__law_word) (defScope s__law_word) .none kV67 dc67 pm67 an67 cd67 ct67),sl67⟩)
    (c67:PySem.W.codeIn K cd67 "_law_word"=true)
    (k67:PySem.W.keepIn K (.ref f67)=true)
    (a68:PySem.W.nsIn K mainGlobals "_law_each"=some (some (.ref f68)))
    (l68:K.lookup f68=some ⟨oc68,od68,.func (PySem.W.fnOf "_law_each" "_law_each" (defArgs s__law_each) (defBody s__law_each) (defScope s__law_each) .none kV68 dc68 pm68 an68 cd68 ct68),sl68⟩)
    (c68:PySem.W.codeIn K cd68 "_law_each"=true)
    (k68:PySem.W.keepIn K (.ref f68)=true)
    (a69:PySem.W.nsIn K mainGlobals "_law_is"=some (some (.ref f69)))
    (l69:K.lookup f69=some ⟨oc69,od69,.func (PySem.W.fnOf "_law_is" "_law_is" (defArgs s__law_is) (defBody s__law_is) (defScope s__law_is) .none kV69 dc69 pm69 an69 cd69 ct69),sl69⟩)
    (c69:PySem.W.codeIn K cd69 "_law_is"=true)
    (k69:PySem.W.keepIn K (.ref f69)=true)
    (a70:PySem.W.nsIn K mainGlobals "_law_tags"=some (some (.ref f70)))
    (l70:K.lookup f70=some ⟨oc70,od70,.func (PySem.W.fnOf "_law_tags" "_law_tags" (defArgs s__law_tags) (defBody s__law_tags) (defScope s__law_tags) .none kV70 dc70 pm70 an70 cd70 ct70),sl70⟩)
    (c70:PySem.W.codeIn K cd70 "_law_tags"=true)
    (k70:PySem.W.keepIn K (.ref f70)=true)
    (a71:PySem.W.nsIn K mainGlobals "_law_printer"=some (some (.ref f71)))
    (l71:K.lookup f71=some ⟨oc71,od71,.func (PySem.W.fnOf "_law_printer" "_law_printer" (defArgs s__law_printer) (defBody s__law_printer) (defScope s__law_printer) .none kV71 dc71 pm71 an71 cd71 ct71),sl71⟩)
    (c71:PySem.W.codeIn K cd71 "_law_printer"=true)
    (k71:PySem.W.keepIn K (.ref f71)=true)
    (a72:PySem.W.nsIn K mainGlobals "_law_way"=some (some (.ref f72)))
    (l72:K.lookup f72=some ⟨oc72,od72,.func (PySem.W.fnOf "_law_way" "_law_way" (defArgs s__law_way) (defBody s__law_way) (defScope s__law_way) .none kV72 dc72 pm72 an72 cd72 ct72),sl72⟩)
    (c72:PySem.W.codeIn K cd72 "_law_way"=true)
    (k72:PySem.W.keepIn K (.ref f72)=true)
    (a73:PySem.W.nsIn K mainGlobals "_law_called"=some (some (.ref f73)))
    (l73:K.lookup f73=some ⟨oc73,od73,.func (PySem.W.fnOf "_law_called" "_law_called" (defArgs s__law_called) (defBody s__law_called) (defScope s__law_called) .none kV73 dc73 pm73 an73 cd73 ct73),sl73⟩)
    (c73:PySem.W.codeIn K cd73 "_law_called"=true)
    (k73:PySem.W.keepIn K (.ref f73)=true)
    (a74:PySem.W.nsIn K mainGlobals "_law_over"=some (some (.ref f74)))
    (l74:K.lookup f74=some ⟨oc74,od74,.func (PySem.W.fnOf "_law_over" "_law_over" (defArgs s__law_over) (defBody s__law_over) (defScope s__law_over) .none kV74 dc74 pm74 an74 cd74 ct74),sl74⟩)
    (c74:PySem.W.codeIn K cd74 "_law_over"=true)
    (k74:PySem.W.keepIn K (.ref f74)=true)
    (a75:PySem.W.nsIn K mainGlobals "_law_stands"=some (some (.ref f75)))
    (l75:K.lookup f75=some ⟨oc75,od75,.func (PySem.W.fnOf "_law_stands" "_law_stands" (defArgs s__law_stands) (defBody s__law_stands) (defScope s__law_stands) .none kV75 dc75 pm75 an75 cd75 ct75),sl75⟩)
    (c75:PySem.W.codeIn K cd75 "_law_stands"=true)
    (k75:PySem.W.keepIn K (.ref f75)=true)
    (a76:PySem.W.nsIn K mainGlobals "law"=some (some (.ref f76)))
    (l76:K.lookup f76=some ⟨oc76,od76,.func (PySem.W.fnOf "law" "law" (defArgs s_law) (defBody s_law) (defScope s_law) .none kV76 dc76 pm76 an76 cd76 ct76),sl76⟩)
    (c76:PySem.W.codeIn K cd76 "law"=true)
    (k76:PySem.W.keepIn K (.ref f76)=true)
    (qat:PySem.W.plainGet K yQ Str.empty=true)
    (qau:PySem.W.hasDictIn K yQ=true)
    (qav:PySem.W.plainOver K yQ=true)
    (qaw:PySem.W.findIn K (.ref yQ) "__setattr__"=some (some (.builtin "object.__setattr__")))
    (qax:PySem.W.makesIn K yQ=true)
    (qay:PySem.W.keepIn K (.ref yQ)=true)
    (qaz:PySem.W.findIn K (.ref yQ) "cells"=some none)
    (qaA:PySem.W.findIn K (.ref yQ) "backs"=some none)
    (qaB:PySem.W.plainGet K yZ Str.empty=true)
    (qaC:PySem.W.hasDictIn K yZ=true)
    (qaD:PySem.W.plainOver K yZ=true)
    (qaE:PySem.W.findIn K (.ref yZ) "__setattr__"=some (some (.builtin "object.__setattr__")))
    (qaF:PySem.W.makesIn K yZ=true)
    (qaG:PySem.W.keepIn K (.ref yZ)=true)
    (qaH:PySem.W.findIn K (.ref yZ) "cells"=some none)
    (qaI:PySem.W.findIn K (.ref yZ) "backs"=some none)
    (qaJ:PySem.W.plainGet K yX Str.empty=true)
    (qaK:PySem.W.hasDictIn K yX=true)
    (qaL:PySem.W.plainOver K yX=true)
    (qaM:PySem.W.findIn K (.ref yX) "__setattr__"=some (some (.builtin "object.__setattr__")))
    (qaN:PySem.W.makesIn K yX=true)
    (qaO:PySem.W.keepIn K (.ref yX)=true)
    (qaP:PySem.W.findIn K (.ref yX) "cells"=some none)
    (qaQ:PySem.W.findIn K (.ref yX) "backs"=some none)
    (qaR:PySem.W.plainGet K yY Str.empty=true)
    (qaS:PySem.W.hasDictIn K yY=true)
    (qaT:PySem.W.plainOver K yY=true)
    (qaU:PySem.W.findIn K (.ref yY) "__setattr__"=some (some (.builtin "object.__setattr__")))
    (qaV:PySem.W.makesIn K yY=true)
    (qaW:PySem.W.keepIn K (.ref yY)=true)
    (qaX:PySem.W.findIn K (.ref yY) "cells"=some none)
    (qaY:PySem.W.findIn K (.ref yY) "backs"=some none)
    (qaZ:PySem.W.plainGet K yV Str.empty=true)
    (qa0:PySem.W.hasDictIn K yV=true)
    (qa1:PySem.W.plainOver K yV=true)
    (qa2:PySem.W.findIn K (.ref yV) "__setattr__"=some (some (.builtin "object.__setattr__")))
    (qa3:PySem.W.makesIn K yV=true)
    (qa4:PySem.W.keepIn K (.ref yV)=true)
    (qa5:PySem.W.findIn K (.ref yV) "word"=some none)
    (qa6:PySem.W.plainGet K yJ Str.empty=true)
    (qa7:PySem.W.hasDictIn K yJ=true)
    (qa8:PySem.W.plainOver K yJ=true)
    (qa9:PySem.W.findIn K (.ref yJ) "__setattr__"=some (some (.builtin "object.__setattr__")))
    (qba:PySem.W.makesIn K yJ=true)
    (qbb:PySem.W.keepIn K (.ref yJ)=true)
    (qbc:PySem.W.findIn K (.ref yJ) "word"=some none)
    (qbd:PySem.W.plainGet K yW Str.empty=true)
    (qbe:PySem.W.hasDictIn K yW=true)
    (qbf:PySem.W.plainOver K yW=true)
    (qbg:PySem.W.findIn K (.ref yW) "__setattr__"=some (some (.builtin "object.__setattr__")))
    (qbh:PySem.W.makesIn K yW=true)
    (qbi:PySem.W.keepIn K (.ref yW)=true)
    (qbj:PySem.W.findIn K (.ref yW) "word"=some none)
    (qbk:PySem.W.plainGet K yU Str.empty=true)
    (qbl:PySem.W.hasDictIn K yU=true)
    (qbm:PySem.W.plainOver K yU=true)
    (qbn:PySem.W.findIn K (.ref yU) "__setattr__"=some (some (.builtin "object.__setattr__")))
    (qbo:PySem.W.makesIn K yU=true)
    (qbp:PySem.W.keepIn K (.ref yU)=true)
    (qbq:PySem.W.findIn K (.ref yU) "word"=some none)
    (qbr:PySem.W.findIn K (.ref yU) "jammed"=some none)
    (qbs:PySem.W.plainGet K yK Str.empty=true)
    (qbt:PySem.W.hasDictIn K yK=true)
    (qbu:PySem.W.plainOver K yK=true)
    (qbv:PySem.W.findIn K (.ref yK) "__setattr__"=some (some (.builtin "object.__setattr__")))
    (qbw:PySem.W.makesIn K yK=true)
    (qbx:PySem.W.keepIn K (.ref yK)=true)
    (qby:PySem.W.findIn K (.ref yK) "job"=some none)
    (qbz:PySem.W.findIn K (.ref yK) "inks"=some none)
    (qbA:PySem.W.findIn K (.ref yK) "passed"=some none)
    (qbB:PySem.W.findIn K (.ref yK) "printer"=some none)
    (qbC:PySem.W.findIn K (.ref yK) "slipped"=some none)
    (qbD:PySem.W.findIn K (.ref yK) "broken"=some none)
    (qbE:PySem.W.plainGet K yG Str.empty=true)
    (qbF:PySem.W.hasDictIn K yG=true)
    (qbG:PySem.W.plainOver K yG=true)
    (qbH:PySem.W.findIn K (.ref yG) "__setattr__"=some (some (.builtin "object.__setattr__")))
    (qbI:PySem.W.makesIn K yG=true)
    (qbJ:PySem.W.keepIn K (.ref yG)=true)
    (qbK:PySem.W.findIn K (.ref yG) "name"=some none)
    (qbL:PySem.W.findIn K (.ref yG) "asker"=some none)
    (qbM:PySem.W.findIn K (.ref yG) "pages"=some none)
    (qbN:PySem.W.findIn K (.ref yG) "copies"=some none)
    (qbO:PySem.W.findIn K (.ref yG) "layout"=some none)
    (qbP:PySem.W.findIn K (.ref yG) "paper"=some none)
    (qbQ:PySem.W.findIn K (.ref yG) "cover"=some none)
    (qbR:PySem.W.findIn K (.ref yG) "colour"=some none)
    (qbS:PySem.W.findIn K (.ref yG) "staple"=some none)
    (qbT:PySem.W.findIn K (.ref yG) "after"=some none)
    (qbU:PySem.W.plainGet K cQ Str.empty=true)
    (qbV:PySem.W.hasDictIn K cQ=true)
    (qbW:PySem.W.plainOver K cQ=true)
    (qbX:PySem.W.findIn K (.ref cQ) "__setattr__"=some (some (.builtin "object.__setattr__")))
    (qbY:PySem.W.makesIn K cQ=true)
    (qbZ:PySem.W.keepIn K (.ref cQ)=true)
    (qb0:PySem.W.findIn K (.ref cQ) "rooms"=some none)
    (qb1:PySem.W.findIn K (.ref cQ) "amounts"=some none)
    (qb2:PySem.W.plainGet K cZ Str.empty=true)
    (qb3:PySem.W.hasDictIn K cZ=true)
    (qb4:PySem.W.plainOver K cZ=true)
    (qb5:PySem.W.findIn K (.ref cZ) "__setattr__"=some (some (.builtin "object.__setattr__")))
    (qb6:PySem.W.makesIn K cZ=true)
    (qb7:PySem.W.keepIn K (.ref cZ)=true)
    (qb8:PySem.W.findIn K (.ref cZ) "name"=some none)
    (qb9:PySem.W.findIn K (.ref cZ) "can"=some none)
    (qca:PySem.W.findIn K (.ref cZ) "path"=some none)
    (qcb:PySem.W.findIn K (.ref cZ) "rooms"=some none)
    (qcc:PySem.W.findIn K (.ref cZ) "trays"=some none)
    (qcd:PySem.W.findIn K (.ref cZ) "inks"=some none)
    (qce:PySem.W.findIn K (.ref cZ) "state"=some none)
    (qcf:PySem.W.findIn K (.ref cZ) "inside"=some none)
    (qcg:xcls K cV ["name"]=true)
    (qch:PySem.W.excMk K cV=true)
    (qci:PySem.W.keepIn K (.ref cV)=true)
    (qcj:xcls K cK ["found"]=true)
    (qck:PySem.W.excMk K cK=true)
    (qcl:PySem.W.keepIn K (.ref cK)=true)
    (qcm:xcls K cG ["name"]=true)
    (qcn:PySem.W.excMk K cG=true)
    (qco:PySem.W.keepIn K (.ref cG)=true)
    (qcp:xcls K vQ ["name"]=true)
    (qcq:PySem.W.excMk K vQ=true)
    (qcr:PySem.W.keepIn K (.ref vQ)=true)
    (qcs:xcls K vZ ["job"]=true)
    (qct:PySem.W.excMk K vZ=true)
    (qcu:PySem.W.keepIn K (.ref vZ)=true)
    (qcv:xcls K vX ["job"]=true)
    (qcw:PySem.W.excMk K vX=true)
    (qcx:PySem.W.keepIn K (.ref vX)=true)
    (qcy:PySem.W.findIn K (.ref yZ) "per_sheet"=some (some (.ref f8)))
    (qcz:PySem.W.findIn K (.ref yX) "per_sheet"=some (some (.ref f8)))
    (qcA:PySem.W.findIn K (.ref yY) "per_sheet"=some (some (.ref f8)))
    (qcB:PySem.W.findIn K (.ref yZ) "sheet_from"=some (some (.ref f10)))
    (qcC:PySem.W.findIn K (.ref yX) "sheet_from"=some (some (.ref f10)))
    (qcD:PySem.W.findIn K (.ref yY) "sheet_from"=some (some (.ref f10)))
    (qcE:PySem.W.findIn K (.ref yZ) "laid"=some (some (.ref f9)))
    (qcF:PySem.W.findIn K (.ref yX) "laid"=some (some (.ref f9)))
    (qcG:PySem.W.findIn K (.ref yY) "laid"=some (some (.ref f9)))
    (qcH:PySem.W.findIn K (.ref yK) "each"=some (some (.ref f27)))
    (qcI:PySem.W.findIn K (.ref yK) "total"=some (some (.ref f28)))
    (qcJ:PySem.W.findIn K (.ref cZ) "within"=some (some (.ref f56)))
    (qcK:PySem.W.findIn K (.ref yK) "must_go_on"=some (some (.ref f38)))
    (qcL:PySem.W.findIn K (.ref cZ) "stands"=some (some (.ref f54)))
    (qcM:PySem.W.findIn K (.ref yK) "emptied"=some (some (.ref f42)))
    (qcN:PySem.W.findIn K (.ref yK) "whole"=some (some (.ref f31)))
    (qcO:PySem.W.findIn K (.ref yK) "must_be_placed"=some (some (.ref f39)))
    (qcP:PySem.W.findIn K (.ref yK) "upcoming"=some (some (.ref f33)))
    (qcQ:PySem.W.findIn K (.ref cZ) "push"=some (some (.ref f61)))
    (qcR:PySem.W.findIn K (.ref yK) "fed"=some (some (.ref f41)))
    (qcS:PySem.W.findIn K (.ref yK) "note_out"=some (some (.ref f43)))
    (qcT:PySem.W.findIn K (.ref cZ) "jam"=some (some (.ref f63)))
    (qcU:PySem.W.findIn K (.ref yK) "used_by"=some (some (.ref f40)))
    (qcV:PySem.W.findIn K (.ref cZ) "feed"=some (some (.ref f60)))
    (qcW:PySem.W.findIn K (.ref cQ) "know"=some (some (.ref f48)))
    (qcX:PySem.W.findIn K (.ref cQ) "put_all"=some (some (.ref f51)))
    (qcY:PySem.W.findIn K (.ref cQ) "know_all"=some (some (.ref f49)))
    (qcZ:PySem.W.findIn K (.ref yJ) "called"=some (some (.ref f20)))
    (qc0:PySem.W.findIn K (.ref yW) "called"=some (some (.ref f20)))
    (qc1:PySem.W.findIn K (.ref yU) "called"=some (some (.ref f20)))
    (qc2:PySem.W.findIn K (.ref cQ) "held"=some (some (.ref f46)))
    (qc3:PySem.W.findIn K (.ref cQ) "put"=some (some (.ref f50)))
    (qc4:PySem.W.findIn K (.ref cZ) "must_be_ready"=some (some (.ref f59)))
    (qc5:PySem.W.findIn K (.ref cZ) "paper_left"=some (some (.ref f55)))
    (qc6:PySem.W.findIn K (.ref cQ) "draw_all"=some (some (.ref f52)))
    (qc7:PySem.W.findIn K (.ref cZ) "oldest"=some (some (.ref f62)))
    (qc8:PySem.W.findIn K (.ref yJ) "jam"=some (some (.ref f22)))
    (qc9:PySem.W.findIn K (.ref yJ) "leave"=some (some (.ref f23)))
    (qda:PySem.W.findIn K (.ref cZ) "load"=some (some (.ref f57)))
    (qdb:PySem.W.findIn K (.ref cZ) "fill"=some (some (.ref f58)))
    (qdc:PySem.W.findIn K (.ref yK) "take"=some (some (.ref f34)))
    (qdd:PySem.W.findIn K (.ref yK) "step"=some (some (.ref f36)))
    (qde:PySem.W.findIn K (.ref yK) "jam"=some (some (.ref f37)))
    (qdf:PySem.W.findIn K (.ref cZ) "leave"=some (some (.ref f64)))
    (qdg:PySem.W.findIn K (.ref yK) "drop"=some (some (.ref f35)))
    (qdh:PySem.W.findIn K (.ref yK) "at"=some (some (.ref f30)))
    (qdi:PySem.W.findIn K (.ref yK) "out"=some (some (.ref f29)))
    (qdj:PySem.W.findIn K (.ref yK) "lack"=some (some (.ref f32)))
    (qdk:PySem.W.specialIn K (.ref yQ) "__getattribute__"=some (some (.builtin "type.__getattribute__")))
    (qdl:PySem.W.readsIn K yQ (.type "type")=true)
    (qdm:PySem.W.findCls K (.ref yQ) (.type "type") "__init__"=some (.val (.ref f7)))
    (qdn:PySem.W.specialIn K (.ref yV) "__getattribute__"=some (some (.builtin "type.__getattribute__")))
    (qdo:PySem.W.readsIn K yV (.type "type")=true)
    (qdp:PySem.W.findCls K (.ref yV) (.type "type") "__init__"=some (.val (.ref f19)))
    (qdq:PySem.W.mroHas K vZ (.ref vZ)=true)
    (xcn:PySem.W.specialIn K (.builtin "object.__class__") "__get__"=some (some (.builtin "getset_descriptor.__get__")))
    (xct:PySem.W.takesIn K (.builtin "object.__class__")=some true)
    (xb1:PySem.W.specialIn K (.ref vY) "__getattribute__"=some (some (.builtin "type.__getattribute__")))
    (xb2:PySem.W.readsIn K vY (.type "type")=true)
    (xb3:PySem.W.findCls K (.ref vY) (.type "type") "__init__"=some (.val (.builtin "ValueError.__init__")))
    (xkt:kitTab K [cV,cK,cG,vQ,vZ,vX] vY=true)
    {xSLIP:Int} {tSLIP:Tok}
    (qdr:PySem.W.nsIn K mainGlobals "SLIP"=some (some (.int xSLIP tSLIP)))
    (qds:xSLIP=-1)
    {xUP:Str} {tUP:Tok}
    (gUP:PySem.W.nsIn K mainGlobals "UP"=some (some (.str xUP tUP)))
    (eUP:xUP=Str.ofString "up:")
    {xNOTHING:Int} {tNOTHING:Tok}
    (qdt:PySem.W.nsIn K mainGlobals "NOTHING"=some (some (.int xNOTHING tNOTHING)))
    (qdu:xNOTHING=0)
    {xFIRST_PAGE:Int} {tFIRST_PAGE:Tok}
    (qdv:PySem.W.nsIn K mainGlobals "FIRST_PAGE"=some (some (.int xFIRST_PAGE tFIRST_PAGE)))
    (qdw:xFIRST_PAGE=1)
    {xCOVER_SHEET:Int} {tCOVER_SHEET:Tok}
    (qdx:PySem.W.nsIn K mainGlobals "COVER_SHEET"=some (some (.int xCOVER_SHEET tCOVER_SHEET)))
    (qdy:xCOVER_SHEET=0)
    {xREADY:Str} {tREADY:Tok}
    (qdz:PySem.W.nsIn K mainGlobals "READY"=some (some (.str xREADY tREADY)))
    (qdA:xREADY=Str.ofString "ready")
    {xJAMMED:Str} {tJAMMED:Tok}
    (qdB:PySem.W.nsIn K mainGlobals "JAMMED"=some (some (.str xJAMMED tJAMMED)))
    (qdC:xJAMMED=Str.ofString "jammed")
    {xOFF:Str} {tOFF:Tok}
    (qdD:PySem.W.nsIn K mainGlobals "OFF"=some (some (.str xOFF tOFF)))
    (qdE:xOFF=Str.ofString "off")
    {xBLACK:Str} {tBLACK:Tok}
    (qdF:PySem.W.nsIn K mainGlobals "BLACK"=some (some (.str xBLACK tBLACK)))
    (qdG:xBLACK=Str.ofString "black")
    {xCOLOUR:Str} {tCOLOUR:Tok}
    (qdH:PySem.W.nsIn K mainGlobals "COLOUR"=some (some (.str xCOLOUR tCOLOUR)))
    (qdI:xCOLOUR=Str.ofString "colour")
    {xWITHIN:Str} {tWITHIN:Tok}
    (qdJ:PySem.W.nsIn K mainGlobals "WITHIN"=some (some (.str xWITHIN tWITHIN)))
    (qdK:xWITHIN=Str.ofString "within")
    (qdL:PySem.W.nsIn K mainGlobals "len"=some none)
    (qdM:PySem.W.nsIn K mainGlobals "range"=some none)
    (qdN:PySem.W.nsIn K mainGlobals "str"=some none)
    (qdO:PySem.W.nsIn K mainGlobals "int"=some none)
    (qdP:PySem.W.nsIn K mainGlobals "bool"=some none)
    (qdQ:PySem.W.nsIn K mainGlobals "tuple"=some none)
    (qdR:PySem.W.nsIn K mainGlobals "list"=some none)
    (qdS:PySem.W.nsIn K mainGlobals "isinstance"=some none)
    (qdT:PySem.W.nsIn K mainGlobals "min"=some none)
    (qdU:PySem.W.nsIn K mainGlobals "dict"=some none)
    (qdV:PySem.W.nsIn K mainGlobals "ValueError"=some none)
    : ∃ fd:FuncData,(∀ (s:Shared) (v:Value),BindsTo s fd ⟨[v],[]⟩ [("_law_script",v)])∧∀ base:Heap,K.In base→base.Ns mainGlobals mg→FnOk l.prog w K mg base CX0 11 fa fd ["_law_script"] (sp_law K):=by
  have e:=hfa.symm.trans (PySem.W.mg_of X G a76)
  cases e
  have F0:=fun_mk (st:=s_Unknown_init) l0 c0 k0
  have F1:=fun_mk (st:=s_NotNow_init) l1 c1 k1
  have F2:=fun_mk (st:=s_TooMuch_init) l2 c2 k2
  have F3:=fun_mk (st:=s_Dry_init) l3 c3 k3
  have F4:=fun_mk (st:=s_Over_init) l4 c4 k4
  have F5:=fun_mk (st:=s_Nowhere_init) l5 c5 k5
  have F6:=fun_mk (st:=s_cells_from) l6 c6 k6
  have F7:=fun_mk (st:=s_Layout_init) l7 c7 k7
  have F8:=fun_mk (st:=s_Layout_per_sheet) l8 c8 k8
  have F9:=fun_mk (st:=s_Layout_laid) l9 c9 k9
  have F10:=fun_mk (st:=s_Layout_sheet_from) l10 c10 k10
  have F11:=fun_mk (st:=s_One_init) l11 c11 k11
  have F12:=fun_mk (st:=s_Both_init) l12 c12 k12
  have F13:=fun_mk (st:=s_Several_init) l13 c13 k13
  have F14:=fun_mk (st:=s_layout_of) l14 c14 k14
  have F15:=fun_mk (st:=s_sheets_of) l15 c15 k15
  have F16:=fun_mk (st:=s_paper_of) l16 c16 k16
  have F17:=fun_mk (st:=s_ink_of) l17 c17 k17
  have F18:=fun_mk (st:=s_is_coloured) l18 c18 k18
  have F19:=fun_mk (st:=s_State_init) l19 c19 k19
  have F20:=fun_mk (st:=s_State_called) l20 c20 k20
  have F21:=fun_mk (st:=s_Ready_init) l21 c21 k21
  have F22:=fun_mk (st:=s_Ready_jam) l22 c22 k22
  have F23:=fun_mk (st:=s_Ready_leave) l23 c23 k23
  have F24:=fun_mk (st:=s_Jammed_init) l24 c24 k24
  have F25:=fun_mk (st:=s_Away_init) l25 c25 k25
  have F26:=fun_mk (st:=s_Run_init) l26 c26 k26
  have F27:=fun_mk (st:=s_Run_each) l27 c27 k27
  have F28:=fun_mk (st:=s_Run_total) l28 c28 k28
  have F29:=fun_mk (st:=s_Run_out) l29 c29 k29
  have F30:=fun_mk (st:=s_Run_at) l30 c30 k30
  have F31:=fun_mk (st:=s_Run_whole) l31 c31 k31
  have F32:=fun_mk (st:=s_Run_lack) l32 c32 k32
  have F33:=fun_mk (st:=s_Run_upcoming) l33 c33 k33
  have F34:=fun_mk (st:=s_Run_take) l34 c34 k34
  have F35:=fun_mk (st:=s_Run_drop) l35 c35 k35
  have F36:=fun_mk (st:=s_Run_step) l36 c36 k36
  have F37:=fun_mk (st:=s_Run_jam) l37 c37 k37
  have F38:=fun_mk (st:=s_Run_must_go_on) l38 c38 k38
  have F39:=fun_mk (st:=s_Run_must_be_placed) l39 c39 k39
  have F40:=fun_mk (st:=s_Run_used_by) l40 c40 k40
  have F41:=fun_mk (st:=s_Run_fed) l41 c41 k41
  have F42:=fun_mk (st:=s_Run_emptied) l42 c42 k42
  have F43:=fun_mk (st:=s_Run_note_out) l43 c43 k43
  have F44:=fun_mk (st:=s_Job_init) l44 c44 k44
  have F45:=fun_mk (st:=s_Stock_init) l45 c45 k45
  have F46:=fun_mk (st:=s_Stock_held) l46 c46 k46
  have F47:=fun_mk (st:=s_Stock_room) l47 c47 k47
  have F48:=fun_mk (st:=s_Stock_know) l48 c48 k48
  have F49:=fun_mk (st:=s_Stock_know_all) l49 c49 k49
  have F50:=fun_mk (st:=s_Stock_put) l50 c50 k50
  have F51:=fun_mk (st:=s_Stock_put_all) l51 c51 k51
  have F52:=fun_mk (st:=s_Stock_draw_all) l52 c52 k52
  have F53:=fun_mk (st:=s_Printer_init) l53 c53 k53
  have F54:=fun_mk (st:=s_Printer_stands) l54 c54 k54
  have F55:=fun_mk (st:=s_Printer_paper_left) l55 c55 k55
  have F56:=fun_mk (st:=s_Printer_within) l56 c56 k56
  have F57:=fun_mk (st:=s_Printer_load) l57 c57 k57
  have F58:=fun_mk (st:=s_Printer_fill) l58 c58 k58
  have F59:=fun_mk (st:=s_Printer_must_be_ready) l59 c59 k59
  have F60:=fun_mk (st:=s_Printer_feed) l60 c60 k60
  have F61:=fun_mk (st:=s_Printer_push) l61 c61 k61
  have F62:=fun_mk (st:=s_Printer_oldest) l62 c62 k62
  have F63:=fun_mk (st:=s_Printer_jam) l63 c63 k63
  have F64:=fun_mk (st:=s_Printer_leave) l64 c64 k64
  have F65:=fun_mk (st:=s__law_cell_at) l65 c65 k65
  have F66:=fun_mk (st:=s__law_mix) l66 c66 k66
  have F67:=fun_mk (st:=s__law_word) l67 c67 k67
  have F68:=fun_mk (st:=s__law_each) l68 c68 k68
  have F69:=fun_mk (st:=s__law_is) l69 c69 k69
  have F70:=fun_mk (st:=s__law_tags) l70 c70 k70
  have F71:=fun_mk (st:=s__law_printer) l71 c71 k71
  have F72:=fun_mk (st:=s__law_way) l72 c72 k72
  have F73:=fun_mk (st:=s__law_called) l73 c73 k73
  have F74:=fun_mk (st:=s__law_over) l74 c74 k74
  have F75:=fun_mk (st:=s__law_stands) l75 c75 k75
  have F76:=fun_mk (st:=s_law) l76 c76 k76
  have b0:=F0.binds (ps:=["self","name"]) fun _ _ _ _ _ _=>bn2 fun _ _=>rfl
  have b1:=F1.binds (ps:=["self","found"]) fun _ _ _ _ _ _=>bn2 fun _ _=>rfl
  have b2:=F2.binds (ps:=["self","name"]) fun _ _ _ _ _ _=>bn2 fun _ _=>rfl
  have b3:=F3.binds (ps:=["self","name"]) fun _ _ _ _ _ _=>bn2 fun _ _=>rfl
  have b4:=F4.binds (ps:=["self","job"]) fun _ _ _ _ _ _=>bn2 fun _ _=>rfl
  have b5:=F5.binds (ps:=["self","job"]) fun _ _ _ _ _ _=>bn2 fun _ _=>rfl
  have b6:=F6.binds (ps:=["first","many","pages"]) fun _ _ _ _ _ _=>bn3 fun _ _ _=>rfl
  have b7:=F7.binds (ps:=["self","cells","backs"]) fun _ _ _ _ _ _=>bn3 fun _ _ _=>rfl
  have b8:=F8.binds (ps:=["self"]) fun _ _ _ _ _ _=>bn1 fun _=>rfl
  have b9:=F9.binds (ps:=["self","pages"]) fun _ _ _ _ _ _=>bn2 fun _ _=>rfl
  have b10:=F10.binds (ps:=["self","first","pages"]) fun _ _ _ _ _ _=>bn3 fun _ _ _=>rfl
  have b11:=F11.binds (ps:=["self"]) fun _ _ _ _ _ _=>bn1 fun _=>rfl
  have b12:=F12.binds (ps:=["self"]) fun _ _ _ _ _ _=>bn1 fun _=>rfl
  have b13:=F13.binds (ps:=["self","many"]) fun _ _ _ _ _ _=>bn2 fun _ _=>rfl
  have b14:=F14.binds (ps:=["text"]) fun _ _ _ _ _ _=>bn1 fun _=>rfl
  have b15:=F15.binds (ps:=["job"]) fun _ _ _ _ _ _=>bn1 fun _=>rfl
  have b16:=F16.binds (ps:=["job","sheet"]) fun _ _ _ _ _ _=>bn2 fun _ _=>rfl
  have b17:=F17.binds (ps:=["sheet","colour"]) fun _ _ _ _ _ _=>bn2 fun _ _=>rfl
  have b18:=F18.binds (ps:=["page","colour"]) fun _ _ _ _ _ _=>bn2 fun _ _=>rfl
  have b19:=F19.binds (ps:=["self","word"]) fun _ _ _ _ _ _=>bn2 fun _ _=>rfl
  have b20:=F20.binds (ps:=["self"]) fun _ _ _ _ _ _=>bn1 fun _=>rfl
  have b21:=F21.binds (ps:=["self"]) fun _ _ _ _ _ _=>bn1 fun _=>rfl
  have b22:=F22.binds (ps:=["self"]) fun _ _ _ _ _ _=>bn1 fun _=>rfl
  have b23:=F23.binds (ps:=["self"]) fun _ _ _ _ _ _=>bn1 fun _=>rfl
  have b24:=F24.binds (ps:=["self"]) fun _ _ _ _ _ _=>bn1 fun _=>rfl
  have b25:=F25.binds (ps:=["self","jammed"]) fun _ _ _ _ _ _=>bn2 fun _ _=>rfl
  have b26:=F26.binds (ps:=["self","job"]) fun _ _ _ _ _ _=>bn2 fun _ _=>rfl
  have b27:=F27.binds (ps:=["self"]) fun _ _ _ _ _ _=>bn1 fun _=>rfl
  have b28:=F28.binds (ps:=["self"]) fun _ _ _ _ _ _=>bn1 fun _=>rfl
  have b29:=F29.binds (ps:=["self"]) fun _ _ _ _ _ _=>bn1 fun _=>rfl
  have b30:=F30.binds (ps:=["self"]) fun _ _ _ _ _ _=>bn1 fun _=>rfl
  have b31:=F31.binds (ps:=["self"]) fun _ _ _ _ _ _=>bn1 fun _=>rfl
  have b32:=F32.binds (ps:=["self"]) fun _ _ _ _ _ _=>bn1 fun _=>rfl
  have b33:=F33.binds (ps:=["self"]) fun _ _ _ _ _ _=>bn1 fun _=>rfl
  have b34:=F34.binds (ps:=["self","printer"]) fun _ _ _ _ _ _=>bn2 fun _ _=>rfl
  have b35:=F35.binds (ps:=["self"]) fun _ _ _ _ _ _=>bn1 fun _=>rfl
  have b36:=F36.binds (ps:=["self"]) fun _ _ _ _ _ _=>bn1 fun _=>rfl
  have b37:=F37.binds (ps:=["self","saved"]) fun _ _ _ _ _ _=>bn2 fun _ _=>rfl
  have b38:=F38.binds (ps:=["self"]) fun _ _ _ _ _ _=>bn1 fun _=>rfl
  have b39:=F39.binds (ps:=["self"]) fun _ _ _ _ _ _=>bn1 fun _=>rfl
  have b40:=F40.binds (ps:=["self","tag"]) fun _ _ _ _ _ _=>bn2 fun _ _=>rfl
  have b41:=F41.binds (ps:=["self","tag"]) fun _ _ _ _ _ _=>bn2 fun _ _=>rfl
  have b42:=F42.binds (ps:=["self"]) fun _ _ _ _ _ _=>bn1 fun _=>rfl
  have b43:=F43.binds (ps:=["self","tags"]) fun _ _ _ _ _ _=>bn2 fun _ _=>rfl
  have b44:=F44.binds (ps:=["self","name","asker","pages","copies","layout","paper","cover","colour","staple","after"]) fun _ _ _ _ _ _=>bn11 fun _ _ _ _ _ _ _ _ _ _ _=>rfl
  have b45:=F45.binds (ps:=["self","rooms"]) fun _ _ _ _ _ _=>bn2 fun _ _=>rfl
  have b46:=F46.binds (ps:=["self","name"]) fun _ _ _ _ _ _=>bn2 fun _ _=>rfl
  have b47:=F47.binds (ps:=["self","name"]) fun _ _ _ _ _ _=>bn2 fun _ _=>rfl
  have b48:=F48.binds (ps:=["self","name"]) fun _ _ _ _ _ _=>bn2 fun _ _=>rfl
  have b49:=F49.binds (ps:=["self","rows"]) fun _ _ _ _ _ _=>bn2 fun _ _=>rfl
  have b50:=F50.binds (ps:=["self","name","many"]) fun _ _ _ _ _ _=>bn3 fun _ _ _=>rfl
  have b51:=F51.binds (ps:=["self","gifts"]) fun _ _ _ _ _ _=>bn2 fun _ _=>rfl
  have b52:=F52.binds (ps:=["self","wants"]) fun _ _ _ _ _ _=>bn2 fun _ _=>rfl
  have b53:=F53.binds (ps:=["self","name","can","path","papers","black","colour"]) fun _ _ _ _ _ _=>bn7 fun _ _ _ _ _ _ _=>rfl
  have b54:=F54.binds (ps:=["self"]) fun _ _ _ _ _ _=>bn1 fun _=>rfl
  have b55:=F55.binds (ps:=["self","kind"]) fun _ _ _ _ _ _=>bn2 fun _ _=>rfl
  have b56:=F56.binds (ps:=["self"]) fun _ _ _ _ _ _=>bn1 fun _=>rfl
  have b57:=F57.binds (ps:=["self","kind","many"]) fun _ _ _ _ _ _=>bn3 fun _ _ _=>rfl
  have b58:=F58.binds (ps:=["self","black","coloured"]) fun _ _ _ _ _ _=>bn3 fun _ _ _=>rfl
  have b59:=F59.binds (ps:=["self"]) fun _ _ _ _ _ _=>bn1 fun _=>rfl
  have b60:=F60.binds (ps:=["self","tag","kind","black","coloured"]) fun _ _ _ _ _ _=>bn5 fun _ _ _ _ _=>rfl
  have b61:=F61.binds (ps:=["self"]) fun _ _ _ _ _ _=>bn1 fun _=>rfl
  have b62:=F62.binds (ps:=["self"]) fun _ _ _ _ _ _=>bn1 fun _=>rfl
  have b63:=F63.binds (ps:=["self","saved"]) fun _ _ _ _ _ _=>bn2 fun _ _=>rfl
  have b64:=F64.binds (ps:=["self"]) fun _ _ _ _ _ _=>bn1 fun _=>rfl
  have b65:=F65.binds (ps:=["_law_script","_law_k"]) fun _ _ _ _ _ _=>bn2 fun _ _=>rfl
  have b66:=F66.binds (ps:=["_law_cell","_law_k","_law_many"]) fun _ _ _ _ _ _=>bn3 fun _ _ _=>rfl
  have b67:=F67.binds (ps:=["_law_cell","_law_turn"]) fun _ _ _ _ _ _=>bn2 fun _ _=>rfl
  have b68:=F68.binds (ps:=["_law_pages","_law_layout"]) fun _ _ _ _ _ _=>bn2 fun _ _=>rfl
  have b69:=F69.binds (ps:=["_law_num","_law_due"]) fun _ _ _ _ _ _=>bn2 fun _ _=>rfl
  have b70:=F70.binds (ps:=["_law_told","_law_due"]) fun _ _ _ _ _ _=>bn2 fun _ _=>rfl
  have b71:=F71.binds (ps:=["_law_name","_law_path","_law_kind"]) fun _ _ _ _ _ _=>bn3 fun _ _ _=>rfl
  have b72:=F72.binds (ps:=["_law_script","_law_run","_law_printers","_law_most"]) fun _ _ _ _ _ _=>bn4 fun _ _ _ _=>rfl
  have b73:=F73.binds (ps:=["_law_run","_law_printer_here","_law_k"]) fun _ _ _ _ _ _=>bn3 fun _ _ _=>rfl
  have b74:=F74.binds (ps:=["_law_run","_law_printer_here","_law_name","_law_k"]) fun _ _ _ _ _ _=>bn4 fun _ _ _ _=>rfl
  have b75:=F75.binds (ps:=["_law_run","_law_out","_law_lack"]) fun _ _ _ _ _ _=>bn3 fun _ _ _=>rfl
  have b76:=F76.binds (ps:=["_law_script"]) fun _ _ _ _ _ _=>bn1 fun _=>rfl
  have T:Txt K mg yQ yZ yX yY yV yJ yW yU yK yG cQ cZ cV cK cG vQ vZ vX vY:=⟨PySem.W.mg_none_of X G qdL,PySem.W.mg_none_of X G qdM,PySem.W.mg_none_of X G qdN,PySem.W.mg_none_of X G qdO,PySem.W.mg_none_of X G qdP,PySem.W.mg_none_of X G qdQ,PySem.W.mg_none_of X G qdR,PySem.W.mg_none_of X G qdS,PySem.W.mg_none_of X G qdT,PySem.W.mg_none_of X G qdU,PySem.W.mg_none_of X G qdV,⟨⟨tSLIP,by rw [← qds];exact PySem.W.mg_of X G qdr⟩⟩,⟨⟨tUP,by rw [← eUP];exact PySem.W.mg_of X G gUP⟩⟩,⟨⟨tNOTHING,by rw [← qdu];exact PySem.W.mg_of X G qdt⟩⟩,⟨⟨tFIRST_PAGE,by rw [← qdw];exact PySem.W.mg_of X G qdv⟩⟩,⟨⟨tCOVER_SHEET,by rw [← qdy];exact PySem.W.mg_of X G qdx⟩⟩,⟨⟨tREADY,by rw [← qdA];exact PySem.W.mg_of X G qdz⟩⟩,⟨⟨tJAMMED,by rw [← qdC];exact PySem.W.mg_of X G qdB⟩⟩,⟨⟨tOFF,by rw [← qdE];exact PySem.W.mg_of X G qdD⟩⟩,⟨⟨tBLACK,by rw [← qdG];exact PySem.W.mg_of X G qdF⟩⟩,⟨⟨tCOLOUR,by rw [← qdI];exact PySem.W.mg_of X G qdH⟩⟩,⟨⟨tWITHIN,by rw [← qdK];exact PySem.W.mg_of X G qdJ⟩⟩,⟨qat,qau,qav,qaw⟩,PySem.W.mg_of X G qaa,qaz,qaA,⟨qaB,qaC,qaD,qaE⟩,PySem.W.mg_of X G qab,qaH,qaI,⟨qaJ,qaK,qaL,qaM⟩,PySem.W.mg_of X G qac,qaP,qaQ,⟨qaR,qaS,qaT,qaU⟩,PySem.W.mg_of X G qad,qaX,qaY,⟨qaZ,qa0,qa1,qa2⟩,PySem.W.mg_of X G qae,qa5,⟨qa6,qa7,qa8,qa9⟩,PySem.W.mg_of X G qaf,qbc,⟨qbd,qbe,qbf,qbg⟩,PySem.W.mg_of X G qag,qbj,⟨qbk,qbl,qbm,qbn⟩,PySem.W.mg_of X G qah,qbq,qbr,⟨qbs,qbt,qbu,qbv⟩,PySem.W.mg_of X G qai,qby,qbz,qbA,qbB,qbC,qbD,⟨qbE,qbF,qbG,qbH⟩,PySem.W.mg_of X G qaj,qbK,qbL,qbM,qbN,qbO,qbP,qbQ,qbR,qbS,qbT,⟨qbU,qbV,qbW,qbX⟩,PySem.W.mg_of X G qak,qb0,qb1,⟨qb2,qb3,qb4,qb5⟩,PySem.W.mg_of X G qal,qb8,qb9,qca,qcb,qcc,qcd,qce,qcf,qdq,XCl.of qcg qch xcn xct,PySem.W.mg_of X G qam,XCl.of qcj qck xcn xct,PySem.W.mg_of X G qan,XCl.of qcm qcn xcn xct,PySem.W.mg_of X G qao,XCl.of qcp qcq xcn xct,PySem.W.mg_of X G qap,XCl.of qcs qct xcn xct,PySem.W.mg_of X G qaq,XCl.of qcv qcw xcn xct,PySem.W.mg_of X G qar,⟨xb1,xb2,xb3⟩,PySem.W.mg_of X G qas,xkt⟩
  refine ⟨PySem.W.fnOf "law" "law" (defArgs s_law) (defBody s_law) (defScope s_law) .none kV76 dc76 pm76 an76 cd76 ct76,fun s v=>.of_eq rfl,fun base _ _=>?_⟩
  have D__law_word:Dfn l.prog w K mg base 1 "_law_word" ["_law_cell","_law_turn"] (sp__law_word K):=⟨_,_,ok__law_word F67 T,b67,k67,PySem.W.mg_of X G a67⟩
  have D_is_coloured:Dfn l.prog w K mg base 1 "is_coloured" ["page","colour"] (sp_is_coloured K):=⟨_,_,ok_is_coloured F18 T,b18,k18,PySem.W.mg_of X G a18⟩
  have D_ink_of:Dfn l.prog w K mg base 2 "ink_of" ["sheet","colour"] (sp_ink_of K):=⟨_,_,ok_ink_of F17 T D_is_coloured,b17,k17,PySem.W.mg_of X G a17⟩
  have okk7:FnOk l.prog w K mg base CX0 1 _ _ ["self","cells","backs"] (sp_Layout_init K):=ok_Layout_init F7 T
  have M_Layout:MkD l.prog w K mg base 1 "Layout" yQ ["self","cells","backs"] (sp_Layout_init K):=⟨_,_,⟨qax,a7,i7,qay⟩,okk7,b7,PySem.W.mg_of X G qaa⟩
  have I_Layout:InD l.prog w K mg base 1 "Layout" yQ ["self","cells","backs"] (sp_Layout_init K):=⟨_,_,⟨qdk,qdl,qdm⟩,okk7,b7,k7,PySem.W.mg_of X G qaa⟩
  have okk13:FnOk l.prog w K mg base CX0 2 _ _ ["self","many"] (sp_Several_init yY):=ok_Several_init F13 T I_Layout
  have M_Several:MkD l.prog w K mg base 2 "Several" yY ["self","many"] (sp_Several_init yY):=⟨_,_,⟨qaV,a13,i13,qaW⟩,okk13,b13,PySem.W.mg_of X G qad⟩
  have okk11:FnOk l.prog w K mg base CX0 2 _ _ ["self"] (sp_init0 yZ [("cells",.int 1),("backs",.bl false)]):=ok_One_init F11 T I_Layout
  have M_One:MkD l.prog w K mg base 2 "One" yZ ["self"] (sp_init0 yZ [("cells",.int 1),("backs",.bl false)]):=⟨_,_,⟨qaF,a11,i11,qaG⟩,okk11,b11,PySem.W.mg_of X G qab⟩
  have okk12:FnOk l.prog w K mg base CX0 2 _ _ ["self"] (sp_init0 yX [("cells",.int 1),("backs",.bl true)]):=ok_Both_init F12 T I_Layout
  have M_Both:MkD l.prog w K mg base 2 "Both" yX ["self"] (sp_init0 yX [("cells",.int 1),("backs",.bl true)]):=⟨_,_,⟨qaN,a12,i12,qaO⟩,okk12,b12,PySem.W.mg_of X G qac⟩
  have D_layout_of:Dfn l.prog w K mg base 4 "layout_of" ["text"] (sp_layout_of yZ yX yY):=⟨_,_,ok_layout_of F14 T M_Several M_One M_Both,b14,k14,PySem.W.mg_of X G a14⟩
  have okk8:FnOk l.prog w K mg base CX0 1 _ _ ["self"] (sp_per yZ yX yY):=ok_Layout_per_sheet F8 T
  have D_cells_from:Dfn l.prog w K mg base 1 "cells_from" ["first","many","pages"] (sp_cells_from K):=⟨_,_,ok_cells_from F6 T,b6,k6,PySem.W.mg_of X G a6⟩
  have okk10:FnOk l.prog w K mg base CX0 2 _ _ ["self","first","pages"] (sp_sheet_from yZ yX yY):=ok_Layout_sheet_from F10 T D_cells_from
  have D_One_per_sheet:MtE l.prog w K mg base 1 "per_sheet" yZ ["self"] (sp_per yZ yX yY):=⟨_,_,⟨qcy,i8,k8⟩,okk8.lift,b8⟩
  have D_Both_per_sheet:MtE l.prog w K mg base 1 "per_sheet" yX ["self"] (sp_per yZ yX yY):=⟨_,_,⟨qcz,i8,k8⟩,okk8.lift,b8⟩
  have D_Several_per_sheet:MtE l.prog w K mg base 1 "per_sheet" yY ["self"] (sp_per yZ yX yY):=⟨_,_,⟨qcA,i8,k8⟩,okk8.lift,b8⟩
  have D_One_sheet_from:MtE l.prog w K mg base 2 "sheet_from" yZ ["self","first","pages"] (sp_sheet_from yZ yX yY):=⟨_,_,⟨qcB,i10,k10⟩,okk10.lift,b10⟩
  have D_Both_sheet_from:MtE l.prog w K mg base 2 "sheet_from" yX ["self","first","pages"] (sp_sheet_from yZ yX yY):=⟨_,_,⟨qcC,i10,k10⟩,okk10.lift,b10⟩
  have D_Several_sheet_from:MtE l.prog w K mg base 2 "sheet_from" yY ["self","first","pages"] (sp_sheet_from yZ yX yY):=⟨_,_,⟨qcD,i10,k10⟩,okk10.lift,b10⟩
  have okk9:FnOk l.prog w K mg base CX0 3 _ _ ["self","pages"] (sp_laid yZ yX yY):=ok_Layout_laid F9 T D_One_per_sheet D_Both_per_sheet D_Several_per_sheet D_One_sheet_from D_Both_sheet_from D_Several_sheet_from
  have D_One_laid:MtE l.prog w K mg base 3 "laid" yZ ["self","pages"] (sp_laid yZ yX yY):=⟨_,_,⟨qcE,i9,k9⟩,okk9.lift,b9⟩
  have D_Both_laid:MtE l.prog w K mg base 3 "laid" yX ["self","pages"] (sp_laid yZ yX yY):=⟨_,_,⟨qcF,i9,k9⟩,okk9.lift,b9⟩
  have D_Several_laid:MtE l.prog w K mg base 3 "laid" yY ["self","pages"] (sp_laid yZ yX yY):=⟨_,_,⟨qcG,i9,k9⟩,okk9.lift,b9⟩
  have D_sheets_of:Dfn l.prog w K mg base 5 "sheets_of" ["job"] (sp_sheets_of yG):=⟨_,_,ok_sheets_of F15 T D_layout_of D_One_laid D_Both_laid D_Several_laid,b15,k15,PySem.W.mg_of X G a15⟩
  have okk26:FnOk l.prog w K mg base CX0 6 _ _ ["self","job"] (sp_Rn_init yK yG):=ok_Run_init F26 T D_ink_of D_sheets_of
  have M_Run:MkD l.prog w K mg base 6 "Run" yK ["self","job"] (sp_Rn_init yK yG):=⟨_,_,⟨qbw,a26,i26,qbx⟩,okk26,b26,PySem.W.mg_of X G qai⟩
  have D__law_each:Dfn l.prog w K mg base 1 "_law_each" ["_law_pages","_law_layout"] (sp__law_each K):=⟨_,_,ok__law_each F68 T,b68,k68,PySem.W.mg_of X G a68⟩
  have D__law_cell_at:Dfn l.prog w K mg base 1 "_law_cell_at" ["_law_script","_law_k"] (sp__law_cell_at K):=⟨_,_,ok__law_cell_at F65 T,b65,k65,PySem.W.mg_of X G a65⟩
  have X_NotNow:MkXD l.prog w K mg base 1 "NotNow" cK ["self","found"] (sp_one cK "found"):=⟨⟨_,_,⟨qck,a1,i1,qcl⟩,ok_NotNow_init F1 T,b1,PySem.W.mg_of X G qan⟩,by decide⟩
  have X_Over:MkXD l.prog w K mg base 1 "Over" vZ ["self","job"] (sp_one vZ "job"):=⟨⟨_,_,⟨qct,a4,i4,qcu⟩,ok_Over_init F4 T,b4,PySem.W.mg_of X G qaq⟩,by decide⟩
  have okk27:FnOk l.prog w K mg base CX0 1 _ _ ["self"] (sp_Rn_each yK yG cZ cQ yJ yW yU):=ok_Run_each F27 T
  have D_Run_each:MtE l.prog w K mg base 1 "each" yK ["self"] (sp_Rn_each yK yG cZ cQ yJ yW yU):=⟨_,_,⟨qcH,i27,k27⟩,okk27.lift,b27⟩
  have okk28:FnOk l.prog w K mg base CX0 2 _ _ ["self"] (sp_Rn_total yK yG cZ cQ yJ yW yU):=ok_Run_total F28 T D_Run_each
  have D_Run_total:MtE l.prog w K mg base 2 "total" yK ["self"] (sp_Rn_total yK yG cZ cQ yJ yW yU):=⟨_,_,⟨qcI,i28,k28⟩,okk28.lift,b28⟩
  have okk31:FnOk l.prog w K mg base CX0 3 _ _ ["self"] (sp_Rn_whole yK yG cZ cQ yJ yW yU):=ok_Run_whole F31 T D_Run_total
  have D_Run_whole:MtE l.prog w K mg base 3 "whole" yK ["self"] (sp_Rn_whole yK yG cZ cQ yJ yW yU):=⟨_,_,⟨qcN,i31,k31⟩,okk31.lift,b31⟩
  have okk38:FnOk l.prog w K mg base (CXe l.prog w) 4 _ _ ["self"] (sp_Rn_must_go_on yK yG vZ cZ cQ yJ yW yU):=ok_Run_must_go_on F38 T X_Over D_Run_whole
  have okk20:FnOk l.prog w K mg base CX0 1 _ _ ["self"] (sp_called yJ yW yU):=ok_State_called F20 T
  have D_Ready_called:MtE l.prog w K mg base 1 "called" yJ ["self"] (sp_called yJ yW yU):=⟨_,_,⟨qcZ,i20,k20⟩,okk20.lift,b20⟩
  have D_Jammed_called:MtE l.prog w K mg base 1 "called" yW ["self"] (sp_called yJ yW yU):=⟨_,_,⟨qc0,i20,k20⟩,okk20.lift,b20⟩
  have D_Away_called:MtE l.prog w K mg base 1 "called" yU ["self"] (sp_called yJ yW yU):=⟨_,_,⟨qc1,i20,k20⟩,okk20.lift,b20⟩
  have okk54:FnOk l.prog w K mg base CX0 2 _ _ ["self"] (sp_Pr_stands cZ cQ yJ yW yU):=ok_Printer_stands F54 T D_Ready_called D_Jammed_called D_Away_called
  have okk56:FnOk l.prog w K mg base CX0 1 _ _ ["self"] (sp_Pr_within cZ cQ yJ yW yU):=ok_Printer_within F56 T
  have D_Printer_stands:MtE l.prog w K mg base 2 "stands" cZ ["self"] (sp_Pr_stands cZ cQ yJ yW yU):=⟨_,_,⟨qcL,i54,k54⟩,okk54.lift,b54⟩
  have okk59:FnOk l.prog w K mg base (CXe l.prog w) 3 _ _ ["self"] (sp_Pr_must_be_ready cZ cQ yJ yW yU):=ok_Printer_must_be_ready F59 T X_NotNow D_Printer_stands
  have okk62:FnOk l.prog w K mg base CX0 1 _ _ ["self"] (sp_Pr_oldest cZ cQ yJ yW yU):=ok_Printer_oldest F62 T
  have D_Printer_must_be_ready:MtE l.prog w K mg base 3 "must_be_ready" cZ ["self"] (sp_Pr_must_be_ready cZ cQ yJ yW yU):=⟨_,_,⟨qc4,i59,k59⟩,okk59,b59⟩
  have D_Printer_oldest:MtE l.prog w K mg base 1 "oldest" cZ ["self"] (sp_Pr_oldest cZ cQ yJ yW yU):=⟨_,_,⟨qc7,i62,k62⟩,okk62.lift,b62⟩
  have okk61:FnOk l.prog w K mg base (CXe l.prog w) 4 _ _ ["self"] (sp_Pr_push cZ cQ yJ yW yU):=ok_Printer_push F61 T D_Printer_must_be_ready D_Printer_oldest
  have okk43:FnOk l.prog w K mg base CX0 4 _ _ ["self","tags"] (sp_Rn_note_out yK yG cZ cQ yJ yW yU):=ok_Run_note_out F43 T D_Run_whole
  have D_Printer_within:MtE l.prog w K mg base 1 "within" cZ ["self"] (sp_Pr_within cZ cQ yJ yW yU):=⟨_,_,⟨qcJ,i56,k56⟩,okk56.lift,b56⟩
  have D_Printer_push:MtE l.prog w K mg base 4 "push" cZ ["self"] (sp_Pr_push cZ cQ yJ yW yU):=⟨_,_,⟨qcQ,i61,k61⟩,okk61,b61⟩
  have D_Run_note_out:MtE l.prog w K mg base 4 "note_out" yK ["self","tags"] (sp_Rn_note_out yK yG cZ cQ yJ yW yU):=⟨_,_,⟨qcS,i43,k43⟩,okk43.lift,b43⟩
  have okk42:FnOk l.prog w K mg base (CXe l.prog w) 5 _ _ ["self"] (sp_Rn_emptied yK yG cZ cQ yJ yW yU):=ok_Run_emptied F42 T D_Printer_within D_Printer_push D_Run_note_out
  have D_Run_must_go_on:MtE l.prog w K mg base 4 "must_go_on" yK ["self"] (sp_Rn_must_go_on yK yG vZ cZ cQ yJ yW yU):=⟨_,_,⟨qcK,i38,k38⟩,okk38,b38⟩
  have D_Run_emptied:MtE l.prog w K mg base 5 "emptied" yK ["self"] (sp_Rn_emptied yK yG cZ cQ yJ yW yU):=⟨_,_,⟨qcM,i42,k42⟩,okk42,b42⟩
  have okk34:FnOk l.prog w K mg base (CXe l.prog w) 6 _ _ ["self","printer"] (sp_Rn_take yK yG vZ cZ cQ yJ yW yU):=ok_Run_take F34 T X_NotNow D_Run_must_go_on D_Printer_stands D_Run_emptied D_Run_whole
  have X_Nowhere:MkXD l.prog w K mg base 1 "Nowhere" vX ["self","job"] (sp_one vX "job"):=⟨⟨_,_,⟨qcw,a5,i5,qcx⟩,ok_Nowhere_init F5 T,b5,PySem.W.mg_of X G qar⟩,by decide⟩
  have okk39:FnOk l.prog w K mg base (CXe l.prog w) 5 _ _ ["self"] (sp_Rn_must_be_placed yK yG vZ cZ cQ yJ yW yU):=ok_Run_must_be_placed F39 T X_Nowhere D_Run_must_go_on
  have okk33:FnOk l.prog w K mg base CX0 3 _ _ ["self"] (sp_Rn_upcoming yK yG cZ cQ yJ yW yU):=ok_Run_upcoming F33 T D_Printer_within D_Run_total
  have D_paper_of:Dfn l.prog w K mg base 1 "paper_of" ["job","sheet"] (sp_paper_of yG):=⟨_,_,ok_paper_of F16 T,b16,k16,PySem.W.mg_of X G a16⟩
  have okk40:FnOk l.prog w K mg base CX0 2 _ _ ["self","tag"] (sp_Rn_used_by yK yG cZ cQ yJ yW yU):=ok_Run_used_by F40 T D_paper_of D_Run_each
  have X_Dry:MkXD l.prog w K mg base 1 "Dry" vQ ["self","name"] (sp_one vQ "name"):=⟨⟨_,_,⟨qcq,a3,i3,qcr⟩,ok_Dry_init F3 T,b3,PySem.W.mg_of X G qap⟩,by decide⟩
  have X_Unknown:MkXD l.prog w K mg base 1 "Unknown" cV ["self","name"] (sp_one cV "name"):=⟨⟨_,_,⟨qch,a0,i0,qci⟩,ok_Unknown_init F0 T,b0,PySem.W.mg_of X G qam⟩,by decide⟩
  have okk48:FnOk l.prog w K mg base (CXe l.prog w) 3 _ _ ["self","name"] (sp_know cQ cV):=ok_Stock_know F48 T X_Unknown
  have D_Stock_know:MtE l.prog w K mg base 3 "know" cQ ["self","name"] (sp_know cQ cV):=⟨_,_,⟨qcW,i48,k48⟩,okk48,b48⟩
  have okk46:FnOk l.prog w K mg base (CXe l.prog w) 4 _ _ ["self","name"] (sp_held cQ cV):=ok_Stock_held F46 T D_Stock_know
  have D_Stock_held:MtE l.prog w K mg base 4 "held" cQ ["self","name"] (sp_held cQ cV):=⟨_,_,⟨qc2,i46,k46⟩,okk46,b46⟩
  have okk55:FnOk l.prog w K mg base (CXe l.prog w) 5 _ _ ["self","kind"] (sp_Pr_paper_left cZ cQ yJ yW yU):=ok_Printer_paper_left F55 T D_Stock_held
  have okk49:FnOk l.prog w K mg base (CXe l.prog w) 4 _ _ ["self","rows"] (sp_know_all cQ cV):=ok_Stock_know_all F49 T D_Stock_know
  have D_Stock_know_all:MtE l.prog w K mg base 4 "know_all" cQ ["self","rows"] (sp_know_all cQ cV):=⟨_,_,⟨qcY,i49,k49⟩,okk49,b49⟩
  have okk52:FnOk l.prog w K mg base (CXe l.prog w) 5 _ _ ["self","wants"] (sp_all cQ cV vQ (-1) (fun _ am ws=>tooFew am ws)):=ok_Stock_draw_all F52 T X_Dry D_Stock_know_all
  have D_Printer_paper_left:MtE l.prog w K mg base 5 "paper_left" cZ ["self","kind"] (sp_Pr_paper_left cZ cQ yJ yW yU):=⟨_,_,⟨qc5,i55,k55⟩,okk55,b55⟩
  have D_Stock_draw_all:MtE l.prog w K mg base 5 "draw_all" cQ ["self","wants"] (sp_all cQ cV vQ (-1) (fun _ am ws=>tooFew am ws)):=⟨_,_,⟨qc6,i52,k52⟩,okk52,b52⟩
  have okk60:FnOk l.prog w K mg base (CXe l.prog w) 6 _ _ ["self","tag","kind","black","coloured"] (sp_Pr_feed cZ cQ yJ yW yU):=ok_Printer_feed F60 T X_Dry D_Printer_must_be_ready D_Printer_paper_left D_Stock_draw_all D_Printer_oldest
  have D_Run_used_by:MtE l.prog w K mg base 2 "used_by" yK ["self","tag"] (sp_Rn_used_by yK yG cZ cQ yJ yW yU):=⟨_,_,⟨qcU,i40,k40⟩,okk40.lift,b40⟩
  have D_Printer_feed:MtE l.prog w K mg base 6 "feed" cZ ["self","tag","kind","black","coloured"] (sp_Pr_feed cZ cQ yJ yW yU):=⟨_,_,⟨qcV,i60,k60⟩,okk60,b60⟩
  have okk41:FnOk l.prog w K mg base (CXe l.prog w) 7 _ _ ["self","tag"] (sp_Rn_fed yK yG cZ cQ yJ yW yU):=ok_Run_fed F41 T D_Run_used_by D_Printer_feed
  have D_Run_must_be_placed:MtE l.prog w K mg base 5 "must_be_placed" yK ["self"] (sp_Rn_must_be_placed yK yG vZ cZ cQ yJ yW yU):=⟨_,_,⟨qcO,i39,k39⟩,okk39,b39⟩
  have D_Run_upcoming:MtE l.prog w K mg base 3 "upcoming" yK ["self"] (sp_Rn_upcoming yK yG cZ cQ yJ yW yU):=⟨_,_,⟨qcP,i33,k33⟩,okk33.lift,b33⟩
  have D_Run_fed:MtE l.prog w K mg base 7 "fed" yK ["self","tag"] (sp_Rn_fed yK yG cZ cQ yJ yW yU):=⟨_,_,⟨qcR,i41,k41⟩,okk41,b41⟩
  have okk36:FnOk l.prog w K mg base (CXe l.prog w) 8 _ _ ["self"] (sp_Rn_step yK yG vZ cZ cQ yJ yW yU):=ok_Run_step F36 T D_Run_must_be_placed D_Run_upcoming D_Printer_push D_Run_fed D_Run_note_out
  have X_TooMuch:MkXD l.prog w K mg base 1 "TooMuch" cG ["self","name"] (sp_one cG "name"):=⟨⟨_,_,⟨qcn,a2,i2,qco⟩,ok_TooMuch_init F2 T,b2,PySem.W.mg_of X G qao⟩,by decide⟩
  have okk19:FnOk l.prog w K mg base CX0 1 _ _ ["self","word"] (sp_State_init K):=ok_State_init F19 T
  have M_State:MkD l.prog w K mg base 1 "State" yV ["self","word"] (sp_State_init K):=⟨_,_,⟨qa3,a19,i19,qa4⟩,okk19,b19,PySem.W.mg_of X G qae⟩
  have I_State:InD l.prog w K mg base 1 "State" yV ["self","word"] (sp_State_init K):=⟨_,_,⟨qdn,qdo,qdp⟩,okk19,b19,k19,PySem.W.mg_of X G qae⟩
  have okk24:FnOk l.prog w K mg base CX0 2 _ _ ["self"] (sp_inS yW (fsOf .jm)):=ok_Jammed_init F24 T I_State
  have M_Jammed:MkD l.prog w K mg base 2 "Jammed" yW ["self"] (sp_inS yW (fsOf .jm)):=⟨_,_,⟨qbh,a24,i24,qbi⟩,okk24,b24,PySem.W.mg_of X G qag⟩
  have okk22:FnOk l.prog w K mg base CX0 4 _ _ ["self"] (sp_rto yW .jm):=ok_Ready_jam F22 T M_Jammed
  have D_Ready_jam:MtE l.prog w K mg base 4 "jam" yJ ["self"] (sp_rto yW .jm):=⟨_,_,⟨qc8,i22,k22⟩,okk22.lift,b22⟩
  have okk63:FnOk l.prog w K mg base (CXe l.prog w) 5 _ _ ["self","saved"] (sp_Pr_jam cZ cQ yJ yW yU):=ok_Printer_jam F63 T X_TooMuch D_Ready_jam
  have D_Printer_jam:MtE l.prog w K mg base 5 "jam" cZ ["self","saved"] (sp_Pr_jam cZ cQ yJ yW yU):=⟨_,_,⟨qcT,i63,k63⟩,okk63,b63⟩
  have okk37:FnOk l.prog w K mg base (CXe l.prog w) 6 _ _ ["self","saved"] (sp_Rn_jam yK yG vZ cZ cQ yJ yW yU):=ok_Run_jam F37 T D_Run_must_be_placed D_Printer_jam D_Run_note_out
  have okk25:FnOk l.prog w K mg base CX0 2 _ _ ["self","jammed"] (sp_Away_init yU):=ok_Away_init F25 T I_State
  have M_Away:MkD l.prog w K mg base 2 "Away" yU ["self","jammed"] (sp_Away_init yU):=⟨_,_,⟨qbo,a25,i25,qbp⟩,okk25,b25,PySem.W.mg_of X G qah⟩
  have okk23:FnOk l.prog w K mg base CX0 4 _ _ ["self"] (sp_rto yU (.aw false)):=ok_Ready_leave F23 T M_Away
  have D_Ready_leave:MtE l.prog w K mg base 4 "leave" yJ ["self"] (sp_rto yU (.aw false)):=⟨_,_,⟨qc9,i23,k23⟩,okk23.lift,b23⟩
  have okk64:FnOk l.prog w K mg base (CXe l.prog w) 5 _ _ ["self"] (sp_Pr_leave cZ cQ yJ yW yU):=ok_Printer_leave F64 T D_Ready_leave
  have D_Run_take:MtE l.prog w K mg base 6 "take" yK ["self","printer"] (sp_Rn_take yK yG vZ cZ cQ yJ yW yU):=⟨_,_,⟨qdc,i34,k34⟩,okk34,b34⟩
  have D_Run_step:MtE l.prog w K mg base 8 "step" yK ["self"] (sp_Rn_step yK yG vZ cZ cQ yJ yW yU):=⟨_,_,⟨qdd,i36,k36⟩,okk36,b36⟩
  have D_Run_jam:MtE l.prog w K mg base 6 "jam" yK ["self","saved"] (sp_Rn_jam yK yG vZ cZ cQ yJ yW yU):=⟨_,_,⟨qde,i37,k37⟩,okk37,b37⟩
  have D_Printer_leave:MtE l.prog w K mg base 5 "leave" cZ ["self"] (sp_Pr_leave cZ cQ yJ yW yU):=⟨_,_,⟨qdf,i64,k64⟩,okk64,b64⟩
  have D__law_way:Dfn l.prog w K mg base 9 "_law_way" ["_law_script","_law_run","_law_printers","_law_most"] (sp__law_way K yK yG vZ cZ cQ yJ yW yU):=⟨_,_,ok__law_way F72 T D__law_cell_at D_Run_take D_Run_step D_Run_whole D_Run_jam D_Printer_within D_Printer_leave,b72,k72,PySem.W.mg_of X G a72⟩
  have D__law_mix:Dfn l.prog w K mg base 1 "_law_mix" ["_law_cell","_law_k","_law_many"] (sp__law_mix K):=⟨_,_,ok__law_mix F66 T,b66,k66,PySem.W.mg_of X G a66⟩
  have okk45:FnOk l.prog w K mg base CX0 1 _ _ ["self","rooms"] (sp_Stock_init cQ):=ok_Stock_init F45 T
  have M_Stock:MkD l.prog w K mg base 1 "Stock" cQ ["self","rooms"] (sp_Stock_init cQ):=⟨_,_,⟨qbY,a45,i45,qbZ⟩,okk45,b45,PySem.W.mg_of X G qak⟩
  have okk21:FnOk l.prog w K mg base CX0 2 _ _ ["self"] (sp_inS yJ (fsOf .rd)):=ok_Ready_init F21 T I_State
  have M_Ready:MkD l.prog w K mg base 2 "Ready" yJ ["self"] (sp_inS yJ (fsOf .rd)):=⟨_,_,⟨qba,a21,i21,qbb⟩,okk21,b21,PySem.W.mg_of X G qaf⟩
  have okk53:FnOk l.prog w K mg base CX0 4 _ _ ["self","name","can","path","papers","black","colour"] (sp_Pr_init cZ cQ yJ yW yU):=ok_Printer_init F53 T M_Stock M_Ready
  have M_Printer:MkD l.prog w K mg base 4 "Printer" cZ ["self","name","can","path","papers","black","colour"] (sp_Pr_init cZ cQ yJ yW yU):=⟨_,_,⟨qb6,a53,i53,qb7⟩,okk53,b53,PySem.W.mg_of X G qal⟩
  have okk51:FnOk l.prog w K mg base (CXe l.prog w) 5 _ _ ["self","gifts"] (sp_all cQ cV cG 1 tooMuch):=ok_Stock_put_all F51 T X_TooMuch D_Stock_know_all
  have D_Stock_put_all:MtE l.prog w K mg base 5 "put_all" cQ ["self","gifts"] (sp_all cQ cV cG 1 tooMuch):=⟨_,_,⟨qcX,i51,k51⟩,okk51,b51⟩
  have okk50:FnOk l.prog w K mg base (CXe l.prog w) 6 _ _ ["self","name","many"] (sp_put cQ cV cG):=ok_Stock_put F50 T D_Stock_put_all
  have D_Stock_put:MtE l.prog w K mg base 6 "put" cQ ["self","name","many"] (sp_put cQ cV cG):=⟨_,_,⟨qc3,i50,k50⟩,okk50,b50⟩
  have okk57:FnOk l.prog w K mg base (CXe l.prog w) 7 _ _ ["self","kind","many"] (sp_Pr_load cZ cQ yJ yW yU):=ok_Printer_load F57 T D_Stock_put
  have okk58:FnOk l.prog w K mg base (CXe l.prog w) 6 _ _ ["self","black","coloured"] (sp_Pr_fill cZ cQ yJ yW yU):=ok_Printer_fill F58 T D_Stock_put_all
  have D_Printer_load:MtE l.prog w K mg base 7 "load" cZ ["self","kind","many"] (sp_Pr_load cZ cQ yJ yW yU):=⟨_,_,⟨qda,i57,k57⟩,okk57,b57⟩
  have D_Printer_fill:MtE l.prog w K mg base 6 "fill" cZ ["self","black","coloured"] (sp_Pr_fill cZ cQ yJ yW yU):=⟨_,_,⟨qdb,i58,k58⟩,okk58,b58⟩
  have D__law_printer:Dfn l.prog w K mg base 8 "_law_printer" ["_law_name","_law_path","_law_kind"] (sp__law_printer cZ cQ yJ yW yU):=⟨_,_,ok__law_printer F71 T M_Printer D_Printer_load D_Printer_fill,b71,k71,PySem.W.mg_of X G a71⟩
  have okk44:FnOk l.prog w K mg base CX0 1 _ _ ["self","name","asker","pages","copies","layout","paper","cover","colour","staple","after"] (sp_Job_init yG):=ok_Job_init F44 T
  have M_Job:MkD l.prog w K mg base 1 "Job" yG ["self","name","asker","pages","copies","layout","paper","cover","colour","staple","after"] (sp_Job_init yG):=⟨_,_,⟨qbI,a44,i44,qbJ⟩,okk44,b44,PySem.W.mg_of X G qaj⟩
  have D__law_is:Dfn l.prog w K mg base 1 "_law_is" ["_law_num","_law_due"] (sp__law_is K):=⟨_,_,ok__law_is F69 T,b69,k69,PySem.W.mg_of X G a69⟩
  have D__law_tags:Dfn l.prog w K mg base 2 "_law_tags" ["_law_told","_law_due"] (sp__law_tags K):=⟨_,_,ok__law_tags F70 T D__law_is,b70,k70,PySem.W.mg_of X G a70⟩
  have okk30:FnOk l.prog w K mg base CX0 1 _ _ ["self"] (sp_Rn_at yK yG cZ cQ yJ yW yU):=ok_Run_at F30 T
  have okk29:FnOk l.prog w K mg base CX0 1 _ _ ["self"] (sp_Rn_out yK yG cZ cQ yJ yW yU):=ok_Run_out F29 T
  have okk32:FnOk l.prog w K mg base CX0 2 _ _ ["self"] (sp_Rn_lack yK yG cZ cQ yJ yW yU):=ok_Run_lack F32 T D_Run_each
  have D_Run_at:MtE l.prog w K mg base 1 "at" yK ["self"] (sp_Rn_at yK yG cZ cQ yJ yW yU):=⟨_,_,⟨qdh,i30,k30⟩,okk30.lift,b30⟩
  have D_Run_out:MtE l.prog w K mg base 1 "out" yK ["self"] (sp_Rn_out yK yG cZ cQ yJ yW yU):=⟨_,_,⟨qdi,i29,k29⟩,okk29.lift,b29⟩
  have D_Run_lack:MtE l.prog w K mg base 2 "lack" yK ["self"] (sp_Rn_lack yK yG cZ cQ yJ yW yU):=⟨_,_,⟨qdj,i32,k32⟩,okk32.lift,b32⟩
  have D__law_stands:Dfn l.prog w K mg base 4 "_law_stands" ["_law_run","_law_out","_law_lack"] (sp__law_stands K yK yG vZ cZ cQ yJ yW yU):=⟨_,_,ok__law_stands F75 T D__law_is D_Run_at D_Run_upcoming D_Run_out D_Run_lack D_Run_whole,b75,k75,PySem.W.mg_of X G a75⟩
  have okk35:FnOk l.prog w K mg base (CXe l.prog w) 6 _ _ ["self"] (sp_Rn_drop yK yG vZ cZ cQ yJ yW yU):=ok_Run_drop F35 T D_Run_must_go_on D_Run_emptied D_Run_whole
  have D_Run_drop:MtE l.prog w K mg base 6 "drop" yK ["self"] (sp_Rn_drop yK yG vZ cZ cQ yJ yW yU):=⟨_,_,⟨qdg,i35,k35⟩,okk35,b35⟩
  have D__law_called:DfE l.prog w K mg base 9 "_law_called" ["_law_run","_law_printer_here","_law_k"] (sp__law_called K yK yG vZ cZ cQ yJ yW yU):=⟨_,_,ok__law_called F73 T D_Run_take D_Run_step D_Run_jam D_Run_drop,b73,k73,PySem.W.mg_of X G a73⟩
  have D__law_over:Dfn l.prog w K mg base 10 "_law_over" ["_law_run","_law_printer_here","_law_name","_law_k"] (sp__law_over K yK yG vZ cZ cQ yJ yW yU):=⟨_,_,ok__law_over F74 T D__law_called,b74,k74,PySem.W.mg_of X G a74⟩
  exact ok_law F76 T D__law_word M_Run D__law_each D__law_way D__law_mix D__law_cell_at D__law_printer M_Job D__law_tags D__law_stands D__law_over D_Run_out D_Run_whole D_Run_at D_Printer_within D_Run_drop D_Printer_stands D_Printer_jam
theorem walk {l:PySem.W.OpenLaw} {q:Program} {loose:List Str} {XP:(Str→Option Value)→Heap→Prop} {YP:World→Heap→Prop} {d:DefRec} {K:Params→PySem.W.Frag} (hn:l.most=some 63) (hdf:d.params.defaults=[])
    (hY:∀ (w:World) (h:Heap),YP w h→(K w.params).In h)
    (F:∀ (w:World) (mg:Str→Option Value) (fa:Addr) (h:Heap),(K w.params).In h→h.Ns mainGlobals mg→mg d.name=some (.ref fa) →
      ∃ fd:FuncData,(∀ (s:Shared) (u:Value),BindsTo s fd ⟨[u],[]⟩ [("_law_script",u)])∧∀ base:Heap,(K w.params).In base→base.Ns mainGlobals mg→FnOk l.prog w (K w.params) mg base CX0 11 fa fd ["_law_script"] (sp_law (K w.params))) :
    PySem.W.WalkO q loose XP YP l.row.toRowW d [] (fun f vs=>PySem.call f vs) :=
  L2.walk_of (n:=63) (k:=11) (x:="_law_script") (CX:=fun _=>CX0) (sp:=fun w=>sp_law (K w.params)) hn (by decide) hdf ⟨rfl,by decide,by decide⟩ hY F (fun _ _ a ns hl _ hS=>⟨a,rfl,⟨⟨ns,hS,hl⟩⟩,fun _=>rfl⟩) fun _ _ _ _ _ z=>z
end My
open PySem PySem.W PyProof.Rows
set_option maxRecDepth 100000 in
set_option maxHeartbeats 0 in
theorem PySem.Challenge.cw_spoolhall_k34_dropped_holds : PySem.Challenge.rw_spoolhall_k34_dropped.Holds := by
  w_on;o_law;k_head;(case hw=>w_witness2)
  k_fill
  refine My.walk (l:=PySem.Challenge.rw_spoolhall_k34_dropped) rfl rfl (fun w h Y=>PySem.W.kIn_of Y) ?F
  case F =>
    intro w mg fa h KX G hmg
    refine' My.all_mk KX G hmg ?qaa ?qab ?qac ?qad ?qae ?qaf ?qag ?qah ?qai ?qaj ?qak ?qal ?qam ?qan ?qao ?qap ?qaq ?qar ?qas ?a0 ?i0 ?l0 ?c0 ?k0 ?a1 ?i1 ?l1 ?c1 ?k1 ?a2 ?i2 ?l2 ?c2 ?k2 ?a3 ?i3 ?l3 ?c3 ?k3 ?a4 ?i4 ?l4 ?c4 ?k4 ?a5 ?i5 ?l5 ?c5 ?k5 ?a6 ?l6 ?c6 ?k6 ?a7 ?i7 ?l7 ?c7 ?k7 ?a8 ?i8 ?l8 ?c8 ?k8 ?a9 ?i9 ?l9 ?c9 ?k9 ?a10 ?i10 ?l10 ?c10 ?k10 ?a11 ?i11 ?l11 ?c11 ?k11 ?a12 ?i12 ?l12 ?c12 ?k12 ?a13 ?i13 ?l13 ?c13 ?k13 ?a14 ?l14 ?c14 ?k14 ?a15 ?l15 ?c15 ?k15 ?a16 ?l16 ?c16 ?k16 ?a17 ?l17 ?c17 ?k17 ?a18 ?l18 ?c18 ?k18 ?a19 ?i19 ?l19 ?c19 ?k19 ?a20 ?i20 ?l20 ?c20 ?k20 ?a21 ?i21 ?l21 ?c21 ?k21 ?a22 ?i22 ?l22 ?c22 ?k22 ?a23 ?i23 ?l23 ?c23 ?k23 ?a24 ?i24 ?l24 ?c24 ?k24 ?a25 ?i25 ?l25 ?c25 ?k25 ?a26 ?i26 ?l26 ?c26 ?k26 ?a27 ?i27 ?l27 ?c27 ?k27 ?a28 ?i28 ?l28 ?c28 ?k28 ?a29 ?i29 ?l29 ?c29 ?k29 ?a30 ?i30 ?l30 ?c30 ?k30 ?a31 ?i31 ?l31 ?c31 ?k31 ?a32 ?i32 ?l32 ?c32 ?k32 ?a33 ?i33 ?l33 ?c33 ?k33 ?a34 ?i34 ?l34 ?c34 ?k34 ?a35 ?i35 ?l35 ?c35 ?k35 ?a36 ?i36 ?l36 ?c36 ?k36 ?a37 ?i37 ?l37 ?c37 ?k37 ?a38 ?i38 ?l38 ?c38 ?k38 ?a39 ?i39 ?l39 ?c39 ?k39 ?a40 ?i40 ?l40 ?c40 ?k40 ?a41 ?i41 ?l41 ?c41 ?k41 ?a42 ?i42 ?l42 ?c42 ?k42 ?a43 ?i43 ?l43 ?c43 ?k43 ?a44 ?i44 ?l44 ?c44 ?k44 ?a45 ?i45 ?l45 ?c45 ?k45 ?a46 ?i46 ?l46 ?c46 ?k46 ?a47 ?i47 ?l47 ?c47 ?k47 ?a48 ?i48 ?l48 ?c48 ?k48 ?a49 ?i49 ?l49 ?c49 ?k49 ?a50 ?i50 ?l50 ?c50 ?k50 ?a51 ?i51 ?l51 ?c51 ?k51 ?a52 ?i52 ?l52 ?c52 ?k52 ?a53 ?i53 ?l53 ?c53 ?k53 ?a54 ?i54 ?l54 ?c54 ?k54 ?a55 ?i55 ?l55 ?c55 ?k55 ?a56 ?i56 ?l56 ?c56 ?k56 ?a57 ?i57 ?l57 ?c57 ?k57 ?a58 ?i58 ?l58 ?c58 ?k58 ?a59 ?i59 ?l59 ?c59 ?k59 ?a60 ?i60 ?l60 ?c60 ?k60 ?a61 ?i61 ?l61 ?c61 ?k61 ?a62 ?i62 ?l62 ?c62 ?k62 ?a63 ?i63 ?l63 ?c63 ?k63 ?a64 ?i64 ?l64 ?c64 ?k64 ?a65 ?l65 ?c65 ?k65 ?a66 ?l66 ?c66 ?k66 ?a67 ?l67 ?c67 ?k67 ?a68 ?l68 ?c68 ?k68 ?a69 ?l69 ?c69 ?k69 ?a70 ?l70 ?c70 ?k70 ?a71 ?l71 ?c71 ?k71 ?a72 ?l72 ?c72 ?k72 ?a73 ?l73 ?c73 ?k73 ?a74 ?l74 ?c74 ?k74 ?a75 ?l75 ?c75 ?k75 ?a76 ?l76 ?c76 ?k76 ?qat ?qau ?qav ?qaw ?qax ?qay ?qaz ?qaA ?qaB ?qaC ?qaD ?qaE ?qaF ?qaG ?qaH ?qaI ?qaJ ?qaK ?qaL ?qaM ?qaN ?qaO ?qaP ?qaQ ?qaR ?qaS ?qaT ?qaU ?qaV ?qaW ?qaX ?qaY ?qaZ ?qa0 ?qa1 ?qa2 ?qa3 ?qa4 ?qa5 ?qa6 ?qa7 ?qa8 ?qa9 ?qba ?qbb ?qbc ?qbd ?qbe ?qbf ?qbg ?qbh ?qbi ?qbj ?qbk ?qbl ?qbm ?qbn ?qbo ?qbp ?qbq ?qbr ?qbs ?qbt ?qbu ?qbv ?qbw ?qbx ?qby ?qbz ?qbA ?qbB ?qbC ?qbD ?qbE ?qbF ?qbG ?qbH ?qbI ?qbJ ?qbK ?qbL ?qbM ?qbN ?qbO ?qbP ?qbQ ?qbR ?qbS ?qbT ?qbU ?qbV ?qbW ?qbX ?qbY ?qbZ ?qb0 ?qb1 ?qb2 ?qb3 ?qb4 ?qb5 ?qb6 ?qb7 ?qb8 ?qb9 ?qca ?qcb ?qcc ?qcd ?qce ?qcf ?qcg ?qch ?qci ?qcj ?qck ?qcl ?qcm ?qcn ?qco ?qcp ?qcq ?qcr ?qcs ?qct ?qcu ?qcv ?qcw ?qcx ?qcy ?qcz ?qcA ?qcB ?qcC ?qcD ?qcE ?qcF ?qcG ?qcH ?qcI ?qcJ ?qcK ?qcL ?qcM ?qcN ?qcO ?qcP ?qcQ ?qcR ?qcS ?qcT ?qcU ?qcV ?qcW ?qcX ?qcY ?qcZ ?qc0 ?qc1 ?qc2 ?qc3 ?qc4 ?qc5 ?qc6 ?qc7 ?qc8 ?qc9 ?qda ?qdb ?qdc ?qdd ?qde ?qdf ?qdg ?qdh ?qdi ?qdj ?qdk ?qdl ?qdm ?qdn ?qdo ?qdp ?qdq ?xcn ?xct ?xb1 ?xb2 ?xb3 ?xkt ?qdr ?qds ?gUP ?eUP ?qdt ?qdu ?qdv ?qdw ?qdx ?qdy ?qdz ?qdA ?qdB ?qdC ?qdD ?qdE ?qdF ?qdG ?qdH ?qdI ?qdJ ?qdK ?qdL ?qdM ?qdN ?qdO ?qdP ?qdQ ?qdR ?qdS ?qdT ?qdU ?qdV
    (case qaa|qab|qac|qad|qae|qaf|qag|qah|qai|qaj|qak|qal|qam|qan|qao|qap|qaq|qar|qas|a0|i0|l0|c0|k0|a1|i1|l1|c1|k1|a2|i2|l2|c2|k2|a3|i3|l3|c3|k3|a4|i4|l4|c4|k4|a5|i5|l5|c5|k5|a6|l6|c6|k6|a7|i7|l7|c7|k7|a8|i8|l8|c8|k8|a9|i9|l9|c9|k9|a10|i10|l10|c10|k10|a11|i11|l11|c11|k11|a12|i12|l12|c12|k12|a13|i13|l13|c13|k13|a14|l14|c14|k14|a15|l15|c15|k15|a16|l16|c16|k16|a17|l17|c17|k17|a18|l18|c18|k18|a19|i19|l19|c19|k19|a20|i20|l20|c20|k20|a21|i21|l21|c21|k21|a22|i22|l22|c22|k22|a23|i23|l23|c23|k23|a24|i24|l24|c24|k24|a25|i25|l25|c25|k25|a26|i26|l26|c26|k26|a27|i27|l27|c27|k27|a28|i28|l28|c28|k28|a29|i29|l29|c29|k29|a30|i30|l30|c30|k30|a31|i31|l31|c31|k31|a32|i32|l32|c32|k32|a33|i33|l33|c33|k33|a34|i34|l34|c34|k34|a35|i35|l35|c35|k35|a36|i36|l36|c36|k36|a37|i37|l37|c37|k37|a38|i38|l38|c38|k38|a39|i39|l39|c39|k39|a40|i40|l40|c40|k40|a41|i41|l41|c41|k41|a42|i42|l42|c42|k42|a43|i43|l43|c43|k43|a44|i44|l44|c44|k44|a45|i45|l45|c45|k45|a46|i46|l46|c46|k46|a47|i47|l47|c47|k47|a48|i48|l48|c48|k48|a49|i49|l49|c49|k49|a50|i50|l50|c50|k50|a51|i51|l51|c51|k51|a52|i52|l52|c52|k52|a53|i53|l53|c53|k53|a54|i54|l54|c54|k54|a55|i55|l55|c55|k55|a56|i56|l56|c56|k56|a57|i57|l57|c57|k57|a58|i58|l58|c58|k58|a59|i59|l59|c59|k59|a60|i60|l60|c60|k60|a61|i61|l61|c61|k61|a62|i62|l62|c62|k62|a63|i63|l63|c63|k63|a64|i64|l64|c64|k64|a65|l65|c65|k65|a66|l66|c66|k66|a67|l67|c67|k67|a68|l68|c68|k68|a69|l69|c69|k69|a70|l70|c70|k70|a71|l71|c71|k71|a72|l72|c72|k72|a73|l73|c73|k73|a74|l74|c74|k74|a75|l75|c75|k75|a76|l76|c76|k76|qat|qau|qav|qaw|qax|qay|qaz|qaA|qaB|qaC|qaD|qaE|qaF|qaG|qaH|qaI|qaJ|qaK|qaL|qaM|qaN|qaO|qaP|qaQ|qaR|qaS|qaT|qaU|qaV|qaW|qaX|qaY|qaZ|qa0|qa1|qa2|qa3|qa4|qa5|qa6|qa7|qa8|qa9|qba|qbb|qbc|qbd|qbe|qbf|qbg|qbh|qbi|qbj|qbk|qbl|qbm|qbn|qbo|qbp|qbq|qbr|qbs|qbt|qbu|qbv|qbw|qbx|qby|qbz|qbA|qbB|qbC|qbD|qbE|qbF|qbG|qbH|qbI|qbJ|qbK|qbL|qbM|qbN|qbO|qbP|qbQ|qbR|qbS|qbT|qbU|qbV|qbW|qbX|qbY|qbZ|qb0|qb1|qb2|qb3|qb4|qb5|qb6|qb7|qb8|qb9|qca|qcb|qcc|qcd|qce|qcf=>k_is)
    (case qcg|qch=>kernel_rfl)
    (case qci=>k_is)
    (case qcj|qck=>kernel_rfl)
    (case qcl=>k_is)
    (case qcm|qcn=>kernel_rfl)
    (case qco=>k_is)
    (case qcp|qcq=>kernel_rfl)
    (case qcr=>k_is)
    (case qcs|qct=>kernel_rfl)
    (case qcu=>k_is)
    (case qcv|qcw=>kernel_rfl)
    (case qcx|qcy|qcz|qcA|qcB|qcC|qcD|qcE|qcF|qcG|qcH|qcI|qcJ|qcK|qcL|qcM|qcN|qcO|qcP|qcQ|qcR|qcS|qcT|qcU|qcV|qcW|qcX|qcY|qcZ|qc0|qc1|qc2|qc3|qc4|qc5|qc6|qc7|qc8|qc9|qda|qdb|qdc|qdd|qde|qdf|qdg|qdh|qdi|qdj|qdk|qdl|qdm|qdn|qdo|qdp=>k_is)
    (case qdq=>kernel_rfl)
    (case xcn|xct|xb1|xb2|xb3=>k_is)
    (case xkt=>kernel_rfl)
    (case qdr=>k_is)
    (case qds=>rfl)
    (case gUP=>k_is)
    (case eUP=>first | rfl | decide +kernel)
    (case qdt=>k_is)
    (case qdu=>rfl)
    (case qdv=>k_is)
    (case qdw=>rfl)
    (case qdx=>k_is)
    (case qdy=>rfl)
    (case qdz=>k_is)
    (case qdA=>first | rfl | decide +kernel)
    (case qdB=>k_is)
    (case qdC=>first | rfl | decide +kernel)
    (case qdD=>k_is)
    (case qdE=>first | rfl | decide +kernel)
    (case qdF=>k_is)
    (case qdG=>first | rfl | decide +kernel)
    (case qdH=>k_is)
    (case qdI=>first | rfl | decide +kernel)
    (case qdJ=>k_is)
    (case qdK=>first | rfl | decide +kernel)
    (case qdL|qdM|qdN|qdO|qdP|qdQ|qdR|qdS|qdT|qdU|qdV=>k_is)
#print axioms PySem.Challenge.cw_spoolhall_k34_dropped_holds
