import PyProof.Rows.All
import Wide.All
import OpenK.AllK
import Wide.FinOn
import Lean
import PyProof.EqAt
import PyProof.EqKinds
import PyProof.TupleCall
import PyProof.EnumMake
import PyProof.Draws
import PyProof.InstStoreFacts
import PyProof.ExcArgs
import PyProof.ExcBaseAll.ValueError
import KE.KDictLaws
import OpenK.KOwn
import PyProof.ListRange
import PyProof.AttrMissHeap
import PyProof.MinMaxWalk
import PyProof.WalksMore
import PyProof.NeKinds
import KE.KDictList
import KE.KDictSum
import KE.KEqDict
import PyProof.DictItems
import KE.KPairComp
import PyProof.EqAt
import PyProof.MeetsSeq3
import KE.KLam
import KE.KMinKey
import KE.KNestM
import PyProof.Rows.CallKw2
import KE.KSortTup
import KE.KSortKey
import PySem.Challenge.RW_spoolhall_k38_whole_run_in_heaps
set_option Elab.async false
set_option linter.all false
set_option compiler.extract_closed false
set_option maxRecDepth 100000
local macro_rules | `(tactic| exists $es,*) => `(tactic| refine ⟨$es,*, ?_⟩)



open Int (zero_add)
open List (Pairwise append_assoc find? find?_cons find?_eq_none foldl getD_eq_getElem?_getD getElem?_append_left getElem?_append_right getElem?_eq_getElem getElem?_eq_none getElem?_map getElem?_range mem_iff_getElem? mem_of_getElem? mem_singleton range)
open Nat (add_zero le_refl le_trans)
open Ne (symm)

open Prod (fst)


open PySem (IsL)

open PySem.F (slot_list_extend)
open PySem.Heap (DictOf Ns1 SameBut get?_push_of_some get?_push_size get?_update_ne get?_update_other get?_update_self size_push)


open PySem.Value (bytes float type)
open PySem.W (envX subIn)
open Array renaming length_toList→jE
open Bool renaming and_eq_true→fA,eq_false_iff→jZ,not_eq_true'→kT,false_eq_true→mE
open Classical renaming byContradiction→iH,propDecidable→l4
open Int renaming emod_lt_of_pos→fK,toNat_natCast→fU,emod_nonneg→gU,one_mul→rO
open List renaming length_map→c6,mem_append_right→dD,length_append→dH,size_toArray→dL,length_range→dP,map_cons→dQ,map_append→dU,mem_cons→dZ,not_mem_nil→d6,mem_map→eI,replicate→eQ,mem_append→eV,lookup_cons→eX,length_cons→eY,append_nil→eZ,mem_cons_of_mem→fB,take_of_length_le→fG,length_take→fI,nodup_cons→fN,filter_cons_of_neg→fO,mem_append_left→fX,filter_cons_of_pos→gA,mem_cons_self→gB,take_add_one→gR,replicate_succ→gZ,flatMap_append→g9,length_replicate→iD,length_filter_le→iE,map_map→iF,map_congr_left→iR,length_drop→iS,take_append_drop→iW,filter_append→jH,take_length→jM,nodup_nil→jN,all_eq_true→jP,nodup_append→jT,flatten_cons→jX,filterMap_cons→jY,nil_append→j7,mem_range→j8,filter_cons→kH,drop_length→kI,map_nil→kU,length_nil→lJ,contains_cons→mF,take_zero→mJ,any_cons→mM,range_succ→mQ,pairwise_map→mR,mem_filter→mS,flatMap_cons→mV,count_append→mW,mem_flatMap→nN,cons_append→nS,drop_drop→n8,sum_append→oP,of_mem_zip→oR,drop_zero→qH,sum_cons→sF,map_take→xT,all_cons→x0,range'→zH,map_id→zI
open Nat renaming lt_of_lt_of_le→dO,zero_le→d5,ne_of_lt→eA,le_succ→fL,not_lt_zero→gC,lt_irrefl→gG,ne_of_gt→gO,lt_of_le_of_lt→iC,le_of_lt→iG,lt_succ_of_lt→jD,le_add_right→jU,lt_succ_self→kW,le_of_eq→mK,add_assoc→qI,sub_self→sI
open Option renaming map_eq_some_iff→dY,isSome_iff_exists→gK,getD_some→nZ,map_some→o5,isSome_map→sS,getD_none→vD
open Prod renaming snd→y7
open PyProof renaming noPylong_small→nM
open PyProof.Rows renaming seqObj→hG,envOfC→nG,listUpdate_at→o6,risingS→tW,boot_range→vH,subscriptTail→wJ,boot_sorted→xW,arrOf→xZ,subscriptTail_builtinR→yC,size_push'→y8,isub_int→zK,entry_list_sort→zQ,slot_list_sort→zS,ksk_tail→zU,failedOf→zW
open PySem renaming wpAny_bind→c5,sizeLine→c9,wpAny→dC,wpAny_pure→dE,model→dF,starEach→dG,mainGlobals→dS,wpAny_mono→eB,eval→eU,sizeLine_eq→fC,compareOp→fM,wpAny_Call_Name_kw→fR,wpAny_holding→fW,backTo→fZ,keywordEach→gI,wpAny_field→hZ,codeAny_mono→h8,behindInMarks→iB,codeAny→iJ,wpAny_passesOwn→iK,wpAny_truthy_bool→iP,wpAny_loadPart_at→iQ,boot_len→iT,sysModules→iZ,backToKw→i6,wpAny_standAt→jL,attributeBase→jO,wpAny_setField_rec→jS,holding→j6,sliceBounds→kN,cLine→kR,wpAny_execs_nil→lA,rawInt→lB,wpAny_isSubtype_exc→lI,standAt→lK,wpAny_setField→lT,wpAny_call→lU,binaryOp→lZ,wpAny_newObj_type→mI,swapsWith→mX,getMethod→mZ,callWith→m5,call_meets→nH,assignEach→nI,letOwnedTupleGo→nO,codeAny_builtin→nU,recursionLimit→oH,setFlight→oQ,tupleKind_room_in1→pG,stored→pJ,closureFor→pT,builtinsNs→pV,assign→pW,valueAt→qK,foldedSetIterable→qU,callerA→qW,plainObj_wpAny_Assign_Attribute→q8,wpAny_lookBehind→rG,tupleKind→rH,pastItsLine_dict→rM,noteFrame→rP,subscripted→sH,seqIndex_of→sJ,setAttr→tV,relabel→tX,getItem→uF,wpAny_loadPart→uG,pyNext→uJ,atKey→vJ,wpAny_newList→wE,wpAny_comprehension_free→wF,plainId_quiet→wL,bindL→xX,bindC→xY,wpAny_pyNext_range_end→x8,wpAny_pyNext_list_item→x9,wpAny_pyIter_rangeiter→yA,wpAny_nsSet1→yB,isTrue→yD,wpAny_pyNext_list_end→yE,wpAny_isTrue_Compare1→yF,wpAny_newFunctionEnv→yH,wpAny_letGo→yI,lookup_relabel_local→yL,codeAny_call_builtin→yN,bindArgs→yO,wpAny_rule→yR,wpAny_pyIter_range→yS,wpAny_Name→y0,typeLookup→y3,typeIs_str→y4,typeIs_int→y6,pyIter→y9,getattributeRaised→zA,defaultsOf→zB,wpAny_pyIter_list→zC,wpAny_pyIter_enum→zD,wpAny_assign_Name→zE,slot_list_getitem→zF,setItem→zG,wpAny_execs_cons→zL,wpAny_call_entry→zM,rule→zN,raiseStmt→zO,cellsFrom→zP,wpAny_newTuple→zR,setField→zT,fitsIndex_both→zV,wpAny_attempt→zX,rangeSize_one→zY,intBits_le_64→zZ,evalPart_none→z5,call_list_seq→z6
open PySem.Around renaming under_plainId→kC
open PySem.AutoSeq1 renaming wpAny_loadPart'→yT
open PySem.F renaming plainAttrs_list→eD,type_list_extend→iV
open PySem.Heap renaming lt_size→dR
open PySem.Obj renaming mapSeq→gE,mapFields→pZ
open PySem.Str renaming ofString→c7,empty→xV
open PySem.W renaming mg_of→fV,mg_none_of→gL,specialIn→iX,emptyDict→iY,keepIn→i8,codeHdIn→jI,kia_one→jV,callWith_K→j9,methodCall_KW→kD,instObj→lY,tabObj→nJ,plainGet_of→nK,plainGet→nL,kitOne→nP,cellsFrom_some→nV,readsIn→o4,kla_obj→pA,findCls→pF,plainOver→pX,methodObj→pY,codeHd_of_K→qV,callWith_K0→qX,takesIn→rJ,makesIn→rQ,method_cls→sL,kitx_list→uN,kitx_dict→uO,cls_value→vG,lookIn→vM,handedIn→xU,kitMeta→yM,isFn→yP,kla_fn→zJ
namespace L2
open PySem PySem.Spec PyProof.Rows
abbrev Key:=Sum Int Str
def jGN:Key->Value->Bool
 | .inl k,v=>Value.isInt k v
 | .inr x,v=>Value.isStrOf x v
def keyH(w:World):Key->Int
 | .inl k=>hashInt k
 | .inr x=>hashStr w x
theorem jBw:∀ {k:Key} {v:Value},jGN k v=true->(∃ i t,k=Sum.inl i/\v=Value.int i t)\/(∃ x t,k=Sum.inr x/\v=Value.str x t)
 | .inl i,v,h=>by
   obtain⟨t,e⟩:=Value.isInt_shape (k:=i) (v:=v) h;exact .inl ⟨i,t,rfl,e⟩
 | .inr x,v,h=>by
   obtain⟨t,e⟩:=Value.isStrOf_shape (x:=x) (v:=v) h;exact .inr ⟨x,t,rfl,e⟩
theorem jNY(i:Int)(t:Tok):jGN (.inl i) (.int i t)=true:=by simp [jGN,Value.isInt]
theorem jNZ(x:Str)(t:Tok):jGN (.inr x) (.str x t)=true:=by simp [jGN,Value.isStrOf]
theorem key_ll(a b:Int):decide ((Sum.inl a:Key)=Sum.inl b)=(a==b):=by
 by_cases e:a=b
 ·subst e;simp
 ·have h:¬ (Sum.inl a:Key)=Sum.inl b:=fun q=>e (Sum.inl.inj q);rw [decide_eq_false h];exact (beq_eq_false_iff_ne.mpr e).symm
theorem key_rr(a b:Str):decide ((Sum.inr a:Key)=Sum.inr b)=decide (a=b):=by
 by_cases e:a=b
 ·subst e;simp
 ·have h:¬ (Sum.inr a:Key)=Sum.inr b:=fun q=>e (Sum.inr.inj q);rw [decide_eq_false h,decide_eq_false e]
theorem key_lr(a:Int)(b:Str):decide ((Sum.inl a:Key)=Sum.inr b)=false:=decide_eq_false (fun q=>nomatch q)
theorem key_rl(a:Str)(b:Int):decide ((Sum.inr a:Key)=Sum.inl b)=false:=decide_eq_false (fun q=>nomatch q)
def oB(prog:Program)(w:World):PySem.KeyKind prog w Key where
 is:=jGN
 hash:=keyH w
 inj:=fun v a b ha hb=>by
  rcases jBw ha with⟨i,t,rfl,rfl⟩|⟨x,t,rfl,rfl⟩
  ·rcases jBw hb with⟨j,u,rfl,e⟩|⟨y,u,rfl,e⟩
   ·injection e with e1 _;rw [e1]
   ·exact nomatch e
  ·rcases jBw hb with⟨j,u,rfl,e⟩|⟨y,u,rfl,e⟩
   ·exact nomatch e
   ·injection e with e1 _;rw [e1]
 byValue:=fun k v h=>by
  rcases jBw h with⟨i,t,rfl,rfl⟩|⟨x,t,rfl,rfl⟩<;>rfl
 pyHash:=fun hv h=>by
  rcases jBw hv with⟨i,t,rfl,rfl⟩|⟨x,t,rfl,rfl⟩
  ·exact wpAny_pyHash_int h
  ·exact wpAny_pyHash_str h
 eqBool:=fun hu hv h=>by
  rcases jBw hu with⟨i,t,rfl,rfl⟩|⟨x,t,rfl,rfl⟩
  ·rcases jBw hv with⟨j,u,rfl,rfl⟩|⟨y,u,rfl,rfl⟩
   ·rw [key_ll] at h;exact wpAny_eqBool_int h
   ·rw [key_lr] at h;exact SeqAt.EqAt.int_str i t y u _ _ _ _ h
  ·rcases jBw hv with⟨j,u,rfl,rfl⟩|⟨y,u,rfl,rfl⟩
   ·rw [key_rl] at h;exact SeqAt.EqAt.str_int x t j u _ _ _ _ h
   ·rw [key_rr] at h;exact wpAny_eqBool_str h
 «strs»:=fun k x t v h=>by
  rcases jBw h with⟨i,u,rfl,e⟩|⟨y,u,rfl,e⟩
  ·exact nomatch e
  ·injection e with e1 _;subst e1;cases v<;>rfl
theorem jMO(prog:Program)(w:World)(i:Int)(t:Tok):(oB prog w).is (.inl i) (.int i t)=true:=jNY i t
theorem jMP(prog:Program)(w:World)(x:Str)(t:Tok):(oB prog w).is (.inr x) (.str x t)=true:=jNZ x t
inductive V where
 | non|bl (b:Bool)|int (i:Int)|str (x:Str)|byt (b:Array UInt8)|flt (b:UInt64)|ref (a:Addr)|ty (n:String)
 deriving DecidableEq
def gN:V->Value->Prop
 | .non,u=>u=Value.none
 | .bl b,u=>u=Value.bool b
 | .int i,u=>∃ t,u=Value.int i t
 | .str x,u=>∃ t,u=Value.str x t
 | .byt b,u=>∃ t,u=bytes b t
 | .flt b,u=>∃ t,u=float b t
 | .ref a,u=>u=Value.ref a
 | .ty n,u=>u=type n
abbrev gX:List V->List Value->Prop:=Paired gN
theorem gX.length(r:gX xs us):xs.length=us.length:=Paired.length r
theorem gX.get:∀ {xs:List V} {us:List Value} {i:Nat} {x:V},gX xs us->xs[i]?=some x->∃ u,us[i]?=some u/\gN x u
 | _,_,_,_,.nil,e=>by simp at e
 | _,_,0,_,.cons r _,e=>by simp at e;subst e;exact⟨_,rfl,r⟩
 | _,_,i+1,x,.cons _ t,e=>by
   obtain⟨u,h1,h2⟩:=gX.get (i:=i) (x:=x) t (by simpa using e);exact⟨u,by simpa using h1,h2⟩
theorem gX.set(r:gN x u):∀ {xs:List V} {us:List Value} (i:Nat),gX xs us->gX (xs.set i x) (us.set i u)
 | _,_,_,.nil=>.nil
 | _,_,0,.cons _ t=>.cons r t
 | _,_,i+1,.cons q t=>.cons q (gX.set r i t)
theorem gX.append:∀ {xs ys:List V} {us ws:List Value},gX xs us->gX ys ws->gX (xs++ys) (us++ws)
 | _,_,_,_,.nil,s=>s
 | _,_,_,_,.cons r t,s=>.cons r (gX.append t s)
theorem gX.take:∀ {xs:List V} {us:List Value} (n:Nat),gX xs us->gX (xs.take n) (us.take n)
 | _,_,0,_=>.nil
 | _,_,_+1,.nil=>.nil
 | _,_,n+1,.cons r t=>.cons r (gX.take n t)
theorem gX.drop:∀ {xs:List V} {us:List Value} (n:Nat),gX xs us->gX (xs.drop n) (us.drop n)
 | _,_,0,r=>r
 | _,_,_+1,.nil=>.nil
 | _,_,n+1,.cons _ t=>gX.drop n t
def pM:Option V->Option Value->Prop
 | some v,some u=>gN v u
 | none,none=>True
 | _,_=>False
def KV{κ:Type}:List (κ×V)->List (κ×Value)->Prop:=Paired fun (p:κ×V) (q:κ×Value)=>p.1=q.1/\gN p.2 q.2
def kV:Key->V
 | .inl i=>.int i
 | .inr x=>.str x
inductive HO where
 | lst (xs:List V)
 | tup (xs:List V)
 | dK (kvs:List (Key×V))|dT (kvs:List (List Key×V))
 | set (S:Int->Bool) (n:Nat)
 | ins (C dx:Addr) (fs:List (Str×V))
 | own (x:Addr)
 | xd (fs:List (Str×V))
 | met (f x:Addr)
 | rng (lo hi:Int)
 | frz (o:Obj) (u:HO)
 | tbl (ps:Array Value)
 | ext (φ:Heap->Prop)
abbrev Hp:=Addr->Option HO
def upd(H:Hp)(a:Addr)(o:HO):Hp:=fun b=>if b=a then some o else H b
theorem d4:upd H a o a=some o:=by unfold upd;rw [if_pos rfl]
theorem dW(h:b≠a):upd H a o b=H b:=by unfold upd;rw [if_neg h]
theorem uY:upd (upd H a o) a u=upd H a u:=by
 funext b;unfold upd;split<;>rfl
theorem eW{H:Hp}{a b:Addr}{o u:HO}(h:H a=some o)(h':H b=some u)(d:o≠u):a≠b:=by
 intro e;subst e;rw [h] at h';exact d (Option.some.inj h')
theorem eJ{H:Hp}{a b:Addr}{o:HO}(h:H a=some o)(h':H b=none):a≠b:=by
 intro e;subst e;rw [h] at h';cases h'
section
variable (P:Program)(w:World)
def lO(H:Hp)(h:Heap)(a:Addr):HO->Prop
 | .lst xs=>xs.length<=c9/\∃ (its:List Value) (n:Nat),gX xs its/\h.get? a=some { cls:=.type "list",data:=.seq its.toArray n }
 | .tup xs=>xs.length<=c9/\∃ its:List Value,gX xs its/\IsTup h a its.toArray
 | .dK kvs=>kvs.length<=c9/\(a==iZ)=false/\∃ vs,KV kvs vs/\h.DictOf (oB P w) a vs
 | .dT kvs=>kvs.length<=c9/\(a==iZ)=false/\∃ xs:List (List Key×Addr×Value),
  Paired (fun (p:List Key×V) (q:List Key×Addr×Value)=>p.1=q.1/\H q.2.1=some (.tup (p.1.map kV))/\gN p.2 q.2.2) kvs xs /\
  ∃ o es ep,h.get? a=some o/\o.ExactDict/\o.data=.dict es ep/\es.toList=xs.map (entryOfKey (rH (oB P w)))/\(xs.map (·.1)).Nodup
 | .set S n=>h.SetOf (intKind P w) a S n
 | .ins C dx fs=>H dx=some (.own a)/\fs.length<=1000/\dx≠a/\h.get? a=some (lY C dx) /\
  ∃ mA,h.Ns1 dx mA/\(∀ f,pM (fs.lookup f) (mA f))/\PySem.Within mA (fs.map (·.1))
 | .own _=>∃ o,h.get? a=some o
 | .xd fs=>∃ mA,h.Ns1 a mA/\∀ f,pM (fs.lookup f) (mA f)
 | .rng lo hi=>∃ t u v,h.get? a=some { cls:=.type "range",data:=.fields #[.int lo t,.int hi u,.int 1 v] }
 | .frz o u=>h.get? a=some o/\lO H h a u
 | .tbl ps=>h.get? a=some { cls:=.none,data:=.fields ps }
 | .met f x=>h.get? a=some (pY (.ref f) (.ref x))
 | .ext φ=>φ h/\(∃ o,h.get? a=some o)/\∀ h1 h2:Heap,φ h1->(∀ o,h1.get? a=some o->h2.get? a=some o)->φ h2
def HOk(H:Hp)(h:Heap):Prop:=∀ a o,H a=some o->lO P w H h a o
end
section
variable {P:Program}{w:World}{H H':Hp}{h h':Heap}{a:Addr}{o:HO}
theorem lO.lt(x:lO P w H h a o):a<h.objs.size:=by
 cases o with
 | lst xs=>obtain⟨_,_,_,_,e⟩:=x;exact dR e
 | tup xs=>obtain⟨_,_,_,p⟩:=x;exact p.lt
 | dK kvs=>obtain⟨_,_,_,_,o,_,_,e,_⟩:=x;exact dR e
 | dT kvs=>obtain⟨_,_,_,_,o,_,_,e,_⟩:=x;exact dR e
 | set S n=>obtain⟨o,_,_,_,e,_⟩:=x;exact dR e
 | ins C dx fs=>obtain⟨_,_,_,e,_⟩:=x;exact dR e
 | own y=>obtain⟨_,e⟩:=x;exact dR e
 | xd fs=>obtain⟨_,⟨_,_,_,e,_⟩,_⟩:=x;exact dR e
 | rng lo hi=>obtain⟨_,_,_,e⟩:=x;exact dR e
 | frz ob u=>obtain⟨e,_⟩:=x;exact dR e
 | tbl ps=>exact dR (show h.get? a=some _ from x)
 | met f y=>exact dR (show h.get? a=some _ from x)
 | ext φ=>obtain⟨_,⟨_,e⟩,_⟩:=x;exact dR e
theorem Paired.mapP:∀ {l₁:List α} {l₂:List β},Paired F l₁ l₂->(∀ a b,F a b->G a b)->Paired G l₁ l₂
 | _,_,.nil,_=>.nil
 | _,_,.cons r t,f=>.cons (f _ _ r) (Paired.mapP t f)
theorem lO.stay(x:lO P w H h a o)(k:∀ b u,(b=a\/H b=some (.own a))->h.get? b=some u->h'.get? b=some u) 
 (ho:∀ b,H b=some (.own a)->H' b=some (.own a)) (ht:∀ b xs,H b=some (.tup xs)->H' b=some (.tup xs)):lO P w H' h' a o:=by
 induction o with
 | lst xs=>obtain⟨z,its,n,r,e⟩:=x;exact⟨z,its,n,r,k _ _ (.inl rfl) e⟩
 | tup xs=>obtain⟨z,its,r,ob,e,c⟩:=x;exact⟨z,its,r,ob,k _ _ (.inl rfl) e,c⟩
 | dK kvs=>obtain⟨z,y,vs,r,ob,es,ep,e,c⟩:=x;exact⟨z,y,vs,r,ob,es,ep,k _ _ (.inl rfl) e,c⟩
 | dT kvs =>
   obtain⟨z,y,xs,r,ob,es,ep,e,c⟩:=x;exact⟨z,y,xs,Paired.mapP r fun p q z=>⟨z.1,ht _ _ z.2.1,z.2.2⟩,ob,es,ep,k _ _ (.inl rfl) e,c⟩
 | set S n=>obtain⟨ob,es,ep,t,e,c⟩:=x;exact⟨ob,es,ep,t,k _ _ (.inl rfl) e,c⟩
 | ins C dx fs =>
   obtain⟨d,z,ne,e,mA,⟨od,es,ep,e2,c⟩,r⟩:=x;exact⟨ho _ d,z,ne,k _ _ (.inl rfl) e,mA,⟨od,es,ep,k _ _ (.inr d) e2,c⟩,r⟩
 | own y=>obtain⟨ob,e⟩:=x;exact⟨ob,k _ _ (.inl rfl) e⟩
 | xd fs=>obtain⟨mA,⟨od,es,ep,e,c⟩,r⟩:=x;exact⟨mA,⟨od,es,ep,k _ _ (.inl rfl) e,c⟩,r⟩
 | rng lo hi=>obtain⟨t,u,v,e⟩:=x;exact⟨t,u,v,k _ _ (.inl rfl) e⟩
 | frz ob u ih=>obtain⟨e,q⟩:=x;exact⟨k _ _ (.inl rfl) e,ih q⟩
 | tbl ps =>
   have e:h.get? a=some { cls:=.none,data:=.fields ps }:=x;show h'.get? a=some { cls:=.none,data:=.fields ps };exact k a _ (.inl rfl) e
 | met f y =>
   have e:h.get? a=some (pY (.ref f) (.ref y)):=x;show h'.get? a=some (pY (.ref f) (.ref y));exact k a _ (.inl rfl) e
 | ext φ=>obtain⟨p,⟨o,e⟩,st⟩:=x;exact⟨st _ _ p fun o q=>k _ _ (.inl rfl) q,⟨o,k _ _ (.inl rfl) e⟩,st⟩
theorem HOk.lt(x:HOk P w H h)(e:H a=some o):a<h.objs.size:=(x a o e).lt
theorem HOk.fresh(x:HOk P w H h)(e:h.objs.size<=a):H a=none:=by
 cases q:H a with
 | none=>rfl
 | some u=>exact absurd (dO (x.lt q) e) (gG _)
theorem HOk.kept(x:HOk P w H h)(k:∀ b u,h.get? b=some u->h'.get? b=some u):HOk P w H h':=fun a o e =>
 (x a o e).stay (fun b u _ q=>k b u q) (fun _ q=>q) fun _ _ q=>q
theorem HOk.laid(x:HOk P w H h)(k:∀ b u,h.get? b=some u->h'.get? b=some u)(hp:h.objs.size<=a)(new:lO P w (upd H a o) h' a o):HOk P w (upd H a o) h':=fun b u e=>by
 have hn:=x.fresh hp;by_cases hb:b=a
 ·subst hb;rw [d4] at e;cases e;exact new
 ·rw [dW hb] at e;exact (x b u e).stay (fun c v _ q=>k c v q) (fun c q=>by rw [dW (eJ q hn)];exact q) fun c xs q=>by rw [dW (eJ q hn)];exact q
end
def Rd(H:Hp)(a:Addr)(u:HO):Prop:=H a=some u\/∃ o,H a=some (.frz o u)
theorem Rd.ok(r:Rd H a u)(x:HOk P w H h):lO P w H h a u:=by
 rcases r with r|⟨o,r⟩
 ·exact x a u r
 ·obtain⟨_,q⟩:=x a _ r;exact q
def Mut:Option HO->Prop
 | some (.lst _)=>True
 | some (.dK _)=>True
 | some (.dT _)=>True
 | some (.set _ _)=>True
 | some (.ins _ _ _)=>True
 | some (.ext _)=>True
 | _=>False
section
variable {P:Program}{w:World}{H:Hp}{h h':Heap}{x e:Addr}{o':HO}
theorem HOk.write(ok:HOk P w H h)(mu:Mut (H x))(he:e=x\/H e=some (.own x))(k:∀ b u,b≠e->h.get? b=some u->h'.get? b=some u)(heo:∃ u,h'.get? e=some u) 
 (new:lO P w (upd H x o') h' x o'):HOk P w (upd H x o') h':=fun b u q=>by
 have nown:∀ c y,H c=some (.own y)->c≠x:=fun c y r z=>by subst z;rw [r] at mu;exact mu
 have ntup:∀ c xs,H c=some (.tup xs)->c≠x:=fun c xs r z=>by subst z;rw [r] at mu;exact mu
 by_cases hb:b=x
 ·subst hb;rw [d4] at q;cases q;exact new
 ·rw [dW hb] at q;by_cases hbe:b=e
  ·have q':H b=some (.own x):=by
    rcases he with z|z
    ·exact absurd (hbe.trans z) hb
    ·rw [hbe];exact z
   rw [q] at q';cases q';obtain⟨v,hv⟩:=heo;exact⟨v,by rw [hbe];exact hv⟩
  ·refine (ok b u q).stay (fun c v hc r=>k c v ?_ r) (fun c r=>by rw [dW (nown c b r)];exact r) fun c xs r=>by rw [dW (ntup c xs r)];exact r
   rcases hc with rfl|hc
   ·exact hbe
   ·rintro rfl;rcases he with z|z
    ·exact nown c b hc z
    ·rw [hc] at z;cases z;exact hb rfl
end
structure Un(fs ex:List Addr)(H H':Hp)(h h':Heap):Prop where
 keep:∀ b o,h.get? b=some o->H b=none->b ∉ fs->b ∉ ex->h'.get? b=some o
 slot:∀ b o,h.get? b=some o->H b=none->b∈fs->b ∉ ex->∃ sl,h'.get? b=some { o with slots:=sl }
 free:∀ b o,h.get? b=some o->H b=none->b ∉ ex->H' b=none
 there:∀ b o,h.get? b=some o->b ∉ ex->∃ o',h'.get? b=some o'
 tups:∀ b xs,H b=some (.tup xs)->H' b=some (.tup xs)
 frzs:∀ b o u,H b=some (.frz o u)->H' b=some (.frz o u)
 tbls:∀ b ps,H b=some (.tbl ps)->∃ more,H' b=some (.tbl (ps++more))
section
variable {fs fs' ex ex':List Addr}{H H1 H2:Hp}{h h1 h2 h':Heap}{a x e:Addr}{o:HO}
theorem Un.any(u:Un fs ex H H1 h h1)(q:h.get? b=some ob)(n:H b=none)(hx:b ∉ ex):∃ sl,h1.get? b=some { ob with slots:=sl }:=by
 by_cases hb:b∈fs
 ·exact u.slot b ob q n hb hx
 ·exact⟨ob.slots,u.keep b ob q n hb hx⟩
theorem Un.kept(k:∀ b u,h.get? b=some u->h'.get? b=some u):Un fs ex H H h h' :=
 ⟨fun b ob q _ _ _=>k b ob q,fun b ob q _ _ _=>⟨ob.slots,k b ob q⟩,fun _ _ _ n _=>n,fun b ob q _=>⟨ob,k b ob q⟩,fun _ _ q=>q,fun _ _ _ q=>q,fun _ ps q=>⟨#[],by rw [q];simp⟩⟩
theorem Un.refl:Un fs ex H H h h:=Un.kept fun _ _ q=>q
theorem Un.laid(k:∀ b u,h.get? b=some u->h'.get? b=some u)(hp:h.objs.size<=a)(hn:H a=none):Un fs ex H (upd H a o) h h' where
 keep:=fun b u q _ _ _=>k b u q
 slot:=fun b u q _ _ _=>⟨u.slots,k b u q⟩
 free:=fun b u q n _=>by rw [dW (eA (dO (dR q) hp))];exact n
 there:=fun b u q _=>⟨u,k b u q⟩
 tups:=fun b xs q=>by rw [dW (eJ q hn)];exact q
 frzs:=fun b u xs q=>by rw [dW (eJ q hn)];exact q
 tbls:=fun b ps q=>⟨#[],by rw [dW (eJ q hn),q];simp⟩
theorem Un.write(mu:Mut (H x))(he:e=x\/H e=some (.own x))(k:∀ b u,b≠e->h.get? b=some u->h'.get? b=some u)(heo:∃ u,h'.get? e=some u):Un fs ex H (upd H x o) h h':=by
 have hx:∀ b,H b=none->b≠x:=fun b n z=>by subst z;rw [n] at mu;exact mu
 have hb:∀ b,H b=none->b≠e:=fun b n z=>by
  subst z;rcases he with r|r
  ·exact hx b n r
  ·rw [n] at r;cases r
 have hm:∀ b u,H b=some u->¬ Mut (some u)->b≠x:=fun b u q nm z=>by subst z;rw [q] at mu;exact nm mu
 refine⟨fun b u q n _ _=>k b u (hb b n) q,fun b u q n _ _=>⟨u.slots,k b u (hb b n) q⟩,fun b u q n _=>by rw [dW (hx b n)];exact n,fun b u q _=>?_,
  fun b xs q=>by rw [dW (hm b _ q fun z=>z)];exact q,fun b u xs q=>by rw [dW (hm b _ q fun z=>z)];exact q,fun b ps q=>⟨#[],by rw [dW (hm b _ q fun z=>z),q];simp⟩⟩
 by_cases hbe:b=e
 ·subst hbe;exact heo
 ·exact⟨u,k b u hbe q⟩
end
def trk(h:Heap)(H:Hp):List Addr:=(range h.objs.size).filter fun a=>(H a).isSome
def jGa(h:Heap)(H:Hp):Heap:=PySem.W.hideAll h (trk h H)
theorem jN0(h:Heap)(H:Hp):(jGa h H).objs.size=h.objs.size:=PySem.W.hideAll_size _ _
theorem jO4(e:h.get? b=some o)(n:H b=none):(jGa h H).get? b=some o :=
 PySem.W.hideAll_get _ e fun hm=>by
  have q:(H b).isSome=true:=(mS.mp hm).2;rw [n] at q;simp at q
theorem of_hidT(e:(jGa h H).get? b=some o):h.get? b=some o/\H b=none:=by
 have e':h.get? b=some o:=PySem.W.of_hideAll (trk h H) e;exists e';cases q:H b with
 | none=>rfl
 | some x =>
   have hm:b∈trk h H:=mS.mpr ⟨j8.mpr (dR e'),by simp [q]⟩;have z:(jGa h H).get? b=none:=PySem.W.hideAll_none (trk h H) hm;rw [z] at e;cases e
def allNews(g h:Heap)(L:Addr):List (Addr×Obj):=(range h.objs.size).filterMap fun a=>if a=L\/(g.get? a).isSome=true then none else (h.get? a).map fun o=>(a,o)
def rest(g h:Heap)(L d:Addr):List (Addr×Obj):=(allNews g h L).filter fun p=>decide (p.1≠d)
structure Mod(K:PySem.W.Frag)(mg:Str->Option Value)(base:Heap):Prop where
 kin:K.In base
 glob:base.Ns dS mg
 blt:∃ mb,base.Ns pV mb/\∀ x:Str,x≠"__name__"->mb x=bootBuiltins x
 nolimit:base.NoLimit
/-- the context: a def's body (or a comprehension's block) running. base: fixed through the nA law; s₀, H₀: the entry; outer: the frames whose slots others may change (a def's callers); stack: all frames that run;
 ex: iterators that were made ahead of the entry and are walked here (a comprehension's);fn: the names whose cells were made at the entry (a def: all;a comprehension's block: its own);calm: not within an except wI;pn: b9 that every state bears;xe: what is wanted of an exception that leaves the code -/
structure Cx where
 prog:Program
 w:World
 K:PySem.W.Frag
 mg:Str->Option Value
 base:Heap
 A:Around
 N:List Str
 s₀:Shared
 H₀:Hp
 env:Env
 outer:List Env
 stack:List Env
 ex:List Addr
 fn:Str->Bool
 calm:Bool
 pn:List (Addr×Obj)
 xe:Value->Shared->Prop
def frs(l:List Env):List Addr:=l.filterMap (·.frame)
abbrev Cx.fs(X:Cx):List Addr:=frs X.outer
def Vis(sc:Scope)(x:Str):Prop:=sc.names.lookup x=some .local\/sc.names.lookup x=some .cell\/sc.names.lookup x=some .free
def Loc(sc:Scope)(x:Str):Prop:=sc.names.lookup x=some .local\/sc.names.lookup x=some .cell
def Look(env:Env)(h:Heap)(m:Str->Option Value)(x:Str)(u:Value):Prop :=
 (env.kindOf x=some .local/\m x=some u)\/((env.kindOf x=some .cell\/env.kindOf x=some .free)/\∃ c,env.cells.lookup x=some c/\h.IsCell c (some u))
structure Cx.Ok(X:Cx):Prop where
 mod:Mod X.K X.mg X.base
 kind:X.env.scope.kind=.function
 glob:X.env.globals=dS
 blt:X.env.builtins=pV
 above:X.s₀.heap.objs.size<=X.env.locals
 inj:∀ x y c,X.env.cells.lookup x=some c->X.env.cells.lookup y=some c->x=y
 has:∀ x,(X.env.kindOf x=some .cell\/X.env.kindOf x=some .free)->∃ c,X.env.cells.lookup x=some c
 cab:∀ x c,X.fn x=true->X.env.cells.lookup x=some c->X.s₀.heap.objs.size<=c
 hd:X.calm=true->X.A.handled=none
 frames:X.A.frames=some X.stack
 stk:X.stack=X.outer\/(X.stack=X.env::X.outer/\X.env.frame=some X.env.locals)
 exf:∀ b∈X.ex,b≠X.env.locals/\∀ x c,X.env.cells.lookup x=some c->c≠b
 bs:∀ b o,X.base.get? b=some o->X.s₀.heap.get? b=some o/\X.H₀ b=none
 bsz:X.base.objs.size<=X.s₀.heap.objs.size
 noex:∀ b o,X.base.get? b=some o->b ∉ X.ex
 exfs:∀ b∈X.ex,b ∉ X.fs
 funs:X.s₀.heap.FunFrames X.base X.outer
 frf:∀ b∈X.fs,X.H₀ b=none
structure Inv(X:Cx)(b9:List (Addr×Obj))(σ:List (Option V))(H:Hp)(s:Shared):Prop where
 ok:X.Ok
 os:s.os=X.s₀.os
 bare:AllBare s.gens
 base:Un X.fs X.ex X.H₀ H X.s₀.heap s.heap
 loc:∃ m,s.heap.Ns X.env.locals m/\∀ (i:Nat) (x:Str) (v:V),X.N[i]?=some x->σ[i]?=some (some v)->Vis X.env.scope x->∃ u,gN v u/\Look X.env s.heap m x u
 cell:∀ x c,X.env.cells.lookup x=some c->∃ v,s.heap.IsCell c v
 free:H X.env.locals=none
 freeC:∀ x c,X.env.cells.lookup x=some c->H c=none
 pin:∀ p∈X.pn++b9,s.heap.get? p.1=some p.2/\H p.1=none/\p.1≠X.env.locals/\p.1 ∉ X.fs/\∀ v,p.2.data≠.cell v
 hok:HOk X.prog X.w H s.heap
 len:σ.length=X.N.length
section
variable {X:Cx}{b9:List (Addr×Obj)}{σ:List (Option V)}{H H':Hp}{s:Shared}{h':Heap}
theorem Cx.Ok.nofr(ok:X.Ok)(e:X.base.get? b=some o):b ∉ X.fs:=fun hb=>by
 have:=(ok.funs.mem hb).1;rw [e] at this;cases this
theorem Inv.bs(I:Inv X b9 σ H s):∀ b o,X.base.get? b=some o->s.heap.get? b=some o/\H b=none:=fun b o e =>
 ⟨I.base.keep b o (I.ok.bs b o e).1 (I.ok.bs b o e).2 (I.ok.nofr e) (I.ok.noex b o e),I.base.free b o (I.ok.bs b o e).1 (I.ok.bs b o e).2 (I.ok.noex b o e)⟩
theorem Inv.bk(I:Inv X b9 σ H s):∀ b o,X.base.get? b=some o->s.heap.get? b=some o:=fun b o e=>(I.bs b o e).1
theorem Inv.mod(I:Inv X b9 σ H s):Mod X.K X.mg X.base:=I.ok.mod
theorem Inv.kIn(I:Inv X b9 σ H s):X.K.In s.heap:=I.ok.mod.kin.keeps I.bk
theorem Inv.lt(I:Inv X b9 σ H s):X.env.locals<s.heap.objs.size:=let ⟨_,hn,_⟩:=I.loc;hn.lt
theorem Inv.sz(I:Inv X b9 σ H s):X.s₀.heap.objs.size<=s.heap.objs.size:=le_trans I.ok.above (iG I.lt)
theorem Inv.nofs(I:Inv X b9 σ H s)(h:s.heap.objs.size<=a):a ∉ X.fs:=fun hb=>by
 obtain⟨_,o,ho,_⟩:=I.ok.funs.mem hb;exact absurd (dO (dR ho) (le_trans I.sz h)) (gG _)
theorem Inv.cne(I:Inv X b9 σ H s):∀ x c,X.env.cells.lookup x=some c->c≠X.env.locals:=fun x c e z=>by
 obtain⟨v,o,ho,hd⟩:=I.cell x c e;obtain⟨m,⟨o',es,ep,ho',hd',_⟩,_⟩:=I.loc;rw [z,ho'] at ho;cases ho;rw [hd'] at hd;cases hd
theorem Inv.funs(I:Inv X b9 σ H s):s.heap.FunFrames X.base X.outer:=by
 have all:∀ (l:List Env),(∀ b∈frs l,b∈X.fs)->X.s₀.heap.FunFrames X.base l->s.heap.FunFrames X.base l:=by
  intro l;induction l with
  | nil=>intro _ _;trivial
  | cons env r ih =>
    intro hs hl;obtain⟨hk,⟨L,o,hf,hn,ho,hd⟩,hr⟩:=hl;have hL:L∈X.fs:=hs L (by unfold frs;rw [jY,hf];exact gB);obtain⟨sl,e⟩:=I.base.slot L o ho (I.ok.frf L hL) hL fun z=>I.ok.exfs L z hL;exact⟨hk,⟨L,_,hf,hn,e,hd⟩,ih (fun b hb=>hs b (by unfold frs;rw [jY,hf];exact fB _ hb)) hr⟩
 exact all X.outer (fun _ hb=>hb) I.ok.funs
theorem Inv.stack(I:Inv X b9 σ H s):s.heap.FunFrames X.base X.stack:=by
 rcases I.ok.stk with e|⟨e,hf⟩
 ·rw [e];exact I.funs
 ·rw [e];obtain⟨m,hn,_⟩:=I.loc;refine .cons (by rw [I.ok.kind];decide) hf hn ?_ I.funs;exact Heap.get?_none_of_le (le_trans I.ok.bsz I.ok.above)
theorem Inv.stkSub(I:Inv X b9 σ H s):∀ b∈frs X.stack,b∈X.env.locals::X.fs:=fun b hb=>by
 rcases I.ok.stk with e|⟨e,hf⟩
 ·rw [e] at hb;exact fB _ hb
 ·rw [e] at hb;unfold frs at hb;rw [jY,hf] at hb;exact hb
theorem Inv.stkFree(I:Inv X b9 σ H s):∀ b∈frs X.stack,H b=none:=fun b hb=>by
 rcases dZ.mp (I.stkSub b hb) with e|hb
 ·rw [e];exact I.free
 ·obtain⟨_,o,ho,_⟩:=I.ok.funs.mem hb;exact I.base.free b o ho (I.ok.frf b hb) fun z=>I.ok.exfs b z hb
theorem Inv.step{g':Array GenState}{t':Nat}{d':Drawn}{ch:List Addr}(I:Inv X b9 σ H s)
 (rE:∀ b∈ch,(b∈X.ex\/X.s₀.heap.objs.size<=b)/\b≠X.env.locals/\(∀ x c,X.env.cells.lookup x=some c->c≠b)/\∀ p∈X.pn++b9,p.1≠b)
 (keep:∀ b o,b≠X.env.locals->b ∉ X.fs->b ∉ ch->s.heap.get? b=some o->H b=none->h'.get? b=some o)
 (slot:∀ b o,b≠X.env.locals->b∈X.fs->b ∉ ch->s.heap.get? b=some o->H b=none->∃ sl,h'.get? b=some { o with slots:=sl }) (free:∀ b o,b ∉ ch->s.heap.get? b=some o->H b=none->H' b=none)
 (there:∀ b o,b ∉ ch->s.heap.get? b=some o->∃ o',h'.get? b=some o')
 (tups:∀ b xs,H b=some (.tup xs)->H' b=some (.tup xs)) (frzs:∀ b o u,H b=some (.frz o u)->H' b=some (.frz o u)) (tbls:∀ b ps,H b=some (.tbl ps)->∃ more,H' b=some (.tbl (ps++more)))
 (ns:∀ m,s.heap.Ns X.env.locals m->h'.Ns X.env.locals m) (hok:HOk X.prog X.w H' h') (hg:AllBare g') :
 Inv X b9 σ H' { s with heap:=h',gens:=g',drawn:=d',toks:=t' }:=by
 have neL:∀ b o,X.s₀.heap.get? b=some o->b≠X.env.locals:=fun b o e=>eA (dO (dR e) I.ok.above);have neC:∀ b o,X.s₀.heap.get? b=some o->b ∉ X.ex->b ∉ ch:=fun b o e hx hb=>by
  rcases (rE b hb).1 with z|z
  ·exact hx z
  ·exact absurd (dO (dR e) z) (gG _)
 have cellK:∀ x c,X.env.cells.lookup x=some c->∀ v,s.heap.IsCell c v->h'.IsCell c v:=fun x c e v ⟨o,ho,hd⟩=>by
  have nch:c ∉ ch:=fun z=>(rE c z).2.2.1 x c e rfl;by_cases hc:c∈X.fs
  ·obtain⟨sl,q⟩:=slot c o (I.cne x c e) hc nch ho (I.freeC x c e);exact⟨_,q,hd⟩
  ·exact⟨o,keep c o (I.cne x c e) hc nch ho (I.freeC x c e),hd⟩
 refine⟨I.ok,I.os,hg,⟨fun b o e n hb hx=>?_,fun b o e n hb hx=>?_,fun b o e n hx=>?_,fun b o e hx=>?_,fun b xs e=>tups b xs (I.base.tups b xs e),fun b o xs e=>frzs b o xs (I.base.frzs b o xs e),fun b ps e=>?_⟩,?_,fun x c e=>?_,?_,fun x c e=>?_,fun p hp=>?_,hok,I.len⟩
 ·exact keep b o (neL b o e) hb (neC b o e hx) (I.base.keep b o e n hb hx) (I.base.free b o e n hx)
 ·obtain⟨sl,e1⟩:=I.base.slot b o e n hb hx;obtain⟨sl',e2⟩:=slot b _ (neL b o e) hb (neC b o e hx) e1 (I.base.free b o e n hx);exact⟨sl',e2⟩
 ·obtain⟨o',e1⟩:=I.base.there b o e hx;exact free b o' (neC b o e hx) e1 (I.base.free b o e n hx)
 ·obtain⟨o',e1⟩:=I.base.there b o e hx;exact there b o' (neC b o e hx) e1
 ·obtain⟨m1,e1⟩:=I.base.tbls b ps e;obtain⟨m2,e2⟩:=tbls b _ e1;exact⟨m1++m2,by rw [e2,Array.append_assoc]⟩
 ·obtain⟨m,hn,hl⟩:=I.loc;refine⟨m,ns m hn,fun i x v e1 e2 e3=>?_⟩;obtain⟨u,r,l⟩:=hl i x v e1 e2 e3;exists u,r;rcases l with l|⟨k,c,e,z⟩
  ·exact .inl l
  ·exact .inr ⟨k,c,e,cellK x c e _ z⟩
 ·obtain⟨v,z⟩:=I.cell x c e;exact⟨v,cellK x c e v z⟩
 ·obtain⟨m,⟨o,_,_,ho,_⟩,_⟩:=I.loc;exact free _ o (fun z=>(rE _ z).2.1 rfl) ho I.free
 ·obtain⟨v,o,ho,hd⟩:=I.cell x c e;exact free c o (fun z=>(rE c z).2.2.1 x c e rfl) ho (I.freeC x c e)
 ·obtain⟨e,n,ne,nf,d⟩:=I.pin p hp;have nch:p.1 ∉ ch:=fun z=>(rE p.1 z).2.2.2 p hp rfl;exact⟨keep p.1 p.2 ne nf nch e n,free p.1 p.2 nch e n,ne,nf,d⟩
theorem Inv.un{t':Nat}(I:Inv X b9 σ H s)(u:Un X.fs [] H H' s.heap h')(hok:HOk X.prog X.w H' h'):Inv X b9 σ H' { s with heap:=h',toks:=t' }:=by
 obtain⟨m,⟨o,es,ep,ho,r⟩,_⟩:=id I.loc;obtain⟨sl,hL⟩:=u.any ho I.free (by simp)
 exact I.step (g':=s.gens) (d':=s.drawn) (ch:=[]) (fun _ z=>nomatch z) (fun b o _ hb _ e n=>u.keep b o e n hb (by simp)) (fun b o _ hb _ e n=>u.slot b o e n hb (by simp)) (fun b o _ e n=>u.free b o e n (by simp)) (fun b o _ e=>u.there b o e (by simp)) u.tups u.frzs u.tbls (fun m' hm=>by
  obtain⟨o',es',ep',ho',r'⟩:=hm;rw [ho] at ho';cases ho'
  exact⟨_,es',ep',hL,r'⟩) hok I.bare
theorem Inv.call{g':Array GenState}{t':Nat}{d':Drawn}{ch:List Addr}(I:Inv X b9 σ H s)(u:Un (frs X.stack) ch H H' s.heap h')(hok:HOk X.prog X.w H' h')(hg:AllBare g')
 (rE:∀ b∈ch,(b∈X.ex\/X.s₀.heap.objs.size<=b)/\b≠X.env.locals/\(∀ x c,X.env.cells.lookup x=some c->c≠b)/\∀ p∈X.pn++b9,p.1≠b) :
 Inv X b9 σ H' { s with heap:=h',gens:=g',drawn:=d',toks:=t' }:=by
 obtain⟨m,⟨o,es,ep,ho,r⟩,_⟩:=id I.loc;obtain⟨sl,hL⟩:=u.any ho I.free fun z=>(rE _ z).2.1 rfl
 exact I.step (ch:=ch) rE (fun b o hL hb hc e n=>u.keep b o e n (fun z=>(dZ.mp (I.stkSub b z)).elim hL hb) hc) (fun b o _ _ hc e n=>u.any e n hc) (fun b o hc e n=>u.free b o e n hc) (fun b o hc e=>u.there b o e hc) u.tups u.frzs u.tbls (fun m' hm=>by
  obtain⟨o',es',ep',ho',r'⟩:=hm;rw [ho] at ho';cases ho'
  exact⟨_,es',ep',hL,r'⟩) hok hg
theorem Inv.turned{t':Nat}{it:Addr}(I:Inv X b9 σ H s)(k:∀ b o,b≠it->s.heap.get? b=some o->h'.get? b=some o)(hn:H it=none)(hL:it≠X.env.locals)
 (h1:it∈X.ex\/X.s₀.heap.objs.size<=it) (h2:∀ x c,X.env.cells.lookup x=some c->c≠it) (h3:∀ p∈X.pn++b9,p.1≠it):Inv X b9 σ H { s with heap:=h',toks:=t' }:=by
 have nit:∀ b u,H b=some u->b≠it:=fun b u e z=>by rw [z,hn] at e;cases e
 refine I.step (g':=s.gens) (d':=s.drawn) (ch:=[it]) (fun b hb=>?_) (fun b o _ _ hc e _=>k b o (fun z=>hc (by simp [z])) e) (fun b o _ _ hc e _=>⟨o.slots,k b o (fun z=>hc (by simp [z])) e⟩) (fun _ _ _ _ n=>n)
  (fun b o hc e=>⟨o,k b o (fun z=>hc (by simp [z])) e⟩) (fun _ _ e=>e) (fun _ _ _ e=>e) (fun b ps e=>⟨#[],by rw [e];simp⟩) (fun m hm=>?_) (fun b u e=>?_) I.bare
 ·have e:b=it:=by simpa using hb
  subst e;exact⟨h1,hL,h2,h3⟩
 ·obtain⟨o,es,ep,ho,r⟩:=hm;exact⟨o,es,ep,k _ o (symm hL) ho,r⟩
 ·refine (I.hok b u e).stay (fun c v hc q=>k c v ?_ q) (fun _ q=>q) fun _ _ q=>q;rcases hc with z|z
  ·rw [z];exact nit b u e
  ·exact nit c _ z
theorem Inv.tok(I:Inv X b9 σ H s)(t:Nat):Inv X b9 σ H { s with toks:=t }:=I.un (h':=s.heap) (t':=t) Un.refl I.hok
theorem Inv.kept(I:Inv X b9 σ H s)(k:∀ b u,s.heap.get? b=some u->h'.get? b=some u):Inv X b9 σ H { s with heap:=h',toks:=t' }:=I.un (Un.kept k) (I.hok.kept k)
theorem Inv.laid(I:Inv X b9 σ H s)(k:∀ b u,s.heap.get? b=some u->h'.get? b=some u)(hp:s.heap.objs.size<=a)(new:lO X.prog X.w (upd H a o) h' a o) :
 Inv X b9 σ (upd H a o) { s with heap:=h',toks:=t' }:=I.un (Un.laid k hp (I.hok.fresh hp)) (I.hok.laid k hp new)
theorem Inv.write(I:Inv X b9 σ H s)(mu:Mut (H x))(he:e=x\/H e=some (.own x))(k:∀ b u,b≠e->s.heap.get? b=some u->h'.get? b=some u)(heo:∃ u,h'.get? e=some u) 
 (new:lO X.prog X.w (upd H x o) h' x o):Inv X b9 σ (upd H x o) { s with heap:=h',toks:=t' }:=I.un (Un.write mu he k heo) (I.hok.write mu he k heo new)
theorem Inv.pins_of(I:Inv X b9 σ H s)(h:∀ p∈pins',s.heap.get? p.1=some p.2/\H p.1=none/\p.1≠X.env.locals/\p.1 ∉ X.fs/\∀ v,p.2.data≠.cell v):Inv X pins' σ H s :=
 ⟨I.ok,I.os,I.bare,I.base,I.loc,I.cell,I.free,I.freeC,fun p hp=>(eV.mp hp).elim (fun z=>I.pin p (fX _ z)) (h p),I.hok,I.len⟩
theorem jLB{N:List Str}(hN:N.Nodup){i j:Nat}{x:Str}(a:N[i]?=some x)(b:N[j]?=some x):i=j:=by
 obtain⟨h1,e1⟩:=List.getElem?_eq_some_iff.mp a;obtain⟨h2,e2⟩:=List.getElem?_eq_some_iff.mp b;exact (List.getElem_inj hN).mp (e1.trans e2.symm)
theorem jN1(I:Inv X b9 σ H s)(hN:X.N.Nodup)(hi:X.N[i]?=some x)(hx:Loc X.env.scope x)(r:gN v u) 
 (h:∀ s',Inv X b9 (σ.set i (some v)) H s'->(∃ a,SameBut a s.heap s'.heap/\(a=X.env.locals\/X.env.cells.lookup x=some a))->Q () s') (hf:X.fn x=true\/X.env.scope.names.lookup x=some .local:=by first|exact .inl rfl|exact .inr rfl|assumption):dC M A (storeName X.env x u) Q E s:=by
 obtain⟨m,hn,hl⟩:=id I.loc;have hcls:(X.env.scope.kind==.class||(X.env.scope.kind==.module&&X.env.locals != X.env.globals))=false:=by rw [I.ok.kind];rfl
 have hiσ:i<σ.length:=by rw [I.len];exact (List.getElem?_eq_some_iff.mp hi).1
 have cne:=I.cne;have tT:∀ {a:Addr} {h':Heap},(∃ o,s.heap.get? a=some o/\H a=none)->SameBut a s.heap h'->HOk X.prog X.w H h':=fun {a h'} ha hs b ob e=>by
  obtain⟨_,_,hfree⟩:=ha;refine (I.hok b ob e).stay (fun c w' hc q=>(hs.2 c ?_).trans q) (fun _ q=>q) fun _ _ q=>q;rintro rfl;rcases hc with rfl|hc
  ·rw [hfree] at e;cases e
  ·rw [hfree] at hc;cases hc
 rcases hx with hk|hk
 ·refine wpAny_storeName_local hk hn (fun h' hn' hs=>?_) hcls;obtain⟨oL,_,_,hoL,_⟩:=id hn;refine h _ ⟨I.ok,I.os,I.bare,⟨fun b o e n hb hx=>?_,fun b o e n hb hx=>?_,I.base.free,fun b o e hx=>?_,I.base.tups,I.base.frzs,I.base.tbls⟩,⟨_,hn',fun j y v' e1 e2 e3=>?_⟩,fun y c e=>?_,I.free,I.freeC,fun p hp=>?_,tT ⟨oL,hoL,I.free⟩ hs,by simpa using I.len⟩ ⟨_,hs,.inl rfl⟩
  ·exact (hs.2 b (eA (dO (dR e) I.ok.above))).trans (I.base.keep b o e n hb hx)
  ·obtain⟨sl,e1⟩:=I.base.slot b o e n hb hx;exact⟨sl,(hs.2 b (eA (dO (dR e) I.ok.above))).trans e1⟩
  ·obtain⟨o',e1⟩:=I.base.there b o e hx;exact⟨o',(hs.2 b (eA (dO (dR e) I.ok.above))).trans e1⟩
  ·by_cases hj:j=i
   ·subst hj;rw [hi] at e1;cases e1;rw [List.getElem?_set_self hiσ] at e2;cases e2;exact⟨u,r,.inl ⟨hk,by simp⟩⟩
   ·rw [List.getElem?_set_ne (symm hj)] at e2;obtain⟨u',r',q⟩:=hl j y v' e1 e2 e3;exists u',r';rcases q with⟨k,e⟩|⟨k,c,e,z⟩
    ·refine .inl ⟨k,?_⟩;have:y≠x:=fun e=>hj (jLB hN e1 (e ▸ hi));simp [this,e]
    ·exact .inr ⟨k,c,e,z.sameBut hs (cne y c e)⟩
  ·obtain⟨w',z⟩:=I.cell y c e;exact⟨w',z.sameBut hs (cne y c e)⟩
  ·obtain⟨e,n,ne,nf,d⟩:=I.pin p hp;exact⟨(hs.2 p.1 ne).trans e,n,ne,nf,d⟩
 ·have hfn:X.fn x=true:=by
   rcases hf with z|z
   ·exact z
   ·rw [z] at hk;cases hk
  obtain⟨c,hc⟩:=I.ok.has x (.inl hk);obtain⟨w',z⟩:=I.cell x c hc;refine wpAny_storeName_cell I.ok.kind hk hc z (fun h' hc' hs=>?_);obtain⟨oc,hoc,hocd⟩:=id z;refine h { s with heap:=h' } ⟨I.ok,I.os,I.bare,⟨fun b o e n hb hx=>?_,fun b o e n hb hx=>?_,I.base.free,fun b o e hx=>?_,I.base.tups,I.base.frzs,I.base.tbls⟩,⟨m,hn.sameBut hs (symm (cne x c hc)),fun j y v' e1 e2 e3=>?_⟩,fun y c' e=>?_,I.free,I.freeC,fun p hp=>?_,tT ⟨oc,hoc,I.freeC x c hc⟩ hs,by simpa using I.len⟩ ⟨c,hs,.inr hc⟩
  ·exact (hs.2 b (eA (dO (dR e) (I.ok.cab x c hfn hc)))).trans (I.base.keep b o e n hb hx)
  ·obtain⟨sl,e1⟩:=I.base.slot b o e n hb hx;exact⟨sl,(hs.2 b (eA (dO (dR e) (I.ok.cab x c hfn hc)))).trans e1⟩
  ·obtain⟨o',e1⟩:=I.base.there b o e hx;exact⟨o',(hs.2 b (eA (dO (dR e) (I.ok.cab x c hfn hc)))).trans e1⟩
  ·by_cases hj:j=i
   ·subst hj;rw [hi] at e1;cases e1;rw [List.getElem?_set_self hiσ] at e2;cases e2;exact⟨u,r,.inr ⟨.inl hk,c,hc,hc'⟩⟩
   ·rw [List.getElem?_set_ne (symm hj)] at e2;obtain⟨u',r',q⟩:=hl j y v' e1 e2 e3;exists u',r';rcases q with q|⟨k,c',e,z'⟩
    ·exact .inl q
    ·refine .inr ⟨k,c',e,z'.sameBut hs ?_⟩;rintro rfl;exact hj (jLB hN e1 (I.ok.inj _ _ _ e hc ▸ hi))
  ·by_cases hcc:c'=c
   ·subst hcc;exact⟨_,hc'⟩
   ·obtain⟨w2,z2⟩:=I.cell y c' e;exact⟨w2,z2.sameBut hs hcc⟩
  ·obtain⟨e,n,ne,nf,d⟩:=I.pin p hp;refine⟨(hs.2 p.1 ?_).trans e,n,ne,nf,d⟩;intro q;rw [q,hoc] at e;have q':oc=p.2:=Option.some.inj e;exact d w' (by rw [<- q'];exact hocd)
theorem jIG(I:Inv X b9 σ H s)(hN:X.N.Nodup)(hi:X.N[i]?=some x)(hx:Loc X.env.scope x)(r:gN v u) 
 (h:∀ s',Inv X b9 (σ.set i (some v)) H s'->Q () s') (hf:X.fn x=true\/X.env.scope.names.lookup x=some .local:=by first|exact .inl rfl|exact .inr rfl|assumption):dC M A (storeName X.env x u) Q E s :=
 jN1 I hN hi hx r (fun s' I' _=>h s' I') hf
theorem Inv.call'(I:Inv X b9 σ H s)(ho:s'.os=s.os)(u:Un (frs X.stack) ch H H' s.heap s'.heap)(hok:HOk X.prog X.w H' s'.heap)(hg:AllBare s'.gens) 
 (rE:∀ b∈ch,(b∈X.ex\/X.s₀.heap.objs.size<=b)/\b≠X.env.locals/\(∀ x c,X.env.cells.lookup x=some c->c≠b)/\∀ p∈X.pn++b9,p.1≠b):Inv X b9 σ H' s':=by
 obtain⟨h',g',d',t',o'⟩:=s';have e:o'=s.os:=ho;subst e;exact I.call (g':=g') (t':=t') (d':=d') u hok hg rE
end
abbrev XK:=Value->Option Addr->Hp->Prop
abbrev St:=List (Option V)
abbrev VK:=V->Hp->Prop
abbrev TE:=St->Hp->VK->Prop
abbrev TT:=St->Hp->(Bool->Hp->Prop)->Prop
abbrev TA:=St->Hp->(List V->Hp->Prop)->Prop
structure tH where
 nx:St->Hp->Prop
 rt:VK
 bk:St->Hp->Prop:=fun _ _=>False
 ct:St->Hp->Prop:=fun _ _=>False
abbrev TS:=tH->St->Hp->Prop
def EP(X:Cx)(b9:List (Addr×Obj))(σ:St)(Q:VK)(u:Value)(s':Shared):Prop:=∃ v H',Inv X b9 σ H' s'/\gN v u/\Q v H'
def TP(X:Cx)(b9:List (Addr×Obj))(σ:St)(Q:Bool->Hp->Prop)(b:Bool)(s':Shared):Prop:=∃ H',Inv X b9 σ H' s'/\Q b H'
def AP(X:Cx)(b9:List (Addr×Obj))(σ:St)(Q:List V->Hp->Prop)(us:List Value)(s':Shared):Prop:=∃ vs H',Inv X b9 σ H' s'/\gX vs us/\Q vs H'
def SP(X:Cx)(b9:List (Addr×Obj))(D:tH)(f:Flow)(s':Shared):Prop :=
 match f with
 | .next=>∃ σ' H',Inv X b9 σ' H' s'/\D.nx σ' H'
 | .brk=>∃ σ' H',Inv X b9 σ' H' s'/\D.bk σ' H'
 | .cont=>∃ σ' H',Inv X b9 σ' H' s'/\D.ct σ' H'
 | .ret u=>∃ v σ' H',Inv X b9 σ' H' s'/\gN v u/\D.rt v H'
def PE(X:Cx)(e:Expr)(t:TE):Prop :=
 ∀ (b9:List (Addr×Obj)) (s:Shared) (σ:St) (H:Hp) (Q:VK),Inv X b9 σ H s->t σ H Q->dC (dF X.prog X.w) X.A (eU e X.env) (EP X b9 σ Q) X.xe s
def PT(X:Cx)(e:Expr)(t:TT):Prop :=
 ∀ (b9:List (Addr×Obj)) (s:Shared) (σ:St) (H:Hp) (Q:Bool->Hp->Prop),Inv X b9 σ H s->t σ H Q->dC (dF X.prog X.w) X.A (yD e X.env (eU e X.env)) (TP X b9 σ Q) X.xe s
def PW(X:Cx)(e:Expr)(t:TT):Prop :=
 ∀ (nA:Sem Value) (b9:List (Addr×Obj)) (s:Shared) (σ:St) (H:Hp) (Q:Bool->Hp->Prop),Inv X b9 σ H s->t σ H Q->dC (dF X.prog X.w) X.A (yD e X.env nA) (TP X b9 σ Q) X.xe s
theorem PW.pt(h:PW X e t):PT X e t:=h _
def PA(X:Cx)(es:List Expr)(t:TA):Prop :=
 ∀ (pos:Pos) (b9:List (Addr×Obj)) (s:Shared) (σ:St) (H:Hp) (Q:List V->Hp->Prop),Inv X b9 σ H s->t σ H Q->dC (dF X.prog X.w) X.A (spliced (fZ pos (dG es X.env))) (AP X b9 σ Q) X.xe s
def PS(X:Cx)(st:Stmt)(t:TS):Prop :=
 ∀ (b9:List (Addr×Obj)) (s:Shared) (σ:St) (H:Hp) (D:tH),Inv X b9 σ H s->t D σ H->dC (dF X.prog X.w) X.A (exec st X.env) (SP X b9 D) X.xe s
def PSs(X:Cx)(st:List Stmt)(t:TS):Prop :=
 ∀ (b9:List (Addr×Obj)) (s:Shared) (σ:St) (H:Hp) (D:tH),Inv X b9 σ H s->t D σ H->dC (dF X.prog X.w) X.A (execs st X.env) (SP X b9 D) X.xe s
theorem thn(h:dC M A t Q E s)(hQ:∀ a s,Q a s->Q' a s):dC M A t Q' E s:=eB h hQ fun _ _ x=>x
section
variable {X:Cx}
inductive tY(i:Nat)(σ:St)(H:Hp)(Q:VK):Prop|mk v:σ[i]?=some (some v)->Q v H->tY i σ H Q
def tC(v:V):TE:=fun _ H Q=>Q v H
theorem pe_var(hN:X.N[i]?=some x)(hv:Vis X.env.scope x)(hd:(x==("__debug__":Str))=false:=by decide)(nY:(x==("__classdict__":Str))=false:=by decide):PE X (.Name x pos) (tY i):=by
 intro b9 s σ H Q I h;obtain⟨v,e,h⟩:=h;obtain⟨m,hn,hl⟩:=I.loc;obtain⟨u,r,l⟩:=hl i x v hN e hv;have fin:EP X b9 σ Q u s:=⟨v,H,I,r,h⟩
 rcases l with⟨hk,hm⟩|⟨hk,c,hc,hcell⟩
 ·exact y0 (wpAny_loadName_local I.ok.kind hk hn hm fin) hd
 ·rcases hk with hk|hk
  ·exact y0 (wpAny_loadName_cell I.ok.kind hk hc hcell fin) hd
  ·exact y0 (wpAny_loadName_free I.ok.kind hk hc hcell fin nY) hd
theorem eO:PE X (.Constant (.int i) j pos) (tC (.int i)):=fun _ _ _ H _ I h=>wpAny_Constant_int ⟨.int i,H,I.tok _,⟨_,rfl⟩,h⟩
theorem nQ:PE X (.Constant (.bool b) j pos) (tC (.bl b)):=fun _ _ _ H _ I h=>Constant_bool ⟨.bl b,H,I,rfl,h⟩
theorem nX:PE X (.Constant .none j pos) (tC .non):=fun _ _ _ H _ I h=>Constant_none ⟨.non,H,I,rfl,h⟩
theorem hX:PE X (.Constant (.str x) j pos) (tC (.str x)):=fun _ _ _ H _ I h=>Calls.Constant_str ⟨.str x,H,I.tok _,⟨_,rfl⟩,h⟩
def Gl(X:Cx)(x:Str):Prop:=X.env.kindOf x=some .globalImplicit
theorem jCQ(I:Inv X b9 σ H s)(hg:Gl X x)(hm:X.mg x=some u)(h:Q u s) 
 (hd:(x==("__debug__":Str))=false:=by decide):dC (dF X.prog X.w) X.A (eU (.Name x pos) X.env) Q E s :=
 Calls.Name_function_global I.ok.kind hg (Calls.loadGlobal_global (by rw [I.ok.glob];exact I.mod.glob.keeps I.bk) hm h) hd
theorem jC3(I:Inv X b9 σ H s)(hg:Gl X x)(hm:X.mg x=none)(hv:bootBuiltins x=some u)(h:Q u s) 
 (hn:x≠"__name__":=by decide) (hd:(x==("__debug__":Str))=false:=by decide):dC (dF X.prog X.w) X.A (eU (.Name x pos) X.env) Q E s:=by
 obtain⟨mb,h1,h2⟩:=I.mod.blt;exact Calls.Name_function_global I.ok.kind hg (Calls.loadGlobal_builtin (by rw [I.ok.glob];exact I.mod.glob.keeps I.bk) hm (by rw [I.ok.blt];exact h1.keeps I.bk) ((h2 x hn).trans hv) h) hd
theorem jNg(hg:Gl X x)(hm:X.mg x=some u)(r:gN v u)(hd:(x==("__debug__":Str))=false:=by decide):PE X (.Name x pos) (tC v) :=
 fun _ _ _ H _ I h=>jCQ I hg hm ⟨v,H,I,r,h⟩ hd
theorem jH5(hg:Gl X x)(hm:X.mg x=none)(hv:bootBuiltins x=some u)(r:gN v u)(hn:x≠"__name__":=by decide)(hd:(x==("__debug__":Str))=false:=by decide):PE X (.Name x pos) (tC v) :=
 fun _ _ _ H _ I h=>jC3 I hg hm hv ⟨v,H,I,r,h⟩ hn hd
variable {a b:Expr}{ta tb:TE}{pos:Pos}
def PC(X:Cx)(op:CmpOp)(a b:Expr)(t:TE):Prop :=
 ∀ (b9:List (Addr×Obj)) (s:Shared) (σ:St) (H:Hp) (Q:VK),Inv X b9 σ H s->t σ H Q ->
  dC (dF X.prog X.w) X.A (eU a X.env) (fun v fH=>dC (dF X.prog X.w) X.A (eU b X.env) (fun u fQ=>dC (dF X.prog X.w) X.A (fM op v u) (EP X b9 σ Q) X.xe fQ) X.xe fH) X.xe s
theorem jO5(b:Expr)(h:op≠.In)(h2:op≠.NotIn):iB op b=false:=by
 have e1:(op==CmpOp.In)=false:=by cases op<;>first|rfl|exact absurd rfl h
 have e2:(op==CmpOp.NotIn)=false:=by cases op<;>first|rfl|exact absurd rfl h2
 cases b<;>simp [iB,e1,e2]
inductive ItB(Q:Bool->Hp->Prop)(x:V)(H1:Hp):Prop|mk c:x=.bl c->Q c H1->ItB Q x H1
def tB(t:TE):TT:=fun σ H Q=>t σ H fun x H1=>ItB Q x H1
theorem jN2(h:PC X op a b t)(h1:iB op b=false:=by first|exact jO5 _ (by decide) (by decide)|rfl):PT X (.Compare a [op] [b] pos) (tB t):=by
 intro b9 s σ H Q I hw;refine yF (thn (h b9 s σ H _ I hw) fun v s1 h1=>thn h1 fun u s2 h2=>thn h2 fun c s3 ⟨x,H1,I1,r1,q1⟩=>?_) h1;obtain⟨d,rfl,q⟩:=q1;cases r1;exact iP ⟨H1,I1,q⟩
variable {tA tB':TT}{rest:List Expr}
def tAnd(t u:TT):TT:=fun σ H Q=>t σ H fun c H1=>if c=true then u σ H1 Q else Q false H1
def tOr(t u:TT):TT:=fun σ H Q=>t σ H fun c H1=>if c=true then Q true H1 else u σ H1 Q
def tNot(t:TT):TT:=fun σ H Q=>t σ H fun c H1=>Q (!c) H1
theorem sR(ha:PT X a tA):PW X (.BoolOp .And [a] pos) tA:=by
 intro wh b9 s σ H Q I h;refine isTrue_and (thn (ha b9 s σ H Q I h) fun c s1 e=>?_);cases c with
 | true=>exact isTrue_and_nil e
 | false=>exact e
theorem w6(ha:PT X a tA):PW X (.BoolOp .Or [a] pos) tA:=by
 intro wh b9 s σ H Q I h;refine isTrue_or (thn (ha b9 s σ H Q I h) fun c s1 e=>?_);cases c with
 | false=>exact isTrue_or_nil e
 | true=>exact e
theorem rA(ha:PT X a tA)(hb:PW X (.BoolOp .And (b::rest) pos) tB'):PW X (.BoolOp .And (a::b::rest) pos) (tAnd tA tB'):=by
 intro wh b9 s σ H Q I h;refine isTrue_and (thn (ha b9 s σ H _ I h) fun c s1 ⟨H1,I1,q1⟩=>?_);cases c with
 | true=>exact hb wh b9 s1 σ H1 Q I1 q1
 | false=>exact⟨H1,I1,q1⟩
theorem vT(ha:PT X a tA)(hb:PW X (.BoolOp .Or (b::rest) pos) tB'):PW X (.BoolOp .Or (a::b::rest) pos) (tOr tA tB'):=by
 intro wh b9 s σ H Q I h;refine isTrue_or (thn (ha b9 s σ H _ I h) fun c s1 ⟨H1,I1,q1⟩=>?_);cases c with
 | true=>exact⟨H1,I1,q1⟩
 | false=>exact hb wh b9 s1 σ H1 Q I1 q1
theorem qP(ha:PT X a tA):PT X (.UnaryOp .Not a pos) (tNot tA):=by
 intro b9 s σ H Q I h;exact isTrue_not (ha b9 s σ H (fun c H1=>Q (!c) H1) I h)
def tAndV(ta tb:TE):TE:=fun σ H Q=>ta σ H fun x H1=>∃ c,x=.bl c/\if c=true then tb σ H1 Q else Q (.bl false) H1
def tNotV(ta:TE):TE:=fun σ H Q=>ta σ H fun x H1=>∃ c,x=.bl c/\Q (.bl (!c)) H1
theorem jLC(h:PE X a t):PE X (.BoolOp op [a] pos) t:=fun b9 s σ H Q I hw=>BoolOp_one (h b9 s σ H Q I hw)
theorem jIX(ha:PE X a ta)(hb:PE X (.BoolOp .And (b::rest) pos) tb):PE X (.BoolOp .And (a::b::rest) pos) (tAndV ta tb):=by
 intro b9 s σ H Q I h;refine BoolOp_and (thn (ha b9 s σ H _ I h) fun v s1 ⟨x,H1,I1,r1,q1⟩=>?_);obtain⟨c,rfl,q1⟩:=q1;cases r1;refine iP ?_;cases c with
 | true=>exact hb b9 s1 σ H1 Q I1 q1
 | false=>exact⟨.bl false,H1,I1,rfl,q1⟩
theorem jN3(ha:PE X a ta):PE X (.UnaryOp .Not a pos) (tNotV ta):=by
 intro b9 s σ H Q I h;refine UnaryOp_ (thn (ha b9 s σ H _ I h) fun v s1 ⟨x,H1,I1,r1,q1⟩=>?_);obtain⟨c,rfl,q1⟩:=q1;cases r1;exact not_of (iP ⟨.bl (!c),H1,I1,rfl,q1⟩)
def tIf(t:TT)(ta tb:TE):TE:=fun σ H Q=>t σ H fun c H1=>if c=true then ta σ H1 Q else tb σ H1 Q
theorem jCE(hc:PT X c tA)(ha:PE X a ta)(hb:PE X b tb):PE X (.IfExp c a b pos) (tIf tA ta tb):=by
 intro b9 s σ H Q I h;refine wpAny_IfExp (thn (hc b9 s σ H _ I h) fun d s1 ⟨H1,I1,q1⟩=>?_);cases d with
 | true=>exact ha b9 s1 σ H1 Q I1 q1
 | false=>exact hb b9 s1 σ H1 Q I1 q1
end
def SqL(K:PySem.W.Frag)(H:Hp)(a:Addr)(xs:List V):Prop :=
 Rd H a (.lst xs) \/
  ∃ (o:Obj) (its:Array Value) (n:Nat),K.lookup a=some o/\o.cls=.type "list"/\o.dict=none/\o.data=.seq its n/\its.size<=c9/\gX xs its.toList
def SqT(K:PySem.W.Frag)(H:Hp)(a:Addr)(xs:List V):Prop :=
 Rd H a (.tup xs) \/
  ∃ (o:Obj) (its:Array Value) (n:Nat),K.lookup a=some o/\o.cls=.type "tuple"/\o.data=.seq its n/\its.size<=c9/\gX xs its.toList
def absV:Value->Option V
 | .none=>some .non
 | .bool b=>some (.bl b)
 | .int i _=>some (.int i)
 | .str x _=>some (.str x)
 | .bytes b _=>some (.byt b)
 | .float b _=>some (.flt b)
 | .ref a=>some (.ref a)
 | .type n=>some (.ty n)
 | _=>none
theorem gN.abs(r:gN x u):absV u=some x:=by
 cases x with
 | non=>cases r;rfl
 | bl _=>cases r;rfl
 | int _=>obtain⟨t,rfl⟩:=r;rfl
 | str _=>obtain⟨t,rfl⟩:=r;rfl
 | byt _=>obtain⟨t,rfl⟩:=r;rfl
 | flt _=>obtain⟨t,rfl⟩:=r;rfl
 | ref _=>cases r;rfl
 | ty _=>cases r;rfl
theorem gN.inj(r:gN x u)(q:gN y u):x=y:=Option.some.inj (r.abs.symm.trans q.abs)
theorem gX.inj:∀ {xs ys:List V} {us:List Value},gX xs us->gX ys us->xs=ys
 | _,_,_,.nil,.nil=>rfl
 | _,_,_,.cons r t,.cons r' t'=>by rw [r.inj r',gX.inj t t']
section
variable {X:Cx}{b9:List (Addr×Obj)}{σ:St}{H:Hp}{s:Shared}{a:Addr}{xs ys:List V}
theorem SqL.of{K:PySem.W.Frag}(h:H a=some (.lst xs)):SqL K H a xs:=.inl (.inl h)
theorem SqT.of{K:PySem.W.Frag}(h:H a=some (.tup xs)):SqT K H a xs:=.inl (.inl h)
theorem Inv.list(I:Inv X b9 σ H s)(h:SqL X.K H a xs):∃ its:List Value,gX xs its/\PlainL s.heap a its.toArray/\xs.length<=c9:=by
 rcases h with h|⟨o,its,n,hk,hc,hd,hs,hz,r⟩
 ·obtain⟨z,its,n,r,e⟩:=h.ok I.hok;exact⟨its,r,⟨_,n,e,rfl,rfl,rfl⟩,z⟩
 ·exists its.toList,r,⟨o,n,I.kIn a o hk,hc,hd,by simpa using hs⟩
  have e:=r.length;simp only [jE] at e;omega
theorem Inv.tuple(I:Inv X b9 σ H s)(h:SqT X.K H a xs):∃ its:List Value,gX xs its/\IsTup s.heap a its.toArray/\xs.length<=c9:=by
 rcases h with h|⟨o,its,n,hk,hc,hs,hz,r⟩
 ·obtain⟨z,its,r,p⟩:=h.ok I.hok;exact⟨its,r,p,z⟩
 ·exists its.toList,r,⟨o,I.kIn a o hk,hc,n,by simpa using hs⟩
  have e:=r.length;simp only [jE] at e;omega
theorem Inv.list_inj(I:Inv X b9 σ H s)(h:SqL X.K H a xs)(h':SqL X.K H a ys):xs=ys:=by
 obtain⟨its,r,⟨o,n,e,_,_,d⟩,_⟩:=I.list h;obtain⟨its',r',⟨o',n',e',_,_,d'⟩,_⟩:=I.list h';rw [e] at e';cases e';rw [d] at d';injection d' with d1 _;have:its=its':=by simpa using congrArg Array.toList d1
 subst this;exact r.inj r'
end
abbrev Cx.wish(X:Cx)(E:Value->Shared->Prop):Cx:={ X with xe:=E }
abbrev Cx.nox(X:Cx):Cx:=X.wish fun _ _=>False
theorem Cx.Ok.wish{X:Cx}(ok:X.Ok)(E:Value->Shared->Prop):(X.wish E).Ok :=
 ⟨ok.mod,ok.kind,ok.glob,ok.blt,ok.above,ok.inj,ok.has,ok.cab,ok.hd,ok.frames,ok.stk,ok.exf,ok.bs,ok.bsz,ok.noex,ok.exfs,ok.funs,ok.frf⟩
theorem Cx.Ok.unwish{X:Cx}{E:Value->Shared->Prop}(ok:(X.wish E).Ok):X.Ok :=
 ⟨ok.mod,ok.kind,ok.glob,ok.blt,ok.above,ok.inj,ok.has,ok.cab,ok.hd,ok.frames,ok.stk,ok.exf,ok.bs,ok.bsz,ok.noex,ok.exfs,ok.funs,ok.frf⟩
section
variable {X:Cx}{b9:List (Addr×Obj)}{σ:St}{H:Hp}{s:Shared}{E:Value->Shared->Prop}
theorem Inv.wish(I:Inv X b9 σ H s)(E:Value->Shared->Prop):Inv (X.wish E) b9 σ H s:=⟨I.ok.wish E,I.os,I.bare,I.base,I.loc,I.cell,I.free,I.freeC,I.pin,I.hok,I.len⟩
theorem Inv.unwish(I:Inv (X.wish E) b9 σ H s):Inv X b9 σ H s:=⟨I.ok.unwish,I.os,I.bare,I.base,I.loc,I.cell,I.free,I.freeC,I.pin,I.hok,I.len⟩
theorem SP.unwish(h:SP (X.wish E) b9 D f s'):SP X b9 D f s':=by
 cases f with
 | next=>obtain⟨σ',H',I,q⟩:=h;exact⟨σ',H',I.unwish,q⟩
 | brk=>obtain⟨σ',H',I,q⟩:=h;exact⟨σ',H',I.unwish,q⟩
 | cont=>obtain⟨σ',H',I,q⟩:=h;exact⟨σ',H',I.unwish,q⟩
 | ret u=>obtain⟨v,σ',H',I,r,q⟩:=h;exact⟨v,σ',H',I.unwish,r,q⟩
theorem PSs.nox{st:List Stmt}{t:TS}(h:PSs X.nox st t):PSs X st t:=fun b9 s σ H D I hw =>
 eB (h b9 s σ H D (I.wish _) hw) (fun _ _ q=>q.unwish) fun _ _ z=>False.elim z
end
section
variable {X:Cx}{st:Stmt}{rest:List Stmt}{t u:TS}{e:Expr}{te:TE}{pos:Pos}
def jE1:TS:=fun D σ H=>D.nx σ H
def tSeq(t u:TS):TS:=fun D σ H=>t { D with nx:=u D } σ H
theorem jK:PSs X [] jE1:=fun _ _ σ H _ I h=>lA ⟨σ,H,I,h⟩
theorem d9(h1:PS X st t)(h2:PSs X rest u):PSs X (st::rest) (tSeq t u):=by
 intro b9 s σ H D I h;refine zL (thn (h1 b9 s σ H { D with nx:=u D } I h) fun f s1 q=>?_);cases f with
 | next =>
   obtain⟨σ',H',I',q⟩:=q;exact h2 b9 s1 σ' H' D I' q
 | ret v=>exact q
 | brk=>exact q
 | cont=>exact q
theorem d7(h1:PS X st t):PSs X [st] t:=by
 intro b9 s σ H D I h;refine zL (thn (h1 b9 s σ H D I h) fun f s1 q=>?_);cases f with
 | next=>exact lA q
 | ret v=>exact q
 | brk=>exact q
 | cont=>exact q
theorem Inv.quiet(I:Inv X b9 σ H s):interactive X.env=false:=by simp [interactive,I.ok.kind]
def tDrop(te:TE):TS:=fun D σ H=>te σ H fun _ H1=>D.nx σ H1
theorem kE(he:PE X e te)(hs:mX e none pos.line X.env=pure false:=by rfl):PS X (.Expr e pos) (tDrop te):=by
 intro b9 s σ H D I h;exact wpAny_Expr_any (thn (he b9 s σ H _ I h) fun v s1 ⟨x,H1,I1,r1,q1⟩=>⟨σ,H1,I1,q1⟩) I.quiet hs
def tRet(te:TE):TS:=fun D σ H=>te σ H D.rt
theorem gY(he:PE X e te):PS X (.Return (some e) pos) (tRet te):=by
 intro b9 s σ H D I h;exact wpAny_Return_some (thn (he b9 s σ H _ I h) fun v s1 ⟨x,H1,I1,r1,q1⟩=>⟨x,σ,H1,I1,r1,q1⟩)
def tIfS(c:TT)(t u:TS):TS:=fun D σ H=>c σ H fun b H1=>if b=true then t D σ H1 else u D σ H1
theorem jC(hc:PT X c tc)(ha:PSs X a t)(hb:PSs X b u):PS X (.If c a b pos) (tIfS tc t u):=by
 intro b9 s σ H D I h;refine wpAny_If (thn (hc b9 s σ H _ I h) fun d s1 ⟨H1,I1,q1⟩=>?_);cases d with
 | true=>exact ha b9 s1 σ H1 D I1 q1
 | false=>exact hb b9 s1 σ H1 D I1 q1
end
abbrev TG:=V->St->Hp->(St->Hp->Prop)->Prop
abbrev TGs:=List V->St->Hp->(St->Hp->Prop)->Prop
def PG(X:Cx)(oX:Expr)(t:TG):Prop :=
 ∀ (b9:List (Addr×Obj)) (s:Shared) (σ:St) (H:Hp) (v:V) (u:Value) (Q:St->Hp->Prop),Inv X b9 σ H s->gN v u->t v σ H Q ->
  dC (dF X.prog X.w) X.A (pW oX X.env u) (fun _ s'=>∃ σ' H',Inv X b9 σ' H' s'/\Q σ' H') X.xe s
def PGs(X:Cx)(ts:List Expr)(t:TGs):Prop :=
 ∀ (b9:List (Addr×Obj)) (s:Shared) (σ:St) (H:Hp) (vs:List V) (us:List Value) (Q:St->Hp->Prop),Inv X b9 σ H s->gX vs us->t vs σ H Q ->
  dC (dF X.prog X.w) X.A (assignInOrder ((nI ts X.env).map (·.2)) us) (fun _ s'=>∃ σ' H',Inv X b9 σ' H' s'/\Q σ' H') X.xe s
abbrev TSet:=V->V->V->Hp->(Hp->Prop)->Prop
def PSet(X:Cx)(t:TSet):Prop :=
 ∀ (b9:List (Addr×Obj)) (s:Shared) (σ:St) (H:Hp) (o i v:V) (ov iv u:Value) (Q:Hp->Prop),Inv X b9 σ H s->gN o ov->gN i iv->gN v u->t o i v H Q ->
  dC (dF X.prog X.w) X.A (zG ov iv u) (fun _ s'=>∃ H',Inv X b9 σ H' s'/\Q H') X.xe s
abbrev TIp:=V->V->Hp->VK->Prop
def PIp(X:Cx)(op:Operator)(t:TIp):Prop :=
 ∀ (b9:List (Addr×Obj)) (s:Shared) (σ:St) (H:Hp) (x y:V) (v u:Value) (Q:VK),Inv X b9 σ H s->gN x v->gN y u->t x y H Q ->
  dC (dF X.prog X.w) X.A (inplaceOp op v u) (EP X b9 σ Q) X.xe s
section
variable {X:Cx}{pos:Pos}
def wZ(i:Nat):TG:=fun v σ H Q=>Q (σ.set i (some v)) H
theorem jNh(hN:X.N.Nodup)(hi:X.N[i]?=some x)(hx:Loc X.env.scope x)(hf:X.fn x=true\/X.env.scope.names.lookup x=some .local:=by first|exact .inl rfl|exact .inr rfl|assumption):PG X (.Name x pos) (wZ i):=by
 intro b9 s σ H v u Q I r h;exact zE (jIG I hN hi hx r (fun s' I'=>⟨_,H,I',h⟩) hf)
def gNil:TGs:=fun vs σ H Q=>vs=[]/\Q σ H
inductive gCons(t:TG)(u:TGs)(vs:List V)(σ:St)(H:Hp)(Q:St->Hp->Prop):Prop|mk v r:vs=v::r->(t v σ H fun σ' H'=>u r σ' H' Q)->gCons t u vs σ H Q
theorem jCv:PGs X [] gNil:=by
 intro b9 s σ H vs us Q I r h;obtain⟨e,h⟩:=h;subst e;cases r;exact assignInOrder_nil ⟨σ,H,I,h⟩
theorem pE(h1:PG X e t)(h2:PGs X es u) 
 (hs:(nI (e::es) X.env).map (·.2)=pW e X.env::(nI es X.env).map (·.2):=by rfl):PGs X (e::es) (gCons t u):=by
 intro b9 s σ H vs us Q I r h;obtain⟨v,vr,e1,h⟩:=h;subst e1;cases r with
 | cons r rr =>
   rw [hs];refine assignInOrder_cons (thn (h1 b9 s σ H _ _ _ I r h) fun _ s1 ⟨σ1,H1,I1,q1⟩=>?_);exact h2 b9 s1 σ1 H1 _ _ Q I1 rr q1
inductive gTup(K:PySem.W.Frag)(n:Nat)(t:TGs)(v:V)(σ:St)(H:Hp)(Q:St->Hp->Prop):Prop|mk a xs:v=.ref a->SqT K H a xs->xs.length=n->t xs σ H Q->gTup K n t v σ H Q
theorem jC4(hc:X.calm=true)(h:PGs X es t) 
 (hn:(nI es X.env).length=n:=by rfl) (hst:(nI es X.env).findIdx? (·.1)=none:=by rfl):PG X (.Tuple es k pos) (gTup X.K n t):=by
 intro b9 s σ H v u Q I r hw;obtain⟨a,xs,e1,hq,hl,hw⟩:=hw;subst e1;cases r;obtain⟨its,rv,ht,hz⟩:=I.tuple hq;refine assign_Tuple_tuple (I.ok.hd hc) ht (by simp [hn,<- hl,rv.length]) hst fun h' hx=>?_;have I1:Inv X b9 σ H { s with heap:=h' }:=I.kept (t':=s.toks) fun b o e=>hx b o (eA (dR e)) e;exact h b9 _ σ H xs _ Q I1 (by simpa using rv) hw
def gSub(to ti:TE)(t:TSet):TG:=fun v σ H Q=>to σ H fun o H1=>ti σ H1 fun i H2=>t o i v H2 fun H3=>Q σ H3
theorem jLD(ho:PE X o to)(hi:PE X i ti)(hs:PSet X t) 
 (ha:∀ v,pW (.Subscript o i pos) X.env v=(do
  let ov <- j6 [v] (eU o X.env);let iv <- j6 [v,ov] (eU i X.env)
  lK pos
  j6 [v,ov,iv] (zG ov iv v)
  release [v,ov,iv] []):=by intro _;rfl):PG X (.Subscript o i pos) (gSub to ti t):=by
 intro b9 s σ H v u Q I r h;rw [ha];refine c5 (fW (thn (ho b9 s σ H _ I h) fun ov s1 ⟨x,H1,I1,r1,q1⟩=>?_));refine c5 (fW (thn (hi b9 s1 σ H1 _ I1 q1) fun iv s2 ⟨y,H2,I2,r2,q2⟩=>?_));refine c5 (jL (c5 (fW (thn (hs b9 s2 σ H2 x y v ov iv u _ I2 r1 r2 r q2) fun _ s3 ⟨H3,I3,q3⟩=>?_))));exact wpAny_release ⟨σ,H3,I3,q3⟩
def tAsg(te:TE)(g:TG):TS:=fun D σ H=>te σ H fun x H1=>g x σ H1 D.nx
theorem jHx(he:PE X e te)(hg:PG X tg g)(hs:swapsWithSole [tg] e pos.line X.env=pure false:=by rfl)(hw:swappedStores [tg] e X.env=pure none:=by rfl) 
 (h1:(nI [tg] X.env).map (·.2)=[pW tg X.env]:=by rfl):PS X (.Assign [tg] e pos) (tAsg te g):=by
 intro b9 s σ H D I h;refine wpAny_Assign_stores (thn (he b9 s σ H _ I h) fun v s1 ⟨x,H1,I1,r1,q1⟩=>?_) hs hw;rw [h1];exact thn (hg b9 s1 σ H1 x v _ I1 r1 q1) fun _ s2 q=>q
theorem ps_set(hN:X.N.Nodup)(hi:X.N[i]?=some x)(hx:Loc X.env.scope x)(he:PE X e te)(hs:mX e (some (.Name x nW)) pos.line X.env=pure false:=by rfl)(hf:X.fn x=true\/X.env.scope.names.lookup x=some .local:=by first|exact .inl rfl|exact .inr rfl|assumption) :
 PS X (.Assign [.Name x nW] e pos) (tAsg te (wZ i)):=by
 intro b9 s σ H D I h;refine wpAny_Assign_Name (thn (he b9 s σ H _ I h) fun v s1 ⟨y,H1,I1,r1,q1⟩=>?_) hs;exact jIG I1 hN hi hx r1 (fun s2 I2=>⟨_,H1,I2,q1⟩) hf
def ipI(f:Int->Int->Int):TIp:=fun x y H Q=>∃ i j,x=.int i/\y=.int j/\Q (.int (f i j)) H
theorem ip_add:PIp X .Add (ipI fun i j=>i+j):=by
 intro b9 s σ H x y v u Q I r1 r2 h;obtain⟨i,j,e1,e2,q⟩:=h;subst e1;subst e2;obtain⟨t,rfl⟩:=r1;obtain⟨t',rfl⟩:=r2;exact iadd_int ⟨.int _,H,I.tok _,⟨_,rfl⟩,q⟩
def tWhile(c:TT)(tb:TS):TS:=fun D σ H=>∃ W:Nat->St->Hp->Prop,(∃ m,W m σ H)/\∀ m σ H,W m σ H ->
 c σ H fun b H1=>if b=true then ∃ N:St->Hp->Prop,(∀ σ' H',N σ' H'->∃ m',m'<m/\W m' σ' H')/\tb { D with nx:=N,ct:=N,bk:=D.nx } σ H1 else D.nx σ H1
theorem jO6(hp:PassesOwn (dF X.prog X.w) X.A X.env X.xe)(hc:PT X c tc)(hb:PSs X body tb):PS X (.While c body [] pos) (tWhile tc tb):=by
 intro b9 s σ H D I h;obtain⟨W,⟨m0,w0⟩,turn⟩:=h;refine wpAny_While (codeAny_whileLoop (fun n s'=>∃ σ' H',Inv X b9 σ' H' s'/\W n σ' H') ?_ m0 ⟨σ,H,I,w0⟩);rintro n s1 ⟨σ1,H1,I1,w1⟩;refine iK hp (thn (hc b9 s1 σ1 H1 _ I1 (turn n σ1 H1 w1)) fun b s2 ⟨H2,I2,q2⟩=>?_);cases b with
 | true =>
   obtain⟨N,hN,q2⟩:=q2;rw [if_pos rfl];refine iK hp (thn (hb b9 s2 σ1 H2 _ I2 q2) fun f s3 q3=>?_);cases f with
   | next =>
     obtain⟨σ3,H3,I3,n3⟩:=q3;obtain⟨m',hm,w3⟩:=hN σ3 H3 n3;exact⟨m',hm,σ3,H3,I3,w3⟩
   | cont =>
     obtain⟨σ3,H3,I3,n3⟩:=q3;obtain⟨m',hm,w3⟩:=hN σ3 H3 n3;exact⟨m',hm,σ3,H3,I3,w3⟩
   | brk=>exact q3
   | ret v=>exact q3
 | false =>
   rw [if_neg Bool.false_ne_true];exact lA ⟨σ1,H2,I2,q2⟩
end
structure It where
 go:Nat->Hp->Prop
 yld:Nat->Hp->V->Hp->Prop
 stop:Nat->Hp->Prop
def jGO(X:Cx)(b9:List (Addr×Obj))(H:Hp)(b:Addr):Prop :=
 H b=none/\b≠X.env.locals/\b ∉ X.fs/\(b∈X.ex\/X.s₀.heap.objs.size<=b)/\(∀ x c,X.env.cells.lookup x=some c->c≠b)/\∀ p∈X.pn++b9,p.1≠b
theorem Inv.fpOk(I:Inv X b9 σ H s)(hb:s.heap.objs.size<=b)(hn:H' b=none):jGO X b9 H' b:=by
 refine⟨hn,gO (dO I.lt hb),I.nofs hb,.inr (le_trans I.sz hb),fun x c e z=>?_,fun p hp z=>?_⟩
 ·obtain⟨v,q⟩:=I.cell x c e;exact absurd (dO q.lt (by rw [z];exact hb)) (gG _)
 ·exact absurd (dO (dR (I.pin p hp).1) (by rw [z];exact hb)) (gG _)
structure jHy(P:Program)(w:World)(K:PySem.W.Frag)(tg:Expr)(J:It)(fp:List Addr)(it:Addr)(tn:Nat->Heap->Prop):Prop where
 mem:it∈fp
 obj:∀ i h,tn i h->∀ b∈fp,∃ o,h.get? b=some o/\∀ v,o.data≠.cell v
 keep:∀ i h h',tn i h->(∀ b∈fp,∀ o,h.get? b=some o->h'.get? b=some o)->tn i h'
 item:∀ (X:Cx),X.prog=P->X.w=w->X.K=K->X.calm=true->∀ (i:Nat) (b9:List (Addr×Obj)) (s:Shared) (σ:St) (H:Hp) (E:Value->Shared->Prop),Inv X b9 σ H s->(∀ b∈fp,jGO X b9 H b)->tn i s.heap->J.go i H ->
  dC (dF P w) X.A (uJ (.ref it)) (fun r s1=>∃ u,r=some u /\
   dC (dF P w) X.A (nO tg (.ref it) u) (fun _ s2=>∃ x H',Inv X b9 σ H' s2/\gN x u/\J.yld i H x H'/\tn (i+1) s2.heap/\∀ b∈fp,H' b=none) E s1) E s
 done:∀ (X:Cx),X.prog=P->X.w=w->X.K=K->X.calm=true->∀ (i:Nat) (b9:List (Addr×Obj)) (s:Shared) (σ:St) (H:Hp) (E:Value->Shared->Prop),Inv X b9 σ H s->(∀ b∈fp,jGO X b9 H b)->tn i s.heap->J.stop i H ->
  dC (dF P w) X.A (uJ (.ref it)) (fun r s1=>r=none/\Inv X b9 σ H s1) E s
 self:∀ (A:Around) (i:Nat) (s:Shared) (Q:Value->Shared->Prop) (E:Value->Shared->Prop),tn i s.heap->Q (.ref it) s->dC (dF P w) A (y9 (.ref it)) Q E s
abbrev TI:=St->Hp->(It->Hp->Prop)->Prop
def PIE(X:Cx)(b9:List (Addr×Obj))(σ:St)(tg:Expr)(R:It->Hp->Prop)(itv:Value)(s2:Shared):Prop :=
 ∃ (it:Addr) (fp:List Addr) (tn:Nat->Heap->Prop) (J:It) (H':Hp),itv=.ref it/\Inv X b9 σ H' s2/\jHy X.prog X.w X.K tg J fp it tn/\tn 0 s2.heap/\(∀ b∈fp,jGO X b9 H' b)/\R J H'
def PI(X:Cx)(tg lR:Expr)(wi:TI):Prop :=
 ∀ (b9:List (Addr×Obj)) (s:Shared) (σ:St) (H:Hp) (R:It->Hp->Prop),Inv X b9 σ H s->wi σ H R ->
  dC (dF X.prog X.w) X.A (eU lR X.env) (fun v s1=>dC (dF X.prog X.w) X.A (y9 v) (PIE X b9 σ tg R) X.xe s1) X.xe s
theorem jLs(ho:s.heap.get? it=some o)(hc:o.cls=.type n)(hd:o.data=.fields vs) 
 (hn:["enumerate","zip","dict_itemiterator","dict_reverseitemiterator","odict_iterator","itertools.zip_longest","itertools.pairwise"].contains n=false) (hQ:Q () s):dC M A (nO tg (.ref it) u) Q E s:=by
 unfold nO;cases tg<;>first
  | exact dE hQ
  | (cases u<;>first
   | exact dE hQ
   | (refine c5 (wpAny_load ho ?_)
      rw [hc,hd];show dC M A (if (["enumerate","zip","dict_itemiterator","dict_reverseitemiterator","odict_iterator","itertools.zip_longest","itertools.pairwise"].contains n&&vs[0]?==some (lB _))=true then _ else _) Q E s;rw [if_neg (by intro h;rw [hn,Bool.false_and] at h;cases h)]
      exact dE hQ))
def Itl(K:PySem.W.Frag)(a:Addr):It :=
 ⟨fun i H=>∃ xs x,SqL K H a xs/\xs[i]?=some x,fun i H x H'=>H'=H/\∀ xs,SqL K H a xs->xs[i]?=some x,fun i H=>∃ xs,SqL K H a xs/\xs.length<=i⟩
def Itr(lo:Int)(n:Nat):It:=⟨fun i _=>i<n,fun i H x H'=>H'=H/\x=.int (lo+i),fun i _=>n<=i⟩
theorem jN4{P:Program}{w:World}{K:PySem.W.Frag}{tg:Expr}(a it:Addr):jHy P w K tg (Itl K a) [it] it (fun i h=>h.IsListIter it a i) where
 mem:=by simp
 obj:=fun i h st b hb=>by
  have e:b=it:=by simpa using hb
  subst e;obtain⟨o,e,c,d⟩:=st;exact⟨o,e,fun v z=>by rw [d] at z;cases z⟩
 keep:=fun i h h' st k=>st.at fun o e=>k it (by simp) o e
 item:=by
  intro X hP hw hK hc i b9 s σ H E I hf st hg;subst hP hw hK;obtain⟨xs,x,hq,hx⟩:=hg;obtain⟨its,rv,p,hz⟩:=I.list hq;obtain⟨u,hu,ru⟩:=rv.get hx;obtain⟨f0,f1,f2,f3,f4,f5⟩:=hf it (by simp);refine x9 st p.isList (x:=u) (by simpa using hu) fun h' uI sb=>?_;have I1:Inv X b9 σ H { s with heap:=h' }:=I.turned (t':=s.toks) (fun b o hb e=>(sb.2 b hb).trans e) f0 f1 f3 f4 f5;obtain⟨o,e,c,d⟩:=id uI;exact⟨u,rfl,jLs (s:={ s with heap:=h' }) e c d (by decide) ⟨x,H,I1,ru,⟨rfl,fun ys hy=>by rw [I.list_inj hy hq];exact hx⟩,uI,fun b hb=>(hf b hb).1⟩⟩
 done:=by
  intro X hP hw hK hc i b9 s σ H E I hf st hg;subst hP hw hK;obtain⟨xs,hq,hx⟩:=hg;obtain⟨its,rv,p,hz⟩:=I.list hq;obtain⟨f0,f1,f2,f3,f4,f5⟩:=hf it (by simp);have hl:=rv.length;exact yE (I.ok.hd hc) st p.isList (by simp;omega) fun h' eb=>⟨rfl,I.turned (t':=s.toks) (fun b o hb e=>eb b o hb e) f0 f1 f3 f4 f5⟩
 self:=fun _ _ _ _ _ st h=>wpAny_pyIter_listiter st h
theorem jND{P:Program}{w:World}{K:PySem.W.Frag}{tg:Expr}(it:Addr)(lo:Int)(n:Nat):jHy P w K tg (Itr lo n) [it] it (fun i h=>IsRangeIter h it (lo+(i:Nat)*1) ((n:Int)-(i:Nat)) 1) where
 mem:=by simp
 obj:=fun i h st b hb=>by
  have e:b=it:=by simpa using hb
  subst e
  exact⟨_,st,fun v z=>by
   have z':Data.fields _=Data.cell v:=z
   cases z'⟩
 keep:=fun i h h' st k=>k it (by simp) _ st
 item:=by
  intro X hP hw hK hc i b9 s σ H E I hf st hg;subst hP hw hK;obtain⟨f0,f1,f2,f3,f4,f5⟩:=hf it (by simp);have W:=Walks.range (prog:=X.prog) (w:=X.w) (I.ok.hd hc) it lo 1 n;refine W.item i s _ _ hg st fun v h' tk hv uI kk=>?_;obtain⟨t,rfl⟩:=hv;have I1:Inv X b9 σ H { s with heap:=h',toks:=tk }:=I.turned (fun b o hb e=>kk b o (by simpa using hb) e) f0 f1 f3 f4 f5;refine⟨_,rfl,jLs (s:={ s with heap:=h',toks:=tk }) (n:="range_iterator") uI rfl rfl (by decide) ⟨.int (lo+i),H,I1,⟨t,?_⟩,⟨rfl,rfl⟩,uI,fun b hb=>(hf b hb).1⟩⟩;rw [Int.mul_one]
 done:=by
  intro X hP hw hK hc i b9 s σ H E I hf st hg;subst hP hw hK;obtain⟨f0,f1,f2,f3,f4,f5⟩:=hf it (by simp);exact x8 (I.ok.hd hc) st (by have:n<=i:=hg;omega) fun h' eb=>⟨rfl,I.turned (t':=s.toks) (fun b o hb e=>eb b o hb e) f0 f1 f3 f4 f5⟩
 self:=fun _ _ _ _ _ st h=>yA st h
section
variable {X:Cx}{tg:Expr}
inductive jN5(K:PySem.W.Frag)(R:It->Hp->Prop)(x:V)(H1:Hp):Prop|mk a:x=.ref a->(∃ xs,SqL K H1 a xs)->R (Itl K a) H1->jN5 K R x H1
def iList(K:PySem.W.Frag)(tl:TE):TI:=fun σ H R=>tl σ H fun x H1=>jN5 K R x H1
theorem q9{l:Expr}{tl:TE}(hl:PE X l tl):PI X tg l (iList X.K tl):=by
 intro b9 s σ H R I h;refine thn (hl b9 s σ H _ I h) fun v s1 ⟨x,H1,I1,r1,q1⟩=>?_;obtain⟨a,e,⟨xs,hq⟩,q⟩:=q1;subst e;cases r1;obtain⟨its,rv,p,hz⟩:=I1.list hq;refine zC p.isList ?_;refine⟨s1.heap.objs.size,[s1.heap.objs.size],_,_,H1,rfl,I1.kept (t':=s1.toks) fun b o e=>get?_push_of_some _ e,jN4 a _,⟨_,get?_push_size _ rfl,rfl,rfl⟩,fun b hb=>?_,q⟩;have e:b=s1.heap.objs.size:=by simpa using hb
 subst e;exact I1.fpOk (le_refl _) (I1.hok.fresh (le_refl _))
theorem jLE{b9:List (Addr×Obj)}{σ:St}{H:Hp}{s:Shared}{R:It->Hp->Prop}{E:Value->Shared->Prop}{lo hi:Int}{t u v:Tok}{tk:Nat}(I:Inv X b9 σ H s)(h1:-(2^62)<=lo)(h2:lo<2^62)(h3:-(2^62)<=hi)(h4:hi<2^62)
 (q:R (Itr lo (hi-lo).toNat) H):dC (dF X.prog X.w) X.A (y9 (.ref s.heap.objs.size)) (PIE X b9 σ tg R) E { s with heap:=s.heap.push { cls:=.type "range",data:=.fields #[.int lo t,.int hi u,.int 1 v] },toks:=tk }:=by
 refine yS (IsRange.new ..) (small_one h1 h2 h3 h4) ?_;have I1:Inv X b9 σ H { s with heap:=s.heap.push { cls:=.type "range",data:=.fields #[.int lo t,.int hi u,.int 1 v] },toks:=tk }:=I.kept fun b o e=>get?_push_of_some _ e
 refine⟨(s.heap.push { cls:=.type "range",data:=.fields #[.int lo t,.int hi u,.int 1 v] }).objs.size,[(s.heap.push { cls:=.type "range",data:=.fields #[.int lo t,.int hi u,.int 1 v] }).objs.size],_,_,H,rfl,
  I1.kept (t':=tk) fun b o e=>get?_push_of_some _ e,jND _ lo (hi-lo).toNat,?_,fun b hb=>?_,q⟩
 ·have e1:lo+((0:Nat):Int)*1=lo:=by simp
  have e2:(((hi-lo).toNat:Nat):Int)-((0:Nat):Int)=Builtin.Range.rangeSize lo hi 1:=by rw [zY];split<;>omega
  show IsRangeIter _ _ (lo+((0:Nat):Int)*1) ((((hi-lo).toNat:Nat):Int)-((0:Nat):Int)) 1;rw [e1,e2];exact get?_push_size _ rfl
 ·have e:b=(s.heap.push { cls:=.type "range",data:=.fields #[.int lo t,.int hi u,.int 1 v] }).objs.size:=by simpa using hb
  subst e;exact I1.fpOk (le_refl _) (I1.hok.fresh (le_refl _))
def iRng1(ta:TA):TI:=fun σ H R=>ta σ H fun vs H1=>∃ j:Int,vs=[.int j]/\-(2^62)<=j/\j<2^62/\R (Itr 0 j.toNat) H1
def iRng2(ta:TA):TI:=fun σ H R=>ta σ H fun vs H1=>∃ i j:Int,vs=[.int i,.int j]/\(-(2^62)<=i/\i<2^62/\-(2^62)<=j/\j<2^62)/\R (Itr i (j-i).toNat) H1
theorem xD{a:Expr}{ta:TA}{p pos:Pos}(hg:Gl X "range")(hm:X.mg "range"=none)(ha:PA X [a] ta)(hs:dG [a] X.env=[(false,eU a X.env)]:=by rfl):PI X tg (.Call (.Name "range" p) [a] [] pos) (iRng1 ta):=by
 intro b9 s σ H R I h;refine Call_ (jC3 I hg hm vH (PyProof.Rows.callWith_type1 (thn (ha pos b9 s σ H _ I h) fun us s1 ⟨vs,H1,I1,r1,q1⟩=>?_) hs rfl));obtain⟨j,e,q1,q2,q⟩:=q1;subst e;cases r1 with
 | cons r rr =>
   cases rr;obtain⟨t,rfl⟩:=r;exact call_range_1 (jLE I1 (by omega) (by omega) q1 q2 (by simpa using q))
theorem jN6(hg:Gl X "range")(hm:X.mg "range"=none)(ha:PA X [a,b] ta)(hs:dG [a,b] X.env=[(false,eU a X.env),(false,eU b X.env)]:=by rfl)(uE:dG [b] X.env=[(false,eU b X.env)]:=by rfl) :
 PI X tg (.Call (.Name "range" p) [a,b] [] pos) (iRng2 ta):=by
 intro b9 s σ H R I h;refine Call_ (jC3 I hg hm vH (PyProof.Rows.callWith_type1 (thn (ha pos b9 s σ H _ I h) fun us s1 ⟨vs,H1,I1,r1,q1⟩=>?_) (by rw [hs,uE]) (by rw [uE];rfl)));obtain⟨i,j,e,⟨q1,q2,q3,q4⟩,q⟩:=q1;subst e;cases r1 with
 | cons r rr =>
   cases rr with
   | cons r' rr =>
     cases rr;obtain⟨t,rfl⟩:=r;obtain⟨t',rfl⟩:=r';exact call_range_2 (jLE I1 q1 q2 q3 q4 q)
def tFor(wi:TI)(g:TG)(tb:TS):TS:=fun D σ H=>wi σ H fun J H1=>∃ W:Nat->Nat->St->Hp->Prop,(∃ m,W 0 m σ H1)/\∀ i m σ H,W i m σ H ->
 (J.stop i H/\D.nx σ H)\/(J.go i H/\∃ N:St->Hp->Prop,(∀ σ' H',N σ' H'->∃ m',m'<m/\W (i+1) m' σ' H')/\∀ x H',J.yld i H x H'->g x σ H' fun σ2 H2=>tb { D with nx:=N,ct:=N,bk:=D.nx } σ2 H2)
def jHz(fp:List Addr)(h:Heap):List (Addr×Obj):=fp.filterMap fun b=>(h.get? b).map fun o=>(b,o)
theorem jE2(hb:b∈fp)(e:h.get? b=some o):(b,o)∈jHz fp h:=List.mem_filterMap.mpr ⟨b,hb,by rw [e];rfl⟩
theorem jN7(hp:p∈jHz fp h):p.1∈fp/\h.get? p.1=some p.2:=by
 obtain⟨b,hb,e⟩:=List.mem_filterMap.mp hp;cases q:h.get? b with
 | none=>rw [q] at e;cases e
 | some o =>
   rw [q] at e;have e':(b,o)=p:=Option.some.inj e;subst e';exact⟨hb,q⟩
theorem Inv.pinned(I:Inv X b9 σ H s)(hf:∀ b∈fp,jGO X b9 H b)(ho:∀ b∈fp,∃ o,s.heap.get? b=some o/\∀ v,o.data≠.cell v):Inv X (b9++jHz fp s.heap) σ H s :=
 I.pins_of fun p hp=>(eV.mp hp).elim (fun z=>I.pin p (dD _ z)) fun z=>by
  obtain⟨hb,e⟩:=jN7 z;obtain⟨f0,f1,f2,_⟩:=hf p.1 hb;obtain⟨o,e',d⟩:=ho p.1 hb;rw [e] at e';cases e';exact⟨e,f0,f1,f2,d⟩
theorem Inv.unpinned(I:Inv X (b9++pl) σ H s):Inv X b9 σ H s:=I.pins_of fun p hp=>I.pin p (dD _ (fX _ hp))
theorem pN(hp:PassesOwn (dF X.prog X.w) X.A X.env X.xe)(hc:X.calm=true)(hi:PI X tg lR wi)(hg:PG X tg g)(hb:PSs X body tb) 
 (hs:∀ x,qU lR X.env x=pure x:=by intro _;rfl):PS X (.For tg lR body [] pos) (tFor wi g tb):=by
 intro b9 s σ H D I h;refine wpAny_For (thn (hi b9 s σ H _ I h) fun v s1 h1=>thn h1 fun itv s2 h2=>?_) hs;obtain⟨it,fp,tn,J,H2,e,I2,T,st2,f2,W,⟨m0,w0⟩,turn⟩:=h2;subst e
 -- what stays true of the iterator's objects through the loop
 have sU:∀ {H':Hp},(∀ b∈fp,H' b=none)->∀ b∈fp,jGO X b9 H' b:=fun hn b hb=>⟨hn b hb,(f2 b hb).2⟩
 refine codeAny_forLoop_any (fun n s'=>∃ i σ' H',Inv X b9 σ' H' s'/\tn i s'.heap/\(∀ b∈fp,H' b=none)/\W i n σ' H') ?_ m0 ⟨0,σ,H2,I2,st2,fun b hb=>(f2 b hb).1,w0⟩;rintro n s3 ⟨i,σ3,H3,I3,st3,fr3,w3⟩;rcases turn i n σ3 H3 w3 with⟨stop,qn⟩|⟨go,N,hN,step⟩
 ·refine iK hp (thn (T.done X rfl rfl rfl hc i b9 s3 σ3 H3 X.xe I3 (sU fr3) st3 stop) fun r s4 ⟨hr,I4⟩=>?_);subst hr;exact lA ⟨σ3,H3,I4,qn⟩
 ·refine iK hp (thn (T.item X rfl rfl rfl hc i b9 s3 σ3 H3 X.xe I3 (sU fr3) st3 go) fun r s4 ⟨u,hr,h4⟩=>?_);subst hr;refine iK hp (thn h4 fun _ s5 ⟨x,H5,I5,r5,y5,st5,fr5⟩=>?_);have I5':=I5.pinned (sU fr5) (T.obj _ _ st5);refine iK hp (thn (hg _ s5 σ3 H5 x u _ I5' r5 (step x H5 y5)) fun _ s6 ⟨σ6,H6,I6,q6⟩=>?_);refine iK hp (thn (hb _ s6 σ6 H6 _ I6 q6) fun f s7 q7=>?_);have again:∀ {σ7:St} {H7:Hp},Inv X (b9++jHz fp s5.heap) σ7 H7 s7->N σ7 H7->∃ m,m<n/\∃ i σ' H',Inv X b9 σ' H' s7/\tn i s7.heap/\(∀ b∈fp,H' b=none)/\W i m σ' H':=fun {σ7 H7} I7 n7=>by
   obtain⟨m',hm,w7⟩:=hN σ7 H7 n7;refine⟨m',hm,i+1,σ7,H7,I7.unpinned,T.keep _ _ _ st5 fun b hb o e=>(I7.pin (b,o) (dD _ (dD _ (jE2 hb e)))).1,fun b hb=>?_,w7⟩;obtain⟨o,e,d⟩:=T.obj _ _ st5 b hb;exact (I7.pin (b,o) (dD _ (dD _ (jE2 hb e)))).2.1
  cases f with
  | next=>obtain⟨σ7,H7,I7,n7⟩:=q7;exact again I7 n7
  | cont=>obtain⟨σ7,H7,I7,n7⟩:=q7;exact again I7 n7
  | brk=>obtain⟨σ7,H7,I7,q7⟩:=q7;exact⟨σ7,H7,I7.unpinned,q7⟩
  | ret v=>obtain⟨x7,σ7,H7,I7,r7,q7⟩:=q7;exact⟨x7,σ7,H7,I7.unpinned,r7,q7⟩
end
theorem uZ{K:PySem.W.Frag}{a:Addr}{xs:List V}{g:TG}{tb:TS}{D:tH}{σ:St}{H:Hp}(Pv:Nat->St->Hp->Prop)(h0:Pv 0 σ H)(hl:∀ i σ H,i<=xs.length->Pv i σ H->SqL K H a xs)
 (hs:∀ i x σ H,xs[i]?=some x->Pv i σ H->g x σ H fun σ2 H2=>tb { D with nx:=Pv (i+1),ct:=Pv (i+1),bk:=D.nx } σ2 H2) (hd:∀ σ H,Pv xs.length σ H->D.nx σ H) :
 ∃ W:Nat->Nat->St->Hp->Prop,(∃ m,W 0 m σ H)/\∀ i m σ H,W i m σ H ->
  ((Itl K a).stop i H/\D.nx σ H)\/((Itl K a).go i H/\∃ N:St->Hp->Prop,(∀ σ' H',N σ' H'->∃ m',m'<m/\W (i+1) m' σ' H')/\∀ x H',(Itl K a).yld i H x H'->g x σ H' fun σ2 H2=>tb { D with nx:=N,ct:=N,bk:=D.nx } σ2 H2):=by
 exists fun i m σ H=>m=xs.length-i/\i<=xs.length/\Pv i σ H,⟨xs.length,by simp,d5 _,h0⟩
 rintro i m σ H ⟨rfl,hi,p⟩;have q:=hl i σ H hi p;by_cases kP:i<xs.length
 ·refine .inr ⟨⟨xs,xs[i],q,by simp [kP]⟩,Pv (i+1),fun σ' H' p'=>⟨xs.length-(i+1),by omega,rfl,kP,p'⟩,fun x H' y=>?_⟩;obtain⟨e,y⟩:=y;subst e;exact hs i x σ _ (y xs q) p
 ·have e:i=xs.length:=by omega
  subst e;exact .inl ⟨⟨xs,q,le_refl _⟩,hd σ H p⟩
theorem jDr{lo:Int}{n:Nat}{g:TG}{tb:TS}{D:tH}{σ:St}{H:Hp}(Pv:Nat->St->Hp->Prop)(h0:Pv 0 σ H)
 (hs:∀ i σ H,i<n->Pv i σ H->g (.int (lo+i)) σ H fun σ2 H2=>tb { D with nx:=Pv (i+1),ct:=Pv (i+1),bk:=D.nx } σ2 H2) (hd:∀ σ H,Pv n σ H->D.nx σ H) :
 ∃ W:Nat->Nat->St->Hp->Prop,(∃ m,W 0 m σ H)/\∀ i m σ H,W i m σ H ->
  ((Itr lo n).stop i H/\D.nx σ H)\/((Itr lo n).go i H/\∃ N:St->Hp->Prop,(∀ σ' H',N σ' H'->∃ m',m'<m/\W (i+1) m' σ' H')/\∀ x H',(Itr lo n).yld i H x H'->g x σ H' fun σ2 H2=>tb { D with nx:=N,ct:=N,bk:=D.nx } σ2 H2):=by
 exists fun i m σ H=>m=n-i/\i<=n/\Pv i σ H,⟨n,by simp,d5 _,h0⟩
 rintro i m σ H ⟨rfl,hi,p⟩;by_cases kP:i<n
 ·refine .inr ⟨kP,Pv (i+1),fun σ' H' p'=>⟨n-(i+1),by omega,rfl,kP,p'⟩,fun x H' y=>?_⟩;obtain⟨e,y⟩:=y;subst e y;exact hs i σ _ kP p
 ·have e:i=n:=by omega
  subst e;exact .inl ⟨le_refl _,hd σ H p⟩
abbrev R2:=V->V->Hp->VK->Prop
def OpR(X:Cx)(f:Value->Value->Sem Value)(r:R2):Prop :=
 ∀ (b9:List (Addr×Obj)) (s:Shared) (σ:St) (H:Hp) (x y:V) (v u:Value) (Q:VK),Inv X b9 σ H s->gN x v->gN y u->r x y H Q ->
  dC (dF X.prog X.w) X.A (f v u) (EP X b9 σ Q) X.xe s
def UnR(X:Cx)(f:Value->Sem Value)(r:V->Hp->VK->Prop):Prop :=
 ∀ (b9:List (Addr×Obj)) (s:Shared) (σ:St) (H:Hp) (x:V) (v:Value) (Q:VK),Inv X b9 σ H s->gN x v->r x H Q ->
  dC (dF X.prog X.w) X.A (f v) (EP X b9 σ Q) X.xe s
def CallR(X:Cx)(f:Value)(r:List V->Hp->VK->Prop):Prop :=
 ∀ (b9:List (Addr×Obj)) (s:Shared) (σ:St) (H:Hp) (xs:List V) (us:List Value) (Q:VK),Inv X b9 σ H s->gX xs us->r xs H Q ->
  dC (dF X.prog X.w) X.A (call f us) (EP X b9 σ Q) X.xe s
def TruR(X:Cx)(r:V->Hp->(Bool->Hp->Prop)->Prop):Prop :=
 ∀ (b9:List (Addr×Obj)) (s:Shared) (σ:St) (H:Hp) (x:V) (v:Value) (Q:Bool->Hp->Prop),Inv X b9 σ H s->gN x v->r x H Q ->
  dC (dF X.prog X.w) X.A (truthy v) (TP X b9 σ Q) X.xe s
def tOp(r:R2)(ta tb:TE):TE:=fun σ H Q=>ta σ H fun x H1=>tb σ H1 fun y H2=>r x y H2 Q
def tUn(r:V->Hp->VK->Prop)(ta:TE):TE:=fun σ H Q=>ta σ H fun x H1=>r x H1 Q
inductive rI(C:Int->Int->Prop)(g:Int->Int->V)(x:V)(y:V)(H:Hp)(Q:VK):Prop|mk i j:x=.int i->y=.int j->C i j->Q (g i j) H->rI C g x y H Q
inductive rI0(g:Int->Int->V)(x:V)(y:V)(H:Hp)(Q:VK):Prop|mk i j:x=.int i->y=.int j->Q (g i j) H->rI0 g x y H Q
inductive rU(g:Int->V)(x:V)(H:Hp)(Q:VK):Prop|mk i:x=.int i->Q (g i) H->rU g x H Q
section
variable {X:Cx}{a b c:Expr}{ta tb tc:TE}{pos:Pos}
theorem binT(ha:PE X a ta)(hb:PE X b tb){b9:List (Addr×Obj)}{s:Shared}{σ:St}{H:Hp}{R:V->V->Hp->Prop}(I:Inv X b9 σ H s)
 (h:ta σ H fun x H1=>tb σ H1 fun y H2=>R x y H2) {Q:Value->Shared->Prop} {f:Value->Value->Sem Value}
 (hf:∀ v u s2 x y H2,Inv X b9 σ H2 s2->gN x v->gN y u->R x y H2->dC (dF X.prog X.w) X.A (f v u) Q X.xe s2) :
 dC (dF X.prog X.w) X.A (eU a X.env) (fun v fH=>dC (dF X.prog X.w) X.A (eU b X.env) (fun u fQ=>dC (dF X.prog X.w) X.A (f v u) Q X.xe fQ) X.xe fH) X.xe s:=by
 refine thn (ha b9 s σ H _ I h) fun v s1 ⟨x,H1,I1,r1,q1⟩=>?_;refine thn (hb b9 s1 σ H1 _ I1 q1) fun u s2 ⟨y,H2,I2,r2,q2⟩=>?_;exact hf v u s2 x y H2 I2 r1 r2 q2
theorem iO{op:Operator}{r:R2}(ho:OpR X (lZ op) r)(ha:PE X a ta)(hb:PE X b tb):PE X (.BinOp a op b pos) (tOp r ta tb):=by
 intro b9 s σ H Q I h;exact wpAny_BinOp (binT ha hb I h fun v u s2 x y H2 I2 rx ry q=>ho b9 s2 σ H2 x y v u Q I2 rx ry q)
theorem pe_un(ho:UnR X (unaryOp op) r)(ha:PE X a ta):PE X (.UnaryOp op a pos) (tUn r ta):=by
 intro b9 s σ H Q I h;exact UnaryOp_ (thn (ha b9 s σ H _ I h) fun v s1 ⟨x,H1,I1,r1,q1⟩=>ho b9 s1 σ H1 x v Q I1 r1 q1)
theorem opI{f:Value->Value->Sem Value}{C:Int->Int->Prop}{g:Int->Int->Int}
 (zN:∀ (i j:Int) (t u:Tok) (s:Shared) (Q:Value->Shared->Prop) (E:Value->Shared->Prop),C i j->Q (.int (g i j) s.toks) { s with toks:=s.toks+1 }->dC (dF X.prog X.w) X.A (f (.int i t) (.int j u)) Q E s) :
 OpR X f (rI C fun i j=>.int (g i j)):=by
 intro b9 s σ H x y v u Q I rx ry h;obtain⟨i,j,rfl,rfl,hc,q⟩:=h;obtain⟨t,rfl⟩:=rx;obtain⟨t',rfl⟩:=ry;exact zN i j t t' s _ _ hc ⟨.int (g i j),H,I.tok _,⟨_,rfl⟩,q⟩
theorem opI0{f:Value->Value->Sem Value}{g:Int->Int->Int}
 (zN:∀ (i j:Int) (t u:Tok) (s:Shared) (Q:Value->Shared->Prop) (E:Value->Shared->Prop),Q (.int (g i j) s.toks) { s with toks:=s.toks+1 }->dC (dF X.prog X.w) X.A (f (.int i t) (.int j u)) Q E s) :
 OpR X f (rI0 fun i j=>.int (g i j)):=by
 intro b9 s σ H x y v u Q I rx ry h;obtain⟨i,j,rfl,rfl,q⟩:=h;obtain⟨t,rfl⟩:=rx;obtain⟨t',rfl⟩:=ry;exact zN i j t t' s _ _ ⟨.int (g i j),H,I.tok _,⟨_,rfl⟩,q⟩
theorem opB0{f:Value->Value->Sem Value}{g:Int->Int->Bool}
 (zN:∀ (i j:Int) (t u:Tok) (s:Shared) (Q:Value->Shared->Prop) (E:Value->Shared->Prop),Q (.bool (g i j)) s->dC (dF X.prog X.w) X.A (f (.int i t) (.int j u)) Q E s) :
 OpR X f (rI0 fun i j=>.bl (g i j)):=by
 intro b9 s σ H x y v u Q I rx ry h;obtain⟨i,j,rfl,rfl,q⟩:=h;obtain⟨t,rfl⟩:=rx;obtain⟨t',rfl⟩:=ry;exact zN i j t t' s _ _ ⟨.bl (g i j),H,I,rfl,q⟩
def CDiv(i j:Int):Prop:=0<j/\j<1073741824
def CMul(i j:Int):Prop:=(-(2^64)<i/\i<2^64)\/(-(2^64)<j/\j<2^64)
theorem CMul.ok(h:CMul i j):IntMulOk i j:=by
 rcases h with⟨h1,h2⟩|⟨h1,h2⟩
 ·exact .of_left (zZ h1 h2)
 ·exact .of_right (zZ h1 h2)
theorem oE:OpR X (lZ .Add) (rI0 fun i j=>.int (i+j)):=opI0 fun _ _ _ _ _ _ _ q=>add_int q
theorem jHA:OpR X (lZ .Sub) (rI0 fun i j=>.int (i-j)):=opI0 fun _ _ _ _ _ _ _ q=>sub_int q
theorem jFk:OpR X (lZ .Mult) (rI CMul fun i j=>.int (i*j)):=opI fun _ _ _ _ _ _ _ hc q=>mul_int q hc.ok
theorem jGx:OpR X (lZ .FloorDiv) (rI CDiv fun i j=>.int (i/j)):=opI fun i j _ _ _ _ _ hc q=>by
 have h1:(0:Int)<j:=hc.1;have h2:j<1073741824:=hc.2;exact floordiv_int (by omega) (by rw [Int.fdiv_eq_ediv_of_nonneg i (by omega)];exact q) (.inl (nM (by omega)))
theorem t8:OpR X (lZ .Mod) (rI (fun _ j=>0<j) fun i j=>.int (i%j)):=opI fun i j _ _ _ _ _ hc q=>by
 have h1:(0:Int)<j:=hc;exact mod_int' (by omega) (by rw [Int.fmod_eq_emod_of_nonneg i (by omega)];exact q)
theorem unI{f:Value->Sem Value}{g:Int->Int}
 (zN:∀ (i:Int) (t:Tok) (s:Shared) (Q:Value->Shared->Prop) (E:Value->Shared->Prop),Q (.int (g i) s.toks) { s with toks:=s.toks+1 }->dC (dF X.prog X.w) X.A (f (.int i t)) Q E s) :
 UnR X f (rU fun i=>.int (g i)):=by
 intro b9 s σ H x v Q I rx h;obtain⟨i,rfl,q⟩:=h;obtain⟨t,rfl⟩:=rx;exact zN i t s _ _ ⟨.int (g i),H,I.tok _,⟨_,rfl⟩,q⟩
theorem jN8:UnR X (unaryOp .USub) (rU fun i=>.int (-i)):=unI fun _ _ _ _ _ q=>neg_int q
end
def scal:V->V->Bool
 | .non,.non=>true|.non,.int _=>true|.int _,.non=>true|.non,.bl _=>true|.bl _,.non=>true|.non,.str _=>true|.str _,.non=>true
 | .int _,.int _=>true|.bl _,.bl _=>true|.str _,.str _=>true|.byt _,.byt _=>true
 | .int _,.str _=>true|.str _,.int _=>true|.bl _,.str _=>true|.str _,.bl _=>true
 | _,_=>false
def rEq:R2:=fun x y H Q=>scal x y=true/\Q (.bl (decide (x=y))) H
def rNe:R2:=fun x y H Q=>scal x y=true/\Q (.bl (!decide (x=y))) H
theorem jNi:decide (V.int i=V.int j)=(i==j):=by
 rw [Bool.eq_iff_iff];simp
theorem jN9:decide (V.bl i=V.bl j)=(i==j):=by
 rw [Bool.eq_iff_iff];simp
theorem jNj:decide (V.str i=V.str j)=(i==j):=by
 rw [Bool.eq_iff_iff];simp
theorem jNk:decide (V.byt i=V.byt j)=(i.toList==j.toList):=by
 rw [Bool.eq_iff_iff];cases i;cases j;simp
section
variable {X:Cx}{a b c:Expr}{ta tb tc:TE}{pos:Pos}
theorem mP(I:Inv X b9 σ H s)(q:Q (.bl k) H)(e:k=k'):EP X b9 σ Q (.bool k') s:=by
 subst e;exact⟨.bl k,H,I,rfl,q⟩
theorem nC:OpR X (fM .Eq) rEq:=by
 intro b9 s σ H x y v u Q I rx ry h;obtain⟨hs,q⟩:=h;cases x with
 | non =>
   cases rx;cases y with
   | non=>cases ry;exact PySem.EqNone.eq_none_none (mP I q (by simp))
   | bl j=>cases ry;exact PySem.EqNone.eq_none_bool (mP I q (by simp))
   | int j=>obtain⟨t',rfl⟩:=ry;exact PySem.EqNone.eq_none_int (mP I q (by simp))
   | str j=>obtain⟨t',rfl⟩:=ry;exact PySem.EqNone.eq_none_str (mP I q (by simp))
   | _=>exact absurd (show false=true from hs) Bool.false_ne_true
 | bl i =>
   cases rx;cases y with
   | non=>cases ry;exact PySem.EqNone.eq_bool_none (mP I q (by simp))
   | bl j=>cases ry;exact eq_bool (mP I q jN9)
   | str j=>obtain⟨t',rfl⟩:=ry;exact PySem.EqMixed.eq_bool_str (mP I q (by simp))
   | _=>exact absurd (show false=true from hs) Bool.false_ne_true
 | int i =>
   obtain⟨t,rfl⟩:=rx;cases y with
   | non=>cases ry;exact PySem.EqNone.eq_int_none (mP I q (by simp))
   | int j=>obtain⟨t',rfl⟩:=ry;exact eq_int (mP I q jNi)
   | str j=>obtain⟨t',rfl⟩:=ry;exact PySem.EqMixed.eq_int_str (mP I q (by simp))
   | _=>exact absurd (show false=true from hs) Bool.false_ne_true
 | str i =>
   obtain⟨t,rfl⟩:=rx;cases y with
   | non=>cases ry;exact PySem.EqNone.eq_str_none (mP I q (by simp))
   | bl j=>cases ry;exact PySem.EqMixed.eq_str_bool (mP I q (by simp))
   | int j=>obtain⟨t',rfl⟩:=ry;exact PySem.EqMixed.eq_str_int (mP I q (by simp))
   | str j=>obtain⟨t',rfl⟩:=ry;exact eq_str (mP I q jNj)
   | _=>exact absurd (show false=true from hs) Bool.false_ne_true
 | byt i =>
   obtain⟨t,rfl⟩:=rx;cases y with
   | byt j=>obtain⟨t',rfl⟩:=ry;exact PySem.W.eq_bytes (mP I q jNk)
   | _=>exact absurd (show false=true from hs) Bool.false_ne_true
 | _=>cases y<;>exact absurd (show false=true from hs) Bool.false_ne_true
theorem jEr:OpR X (fM .NotEq) rNe:=by
 intro b9 s σ H x y v u Q I rx ry h;obtain⟨hs,q⟩:=h;cases x with
 | non =>
   cases rx;cases y with
   | non=>cases ry;exact PySem.EqNone.ne_none_none (mP I q (by simp))
   | bl j=>cases ry;exact PySem.EqNone.ne_none_bool (mP I q (by simp))
   | int j=>obtain⟨t',rfl⟩:=ry;exact PySem.EqNone.ne_none_int (mP I q (by simp))
   | str j=>obtain⟨t',rfl⟩:=ry;exact PySem.EqNone.ne_none_str (mP I q (by simp))
   | _=>exact absurd (show false=true from hs) Bool.false_ne_true
 | bl i =>
   cases rx;cases y with
   | non=>cases ry;exact PySem.EqNone.ne_bool_none (mP I q (by simp))
   | bl j=>cases ry;exact ne_bool (mP I q (congrArg not jN9))
   | str j=>obtain⟨t',rfl⟩:=ry;exact PySem.EqMixed.ne_bool_str (mP I q (by simp))
   | _=>exact absurd (show false=true from hs) Bool.false_ne_true
 | int i =>
   obtain⟨t,rfl⟩:=rx;cases y with
   | non=>cases ry;exact PySem.EqNone.ne_int_none (mP I q (by simp))
   | int j=>obtain⟨t',rfl⟩:=ry;exact ne_int (mP I q (congrArg not jNi))
   | str j=>obtain⟨t',rfl⟩:=ry;exact PySem.EqMixed.ne_int_str (mP I q (by simp))
   | _=>exact absurd (show false=true from hs) Bool.false_ne_true
 | str i =>
   obtain⟨t,rfl⟩:=rx;cases y with
   | non=>cases ry;exact PySem.EqNone.ne_str_none (mP I q (by simp))
   | bl j=>cases ry;exact PySem.EqMixed.ne_str_bool (mP I q (by simp))
   | int j=>obtain⟨t',rfl⟩:=ry;exact PySem.EqMixed.ne_str_int (mP I q (by simp))
   | str j=>obtain⟨t',rfl⟩:=ry;exact ne_str (mP I q (congrArg not jNj))
   | _=>exact absurd (show false=true from hs) Bool.false_ne_true
 | byt i =>
   obtain⟨t,rfl⟩:=rx;cases y with
   | byt j=>obtain⟨t',rfl⟩:=ry;exact PySem.W.ne_bytes (mP I q (congrArg not jNk))
   | _=>exact absurd (show false=true from hs) Bool.false_ne_true
 | _=>cases y<;>exact absurd (show false=true from hs) Bool.false_ne_true
theorem jFN:OpR X (fM .Lt) (rI0 fun i j=>.bl (decide (i<j))):=opB0 fun _ _ _ _ _ _ _ q=>lt_int q
theorem op_le:OpR X (fM .LtE) (rI0 fun i j=>.bl (decide (i<=j))):=opB0 fun _ _ _ _ _ _ _ q=>le_int q
theorem jH6:OpR X (fM .Gt) (rI0 fun i j=>.bl (decide (j<i))):=opB0 fun _ _ _ _ _ _ _ q=>gt_int q
theorem op_ge:OpR X (fM .GtE) (rI0 fun i j=>.bl (decide (j<=i))):=opB0 fun _ _ _ _ _ _ _ q=>ge_int q
theorem jFl:OpR X (fM .Is) (fun x y H Q=>y=.non/\Q (.bl (decide (x=.non))) H):=by
 intro b9 s σ H x y v u Q I rx ry h;obtain⟨rfl,q⟩:=h;cases ry;refine is_none_gen (mP I q ?_);cases x<;>first
  | (cases rx;rfl)
  | (obtain⟨t,rfl⟩:=rx;rfl)
theorem jFe:OpR X (fM .IsNot) (fun x y H Q=>y=.non/\Q (.bl (!decide (x=.non))) H):=by
 intro b9 s σ H x y v u Q I rx ry h;obtain⟨rfl,q⟩:=h;cases ry;refine isnot_none_gen (mP I q ?_);cases x<;>first
  | (cases rx;rfl)
  | (obtain⟨t,rfl⟩:=rx;rfl)
theorem jN_(b:Expr)(h:op≠.In:=by decide)(h2:op≠.NotIn:=by decide):iB op b=false:=by
 have e1:(op==CmpOp.In)=false:=by cases op<;>first|rfl|exact absurd rfl h
 have e2:(op==CmpOp.NotIn)=false:=by cases op<;>first|rfl|exact absurd rfl h2
 cases b<;>simp [iB,e1,e2]
theorem pe_cmpR(ho:OpR X (fM op) r)(ha:PE X a ta)(hb:PE X b tb)(hm:iB op b=false):PE X (.Compare a [op] [b] pos) (tOp r ta tb):=by
 intro b9 s σ H Q I h;exact wpAny_Compare1 (binT ha hb I h fun v u s2 x y H2 I2 rx ry q=>ho b9 s2 σ H2 x y v u Q I2 rx ry q) hm
def jIY(t:TE):TT:=fun σ H Q=>t σ H fun x H'=>∃ k,x=.bl k/\Q k H'
theorem jNl(ho:OpR X (fM op) r)(ha:PE X a ta)(hb:PE X b tb)(hm:iB op b=false):PT X (.Compare a [op] [b] pos) (jIY (tOp r ta tb)):=by
 intro b9 s σ H Q I h
 refine yF (thn (ha b9 s σ H _ I h) fun v s1 ⟨x,H1,I1,r1,q1⟩=>thn (hb b9 s1 σ H1 _ I1 q1) fun u s2 ⟨y,H2,I2,r2,q2⟩ =>
  thn (ho b9 s2 σ H2 x y v u _ I2 r1 r2 q2) fun c s3 ⟨z,H3,I3,r3,k,e,q3⟩=>?_) hm
 subst e;cases r3;exact iP ⟨H3,I3,q3⟩
def tChain(r r':R2)(ta tb tc:TE):TE:=fun σ H Q=>ta σ H fun x H1=>tb σ H1 fun y H2=>r x y H2 fun z H3=>∃ k,z=.bl k /\
 (if k=true then tc σ H3 fun w' H4=>r' y w' H4 Q else Q (.bl false) H3)
theorem jO7(ho:OpR X (fM op) r)(ho':OpR X (fM op') r')(ha:PE X a ta)(hb:PE X b tb)(hc:PE X c tc) 
 (hm:lastMarks [op,op'] [b,c]=false:=by with_unfolding_all rfl):PE X (.Compare a [op,op'] [b,c] pos) (tChain r r' ta tb tc):=by
 intro b9 s σ H Q I h
 refine Compare_chain (thn (ha b9 s σ H _ I h) fun v s1 ⟨x,H1,I1,r1,q1⟩=>chain_link (thn (hb b9 s1 σ H1 _ I1 q1) fun u s2 ⟨y,H2,I2,r2,q2⟩ =>
  thn (ho b9 s2 σ H2 x y v u _ I2 r1 r2 q2) fun d s3 ⟨z,H3,I3,r3,k,e,q3⟩=>?_)) hm
 subst e;cases r3;refine iP ?_;cases k with
 | false=>exact ite_ff ⟨.bl false,H3,I3,rfl,q3⟩
 | true=>exact ite_tt (chain_last (thn (hc b9 s3 σ H3 _ I3 q3) fun w' s4 ⟨z',H4,I4,r4,q4⟩=>ho' b9 s4 σ H4 y z' u w' Q I4 r2 r4 q4))
def TruV(K:PySem.W.Frag)(x:V)(H:Hp)(k:Bool):Prop :=
 match x with
 | .non=>k=false
 | .bl b=>k=b
 | .int i=>k=(i != 0)
 | .str y=>y.length<=c9/\k=((y.length:Int) != 0)
 | .byt y=>y.size<=c9/\k=((y.size:Int) != 0)
 | .ref p=>(∃ xs,SqL K H p xs/\k=!xs.isEmpty)\/(∃ xs,SqT K H p xs/\k=!xs.isEmpty)\/∃ kvs,H p=some (.dK kvs)/\k=!kvs.isEmpty
 | _=>False
theorem jNE(r:KV kvs vs):(!vs.isEmpty)=!kvs.isEmpty:=by
 cases r<;>rfl
theorem jIZ(r:gX xs its):(!its.toArray.isEmpty)=!xs.isEmpty:=by
 cases r<;>simp
theorem jEx:(c9:Nat)<2^63:=by rw [fC];decide
theorem tru_ok:TruR X (fun x H Q=>∃ k,TruV X.K x H k/\Q k H):=by
 intro b9 s σ H x v Q I rx h;obtain⟨k,e,q⟩:=h;have hl:=jEx;have hs:c9=16777216:=fC;cases x with
 | non =>
   cases rx;have e':k=false:=e;subst e';exact truthy_none ⟨H,I,q⟩
 | bl b =>
   cases rx;have e':k=b:=e;subst e';exact iP ⟨H,I,q⟩
 | int i =>
   obtain⟨t,rfl⟩:=rx;have e':k=(i != 0):=e;subst e';exact PySem.P.truthy_int ⟨H,I,q⟩
 | str y =>
   obtain⟨t,rfl⟩:=rx;obtain⟨hy,e'⟩:y.length<=c9/\k=((y.length:Int) != 0):=e;subst e';exact PySem.P.truthy_str (by omega) ⟨H,I.tok _,q⟩
 | byt y =>
   obtain⟨t,rfl⟩:=rx;obtain⟨hy,e'⟩:y.size<=c9/\k=((y.size:Int) != 0):=e;subst e';exact PySem.W.truthy_bytes (by omega) ⟨H,I.tok _,q⟩
 | ref p =>
   cases rx;have e':(∃ xs,SqL X.K H p xs/\k=!xs.isEmpty)\/(∃ xs,SqT X.K H p xs/\k=!xs.isEmpty)\/∃ kvs,H p=some (.dK kvs)/\k=!kvs.isEmpty:=e;rcases e' with⟨xs,hx,e'⟩|⟨xs,hx,e'⟩|⟨kvs,hx,e'⟩
   ·subst e';obtain⟨its,r,pl,hz⟩:=I.list hx;have kK:=r.length;exact wpAny_truthy_list pl.isList (by simp only [dL];omega) ⟨H,I.tok _,by rw [jIZ r];exact q⟩
   ·subst e';obtain⟨its,r,pl,hz⟩:=I.tuple hx;have kK:=r.length;exact truthy_tuple pl (by simp only [dL];omega) ⟨H,I.tok _,by rw [jIZ r];exact q⟩
   ·subst e';obtain⟨hz,hS,vs,r,m⟩:kvs.length<=c9/\(p==iZ)=false/\∃ vs,KV kvs vs/\s.heap.DictOf (oB X.prog X.w) p vs:=I.hok p _ hx;have kK:kvs.length=vs.length:=Paired.length r;exact wpAny_truthy_dict hS m (by omega) ⟨H,I.tok _,by rw [jNE r];exact q⟩
 | _=>exact (show False from e).elim
theorem mU(ha:PE X a ta)(he:∀ nA,yD a X.env nA=(do let v <- nA;lK a.pos;j6 [v] (truthy v))) :
 PT X a (fun σ H Q=>ta σ H fun x H'=>∃ k,TruV X.K x H' k/\Q k H'):=by
 intro b9 s σ H Q I h;exact isTrue_plain (thn (ha b9 s σ H _ I h) fun v s1 ⟨x,H1,I1,r1,q1⟩=>tru_ok b9 s1 σ H1 x v Q I1 r1 q1) (he _)
theorem jCR:OpR X (lZ .Add) (fun x y H Q=>∃ i j,x=.str i/\y=.str j/\i.length+j.length<=c9/\Q (.str (i++j)) H):=by
 intro b9 s σ H x y v u Q I rx ry h;obtain⟨i,j,rfl,rfl,hz,q⟩:=h;obtain⟨t,rfl⟩:=rx;obtain⟨t',rfl⟩:=ry;exact add_str (fun t' tk=>⟨.str (i++j),H,I.tok _,⟨_,rfl⟩,q⟩) hz
theorem uU(r:gX [x] us):∃ u,us=[u]/\gN x u:=by
 cases r with
 | cons r1 r2=>cases r2;exact⟨_,rfl,r1⟩
theorem vals2(r:gX [x,y] us):∃ u w',us=[u,w']/\gN x u/\gN y w':=by
 cases r with
 | cons r1 r2 =>
   cases r2 with
   | cons r3 r4=>cases r4;exact⟨_,_,rfl,r1,r3⟩
theorem jCF:CallR X (.type "str") (fun xs H Q=>∃ i,xs=[.int i]/\i.natAbs.log2<1920/\Q (.str (toString i)) H):=by
 intro b9 s σ H xs us Q I r h;obtain⟨i,rfl,hz,q⟩:=h;obtain⟨u,rfl,t,rfl⟩:=uU r;exact PySem.P.str_of_int hz ⟨.str _,H,I.tok _,⟨_,rfl⟩,q⟩
end
structure ObjM(h:Heap)(x dx C:Addr)(mA:Str->Option Value):Prop where
 obj:h.get? x=some (lY C dx)
 ns:h.Ns1 dx mA
 ne:dx≠x
theorem lookIn_ns{h:Heap}{dx:Addr}{mA:Str->Option Value}(n:h.Ns1 dx mA):∃ od,h.get? dx=some od/\∀ name,vM name od=some (mA name):=by
 obtain⟨o,es,ep,ho,hd,hk,_,hm⟩:=n;refine⟨o,ho,fun name=>?_⟩;have e:=hm name;unfold nsFind findBy at e;rw [<- Array.find?_toList] at e;unfold vM;rw [hd];dsimp only;split
 ·rename_i y q
  rw [q] at e;exact congrArg some e
 ·rename_i q
  rw [q] at e;have a:es.toList.any (·.refKey)=false:=by
   rw [List.any_eq_false];intro y hy;obtain⟨z,t,tR⟩:=hk y (Array.mem_toList_iff.mp hy);simp [DictEntry.refKey,tR]
  have a':¬ es.toList.any (·.refKey)=true:=by rw [a];exact Bool.false_ne_true
  rw [if_neg a'];exact congrArg some e
theorem ObjM.look(I:ObjM h x dx C mA):∃ od,PySem.W.InstAt h x (lY C dx) C (some od)/\∀ name,vM name od=some (mA name) :=
 let ⟨od,ho,hl⟩:=lookIn_ns I.ns
 ⟨od,⟨I.obj,rfl,rfl,ho⟩,hl⟩
section
variable {prog:Program}{w:World}{A:Around}{E:Value->Shared->Prop}{s:Shared}{K:PySem.W.Frag}{x dx C f:Addr}{mA:Str->Option Value}{name:Str}{v:Value}
theorem get_map(X:K.In s.heap)(I:ObjM s.heap x dx C mA)(hg:nL K C name=true)(hh:PySem.W.hasDictIn K C=true) 
 (ha:PySem.W.findIn K (.ref C) name=some none) (hv:mA name=some v) (hv':xU v=true) (h:Q v { s with toks:=s.toks+1 }) :
 dC (dF prog w) A (getAttr (.ref x) name expr) Q E s:=by
 obtain⟨od,J,hl⟩:=I.look;exact PySem.W.get_value X J (nK hg).1 (PySem.W.findObj_own hh ha rfl (by rw [hl,hv])) hv' h
theorem jO8(X:K.In s.heap)(I:ObjM s.heap x dx C mA)(hg:nL K C name=true) 
 (hf:PySem.W.findIn K (.ref C) name=some (some (.ref f))) (ht:yP K (.ref f)=true) (hv:mA name=none) (h:Q (.ref f,[.ref x]) s) :
 dC (dF prog w) A (mZ (.ref x) name pl) Q E s:=by
 obtain⟨od,J,hl⟩:=I.look;exact PySem.W.method_fn X J (nK hg).1 (nK hg).2 hf (beq_iff_eq.mp ht) (by show (vM name od).map (·.isSome)=some false;rw [hl,hv];rfl) h
theorem set_map(X:K.In s.heap)(I:ObjM s.heap x dx C mA) 
 (hs:PySem.W.findIn K (.ref C) "__setattr__"=some (some (.builtin "object.__setattr__"))) (hp:pX K C=true) (ht:PySem.W.takerIn K C name=some none) (hh:PySem.W.hasDictIn K C=true)
 (hw:PySem.Within mA ns) (hsz:ns.length<=c9)
 (h:∀ h',ObjM h' x dx C (fun y=>if y=name then some v else mA y)->SameBut dx s.heap h'->Q () { s with heap:=h',toks:=s.toks+2 }) :
 dC (dF prog w) A (tV (.ref x) name v) Q E s:=by
 obtain⟨od,J,hl⟩:=I.look;refine PySem.W.set_plain X J hs (PySem.W.osa_open (s:={ s with toks:=s.toks+1 }) (r:=none) X J hp ht fun b=>?_);obtain⟨cd,hc,hd'⟩:=PySem.W.any_some hh;have hx:s.heap.get? x=some ⟨.ref C,some dx,.plain,#[]⟩:=I.obj;refine c5 (dE (c5 (c5 (uG hx (c5 (PySem.W.Looks.here (s:={ s with toks:=s.toks+1 }) (PySem.W.looks_clsIn X hc) ?_))))));rw [hd'];refine dE (a:=some dx) (c5 (dE (c5 ?_)));refine yB (s:={ s with toks:=s.toks+1 }) I.ns fun h' hn2 uE=>?_;obtain⟨oD,esD,epD,hoD,hdD,hcD⟩:=hn2.count (PySem.Within.cons name v hw);refine c5 (rG hoD (by rw [hdD];exact rM (le_trans hcD (by rw [eY];omega))) ?_);exact dE (h _ ⟨(uE.2 _ (symm I.ne)).trans I.obj,hn2,I.ne⟩ uE)
theorem jO9(X:K.In s.heap)(hm:rQ K C=true) 
 (hi:PySem.W.findIn K (.ref C) "__init__"=some (some (.ref f))) (hf:PySem.W.typeIn K (.ref f)=some (.type "function"))
 (h:iJ (dF prog w) (A.under (.builtin "type.__call__" ⟨.ref C::vs,kw⟩)) (.call (.ref f) ⟨.ref (s.heap.objs.size+1)::vs,kw⟩) (PySem.W.InitBack (s.heap.objs.size+1) R)
  { s with heap:=(s.heap.push iY).push (lY C s.heap.objs.size) }) :
 iJ (dF prog w) A (.call (.ref C) ⟨vs,kw⟩) R s:=by
 obtain⟨hh,g,d,t,os⟩:=s;exact PySem.W.make_core (PySem.W.makes_of X hm) (PySem.W.looks_findIn X hi) (fun self=>PySem.W.bind_fn X self hf) (.inl rfl) h
end
def mH(f:Str)(v:V):List (Str×V)->List (Str×V)
 | []=>[(f,v)]
 | (g,x)::r=>if g=f then (g,v)::r else (g,x)::mH f v r
theorem jGb(f g:Str)(v:V):∀ fs:List (Str×V),(mH f v fs).lookup g=if g=f then some v else fs.lookup g
 | []=>by
   show List.lookup g [(f,v)]=_;by_cases h:g=f
   ·have hb:(g==f)=true:=beq_iff_eq.mpr h;simp only [List.lookup,hb,if_pos h]
   ·have hb:(g==f)=false:=beq_eq_false_iff_ne.mpr h;simp only [List.lookup,hb,if_neg h]
 | (k,x)::r=>by
   have ih:=jGb f g v r;rw [show mH f v ((k,x)::r)=(if k=f then (k,v)::r else (k,x)::mH f v r) from rfl];by_cases hk:k=f
   ·rw [if_pos hk];by_cases h:g=k
    ·have hb:(g==k)=true:=beq_iff_eq.mpr h;simp only [List.lookup,hb,if_pos (h.trans hk)]
    ·have hb:(g==k)=false:=beq_eq_false_iff_ne.mpr h;simp only [List.lookup,hb,if_neg (fun e:g=f=>h (e.trans hk.symm))]
   ·rw [if_neg hk];by_cases h:g=k
    ·have hb:(g==k)=true:=beq_iff_eq.mpr h;simp only [List.lookup,hb,if_neg (fun e:g=f=>hk (h.symm.trans e))]
    ·have hb:(g==k)=false:=beq_eq_false_iff_ne.mpr h;simp only [List.lookup,hb];exact ih
theorem jEy(f:Str)(v:V):∀ fs:List (Str×V),f∈(mH f v fs).map (·.1)/\∀ g,g∈fs.map (·.1)->g∈(mH f v fs).map (·.1)
 | []=>⟨by simp [mH],fun g h=>by simp at h⟩
 | (k,x)::r=>by
   obtain⟨i1,i2⟩:=jEy f v r;rw [show mH f v ((k,x)::r)=(if k=f then (k,v)::r else (k,x)::mH f v r) from rfl];by_cases hk:k=f
   ·rw [if_pos hk];subst hk;exact⟨by simp,fun g h=>by simpa using h⟩
   ·rw [if_neg hk];refine⟨?_,fun g h=>?_⟩
    ·rw [dQ];exact fB _ i1
    ·rw [dQ] at h ⊢;rcases dZ.mp h with e|e
     ·exact dZ.mpr (.inl e)
     ·exact fB _ (i2 g e)
theorem jGc(f:Str)(v:V):∀ fs:List (Str×V),(mH f v fs).length<=fs.length+1
 | []=>by simp [mH]
 | (k,x)::r=>by
   have ih:=jGc f v r;rw [show mH f v ((k,x)::r)=(if k=f then (k,v)::r else (k,x)::mH f v r) from rfl];by_cases hk:k=f
   ·rw [if_pos hk,eY,eY];omega
   ·rw [if_neg hk,eY,eY];omega
theorem pM.some_of(r:pM (some v) o):∃ u,o=some u/\gN v u:=by
 cases o with
 | none=>exact (show False from r).elim
 | some u=>exact⟨u,rfl,r⟩
theorem pM.none_of(r:pM none o):o=none:=by
 cases o with
 | none=>rfl
 | some u=>exact (show False from r).elim
theorem jOa(r:gN v u):xU u=true:=by
 cases v with
 | non=>cases (show u=Value.none from r);rfl
 | bl b=>cases (show u=Value.bool b from r);rfl
 | int i=>obtain⟨t,e⟩:=(show ∃ t,u=Value.int i t from r);cases e;rfl
 | str x=>obtain⟨t,e⟩:=(show ∃ t,u=Value.str x t from r);cases e;rfl
 | byt b=>obtain⟨t,e⟩:=(show ∃ t,u=bytes b t from r);cases e;rfl
 | flt b=>obtain⟨t,e⟩:=(show ∃ t,u=float b t from r);cases e;rfl
 | ref a=>cases (show u=Value.ref a from r);rfl
 | ty n=>cases (show u=type n from r);rfl
section
variable {P:Program}{w:World}{H H':Hp}{h h':Heap}{a C dx:Addr}{fs fs':List (Str×V)}
theorem jH7(hok:HOk P w H h)(e:H a=some (.ins C dx fs)):∃ mA,ObjM h a dx C mA/\(∀ f,pM (fs.lookup f) (mA f))/\PySem.Within mA (fs.map (·.1))/\fs.length<=1000/\H dx=some (.own a):=by
 obtain⟨d,z,ne,ob,mA,n,r,q⟩:=(show lO P w H h a (.ins C dx fs) from hok a _ e)
 exact⟨mA,⟨ob,n,ne⟩,r,q,z,d⟩
end
structure Cls(K:PySem.W.Frag)(C:Addr):Prop where
 pg:nL K C xV=true
 hd:PySem.W.hasDictIn K C=true
 po:pX K C=true
 sa:PySem.W.findIn K (.ref C) "__setattr__"=some (some (.builtin "object.__setattr__"))
theorem Cls.get{K:PySem.W.Frag}{C:Addr}(c:Cls K C)(f:Str):nL K C f=true:=c.pg
def jB(K:PySem.W.Frag)(C:Addr)(f:Str):Prop:=PySem.W.findIn K (.ref C) f=some none
theorem jB.taker{K:PySem.W.Frag}{C:Addr}{f:Str}(n:jB K C f):PySem.W.takerIn K C f=some none:=by
 unfold PySem.W.takerIn;rw [show PySem.W.findIn K (.ref C) f=some none from n];rfl
structure Meth(K:PySem.W.Frag)(C:Addr)(m:Str)(f:Addr):Prop where
 at_:PySem.W.findIn K (.ref C) m=some (some (.ref f))
 fn:yP K (.ref f)=true
 kp:i8 K (.ref f)=true
section
variable {X:Cx}{b9:List (Addr×Obj)}{σ:St}{H:Hp}{s:Shared}{a C dx:Addr}{fs:List (Str×V)}{f:Str}{v:V}{A:Around}{E:Value->Shared->Prop}
theorem jI0(I:Inv X b9 σ H s)(e:H a=some (.ins C dx fs))(c:Cls X.K C)(n:jB X.K C f)(l:fs.lookup f=some v) 
 (h:∀ u s',Inv X b9 σ H s'->gN v u->Q u s'):dC (dF X.prog X.w) A (getAttr (.ref a) f b) Q E s:=by
 obtain⟨mA,O,r,_,_,_⟩:=jH7 I.hok e;obtain⟨u,hu,ru⟩:=pM.some_of (v:=v) (o:=mA f) (by rw [<- l];exact r f);exact get_map I.kIn O (c.get f) c.hd n hu (jOa ru) (h u _ (I.tok _) ru)
theorem jI1(I:Inv X b9 σ H s)(e:H a=some (.ins C dx fs))(c:Cls X.K C)(k:Meth X.K C m g)(l:fs.lookup m=none) 
 (h:Q (.ref g,[.ref a]) s):dC (dF X.prog X.w) A (mZ (.ref a) m pl) Q E s:=by
 obtain⟨mA,O,r,_,_,_⟩:=jH7 I.hok e;have hn:mA m=none:=pM.none_of (by rw [<- l];exact r m);exact jO8 I.kIn O (c.get m) k.at_ k.fn hn h
theorem jI2(I:Inv X b9 σ H s)(e:H a=some (.ins C dx fs))(c:Cls X.K C)(n:jB X.K C f)(hl:fs.length<1000)(ry:gN y u) 
 (h:∀ s',Inv X b9 σ (upd H a (.ins C dx (mH f y fs))) s'->Q () s'):dC (dF X.prog X.w) A (tV (.ref a) f u) Q E s:=by
 obtain⟨mA,O,r,wi,_,ho⟩:=jH7 I.hok e;have hz:(fs.map (·.1)).length<=c9:=by rw [c6,fC];omega
 refine set_map I.kIn O c.sa c.po n.taker c.hd wi hz fun h' O' sb=>h _ ?_;have hd:∃ o,h'.get? dx=some o:=let ⟨o,_,_,e',_⟩:=O'.ns;⟨o,e'⟩;refine I.write (x:=a) (e:=dx) (by rw [e];exact True.intro) (.inr ho) (fun b q hb z=>(sb.2 b hb).trans z) hd ?_;refine⟨by rw [dW O.ne];exact ho,?_,O.ne,O'.obj,_,O'.ns,fun g=>?_,fun g hg=>?_⟩
 ·have:=jGc f y fs;omega
 ·show pM ((mH f y fs).lookup g) (if g=f then some u else mA g);rw [jGb];by_cases q:g=f
  ·rw [if_pos q,if_pos q];exact ry
  ·rw [if_neg q,if_neg q];exact r g
 ·by_cases q:g=f
  ·rw [q];exact (jEy f y fs).1
  ·refine (jEy f y fs).2 g (wi g fun z=>hg ?_);show (if g=f then some u else mA g)=none;rw [if_neg q];exact z
theorem Inv.made(I:Inv X b9 σ H s):Inv X b9 σ (upd (upd H s.heap.objs.size (.own (s.heap.objs.size+1))) (s.heap.objs.size+1) (.ins C s.heap.objs.size []))
 { s with heap:=(s.heap.push iY).push (lY C s.heap.objs.size) }:=by
 have e1:(s.heap.push iY).get? s.heap.objs.size=some iY:=get?_push_size s.heap rfl;have e2:((s.heap.push iY).push (lY C s.heap.objs.size)).get? (s.heap.objs.size+1)=some (lY C s.heap.objs.size):=by
  have:=get?_push_size (s.heap.push iY) (o:=lY C s.heap.objs.size) rfl;rwa [size_push] at this
 have e3:(s.heap.push iY).Ns s.heap.objs.size (fun _=>none):=⟨iY,#[],_,e1,rfl,(fun e he=>absurd he (by simp)),fun _=>rfl⟩
 have I1:=I.laid (a:=s.heap.objs.size) (o:=.own (s.heap.objs.size+1)) (h':=s.heap.push iY) (t':=s.toks) (fun b u q=>get?_push_of_some _ q) (le_refl _) ⟨_,e1⟩;refine I1.laid (a:=s.heap.objs.size+1) (o:=.ins C s.heap.objs.size []) (t':=s.toks) (fun b u q=>get?_push_of_some _ q) (mK (size_push _ _)) ?_;have ne:s.heap.objs.size≠s.heap.objs.size+1:=eA (kW _);refine⟨by rw [dW ne,d4],d5 _,ne,e2,fun _=>none,(Ns1.of_empty e3).at fun o q=>get?_push_of_some _ q,fun _=>True.intro,fun y hy=>absurd rfl hy⟩
theorem attr_of(hb:jO e f env (eU e env)=eU e env) 
 (h:dC (dF prog w) A (eU e env) (fun o fH=>dC (dF prog w) A (getAttr o f true) Q E fH) E s):dC (dF prog w) A (eU (.Attribute e f pos) env) Q E s :=
 Attribute_any_ h (by rw [arm_eval_Attribute,hb])
end
inductive ItFld(K:PySem.W.Frag)(f:Str)(Q:VK)(x:V)(H1:Hp):Prop|mk a C dx fs v:x=.ref a->H1 a=some (.ins C dx fs)->Cls K C->jB K C f->fs.lookup f=some v->Q v H1->ItFld K f Q x H1
def tFld(K:PySem.W.Frag)(ta:TE)(f:Str):TE:=fun σ H Q=>ta σ H fun x H1=>ItFld K f Q x H1
inductive IsFld(K:PySem.W.Frag)(f:Str)(D:tH)(σ:St)(y:V)(x:V)(H2:Hp):Prop|mk a C dx fs:x=.ref a->H2 a=some (.ins C dx fs)->Cls K C->jB K C f->fs.length<1000->D.nx σ (upd H2 a (.ins C dx (mH f y fs)))->IsFld K f D σ y x H2
def sFld(K:PySem.W.Frag)(ta tv:TE)(f:Str):TS:=fun D σ H=>tv σ H fun y H1=>ta σ H1 fun x H2=>IsFld K f D σ y x H2
def InOp(X:Cx)(op:Operator)(rd:V->V->Hp->VK->Prop):Prop :=
 ∀ (b9:List (Addr×Obj)) (s:Shared) (σ:St) (H:Hp) (x y:V) (u v:Value) (Q:VK),Inv X b9 σ H s->gN x u->gN y v->rd x y H Q->dC (dF X.prog X.w) X.A (inplaceOp op u v) (EP X b9 σ Q) X.xe s
inductive jLF(K:PySem.W.Frag)(tv:TE)(rd:V->V->Hp->VK->Prop)(f:Str)(D:tH)(σ:St)(x:V)(H1:Hp):Prop|mk a C dx fs v:x=.ref a->H1 a=some (.ins C dx fs)->Cls K C->jB K C f->fs.lookup f=some v->(tv σ H1 fun y H2=>rd v y H2 fun z H3=>∃ dx' fs',H3 a=some (.ins C dx' fs')/\fs'.length<1000/\D.nx σ (upd H3 a (.ins C dx' (mH f z fs'))))->jLF K tv rd f D σ x H1
def sFldAug(K:PySem.W.Frag)(ta tv:TE)(rd:V->V->Hp->VK->Prop)(f:Str):TS:=fun D σ H=>ta σ H fun x H1=>jLF K tv rd f D σ x H1
section
variable {X:Cx}{o e value:Expr}{f:Str}{pos nW qL:Pos}{ta tv:TE}
theorem hV(he:PE X e ta)(hb:jO e f X.env (eU e X.env)=eU e X.env):PE X (.Attribute e f pos) (tFld X.K ta f):=by
 intro b9 s σ H Q I h;refine attr_of hb (thn (he b9 s σ H _ I h) fun u s1 ⟨x,H1,I1,rx,a,C,dx,fs,v,ex,ea,c,n,l,q⟩=>?_);subst ex;obtain rfl:u=Value.ref a:=rx;exact jI0 I1 ea c n l fun u' s2 I2 ru=>⟨v,H1,I2,ru,q⟩
theorem kX(ha:PE X o ta)(hv:PE X value tv)(hs:mX value (some (.Attribute o f nW)) pos.line X.env=pure false):PS X (.Assign [.Attribute o f nW] value pos) (sFld X.K ta tv f):=by
 intro b9 s σ H D I h;refine q8 (thn (hv b9 s σ H _ I h) fun u s1 ⟨y,H1,I1,ry,q⟩=>thn (ha b9 s1 σ H1 _ I1 q) fun ov s2 ⟨x,H2,I2,rx,a,C,dx,fs,ex,ea,c,n,l,q2⟩=>?_) hs;subst ex;obtain rfl:ov=Value.ref a:=rx;exact jI2 I2 ea c n l ry fun s3 I3=>⟨σ,_,I3,q2⟩
theorem jOb(ha:PE X o ta)(hv:PE X value tv)(hop:InOp X op rd):PS X (.AugAssign (.Attribute o f qL) op value pos) (sFldAug X.K ta tv rd f):=by
 intro b9 s σ H D I h;refine wpAny_AugAssign_AttributeAny (thn (ha b9 s σ H _ I h) fun ov s1 ⟨x,H1,I1,rx,a,C,dx,fs,v,ex,ea,c,n,l,q⟩=>?_);subst ex;obtain rfl:ov=Value.ref a:=rx;refine jI0 I1 ea c n l fun u s2 I2 ru=>thn (hv b9 s2 σ H1 _ I2 q) fun w3 s3 ⟨y,H2,I3,ry,q3⟩=>thn (hop b9 s3 σ H2 v y u w3 _ I3 ru ry q3) fun w4 s4 ⟨z,H3,I4,rz,dx',fs',ea',l',q4⟩=>?_;exact jI2 I4 ea' c n l' rz fun s5 I5=>⟨σ,_,I5,q4⟩
def rAdd:V->V->Hp->VK->Prop:=fun x y H Q=>∃ i j,x=.int i/\y=.int j/\Q (.int (i+j)) H
def rSub:V->V->Hp->VK->Prop:=fun x y H Q=>∃ i j,x=.int i/\y=.int j/\Q (.int (i-j)) H
theorem in_add:InOp X .Add rAdd:=by
 rintro b9 s σ H x y u v Q I rx ry ⟨i,j,rfl,rfl,q⟩;obtain⟨t,rfl⟩:=(show ∃ t,u=Value.int i t from rx)
 obtain⟨t',rfl⟩:=(show ∃ t',v=Value.int j t' from ry)
 exact PyProof.Rows.iadd_int ⟨.int (i+j),H,I.tok _,⟨_,rfl⟩,q⟩
theorem in_sub:InOp X .Sub rSub:=by
 rintro b9 s σ H x y u v Q I rx ry ⟨i,j,rfl,rfl,q⟩;obtain⟨t,rfl⟩:=(show ∃ t,u=Value.int i t from rx)
 obtain⟨t',rfl⟩:=(show ∃ t',v=Value.int j t' from ry)
 exact zK ⟨.int (i-j),H,I.tok _,⟨_,rfl⟩,q⟩
end
section
variable {X:Cx}{b9:List (Addr×Obj)}{σ:St}{H:Hp}{s:Shared}{A:Around}{E:Value->Shared->Prop}{Q:Value->Shared->Prop}{c:Value}{b:Bool}
inductive rS(K:PySem.W.Frag)(H:Hp):V->Value->Prop where
 | non:rS K H .non (.type "NoneType")
 | bl (x:Bool):rS K H (.bl x) (.type "bool")
 | int (i:Int):rS K H (.int i) (.type "int")
 | str (x:Str):rS K H (.str x) (.type "str")
 | flt (x:UInt64):rS K H (.flt x) (.type "float")
 | lst {a:Addr} {xs:List V} (e:H a=some (.lst xs)):rS K H (.ref a) (.type "list")
 | frz {a:Addr} {o:Obj} {xs:List V} (e:H a=some (.frz o (.lst xs))):rS K H (.ref a) (.type "list")
 | tup {a:Addr} {xs:List V} (e:H a=some (.tup xs)):rS K H (.ref a) (.type "tuple")
 | dK {a:Addr} {kvs:List (Key×V)} (e:H a=some (.dK kvs)):rS K H (.ref a) (.type "dict")
 | dT {a:Addr} {kvs:List (List Key×V)} (e:H a=some (.dT kvs)):rS K H (.ref a) (.type "dict")
 | ins {a C dx:Addr} {fs:List (Str×V)} (e:H a=some (.ins C dx fs)) (cl:Cls K C) (ha:PySem.W.findIn K (.ref C) "__class__"=some (some (.builtin "object.__class__")))
  (hn:iX K (.builtin "object.__class__") "__get__"=some (some (.builtin "getset_descriptor.__get__"))) (htk:rJ K (.builtin "object.__class__")=some true)
  (hm:PySem.W.mroIn K C (.type "object")=some true):rS K H (.ref a) (.ref C)
theorem jOc(I:Inv X b9 σ H s)(rx:gN x u)(ty:rS X.K H x t)(e:nP X.K t c=some b)(h:∀ tk,Q (.bool b) { s with toks:=tk }) :
 dC (dF X.prog X.w) A (call (.builtin "isinstance") [u,c]) Q E s:=by
 cases ty with
 | non=>cases (show u=Value.none from rx);exact jV PySem.W.kitx_none I.kIn True.intro e (fun z=>nomatch z) h
 | bl y=>cases (show u=Value.bool y from rx);exact jV PySem.W.kitx_bool I.kIn True.intro e (fun z=>nomatch z) h
 | int i=>obtain⟨t,q⟩:=(show ∃ t,u=Value.int i t from rx);cases q;exact jV PySem.W.kitx_int I.kIn True.intro e (fun z=>nomatch z) h
 | str y=>obtain⟨t,q⟩:=(show ∃ t,u=Value.str y t from rx);cases q;exact jV PySem.W.kitx_str I.kIn True.intro e (fun z=>nomatch z) h
 | flt y=>obtain⟨t,q⟩:=(show ∃ t,u=float y t from rx);cases q;exact jV PySem.W.kitx_float I.kIn True.intro e (fun z=>nomatch z) h
 | @lst a xs ea =>
   cases (show u=Value.ref a from rx);obtain⟨_,_,n,_,h1⟩:=(show lO X.prog X.w H s.heap a (.lst xs) from I.hok a _ ea)
   exact jV uN I.kIn ⟨_,h1,rfl⟩ e (fun z=>nomatch z) h
 | @frz a ob xs ea =>
   cases (show u=Value.ref a from rx);obtain⟨_,_,_,n,_,h1⟩:=(show lO X.prog X.w H s.heap a (.frz ob (.lst xs)) from I.hok a _ ea)
   exact jV uN I.kIn ⟨_,h1,rfl⟩ e (fun z=>nomatch z) h
 | @tup a xs ea =>
   cases (show u=Value.ref a from rx);obtain⟨_,_,_,p⟩:=(show lO X.prog X.w H s.heap a (.tup xs) from I.hok a _ ea)
   obtain⟨o,h1,h2,_⟩:=p;exact jV PySem.W.kitx_tuple I.kIn ⟨o,h1,h2⟩ e (fun z=>nomatch z) h
 | @dK a kvs ea =>
   cases (show u=Value.ref a from rx);obtain⟨_,_,vs,_,p⟩:=(show lO X.prog X.w H s.heap a (.dK kvs) from I.hok a _ ea)
   obtain⟨o,es,ep,h1,h2,_⟩:=p;exact jV uO I.kIn ⟨o,h1,h2.1⟩ e (fun z=>nomatch z) h
 | @dT a kvs ea =>
   cases (show u=Value.ref a from rx);obtain⟨_,_,xs,_,o,es,ep,h1,h2,_⟩:=(show lO X.prog X.w H s.heap a (.dT kvs) from I.hok a _ ea)
   exact jV uO I.kIn ⟨o,h1,h2.1⟩ e (fun z=>nomatch z) h
 | @ins a C dx fs ea cl ha hn htk hm =>
   cases (show u=Value.ref a from rx);obtain⟨mA,O,_⟩:=jH7 I.hok ea;obtain⟨od,J,_⟩:=O.look;exact jV (PySem.W.kitx_own (cl.get _) cl.hd ha hn htk hm) I.kIn J e (fun z=>nomatch z) h
end
structure kJ(k:Nat)(A:Around):Prop where
 hd:A.handled=none
 dp:A.depth+3*k+5<oH
 un:A.units+16*k+200<kR
theorem kJ.mono(r:kJ k A)(h:j<=k):kJ j A:=⟨r.hd,by have:=r.dp;omega,by have:=r.un;omega⟩
theorem kJ.deeper(r:kJ (k+1) A)(env:Env):kJ k (A.deeper env) :=
 ⟨r.hd,by have:=r.dp;show A.depth+1+3*k+5<_;omega,by have:=r.un;show A.units+3+16*k+200<_;omega⟩
theorem jNF{A:Around}{C:Addr}{us:List Value}{kw:List (Str×Value)}:(A.under (.builtin "type.__call__" ⟨.ref C::us,kw⟩)).depth=A.depth+1:=by
 first|rfl|simp [Around.under,Code.weight,Code.isCreation,Code.isGuard,Code.isCaller,Code.frames,Code.isFrame,guardIds]
theorem jNG{A:Around}{C:Addr}{us:List Value}{kw:List (Str×Value)}:(A.under (.builtin "type.__call__" ⟨.ref C::us,kw⟩)).units=A.units+1:=by
 first|rfl|simp [Around.under,Code.cUnits,Code.frames,Code.isFrame]
theorem kJ.make(r:kJ (k+1) A)(C:Addr)(us:List Value)(kw:List (Str×Value)):kJ k (A.under (.builtin "type.__call__" ⟨.ref C::us,kw⟩)) :=
 ⟨r.hd,by have:=r.dp;rw [jNF];omega,by have:=r.un;rw [jNG];omega⟩
theorem kJ.depth(r:kJ k A):A.depth<oH:=by have:=r.dp;omega
theorem kJ.units(r:kJ k A):A.units+64<kR:=by have:=r.un;omega
theorem kJ.units0(r:kJ k A):A.units<kR:=by have:=r.un;omega
def jGP:TA:=fun _ H Q=>Q [] H
def tCons(ta:TE)(tr:TA):TA:=fun σ H Q=>ta σ H fun x H1=>tr σ H1 fun xs H2=>Q (x::xs) H2
section
variable {X:Cx}{e:Expr}{es:List Expr}{te:TE}{t:TA}{pos:Pos}
theorem dX:PA X [] jGP:=fun _ _ _ _ H Q I h=>Calls.spliced_nil ⟨[],H,I,.nil,h⟩
theorem dJ(ha:PE X e te)(hr:PA X es t)(hs:dG (e::es) X.env=(false,eU e X.env)::dG es X.env:=by rfl):PA X (e::es) (tCons te t):=by
 intro pos b9 s σ H Q I h;rw [hs];show dC _ _ (spliced ((false,eU e X.env)::fZ pos (dG es X.env))) _ _ s;refine Calls.spliced_cons (thn (ha b9 s σ H _ I h) fun u s1 ⟨x,H1,I1,r1,q1⟩=>?_);exact thn (hr pos b9 s1 σ H1 _ I1 q1) fun us s2 ⟨xs,H2,I2,r2,q2⟩=>⟨x::xs,H2,I2,.cons r1 r2,q2⟩
def tTup(t:TA):TE:=fun σ H Q=>t σ H fun xs H1=>xs.length<=c9/\∀ p,H1 p=none->Q (.ref p) (upd H1 p (.tup xs))
def tLst(t:TA):TE:=fun σ H Q=>t σ H fun xs H1=>xs.length<=c9/\∀ p,H1 p=none->Q (.ref p) (upd H1 p (.lst xs))
theorem mT(h:PA X es t):PE X (.Tuple es x1 pos) (tTup t):=by
 intro b9 s σ H Q I hq;refine wpAny_Tuple_spliced (thn (h pos b9 s σ H _ I hq) fun us s1 ⟨xs,H1,I1,r,z,q⟩=>⟨by rw [<- r.length];exact z,?_⟩);have hf:H1 s1.heap.objs.size=none:=I1.hok.fresh (le_refl _);refine⟨.ref s1.heap.objs.size,upd H1 s1.heap.objs.size (.tup xs),I1.laid (t':=s1.toks) (fun b u e=>get?_push_of_some _ e) (le_refl _) ?_,rfl,q _ hf⟩;exact⟨z,us,r,⟨_,get?_push_size _ rfl,rfl,_,rfl⟩⟩
theorem lQ(h:PA X es t):PE X (.List es pos) (tLst t):=by
 intro b9 s σ H Q I hq;refine wpAny_List_spliced (thn (h pos b9 s σ H _ I hq) fun us s1 ⟨xs,H1,I1,r,z,q⟩=>⟨by rw [<- r.length];exact z,?_⟩);have hf:H1 s1.heap.objs.size=none:=I1.hok.fresh (le_refl _);refine⟨.ref s1.heap.objs.size,upd H1 s1.heap.objs.size (.lst xs),I1.laid (t':=s1.toks) (fun b u e=>get?_push_of_some _ e) (le_refl _) ?_,rfl,q _ hf⟩;exact⟨z,us,0,r,get?_push_size _ rfl⟩
end
abbrev Sp:=List V->Hp->VK->XK->Prop
abbrev CXT:=List Env->Hp->Shared->XK->Value->Shared->Prop
structure jGd(P:Program)(w:World)(K:PySem.W.Frag)(mg:Str->Option Value)(base:Heap)(A:Around)(outer:List Env)(s:Shared)(H:Hp):Prop where
 frames:A.frames=some outer
 mod:Mod K mg base
 bs:∀ b o,base.get? b=some o->s.heap.get? b=some o/\H b=none
 bsz:base.objs.size<=s.heap.objs.size
 funs:s.heap.FunFrames base outer
 frf:∀ b∈frs outer,H b=none
 hok:HOk P w H s.heap
 bare:AllBare s.gens
def CE(outer:List Env)(P:Program)(w:World)(H:Hp)(s:Shared)(Q:VK)(u:Value)(s':Shared):Prop :=
 ∃ v H',s'.os=s.os/\AllBare s'.gens/\Un (frs outer) [] H H' s.heap s'.heap/\HOk P w H' s'.heap/\gN v u/\Q v H'
def CR(CX:CXT)(outer:List Env)(P:Program)(w:World)(H:Hp)(s:Shared)(Q:VK)(E:XK)(r:Result)(s':Shared):Prop :=
 match r with
 | .ok (.ret u)=>CE outer P w H s Q u s'
 | .ok _=>False
 | .error e=>CX outer H s E e s'
structure fJ(P:Program)(w:World)(K:PySem.W.Frag)(mg:Str->Option Value)(base:Heap)(CX:CXT)(k:Nat)(f:Addr)(fd:FuncData)(ps:List Str)(sp:Sp):Prop where
 len:∀ vs H Q E,sp vs H Q E->vs.length=ps.length
 run:∀ (A:Around) (outer:List Env) (s:Shared) (H:Hp) (args:Args) (us:List Value) (vs:List V) (Q:VK) (E:XK),kJ k A->jGd P w K mg base A outer s H->BindsTo s fd args (ps.zip us)->gX vs us->sp vs H Q E ->
  iJ (dF P w) A (.call (.ref f) args) (CR CX outer P w H s Q E) s
theorem fJ.mono{P:Program}{w:World}{K:PySem.W.Frag}{mg:Str->Option Value}{base:Heap}{CX:CXT}{j k:Nat}{f:Addr}{fd:FuncData}{ps:List Str}{sp:Sp}(F:fJ P w K mg base CX j f fd ps sp)(h:j<=k) :
 fJ P w K mg base CX k f fd ps sp:=⟨F.len,fun A outer s H args us vs Q E hr=>F.run A outer s H args us vs Q E (hr.mono h)⟩
theorem jGd.make{P:Program}{w:World}{K:PySem.W.Frag}{mg:Str->Option Value}{base:Heap}{A:Around}{outer:List Env}{s:Shared}{H:Hp}(e:jGd P w K mg base A outer s H)(C:Addr)(us:List Value)(kw:List (Str×Value)) :
 jGd P w K mg base (A.under (.builtin "type.__call__" ⟨.ref C::us,kw⟩)) outer s H:=⟨by first|exact e.frames|(simpa [Around.under,Code.envs,Code.isFrame,pushEnvs] using e.frames),e.mod,e.bs,e.bsz,e.funs,e.frf,e.hok,e.bare⟩
section
variable {X:Cx}{b9:List (Addr×Obj)}{σ:St}{H:Hp}{s s':Shared}
theorem Inv.env0(I:Inv X b9 σ H s):jGd X.prog X.w X.K X.mg X.base X.A X.stack s H :=
 ⟨I.ok.frames,I.ok.mod,I.bs,le_trans I.ok.bsz I.sz,I.stack,I.stkFree,I.hok,I.bare⟩
theorem Inv.after(I:Inv X b9 σ H s)(h:CE X.stack X.prog X.w H s Q u s'):EP X b9 σ Q u s':=by
 obtain⟨v,H',os,bare,un,hok,r,q⟩:=h;obtain⟨hh,g,d,t,os'⟩:=s';obtain rfl:os'=s.os:=os;exact⟨v,H',I.call (h':=hh) (g':=g) (d':=d) (t':=t) (ch:=[]) un hok bare (fun b z=>absurd z (by simp)),r,q⟩
end
def tCall(sp:Sp)(sB:List V)(E:XK)(t:TA):TE:=fun σ H Q=>t σ H fun vs H1=>sp (vs++sB) H1 Q E
def jLt(C:Addr)(sp:Sp)(sB:List V)(E:XK)(t:TA):TE:=fun σ H Q=>t σ H fun vs H1=>∀ x dx,H1 x=none->H1 dx=none->dx≠x ->
 sp (.ref x::(vs++sB)) (upd (upd H1 dx (.own x)) x (.ins C dx [])) (fun v H2=>v=.non/\Q (.ref x) H2) E
def oY(K:PySem.W.Frag)(fd:FuncData)(ps:List Str)(ds:List Value):Prop :=
 ∀ (s:Shared) (us:List Value),K.In s.heap->(us++ds).length=ps.length->BindsTo s fd ⟨us,[]⟩ (ps.zip (us++ds))
theorem oY.all{K:PySem.W.Frag}{fd:FuncData}{ps:List Str}(h:∀ us:List Value,us.length=ps.length->yO fd ⟨us,[]⟩=pure (ps.zip us)):oY K fd ps []:=fun s us _ hl=>by
 rw [eZ] at hl ⊢;exact .of_eq (h us hl)
def jEz(CX:CXT)(X:Cx)(E:XK):Prop:=∀ (b9:List (Addr×Obj)) (σ:St) (H:Hp) (s:Shared) (e:Value) (s':Shared),Inv X b9 σ H s->CX X.stack H s E e s'->X.xe e s'
section
variable {X:Cx}{CX:CXT}{k:Nat}{f C:Addr}{fd:FuncData}{ps:List Str}{sp:Sp}{sB:List V}{ds:List Value}{E:XK}{x m:Str}{p pos i7:Pos}{e o:Expr}{es:List Expr}{ta:TE}{t:TA}
theorem jOd(F:fJ X.prog X.w X.K X.mg X.base CX k f fd ps sp)(hr:kJ k X.A)(hb:oY X.K fd ps ds)(hd:gX sB ds)(hx:jEz CX X E) 
 (I:Inv X b9 σ H s) (r:gX vs us) (h:sp (vs++sB) H Q E):dC (dF X.prog X.w) X.A (call (.ref f) us) (EP X b9 σ Q) X.xe s:=by
 have r2:gX (vs++sB) (us++ds):=r.append hd;have hl:(us++ds).length=ps.length:=by rw [<- r2.length];exact F.len _ _ _ _ h
 refine lU (h8 (F.run X.A X.stack s H ⟨us,[]⟩ (us++ds) (vs++sB) Q E hr I.env0 (hb s us I.kIn hl) r2 h) fun r s' hq=>?_);cases r with
 | error e=>exact hx b9 σ H s e s' I hq
 | ok fl =>
   cases fl with
   | ret u=>exact I.after hq
   | next=>exact False.elim hq
   | brk=>exact False.elim hq
   | cont=>exact False.elim hq
theorem pe_call(F:fJ X.prog X.w X.K X.mg X.base CX k f fd ps sp)(hr:kJ k X.A)(hg:Gl X x)(hm:X.mg x=some (.ref f))(hk:i8 X.K (.ref f)=true)(hb:oY X.K fd ps ds)(hd:gX sB ds)(hx:jEz CX X E) 
 (ha:PA X (e::es) t) (oO:(x==("__debug__":Str))=false:=by decide) (he:dG (e::es) X.env=(false,eU e X.env)::dG es X.env:=by rfl) (j4:(fZ pos (dG es X.env)).any (·.1)=false:=by rfl) :
 PE X (.Call (.Name x p) (e::es) [] pos) (tCall sp sB E t):=by
 intro b9 s σ H Q I h;refine fR (jCQ I hg hm ?_ oO);refine j9 (h₀:=X.base) I.ok.mod.kin hk (thn (ha pos b9 s σ H _ I h) fun us s1 ⟨vs,H1,I1,r,q⟩=>⟨I1.kIn,?_⟩) he j4;exact jOd F hr hb hd hx I1 r q
structure Mk(K:PySem.W.Frag)(C f:Addr):Prop where
 makes:rQ K C=true
 init:PySem.W.findIn K (.ref C) "__init__"=some (some (.ref f))
 fn:yP K (.ref f)=true
 kp:i8 K (.ref C)=true
theorem jLG(M:Mk X.K C f)(F:fJ X.prog X.w X.K X.mg X.base CX k f fd ps sp)(hr:kJ (k+1) X.A)(hb:oY X.K fd ps ds)(hd:gX sB ds) 
 (hx:jEz CX X E) (I:Inv X b9 σ H s) (r:gX vs us)
 (h:∀ x dx,H x=none->H dx=none->dx≠x->sp (.ref x::(vs++sB)) (upd (upd H dx (.own x)) x (.ins C dx [])) (fun v H2=>v=.non/\Q (.ref x) H2) E) :
 dC (dF X.prog X.w) X.A (call (.ref C) us) (EP X b9 σ Q) X.xe s:=by
 have hq:=h (s.heap.objs.size+1) s.heap.objs.size (I.hok.fresh (fL _)) (I.hok.fresh (le_refl _)) (eA (kW _));have I2:=Inv.made (C:=C) I;have r2:gX (V.ref (s.heap.objs.size+1)::(vs++sB)) (Value.ref (s.heap.objs.size+1)::(us++ds)):=.cons rfl (r.append hd);have hl:(Value.ref (s.heap.objs.size+1)::us++ds).length=ps.length:=by
  have e:=r2.length;rw [F.len _ _ _ _ hq] at e;exact e.symm
 refine lU (jO9 (f:=f) I.kIn M.makes M.init (beq_iff_eq.mp M.fn) (h8 (F.run _ X.stack _ _ ⟨Value.ref (s.heap.objs.size+1)::us,[]⟩ (Value.ref (s.heap.objs.size+1)::(us++ds)) _ _ E (hr.make C us [])
  (I2.env0.make C us []) (hb _ (Value.ref (s.heap.objs.size+1)::us) I2.kIn hl) r2 hq) fun r s' sT=>?_))
 cases r with
 | error e=>exact hx b9 σ _ _ e s' I2 sT
 | ok fl =>
   cases fl with
   | ret u =>
     obtain⟨v,H',I3,rv,ev,q3⟩:=I2.after sT;subst ev;exact⟨rv,⟨V.ref (s.heap.objs.size+1),H',I3,rfl,q3⟩⟩
   | next=>exact False.elim sT
   | brk=>exact False.elim sT
   | cont=>exact False.elim sT
theorem pe_make(M:Mk X.K C f)(F:fJ X.prog X.w X.K X.mg X.base CX k f fd ps sp)(hr:kJ (k+1) X.A)(hg:Gl X x)(hm:X.mg x=some (.ref C))(hb:oY X.K fd ps ds)(hd:gX sB ds)(hx:jEz CX X E) 
 (ha:PA X (e::es) t) (oO:(x==("__debug__":Str))=false:=by decide) (he:dG (e::es) X.env=(false,eU e X.env)::dG es X.env:=by rfl) (j4:(fZ pos (dG es X.env)).any (·.1)=false:=by rfl) :
 PE X (.Call (.Name x p) (e::es) [] pos) (jLt C sp sB E t):=by
 intro b9 s σ H Q I h;refine fR (jCQ I hg hm ?_ oO);refine j9 (h₀:=X.base) I.ok.mod.kin M.kp (thn (ha pos b9 s σ H _ I h) fun us s1 ⟨vs,H1,I1,r,q⟩=>⟨I1.kIn,?_⟩) he j4;exact jLG M F hr hb hd hx I1 r q
theorem jO_(M:Mk X.K C f)(F:fJ X.prog X.w X.K X.mg X.base CX k f fd ps sp)(hr:kJ (k+1) X.A)(hg:Gl X x)(hm:X.mg x=some (.ref C))(hb:oY X.K fd ps ds)(hd:gX sB ds)(hx:jEz CX X E) 
 (oO:(x==("__debug__":Str))=false:=by decide):PE X (.Call (.Name x p) [] [] pos) (jLt C sp sB E jGP):=by
 intro b9 s σ H Q I h;refine fR (jCQ I hg hm ?_ oO);exact qX I.kIn M.kp (jLG (us:=[]) M F hr hb hd hx I .nil h)
end
def PK(X:Cx)(kws:List Keyword)(t:TA):Prop :=
 ∀ (pos:Pos) (b9:List (Addr×Obj)) (s:Shared) (σ:St) (H:Hp) (Q:List V->Hp->Prop),Inv X b9 σ H s->t σ H Q->dC (dF X.prog X.w) X.A (evalAll ((i6 pos (gI kws X.env)).map (·.2))) (AP X b9 σ Q) X.xe s
section
variable {X:Cx}{CX:CXT}{k:Nat}{f C:Addr}{fd:FuncData}{ps ks:List Str}{sp:Sp}{E:XK}{x m:Str}{p pos i7 uM:Pos}{e o:Expr}{es:List Expr}{kws:List Keyword}{te ta:TE}{t tk:TA}{nm:Option Str}
theorem pk_nil:PK X [] jGP:=fun _ _ _ _ H Q I h=>wpAny_evalAll_nil ⟨[],H,I,.nil,h⟩
theorem pk_cons(ha:PE X e te)(hr:PK X kws t):PK X (⟨nm,e,uM⟩::kws) (tCons te t):=by
 intro pos b9 s σ H Q I h;show dC _ _ (evalAll ((do let v <- eU e X.env;lK pos;pure v)::(i6 pos (gI kws X.env)).map (·.2))) _ _ s;refine wpAny_evalAll_cons (c5 (thn (ha b9 s σ H _ I h) fun u s1 ⟨x,H1,I1,r1,q1⟩=>c5 (jL (dE ?_))));exact thn (hr pos b9 s1 σ H1 _ I1 q1) fun us s2 ⟨xs,H2,I2,r2,q2⟩=>⟨x::xs,H2,I2,.cons r1 r2,q2⟩
variable {g:List Value->List Value->List Value}{gV:List V->List V->List V}
end
structure gF(N P:List Str)(sc:Scope):Prop where
 kind:sc.kind=.function
 co:sc.isCoroutine=false
 gen:sc.isGenerator=false
 nd:N.Nodup
 pre:N.take P.length=P
 par:∀ x∈P,sc.names.lookup x=some .local\/sc.names.lookup x=some .cell
 nofree:∀ y∈sc.names,y.2≠.free
theorem jKG{kindOf:Str->Option NameKind}{x:Str}:∀ {binds:List (Str×Value)} {m:Str->Option Value},(∀ v,(x,v) ∉ binds)->xX kindOf binds m x=m x
 | [],_,_=>rfl
 | (n,v)::r,m,h=>by
   unfold xX;rw [jKG fun w hw=>h w (fB _ hw)];split
   ·have:x≠n:=by rintro rfl;exact h v gB
    simp [this]
   ·rfl
theorem jKH{kindOf:Str->Option NameKind}{x:Str}:∀ {binds:List (Str×Value)} {m:Str->Option Value},(∀ v,(x,v) ∉ binds)->xY kindOf binds m x=m x
 | [],_,_=>rfl
 | (n,v)::r,m,h=>by
   unfold xY;rw [jKH fun w hw=>h w (fB _ hw)];split
   ·rfl
   ·have:x≠n:=by rintro rfl;exact h v gB
    simp [this]
theorem jKI{kindOf:Str->Option NameKind}{x:Str}{v:Value}:∀ {P:List Str} {vs:List Value} {i:Nat} {m:Str->Option Value},P.Nodup->P[i]?=some x->vs[i]?=some v->kindOf x=some .local ->
 xX kindOf (P.zip vs) m x=some v
 | [],_,_,_,_,h,_,_=>by simp at h
 | _::_,[],_,_,_,_,h,_=>by simp at h
 | p::P,w::vs,0,m,nd,h1,h2,hk=>by
   simp at h1 h2;subst h1;subst h2;show xX kindOf ((p,w)::P.zip vs) m p=_;unfold xX;rw [jKG fun v hv=>(fN.mp nd).1 (oR hv).1,if_pos hk];simp
 | p::P,w::vs,i+1,m,nd,h1,h2,hk=>by
   show xX kindOf ((p,w)::P.zip vs) m x=_;unfold xX;exact jKI (i:=i) (fN.mp nd).2 (by simpa using h1) (by simpa using h2) hk
theorem jKJ{kindOf:Str->Option NameKind}{x:Str}{v:Value}:∀ {P:List Str} {vs:List Value} {i:Nat} {m:Str->Option Value},P.Nodup->P[i]?=some x->vs[i]?=some v->kindOf x≠some .local ->
 xY kindOf (P.zip vs) m x=some v
 | [],_,_,_,_,h,_,_=>by simp at h
 | _::_,[],_,_,_,_,h,_=>by simp at h
 | p::P,w::vs,0,m,nd,h1,h2,hk=>by
   simp at h1 h2;subst h1;subst h2;show xY kindOf ((p,w)::P.zip vs) m p=_;unfold xY;rw [jKH fun v hv=>(fN.mp nd).1 (oR hv).1,if_neg hk];simp
 | p::P,w::vs,i+1,m,nd,h1,h2,hk=>by
   show xY kindOf ((p,w)::P.zip vs) m x=_;unfold xY;exact jKJ (i:=i) (fN.mp nd).2 (by simpa using h1) (by simpa using h2) hk
def start(N:List Str)(vs:List V):St:=vs.map some++eQ (N.length-vs.length) none
def jHB(CX:CXT)(P:Program)(w:World)(K:PySem.W.Frag)(mg:Str->Option Value)(base:Heap)(N:List Str)(qual:Str)(scope:Scope)(f:Addr)(cd:Value)(A:Around)(outer:List Env)(s:Shared)(H:Hp)(E:XK):Cx where
 prog:=P
 w:=w
 K:=K
 mg:=mg
 base:=base
 A:=A.deeper (nG qual scope s.heap.objs.size f cd)
 N:=N
 s₀:=s
 H₀:=H
 env:=nG qual scope s.heap.objs.size f cd
 outer:=outer
 stack:=nG qual scope s.heap.objs.size f cd::outer
 ex:=[]
 calm:=true
 fn:=fun _=>true
 pn:=[]
 xe:=fun e s'=>dC (dF P w) (A.deeper (nG qual scope s.heap.objs.size f cd)) (leaving (nG qual scope s.heap.objs.size f cd) e) (fun _ s''=>CX outer H s E e s'') (fun e' s''=>CX outer H s E e' s'') s'
theorem jLH{sc:Scope}{n:Nat}{x:Str}(h:sc.names.lookup x=some .cell):∃ c,(zP n sc.names []).lookup x=some c:=by
 have q:=nV sc.names n [] (.inl h);exact gK.mp q
theorem jOe{CX:CXT}{P:Program}{w:World}{K:PySem.W.Frag}{mg:Str->Option Value}{base:Heap}{N ps:List Str}{qual:Str}{scope:Scope}{f:Addr}{cd:Value}{A:Around}{outer:List Env}{s s1:Shared}{H:Hp}{E:XK}{us:List Value}{vs:List V}
 (S:gF N ps scope) (hd:A.handled=none) (e0:jGd P w K mg base A outer s H) (hl:vs.length=ps.length) (r:gX vs us)
 (x:InCallC s s.heap.objs.size (xX (nG qual scope s.heap.objs.size f cd).kindOf (ps.zip us) fun _=>none) (zP (s.heap.objs.size+1) scope.names []) (xY (nG qual scope s.heap.objs.size f cd).kindOf (ps.zip us) fun _=>none) s1) :
 Inv (jHB CX P w K mg base N qual scope f cd A outer s H E) [] (start N vs) H s1:=by
 have j4:ps.length<=N.length:=by have:=congrArg List.length S.pre;rw [fI] at this;omega
 obtain⟨h1,tk,rfl,hk⟩:=x.done;have noA:∀ b:Addr,b ∉ (jHB CX P w K mg base N qual scope f cd A outer s H E).ex:=fun b z=>absurd (show b∈([]:List Addr) from z) (by simp)
 refine⟨⟨e0.mod,S.kind,rfl,rfl,le_refl _,fun y z c h1 h2=>?_,fun y hy=>?_,fun y c _ h=>?_,fun _=>hd,Around.frames_deeper e0.frames,.inr ⟨rfl,rfl⟩,fun b z=>absurd z (noA b),e0.bs,e0.bsz,fun b _ _=>noA b,fun b z=>absurd z (noA b),e0.funs,e0.frf⟩,
  rfl,e0.bare,Un.kept hk,⟨_,x.toInCall.ns,fun i y v h1 h2 h3=>?_⟩,fun y c h=>⟨_,x.cell y c h⟩,e0.hok.fresh (le_refl _),fun y c h=>?_,fun p hp=>absurd (show p∈([]:List (Addr×Obj)) from hp) (by simp),e0.hok.kept hk,?_⟩
 ·exact name_of_addr x.apart (PySem.mem_of_lookup h1) (PySem.mem_of_lookup h2)
 ·have hy:scope.names.lookup y=some .cell\/scope.names.lookup y=some .free:=hy;rcases hy with hy|hy
  ·exact jLH hy
  ·exact absurd rfl (S.nofree _ (PySem.mem_of_lookup hy))
 ·exact iG (x.above y c (PySem.mem_of_lookup h))
 ·have hi:i<vs.length:=by
   unfold start at h2;by_cases hi:i<vs.length
   ·exact hi
   ·rw [getElem?_append_right (by simpa using hi)] at h2;rw [List.getElem?_replicate] at h2;split at h2<;>cases h2
  have ha:vs[i]?=some v:=by
   unfold start at h2;rw [getElem?_append_left (by simpa using hi),getElem?_map] at h2;cases e:vs[i]? with
   | none=>rw [e] at h2;cases h2
   | some a=>rw [e] at h2;cases h2;rfl
  obtain⟨u,hu,rv⟩:=r.get ha;have hp:ps[i]?=some y:=by
   rw [<- S.pre,List.getElem?_take_of_lt (by omega)];exact h1
  have ndP:ps.Nodup:=by rw [<- S.pre];exact S.nd.sublist (List.take_sublist _ _)
  exists u,rv;rcases S.par y (mem_of_getElem? hp) with k|k
  ·exact .inl ⟨k,jKI ndP hp hu k⟩
  ·obtain⟨c,e⟩:=jLH (n:=s.heap.objs.size+1) k;refine .inr ⟨.inl k,c,e,?_⟩;have q:=x.cell y c e;rw [jKJ ndP hp hu (by show scope.names.lookup y≠_;rw [k];decide)] at q;exact q
 ·exact e0.hok.fresh (iG (x.above y c (PySem.mem_of_lookup h)))
 ·unfold start;show _=N.length;rw [dH,c6,iD];omega
theorem fn_of{CX:CXT}{P:Program}{w:World}{K:PySem.W.Frag}{mg:Str->Option Value}{base:Heap}{k:Nat}{f:Addr}{name qual:Str}{params:Arguments}{body:List Stmt}{scope:Scope}{dV kV oG pm fE ct oc:Value}{an od:Option Addr}
 {sZ:Array (Option Value)} {N ps:List Str} {sp:Sp} (lk:K.lookup f=some ⟨oc,od,.func (PySem.W.fnOf name qual params body scope dV kV oG pm an fE ct),sZ⟩) (nY:PySem.W.codeIn K fE qual=true) (S:gF N ps scope)
 (len:∀ vs H Q E,sp vs H Q E->vs.length=ps.length)
 (nF:∀ (A:Around) (outer:List Env) (s:Shared) (H:Hp) (vs:List V) (Q:VK) (E:XK),kJ k (A.deeper (nG qual scope s.heap.objs.size f fE))->sp vs H Q E ->
  ∃ t,PSs (jHB CX P w K mg base N qual scope f fE A outer s H E) body t/\t { nx:=fun _ H'=>Q .non H',rt:=Q } (start N vs) H) :
 fJ P w K mg base CX (k+1) f (PySem.W.fnOf name qual params body scope dV kV oG pm an fE ct) ps sp:=by
 refine⟨len,fun A outer s H args us vs Q E hr e0 hb r wD=>?_⟩;have hl:=len _ _ _ _ wD;have KX:K.In s.heap:=e0.mod.kin.keeps fun b o e=>(e0.bs b o e).1;have lim:s.heap.NoLimit:=e0.mod.nolimit.keeps fun b o e=>(e0.bs b o e).1;have hkind:∀ y∈ps.zip us,scope.names.lookup y.1=some .local\/(scope.names.lookup y.1=some .cell/\((zP (s.heap.objs.size+1) scope.names []).lookup y.1).isSome=true):=fun⟨n,v⟩ hy=>by
  rcases S.par n (oR hy).1 with q|q
  ·exact .inl q
  ·exact .inr ⟨q,nV _ _ _ (.inl q)⟩
 refine codeAny_call_function hr.depth (KX _ _ lk) rfl S.co S.gen rfl (PySem.W.codeRec_of KX nY) (hb _ _ _ _ ?_);refine wpAny_newFunctionEnv_cells S.kind hkind fun env he s1 x=>?_;subst he;refine⟨lim.keeps x.toInCall.keep,codeAny_func ?_⟩;obtain⟨t,ht,hq⟩:=nF A outer s H vs Q E (hr.deeper _) wD;have I:Inv (jHB CX P w K mg base N qual scope f fE A outer s H E) [] (start N vs) H s1:=jOe S hr.hd e0 hl r x;refine eB (ht [] s1 (start N vs) H _ I hq) (fun fl s' hs=>?_) fun e s' hs=>hs;have fin:∀ {σ':St} {H':Hp} {v:V} {u:Value},Inv (jHB CX P w K mg base N qual scope f fE A outer s H E) [] σ' H' s'->gN v u->Q v H'->CE outer P w H s Q u s' :=
  fun {σ' H' v u} J rv q=>⟨v,H',J.os,J.bare,J.base,J.hok,rv,q⟩
 cases fl with
 | ret u =>
   obtain⟨v,σ',H',J,rv,q⟩:=hs;exact fin J rv q
 | next =>
   obtain⟨σ',H',J,q⟩:=hs;exact fin (v:=V.non) (u:=Value.none) J rfl q
 | brk =>
   obtain⟨_,_,_,q⟩:=hs;exact False.elim q
 | cont =>
   obtain⟨_,_,_,q⟩:=hs;exact False.elim q
section
variable {X:Cx}{x:Str}{p pos:Pos}{e:Expr}{es:List Expr}{t:TA}{id T:String}{r:List V->Hp->VK->Prop}
def tCB(r:List V->Hp->VK->Prop)(t:TA):TE:=fun σ H Q=>t σ H fun vs H1=>r vs H1 Q
theorem rV(hc:CallR X (.builtin id) r)(hg:Gl X x)(hm:X.mg x=none)(hv:bootBuiltins x=some (.builtin id))(ha:PA X (e::es) t)(hn:x≠"__name__":=by decide)(oO:(x==("__debug__":Str))=false:=by decide) 
 (he:dG (e::es) X.env=(false,eU e X.env)::dG es X.env:=by rfl) (j4:(fZ pos (dG es X.env)).any (·.1)=false:=by rfl):PE X (.Call (.Name x p) (e::es) [] pos) (tCB r t):=by
 intro b9 s σ H Q I h;refine fR (jC3 I hg hm hv ?_ hn oO);exact PyProof.Rows.callWith_builtin1 (thn (ha pos b9 s σ H _ I h) fun us s1 ⟨vs,H1,I1,r1,q1⟩=>hc b9 s1 σ H1 vs us Q I1 r1 q1) he j4
theorem uC(hc:CallR X (.type T) r)(hg:Gl X x)(hm:X.mg x=none)(hv:bootBuiltins x=some (.type T))(ha:PA X (e::es) t)(hn:x≠"__name__":=by decide)(oO:(x==("__debug__":Str))=false:=by decide) 
 (he:dG (e::es) X.env=(false,eU e X.env)::dG es X.env:=by rfl) (j4:(fZ pos (dG es X.env)).any (·.1)=false:=by rfl):PE X (.Call (.Name x p) (e::es) [] pos) (tCB r t):=by
 intro b9 s σ H Q I h;refine fR (jC3 I hg hm hv ?_ hn oO);exact PyProof.Rows.callWith_type1 (thn (ha pos b9 s σ H _ I h) fun us s1 ⟨vs,H1,I1,r1,q1⟩=>hc b9 s1 σ H1 vs us Q I1 r1 q1) he j4
end
end L2
namespace HT
open PySem PyProof.Rows
section
open PySem.SeqAt

open PySem.MeetsSeq PySem.MeetsSeq2 PySem.MeetsSeq3
end
section
variable {prog:Program}{w:World}{A:Around}{E:Value->Shared->Prop}{s:Shared}
def sIx(n d:Nat):Option Int->Nat
 | none=>d
 | some v=>if v<0 then (v+(n:Int)).toNat else min v.toNat n
theorem sIx_none(n d:Nat):sIx n d none=d:=rfl
theorem sIx_nat(n d k:Nat):sIx n d (some (k:Int))=min k n:=by
 show (if (k:Int)<0 then ((k:Int)+(n:Int)).toNat else min (k:Int).toNat n)=min k n;rw [if_neg (by omega),fU]
end
end HT
namespace L2
open PySem PySem.Spec PyProof.Rows
abbrev TO:=St->Hp->(Option Int->Hp->Prop)->Prop
def PO(X:Cx)(e:Option Expr)(t:TO):Prop :=
 ∀ (b9:List (Addr×Obj)) (s:Shared) (σ:St) (H:Hp) (Q:Option Int->Hp->Prop),Inv X b9 σ H s->t σ H Q ->
  dC (dF X.prog X.w) X.A (evalPart e X.env) (fun u s'=>∃ o H',Inv X b9 σ H' s'/\IsPart u o/\Q o H') X.xe s
def tNoPart:TO:=fun _ H Q=>Q none H
def tPart(t:TE):TO:=fun σ H Q=>t σ H fun x H1=>∃ i,x=.int i/\Q (some i) H1
section
variable {X:Cx}{e:Expr}{te:TE}{lo hi:Option Expr}{tl th:TO}{pos p2:Pos}
theorem jDs:PO X none tNoPart:=by
 intro b9 s σ H Q I h;rw [z5];exact dE ⟨none,H,I,.none,h⟩
theorem jDt(h:PE X e te):PO X (some e) (tPart te):=by
 intro b9 s σ H Q I hw;rw [evalPart_some];refine thn (h b9 s σ H _ I hw) fun u s1 ⟨x,H1,I1,r1,q1⟩=>?_;obtain⟨i,rfl,q⟩:=q1;obtain⟨t,rfl⟩:=r1;exact⟨some i,H1,I1,.int i t,q⟩
def SlR(X:Cx)(r:V->Option Int->Option Int->Hp->VK->Prop):Prop :=
 ∀ (b9:List (Addr×Obj)) (s:Shared) (σ:St) (H:Hp) (x:V) (v vl vu:Value) (lo hi:Option Int) (sl:Addr) (Q:VK),Inv X b9 σ H s->gN x v->s.heap.IsSliceOf sl vl vu .none->IsPart vl lo->IsPart vu hi->r x lo hi H Q ->
  ∃ T id,y3 (.type T) "__getitem__"=pure (some (.builtin id))/\s.TypeIs v T/\dC (dF X.prog X.w) X.A (uF v (.ref sl)) (EP X b9 σ Q) X.xe s
def tSl(r:V->Option Int->Option Int->Hp->VK->Prop)(te:TE)(tl th:TO):TE:=fun σ H Q=>te σ H fun x H1=>tl σ H1 fun l H2=>th σ H2 fun u H3=>r x l u H3 Q
theorem jCH(hr:SlR X r)(he:PE X e te)(hl:PO X lo tl)(hu:PO X hi th):PE X (.Subscript e (.Slice lo hi none p2) pos) (tSl r te tl th):=by
 intro b9 s σ H Q I h;refine Subscript_ (thn (he b9 s σ H _ I h) fun v s1 ⟨x,H1,I1,r1,q1⟩=>?_);refine wpAny_Slice (thn (hl b9 s1 σ H1 _ I1 q1) fun vl s2 ⟨l,H2,I2,pl,q2⟩=>thn (hu b9 s2 σ H2 _ I2 q2) fun vu s3 ⟨u,H3,I3,pu,q3⟩=>?_);rw [z5];refine dE ?_;have I4:Inv X b9 σ H3 { s3 with heap:=s3.heap.push { cls:=.type "slice",data:=.fields #[vl,vu,.none] } }:=I3.kept (t':=s3.toks) fun b ob q=>get?_push_of_some _ q;obtain⟨T,id,hT,ht,hg⟩:=hr b9 { s3 with heap:=s3.heap.push { cls:=.type "slice",data:=.fields #[vl,vu,.none] } } σ H3 x v vl vu l u s3.heap.objs.size Q I4 r1 (Heap.IsSliceOf.new ..) pl pu q3;show dC (dF X.prog X.w) X.A (wJ e (.Slice lo hi none p2) v (.ref s3.heap.objs.size)) (EP X b9 σ Q) X.xe { s3 with heap:=s3.heap.push { cls:=.type "slice",data:=.fields #[vl,vu,.none] } };exact tail_any (ops:=[.ref s3.heap.objs.size,v]) ht hT hg (by with_unfolding_all rfl)
def jHC(xs:List V)(lo hi:Option Int):List V:=(xs.drop (HT.sIx xs.length 0 lo)).take (HT.sIx xs.length xs.length hi-HT.sIx xs.length 0 lo)
theorem jMQ(xs:List V)(lo hi:Option Int):(jHC xs lo hi).length<=xs.length:=by
 unfold jHC;rw [fI,iS];omega
end
def ixN(n:Nat)(i:Int):Option Nat:=if 0<=i then (if i<n then some i.toNat else none) else if -(n:Int)<=i then some (i+n).toNat else none
def atI{α:Type}(xs:List α)(i:Int):Option α:=(ixN xs.length i).bind fun j=>xs[j]?
theorem jNm(h:ixN n i=some j):seqIndex? i n=some j/\j<n/\-(n:Int)<=i/\i<n:=by
 unfold ixN at h;by_cases h0:0<=i
 ·rw [if_pos h0] at h;by_cases h1:i<n
  ·rw [if_pos h1] at h;have e:i.toNat=j:=Option.some.inj h;exact⟨by rw [sJ h0 h1,e],by omega,by omega,h1⟩
  ·rw [if_neg h1] at h;cases h
 ·rw [if_neg h0] at h;by_cases h1:-(n:Int)<=i
  ·rw [if_pos h1] at h;have e:(i+n).toNat=j:=Option.some.inj h;exact⟨by rw [seqIndex_neg (by omega) h1,e],by omega,h1,by omega⟩
  ·rw [if_neg h1] at h;cases h
theorem jJY(h:atI xs i=some v):∃ j,seqIndex? i xs.length=some j/\xs[j]?=some v/\j<xs.length/\-(xs.length:Int)<=i/\i<xs.length:=by
 unfold atI at h;cases e:ixN xs.length i with
 | none=>rw [e] at h;cases h
 | some j =>
   rw [e] at h;obtain⟨h1,h2,h3,h4⟩:=jNm e;exact⟨j,h1,h,h2,h3,h4⟩
theorem kL{α:Type}{xs:List α}{j:Nat}{v:α}(h:xs[j]?=some v):atI xs (j:Int)=some v:=by
 have hj:j<xs.length:=(List.getElem?_eq_some_iff.mp h).1;have e:ixN xs.length (j:Int)=some j:=by
  unfold ixN;rw [if_pos (by omega),if_pos (by omega)];simp
 unfold atI;rw [e];exact h
theorem jPa(xs:List α)(v:α):atI (xs++[v]) (-1)=some v:=by
 have hl:(xs++[v]).length=xs.length+1:=by simp
 have e:ixN (xs++[v]).length (-1)=some xs.length:=by
  unfold ixN;rw [hl,if_neg (by decide),if_pos (by omega)];congr 1;omega
 unfold atI;rw [e];show (xs++[v])[xs.length]?=some v;simp
def jJZ(b:Expr):Prop:=∀ o i,sH b false o i=operate [o,i] (uF o i)
def IxR(X:Cx)(r:R2):Prop :=
 ∀ (value slice:Expr) (b9:List (Addr×Obj)) (s:Shared) (σ:St) (H:Hp) (x y:V) (v u:Value) (Q:VK),Inv X b9 σ H s->gN x v->gN y u->r x y H Q ->
  sH slice false v u=operate [v,u] (uF v u)->dC (dF X.prog X.w) X.A (wJ value slice v u) (EP X b9 σ Q) X.xe s
def MtR(X:Cx)(id:String)(r:V->List V->Hp->VK->Prop):Prop :=
 ∀ (b9:List (Addr×Obj)) (s:Shared) (σ:St) (H:Hp) (x:V) (xs:List V) (v:Value) (us:List Value) (Q:VK),Inv X b9 σ H s->gN x v->gX xs us->r x xs H Q ->
  dC (dF X.prog X.w) X.A (call (.builtin id) (v::us)) (EP X b9 σ Q) X.xe s
section
variable {X:Cx}{a b:Expr}{ta tb:TE}{pos:Pos}
theorem pe_ix(hr:IxR X r)(ha:PE X a ta)(hb:PE X b tb)(hs:jJZ b):PE X (.Subscript a b pos) (tOp r ta tb):=by
 intro b9 s σ H Q I h;exact Subscript_ (binT ha hb I h fun v u s2 x y H2 I2 rx ry q=>hr a b b9 s2 σ H2 x y v u Q I2 rx ry q (hs _ _))
inductive rIxL(K:PySem.W.Frag)(x:V)(y:V)(H:Hp)(Q:VK):Prop|mk p xs i v:x=.ref p->y=.int i->SqL K H p xs->atI xs i=some v->Q v H->rIxL K x y H Q
inductive jGQ(K:PySem.W.Frag)(x:V)(y:V)(H:Hp)(Q:VK):Prop|mk p xs i v:x=.ref p->y=.int i->SqT K H p xs->atI xs i=some v->Q v H->jGQ K x y H Q
inductive rIxS(x:V)(y:V)(H:Hp)(Q:VK):Prop|mk z i c:x=.str z->y=.int i->z.length<=c9->atI z.cps.toList i=some c->Q (.str ⟨#[c]⟩) H->rIxS x y H Q
theorem jH8:IxR X (rIxL X.K):=by
 intro value slice b9 s σ H x y v u Q I rx ry h hs;obtain⟨p,xs,i,z,rfl,rfl,hq,he,q⟩:=h;cases rx;obtain⟨t,rfl⟩:=ry;obtain⟨its,r,pl,hz⟩:=I.list hq;obtain⟨j,h1,h2,h3,h4,h5⟩:=jJY he;obtain⟨w,ew,sX⟩:=r.get h2;have hl:=r.length;have hn:=jEx;have fin:EP X b9 σ Q w s:=⟨z,H,I,sX,q⟩
 by_cases h0:0<=i
 ·have hj:i.toNat=j:=by
   rw [sJ h0 h5] at h1;exact Option.some.inj h1
  exact item_listR pl.isList h0 (by omega) (by rw [hj];simpa using ew) fin hs
 ·have hj:(i+(its.toArray.size:Int)).toNat=j:=by
   rw [seqIndex_neg (by omega) h4] at h1;rw [dL,<- hl];exact Option.some.inj h1
  exact yC (x:=w) pl.isList.typeIs zF.lookup
   (wpAny_getItem_list_neg (Q:=fun r s'=>r=w/\EP X b9 σ Q r s') pl.isList (by omega) (by rw [dL]<;>omega) (by omega) (by rw [hj];simpa using ew) ⟨rfl,fin⟩) hs
theorem j1:IxR X (jGQ X.K):=by
 intro value slice b9 s σ H x y v u Q I rx ry h hs;obtain⟨p,xs,i,z,rfl,rfl,hq,he,q⟩:=h;cases rx;obtain⟨t,rfl⟩:=ry;obtain⟨its,r,pl,hz⟩:=I.tuple hq;obtain⟨j,h1,h2,h3,h4,h5⟩:=jJY he;obtain⟨w,ew,sX⟩:=r.get h2;have hl:=r.length;have hn:=jEx;have fin:EP X b9 σ Q w s:=⟨z,H,I,sX,q⟩
 exact yC (x:=w) pl.typeIs slot_tuple_getitem.lookup
  (getItem_tuple (j:=j) (Q:=fun r s'=>r=w/\EP X b9 σ Q r s') pl (by omega) (by omega) (by rw [dL,<- hl];exact h1) (by simpa using ew) ⟨rfl,fin⟩) hs
theorem ix_str:IxR X rIxS:=by
 intro value slice b9 s σ H x y v u Q I rx ry h hs;obtain⟨z,i,c,rfl,rfl,hz,he,q⟩:=h;obtain⟨t,rfl⟩:=rx;obtain⟨t',rfl⟩:=ry;obtain⟨j,h1,h2,h3,h4,h5⟩:=jJY he;have hl:z.cps.toList.length=z.length:=by simp [Str.length]
 rw [hl] at h1 h4 h5;have hn:=jEx
 exact tail_any (y4 s z t) slot_str_getitem.lookup (getItem_str (c:=c) (by
  have e1:decide (i < -(2^63:Int))=false:=decide_eq_false (by omega);have e2:decide (i >= 2^63)=false:=decide_eq_false (by omega)
  rw [e1,e2,Bool.or_false]) (by rw [h1];simpa using h2) ⟨.str ⟨#[c]⟩,H,I.tok _,⟨_,rfl⟩,q⟩) hs
theorem jNH(its:List Value)(n j:Nat)(u:Value):gE (·.setIfInBounds j u) { cls:=.type "list",data:=.seq its.toArray n }={ cls:=.type "list",data:=.seq (its.set j u).toArray n }:=by
 simp [gE]
theorem Inv.lst(I:Inv X b9 σ H s)(h:H p=some (.lst xs)) :
 ∃ (its:List Value) (n:Nat),gX xs its/\s.heap.get? p=some { cls:=.type "list",data:=.seq its.toArray n }/\xs.length<=c9:=by
 obtain⟨z,its,n,r,e⟩:=I.hok p _ h;exact⟨its,n,r,e,z⟩
theorem Inv.lstUpd{b9:List (Addr×Obj)}{σ:St}{H:Hp}{s:Shared}{p:Addr}{xs ys:List V}{its its':List Value}{n n':Nat}{f:Obj->Obj}(I:Inv X b9 σ H s)(h:H p=some (.lst xs))
 (ho:s.heap.get? p=some { cls:=.type "list",data:=.seq its.toArray n }) (hf:f { cls:=.type "list",data:=.seq its.toArray n }={ cls:=.type "list",data:=.seq its'.toArray n' }) (r:gX ys its') (hz:ys.length<=c9) (t:Nat) :
 Inv X b9 σ (upd H p (.lst ys)) { s with heap:=s.heap.update p f,toks:=t }:=by
 have e:(s.heap.update p f).get? p=some { cls:=.type "list",data:=.seq its'.toArray n' }:=by
  rw [get?_update_self f ho (by rw [hf]<;>rfl),hf]
 refine I.write (x:=p) (e:=p) (by rw [h];trivial) (.inl rfl) (fun b u hb q=>(get?_update_other _ _ (symm hb)).trans q) ⟨_,e⟩ ?_;exact⟨hz,its',n',r,e⟩
inductive rSetL(o:V)(i:V)(v:V)(H:Hp)(Q:Hp->Prop):Prop|mk p xs k j:o=.ref p->i=.int k->H p=some (.lst xs)->ixN xs.length k=some j->Q (upd H p (.lst (xs.set j v)))->rSetL o i v H Q
theorem jIH:PSet X rSetL:=by
 intro b9 s σ H o i v ov iv u Q I ro ri rv h;obtain⟨p,xs,k,j,rfl,rfl,hp,hj,q⟩:=h;cases ro;obtain⟨t,rfl⟩:=ri;obtain⟨its,n,r,ho,hz⟩:=I.lst hp;obtain⟨h1,h2,h3,h4⟩:=jNm hj;have hl:=r.length;have hn:=jEx;have I':Inv X b9 σ (upd H p (.lst (xs.set j v))) { s with heap:=s.heap.update p (gE (·.setIfInBounds j u)) } :=
  I.lstUpd hp ho (jNH its n j u) (r.set rv j) (by rw [List.length_set];exact hz) s.toks
 by_cases h0:0<=k
 ·have hk:k.toNat=j:=by
   rw [sJ h0 h4] at h1;exact Option.some.inj h1
  exact PySem.W.ki_setAt ho h0 (by omega) (by rw [dL,<- hl];exact h4) (by rw [hk];exact⟨_,I',q⟩)
 ·have hk:(k+(its.toArray.size:Int)).toNat=j:=by
   rw [seqIndex_neg (by omega) h3] at h1;rw [dL,<- hl];exact Option.some.inj h1
  exact PySem.W.ki_setBack ho (by omega) (by rw [dL,<- hl];exact h3) (by omega) (by rw [hk];exact⟨_,I',q⟩)
theorem jLI(lo hi:Option Int)(n:Nat):(kN lo hi none n).1=((HT.sIx n 0 lo:Nat):Int)/\(kN lo hi none n).2.1=((HT.sIx n n hi:Nat):Int)/\(kN lo hi none n).2.2=1:=by
 refine⟨?_,?_,rfl⟩
 ·cases lo with
  | none=>simp [kN,HT.sIx]
  | some i =>
    simp only [kN,HT.sIx,vD,show (1:Int) > 0 by decide,if_true];by_cases h:i<0
    ·simp only [h,if_true]<;>omega
    ·simp only [h,if_false]<;>omega
 ·cases hi with
  | none=>simp [kN,HT.sIx]
  | some i =>
    simp only [kN,HT.sIx,vD,show (1:Int) > 0 by decide,if_true];by_cases h:i<0
    ·simp only [h,if_true]<;>omega
    ·simp only [h,if_false]<;>omega
theorem jK8(its:List Value)(lo hi:Option Int):slicePick its.toArray lo hi none=((its.drop (HT.sIx its.length 0 lo)).take (HT.sIx its.length its.length hi-HT.sIx its.length 0 lo)).toArray:=by
 obtain⟨h1,h2,h3⟩:=jLI lo hi its.toArray.size;unfold slicePick;rw [h1,h2,h3];simp only [sliceRange_one,pick_run,dL]<;>rfl
inductive rSlL(K:PySem.W.Frag)(x:V)(lo:Option Int)(hi:Option Int)(H:Hp)(Q:VK):Prop|mk a xs:x=.ref a->SqL K H a xs->(∀ p,H p=none->Q (.ref p) (upd H p (.lst (jHC xs lo hi))))->rSlL K x lo hi H Q
theorem jJ0:SlR X (rSlL X.K):=by
 intro b9 s σ H x v vl vu lo hi sl Q I rx hs pl pu h;obtain⟨a,xs,rfl,hx,q⟩:=h;cases rx;obtain⟨its,r,ht,hz⟩:=I.list hx;have kK:=r.length;exists "list",_,zF.lookup,ht.isList.typeIs;refine wpAny_getItem_list_slice ht.isList hs pl pu .none (by simp) ?_ (by rw [dL]<;>omega);rw [jK8,<- kK];refine⟨.ref s.heap.objs.size,_,I.laid (t':=s.toks) (o:=.lst (jHC xs lo hi)) (fun b ob q=>get?_push_of_some _ q) (le_refl _) ?_,rfl,q _ (I.hok.fresh (le_refl _))⟩;exact⟨le_trans (jMQ xs lo hi) hz,_,0,(r.drop (HT.sIx xs.length 0 lo)).take (HT.sIx xs.length xs.length hi-HT.sIx xs.length 0 lo),get?_push_size _ rfl⟩
def qF:V->Bool
 | .non=>true
 | .bl _=>true
 | .int _=>true
 | .str _=>true
 | _=>false
def eqV:V->V->Bool
 | .non,.non=>true
 | .bl a,.bl b=>a==b
 | .bl a,.int b=>(if a then 1 else 0)==b
 | .int a,.bl b=>a==(if b then 1 else 0)
 | .int a,.int b=>a==b
 | .str a,.str b=>a==b
 | _,_=>false
theorem jI3(ry:gN y u)(rx:gN x v)(fy:qF y=true)(fx:qF x=true):SeqAt.EqAt A s u v (eqV y x):=by
 cases y with
 | non =>
   cases ry;cases x with
   | non=>cases rx;exact SeqAt.EqAt.same _
   | bl b=>cases rx;exact SeqAt.EqAt.none_bool b
   | int b=>obtain⟨t,rfl⟩:=rx;exact SeqAt.EqAt.none_int b t
   | str b=>obtain⟨t,rfl⟩:=rx;exact SeqAt.EqAt.none_str b t
   | _=>exact absurd (show false=true from fx) Bool.false_ne_true
 | bl a =>
   cases ry;cases x with
   | non=>cases rx;exact SeqAt.EqAt.bool_none a
   | bl b=>cases rx;exact SeqAt.EqAt.bool_bool a b
   | int b=>obtain⟨t,rfl⟩:=rx;exact SeqAt.EqAt.bool_int a b t
   | str b=>obtain⟨t,rfl⟩:=rx;exact SeqAt.EqAt.bool_str a b t
   | _=>exact absurd (show false=true from fx) Bool.false_ne_true
 | int a =>
   obtain⟨t',rfl⟩:=ry;cases x with
   | non=>cases rx;exact SeqAt.EqAt.int_none a t'
   | bl b=>cases rx;exact SeqAt.EqAt.int_bool a t' b
   | int b=>obtain⟨t,rfl⟩:=rx;exact SeqAt.EqAt.int_int a t' b t
   | str b=>obtain⟨t,rfl⟩:=rx;exact SeqAt.EqAt.int_str a t' b t
   | _=>exact absurd (show false=true from fx) Bool.false_ne_true
 | str a =>
   obtain⟨t',rfl⟩:=ry;cases x with
   | non=>cases rx;exact SeqAt.EqAt.str_none a t'
   | bl b=>cases rx;exact SeqAt.EqAt.str_bool a t' b
   | int b=>obtain⟨t,rfl⟩:=rx;exact SeqAt.EqAt.str_int a t' b t
   | str b=>obtain⟨t,rfl⟩:=rx;exact SeqAt.EqAt.str_str a t' b t
   | _=>exact absurd (show false=true from fx) Bool.false_ne_true
 | _=>exact absurd (show false=true from fy) Bool.false_ne_true
def eqU(x:V)(u:Value):Bool:=match u with
 | .none=>eqV .non x
 | .bool b=>eqV (.bl b) x
 | .int i _=>eqV (.int i) x
 | .str z _=>eqV (.str z) x
 | _=>false
theorem jOf(r:gN y u)(f:qF y=true):eqU x u=eqV y x:=by
 cases y with
 | non=>cases r;rfl
 | bl b=>cases r;rfl
 | int i=>obtain⟨t,rfl⟩:=r;rfl
 | str z=>obtain⟨t,rfl⟩:=r;rfl
 | _=>exact absurd (show false=true from f) Bool.false_ne_true
theorem jJ1:∀ {xs:List V} {us:List Value},gX xs us->xs.all qF=true->us.any (eqU x)=xs.any fun y=>eqV y x
 | _,_,.nil,_=>rfl
 | y::xs,u::us,.cons r t,f=>by
   rw [x0,fA] at f;rw [mM,mM,jOf r f.1,jJ1 t f.2]
theorem jII(rx:gN x v)(fx:qF x=true):∀ {xs:List V} {us:List Value},gX xs us->xs.all qF=true->∀ u∈us,SeqAt.EqAt A s u v (eqU x u)
 | _,_,.nil,_=>fun u hu=>by cases hu
 | y::xs,u::us,.cons r t,f=>fun u' hu=>by
   rw [x0,fA] at f;rcases dZ.mp hu with rfl|hu
   ·rw [jOf r f.1];exact jI3 r rx f.1 fx
   ·exact jII rx fx t f.2 u' hu
def inV(x:V)(xs:List V):Bool:=xs.any fun y=>eqV y x
inductive rIn(K:PySem.W.Frag)(neg:Bool)(x:V)(y:V)(H:Hp)(Q:VK):Prop|mk p xs:y=.ref p->(SqL K H p xs\/SqT K H p xs)->qF x=true->xs.all qF=true->Q (.bl (if neg then !inV x xs else inV x xs)) H->rIn K neg x y H Q
theorem jOg:OpR X (fM .In) (rIn X.K false):=by
 intro b9 s σ H x y v u Q I rx ry h;obtain⟨p,xs,rfl,hq,fx,fs,q⟩:=h;cases ry;rcases hq with hq|hq
 ·obtain⟨its,r,pl,hz⟩:=I.list hq;refine SeqAt.in_listAt (eqU x) pl.isList (fun w hw=>jII rx fx r fs w (by simpa using hw)) ⟨.bl _,H,I,rfl,?_⟩;rw [show its.toArray.any (eqU x)=its.any (eqU x) by simp,jJ1 r fs];exact q
 ·obtain⟨its,r,pl,hz⟩:=I.tuple hq;refine SeqAt.in_tupleAt (eqU x) pl (fun w hw=>jII rx fx r fs w (by simpa using hw)) ⟨.bl _,H,I,rfl,?_⟩;rw [show its.toArray.any (eqU x)=its.any (eqU x) by simp,jJ1 r fs];exact q
theorem jBr:CallR X (.builtin "len") (fun xs H Q=>∃ p ys,xs=[.ref p]/\(SqL X.K H p ys\/SqT X.K H p ys)/\Q (.int ys.length) H):=by
 intro b9 s σ H xs us Q I r h;obtain⟨p,ys,rfl,hq,q⟩:=h;obtain⟨u,rfl,rx⟩:=uU r;cases rx;have hn:=jEx;rcases hq with hq|hq
 ·obtain⟨its,r',pl,hz⟩:=I.list hq;have kK:=r'.length;exact Calls.call_len_list pl.isList (by simp only [dL]<;>omega) ⟨.int ys.length,H,I.tok _,⟨s.toks+1,by rw [dL,kK]⟩,q⟩
 ·obtain⟨its,r',pl,hz⟩:=I.tuple hq;have kK:=r'.length;exact len_tuple pl (by simp only [dL]<;>omega) ⟨.int ys.length,H,I.tok _,⟨s.toks+1,by rw [dL,kK]⟩,q⟩
theorem jLJ:CallR X (.builtin "len") (fun xs H Q=>∃ z,xs=[.str z]/\z.length<=c9/\Q (.int z.length) H):=by
 intro b9 s σ H xs us Q I r h;obtain⟨z,rfl,hz,q⟩:=h;obtain⟨u,rfl,t,rfl⟩:=uU r;have hn:=jEx;exact len_str (by omega) ⟨.int z.length,H,I.tok _,⟨_,rfl⟩,q⟩
theorem jLK:CallR X (.type "list") (fun xs H Q=>∃ p ys,xs=[.ref p]/\(SqL X.K H p ys\/SqT X.K H p ys)/\∀ l,H l=none->Q (.ref l) (upd H l (.lst ys))):=by
 intro b9 s σ H xs us Q I r h;obtain⟨p,ys,rfl,hq,q⟩:=h;obtain⟨u,rfl,rx⟩:=uU r;cases rx;have fin:∀ (its:List Value),gX ys its->ys.length<=c9->∀ (h':Heap) (c':Nat),(∀ b o',s.heap.get? b=some o'->h'.get? b=some o') ->
  h'.get? s.heap.objs.size=some { cls:=.type "list",dict:=none,data:=.seq its.toArray c',slots:=#[] }->EP X b9 σ Q (.ref s.heap.objs.size) { s with heap:=h' }:=fun its r' hz h' c' kp e =>
  ⟨.ref s.heap.objs.size,_,I.laid (t':=s.toks) kp (le_refl _) (show lO X.prog X.w _ h' _ (.lst ys) from ⟨hz,its,c',r',e⟩),rfl,q _ (I.hok.fresh (le_refl _))⟩
 rcases hq with hq|hq
 ·obtain⟨its,r',pl,hz⟩:=I.list hq;have kK:=r'.length;obtain⟨o,ho,hc,n,hd⟩:=pl.isList;exact z6 p (.inl rfl) ho hc hd (fun h' c' kp e=>fin its r' hz h' c' kp e) (by simp only [dL]<;>omega)
 ·obtain⟨its,r',pl,hz⟩:=I.tuple hq;have kK:=r'.length;obtain⟨o,ho,hc,n,hd⟩:=pl;exact z6 p (.inr rfl) ho hc hd (fun h' c' kp e=>fin its r' hz h' c' kp e) (by simp only [dL]<;>omega)
theorem jK9:CallR X (.type "tuple") (fun xs H Q=>∃ p ys,xs=[.ref p]/\((SqL X.K H p ys/\∀ l,H l=none->Q (.ref l) (upd H l (.tup ys)))\/(SqT X.K H p ys/\Q (.ref p) H))):=by
 intro b9 s σ H xs us Q I r h;obtain⟨p,ys,rfl,h⟩:=h;obtain⟨u,rfl,rx⟩:=uU r;cases rx;rcases h with⟨hq,q⟩|⟨hq,q⟩
 ·obtain⟨its,r',pl,hz⟩:=I.list hq;have kK:=r'.length;refine call_tuple_list pl.isList (fun h' kp=>?_) (by simp only [dL]<;>omega);have I1:Inv X b9 σ H { s with heap:=h' }:=I.kept (t':=s.toks) kp;have I2:Inv X b9 σ (upd H h'.objs.size (.tup ys)) { s with heap:=h'.push { cls:=.type "tuple",data:=.seq its.toArray } } :=
   I1.laid (t':=s.toks) (fun b o e=>get?_push_of_some _ e) (le_refl _) (show lO X.prog X.w _ _ _ (.tup ys) from ⟨hz,its,r',IsTup.new _ _⟩)
  exact⟨.ref h'.objs.size,_,I2,rfl,q _ (I1.hok.fresh (le_refl _))⟩
 ·obtain⟨its,r',pl,hz⟩:=I.tuple hq;exact call_tuple_same pl ⟨.ref p,H,I,rfl,q⟩
def tyV(K:PySem.W.Frag)(T:String)(x:V)(H:Hp):Prop:=match x with
 | .str _=>T="str"
 | .int _=>T="int"
 | .ref p=>(T="list"/\∃ xs,SqL K H p xs)\/(T="tuple"/\∃ o,K.lookup p=some o/\o.cls=.type "tuple"/\o.dict=none) \/
  (T="dict"/\((∃ kvs,H p=some (.dK kvs))\/∃ kvs,H p=some (.dT kvs)))\/(T="set"/\∃ S n,H p=some (.set S n))
 | _=>False
theorem tyV_is{T:String}(I:Inv X b9 σ H s)(r:gN x v)(ty:tyV X.K T x H) :
 s.TypeIs v T/\∀ a,v=.ref a->∃ ob,s.heap.get? a=some ob/\ob.dict=none:=by
 cases x with
 | str z =>
   obtain⟨t,rfl⟩:=r;cases (show T="str" from ty);exact⟨y4 s z t,fun _ e=>nomatch e⟩
 | int i =>
   obtain⟨t,rfl⟩:=r;cases (show T="int" from ty);exact⟨y6 s i t,fun _ e=>nomatch e⟩
 | ref p =>
   cases r;rcases ty with⟨rfl,xs,hq⟩|⟨rfl,o,hk,hc,hd⟩|⟨rfl,hk⟩|⟨rfl,S,n,hk⟩
   ·obtain⟨its,_,pl,_⟩:=I.list hq;refine⟨pl.isList.typeIs,fun a e=>?_⟩;cases e;obtain⟨o,n,e,c,hd,_⟩:=pl;exact⟨o,e,hd⟩
   ·refine⟨⟨o,I.kIn p o hk,hc⟩,fun a e=>?_⟩;cases e;exact⟨o,I.kIn _ o hk,hd⟩
   ·have z:∃ o,s.heap.get? p=some o/\o.ExactDict:=by
     rcases hk with⟨kvs,hk⟩|⟨kvs,hk⟩
     ·obtain⟨_,_,_,_,o,_,_,e,ex,_⟩:=I.hok p _ hk;exact⟨o,e,ex⟩
     ·obtain⟨_,_,_,_,o,_,_,e,ex,_⟩:=I.hok p _ hk;exact⟨o,e,ex⟩
    obtain⟨o,e,ex⟩:=z;refine⟨⟨o,e,ex.1⟩,fun a e2=>?_⟩;cases e2;exact⟨o,e,ex.2.1⟩
   ·obtain⟨o,_,_,_,e,ex,_⟩:=I.hok p _ hk;refine⟨⟨o,e,ex.1⟩,fun a e2=>?_⟩;cases e2;exact⟨o,e,ex.2.1⟩
 | _=>exact False.elim ty
def tBM(K:PySem.W.Frag)(T:String)(r:V->List V->Hp->VK->Prop)(to:TE)(t:TA):TE:=fun σ H Q=>to σ H fun x H1=>tyV K T x H1/\t σ H1 fun xs H2=>r x xs H2 Q
variable {o e:Expr}{es:List Expr}{to:TE}{t:TA}{name:Str}{i7 lH:Pos}{T id:String}{r:V->List V->Hp->VK->Prop}
theorem vR(pa:PlainAttrs T)(slot:Slot T name id)(hty:typeOf (.builtin id)=pure (.type "method_descriptor"))(hm:MtR X id r)(ho:PE X o to)(ha:PA X (e::es) t) 
 (xN:jO o name X.env (eU o X.env)=eU o X.env:=by rfl)
 (hfew:((fZ lH (dG (e::es) X.env)).all (fun x=>!x.1)&&(i6 lH (gI [] X.env)).all (fun x=>x.1.isSome)
  && decide ((e::es).length+([]:List Keyword).length+(if ([]:List Keyword).isEmpty then 0 else 1)<30))=true:=by rfl)
 (xI:(i7.endLine==lH.line)=true:=by rfl) (hs:dG (e::es) X.env=(false,eU e X.env)::dG es X.env:=by rfl) (hplain:(fZ lH (dG es X.env)).any (·.1)=false:=by rfl) :
 PE X (.Call (.Attribute o name i7) (e::es) [] lH) (tBM X.K T r to t):=by
 intro b9 s σ H Q I h;refine wpAny_Call_method_late xN hfew xI rfl (thn (ho b9 s σ H _ I h) fun v s1 ⟨x,H1,I1,r1,ty,q1⟩=>?_);obtain⟨h1,h2⟩:=tyV_is I1 r1 ty;exists T,id,pa,slot,hty,h1,h2;have hA:=ha lH b9 s1 σ H1 _ I1 q1;rw [hs] at hA ⊢;refine Calls.callWith_builtin (by show (false||(fZ lH (dG es X.env)).any (·.1))=false;rw [hplain]<;>rfl) (Calls.evalArgs_plain ?_);exact thn hA fun us s2 ⟨vs,H2,I2,r2,q2⟩=>hm b9 s2 σ H2 x vs v us Q I2 r1 r2 q2
/- xs.append(e), list.index on a module's tuple .. are MtR facts of 06m -/
end
def MtM(X:Cx)(id:String)(r:V->List V->Hp->VK->Prop):Prop :=
 ∀ (b9:List (Addr×Obj)) (s:Shared) (σ:St) (H:Hp) (x:V) (xs:List V) (v:Value) (us:List Value) (Q:VK),Inv X b9 σ H s->gN x v->gX xs us->r x xs H Q ->
  dC (dF X.prog X.w) X.A (call (.builtin id) (v::us)) (EP X b9 σ Q) X.xe s
theorem gX.one:∀ {x:V} {us:List Value},gX [x] us->∃ u,us=[u]/\gN x u
 | _,_,.cons r .nil=>⟨_,rfl,r⟩
theorem gX.eraseIdx:∀ {xs:List V} {us:List Value} (i:Nat),gX xs us->gX (xs.eraseIdx i) (us.eraseIdx i)
 | _,_,_,.nil=>.nil
 | _,_,0,.cons _ t=>t
 | _,_,i+1,.cons r t=>.cons r (gX.eraseIdx i t)
theorem gX.rep(h:gX xs us):∀ k:Nat,gX (eQ k xs).flatten (eQ k us).flatten
 | 0=>.nil
 | k+1=>by
   rw [gZ,gZ,jX,jX];exact gX.append h (gX.rep h k)
theorem jKK:∀ (l:List α) (i:Nat),(l.eraseIdx i).length<=l.length
 | [],_=>le_refl _
 | _::_,0=>fL _
 | _::r,i+1=>Nat.succ_le_succ (jKK r i)
theorem jKL(its:List Value):∀ (k:Nat) (iM:List Value),
 foldl (fun x1 x2=>x1++x2) iM.toArray (eQ k its.toArray)=(iM++(eQ k its).flatten).toArray
 | 0,iM=>by simp
 | k+1,iM=>by
   have e:iM.toArray++its.toArray=(iM++its).toArray:=by simp
   have e2:(iM++its)++(eQ k its).flatten=iM++(eQ (k+1) its).flatten:=by
    rw [gZ,jX,append_assoc]
   rw [<- e2,<- jKL its k (iM++its),<- e,gZ,List.foldl_cons]
section
variable {X:Cx}{b9:List (Addr×Obj)}{σ:St}{H:Hp}{s:Shared}{l b:Addr}{xs ys zs:List V}
theorem Inv.lset{its its':List Value}{n:Nat}{f:Array Value->Array Value}{t':Nat}(I:Inv X b9 σ H s)(hH:H l=some (.lst xs))
 (e:s.heap.get? l=some { cls:=.type "list",data:=.seq its.toArray n }) (hf:f its.toArray=its'.toArray) (hv:gX ys its') (hz:ys.length<=c9) :
 Inv X b9 σ (upd H l (.lst ys)) { s with heap:=s.heap.update l (gE f),toks:=t' }:=by
 have q:=IsL.update e f;rw [hf] at q;refine I.write (x:=l) (e:=l) (by rw [hH];exact trivial) (.inl rfl) (fun b' u hb hu=>(get?_update_other s.heap (gE f) (symm hb)).trans hu) ⟨_,q⟩ ?_;exact⟨hz,its',_,hv,q⟩
theorem Inv.lnew(I:Inv X b9 σ H s)(hv:gX ys its)(hz:ys.length<=c9) :
 Inv X b9 σ (upd H s.heap.objs.size (.lst ys)) { s with heap:=s.heap.push { cls:=.type "list",data:=.seq its.toArray },toks:=t' } :=
 I.laid (fun _ _ q=>get?_push_of_some _ q) (le_refl _) ⟨hz,its,0,hv,get?_push_size _ rfl⟩
theorem Inv.fresh(I:Inv X b9 σ H s):H s.heap.objs.size=none:=I.hok.fresh (le_refl _)
theorem Inv.lstM(I:Inv X b9 σ H s)(hH:H l=some (.lst xs)):xs.length<=c9/\∃ (its:List Value) (n:Nat),gX xs its/\xs.length=its.length/\s.heap.get? l=some { cls:=.type "list",data:=.seq its.toArray n }:=by
 obtain⟨z,its,n,r,e⟩:=I.hok l _ hH;exact⟨z,its,n,r,r.length,e⟩
theorem jLL(h:n<=c9):Builtin.List.listTooLong n=false:=by
 unfold Builtin.List.listTooLong;exact decide_eq_false (by omega)
end
section
variable {X:Cx}
inductive jNn(x:V)(vs:List V)(H:Hp)(Q:VK):Prop|mk l xs y:x=.ref l->vs=[y]->H l=some (.lst xs)->xs.length<c9->Q .non (upd H l (.lst (xs++[y])))->jNn x vs H Q
theorem jCm:MtM X "list.append" jNn:=by
 intro b9 s σ H x vs v us Q I rx rv h;obtain⟨l,xs,y,rfl,rfl,hH,hz,q⟩:=h;cases rx;obtain⟨u,rfl,ru⟩:=rv.one;obtain⟨z,its,n,r,hl,e⟩:=I.lstM hH;refine nH F.slot_list_append ⟨_,e,rfl⟩ F.entry_list_append (F.args_list_append_2 _ _) (PySem.list_append l its.toArray n u (by rw [dL];omega)) ⟨e,?_⟩;refine⟨.non,_,I.lset (its':=its++[u]) hH e (by simp) (r.append (.cons ru .nil)) ?_,rfl,q⟩;rw [dH,List.length_singleton];omega
inductive jNo(x:V)(vs:List V)(H:Hp)(Q:VK):Prop|mk l b xs zs:x=.ref l->vs=[.ref b]->H l=some (.lst xs)->H b=some (.lst zs)->xs.length+zs.length<=c9->Q .non (upd H l (.lst (xs++zs)))->jNo x vs H Q
theorem jFO:MtM X "list.extend" jNo:=by
 intro b9 s σ H x vs v us Q I rx rv h;obtain⟨l,b,xs,zs,rfl,rfl,hH,hB,hz,q⟩:=h;cases rx;obtain⟨u,rfl,ru⟩:=rv.one;cases ru;obtain⟨z,its,n,r,hl,e⟩:=I.lstM hH;obtain⟨z2,its2,n2,r2,xJ,e2⟩:=I.lstM hB;have hsz:its.toArray.size+its2.toArray.size<=c9:=by rw [dL,dL];omega
 have xH:¬ (!its.toArray.isEmpty&&Builtin.List.listTooLong (its.toArray.size+its2.toArray.size))=true:=by
  rw [jLL hsz,Bool.and_false];exact Bool.false_ne_true
 refine nH F.slot_list_extend ⟨_,e,rfl⟩ F.entry_list_extend (F.args_list_extend_2 _ _)
  (AutoSeq1.list_extend_list_list_0 l its.toArray n b its2.toArray n2 xH (by rw [dL];omega) (by omega)) ⟨e,e2,?_⟩
 refine⟨.non,_,I.lset (its':=its++its2) hH e (by simp) (r.append r2) ?_,rfl,q⟩;rw [dH];omega
inductive jOh(x:V)(vs:List V)(H:Hp)(Q:VK):Prop|mk l xs i k y:x=.ref l->vs=[.int i]->H l=some (.lst xs)->-(2^63)<=i->i<2^63->seqIndex? i xs.length=some k->xs[k]?=some y->Q y (upd H l (.lst (xs.eraseIdx k)))->jOh x vs H Q
theorem jPb:MtM X "list.pop" jOh:=by
 intro b9 s σ H x vs v us Q I rx rv h;obtain⟨l,xs,i,k,y,rfl,rfl,hH,h1,h2,hk,hy,q⟩:=h;cases rx;obtain⟨u,rfl,ru⟩:=rv.one;obtain⟨t,rfl⟩:=ru;obtain⟨z,its,n,r,hl,e⟩:=I.lstM hH;obtain⟨w,hw,sX⟩:=r.get hy;refine nH F.slot_list_pop ⟨_,e,rfl⟩ F.entry_list_pop (F.args_list_pop_2 _ _)
  (MeetsSeq.list_pop_at l its.toArray n i t k w (zV h1 h2) (by rw [dL,<- hl];exact hk) (by rw [<- Array.getElem?_toList];exact hw) (by rw [dL];omega)) ⟨e,?_⟩
 refine⟨y,_,I.lset (its':=its.eraseIdx k) hH e ?_ (r.eraseIdx k) ?_,sX,q⟩
 ·show its.toArray.eraseIdxIfInBounds k=(its.eraseIdx k).toArray;rw [List.eraseIdxIfInBounds_toArray]
 ·have:=jKK xs k;omega
inductive rCat(x:V)(y:V)(H:Hp)(Q:VK):Prop|mk l b xs zs:x=.ref l->y=.ref b->H l=some (.lst xs)->H b=some (.lst zs)->xs.length+zs.length<=c9->(∀ p,H p=none->Q (.ref p) (upd H p (.lst (xs++zs))))->rCat x y H Q
theorem op_cat:OpR X (lZ .Add) rCat:=by
 intro b9 s σ H x y v u Q I rx ry h;obtain⟨l,b,xs,zs,rfl,rfl,hH,hB,hz,q⟩:=h;cases rx;cases ry;obtain⟨z,its,n,r,hl,e⟩:=I.lstM hH;obtain⟨z2,its2,n2,r2,xJ,e2⟩:=I.lstM hB;refine PySem.P.add_list e e2 ?_ (by rw [dL,dL];omega);have ea:its.toArray++its2.toArray=(its++its2).toArray:=by simp
 rw [ea];exact⟨.ref _,_,I.lnew (t':=s.toks) (r.append r2) (by rw [dH];omega),rfl,q _ I.fresh⟩
inductive rRep(x:V)(y:V)(H:Hp)(Q:VK):Prop|mk l k xs:x=.ref l->y=.int k->H l=some (.lst xs)->-(2^63)<=k->k<2^63->xs.length*k.toNat<=c9->(∀ p,H p=none->Q (.ref p) (upd H p (.lst (eQ k.toNat xs).flatten)))->rRep x y H Q
theorem len_rep(xs:List α)(k:Nat):(eQ k xs).flatten.length=k*xs.length:=by
 induction k with
 | zero=>simp
 | succ k ih=>rw [gZ,jX,dH,ih,Nat.succ_mul,Nat.add_comm]
theorem op_rep:OpR X (lZ .Mult) rRep:=by
 intro b9 s σ H x y v u Q I rx ry h;obtain⟨l,k,xs,rfl,rfl,hH,h1,h2,hz,q⟩:=h;cases rx;obtain⟨t,rfl⟩:=ry;obtain⟨z,its,n,r,hl,e⟩:=I.lstM hH;have kK:its.toArray.size*k.toNat<=c9:=by rw [dL,<- hl];exact hz
 have hcap:¬ its.toArray.size*k.toNat > (2^63-1)/8:=by
  have:(c9:Nat)<=(2^63-1)/8:=by decide
  omega
 have hfit:¬ (!Builtin.List.listFitsIndex k)=true:=by
  rw [zV h1 h2];exact Bool.false_ne_true
 have xH:¬ Builtin.List.listTooLong (its.toArray.size*k.toNat)=true:=by
  rw [jLL kK];exact Bool.false_ne_true
 have u6:foldl (fun x1 x2=>x1++x2) #[] (eQ (if its.toArray.isEmpty=true then 0 else k.toNat) its.toArray)=(eQ k.toNat its).flatten.toArray:=by
  have f0:∀ m:Nat,foldl (fun x1 x2=>x1++x2) #[] (eQ m its.toArray)=(eQ m its).flatten.toArray:=fun m=>by
   have:=jKL its m [];rw [j7] at this;exact this
  rw [f0];cases its with
  | nil=>simp
  | cons a r'=>rw [if_neg (by simp)]
 refine wpAny_binaryOp_repeat_ref (T:="list") (U:="int") (by decide) ⟨_,e,rfl⟩ (fun s'=>y6 s' k t) noFill_list_mul F.fills_int_mul F.slot_int_rmul repeat_list F.slot_int_index.lookup
  (nH F.slot_int_rmul (y6 s k t) F.entry_int_rmul (F.args_int_rmul_2 _ _) (int___rmul___int_list k t l its.toArray n)
   ⟨e,rfl,⟨_,e,rfl⟩,nH F.slot_list_mul ⟨_,e,rfl⟩ F.entry_list_mul (F.args_list_mul_2 _ _) (AutoListH.list___mul___list_int_3 l its.toArray n k t hfit hcap xH) ⟨e,?_⟩⟩)
 rw [u6];exact⟨.ref _,_,I.lnew (t':=s.toks) (r.rep k.toNat) (by rw [len_rep,Nat.mul_comm];exact hz),rfl,q _ I.fresh⟩
end
section
variable {prog:Program}{w:World}{A:Around}{E:Value->Shared->Prop}{s:Shared}
set_option maxRecDepth 100000 in
end
section
variable {X:Cx}
end
end L2
namespace Att
open PySem PySem.W PySem.Calls PyProof.Rows
theorem jI4:∀ (ns:List Int) (vs:List Value),WellAll P h vs (ns.map WData.int)->IntsAre vs ns:=by
 intro ns;induction ns with
 | nil =>
   intro vs w;rw [kU] at w;cases w;exact .nil
 | cons n ns ih =>
   intro vs w;rw [dQ] at w;cases w with
   | cons a b =>
     cases a;exact .cons _ _ (ih _ b)
theorem jOi{l:OpenLaw}{n:Nat}(hn:l.most=some n){P:Params}{h:Heap}{args:List WData}{vals:List Value}
 (hpre:l.row.toRowW.claim.pre args=true) (mL:WellAll P h vals args) :
 ∃ a vs ns,vals=[Value.ref a]/\args=[WData.list (ns.map WData.int)]/\h.get? a=some { cls:=.type "list",data:=.seq vs.toArray }/\IntsAre vs ns/\ns.length<=n:=by
 have hsh:WShape.hasAll [] args [.list .int]=true:=(pre_splitW hpre).1;have hc:l.pre.holds [] { args:=args }=true:=(pre_splitW hpre).2;obtain⟨d,r,rfl,h1,h2⟩:=hasAllW_cons hsh;obtain rfl:=hasAllW_nil h2;obtain⟨xs,rfl,h3⟩:=hasW_list h1;obtain⟨ns,rfl⟩:=items_int h3;have kK:ns.length<=n:=by
  unfold OpenLaw.pre at hc;have h4:(WTm.not (.lt (.lit (.int (n:Int))) (.len (.arg 0)))).holds [] { args:=[.list (ns.map .int)] }=true:=by
   have h4:=(holds_andW hc).1;rw [hn] at h4;exact h4
  have h5:=condW_of h4 (w_not (w_lt w_lit (w_len_list (w_arg rfl))));rw [c6] at h5;refine Nat.le_of_not_lt fun q=>?_;have q':(n:Int)<((ns.length:Nat):Int):=by omega
  first
   | (rw [decide_eq_true q'] at h5;exact absurd h5 (by decide))
   | (simp at h5;omega)
 cases mL with
 | cons w1 w2 =>
   cases w2;cases w1 with
   | list ho xO=>exact⟨_,_,ns,rfl,rfl,ho,jI4 ns _ xO,kK⟩
theorem jOj(l:OpenLaw)(args:List WData):l.row.toRowW.claim.post args (.bool true) args=true :=
 postW_of (r:=l.row.toRowW) (X:=(true==true))
  (show WShape.has [] (.bool true) .bool=true by first|rfl|decide|simp [WShape.has,WShape.arms,WShape.armsAll])
  (show (WTm.eq .res (.lit (.bool true))).value [] { args:=args,res:=some (.bool true),after:=args }=some (.bool (true==true)) from w_eq_bool (w_res rfl) w_lit) rfl
theorem attach_call{l:OpenLaw}{n:Nat}{q:Program}{qA:List Str}{XP:(Str->Option Value)->Heap->Prop}{YP:World->Heap->Prop}{d:DefRec}
 (hn:l.most=some n) (hdf:d.params.defaults=[])
 (call:∀ (w:World) (s₀ fH:Shared) (mg mb:Str->Option Value) (fa:Addr) (o:Obj) (pm cd oG:Value) (a:Addr) (vs:List Value) (ns:List Int),
  Ground q qA [] XP w s₀ mg mb fH.heap->YP w fH.heap ->
  fH.heap.get? fa=some o->o.data=.func (docDef d.name d.params d.body d.scope pm cd oG)->fH.heap.CodeRec cd d.name->mg d.name=some (.ref fa) ->
  fH.heap.get? a=some { cls:=.type "list",data:=.seq vs.toArray }->IntsAre vs ns->ns.length<=n->fH.gens=#[] ->
  iJ (dF l.prog w) qW (.call (.ref fa) ⟨[.ref a],[]⟩) (fun r s'=>r=.ok (.ret (.bool true))/\OldK fH.heap s'.heap/\s'.os=fH.os/\AllBare s'.gens) fH) :
 WalkO q qA XP YP l.row.toRowW d [] (fun f vs=>PySem.call f vs):=by
 intro w s₀ fH mg mb G Y fa o pm cd oG dV kV ho hd nY hD hmg hg args vals as hpre hlay hrd mL hlo;obtain rfl:dV=.none:=Dflts.none hD hdf;obtain rfl:kV=.none:=Dflts.noKw hD;obtain⟨a,vs,ns,rfl,rfl,hobj,xL,kK⟩:=jOi hn hpre mL;refine enter_call (h8 (call w s₀ fH mg mb fa o pm cd oG a vs ns G Y ho (fd_plain hd) nY hmg hobj xL kK hg) fun r s' hq=>?_);obtain⟨rfl,h2,h3,h4⟩:=hq;exact⟨.inl ⟨.bool true,.bool true,[],rfl,fun _=>rfl,.bool true,jOj l _,fun _=>⟨Pairwise.nil,fun _ hm=>(nomatch hm)⟩⟩,h2,h3,h4⟩
section
variable {prog:Program}{w:World}{A:Around}{E:Value->Shared->Prop}{s:Shared}{K:Frag}
end
end Att
namespace L2
open PySem PySem.Spec PyProof.Rows
theorem jKM:∀ {vs:List Value} {ns:List Int},IntsAre vs ns->gX (ns.map V.int) vs
 | _,_,.nil=>.nil
 | _,_,.cons n t h=>.cons ⟨t,rfl⟩ (jKM h)
abbrev KOf{K:PySem.W.Frag}{h:Heap}(_:K.In h):PySem.W.Frag:=K
def iI(s:Stmt)(j:Nat):Stmt:=match s with
 | .ClassDef _ _ _ body _ _ _ _ _ _ _=>body.getD j (.Pass ⟨0,0,0,0⟩)
 | _=>.Pass ⟨0,0,0,0⟩
def jDu(s:Stmt):Arguments:=match s with
 | .FunctionDef _ a _ _ _ _ _ _ _ _=>a
 | _=>{ posonlyargs:=[],args:=[],vararg:=none,kwonlyargs:=[],kw_defaults:=[],kwarg:=none,defaults:=[] }
def wA(s:Stmt):List Stmt:=match s with
 | .FunctionDef _ _ b _ _ _ _ _ _ _=>b
 | _=>[]
def fY(s:Stmt):Scope:=match s with
 | .FunctionDef _ _ _ _ _ _ sc _ _ _=>sc
 | _=>{ kind:=.function,names:=[],isGenerator:=false,isCoroutine:=false }
abbrev CX0:CXT:=fun _ _ _ _ _ _=>False
abbrev E0:XK:=fun _ _ _=>False
theorem jI5:jEz CX0 X E0:=fun _ _ _ _ _ _ _ h=>h.elim
structure Fun(K:PySem.W.Frag)(x qual:Str)(st:Stmt)(f:Addr)(fd:FuncData):Prop where
 ex:∃ (oc:Value) (od:Option Addr) (kV oG pm:Value) (an:Option Addr) (fE ct:Value) (sZ:Array (Option Value)),
  fd=PySem.W.fnOf x qual (jDu st) (wA st) (fY st) .none kV oG pm an fE ct/\K.lookup f=some ⟨oc,od,.func fd,sZ⟩/\PySem.W.codeIn K fE qual=true
 kp:i8 K (.ref f)=true
section
variable {P:Program}{w:World}{K:PySem.W.Frag}{mg:Str->Option Value}{base:Heap}
theorem Fun.ok{x qual:Str}{st:Stmt}{f:Addr}{fd:FuncData}{N ps:List Str}{k:Nat}{sp:Sp}(F:Fun K x qual st f fd)(S:gF N ps (fY st))
 (nF:∀ (fE:Value) (A:Around) (outer:List Env) (s:Shared) (H:Hp) (vs:List V) (Q:VK) (E:XK),kJ k (A.deeper (nG qual (fY st) s.heap.objs.size f fE))->sp vs H Q E ->
  ∃ t,PSs (jHB CX0 P w K mg base N qual (fY st) f fE A outer s H E).nox (wA st) t/\t { nx:=fun _ H'=>Q .non H',rt:=Q } (start N vs) H) (len:∀ vs H Q E,sp vs H Q E->vs.length=ps.length:=by intro _ _ _ _ h;cases h;subst_vars;rfl):fJ P w K mg base CX0 (k+1) f fd ps sp:=by
 obtain⟨oc,od,kV,oG,pm,an,fE,ct,sZ,rfl,lk,nY⟩:=F.ex;refine fn_of lk nY S len fun A outer s H vs Q E hr wD=>?_;obtain⟨t,h,q⟩:=nF fE A outer s H vs Q E hr wD;exact⟨t,h.nox,q⟩
theorem Fun.binds{x qual:Str}{st:Stmt}{f:Addr}{fd:FuncData}{ps:List Str}(F:Fun K x qual st f fd)
 (h:∀ (kV oG pm:Value) (an:Option Addr) (fE ct:Value) (us:List Value),us.length=ps.length->yO (PySem.W.fnOf x qual (jDu st) (wA st) (fY st) .none kV oG pm an fE ct) ⟨us,[]⟩=pure (ps.zip us)):oY K fd ps []:=by
 obtain⟨oc,od,kV,oG,pm,an,fE,ct,sZ,rfl,lk,nY⟩:=F.ex;exact .all (h kV oG pm an fE ct)
theorem jLM{x qual:Str}{st:Stmt}{f:Addr}{oc:Value}{od an:Option Addr}{sZ:Array (Option Value)}{kV oG pm fE ct:Value}(l:K.lookup f=some ⟨oc,od,.func (PySem.W.fnOf x qual (jDu st) (wA st) (fY st) .none kV oG pm an fE ct),sZ⟩)
 (c:PySem.W.codeIn K fE qual=true) (k:i8 K (.ref f)=true):Fun K x qual st f (PySem.W.fnOf x qual (jDu st) (wA st) (fY st) .none kV oG pm an fE ct):=⟨⟨oc,od,kV,oG,pm,an,fE,ct,sZ,rfl,l,c⟩,k⟩
end
theorem hu_of(hr:kJ k A):A.units+1<kR:=iC (Nat.add_le_add_left (by decide:1<=64) _) hr.units
theorem oN(h:n<=1000):n<c9:=iC h (by decide)
section
variable {X:Cx}
theorem pv(i:Nat)(hN:X.N[i]?=some x:=by rfl)(hv:Vis X.env.scope x:=by first|exact Or.inl rfl|exact Or.inr (Or.inl rfl)|exact Or.inr (Or.inr rfl))(hd:(x==("__debug__":Str))=false:=by decide) 
 (nY:(x==("__classdict__":Str))=false:=by decide):PE X (.Name x pos) (tY i):=pe_var hN hv hd nY
end
theorem jJ{A B:Prop}(h:B):if false=true then A else B:=by
 rw [if_neg Bool.false_ne_true];exact h
theorem kM{A B:Prop}(h:A):if true=true then A else B:=by
 rw [if_pos rfl];exact h
theorem oK{c A B:Prop}[Decidable c](h1:c->A)(h2:¬ c->B):if c then A else B:=by
 by_cases h:c
 ·rw [if_pos h];exact h1 h
 ·rw [if_neg h];exact h2 h
theorem iteNS{c A B:Prop}[Decidable c](hc:c)(h:B):if (!decide c)=true then A else B:=by
 rw [decide_eq_true hc];exact jJ h
def eC(H H':Hp):Prop:=∀ b o,H b=some o->H' b=some o
theorem eC.refl(H:Hp):eC H H:=fun _ _ h=>h
theorem eC.trans(a:eC H H1)(b:eC H1 H2):eC H H2:=fun c o h=>b c o (a c o h)
theorem eC.free(e:eC H H')(h:H' l=Option.none):H l=Option.none:=by
 cases q:H l with
 | none=>rfl
 | some o =>
   rw [e l o q] at h;cases h
theorem eC.seq{K:PySem.W.Frag}{H H':Hp}{a:Addr}{xs:List V}(e:eC H H')(h:SqL K H a xs):SqL K H' a xs:=by
 rcases h with (h|⟨o,h⟩)|h
 ·exact .inl (.inl (e _ _ h))
 ·exact .inl (.inr ⟨o,e _ _ h⟩)
 ·exact .inr h
end L2
set_option maxHeartbeats 4000000
namespace L2
open PySem PySem.Spec PyProof.Rows
section
variable {κ:Type}[DecidableEq κ]
def m7(kvs:List (κ×V))(k:κ):Option V:=(kvs.find? fun kv=>decide (kv.1=k)).map (·.2)
def pC(kvs:List (κ×V))(k:κ)(v:V):List (κ×V) :=
 if (kvs.any fun kv=>decide (kv.1=k))=true then kvs.map (fun kv=>if kv.1=k then (kv.1,v) else kv) else kvs++[(k,v)]
theorem xC{p:κ×V}{r:List (κ×V)}{k:κ}(e:p.1=k):m7 (p::r) k=some p.2:=by simp [m7,find?_cons,e]
theorem xB{p:κ×V}{r:List (κ×V)}{k:κ}(e:¬ p.1=k):m7 (p::r) k=m7 r k:=by simp [m7,find?_cons,e]
theorem jGR(k:κ):∀ kvs:List (κ×V),(kvs.any fun kv=>decide (kv.1=k))=(m7 kvs k).isSome
 | []=>rfl
 | p::r=>by
   rw [mM];by_cases e:p.1=k
   ·simp only [xC e,decide_eq_true e,Bool.true_or,Option.isSome_some]
   ·rw [xB e,decide_eq_false e,Bool.false_or];exact jGR k r
theorem jLN(k j:κ)(y:V):∀ kvs:List (κ×V),m7 (kvs.map fun kv=>if kv.1=k then (kv.1,y) else kv) j=(m7 kvs j).map fun x=>if j=k then y else x
 | []=>rfl
 | p::r=>by
   have ih:=jLN k j y r;rw [dQ];by_cases h:p.1=k
   ·rw [if_pos h];by_cases e:p.1=j
    ·rw [xC (p:=(p.1,y)) e,xC e,o5,if_pos (e.symm.trans h)]
    ·rw [xB (p:=(p.1,y)) e,xB e,ih]
   ·rw [if_neg h];by_cases e:p.1=j
    ·rw [xC (p:=p) e,xC e,o5,if_neg (fun z=>h (e.trans z))]
    ·rw [xB (p:=p) e,xB e,ih]
theorem jKN(k j:κ)(y:V):∀ kvs:List (κ×V),m7 kvs k=none->m7 (kvs++[(k,y)]) j=if j=k then some y else m7 kvs j
 | [],_=>by
   by_cases e:k=j
   ·rw [if_pos e.symm];exact xC (p:=(k,y)) e
   ·rw [if_neg (fun z=>e z.symm)];exact xB (p:=(k,y)) e
 | p::r,hn=>by
   rw [nS];have hk:¬ p.1=k:=fun z=>by rw [xC z] at hn;cases hn
   rw [xB hk] at hn;have ih:=jKN k j y r hn;by_cases e:p.1=j
   ·rw [xC e,xC e,if_neg (fun z=>hk (e.trans z))]
   ·rw [xB e,xB e,ih]
theorem jPc(kvs:List (κ×V))(k j:κ)(y:V):m7 (pC kvs k y) j=if j=k then some y else m7 kvs j:=by
 unfold pC;by_cases a:(kvs.any fun kv=>decide (kv.1=k))=true
 ·rw [if_pos a,jLN];rw [jGR] at a;by_cases e:j=k
  ·obtain⟨x,hx⟩:=gK.mp a;rw [if_pos e,e,hx,o5,if_pos rfl]
  ·rw [if_neg e];cases m7 kvs j with
   | none=>rfl
   | some x=>rw [o5,if_neg e]
 ·rw [if_neg a];refine jKN k j y kvs ?_;rw [jGR] at a;cases q:m7 kvs k with
  | none=>rfl
  | some x=>rw [q] at a;exact (a rfl).elim
theorem jEs(kvs:List (κ×V))(k:κ)(v:V):(pC kvs k v).length<=kvs.length+1:=by
 unfold pC;split
 ·rw [c6];omega
 ·rw [dH,eY,lJ];omega
theorem pM.isSome_eq(r:pM o u):o.isSome=u.isSome:=by
 cases o with
 | none=>cases u with
   | none=>rfl
   | some _=>exact (show False from r).elim
 | some _=>cases u with
   | none=>exact (show False from r).elim
   | some _=>rfl
theorem KV.val(r:KV kvs vs)(k:κ):pM (m7 kvs k) (qK vs k):=by
 unfold KV at r;induction r with
 | nil=>exact True.intro
 | @cons p q ps qs h t ih =>
   obtain⟨h1,h2⟩:=h;by_cases e:p.1=k
   ·have e':q.1=k:=h1.symm.trans e;have b:qK (q::qs) k=some q.2:=by simp [qK,find?_cons,e']
    rw [xC e,b];exact h2
   ·have e':¬ q.1=k:=fun z=>e (h1.trans z);have b:qK (q::qs) k=qK qs k:=by simp [qK,find?_cons,e']
    rw [xB e,b];exact ih
theorem KV.any(r:KV kvs vs)(k:κ):(kvs.any fun kv=>decide (kv.1=k))=vs.any fun kv=>decide (kv.1=k):=by
 unfold KV at r;induction r with
 | nil=>rfl
 | cons h t ih=>rw [mM,mM,ih,h.1]
theorem KV.repl(r:KV kvs vs)(k:κ)(ry:gN y u) :
 KV (kvs.map fun kv=>if kv.1=k then (kv.1,y) else kv) (vs.map fun kv=>if kv.1=k then (kv.1,u) else kv):=by
 unfold KV at r ⊢;induction r with
 | nil=>exact .nil
 | @cons p q ps qs h t ih =>
   rw [dQ,dQ];refine .cons ?_ ih;obtain⟨h1,h2⟩:=h;by_cases e:p.1=k
   ·rw [if_pos e,if_pos (h1.symm.trans e)];exact⟨h1,ry⟩
   ·rw [if_neg e,if_neg (fun z=>e (h1.trans z))];exact⟨h1,h2⟩
theorem KV.put(r:KV kvs vs)(k:κ)(ry:gN y u):KV (pC kvs k y) (pJ vs k u):=by
 unfold pC pJ;rw [r.any k];by_cases e:(vs.any fun kv=>decide (kv.1=k))=true
 ·rw [if_pos e,if_pos e];exact r.repl k ry
 ·rw [if_neg e,if_neg e];exact Paired.snoc r ⟨rfl,ry⟩
theorem KV.keys{kvs:List (κ×V)}{vs:List (κ×Value)}(r:KV kvs vs):kvs.map (·.1)=vs.map (·.1):=by
 unfold KV at r;induction r with
 | nil=>rfl
 | cons h t ih=>rw [dQ,dQ,ih,h.1]
theorem KV.length(r:KV kvs vs):kvs.length=vs.length:=Paired.length r
end
theorem jH9(r:gN (kV k) u):(oB P w).is k u=true:=by
 cases k with
 | inl i=>obtain⟨t,e⟩:=(show ∃ t,u=Value.int i t from r);subst e;exact jMO P w i t
 | inr x=>obtain⟨t,e⟩:=(show ∃ t,u=Value.str x t from r);subst e;exact jMP P w x t
theorem jKO:∀ {ks:List Key} {us:List Value},gX (ks.map kV) us->ItemsAre (oB P w) ks us
 | [],_,r=>by rw [kU] at r;cases r;exact .nil
 | k::ks,_,r=>by
   rw [dQ] at r;cases r with
   | cons h t=>exact .cons (jH9 h) (jKO t)
abbrev KT(H:Hp):List (List Key×V)->List (List Key×Addr×Value)->Prop:=Paired fun p q=>p.1=q.1/\H q.2.1=some (.tup (p.1.map kV))/\gN p.2 q.2.2
theorem KT.val(r:KT H kvs xs)(k:List Key):pM (m7 kvs k) ((vJ xs k).map (·.2)):=by
 induction r with
 | nil=>exact True.intro
 | @cons p q ps qs h t ih =>
   obtain⟨h1,_,h2⟩:=h;by_cases e:p.1=k
   ·have e':q.1=k:=h1.symm.trans e;have b:vJ (q::qs) k=some q.2:=by simp [vJ,find?_cons,e']
    rw [xC e,b];exact h2
   ·have e':¬ q.1=k:=fun z=>e (h1.trans z);have b:vJ (q::qs) k=vJ qs k:=by simp [vJ,find?_cons,e']
    rw [xB e,b];exact ih
theorem KT.repl(r:KT H kvs xs)(k:List Key)(ry:gN y u) :
 KT H (kvs.map fun kv=>if kv.1=k then (kv.1,y) else kv) (xs.map (putAt k u)):=by
 induction r with
 | nil=>exact .nil
 | @cons p q ps qs h t ih =>
   rw [dQ,dQ];refine .cons ?_ ih;obtain⟨h1,h2,h3⟩:=h;unfold putAt;by_cases e:p.1=k
   ·rw [if_pos e,if_pos (h1.symm.trans e)];exact⟨h1,h2,ry⟩
   ·rw [if_neg e,if_neg (fun z=>e (h1.trans z))];exact⟨h1,h2,h3⟩
theorem KT.put(r:KT H kvs xs)(k:List Key)(hb:H b=some (.tup (k.map kV)))(ry:gN y u) :
 KT H (pC kvs k y) (storedH xs k b u):=by
 have e:(kvs.any fun kv=>decide (kv.1=k))=(vJ xs k).isSome:=by
  rw [jGR,(r.val k).isSome_eq,sS]
 unfold pC storedH;rw [e];by_cases q:(vJ xs k).isSome=true
 ·rw [if_pos q,if_pos q];exact r.repl k ry
 ·rw [if_neg q,if_neg q];exact Paired.snoc r ⟨rfl,hb,ry⟩
theorem KT.keeps(r:KT H kvs xs)(ht:∀ b ys,H b=some (.tup ys)->H' b=some (.tup ys)):KT H' kvs xs :=
 Paired.mapP r fun _ _ z=>⟨z.1,ht _ _ z.2.1,z.2.2⟩
section
variable {P:Program}{w:World}{H:Hp}{h:Heap}{a:Addr}
theorem rd_of(ok:HOk P w H h)(e:Rd H a u):lO P w H h a u:=e.ok ok
theorem jI6(ok:HOk P w H h)(e:Rd H a (.dK kvs)):kvs.length<=c9/\(a==iZ)=false/\∃ vs,KV kvs vs/\h.DictOf (oB P w) a vs :=
 show lO P w H h a (.dK kvs) from rd_of ok e
theorem dk_of(ok:HOk P w H h)(e:H a=some (.dK kvs)):kvs.length<=c9/\(a==iZ)=false/\∃ vs,KV kvs vs/\h.DictOf (oB P w) a vs:=jI6 ok (.inl e)
theorem jI7(ok:HOk P w H h)(e:H a=some (.tup (ks.map kV))):(rH (oB P w)).is h ks a:=by
 obtain⟨_,its,r,o,h1,h2,n,h3⟩:=(show lO P w H h a (.tup (ks.map kV)) from ok a _ e)
 exact⟨o,its.toArray,n,h1,h2,h3,by simpa using jKO r⟩
theorem jLu(ok:HOk P w H h)(e:Rd H a (.dT kvs)):kvs.length<=c9/\(a==iZ)=false /\
 ∃ xs,KT H kvs xs/\h.DictOfH (rH (oB P w)) a xs:=by
 obtain⟨z,y,xs,r,o,es,ep,h1,h2,h3,h4,h5⟩:=(show lO P w H h a (.dT kvs) from rd_of ok e)
 refine⟨z,y,xs,r,o,es,ep,h1,h2,h3,h4,fun x hx=>?_,h5⟩;have all:∀ {l:List (List Key×V)} {m:List (List Key×Addr×Value)},KT H l m->∀ x∈m,(rH (oB P w)).is h x.1 x.2.1:=by
  intro l m q;induction q with
  | nil=>intro x hx;exact nomatch hx
  | @cons p q ps qs hq t ih =>
    intro x hx;rcases dZ.mp hx with e|hx
    ·subst e;exact jI7 ok (by rw [<- hq.1];exact hq.2.1)
    ·exact ih x hx
 exact all r x hx
theorem dt_of(ok:HOk P w H h)(e:H a=some (.dT kvs)):kvs.length<=c9/\(a==iZ)=false /\
 ∃ xs,KT H kvs xs/\h.DictOfH (rH (oB P w)) a xs:=jLu ok (.inl e)
end
def qE(H:Hp)(a:Addr)(y:V)(r:Option V):Prop :=
 (∃ kvs k,Rd H a (.dK kvs)/\y=kV k/\r=m7 kvs k)\/∃ kvs k b,Rd H a (.dT kvs)/\y=.ref b/\H b=some (.tup (k.map kV))/\r=m7 kvs k
def jHD(H:Hp)(a:Addr)(y v:V)(H':Hp):Prop :=
 (∃ kvs k,H a=some (.dK kvs)/\y=kV k/\kvs.length<c9/\H'=upd H a (.dK (pC kvs k v))) \/
 ∃ kvs k b,H a=some (.dT kvs)/\y=.ref b/\H b=some (.tup (k.map kV))/\kvs.length<c9/\H'=upd H a (.dT (pC kvs k v))
theorem qE.k{H:Hp}{a:Addr}{kvs:List (Key×V)}{k:Key}(e:H a=some (.dK kvs)):qE H a (kV k) (m7 kvs k):=.inl ⟨kvs,k,.inl e,rfl,rfl⟩
theorem jHD.k{H:Hp}{a:Addr}{kvs:List (Key×V)}{k:Key}{v:V}(e:H a=some (.dK kvs))(hl:kvs.length<c9):jHD H a (kV k) v (upd H a (.dK (pC kvs k v))):=.inl ⟨kvs,k,e,rfl,hl,rfl⟩
section
variable {X:Cx}{b9:List (Addr×Obj)}{σ:St}{H:Hp}{s:Shared}{a:Addr}{y v:V}{u r:Value}{o:Option V}{A:Around}{E:Value->Shared->Prop}
theorem Inv.big(I:Inv X b9 σ H s):iZ<s.heap.objs.size:=by
 have h:dS<s.heap.objs.size:=(I.mod.glob.keeps I.bk).lt;exact Nat.lt_trans (by decide) h
theorem jKP(hu:A.units+1<kR)(I:Inv X b9 σ H s)(g:qE H a y (some v))(ry:gN y u)(h:∀ w' s',Inv X b9 σ H s'->gN v w'->Q w' s') :
 dC (dF X.prog X.w) A (uF (.ref a) u) Q E s:=by
 rcases g with⟨kvs,k,e,ey,l⟩|⟨kvs,k,b,e,ey,eb,l⟩
 ·subst ey;obtain⟨z,hd,vs,o0,dd⟩:=jI6 I.hok e;obtain⟨w',hw,sX⟩:=pM.some_of (v:=v) (o:=qK vs k) (by rw [l];exact o0.val k);exact wpAny_getItem_of (jH9 ry) dd.mapOf hw (h w' _ (I.tok _) sX)
 ·subst ey;cases (show u=Value.ref b from ry);obtain⟨z,hd,xs,o0,dd⟩:=jLu I.hok e;obtain⟨w',hw,sX⟩:=pM.some_of (v:=v) (o:=(vJ xs k).map (·.2)) (by rw [l];exact o0.val k);obtain⟨p,hp,hp2⟩:=dY.mp hw;refine wpAny_getItem_heap (pG hu) (jI7 I.hok eb) dd hp ?_;rw [hp2];exact h w' _ (I.tok _) sX
theorem d_notIn(hu:A.units+1<kR)(I:Inv X b9 σ H s)(g:qE H a y o)(ry:gN y u)(h:∀ s',Inv X b9 σ H s'->Q (.bool (!o.isSome)) s') :
 dC (dF X.prog X.w) A (fM .NotIn u (.ref a)) Q E s:=by
 rcases g with⟨kvs,k,e,ey,l⟩|⟨kvs,k,b,e,ey,eb,l⟩
 ·subst ey;obtain⟨z,hd,vs,o0,dd⟩:=jI6 I.hok e;refine wpAny_notIn_of (jH9 ry) hd dd.mapOf ?_;rw [<- (o0.val k).isSome_eq,<- l];exact h _ (I.tok _)
 ·subst ey;cases (show u=Value.ref b from ry);obtain⟨z,hd,xs,o0,dd⟩:=jLu I.hok e;refine wpAny_notIn_heap (pG hu) (jI7 I.hok eb) hd dd ?_;have q:=(o0.val k).isSome_eq;rw [sS] at q;rw [<- q,<- l];exact h _ (I.tok _)
theorem jJ2(I:Inv X b9 σ H s)(mu:Mut (H a))(hs:SameBut a s.heap h')(he:∃ q,h'.get? a=some q)(new:lO X.prog X.w (upd H a ob) h' a ob) :
 Inv X b9 σ (upd H a ob) { s with heap:=h',toks:=t' } :=
 I.write (x:=a) (e:=a) mu (.inl rfl) (fun b q hb z=>(hs.2 b hb).trans z) he new
theorem jI8(z:kvs.length<=c9)(hd:(a==iZ)=false)(o0:KV kvs vs)(dd:h'.DictOf (oB P w) a vs) :
 lO P w H' h' a (.dK kvs):=⟨z,hd,vs,o0,dd⟩
theorem jKQ(hu:A.units+1<kR)(I:Inv X b9 σ H s)(g:jHD H a y v H')(ry:gN y u)(rv:gN v r)(h:∀ s',Inv X b9 σ H' s'->Q () s') :
 dC (dF X.prog X.w) A (zG (.ref a) u r) Q E s:=by
 rcases g with⟨kvs,k,e,ey,l,eH⟩|⟨kvs,k,b,e,ey,eb,l,eH⟩
 ·subst ey eH;obtain⟨z,hd,vs,o0,dd⟩:=dk_of I.hok e;have hz:vs.length<=c9:=by rw [<- o0.length];exact z
  have hl:(pC kvs k v).length<=c9:=by have:=jEs kvs k v;omega
  refine wpAny_setItem_pairs (hsz:=hz) (jH9 ry) dd fun h' dd' hs=>h _ ?_;have he:∃ q,h'.get? a=some q:=let ⟨q,_,_,hq,_⟩:=dd';⟨q,hq⟩;exact jJ2 I (by rw [e];exact True.intro) hs he (jI8 hl hd (o0.put k rv) dd')
 ·subst ey eH;cases (show u=Value.ref b from ry);obtain⟨z,hd,xs,o0,dd⟩:=dt_of I.hok e;have hz:xs.length<=c9:=by rw [<- Paired.length o0];exact z
  have hl:(pC kvs k v).length<=c9:=by have:=jEs kvs k v;omega
  refine wpAny_setItem_heap (hsz:=hz) (pG hu) (jI7 I.hok eb) dd fun h' dd' hs=>h _ ?_;obtain⟨q,es,ep,hq,h2,h3,h4,_,h5⟩:=dd';refine jJ2 I (by rw [e];exact True.intro) hs ⟨q,hq⟩ ⟨hl,hd,_,(o0.put k eb rv).keeps fun c ys ec=>?_,q,es,ep,hq,h2,h3,h4,h5⟩;rw [dW (eW ec e (fun z=>nomatch z))];exact ec
end
section
variable {X:Cx}{b9:List (Addr×Obj)}{σ:St}{H:Hp}{s:Shared}{a:Addr}{kvs:List (Key×V)}{k:Key}{u:Value}{A:Around}{E:Value->Shared->Prop}
end
def NoSl(i:Expr):Prop:=∀ ov iv,sH i false ov iv=operate [ov,iv] (uF ov iv)
theorem subD_of{prog:Program}{w:World}{A:Around}{E:Value->Shared->Prop}{s:Shared}{env:Env}{value slice:Expr}{pos:Pos}{T id:String}{Q:Value->Shared->Prop}
 (hl:y3 (.type T) "__getitem__"=pure (some (.builtin id))) (hs:NoSl slice)
 (h:dC (dF prog w) A (eU value env) (fun o fH=>dC (dF prog w) A (eU slice env) (fun i fQ=>fQ.TypeIs o T/\dC (dF prog w) A (uF o i) Q E fQ) E fH) E s) :
 dC (dF prog w) A (eU (.Subscript value slice pos) env) Q E s:=by
 refine Subscript_ (eB h (fun o fH hU=>eB hU (fun i fQ qQ=>?_) fun _ _ x=>x) fun _ _ x=>x);obtain⟨hT,qQ⟩:=qQ;unfold wJ;refine c5 ?_;rw [getitemInPython_of_ne hT.not_modules];refine c5 (wpAny_specialOf hT hl ?_);have fin:dC (dF prog w) A (sH slice false o i) (fun r qN=>dC (dF prog w) A (letTemporaryGo value o r >>= fun _=>pure r) Q E qN) E fQ:=by
  rw [hs o i];exact wpAny_operating (eB qQ (fun r qN h₃=>c5 (wpAny_letTemporaryGo (dE h₃))) fun _ _ x=>x)
 first
  | exact dE (c5 fin)
  | exact c5 (dE (c5 fin))
  | exact c5 fin
theorem jMR(I:Inv X b9 σ H s)(g:qE H a y o):s.TypeIs (.ref a) "dict":=by
 rcases g with⟨kvs,k,e,_,_⟩|⟨kvs,k,b,e,_,_,_⟩
 ·obtain⟨_,_,vs,_,dd⟩:=jI6 I.hok e;exact dd.typeIs
 ·obtain⟨_,_,xs,_,dd⟩:=jLu I.hok e;exact dd.typeIs
inductive jOk(Q:VK)(x:V)(y:V)(H2:Hp):Prop|mk a v:x=.ref a->qE H2 a y (some v)->Q v H2->jOk Q x y H2
def jLv(td ty:TE):TE:=fun σ H Q=>td σ H fun x H1=>ty σ H1 fun y H2=>jOk Q x y H2
inductive jLO(Q:VK)(y:V)(x:V)(H2:Hp):Prop|mk a o:x=.ref a->qE H2 a y o->Q (.bl (!o.isSome)) H2->jLO Q y x H2
def tDNotIn(ty td:TE):TE:=fun σ H Q=>ty σ H fun y H1=>td σ H1 fun x H2=>jLO Q y x H2
inductive jOl(D:tH)(σ:St)(v:V)(x:V)(y:V)(H3:Hp):Prop|mk a H4:x=.ref a->jHD H3 a y v H4->D.nx σ H4->jOl D σ v x y H3
def sDPut(td ty tv:TE):TS:=fun D σ H=>tv σ H fun v H1=>td σ H1 fun x H2=>ty σ H2 fun y H3=>jOl D σ v x y H3
inductive jOm(tv:TE)(rd:V->V->Hp->VK->Prop)(D:tH)(σ:St)(x:V)(y:V)(H2:Hp):Prop|mk a v:x=.ref a->qE H2 a y (some v)->(tv σ H2 fun y2 H3=>rd v y2 H3 fun z H4=>∃ H5,jHD H4 a y z H5/\D.nx σ H5)->jOm tv rd D σ x y H2
def sDAug(td ty tv:TE)(rd:V->V->Hp->VK->Prop):TS:=fun D σ H=>td σ H fun x H1=>ty σ H1 fun y H2=>jOm tv rd D σ x y H2
section
variable {X:Cx}{o i e value:Expr}{pos nW qL:Pos}{td ty tv:TE}
theorem pe_dget(hu:X.A.units+1<kR)(ho:PE X o td)(hi:PE X i ty)(hs:NoSl i):PE X (.Subscript o i pos) (jLv td ty):=by
 intro b9 s σ H Q I h;refine subD_of PySem.F.slot_dict_getitem.lookup hs (thn (ho b9 s σ H _ I h) fun u s1 ⟨x,H1,I1,rx,q1⟩=>thn (hi b9 s1 σ H1 _ I1 q1) fun iv s2 ⟨y,H2,I2,ry,a,v,ex,g,q2⟩=>?_);subst ex;obtain rfl:u=Value.ref a:=rx;exact⟨jMR I2 g,jKP hu I2 g ry fun w' s3 I3 sX=>⟨v,H2,I3,sX,q2⟩⟩
theorem jKR(hu:X.A.units+1<kR)(hi:PE X i ty)(ho:PE X o td):PC X .NotIn i o (tDNotIn ty td):=by
 intro b9 s σ H Q I h;refine thn (hi b9 s σ H _ I h) fun iv s1 ⟨y,H1,I1,ry,q1⟩=>thn (ho b9 s1 σ H1 _ I1 q1) fun u s2 ⟨x,H2,I2,rx,a,ov,ex,g,q2⟩=>?_;subst ex;obtain rfl:u=Value.ref a:=rx;exact d_notIn hu I2 g ry fun s3 I3=>⟨.bl (!ov.isSome),H2,I3,rfl,q2⟩
theorem ps_dput(hu:X.A.units+1<kR)(ho:PE X o td)(hi:PE X i ty)(hv:PE X value tv)(hs:mX value (some (.Subscript o i nW)) pos.line X.env=pure false) :
 PS X (.Assign [.Subscript o i nW] value pos) (sDPut td ty tv):=by
 intro b9 s σ H D I h;refine wpAny_Assign_Subscript (thn (hv b9 s σ H _ I h) fun r s1 ⟨v,H1,I1,rv,q1⟩=>thn (ho b9 s1 σ H1 _ I1 q1) fun u s2 ⟨x,H2,I2,rx,q2⟩=>thn (hi b9 s2 σ H2 _ I2 q2) fun iv s3 ⟨y,H3,I3,ry,a,H4,ex,g,q3⟩=>?_) hs;subst ex;obtain rfl:u=Value.ref a:=rx;exact jKQ hu I3 g ry rv fun s4 I4=>⟨σ,H4,I4,q3⟩
theorem jNp(hu:X.A.units+1<kR)(ho:PE X o td)(hi:PE X i ty)(hv:PE X value tv)(hop:InOp X op rd) 
 (ha:∀ ov iv new,augStore i ov iv new=(do j6 [new,ov,iv] (zG ov iv new);release [new,ov,iv] [];pure .next)):PS X (.AugAssign (.Subscript o i qL) op value pos) (sDAug td ty tv rd):=by
 intro b9 s σ H D I h;refine wpAny_AugAssign_SubscriptAny (thn (ho b9 s σ H _ I h) fun u s1 ⟨x,H1,I1,rx,q1⟩=>thn (hi b9 s1 σ H1 _ I1 q1) fun iv s2 ⟨y,H2,I2,ry,a,v,ex,g,q2⟩=>?_) ha;subst ex;obtain rfl:u=Value.ref a:=rx;refine jKP hu I2 g ry fun w' s3 I3 sX=>thn (hv b9 s3 σ H2 _ I3 q2) fun w2 s4 ⟨y2,H3,I4,ry2,q3⟩=>thn (hop b9 s4 σ H3 v y2 w' w2 _ I4 sX ry2 q3) fun w3 s5 ⟨z,H4,I5,rz,H5,g5,q4⟩=>?_;exact jKQ hu I5 g5 ry rz fun s6 I6=>⟨σ,H5,I6,q4⟩
end
theorem jLP(h:Heap)(hb:iZ<h.objs.size):lO P w H (h.push { cls:=.type "dict",data:=.dict #[] }) h.objs.size (.dK []) :=
 ⟨d5 _,beq_eq_false_iff_ne.mpr (symm (eA hb)),[],.nil,DictOf.new h⟩
def tDNewK:TE:=fun _ H Q=>∀ p,H p=none->Q (.ref p) (upd H p (.dK []))
section
variable {X:Cx}{pos:Pos}
theorem jPd:PE X (.Dict [] [] pos) tDNewK:=fun b9 s σ H Q I h =>
 wpAny_Dict_empty ⟨.ref s.heap.objs.size,_,I.laid (a:=s.heap.objs.size) (o:=.dK []) (t':=s.toks) (fun _ _ q=>get?_push_of_some _ q) (le_refl _) (jLP s.heap I.big),rfl,h _ (I.hok.fresh (le_refl _))⟩
end
def jLQ:List (TE×TE)->St->Hp->(List (V×V)->Hp->Prop)->Prop
 | [],_,H,Q=>Q [] H
 | (tk,tv)::r,σ,H,Q=>tk σ H fun x H1=>tv σ H1 fun y H2=>jLQ r σ H2 fun ps H3=>Q ((x,y)::ps) H3
abbrev VV:List (V×V)->List (Value×Value)->Prop:=Paired fun p q=>gN p.1 q.1/\gN p.2 q.2
def PPs(X:Cx)(pos:Pos)(keys:List (Option Expr))(qJ:List Expr)(trs:List (TE×TE)):Prop :=
 ∀ (b9:List (Addr×Obj)) (s:Shared) (σ:St) (H:Hp) (Q:List (V×V)->Hp->Prop),Inv X b9 σ H s->jLQ trs σ H Q ->
  dC (dF X.prog X.w) X.A (evalPairs (pairTrees keys qJ X.env pos)) (fun vs s'=>∃ ps H',Inv X b9 σ H' s'/\VV ps vs/\Q ps H') X.xe s
theorem jH_:PPs X pos [] [] []:=fun b9 s σ H Q I h=>pairTrees_nil_walk ⟨[],H,I,.nil,h⟩
theorem xA(hk:PE X k tk)(hv:PE X v tv)(hr:PPs X pos ks vs trs) :
 PPs X pos (some k::ks) (v::vs) ((tk,tv)::trs):=fun b9 s σ H Q I h =>
 pairTrees_cons_walk (thn (hk b9 s σ H _ I h) fun u s1 ⟨x,H1,I1,rx,q1⟩=>thn (hv b9 s1 σ H1 _ I1 q1) fun w2 s2 ⟨y,H2,I2,ry,q2⟩ =>
  thn (hr b9 s2 σ H2 _ I2 q2) fun ws s3 ⟨ps,H3,I3,o0,q3⟩=>⟨(x,y)::ps,H3,I3,.cons ⟨rx,ry⟩ o0,q3⟩)
def jDB(kvs more:List (Key×V)):List (Key×V):=more.foldl (fun iM kv=>pC iM kv.1 kv.2) kvs
theorem KV.merge:∀ {more:List (Key×V)} {rs:List (Key×Value)} {kvs:List (Key×V)} {vs:List (Key×Value)},KV more rs->KV kvs vs->KV (jDB kvs more) (merged vs rs):=by
 intro more rs kvs vs r;unfold KV at r;induction r generalizing kvs vs with
 | nil=>intro q;exact q
 | @cons p q ps qs h t ih =>
   intro r0;have e:KV (pC kvs p.1 p.2) (pJ vs q.1 q.2):=by
    have:=r0.put p.1 h.2;rw [<- h.1];exact this
   exact ih e
theorem jHq:∀ (more kvs:List (Key×V)),(jDB kvs more).length<=kvs.length+more.length
 | [],kvs=>by show kvs.length<=kvs.length+0;omega
 | p::r,kvs=>by
   have h1:=jHq r (pC kvs p.1 p.2);have h2:=jEs kvs p.1 p.2;show (jDB (pC kvs p.1 p.2) r).length<=_;rw [eY];omega
theorem jI9:∀ {kvs:List (Key×V)} {ws:List (Value×Value)},VV (kvs.map fun kv=>(kV kv.1,kv.2)) ws->∃ rs,Carries (oB P w) ws rs/\KV kvs rs
 | [],_,r=>by rw [kU] at r;cases r;exact⟨[],True.intro,.nil⟩
 | p::kvs,_,r=>by
   rw [dQ] at r;cases r with
   | @cons a b as bs h t =>
     obtain⟨rs,c,q⟩:=jI9 (P:=P) (w:=w) t;obtain⟨b1,b2⟩:=b;exact⟨(p.1,b2)::rs,⟨jH9 h.1,rfl,c⟩,.cons ⟨rfl,h.2⟩ q⟩
def tDisp(trs:List (TE×TE)):TE:=fun σ H Q=>∀ p,H p=none->jLQ trs σ (upd H p (.dK [])) fun ps H2=>H2 p=some (.dK [])/\∃ kvs:List (Key×V),ps=kvs.map (fun kv=>(kV kv.1,kv.2))/\kvs.length<=15/\Q (.ref p) (upd H2 p (.dK (jDB [] kvs)))
theorem jIa(h:PPs X pos keys qJ trs)(xO:keys.all (·.isSome)=true)(hl:keys.length=qJ.length)(h0:keys≠[]) 
 (h15:keys.length<=15):PE X (.Dict keys qJ pos) (tDisp trs):=by
 intro b9 s σ H Q I q;have hn:=I.hok.fresh (le_refl s.heap.objs.size);have I1:=I.laid (a:=s.heap.objs.size) (o:=.dK []) (h':=s.heap.push { cls:=.type "dict",data:=.dict #[] }) (t':=s.toks) (fun _ _ q=>get?_push_of_some _ q) (le_refl _) (jLP s.heap I.big);refine wpAny_Dict_walk (knd:=oB X.prog X.w) xO hl h0 h15 (thn (h b9 _ σ _ _ I1 (q _ hn)) fun ws s2 ⟨ps,H2,I2,o0,e,kvs,ep,lk,q2⟩=>?_);subst ep;obtain⟨rs,c,rk⟩:=jI9 (P:=X.prog) (w:=X.w) o0;obtain⟨z,hd,vs0,r0,dd⟩:=dk_of I2.hok e;cases r0;refine⟨rs,c,dd,fun h' dd' hs=>⟨.ref s.heap.objs.size,_,?_,rfl,q2⟩⟩;have hz:(jDB [] kvs).length<=c9:=by
  have h1:=jHq kvs [];rw [lJ] at h1;rw [fC];omega
 have he:∃ q,h'.get? s.heap.objs.size=some q:=let ⟨q,_,_,hq,_⟩:=dd';⟨q,hq⟩;exact jJ2 I2 (by rw [e];exact True.intro) hs he (jI8 hz hd (rk.merge .nil) dd')
structure M1(X:Cx)(o:Expr)(m:Str)(i7:Pos)(e:Expr)(lH:Pos):Prop where
 base:jO o m X.env (eU o X.env)=eU o X.env
 few:((fZ lH (dG [e] X.env)).all (fun x=>!x.1)&&(i6 lH (gI [] X.env)).all (fun x=>x.1.isSome)
  && decide (([e]:List Expr).length+([]:List Keyword).length+(if ([]:List Keyword).isEmpty then 0 else 1)<30))=true
 line:(i7.endLine==lH.line)=true
 trees:fZ lH (dG [e] X.env)=[(false,eU e X.env)]
structure M2(X:Cx)(o:Expr)(m:Str)(i7:Pos)(e f:Expr)(lH:Pos):Prop where
 base:jO o m X.env (eU o X.env)=eU o X.env
 few:((fZ lH (dG [e,f] X.env)).all (fun x=>!x.1)&&(i6 lH (gI [] X.env)).all (fun x=>x.1.isSome)
  && decide (([e,f]:List Expr).length+([]:List Keyword).length+(if ([]:List Keyword).isEmpty then 0 else 1)<30))=true
 line:(i7.endLine==lH.line)=true
 trees:fZ lH (dG [e,f] X.env)=[(false,eU e X.env),(false,eU f X.env)]
section
variable {X:Cx}{b9:List (Addr×Obj)}{σ:St}{H:Hp}{s:Shared}{a:Addr}{y d:V}{u r:Value}{o:Option V}{A:Around}{E:Value->Shared->Prop}
end
section
variable {X:Cx}{o e f:Expr}{i7 lH:Pos}{td ty tx:TE}
end
section
variable {X:Cx}{b9:List (Addr×Obj)}{σ:St}{H:Hp}{s:Shared}{a:Addr}{kvs:List (Key×V)}{A:Around}{E:Value->Shared->Prop}
theorem jPe(I:Inv X b9 σ H s)(e:Rd H a (.dK kvs))(h:∀ p s',H p=none->Inv X b9 σ (upd H p (.dK kvs)) s'->Q (.ref p) s'):dC (dF X.prog X.w) A (call (.type "dict") [.ref a]) Q E s:=by
 obtain⟨z,hd,vs,o0,dd⟩:=jI6 I.hok e;refine kt_call_dict hd dd (by rw [<- o0.length];exact z) fun h' dd' hs=>?_;refine h _ _ (I.hok.fresh (le_refl _)) (I.laid (a:=s.heap.objs.size) (o:=.dK kvs) (t':=s.toks) (fun b q hq=>?_) (le_refl _) (jI8 z (beq_eq_false_iff_ne.mpr (symm (eA I.big))) o0 dd'));exact (hs.2 b (eA (dR hq))).trans (get?_push_of_some _ hq)
end
section
variable {X:Cx}{b9:List (Addr×Obj)}{σ:St}{H:Hp}{s:Shared}{a:Addr}{y:V}{u:Value}{A:Around}{E:Value->Shared->Prop}
end
section
variable {X:Cx}
end
section
variable {κ:Type}[DecidableEq κ]
end
end L2
namespace Blk
open PySem
def J:List (List Nat)->List Nat
 | []=>[]
 | [x]=>x
 | x::y::r=>x++32::J (y::r)
def C:List Nat->List (List Nat)
 | []=>[[]]
 | c::r=>if c=32 then []::C r else match C r with
   | []=>[[c]]
   | p::ps=>(c::p)::ps
def sg(x:Str):List Nat:=x.cps.toList
theorem sg_inj(h:sg x=sg y):x=y:=by
 obtain⟨a⟩:=x;obtain⟨b⟩:=y;have e:a.toList=b.toList:=h;rw [Array.toList_inj.mp e]
theorem sg_app(x y:Str):sg (x++y)=sg x++sg y:=Array.toList_append ..
end Blk
namespace L2
open PySem PySem.Spec PyProof.Rows
theorem small(h:n<=1000):n<=c9:=iG (oN h)
theorem jNI(z:Str):z.cps.toList.length=z.length:=by simp [Str.length]
theorem at_in(h0:0<=i)(h1:i<(xs.length:Int)):∃ v,xs[i.toNat]?=some v/\atI xs i=some v:=by
 have hk:i.toNat<xs.length:=by omega
 have q:atI xs ((i.toNat:Nat):Int)=some xs[i.toNat]:=kL (getElem?_eq_getElem hk);have e:((i.toNat:Nat):Int)=i:=by omega
 rw [e] at q;exact⟨_,getElem?_eq_getElem hk,q⟩
theorem jNq:bootBuiltins "list"=some (.type "list"):=by decide +kernel
theorem jHE:bootBuiltins "str"=some (.type "str"):=by decide +kernel
theorem bt_bool:bootBuiltins "bool"=some (.type "bool"):=by decide +kernel
theorem jHF:bootBuiltins "int"=some (.type "int"):=by decide +kernel
theorem jI_:bootBuiltins "isinstance"=some (.builtin "isinstance"):=by decide +kernel
theorem jLR:bootBuiltins "tuple"=some (.type "tuple"):=by decide +kernel
theorem jJa(n:String):gN (.ty n) (.type n):=rfl
theorem rel_str(x:Str)(t:Tok):gN (.str x) (.str x t):=⟨t,rfl⟩
theorem rel_int(x:Int)(t:Tok):gN (.int x) (.int x t):=⟨t,rfl⟩
section
variable {X:Cx}{tg:Expr}
end
section
variable {X:Cx}
inductive rIxSA(x:V)(y:V)(H:Hp)(Q:VK):Prop|mk z i:x=.str z->y=.int i->z.length<=c9->0<=i->i<((z.length:Nat):Int)->(∀ c,z.cps.toList[i.toNat]?=some c->Q (.str ⟨#[c]⟩) H)->rIxSA x y H Q
theorem ix_strA:IxR X rIxSA:=by
 intro value slice b9 s σ H x y v u Q I rx ry h hs;obtain⟨z,i,rfl,rfl,hz,h0,h1,q⟩:=h;obtain⟨c,e1,e2⟩:=at_in (xs:=z.cps.toList) h0 (by rw [jNI];exact h1);exact ix_str value slice b9 s σ H _ _ v u Q I rx ry ⟨z,i,c,rfl,rfl,hz,e2,q c e1⟩ hs
inductive rIsi(K:PySem.W.Frag)(xs:List V)(H:Hp)(Q:VK):Prop|mk x n t b:xs=[x,.ty n]->rS K H x t->nP K t (.type n)=some b->Q (.bl b) H->rIsi K xs H Q
theorem jGS:CallR X (.builtin "isinstance") (rIsi X.K):=by
 intro b9 s σ H xs us Q I r h;obtain⟨x,n,t,b,rfl,ty,e,q⟩:=h;obtain⟨u,w',rfl,r1,r2⟩:=vals2 r;cases (show w'=type n from r2);exact jOc I r1 ty e fun tk=>⟨.bl b,H,I.tok tk,rfl,q⟩
theorem jIJ{K:PySem.W.Frag}(n:String):nP K (.type n) (.type n)=some true:=by
 unfold nP;rw [if_pos (beq_self_eq_true _)]
def eqVs(xs ys:List V):Bool:=xs.length==ys.length&&(range xs.length).all fun j=>eqV (xs.getD j .non) (ys.getD j .non)
theorem jJ3{xs:List V}(f:xs.all qF=true)(j:Nat):qF (xs.getD j .non)=true:=by
 by_cases h:j<xs.length
 ·rw [getD_eq_getElem?_getD,getElem?_eq_getElem h];exact (jP.mp f) _ (List.getElem_mem h)
 ·rw [getD_eq_getElem?_getD,getElem?_eq_none (by omega)];rfl
theorem jCw(r:gX xs us)(j:Nat)(h:j<us.toArray.size):gN (xs.getD j .non) (us.toArray[j]):=by
 have hl:=r.length;have h':j<us.length:=by simpa using h
 have h2:j<xs.length:=by omega
 obtain⟨u,e1,e2⟩:=r.get (getElem?_eq_getElem h2);rw [getD_eq_getElem?_getD,getElem?_eq_getElem h2];have e3:us.toArray[j]=u:=by
  rw [getElem?_eq_getElem h'] at e1;simpa using Option.some.inj e1
 rw [e3];exact e2
inductive rEqL(K:PySem.W.Frag)(neg:Bool)(x:V)(y:V)(H:Hp)(Q:VK):Prop|mk p q xs ys:x=.ref p->y=.ref q->SqL K H p xs->SqL K H q ys->xs.all qF=true->ys.all qF=true->Q (.bl (if neg then !eqVs xs ys else eqVs xs ys)) H->rEqL K neg x y H Q
theorem jJb(hu:X.A.units<kR):OpR X (fM .NotEq) (rEqL X.K true):=by
 intro b9 s σ H x y v u Q I rx ry h;obtain⟨p,q,xs,ys,rfl,rfl,hp,hq,fx,fy,k⟩:=h;cases rx;cases ry;obtain⟨its,r1,l1,z1⟩:=I.list hp;obtain⟨jts,r2,l2,z2⟩:=I.list hq;have e1:=r1.length;have e2:=r2.length;have fin:∀ b,b=eqVs xs ys->EP X b9 σ Q (.bool (!b)) s:=fun b e=>⟨.bl (!b),H,I,rfl,by rw [e];exact k⟩
 by_cases hs:xs.length=ys.length
 ·refine SeqAt.RcNeAt.lists (e:=fun j=>eqV (xs.getD j .non) (ys.getD j .non)) l1.isList l2.isList (by simp;omega) hu (fun j h1 h2=>?_) X.prog X.w _ _ (fin _ ?_)
  ·exact jI3 (jCw r1 j h1) (jCw r2 j h2) (jJ3 fx j) (jJ3 fy j)
  ·unfold eqVs;rw [dL,<- e1,hs,beq_self_eq_true,Bool.true_and]
 ·refine SeqAt.RcNeAt.lists_lengths l1.isList l2.isList (by simp [bne_iff_ne];omega) hu X.prog X.w _ _ (fin false ?_);unfold eqVs;rw [beq_eq_false_iff_ne.mpr hs,Bool.false_and]
theorem jPf(f:qF x=true):eqV x x=true:=by
 cases x with
 | non=>rfl
 | bl b=>exact beq_self_eq_true b
 | int i=>exact beq_self_eq_true i
 | str z=>exact beq_self_eq_true z
 | _=>exact absurd (show false=true from f) Bool.false_ne_true
theorem jKS(f:xs.all qF=true):eqVs xs xs=true:=by
 unfold eqVs;rw [beq_self_eq_true,Bool.true_and];exact jP.mpr fun j _=>jPf (jJ3 f j)
end
theorem gM(h:H p=none)(o:HO):eC H (upd H p o):=fun b u q=>by rw [dW (eJ q h)];exact q
theorem w5(h:H p=none)(e:eC H H')(o:HO):eC H (upd H' p o):=fun b u q=>by rw [dW (eJ q h)];exact e b u q
def jEA(cells:List (Str×Addr)):List (Str×NameKind)->List (Str×Addr)->List (Str×Addr)
 | [],iM=>iM
 | (n,k)::r,iM=>jEA cells r (if (k==.free)=true then (n,(cells.lookup n).getD 0)::iM else iM)
theorem jHr(h:∀ p∈scope.names,p.2=.free->(env.cells.lookup p.1).isSome=true):pT scope env=pure (jEA env.cells scope.names []):=by
 obtain⟨kd,names,g1,g2,more⟩:=scope;simp only [pT];dsimp only at h ⊢;generalize ([]:List (Str×Addr))=iM;induction names generalizing iM with
 | nil=>rfl
 | cons p r ih =>
   obtain⟨n,k⟩:=p;have hr:∀ p∈r,p.2=.free->(env.cells.lookup p.1).isSome=true:=fun p hp=>h p (fB _ hp);have ih':=ih hr;simp only [jEA];by_cases hk:k=.free
   ·subst hk;obtain⟨c,hc⟩:=gK.mp (h (n,.free) gB rfl);have hc':List.lookup n env.cells=some c:=hc;rw [show (NameKind.free==NameKind.free)=true from rfl,if_pos rfl,hc'];have e:cellOf env n=pure c:=by unfold cellOf;rw [hc']
    have q:=ih' ((n,c)::iM);simp only [List.forIn_cons,beq_self_eq_true,if_true,e,pure_bind,nZ];exact q
   ·have hb:(k==NameKind.free)=false:=by simpa using hk
    have q:=ih' iM;simp only [List.forIn_cons,hb,mE,if_false,pure_bind];exact q
theorem jKT:∀ (names:List (Str×NameKind)) (iM:List (Str×Addr)),(∀ p∈names,p.2=.free->(cells.lookup p.1).isSome=true) ->
 (∀ y c,iM.lookup y=some c->cells.lookup y=some c)->(jEA cells names iM).lookup y=some c->cells.lookup y=some c
 | [],_,_,ha,h=>ha _ _ h
 | (n,k)::r,iM,hn,ha,h=>by
   refine jKT r _ (fun p hp=>hn p (fB _ hp)) (fun y c hy=>?_) h;by_cases hk:(k==NameKind.free)=true
   ·rw [if_pos hk] at hy;rw [eX] at hy;by_cases e:(y==n)=true
    ·rw [e] at hy;obtain⟨d,hd⟩:=gK.mp (hn (n,k) gB (by simpa using hk));have hd':cells.lookup n=some d:=hd;have hy':(cells.lookup n).getD 0=c:=Option.some.inj hy;rw [hd'] at hy';rw [eq_of_beq e,hd'];exact congrArg some hy'
    ·rw [jZ.mpr e] at hy;exact ha y c hy
   ·rw [if_neg hk] at hy;exact ha y c hy
theorem jGT:∀ (names:List (Str×NameKind)) (iM:List (Str×Addr)),((iM.lookup y).isSome=true\/(y,NameKind.free)∈names)->((jEA cells names iM).lookup y).isSome=true
 | [],iM,h=>h.elim id (fun z=>by cases z)
 | (n,k)::r,iM,h=>by
   refine jGT r _ ?_;rcases h with h|h
   ·refine .inl ?_;by_cases hk:(k==NameKind.free)=true
    ·rw [if_pos hk,eX];by_cases e:(y==n)=true
     ·rw [e];rfl
     ·rw [jZ.mpr e];exact h
    ·rw [if_neg hk];exact h
   ·rcases dZ.mp h with e|h
    ·cases e;refine .inl ?_;rw [if_pos (show (NameKind.free==NameKind.free)=true from rfl),eX,beq_self_eq_true];rfl
    ·exact .inr h
def jFm(X:Cx)(scope:Scope)(N':List Str)(C:Addr)(ex:List Addr)(fQ:Shared)(H₂:Hp):Cx where
 prog:=X.prog
 w:=X.w
 K:=X.K
 mg:=X.mg
 base:=X.base
 A:=X.A
 N:=N'
 s₀:=fQ
 H₀:=H₂
 env:=compEnvC scope (jEA X.env.cells scope.names []) C X.env
 outer:=X.stack
 stack:=X.stack
 ex:=ex
 fn:=fun _=>false
 calm:=X.calm
 pn:=[]
 xe:=fun _ _=>False
def jGy(X:Cx)(scope:Scope):List (Str×Nat)->Prop
 | []=>True
 | p::r=>(X.N[p.2]?=some p.1/\X.env.kindOf p.1=some .cell/\(tX scope X.env).names.lookup p.1=some .cell/\(p.1,NameKind.free)∈scope.names)/\jGy X scope r
theorem jGy.at:∀ {fr:List (Str×Nat)},jGy X scope fr->∀ p∈fr,X.N[p.2]?=some p.1/\X.env.kindOf p.1=some .cell/\(tX scope X.env).names.lookup p.1=some .cell/\(p.1,NameKind.free)∈scope.names
 | [],_,p,hp=>by cases hp
 | _::_,h,p,hp=>by
   rcases dZ.mp hp with e|hp
   ·rw [e];exact h.1
   ·exact jGy.at h.2 p hp
def inSt(frees:List (Str×Nat))(σ:St)(x:Option V):St:=x::frees.map fun p=>(σ[p.2]?).join
def PIfs(X:Cx)(tM:List Expr)(t:TT):Prop :=
 ∀ (b9:List (Addr×Obj)) (s:Shared) (σ:St) (H:Hp) (Q:Bool->Hp->Prop),Inv X b9 σ H s->t σ H Q ->
  dC (dF X.prog X.w) X.A (forIn tM true fun c r=>if r=true then do let ok <- yD c X.env (eU c X.env);pure (ForInStep.yield ok) else pure (ForInStep.yield r)) (TP X b9 σ Q) X.xe s
theorem jCn:PIfs X [] (fun _ H Q=>Q true H):=fun _ _ _ H _ I h=>wpAny_tests_nil ⟨H,I,h⟩
theorem jGU(h:PT X c t):PIfs X [c] t:=fun b9 s σ H Q I hw=>wpAny_tests_one (h b9 s σ H Q I hw)
def jJc(J:It)(tc:TT)(te:TE)(σf:Option V->St)(H1:Hp)(Q:VK):Prop:=∀ D,H1 D=none ->
 ∃ W:Nat->Nat->List V->Hp->Prop,(∃ m,W 0 m [] (upd H1 D (.lst [])))/\∀ i m ys H2,W i m ys H2->H2 D=some (.lst ys) /\
  ((J.stop i H2/\Q (.ref D) H2)\/(J.go i H2/\ys.length<c9/\∀ x H3,J.yld i H2 x H3->tc (σf (some x)) H3 fun b H4 =>
    if b=true then te (σf (some x)) H4 fun y H5=>H5 D=some (.lst ys)/\∃ m',m'<m/\W (i+1) m' (ys++[y]) (upd H5 D (.lst (ys++[y]))) else ∃ m',m'<m/\W (i+1) m' ys H4))
section
variable {prog:Program}{w:World}{A:Around}{R:Result->Shared->Prop}{s:Shared}
theorem jOn(I:Nat->Shared->Prop) 
 (turn:∀ n s,I n s->dC (dF prog w) A (uJ it) (fun r fH=>match r with
  | none=>R (.ok .next) fH
  | some v=>dC (dF prog w) A (nO oX it v) (fun _ s₁'=>dC (dF prog w) A (pW oX env v) (fun _ fQ =>
   dC (dF prog w) A (forIn tM true fun c r=>if r=true then do let ok <- yD c env (eU c env);pure (ForInStep.yield ok) else pure (ForInStep.yield r)) (fun ok qN =>
    if ok=true then dC (dF prog w) A (eU vE env) (fun x s₄ =>
     dC (dF prog w) A (call (.builtin "list.append") [iM,x]) (fun _ s₅=>∃ m,m<n/\I m s₅) (fun _ _=>False) s₄) (fun _ _=>False) qN
    else ∃ m,m<n/\I m qN) (fun _ _=>False) fQ) (fun _ _=>False) s₁') (fun _ _=>False) fH) (fun _ _=>False) s)
 (n:Nat) (h:I n s) :
 iJ (dF prog w) A (.compLoop (.ListComp vE [⟨oX,lR,tM,0⟩] scope pos) 0 it iM env) R s:=by
 have no:∀ {α:Type} {t:Sem α} {Q:α->Shared->Prop} {E:Value->Shared->Prop} {s:Shared},dC (dF prog w) A t Q (fun _ _=>False) s->dC (dF prog w) A t Q E s:=fun h=>eB h (fun _ _ q=>q) fun _ _ f=>f.elim;refine codeAny_loop rfl I (fun n s hI=>?_) n h;show dC _ A ((compTurn (.ListComp vE [⟨oX,lR,tM,0⟩] scope pos) 0 it iM env).onRaise (fun x=>do rP x env;theTreesLotGoes x)) _ _ s;refine wpAny_noted ?_;rw [compTurn_list];refine c5 (jL (c5 (eB (turn n s hI) (fun r fH hU=>?_) fun _ _ h'=>h'.elim)));cases r with
 | none=>exact dE hU
 | some v =>
   refine c5 (eB hU (fun _ s₁' h₁'=>?_) fun _ _ h'=>h'.elim);refine c5 (eB h₁' (fun _ fQ qQ=>c5 (eB qQ (fun ok qN h₃=>?_) fun _ _ h'=>h'.elim)) fun _ _ h'=>h'.elim);cases ok with
   | false=>exact dE ⟨rfl,h₃⟩
   | true =>
     exact c5 (c5 (eB h₃ (fun x s₄ h₄=>c5 (eB h₄ (fun _ s₅ h₅=>dE (dE ⟨rfl,h₅⟩)) fun _ _ h'=>h'.elim)) fun _ _ h'=>h'.elim))
end
section
variable {X:Cx}{vE lR:Expr}{x:Str}{px pos:Pos}{tM:List Expr}{scope:Scope}{frees:List (Str×Nat)}{tc:TT}{te:TE}
structure jLS(X:Cx)(scope:Scope)(x:Str)(frees:List (Str×Nat)):Prop where
 cell:∀ y∈scope.names,y.2≠.cell
 kind:scope.kind=.function
 own:scope.names.lookup x=some .local
 names:∀ y∈scope.names,y.2=.local->scope.names.lookup y.1=some .local
 fr:jGy X scope frees
 nd:(x::frees.map (·.1)).Nodup
 cl:∀ p∈scope.names,p.2=.free->(X.env.cells.lookup p.1).isSome=true
 calm:X.calm=true
theorem jLT(hc:∀ y∈scope.names,y.2≠.cell)(h:(tX scope env).names.lookup y=some .cell\/(tX scope env).names.lookup y=some .free):(y,NameKind.free)∈scope.names:=by
 have lW:∀ k,(tX scope env).names.lookup y=some k->k≠.local->k=.cell\/k=.free->(y,NameKind.free)∈scope.names:=fun k hk _ hkk=>by
  have hm:=PySem.mem_of_lookup hk;obtain⟨⟨n,k0⟩,hm0,e⟩:=eI.mp hm;by_cases hcond:(k0==NameKind.free&&env.scope.kind==.function&&env.kindOf n==some .cell)=true
  ·have e':(n,NameKind.cell)=(y,k):=by rw [<- e];exact (if_pos hcond).symm
   have hk0:k0=.free:=by
    rw [fA,fA] at hcond;exact eq_of_beq hcond.1.1
   have en:n=y:=congrArg fst e';rw [<- en,<- hk0];exact hm0
  ·have e':(n,k0)=(y,k):=by rw [<- e];exact (if_neg hcond).symm
   have en:n=y:=congrArg fst e';have ek:k0=k:=congrArg y7 e';rcases hkk with hkk|hkk
   ·exact absurd (ek.trans hkk) (hc _ hm0)
   ·rw [<- en,<- hkk,<- ek];exact hm0
 rcases h with h|h
 ·exact lW _ h (by decide) (.inl rfl)
 ·exact lW _ h (by decide) (.inr rfl)
theorem jKU{b9:List (Addr×Obj)}{σ:St}{H1:Hp}{fQ:Shared}{it:Addr}{fp:List Addr}{tn:Nat->Heap->Prop}{J:It}{Q:VK}{RR:Value->Addr->Result->Shared->Prop}{E:Value->Shared->Prop}
 (O:jLS X scope x frees) (hc:∀ C ex fQ H₂,PIfs (jFm X scope (x::frees.map (·.1)) C ex fQ H₂) tM tc) (he:∀ C ex fQ H₂,PE (jFm X scope (x::frees.map (·.1)) C ex fQ H₂) vE te)
 (I:Inv X b9 σ H1 fQ) (T:jHy X.prog X.w X.K (.Name x px) J fp it tn) (st:tn 0 fQ.heap) (hf:∀ b∈fp,jGO X b9 H1 b) (hB:jJc J tc te (inSt frees σ) H1 Q)
 (hRR:∀ D C H' s',Inv X b9 σ H' s'->(∃ m,s'.heap.Ns C m)->jGO X b9 H' C->Q (.ref D) H'->RR (.ref D) C (.ok .next) s') :
 dC (dF X.prog X.w) X.A (newList []) (fun iM qN=>dC (dF X.prog X.w) X.A (newFunctionEnv scope X.env.globals (jEA X.env.cells scope.names []) [] X.env.qual none .none (some X.env)) (fun cenv s₄ =>
  iJ (dF X.prog X.w) X.A (.compStart (.ListComp vE [⟨.Name x px,lR,tM,0⟩] scope pos) 0 (.ref it) iM { cenv with scope:=tX scope X.env }) (RR iM cenv.locals) s₄) E qN) E fQ:=by
 refine mI (yH O.cell (by intro y hy;simp at hy) (fun hU tQ qR=>?_) O.kind);dsimp only at tQ qR ⊢;generalize hH2:fQ.heap.push { cls:=.type "list",dict:=none,data:=.seq ([]:List Value).toArray }=H2 at tQ qR ⊢;have hC:H2.objs.size=fQ.heap.objs.size+1:=by rw [<- hH2,size_push]
 have hDC:fQ.heap.objs.size≠H2.objs.size:=by rw [hC];exact eA (kW _)
 have hCle:fQ.heap.objs.size<=H2.objs.size:=by rw [hC];exact fL _
 have sC:∀ b,b<fQ.heap.objs.size->b≠H2.objs.size/\b≠fQ.heap.objs.size:=fun b hb=>⟨by rw [hC];exact eA (jD hb),eA hb⟩
 have old:∀ b o,fQ.heap.get? b=some o->hU.get? b=some o:=fun b o e=>qR.extBut b o (sC b (dR e)).1 (get?_push_of_some _ (hH2 ▸ get?_push_of_some _ e));have hacc:hU.get? fQ.heap.objs.size=some { cls:=.type "list",data:=.seq ([]:List Value).toArray }:=qR.extBut _ _ hDC (get?_push_of_some _ (hH2 ▸ get?_push_size _ rfl));have nD:H1 fQ.heap.objs.size=none:=I.hok.fresh (le_refl _);obtain⟨W,⟨m0,w0⟩,hW⟩:=hB fQ.heap.objs.size nD
 -- the block's context and its first state
 let X':Cx:=jFm X scope (x::frees.map (·.1)) H2.objs.size fp fQ H1;have inC:∀ y c,(jEA X.env.cells scope.names []).lookup y=some c->X.env.cells.lookup y=some c:=fun y c h=>jKT scope.names [] O.cl (fun y c h=>by cases h) h;have fpl:∀ b∈fp,b<fQ.heap.objs.size:=fun b hb=>by
  obtain⟨o,e,_⟩:=T.obj _ _ st b hb;exact dR e
 have ok':X'.Ok:=by
  refine⟨I.ok.mod,O.kind,I.ok.glob,I.ok.blt,hCle,fun y z c h1 h2=>I.ok.inj y z c (inC y c h1) (inC z c h2),fun y hy=>?_,fun y c h _=>(by cases h),I.ok.hd,I.ok.frames,.inl rfl,fun b hb=>?_,I.bs,le_trans I.ok.bsz I.sz,fun b o e hb=>?_,fun b hb z=>?_,I.stack,I.stkFree⟩
  ·exact gK.mp (jGT scope.names [] (.inr (jLT O.cell hy)))
  ·exact⟨(sC b (fpl b hb)).1,fun y c h=>(hf b hb).2.2.2.2.1 y c (inC y c h)⟩
  ·rcases (hf b hb).2.2.2.1 with z|z
   ·exact I.ok.noex b o e z
   ·exact absurd (dO (dO (dR e) I.ok.bsz) z) (gG _)
  ·exact (dZ.mp (I.stkSub b z)).elim (hf b hb).2.1 (hf b hb).2.2.1
 have hok1:HOk X.prog X.w (upd H1 fQ.heap.objs.size (.lst [])) hU:=I.hok.laid old (le_refl _) ⟨d5 _,[],0,.nil,hacc⟩;have I0:∀ tk,Inv X' [] (inSt frees σ none) (upd H1 fQ.heap.objs.size (.lst [])) { fQ with heap:=hU,toks:=tk }:=fun tk=>by
  exists ok',rfl,I.bare,Un.laid old (le_refl _) nD,⟨_,tQ,fun i y v h1 h2 h3=>?_⟩,fun y c h=>?_,?_,fun y c h=>?_,fun p hp=>absurd (show p∈([]:List (Addr×Obj)) from hp) (by simp),hok1
  ·cases i with
   | zero =>
     have h2':(none:Option V)=some v:=Option.some.inj h2;cases h2'
   | succ j =>
     have h1':(frees.map (·.1))[j]?=some y:=h1;have h2':(frees.map fun p=>(σ[p.2]?).join)[j]?=some (some v):=h2;rw [getElem?_map] at h1' h2';cases e:frees[j]? with
     | none=>rw [e] at h1';cases h1'
     | some p =>
       rw [e] at h1' h2';have e1:p.1=y:=Option.some.inj h1';have e2:(σ[p.2]?).join=some v:=Option.some.inj h2';obtain⟨g1,g2,g3,g4⟩:=O.fr.at p (mem_of_getElem? e);have e3:σ[p.2]?=some (some v):=by
        cases q:σ[p.2]? with
        | none=>rw [q] at e2;cases e2
        | some o=>rw [q] at e2;exact congrArg some e2
       obtain⟨m,hn,hl⟩:=I.loc;obtain⟨u,r,l⟩:=hl p.2 p.1 v g1 e3 (.inr (.inl g2));exists u,r;rcases l with⟨k,_⟩|⟨_,c,hc1,hc2⟩
       ·rw [g2] at k;cases k
       ·obtain⟨c2,hc3⟩:=gK.mp (jGT (cells:=X.env.cells) scope.names [] (.inr g4));have hc4:=inC _ _ hc3;rw [hc1] at hc4;cases hc4;rw [<- e1];refine .inr ⟨.inl g3,c,hc3,?_⟩;obtain⟨o,ho,hd⟩:=hc2;exact⟨o,old c o ho,hd⟩
  ·obtain⟨v,o,ho,hd⟩:=I.cell y c (inC y c h);exact⟨v,o,old c o ho,hd⟩
  ·show upd H1 fQ.heap.objs.size (.lst []) H2.objs.size=none;rw [dW (symm hDC)];exact I.hok.fresh hCle
  ·obtain⟨v,o,ho,hd⟩:=I.cell y c (inC y c h);rw [dW (sC c (dR ho)).2];exact I.freeC y c (inC y c h)
  ·show (inSt frees σ none).length=(x::frees.map (·.1)).length;simp [inSt]
 have sU:∀ {H':Hp},(∀ b∈fp,H' b=none)->∀ b∈fp,jGO X' [] H' b:=fun hn b hb =>
  ⟨hn b hb,(sC b (fpl b hb)).1,fun z=>(dZ.mp (I.stkSub b z)).elim (hf b hb).2.1 (hf b hb).2.2.1,.inl hb,fun y c h=>(hf b hb).2.2.2.2.1 y c (inC y c h),fun p hp=>absurd (show p∈([]:List (Addr×Obj)) from hp) (by simp)⟩
 have xG:tn 0 hU:=T.keep _ _ _ st fun b _ o e=>old b o e;have fr0:∀ b∈fp,(upd H1 fQ.heap.objs.size (.lst [])) b=none:=fun b hb=>by
  rw [dW (sC b (fpl b hb)).2];exact (hf b hb).1
 have loop:∀ tk,iJ (dF X.prog X.w) X.A (.compLoop (.ListComp vE [⟨.Name x px,lR,tM,0⟩] scope pos) 0 (.ref it) (.ref fQ.heap.objs.size) X'.env) (RR (.ref fQ.heap.objs.size) H2.objs.size) { fQ with heap:=hU,toks:=tk }:=fun tk=>by
  refine jOn (fun n s'=>∃ i ys o H',Inv X' [] (inSt frees σ o) H' s'/\tn i s'.heap/\(∀ b∈fp,H' b=none)/\W i n ys H') ?_ m0 ⟨0,[],none,_,I0 tk,xG,fr0,w0⟩;rintro n s3 ⟨i,ys,o3,H3,I3,st3,fr3,w3⟩;obtain⟨hD3,alt⟩:=hW i n ys H3 w3;rcases alt with⟨stop,q⟩|⟨go,kP,step⟩
  ·refine thn (T.done X' rfl rfl rfl O.calm i [] s3 _ H3 _ I3 (sU fr3) st3 stop) fun r s4 ⟨hr,I4⟩=>?_;subst hr;have J4:Inv X b9 σ H3 s4:=I.call' (ch:=fp) I4.os I4.base I4.hok I4.bare fun b hb=>⟨(hf b hb).2.2.2.1,(hf b hb).2.1,(hf b hb).2.2.2.2.1,(hf b hb).2.2.2.2.2⟩
   obtain⟨m4,hn4,_⟩:=I4.loc;exact hRR _ _ H3 s4 J4 ⟨m4,hn4⟩ (I.fpOk hCle I4.free) q
  ·refine thn (T.item X' rfl rfl rfl O.calm i [] s3 _ H3 _ I3 (sU fr3) st3 go) fun r s4 ⟨u,hr,h4⟩=>?_;subst hr;refine thn h4 fun _ s5 ⟨v,H5,I5,r5,y5,st5,fr5⟩=>?_;have I5':=I5.pinned (sU fr5) (T.obj _ _ st5);have tail:∀ {σ7:St} {H7:Hp} {s7:Shared},Inv X' ([]++jHz fp s5.heap) σ7 H7 s7->Inv X' [] σ7 H7 s7/\tn (i+1) s7.heap/\∀ b∈fp,H7 b=none:=fun {σ7 H7 s7} I7=>by
    refine⟨I7.unpinned,T.keep _ _ _ st5 fun b hb o e=>(I7.pin (b,o) (dD _ (dD _ (jE2 hb e)))).1,fun b hb=>?_⟩;obtain⟨o,e,d⟩:=T.obj _ _ st5 b hb;exact (I7.pin (b,o) (dD _ (dD _ (jE2 hb e)))).2.1
   have hg:PG X' (.Name x px) (wZ 0):=jNh O.nd rfl (Or.inl (yL O.own)) (.inr (yL O.own));refine thn (hg _ s5 _ H5 v u (fun σ6 H6=>σ6=inSt frees σ (some v)/\H6=H5) I5' r5 ⟨rfl,rfl⟩) fun _ s6 ⟨σ6,H6,I6,e6,e6'⟩=>?_;subst e6 e6';refine thn (hc _ _ _ _ _ s6 _ _ _ I6 (step v _ y5)) fun b s7 ⟨H7,I7,q7⟩=>?_;cases b with
   | false =>
     obtain⟨m',hm,w7⟩:=(show ∃ m',m'<n/\W (i+1) m' ys H7 from q7)
     obtain⟨t1,t2,t3⟩:=tail I7;exact⟨m',hm,i+1,ys,some v,H7,t1,t2,t3,w7⟩
   | true =>
     refine thn (he _ _ _ _ _ s7 _ _ _ I7 q7) fun y s8 ⟨y',H8,I8,r8,hD8,m',hm,w8⟩=>?_;refine thn (jCm (X:=X') _ s8 _ H8 (.ref fQ.heap.objs.size) [y'] _ [y] (fun _ H9=>H9=upd H8 fQ.heap.objs.size (.lst (ys++[y']))) I8 rfl (.cons r8 .nil) ⟨_,_,_,rfl,rfl,hD8,kP,rfl⟩) fun _ s9 ⟨_,H9,I9,_,e9⟩=>?_;subst e9;obtain⟨t1,t2,t3⟩:=tail I9;exact⟨m',hm,i+1,ys++[y'],some v,_,t1,t2,t3,w8⟩
 exact codeAny_compStart_list (loop _) (T.self _ 0 _ _ _ xG (loop _))
def tComp(frees:List (Str×Nat))(tc:TT)(te:TE)(wi:TI):TE:=fun σ H Q=>wi σ H fun J H1=>jJc J tc te (inSt frees σ) H1 Q
theorem jCx(O:jLS X scope x frees)(hxe:X.xe=fun _ _=>False)(hi:PI X (.Name x px) lR wi) 
 (hc:∀ C ex fQ H₂,PIfs (jFm X scope (x::frees.map (·.1)) C ex fQ H₂) tM tc) (he:∀ C ex fQ H₂,PE (jFm X scope (x::frees.map (·.1)) C ex fQ H₂) vE te)
 (hs:∀ x,qU lR X.env x=pure x:=by intro _;rfl):PE X (.ListComp vE [⟨.Name x px,lR,tM,0⟩] scope pos) (tComp frees tc te wi):=by
 intro b9 s σ H Q I h;rw [eval_ListComp];refine wF (use:=none) rfl hs (jHr O.cl) O.kind O.names (thn (hi b9 s σ H _ I h) fun xv fH hU=>thn hU fun itv fQ qQ=>?_);obtain⟨it,fp,tn,J,H2,e,I2,T,st2,f2,hB⟩:=qQ;subst e;refine jKU (RR:=fun iM C=>compPost (dF X.prog X.w) X.A X.xe none (EP X b9 σ Q) iM C) O hc he I2 T st2 f2 hB ?_;intro D C H' s' I' hn hC q;obtain⟨m,hn⟩:=hn;refine⟨m,hn,fun h' tN=>?_⟩;exact⟨.ref D,H',I'.turned (t':=s'.toks) (fun b o hb e=>tN.extBut b o hb e) hC.1 hC.2.1 hC.2.2.2.1 hC.2.2.2.2.1 hC.2.2.2.2.2,rfl,q⟩
theorem jJ4(O:jLS X scope x frees)(hN:X.N.Nodup)(hiy:X.N[i]?=some y)(hy:X.env.kindOf y=some .local)(hsw:mX (.ListComp vE [⟨.Name x px,lR,tM,0⟩] scope pos) (some (.Name y py)) spos.line X.env=pure true) 
 (hi:PI X (.Name x px) lR wi) (hc:∀ C ex fQ H₂,PIfs (jFm X scope (x::frees.map (·.1)) C ex fQ H₂) tM tc) (he:∀ C ex fQ H₂,PE (jFm X scope (x::frees.map (·.1)) C ex fQ H₂) vE te)
 (hs:∀ x,qU lR X.env x=pure x:=by intro _;rfl):PS X (.Assign [.Name y py] (.ListComp vE [⟨.Name x px,lR,tM,0⟩] scope pos) spos) (tAsg (tComp frees tc te wi) (wZ i)):=by
 intro b9 s σ H D I h;rw [exec_Assign_Name_used _ _ _ _ hsw];refine c5 (jL (c5 ?_));show dC _ X.A (do let _ <- comprehension (.ListComp vE [⟨.Name x px,lR,tM,0⟩] scope pos) scope X.env _ (newList []) false (eU lR X.env) (some (pW (.Name y py) X.env))) _ _ s
 refine c5 (eB (wF (use:=some (pW (.Name y py) X.env)) (Q:=fun _ s'=>SP X b9 D .next s') rfl hs (jHr O.cl) O.kind O.names
  (thn (hi b9 s σ H _ I h) fun xv fH hU=>thn hU fun itv fQ qQ=>?_)) (fun _ s' hq=>dE (dE hq)) fun _ _ e=>e)
 obtain⟨it,fp,tn,J,H2,e,I2,T,st2,f2,hB⟩:=qQ;subst e;refine jKU (RR:=fun iM C=>compPost (dF X.prog X.w) X.A X.xe (some (pW (.Name y py) X.env)) (fun _ s'=>SP X b9 D .next s') iM C) O hc he I2 T st2 f2 hB ?_;intro A C H' s' I' hn hC q;obtain⟨m,hn⟩:=hn;obtain⟨oC,es,ep,hoC,hdC,hr⟩:=id hn;have I'':Inv X (b9++[(C,oC)]) σ H' s':=I'.pins_of fun p hp=>(eV.mp hp).elim (fun z=>I'.pin p (dD _ z)) fun z=>by
  rw [mem_singleton.mp z];exact⟨hoC,hC.1,hC.2.1,hC.2.2.1,fun v e=>by rw [hdC] at e;cases e⟩
 show dC _ X.A (pW (.Name y py) X.env (.ref A)) _ _ _;refine zE (jIG I'' hN hiy (.inl hy) (v:=.ref A) rfl (fun s3 I3=>?_) (.inr hy));have hC3:=(I3.pin (C,oC) (dD _ (dD _ (mem_singleton.mpr rfl)))).1;have J3:Inv X b9 (σ.set i (some (.ref A))) H' s3:=I3.unpinned;refine⟨m,⟨oC,es,ep,hC3,hdC,hr⟩,fun h' tN=>?_⟩;exact⟨_,H',J3.turned (t':=s3.toks) (fun b o hb e=>tN.extBut b o hb e) hC.1 hC.2.1 hC.2.2.2.1 hC.2.2.2.2.1 hC.2.2.2.2.2,q⟩
end
section
variable {X:Cx}
inductive rSlS(x:V)(lo:Option Int)(hi:Option Int)(H:Hp)(Q:VK):Prop|mk z:x=.str z->z.length<=c9->Q (.str (Txt.slice z lo hi)) H->rSlS x lo hi H Q
theorem jNr(p:IsPart v o):∃ l:Option (Int×Tok),v=partValue l/\l.map (·.1)=o:=by
 cases p with
 | none=>exact⟨none,rfl,rfl⟩
 | int i t=>exact⟨some (i,t),rfl,rfl⟩
theorem jHG:SlR X rSlS:=by
 intro b9 s σ H x v vl vu lo hi sl Q I rx hs pl pu h;obtain⟨z,rfl,hz,q⟩:=h;obtain⟨t,rfl⟩:=rx;obtain⟨l,rfl,rfl⟩:=jNr pl;obtain⟨u,rfl,rfl⟩:=jNr pu
 exact⟨"str",_,F.slot_str_getitem.lookup,y4 _ _ _,wpAny_getItem_str_slice (l:=l) (u:=u) (st:=none) hs rfl
  (post_val_or_str ⟨le_trans (Txt.slice_le z _ _) hz,fun t' k=>⟨.str _,H,I.tok _,⟨t',rfl⟩,q⟩⟩)⟩
end
structure Seq(J:It)(H1:Hp)(xs:List V):Prop where
 go:∀ i H,eC H1 H->i<xs.length->J.go i H
 yld:∀ i H x H',eC H1 H->i<xs.length->J.yld i H x H'->H'=H/\xs[i]?=some x
 stop:∀ H,eC H1 H->J.stop xs.length H
theorem jFP(lo:Int)(n:Nat)(H1:Hp):Seq (Itr lo n) H1 ((range n).map fun i=>V.int (lo+(i:Nat))) where
 go:=fun i H _ h=>by
  rw [c6,dP] at h;exact h
 yld:=fun i H x H' _ hi h=>by
  obtain⟨e,hx⟩:=h;exists e;rw [c6,dP] at hi;rw [getElem?_map,getElem?_range hi,hx];rfl
 stop:=fun H _=>by
  show n<=_;rw [c6,dP];exact le_refl _
theorem jFn{K:PySem.W.Frag}{a:Addr}{xs:List V}{H1:Hp}(h:SqL K H1 a xs):Seq (Itl K a) H1 xs where
 go:=fun i H e hi=>⟨xs,xs[i],e.seq h,getElem?_eq_getElem hi⟩
 yld:=fun i H x H' e _ y=>⟨y.1,y.2 xs (e.seq h)⟩
 stop:=fun H e=>⟨xs,e.seq h,le_refl _⟩
theorem jKV{α:Type}{xs:List α}{i:Nat}{x:α}(h:xs[i]?=some x):xs.take (i+1)=xs.take i++[x]:=by
 rw [List.take_succ,h];rfl
theorem jDv(S:Seq J H1 xs)(p:V->Bool)(g:V->V)(hz:xs.length<c9) 
 (hc:∀ x∈xs,∀ (H':Hp) (R:Bool->Hp->Prop),eC H1 H'->R (p x) H'->tc (σf (some x)) H' R)
 (he:∀ x∈xs,∀ (H':Hp) (R:VK),eC H1 H'->p x=true->R (g x) H'->te (σf (some x)) H' R)
 (q:∀ D H',eC H1 H'->H1 D=none->H' D=some (.lst ((xs.filter p).map g))->Q (.ref D) H'):jJc J tc te σf H1 Q:=by
 intro D hD;exists fun i m ys H2=>m=xs.length-i/\i<=xs.length/\eC H1 H2/\H2 D=some (.lst ys)/\ys=((xs.take i).filter p).map g,⟨xs.length,rfl,d5 _,gM hD _,d4,rfl⟩
 rintro i m ys H2 ⟨rfl,hi,sm,vB,rfl⟩;exists vB;by_cases kP:i<xs.length
 ·refine .inr ⟨S.go i H2 sm kP,?_,fun x H3 y=>?_⟩
  ·rw [c6];refine iC (iE _ _) ?_;rw [fI];omega
  ·obtain⟨e,hx⟩:=S.yld i H2 x H3 sm kP y;subst e;have mem:x∈xs:=mem_of_getElem? hx;refine hc x mem _ _ sm ?_;cases hp:p x with
   | false =>
     refine jJ ⟨xs.length-(i+1),by omega,rfl,kP,sm,vB,?_⟩;rw [jKV hx,jH,fO (by rw [hp];decide),List.filter_nil,eZ]
   | true =>
     refine kM (he x mem _ _ sm hp ⟨vB,xs.length-(i+1),by omega,rfl,kP,w5 hD sm _,d4,?_⟩);rw [jKV hx,jH,gA hp,List.filter_nil,dU];rfl
 ·have e:i=xs.length:=by omega
  subst e;refine .inl ⟨S.stop H2 sm,q D H2 sm hD ?_⟩;rw [vB,fG (le_refl _)]
def jPg(cells:List (Str×Addr))(names:List (Str×NameKind)):Bool:=names.all fun p=>if (p.2==NameKind.free)=true then (cells.lookup p.1).isSome else true
theorem uW(h:jPg cells names=true):∀ p∈names,p.2=.free->(cells.lookup p.1).isSome=true:=fun p hp hk=>by
 have q:=(jP.mp h) p hp;rw [hk,show (NameKind.free==NameKind.free)=true from rfl,if_pos rfl] at q;exact q
section
variable {X:Cx}
theorem jDb:CallR X (.type "int") (fun xs H Q=>∃ z n,xs=[.str z]/\PySem.intText? z=some n/\z.length<=640/\Q (.int n) H):=by
 intro b9 s σ H xs us Q I r h;obtain⟨z,n,rfl,hn,hl,q⟩:=h;obtain⟨u,rfl,t,rfl⟩:=uU r;exact PySem.W.KIN.call_text hn hl ⟨.int n,H,I.tok _,⟨_,rfl⟩,q⟩
theorem jLU(K:PySem.W.Frag):nP K (.type "int") (.type "bool")=some false:=by
 have e1:yM "bool"=true:=by decide +kernel
 have e2:subIn K (.type "int") (.type "bool")=some false:=by
  show (fastBuiltinMro "int").map (·.contains (type "bool"))=some false;decide +kernel
 show (if (type "int" == type "bool")=true then some true else (if yM "bool"=true then subIn K (.type "int") (.type "bool") else none))=some false;rw [if_neg (by decide),if_pos e1];exact e2
inductive wY(K:PySem.W.Frag)(x:V)(y:V)(H:Hp)(Q:VK):Prop|mk p xs i:x=.ref p->y=.int i->SqL K H p xs->0<=i->i<((xs.length:Nat):Int)->(∀ v,xs[i.toNat]?=some v->Q v H)->wY K x y H Q
theorem lE:IxR X (wY X.K):=by
 intro value slice b9 s σ H x y v u Q I rx ry h hs;obtain⟨p,xs,i,rfl,rfl,hq,h0,h1,q⟩:=h;obtain⟨c,e1,e2⟩:=at_in (xs:=xs) h0 h1;exact jH8 value slice b9 s σ H _ _ v u Q I rx ry ⟨p,xs,i,c,rfl,rfl,hq,e2,q c e1⟩ hs
end
section
variable {prog:Program}{w:World}{A:Around}{E:Value->Shared->Prop}{s:Shared}
set_option maxHeartbeats 2000000 in
theorem en_next{en ir:Addr}{fp:List Addr}{n i:Nat}{j:Int}{P:Nat->Value->Prop}{St:Nat->Heap->Prop}{old:Value}{Q:Value->Shared->Prop}
 (D:Draws prog w A ir fp n P St) (k0:IsEnum s.heap en ir j old) (st:St i s.heap) (kP:i<n) (u7:en≠ir) (hef:en ∉ fp)
 (hQ:∀ x hz tk,P i x->IsEnumOut hz en ir (j+1) x s.heap.objs.size->St (i+1) hz ->
  hz.get? s.heap.objs.size=some { cls:=.type "tuple",data:=.seq #[.int j tk,x] }->(∀ b o,b≠en->b≠ir->s.heap.get? b=some o->hz.get? b=some o)->Q (.ref s.heap.objs.size) { s with heap:=hz,toks:=tk+1 }) :
 dC (dF prog w) A (Builtin.«enumerate.__next__» ⟨[.ref en],[]⟩) (fun fin z=>∃ v,fin=.done (.ret v)/\Q v z) E s:=by
 obtain⟨h0,gs,dr,t0,oo⟩:=s;show dC _ _ (field (.ref en) 2 >>= _) _ _ _;refine c5 (hZ k0 rfl (x:=.ref ir) rfl ?_);refine c5 (D.item i _ _ _ kP st fun x h1 tk px st1 b1=>?_);have s1:SameBut ir h0 h1:=b1;have k1:IsEnum h1 en ir j old:=(s1.2 en u7).trans k0;show dC _ _ (field (.ref en) 3 >>= _) _ _ ⟨h1,gs,dr,tk,oo⟩;refine c5 (hZ k1 rfl (x:=lB j) rfl ?_);show dC _ _ (field (.ref en) 4 >>= _) _ _ ⟨h1,gs,dr,tk,oo⟩;refine c5 (hZ k1 rfl (x:=.none) rfl ?_);show dC _ _ (mkInt j >>= _) _ _ ⟨h1,gs,dr,tk,oo⟩;refine c5 (wpAny_mkInt ?_);show dC _ _ (zT (.ref en) 3 (lB (j+1)) >>= _) _ _ ⟨h1,gs,dr,tk+1,oo⟩;refine c5 (jS k1 (by simp) fun h2 k2 b2=>?_);have s2:SameBut en h1 h2:=b2;have k2':IsEnum h2 en ir (j+1) old:=k2;show dC _ _ (zT (.ref en) 4 .none >>= _) _ _ ⟨h2,gs,dr,tk+1,oo⟩;refine c5 (jS k2' (by simp) fun h3 k3 b3=>?_);have s3:SameBut en h2 h3:=b3;have k3':IsEnum h3 en ir (j+1) old:=k3;show dC _ _ (newTuple [.int j tk,x] >>= _) _ _ ⟨h3,gs,dr,tk+1,oo⟩;refine c5 (zR ?_);have k4:IsEnum (h3.push { cls:=.type "tuple",data:=.seq #[.int j tk,x] }) en ir (j+1) old:=get?_push_of_some _ k3';generalize e4:h3.push { cls:=.type "tuple",data:=.seq #[.int j tk,x] }=h4 at k4;have z3:h3.objs.size=h0.objs.size:=by rw [s3.1,s2.1,s1.1]
 have lt:en<h0.objs.size:=dR k0;have t4:h4.get? h0.objs.size=some { cls:=.type "tuple",data:=.seq #[.int j tk,x] }:=by
  rw [<- e4,<- z3];exact get?_push_size _ rfl
 have kp4:∀ b o,b≠en->b≠ir->h0.get? b=some o->h4.get? b=some o:=fun b o n1 n2 hb=>by
  rw [<- e4];exact get?_push_of_some _ (s3.extBut b o n1 (s2.extBut b o n1 (s1.extBut b o n2 hb)))
 have st4:St (i+1) h4:=D.frame _ _ _ st1 fun b hb o y=>by
  have n1:b≠en:=fun q=>hef (q ▸ hb);rw [<- e4];exact get?_push_of_some _ (s3.extBut b o n1 (s2.extBut b o n1 y))
 show dC _ _ (Builtin.SmallTypes.ownedTupleIsFree (.ref en) >>= _) _ _ ⟨h4,gs,dr,tk+1,oo⟩;rw [z3];clear e4 k3 k3' b3 s3 k2 k2' b2 s2 k1 s1 b1 st1 z3 h3 h2 h1;refine c5 ?_;unfold Builtin.SmallTypes.ownedTupleIsFree;refine c5 (hZ k4 rfl (x:=.none) rfl (dE ?_));simp only [if_true];refine c5 (yR ?_);refine c5 (hZ k4 rfl (x:=old) rfl ?_);refine c5 (jS k4 (by simp) fun h5 k5 b5=>?_);have s5:SameBut en h4 h5:=b5;have k5':IsEnum h5 en ir (j+1) x:=k5;show dC _ _ (Builtin.SmallTypes.ownedTupleHandOut (.ref en) (.ref h0.objs.size) >>= _) _ _ ⟨h5,gs,dr,tk+1,oo⟩;refine c5 ?_;unfold Builtin.SmallTypes.ownedTupleHandOut;refine c5 (jS k5' (by simp) fun h6 k6 b6=>?_);have s6:SameBut en h5 h6:=b6;have k6':IsEnumOut h6 en ir (j+1) x h0.objs.size:=k6;refine jS k6' (by simp) fun h7 k7 b7=>?_;have s7:SameBut en h6 h7:=b7;have k7':IsEnumOut h7 en ir (j+1) x h0.objs.size:=k7;refine c5 (yI (dE ⟨_,rfl,hQ x h7 tk px k7' ?_ ?_ ?_⟩))
 ·exact D.frame _ _ _ st4 fun b hb o y=>by
   have n1:b≠en:=fun q=>hef (q ▸ hb);exact s7.extBut b o n1 (s6.extBut b o n1 (s5.extBut b o n1 y))
 ·exact s7.extBut _ _ (gO lt) (s6.extBut _ _ (gO lt) (s5.extBut _ _ (gO lt) t4))
 ·exact fun b o n1 n2 hb=>s7.extBut b o n1 (s6.extBut b o n1 (s5.extBut b o n1 (kp4 b o n1 n2 hb)))
theorem en_item{en ir:Addr}{fp:List Addr}{n i:Nat}{j:Int}{P:Nat->Value->Prop}{St:Nat->Heap->Prop}{old:Value}{Q:Option Value->Shared->Prop}
 (D:Draws prog w A.in1 ir fp n P St) (k0:IsEnum s.heap en ir j old) (st:St i s.heap) (kP:i<n) (u7:en≠ir) (hef:en ∉ fp)
 (hQ:∀ x hz tk,P i x->IsEnumOut hz en ir (j+1) x s.heap.objs.size->St (i+1) hz ->
  hz.get? s.heap.objs.size=some { cls:=.type "tuple",data:=.seq #[.int j tk,x] }->(∀ b o,b≠en->b≠ir->s.heap.get? b=some o->hz.get? b=some o)->Q (some (.ref s.heap.objs.size)) { s with heap:=hz,toks:=tk+1 }) :
 dC (dF prog w) A (uJ (.ref en)) Q E s:=by
 have hT:s.TypeIs (.ref en) "enumerate":=⟨_,k0,rfl⟩
 unfold uJ;refine c5 (zX (wpAny_callSpecial?_slot (name:=c7 "__next__") hT F.slot_enumerate_next (zM F.slot_enumerate_next hT F.entry_enumerate_next ?_ (F.args_enumerate_next_1 _))));exact en_next D k0 st kP u7 hef fun x hz tk a b c d k=>dE (hQ x hz tk a b c d k)
end
def Ite(K:PySem.W.Frag)(a:Addr)(j:Int):It :=
 ⟨fun i H=>∃ xs x,SqL K H a xs/\xs[i]?=some x,fun i H x H'=>∃ p y,x=.ref p/\H p=none/\H'=upd H p (.tup [.int (j+(i:Nat)),y])/\∀ xs,SqL K H a xs->xs[i]?=some y,fun i H=>∃ xs,SqL K H a xs/\xs.length=i⟩
theorem jOo{P:Program}{w:World}{K:PySem.W.Frag}{sA:List Expr}{x1}{pos:Pos}(a en ir:Addr)(j:Int)(u7:en≠ir) :
 jHy P w K (.Tuple sA x1 pos) (Ite K a j) [en,ir] en (fun i h=>(∃ old,IsEnum h en ir (j+(i:Nat)) old)/\h.IsListIter ir a i) where
 mem:=by simp
 obj:=fun i h st b hb=>by
  obtain⟨⟨old,k⟩,o,e,c,d⟩:=st;rcases dZ.mp hb with z|z
  ·exact⟨_,by rw [z];exact k,fun v y=>by cases y⟩
  ·exact⟨o,by rw [mem_singleton.mp z];exact e,fun v y=>by rw [d] at y;cases y⟩
 keep:=fun i h h' st k=>by
  obtain⟨⟨old,q⟩,r⟩:=st;exact⟨⟨old,k en (by simp) _ q⟩,r.at fun o e=>k ir (by simp) o e⟩
 item:=by
  intro X hP hw hK hc i b9 s σ H E I hf st hg;subst hP hw hK;obtain⟨xs,x,hq,hx⟩:=hg;obtain⟨its,rv,p,hz⟩:=I.list hq;obtain⟨u,hu,ru⟩:=rv.get hx;obtain⟨f0,f1,f2,f3,f4,f5⟩:=hf en (by simp);obtain⟨g0,g1,g2,g3,g4,g5⟩:=hf ir (by simp);obtain⟨⟨old,k⟩,r⟩:=st;have hii:i<its.toArray.size:=by
   have:=(List.getElem?_eq_some_iff.mp hu).1;simpa using this
  have nal:a≠ir:=fun e=>by
   obtain⟨o1,e1,c1,_⟩:=r;obtain⟨o2,e2,c2,_⟩:=p.isList;rw [e] at e2;rw [e1] at e2;cases e2;rw [c1] at c2;exact absurd c2 (by intro z;injection z with z;exact absurd z (by decide))
  have nae:en ∉ [ir,a]:=fun m=>by
   rcases dZ.mp m with z|z
   ·exact u7 z
   ·obtain⟨o2,e2,c2,_⟩:=p.isList;rw [<- mem_singleton.mp z,k] at e2;cases e2;exact absurd c2 (by intro z;injection z with z;exact absurd z (by decide))
  have hh:X.A.in1.handled=none:=I.ok.hd hc;refine en_item (Draws.list hh ir a nal its.toArray) k ⟨r,p.isList⟩ hii u7 nae fun y hz2 tk py ko st2 tup kp=>?_;have ey:y=u:=by
   have e:its[i]?=some y:=by simpa using py
   rw [hu] at e;exact (Option.some.inj e).symm
  subst ey;exists _,rfl;refine wpAny_letOwnedTupleGo_enum ko fun h3 k3 b3=>?_;have s3:SameBut en hz2 h3:=b3;have lt1:en<s.heap.objs.size:=dR k;have lt2:ir<s.heap.objs.size:=by
   obtain⟨o,e,_⟩:=r;exact dR e
  have st3:h3.IsListIter ir a (i+1):=by
   obtain⟨o,e,q⟩:=st2.1;exact⟨o,(s3.2 ir (symm u7)).trans e,q⟩
  have k3':IsEnum h3 en ir (j+((i+1:Nat):Int)) y:=by
   have e:j+((i+1:Nat):Int)=j+(i:Nat)+1:=by omega
   rw [e];exact k3
  have tup3:h3.get? s.heap.objs.size=some { cls:=.type "tuple",data:=.seq #[.int (j+(i:Nat)) tk,y] }:=(s3.2 _ (gO lt1)).trans tup;have fr:H s.heap.objs.size=none:=I.hok.fresh (le_refl _);have I2:Inv X b9 σ (upd H s.heap.objs.size (.tup [.int (j+(i:Nat)),x])) { s with heap:=h3,toks:=tk+1 }:=by
   refine I.step (g':=s.gens) (d':=s.drawn) (ch:=[en,ir]) (fun b hb=>?_) (fun b o _ _ hc e _=>?_) (fun b o _ _ hc e _=>?_) (fun b o _ e n=>?_) (fun b o hc e=>?_) (fun b xs e=>?_) (fun b o xs e=>?_) (fun b ps e=>⟨#[],?_⟩) (fun m hm=>?_) (fun b v e=>?_) I.bare
   ·rcases dZ.mp hb with z|z
    ·rw [z];exact⟨f3,f1,f4,f5⟩
    ·rw [mem_singleton.mp z];exact⟨g3,g1,g4,g5⟩
   ·exact (s3.2 b (fun z=>hc (by simp [z]))).trans (kp b o (fun z=>hc (by simp [z])) (fun z=>hc (by simp [z])) e)
   ·exact⟨o.slots,(s3.2 b (fun z=>hc (by simp [z]))).trans (kp b o (fun z=>hc (by simp [z])) (fun z=>hc (by simp [z])) e)⟩
   ·rw [dW (eA (dR e))];exact n
   ·by_cases hb:b=en\/b=ir
    ·rcases hb with z|z
     ·exact absurd (by simp [z]) hc
     ·exact absurd (by simp [z]) hc
    ·exact⟨o,(s3.2 b (fun z=>hb (.inl z))).trans (kp b o (fun z=>hb (.inl z)) (fun z=>hb (.inr z)) e)⟩
   ·rw [dW (eJ e fr)];exact e
   ·rw [dW (eJ e fr)];exact e
   ·rw [dW (eJ e fr),e];simp
   ·obtain⟨o,es,ep,ho,q⟩:=hm;exact⟨o,es,ep,(s3.2 _ (symm f1)).trans (kp _ o (symm f1) (symm g1) ho),q⟩
   ·by_cases hb:b=s.heap.objs.size
    ·subst hb;rw [d4] at e;cases e;exact⟨small (by show 2<=1000;decide),[.int (j+(i:Nat)) tk,y],.cons ⟨_,rfl⟩ (.cons ru .nil),_,tup3,rfl,_,rfl⟩
    ·rw [dW hb] at e;have nn:∀ c v,H c=some v->c≠en/\c≠ir:=fun c v q=>⟨(fun z=>by rw [z,f0] at q;cases q),(fun z=>by rw [z,g0] at q;cases q)⟩
     refine (I.hok b v e).stay (fun c v' hc q=>?_) (fun c q=>by rw [dW (eJ q fr)];exact q) (fun c xs q=>by rw [dW (eJ q fr)];exact q);have m:c≠en/\c≠ir:=by
      rcases hc with z|z
      ·rw [z];exact nn b v e
      ·exact nn c _ z
     exact (s3.2 c m.1).trans (kp c v' m.1 m.2 q)
  refine⟨.ref s.heap.objs.size,_,I2,rfl,⟨_,x,rfl,fr,rfl,fun ys hy=>by rw [I.list_inj hy hq];exact hx⟩,⟨⟨_,k3'⟩,st3⟩,fun b hb=>?_⟩;rw [dW (fun z=>?_)]
  ·exact (hf b hb).1
  ·rw [z] at hb;rcases dZ.mp hb with q|q
   ·exact gO lt1 q
   ·exact gO lt2 (mem_singleton.mp q)
 done:=by
  intro X hP hw hK hc i b9 s σ H E I hf st hg;subst hP hw hK;obtain⟨xs,hq,hx⟩:=hg;obtain⟨its,rv,p,hz⟩:=I.list hq;obtain⟨g0,g1,g2,g3,g4,g5⟩:=hf ir (by simp);obtain⟨⟨old,k⟩,r⟩:=st;have hl:=rv.length;have nal:a≠ir:=fun e=>by
   obtain⟨o1,e1,c1,_⟩:=r;obtain⟨o2,e2,c2,_⟩:=p.isList;rw [e] at e2;rw [e1] at e2;cases e2;rw [c1] at c2;exact absurd c2 (by intro z;injection z with z;exact absurd z (by decide))
  have hh:X.A.in1.handled=none:=I.ok.hd hc;have en_i:i=its.toArray.size:=by simp;omega
  subst en_i;refine wpAny_pyNext_enum_endD (Draws.list hh ir a nal its.toArray) k ⟨r,p.isList⟩ fun h' eb=>?_;exact⟨rfl,I.turned (t':=s.toks) (fun b o hb e=>eb b o hb e) g0 g1 g3 g4 g5⟩
 self:=fun A i s Q E st h=>by
  obtain⟨⟨old,k⟩,_⟩:=st;exact zD k h
section
variable {X:Cx}{sA:List Expr}{x1:Nat}{qL:Pos}
def iEnum(K:PySem.W.Frag)(tl:TA):TI:=fun σ H R=>tl σ H fun vs H1=>∃ a,vs=[.ref a]/\(∃ xs,SqL K H1 a xs)/\R (Ite K a 0) H1
theorem en_it{b9:List (Addr×Obj)}{σ:St}{H:Hp}{s:Shared}{R:It->Hp->Prop}{E:Value->Shared->Prop}{a:Addr}{j:Int}{h1:Heap}(I:Inv X b9 σ H s)(k:IsEnum h1 (s.heap.objs.size+1) s.heap.objs.size j .none)(st:h1.IsListIter s.heap.objs.size a 0)
 (kp:∀ b o,s.heap.get? b=some o->h1.get? b=some o) (q:R (Ite X.K a j) H):dC (dF X.prog X.w) X.A (y9 (.ref (s.heap.objs.size+1))) (PIE X b9 σ (.Tuple sA x1 qL) R) E { s with heap:=h1 }:=by
 refine zD k ?_;have I1:Inv X b9 σ H { s with heap:=h1 }:=I.kept (t':=s.toks) kp;refine⟨s.heap.objs.size+1,[s.heap.objs.size+1,s.heap.objs.size],_,_,H,rfl,I1,jOo a _ _ j (Nat.succ_ne_self _),⟨⟨.none,?_⟩,st⟩,fun b hb=>?_,q⟩
 ·have e:j+((0:Nat):Int)=j:=by omega
  rw [e];exact k
 ·rcases dZ.mp hb with z|z
  ·rw [z];exact I.fpOk (fL _) (I.hok.fresh (fL _))
  ·rw [mem_singleton.mp z];exact I.fpOk (le_refl _) (I.hok.fresh (le_refl _))
theorem pi_enum(hg:Gl X "enumerate")(hm:X.mg "enumerate"=none)(ha:PA X [a] tl)(hs:dG [a] X.env=[(false,eU a X.env)]:=by rfl) :
 PI X (.Tuple sA x1 qL) (.Call (.Name "enumerate" p) [a] [] pos) (iEnum X.K tl):=by
 intro b9 s σ H R I h;refine Call_ (jC3 I hg hm boot_enumerate (PyProof.Rows.callWith_type1 (thn (ha pos b9 s σ H _ I h) fun us s1 ⟨vs,H1,I1,r1,q1⟩=>?_) hs rfl));obtain⟨l,rfl,⟨xs,hq⟩,q⟩:=q1;obtain⟨u,rfl,ru⟩:=uU r1;cases ru;obtain⟨its,rv,pl,hz⟩:=I1.list hq;exact call_enumerate_list pl.isList fun h1 k st _ kp=>en_it I1 k st kp q
end
theorem jPh{K:PySem.W.Frag}{a:Addr}{j:Int}{xs:List V}{g:TG}{tb:TS}{D:tH}{σ:St}{H:Hp}(Pv:Nat->St->Hp->Prop)(h0:Pv 0 σ H)(hl:∀ i σ H,i<=xs.length->Pv i σ H->SqL K H a xs)
 (hs:∀ i x σ H p,xs[i]?=some x->Pv i σ H->H p=none->g (.ref p) σ (upd H p (.tup [.int (j+(i:Nat)),x])) fun σ2 H2=>tb { D with nx:=Pv (i+1),ct:=Pv (i+1),bk:=D.nx } σ2 H2) (hd:∀ σ H,Pv xs.length σ H->D.nx σ H) :
 ∃ W:Nat->Nat->St->Hp->Prop,(∃ m,W 0 m σ H)/\∀ i m σ H,W i m σ H ->
  ((Ite K a j).stop i H/\D.nx σ H)\/((Ite K a j).go i H/\∃ N:St->Hp->Prop,(∀ σ' H',N σ' H'->∃ m',m'<m/\W (i+1) m' σ' H')/\∀ x H',(Ite K a j).yld i H x H'->g x σ H' fun σ2 H2=>tb { D with nx:=N,ct:=N,bk:=D.nx } σ2 H2):=by
 exists fun i m σ H=>m=xs.length-i/\i<=xs.length/\Pv i σ H,⟨xs.length,by simp,d5 _,h0⟩
 rintro i m σ H ⟨rfl,hi,p⟩;have q:=hl i σ H hi p;by_cases kP:i<xs.length
 ·refine .inr ⟨⟨xs,xs[i],q,by simp [kP]⟩,Pv (i+1),fun σ' H' p'=>⟨xs.length-(i+1),by omega,rfl,kP,p'⟩,fun x H' y=>?_⟩;obtain⟨c,z,rfl,hc,rfl,y⟩:=y;exact hs i z σ H c (y xs q) p hc
 ·have e:i=xs.length:=by omega
  subst e;exact .inl ⟨⟨xs,q,rfl⟩,hd σ H p⟩
section
variable {X:Cx}{b9:List (Addr×Obj)}{σ:St}{H:Hp}{s:Shared}{d:Addr}{kvs:List (Key×V)}
theorem Inv.freeze(I:Inv X b9 σ H s)(h:H d=some (.dK kvs)):∃ o,s.heap.get? d=some o/\Inv X b9 σ (upd H d (.frz o (.dK kvs))) s:=by
 obtain⟨z,hd,vs,r,o,es,ep,e,c⟩:=I.hok d _ h;have mu:Mut (H d):=by rw [h];trivial
 refine⟨o,e,I.un (h':=s.heap) (t':=s.toks) (Un.write mu (.inl rfl) (fun _ _ _ q=>q) ⟨o,e⟩) (I.hok.write mu (.inl rfl) (fun _ _ _ q=>q) ⟨o,e⟩ ⟨e,z,hd,vs,r,o,es,ep,e,c⟩)⟩
theorem Inv.thaw(I:Inv X b9 σ H s)(h:H d=some (.frz o (.dK kvs)))(h0:∀ o u,X.H₀ d≠some (.frz o u)):Inv X b9 σ (upd H d (.dK kvs)) s:=by
 have nn:∀ b,H b=none->b≠d:=fun b q z=>by rw [z,h] at q;cases q
 refine⟨I.ok,I.os,I.bare,⟨I.base.keep,I.base.slot,fun b o' e n hx=>?_,I.base.there,fun b xs e=>?_,fun b o' u e=>?_,fun b ps e=>?_⟩,I.loc,I.cell,?_,fun x c e=>?_,fun p hp=>?_,fun b u e=>?_,I.len⟩
 ·have q:=I.base.free b o' e n hx;rw [dW (nn b q)];exact q
 ·have q:=I.base.tups b xs e;rw [dW (eW q h (by intro z;cases z))];exact q
 ·have q:=I.base.frzs b o' u e;rw [dW (fun z=>h0 o' u (by rw [<- z];exact e))];exact q
 ·obtain⟨more,q⟩:=I.base.tbls b ps e;exists more;rw [dW (eW q h (by intro z;cases z))];exact q
 ·rw [dW (nn _ I.free)];exact I.free
 ·rw [dW (nn _ (I.freeC x c e))];exact I.freeC x c e
 ·obtain⟨a,b,c⟩:=I.pin p hp;exact⟨a,by rw [dW (nn _ b)];exact b,c⟩
 ·by_cases hb:b=d
  ·subst hb;rw [d4] at e;cases e;obtain⟨q,ok⟩:=I.hok b _ h;exact ok
  ·rw [dW hb] at e;exact (I.hok b u e).stay (fun _ _ _ q=>q) (fun c q=>by rw [dW (eW q h (by intro z;cases z))];exact q) (fun c xs q=>by rw [dW (eW q h (by intro z;cases z))];exact q)
theorem Inv.unfrozen(I:Inv X b9 σ H s)(h:H d=some (.dK kvs)):∀ o u,X.H₀ d≠some (.frz o u):=fun o u e=>by
 have q:=I.base.frzs d o u e;rw [h] at q;cases q
def tFrz(t:TE):TE:=fun σ H Q=>∃ (d:Addr) (kvs:List (Key×V)),H d=some (.dK kvs)/\∀ o,t σ (upd H d (.frz o (.dK kvs))) fun v H'=>H' d=some (.frz o (.dK kvs))/\Q v (upd H' d (.dK kvs))
theorem pe_frz(h:PE X e t):PE X e (tFrz t):=by
 intro b9 s σ H Q I hw;obtain⟨d,kvs,hd,q⟩:=hw;obtain⟨o,eo,I1⟩:=I.freeze hd;refine thn (h b9 s σ _ _ I1 (q o)) fun v s1 ⟨x,H1,I2,r,hz,q2⟩=>?_;exact⟨x,_,I2.thaw hz (I.unfrozen hd),r,q2⟩
def sFrz(t:TS):TS:=fun D σ H=>∃ (d:Addr) (kvs:List (Key×V)),H d=some (.dK kvs)/\∀ o,t { nx:=fun σ' H'=>H' d=some (.frz o (.dK kvs))/\D.nx σ' (upd H' d (.dK kvs)),rt:=fun v H'=>H' d=some (.frz o (.dK kvs))/\D.rt v (upd H' d (.dK kvs)),bk:=fun σ' H'=>H' d=some (.frz o (.dK kvs))/\D.bk σ' (upd H' d (.dK kvs)),ct:=fun σ' H'=>H' d=some (.frz o (.dK kvs))/\D.ct σ' (upd H' d (.dK kvs)) } σ (upd H d (.frz o (.dK kvs)))
theorem ps_frz{st:Stmt}{t:TS}(h:PS X st t):PS X st (sFrz t):=by
 intro b9 s σ H D I hw;obtain⟨d,kvs,hd,q⟩:=hw;obtain⟨o,eo,I1⟩:=I.freeze hd;refine thn (h b9 s σ _ _ I1 (q o)) fun f s1 q1=>?_;have un:=I.unfrozen hd;cases f with
 | next=>obtain⟨σ',H',I2,hz,q2⟩:=q1;exact⟨σ',_,I2.thaw hz un,q2⟩
 | brk=>obtain⟨σ',H',I2,hz,q2⟩:=q1;exact⟨σ',_,I2.thaw hz un,q2⟩
 | cont=>obtain⟨σ',H',I2,hz,q2⟩:=q1;exact⟨σ',_,I2.thaw hz un,q2⟩
 | ret u=>obtain⟨v,σ',H',I2,r,hz,q2⟩:=q1;exact⟨v,σ',_,I2.thaw hz un,r,q2⟩
end
def Itd(d:Addr)(o:Obj)(kvs:List (Key×V)):It :=
 ⟨fun i H=>H d=some (.frz o (.dK kvs))/\i<kvs.length,fun i H x H'=>H'=H/\∃ k v,kvs[i]?=some (k,v)/\x=kV k,fun i H=>H d=some (.frz o (.dK kvs))/\kvs.length=i⟩
theorem jJ5(h:jGN k v=true):gN (kV k) v:=by
 rcases jBw h with⟨i,t,rfl,rfl⟩|⟨x,t,rfl,rfl⟩
 ·exact⟨t,rfl⟩
 ·exact⟨t,rfl⟩
theorem jOp{P:Program}{w:World}{K:PySem.W.Frag}{tg:Expr}(d it:Addr)(o:Obj)(kvs:List (Key×V)){vs:List (Key×Value)}{es:Array DictEntry}{ep:Nat}(rk:KV kvs vs)(hd:o.ExactDict)(he:o.data=.dict es ep)(hk:KeysOf (oB P w) es)(hp:Pairs (oB P w) es.toList vs)(nd:(vs.map (·.1)).Nodup) :
 jHy P w K tg (Itd d o kvs) [it] it (fun i h=>h.IsKeyIter it d i vs.length ep) where
 mem:=by simp
 obj:=fun i h st b hb=>by
  have e:b=it:=by simpa using hb
  subst e;obtain⟨o,e,c,d⟩:=st;exact⟨o,e,fun v z=>by rw [d] at z;cases z⟩
 keep:=fun i h h' st k=>st.at fun o e=>k it (by simp) o e
 item:=by
  intro X hP hw hK hc i b9 s σ H E I hf st hg;subst hP hw hK;obtain⟨hz,hi⟩:=hg;obtain⟨eo,_⟩:=I.hok d _ hz;obtain⟨f0,f1,f2,f3,f4,f5⟩:=hf it (by simp);have hl:=KV.length rk;have hi2:i<vs.length:=by omega
  have ev:vs[i]?=some (vs[i].1,vs[i].2):=getElem?_eq_getElem hi2;have ks:kvs[i]?=some (kvs[i].1,kvs[i].2):=getElem?_eq_getElem hi;have keq:kvs[i].1=vs[i].1:=by
   have q:=KV.keys rk;have q1:(kvs.map (·.1))[i]?=(vs.map (·.1))[i]?:=by rw [q]
   rw [getElem?_map,getElem?_map,ks,ev] at q1;exact Option.some.inj q1
  refine wpAny_pyNext_dict_item st ⟨o,es,eo,hd,he,hk,hp,nd⟩ ev fun lW h' tR uI sb=>?_;have I1:Inv X b9 σ H { s with heap:=h' }:=I.turned (t':=s.toks) (fun b o hb e=>(sb.2 b hb).trans e) f0 f1 f3 f4 f5;obtain⟨o2,e2,c2,d2⟩:=id uI;refine⟨lW,rfl,jLs (s:={ s with heap:=h' }) e2 c2 d2 (by decide) ⟨kV kvs[i].1,H,I1,?_,⟨rfl,_,_,ks,rfl⟩,uI,fun b hb=>(hf b hb).1⟩⟩;rw [keq];exact jJ5 tR
 done:=by
  intro X hP hw hK hc i b9 s σ H E I hf st hg;subst hP hw hK;obtain⟨hz,hi⟩:=hg;obtain⟨eo,_⟩:=I.hok d _ hz;obtain⟨f0,f1,f2,f3,f4,f5⟩:=hf it (by simp);have hl:=KV.length rk;have hin:vs[i]?=none:=getElem?_eq_none (by omega);exact wpAny_pyNext_dict_end (I.ok.hd hc) st ⟨o,es,eo,hd,he,hk,hp,nd⟩ hin fun h' eb=>⟨rfl,I.turned (t':=s.toks) (fun b o hb e=>eb b o hb e) f0 f1 f3 f4 f5⟩
 self:=fun _ _ _ _ _ st h=>wpAny_pyIter_keyiter st h
section
variable {X:Cx}{tg:Expr}
def iDict(tl:TE):TI:=fun σ H R=>tl σ H fun x H1=>∃ d o kvs,x=.ref d/\H1 d=some (.frz o (.dK kvs))/\R (Itd d o kvs) H1
theorem pi_dict{l:Expr}{tl:TE}(hl:PE X l tl):PI X tg l (iDict tl):=by
 intro b9 s σ H R I h;refine thn (hl b9 s σ H _ I h) fun v s1 ⟨x,H1,I1,r1,q1⟩=>?_;obtain⟨d,o,kvs,rfl,hz,q⟩:=q1;cases r1;obtain⟨eo,z,hd,vs,rk,o',es,ep,e',xd,dt,ko,pr,nd⟩:=I1.hok d _ hz;rw [eo] at e';cases e';refine wpAny_pyIter_dict hd ⟨o,es,eo,xd,dt,ko,pr,nd⟩ ?_;refine⟨s1.heap.objs.size,[s1.heap.objs.size],_,_,H1,rfl,I1.kept (t':=s1.toks) fun b o e=>get?_push_of_some _ e,jOp d _ o kvs rk xd dt ko pr nd,⟨_,get?_push_size _ rfl,rfl,rfl⟩,fun b hb=>?_,q⟩;have e:b=s1.heap.objs.size:=by simpa using hb
 subst e;exact I1.fpOk (le_refl _) (I1.hok.fresh (le_refl _))
theorem jPi(h:H1 d=some (.frz o (.dK kvs))):Seq (Itd d o kvs) H1 (kvs.map fun p=>kV p.1) where
 go:=fun i H e hi=>⟨e _ _ h,by rw [c6] at hi;exact hi⟩
 yld:=fun i H x H' e _ y=>by
  obtain⟨a,k,v,b,c⟩:=y;exists a;rw [getElem?_map,b,c];rfl
 stop:=fun H e=>⟨e _ _ h,by rw [c6]⟩
structure Dfn(P:Program)(w:World)(K:PySem.W.Frag)(mg:Str->Option Value)(base:Heap)(k:Nat)(x:Str)(ps:List Str)(sp:Sp):Prop where
 ex:∃ f fd,fJ P w K mg base CX0 k f fd ps sp/\oY K fd ps []/\i8 K (.ref f)=true/\mg x=some (.ref f)
theorem lX(D:Dfn X.prog X.w X.K X.mg X.base k x ps sp)(hr:kJ k X.A)(hg:Gl X x)(ha:PA X (e::es) t)(oO:(x==("__debug__":Str))=false:=by decide) 
 (he:dG (e::es) X.env=(false,eU e X.env)::dG es X.env:=by rfl) (j4:(fZ pos (dG es X.env)).any (·.1)=false:=by rfl):PE X (.Call (.Name x p) (e::es) [] pos) (tCall sp [] E0 t):=by
 obtain⟨f,fd,F,b,kp,m⟩:=D.ex;exact pe_call F hr hg m kp b .nil jI5 ha oO he j4
structure GS(mg:Str->Option Value)(x:Str)(z:Str):Prop where
 ex:∃ t,mg x=some (.str z t)
structure GI(mg:Str->Option Value)(x:Str)(z:Int):Prop where
 ex:∃ t,mg x=some (.int z t)
theorem uT(G:GS X.mg x z)(hg:Gl X x)(hd:(x==("__debug__":Str))=false:=by decide):PE X (.Name x pos) (tC (.str z)):=by
 obtain⟨t,e⟩:=G.ex;exact jNg hg e (rel_str _ _) hd
theorem jEt(G:GI X.mg x z)(hg:Gl X x)(hd:(x==("__debug__":Str))=false:=by decide):PE X (.Name x pos) (tC (.int z)):=by
 obtain⟨t,e⟩:=G.ex;exact jNg hg e (rel_int _ _) hd
end
section
variable {X:Cx}
structure MkD(P:Program)(w:World)(K:PySem.W.Frag)(mg:Str->Option Value)(base:Heap)(k:Nat)(x:Str)(C:Addr)(ps:List Str)(sp:Sp):Prop where
 ex:∃ f fd,Mk K C f/\fJ P w K mg base CX0 k f fd ps sp/\oY K fd ps []/\mg x=some (.ref C)
theorem jCI(D:MkD X.prog X.w X.K X.mg X.base k x C ps sp)(hr:kJ (k+1) X.A)(hg:Gl X x)(ha:PA X (e::es) t)(oO:(x==("__debug__":Str))=false:=by decide) 
 (he:dG (e::es) X.env=(false,eU e X.env)::dG es X.env:=by rfl) (j4:(fZ pos (dG es X.env)).any (·.1)=false:=by rfl):PE X (.Call (.Name x p) (e::es) [] pos) (jLt C sp [] E0 t):=by
 obtain⟨f,fd,M,F,b,m⟩:=D.ex;exact pe_make M F hr hg m b .nil jI5 ha oO he j4
theorem jOq{K:PySem.W.Frag}{a:Expr}{ta:TE}(hK:X.K=K)(ha:PE X a ta)(he:∀ nA,yD a X.env nA=(do let v <- nA;lK a.pos;j6 [v] (truthy v))):PT X a (fun σ H Q=>ta σ H fun x H'=>∃ k,TruV K x H' k/\Q k H'):=by
 subst hK;exact mU ha he
theorem jEB{K:PySem.W.Frag}{a b:Expr}{ta tb:TE}{pos:Pos}{r:PySem.W.Frag->R2}(hK:X.K=K)(hr:IxR X (r X.K))(ha:PE X a ta)(hb:PE X b tb)(hs:jJZ b):PE X (.Subscript a b pos) (tOp (r K) ta tb):=by
 subst hK;exact pe_ix hr ha hb hs
theorem pe_fldK{K:PySem.W.Frag}{e:Expr}{ta:TE}{f:Str}{pos:Pos}(hK:X.K=K)(he:PE X e ta)(hb:jO e f X.env (eU e X.env)=eU e X.env):PE X (.Attribute e f pos) (tFld K ta f):=by
 subst hK;exact hV he hb
end
end L2
namespace PySem.W
open PySem PySem.Spec PySem.Calls PyProof.Rows Builtin Builtin.ObjectAttr Builtin.Getset_descriptor
abbrev jE3:List Value:=[.type "ValueError",.type "Exception",.type "BaseException",.type "object"]
def excMk(K:Frag)(C:Addr):Bool:=match K.lookup C with
 | some ⟨.type "type",_,.cls cd,sls⟩=>(match cd.mro,sls.toList with
   | .ref C'::sE,[_,_,_,_,some (.builtin n),_]=>C'==C&&n == "ValueError.__new__" && !cd.hasDel&&tailIn K jE3 sE
   | _,_=>false)
 | _=>false
def ExcAt(h:Heap)(C:Addr)(sE:List Value):Prop:=∃ N nm q bs u9 sn sub ab col dd q0 q1 q2 q3 q5,h.get? C=some (excClassObj nm q C N bs sE u9 sn sub ab col dd q0 q1 q2 q3 q5 "ValueError.__new__")
theorem jHH{K:Frag}{h:Heap}{C:Addr}(X:K.In h)(q:excMk K C=true):∃ sE,ExcAt h C sE/\OwnTail h jE3 sE:=by
 unfold excMk at q;split at q
 ·rename_i dd cd sls ho
  split at q
  ·rename_i C' sE q0 q1 q2 q3 n q5 hmm hss
   simp only [beq_iff_eq,fA,kT] at q;obtain⟨⟨⟨rfl,rfl⟩,hdel⟩,ht⟩:=q;obtain⟨nm,bs,mro,ns,qun,hd,sn,sub,ab,col,del⟩:=cd;dsimp only at hmm hdel;subst hmm hdel;have hsl:sls=#[q0,q1,q2,q3,some (.builtin "ValueError.__new__"),q5]:=by
    obtain⟨l⟩:=sls;simp only at hss;rw [hss]
   subst hsl;exact⟨sE,⟨ns,nm,qun,bs,hd,sn,sub,ab,col,dd,q0,q1,q2,q3,q5,X _ _ ho⟩,tail_of_in X ht⟩
  ·cases q
 ·cases q
abbrev excTup(us:List Value):Obj:={ cls:=.type "tuple",data:=.seq us.toArray }
abbrev excNew(C t0:Addr):Obj:={ cls:=.ref C,data:=.fields #[.ref t0,.none,.none,.none,.bool false,.none] }
section
variable {prog:Program}{w:World}{A:Around}{K:Frag}{C f:Addr}{R:Result->Shared->Prop}{h:Heap}{g:Array GenState}{d:Drawn}{t:Nat}{os:OsState}
theorem make_X(X:K.In h)(e:excMk K C=true)(hi:findIn K (.ref C) "__init__"=some (some (.ref f)))(hf:typeIn K (.ref f)=some (.type "function"))(hrest:us.length<=c9) 
 (hq:iJ (dF prog w) (A.under (.builtin "type.__call__" ⟨.ref C::us,[]⟩)) (.call (.ref f) ⟨.ref (h.objs.size+1)::us,[]⟩) (InitBack (h.objs.size+1) R) ⟨(h.push (excTup us)).push (excNew C h.objs.size),g,d,t,os⟩) :
 iJ (dF prog w) A (.call (.ref C) ⟨us,[]⟩) R ⟨h,g,d,t,os⟩:=by
 obtain⟨sE,⟨N,nm,q,bs,u9,sn,sub,ab,col,dd,q0,q1,q2,q3,q5,hCl⟩,T⟩:=jHH X e;have FB:=PySem.F.excBase_ValueError;have f1:=tc_lookup;have f2:=tc_bind (.ref C);have hTy:(⟨h,g,d,t,os⟩:Shared).TypeIs (.ref C) "type":=⟨_,hCl,rfl⟩
 refine codeAny_of_tree ?_;show dC (dF prog w) A.in1 (callAny (.ref C) _) _ _ _
 repeat (any_goals (first|assumption|with_reducible refine iQ hCl ?_|wp_step))
 exists rfl;refine codeAny_call_builtin_at (Code.quiet_builtin _ (by decide +kernel)) entry_typeCall (wpAny_check_type_call_sub hCl ?_)
 repeat (first|with_reducible refine iQ hCl ?_|with_reducible refine wpAny_madeBy_exc hCl ?_|wp_step)
 refine codeAny_call_builtin_code (Code.quiet_builtin _ FB.quiet) (wpAny_check_new_subT FB T hCl ?_);refine codeAny_exc_new_subT FB T hCl ?_ hrest;show dC _ _ _ _ _ _;have k:∀ b o,h.get? b=some o->((h.push (excTup us)).push (excNew C h.objs.size)).get? b=some o:=fun b o e=>get?_push_of_some _ (get?_push_of_some _ e);have hx:((h.push (excTup us)).push (excNew C h.objs.size)).get? (h.objs.size+1)=some (excNew C h.objs.size):=by heap_get
 have t1:Looks (dF prog w) ((h.push (excTup us)).push (excNew C h.objs.size)) (typeOf (.ref (h.objs.size+1))) (.ref C):=(Looks.ld hx).andThen .now;have hcc:(Value.ref C::sE).contains (.ref C)=true:=by simp
 have s0:Looks (dF prog w) h (isSubtype (.ref C) (.ref C)) true:=by
  intro A Q E s kk qq;obtain⟨h1,g1,d1,tk1,os1⟩:=s;exact lI (kk _ _ hCl) (by rw [hcc];exact qq)
 have s1:=s0.keeps k;have i1:=(looks_findIn (M:=dF prog w) X hi).keeps k;have b1:=(bind_fn (M:=dF prog w) X (.ref (h.objs.size+1)) hf).keeps k;have hC₁:=k _ _ hCl;unfold isInstance;refine c5 (c5 (t1.here (s1.here ?_)));simp only [mE,Bool.not_true,if_false];refine c5 (fW ?_);unfold callSpecial? specialOf;refine c5 (c5 (t1.here ?_));refine i1.here ?_;refine fW (c5 (b1.here ?_));refine c5 (lU ?_);refine h8 hq fun r s' zz=>?_;rcases r with e|(v|_|_|_)<;>first|exact zz|exact zz.elim|skip
 obtain⟨rfl,zz⟩:=zz;exact dE (dE zz)
end
end PySem.W
namespace PySem.W
open PySem PySem.Spec PySem.Calls PyProof.Rows Builtin Builtin.ObjectAttr Builtin.Getset_descriptor
def jHI:List Value->Bool
 | .ref _::r=>jHI r
 | .type n::r=>(.type n::r)==jE3
 | _=>false
theorem jKW(self:Value):∀ {l:List Value},jHI l=true->refuseLoop self "__setattr__" l=pure ()
 | .ref c::r,e=>by rw [refuseLoop_ref];exact jKW self (show jHI r=true from e)
 | .type n::r,e=>by rw [show type n::r=jE3 from beq_iff_eq.mp e];exact PySem.F.store_ValueError.passes self
theorem jOr(hbb:jE3.contains (.type b)=true):∀ {l:List Value},jHI l=true->l.contains (.type b)=true
 | .ref c::r,e=>by rw [mF,jOr hbb (l:=r) e,Bool.or_true]
 | .type n::r,e=>by rw [show type n::r=jE3 from beq_iff_eq.mp e];exact hbb
def excOver(K:Frag)(C:Addr):Bool:=(clsIn K C).any fun cdt=>jHI cdt.mro
section
variable {prog:Program}{w:World}{A:Around}{K:Frag}{C x:Addr}{s:Shared}{R:Result->Shared->Prop}
theorem osa_X(X:K.In s.heap)(I:InstAt s.heap x ox C od)(hp:excOver K C=true)(ht:takerIn K C nm=some r) 
 (go:∀ b,dC (dF prog w) A.in1 (match r with|some a=>setByDescriptor a (.ref x) v|none=>storeInOwnDict (.ref x) (.ref C) (.str nm tk) nm v b)
  (fun fi s'=>match fi with|.done f=>R (.ok f) s'|.again c'=>c'.quiet=true/\iJ (dF prog w) A c' R s') (fun e s'=>R (.error e) s') s) :
 iJ (dF prog w) A (.call (.builtin "object.__setattr__") ⟨[.ref x,.str nm tk,v],[]⟩) R s:=by
 have SFo:=PySem.F.store_object;obtain⟨cdt,nY,hov⟩:=any_some hp;have nem:cdt.mro.isEmpty=false:=by cases q:cdt.mro with|nil=>rw [q] at hov;cases hov|cons _ _=>rfl
 have sub:Looks (dF prog w) s.heap (isInstance (.ref x) (.type "object")) true:=I.type.andThen (looks_mroIn X (by unfold mroIn;rw [nY,Option.bind_some,if_neg (by rw [nem];decide),jOr (by decide +kernel) hov]));refine yN SFo.slot.plain SFo.entry (@check_slot (dF prog w) _ _ s "object.__setattr__" "object" "__setattr__" (.ref x) [.str nm tk,v] [] _ SFo.kind SFo.split sub (SFo.args (.ref x) (.str nm tk) v) ?_);obtain⟨atr,ha,hrr⟩:=Option.bind_eq_some_iff.mp ht;have hmr:Looks (dF prog w) s.heap (mroOf (.ref C)) cdt.mro:=(looks_clsIn X nY).andThen .now;have l3:Looks (dF prog w) s.heap (storeTaker? atr) r:=by
  cases atr with
  | none=>cases hrr;exact .now
  | some a =>
    obtain⟨b,hbb,rfl⟩:=dY.mp hrr;refine (looks_takesIn X hbb).andThen ?_;cases b<;>exact .now
 rw [osa_eq,refuse_eq];refine c5 (c5 (I.type.here (c5 (hmr.here ?_))));rw [jKW _ hov];refine dE (c5 (I.type.here (c5 ((looks_findIn X ha).here (c5 (l3.here ?_))))));exact go _
variable {E:Value->Shared->Prop}{vs:Array Value}{sl:Array (Option Value)}{nm:Str}{v:Value}
theorem setX_new(X:K.In s.heap)(hx:s.heap.get? x=some ⟨.ref C,none,.fields vs,sl⟩)(hs:findIn K (.ref C) "__setattr__"=some (some (.builtin "object.__setattr__"))) 
 (hp:excOver K C=true) (ht:takerIn K C nm=some none) (hh:hasDictIn K C=true)
 (h:∀ h',h'.get? x=some ⟨.ref C,some s.heap.objs.size,.fields vs,sl⟩->h'.Ns1 s.heap.objs.size (fun y=>if y=nm then some v else none)->(∀ b o,b≠x->s.heap.get? b=some o->h'.get? b=some o) ->
  Q () { s with heap:=h',toks:=s.toks+2 }):dC (dF prog w) A (tV (.ref x) nm v) Q E s:=by
 have J:InstAt s.heap x ⟨.ref C,none,.fields vs,sl⟩ C none:=⟨hx,rfl,rfl,True.intro⟩
 refine set_plain X J hs (osa_X (s:={ s with toks:=s.toks+1 }) (r:=none) X J hp ht fun b=>?_);obtain⟨cdt,nY,hdc⟩:=any_some hh;refine c5 (dE (c5 (c5 (uG hx (c5 (Looks.here (s:={ s with toks:=s.toks+1 }) (looks_clsIn X nY) ?_))))));rw [hdc];have hxz:x≠s.heap.objs.size:=eA (dR hx);have pO:(s.heap.push { cls:=.type "dict",data:=.dict #[] }).get? x=some ⟨.ref C,none,.fields vs,sl⟩:=get?_push_of_some _ hx;refine c5 (wpAny_alloc (c5 (wpAny_update pO ?_)));refine dE (a:=some s.heap.objs.size) ?_;have hx2:((s.heap.push { cls:=.type "dict",data:=.dict #[] }).update x fun o=>{ cls:=o.cls,dict:=some s.heap.objs.size,data:=o.data,slots:=o.slots }).get? x=some ⟨.ref C,some s.heap.objs.size,.fields vs,sl⟩:=by
  rw [get?_update_self _ pO rfl]
 have hgx:((s.heap.push { cls:=.type "dict",data:=.dict #[] }).update x fun o=>{ cls:=o.cls,dict:=some s.heap.objs.size,data:=o.data,slots:=o.slots }).get? s.heap.objs.size=some { cls:=.type "dict",data:=.dict #[] } :=
  (get?_update_ne _ _ _ _ hxz.symm).trans (Heap.get?_push_at rfl rfl)
 have hnd:((s.heap.push { cls:=.type "dict",data:=.dict #[] }).update x fun o=>{ cls:=o.cls,dict:=some s.heap.objs.size,data:=o.data,slots:=o.slots }).Ns s.heap.objs.size (fun _=>none) :=
  ⟨_,#[],_,hgx,rfl,fun e he=>absurd he (by simp),fun _=>rfl⟩
 refine c5 (dE (c5 (yB (Ns1.of_empty hnd) fun h' hn' tN=>?_)));obtain⟨oD,esD,epD,hoE,hdE,hcE⟩:=hn'.count (Within.cons nm v Within.nil);refine c5 (rG hoE (by rw [hdE];exact rM (le_trans hcE (by rw [eY,lJ,fC];omega))) ?_);refine dE (h h' ((tN.2 x hxz).trans hx2) hn' fun b o hbb q=>?_);exact (tN.2 b (eA (dR q))).trans ((get?_update_ne _ _ _ _ hbb).trans (get?_push_of_some _ q))
theorem setX_old(X:K.In s.heap)(hx:s.heap.get? x=some ⟨.ref C,some dxa,.fields vs,sl⟩)(hn:s.heap.Ns1 dxa mA)(u7:dxa≠x) 
 (hs:findIn K (.ref C) "__setattr__"=some (some (.builtin "object.__setattr__"))) (hp:excOver K C=true) (ht:takerIn K C nm=some none) (hh:hasDictIn K C=true) (hw:Within mA ns) (hsz:ns.length<c9)
 (h:∀ h',h'.Ns1 dxa (fun y=>if y=nm then some v else mA y)->(∀ b o,b≠dxa->s.heap.get? b=some o->h'.get? b=some o) ->
  Q () { s with heap:=h',toks:=s.toks+2 }):dC (dF prog w) A (tV (.ref x) nm v) Q E s:=by
 obtain⟨od,hov,hl⟩:=L2.lookIn_ns hn;have J:InstAt s.heap x ⟨.ref C,some dxa,.fields vs,sl⟩ C (some od):=⟨hx,rfl,rfl,hov⟩
 refine set_plain X J hs (osa_X (s:={ s with toks:=s.toks+1 }) (r:=none) X J hp ht fun b=>?_);obtain⟨cdt,nY,hdc⟩:=any_some hh;refine c5 (dE (c5 (c5 (uG hx (c5 (Looks.here (s:={ s with toks:=s.toks+1 }) (looks_clsIn X nY) ?_))))));rw [hdc];refine dE (a:=some dxa) (c5 (dE (c5 ?_)));refine yB (s:={ s with toks:=s.toks+1 }) hn fun h' hn' tN=>?_;obtain⟨oD,esD,epD,hoE,hdE,hcE⟩:=hn'.count (Within.cons nm v hw);refine c5 (rG hoE (by rw [hdE];exact rM (le_trans hcE (by rw [eY];omega))) ?_);exact dE (h h' hn' fun b o hbb q=>(tN.2 b hbb).trans q)
end
end PySem.W
namespace PySem.W
open PySem PySem.Spec PySem.Calls PyProof.Rows Builtin Builtin.ObjectAttr Builtin.Getset_descriptor
section
variable {prog:Program}{w:World}{A:Around}{K:Frag}{C x:Addr}{s:Shared}{E:Value->Shared->Prop}{ox:Obj}{od:Option Obj}{nm:Str}{v:Value}{Q:Value->Shared->Prop}{expr:Bool}
end
end PySem.W
namespace L2
open PySem PyProof.Rows PySem.Spec PySem.Calls
def XO(e C:Addr)(d:Option Addr):HO:=.ext fun h=>∃ t0,h.get? e=some ⟨.ref C,d,.fields #[.ref t0,.none,.none,.none,.bool false,.none],#[]⟩
def XC(e C:Addr)(d:Option Addr):HO:=.ext fun h=>∃ vs sl,h.get? e=some ⟨.ref C,d,.fields vs,sl⟩/\vs[2]?=some .none
def XD(a:Addr)(fs:List (Str×V)):HO:=.ext fun h=>fs.length<=1000/\∃ mA,h.Ns1 a mA/\(∀ f,pM (fs.lookup f) (mA f))/\PySem.Within mA (fs.map (·.1))
def IsX(H:Hp)(e C:Addr)(d:Option Addr):Prop:=H e=some (XO e C d)\/H e=some (XC e C d)
section
variable {P:Program}{w:World}{H:Hp}{h:Heap}{e C a:Addr}{d:Option Addr}{fs:List (Str×V)}
theorem xo_ok(q:h.get? e=some ⟨.ref C,d,.fields #[.ref t0,.none,.none,.none,.bool false,.none],#[]⟩):lO P w H h e (XO e C d) :=
 ⟨⟨t0,q⟩,⟨_,q⟩,fun _ _ ⟨t,z⟩ k=>⟨t,k _ z⟩⟩
theorem xc_ok(q:h.get? e=some ⟨.ref C,d,.fields vs,sl⟩)(c:vs[2]?=some .none):lO P w H h e (XC e C d) :=
 ⟨⟨vs,sl,q,c⟩,⟨_,q⟩,fun _ _ ⟨v,s,z,c⟩ k=>⟨v,s,k _ z,c⟩⟩
theorem xd_ok(l:fs.length<=1000)(n:h.Ns1 a mA)(r:∀ f,pM (fs.lookup f) (mA f))(wi:PySem.Within mA (fs.map (·.1))):lO P w H h a (XD a fs) :=
 ⟨⟨l,mA,n,r,wi⟩,let ⟨o,_,_,q,_⟩:=n;⟨o,q⟩,fun _ _ ⟨l,m,n,r,z⟩ k=>⟨l,m,n.at k,r,z⟩⟩
theorem jHJ(hok:HOk P w H h)(q:H e=some (XO e C d)):∃ t0,h.get? e=some ⟨.ref C,d,.fields #[.ref t0,.none,.none,.none,.bool false,.none],#[]⟩ :=
 (show lO P w H h e (XO e C d) from hok e _ q).1
theorem jOs(hok:HOk P w H h)(q:IsX H e C d):∃ vs sl,h.get? e=some ⟨.ref C,d,.fields vs,sl⟩/\vs[2]?=some .none:=by
 rcases q with q|q
 ·obtain⟨t,z⟩:=jHJ hok q;exact⟨_,_,z,rfl⟩
 ·exact (show lO P w H h e (XC e C d) from hok e _ q).1
theorem x_get(hok:HOk P w H h)(q:IsX H e C d):∃ vs sl,h.get? e=some ⟨.ref C,d,.fields vs,sl⟩:=let ⟨vs,sl,z,_⟩:=jOs hok q;⟨vs,sl,z⟩
theorem xd_get(hok:HOk P w H h)(q:H a=some (XD a fs)):fs.length<=1000/\∃ mA,h.Ns1 a mA/\(∀ f,pM (fs.lookup f) (mA f))/\PySem.Within mA (fs.map (·.1)) :=
 (show lO P w H h a (XD a fs) from hok a _ q).1
end
structure ClsX(K:PySem.W.Frag)(C:Addr):Prop where
 hd:PySem.W.hasDictIn K C=true
 po:PySem.W.excOver K C=true
 sa:PySem.W.findIn K (.ref C) "__setattr__"=some (some (.builtin "object.__setattr__"))
 ga:PySem.W.findIn K (.ref C) "__getattribute__"=some (some (.builtin "BaseException.__getattribute__"))
 gn:PySem.W.findIn K (.ref C) "__getattr__"=some none
section
variable {X:Cx}{b9:List (Addr×Obj)}{σ:St}{H:Hp}{s:Shared}{a C dx:Addr}{d:Option Addr}{fs:List (Str×V)}{f:Str}{v y:V}{u:Value}{A:Around}{E:Value->Shared->Prop}
theorem jPj(I:Inv X b9 σ H s)(e:H a=some (XO a C none))(c:ClsX X.K C)(n:jB X.K C f)(ry:gN y u) 
 (h:∀ dx s',H dx=none->dx≠a->Inv X b9 σ (upd (upd H dx (XD dx [(f,y)])) a (XO a C (some dx))) s'->Q () s'):dC (dF X.prog X.w) A (tV (.ref a) f u) Q E s:=by
 obtain⟨t0,hx⟩:=jHJ I.hok e;refine PySem.W.setX_new I.kIn hx c.sa c.po n.taker c.hd fun h' h1 h2 h3=>?_;have hf:=I.hok.fresh (le_refl s.heap.objs.size);have u7:s.heap.objs.size≠a:=fun z=>by rw [z,e] at hf;cases hf
 obtain⟨od,es,ep,q1,q2,q3⟩:=id h2;have hfr:od.isFreed=false:=(Heap.get?_some_iff.mp q1).2;have g1:(s.heap.push od).get? s.heap.objs.size=some od:=get?_push_size s.heap hfr;have I1:Inv X b9 σ (upd H s.heap.objs.size (XD s.heap.objs.size [(f,y)])) { s with heap:=s.heap.push od,toks:=s.toks }:=by
  refine I.laid (fun b o q=>get?_push_of_some _ q) (le_refl _) (xd_ok (by simp) (h2.at fun o q=>?_) (fun g=>?_) (fun g hg=>?_))
  ·rw [q1] at q;cases q;exact g1
  ·show pM ([(f,y)].lookup g) (if g=f then some u else none);by_cases z:g=f
   ·have hb:(g==f)=true:=beq_iff_eq.mpr z;simp only [List.lookup,hb,if_pos z];exact ry
   ·have hb:(g==f)=false:=beq_eq_false_iff_ne.mpr z;simp only [List.lookup,hb,if_neg z];exact True.intro
  ·by_cases z:g=f
   ·rw [z];exact .head _
   ·exact absurd (if_neg z) hg
 refine h s.heap.objs.size _ hf u7 (I1.write (x:=a) (e:=a) (t':=s.toks+2) (h':=h') (by rw [dW (symm u7),e];exact True.intro) (.inl rfl) (fun b o hb q=>?_) ⟨_,h1⟩ (xo_ok h1));by_cases z:b=s.heap.objs.size
 ·subst z;rw [g1] at q;cases q;exact q1
 ·have vA:s.heap.get? b=some o:=by rw [<- q];exact (Heap.get?_push_ne _ _ _ z).symm
  exact h3 b o hb vA
theorem jPk(I:Inv X b9 σ H s)(e:IsX H a C (some dx))(ed:H dx=some (XD dx fs))(u7:dx≠a)(c:ClsX X.K C)(n:jB X.K C f)(hl:fs.length<1000)(ry:gN y u) 
 (h:∀ s',Inv X b9 σ (upd H dx (XD dx (mH f y fs))) s'->Q () s'):dC (dF X.prog X.w) A (tV (.ref a) f u) Q E s:=by
 obtain⟨vs,sl,hx⟩:=x_get I.hok e;obtain⟨_,mA,hn,r,wi⟩:=xd_get I.hok ed;refine PySem.W.setX_old I.kIn hx hn u7 c.sa c.po n.taker c.hd wi (by rw [c6,fC];omega) fun h' h1 h2=>h _ ?_;refine I.write (x:=dx) (e:=dx) (by rw [ed];exact True.intro) (.inl rfl) h2 (let ⟨o,_,_,q,_⟩:=h1;⟨o,q⟩) (xd_ok ?_ h1 (fun g=>?_) (fun g hg=>?_))
 ·have:=jGc f y fs;omega
 ·show pM ((mH f y fs).lookup g) (if g=f then some u else mA g);rw [jGb];by_cases q:g=f
  ·rw [if_pos q,if_pos q];exact ry
  ·rw [if_neg q,if_neg q];exact r g
 ·by_cases q:g=f
  ·rw [q];exact (jEy f y fs).1
  ·refine (jEy f y fs).2 g (wi g fun z=>hg ?_);show (if g=f then some u else mA g)=none;rw [if_neg q];exact z
end
end L2
namespace PySem.W
open PySem PySem.Spec PySem.Calls PyProof.Rows Builtin Builtin.ObjectAttr Builtin.Getset_descriptor
section
variable {prog:Program}{w:World}{A:Around}{K:Frag}{C x t0:Addr}{s:Shared}{E:Value->Shared->Prop}{od:Option Addr}{Q:Value->Shared->Prop}
theorem initX(X:K.In s.heap)(hx:s.heap.get? x=some ⟨.ref C,od,.fields #[.ref t0,.none,.none,.none,.bool false,.none],#[]⟩)(e:excMk K C=true)(hz:us.length<=c9) 
 (h:∀ h',h'.get? x=some ⟨.ref C,od,.fields #[.ref s.heap.objs.size,.none,.none,.none,.bool false,.none],#[]⟩->(∀ b o,b≠x->s.heap.get? b=some o->h'.get? b=some o)->Q .none { s with heap:=h' }) :
 dC (dF prog w) A (call (.builtin "ValueError.__init__") (.ref x::us)) Q E s:=by
 obtain⟨bm,⟨N,nm,q,bs,u9,sn,sub,ab,col,dd,k0,k1,k2,k3,k5,hC⟩,T⟩:=jHH X e;have FB:=PySem.F.excBase_ValueError;obtain⟨hp,g,d,t,os⟩:=s;refine lU (yN FB.init.plain FB.initEntry (wpAny_check_init_subT FB T hC hx rfl ?_))
 delta Builtin.«BaseException.__init__»
 dsimp only;rw [if_neg (by simp)];unfold Builtin.BaseException.bexcPut newTuple;have pO:=get?_push_of_some (h:=hp) { cls:=.type "tuple",data:=.seq us.toArray } hx;refine c5 (mI (c5 (c5 (hZ pO rfl rfl (c5 (lT pO rfl (by show 0<6;decide) ?_))))) (by show us.toArray.size<=c9;rw [dL];exact hz));refine yI (dE (h _ ?_ fun b o hb hq=>?_))
 ·rw [get?_update_self _ pO rfl];rfl
 ·exact (get?_update_ne _ _ _ _ hb).trans (get?_push_of_some _ hq)
end
end PySem.W
namespace PySem.W
open PySem PySem.Spec PySem.Calls PyProof.Rows Builtin Builtin.ObjectAttr Builtin.Getset_descriptor
section
variable {prog:Program}{w:World}{A:Around}{K:Frag}{C x:Addr}{s:Shared}{E:Value->Shared->Prop}{ox:Obj}{od:Obj}
end
end PySem.W
namespace L2
open PySem PyProof.Rows PySem.Spec PySem.Calls
theorem jPl(e:H a=some o):upd H a o=H:=by
 funext b;unfold upd;by_cases q:b=a
 ·rw [if_pos q,q,e]
 ·rw [if_neg q]
structure MkX(K:PySem.W.Frag)(C f:Addr):Prop where
 makes:PySem.W.excMk K C=true
 init:PySem.W.findIn K (.ref C) "__init__"=some (some (.ref f))
 fn:yP K (.ref f)=true
 kp:i8 K (.ref C)=true
def jOt(C:Addr)(sp:Sp)(E:XK)(t:TA):TE:=fun σ H Q=>t σ H fun vs H1=>∀ x,H1 x=none->sp (.ref x::vs) (upd H1 x (XO x C none)) (fun v H2=>v=.non/\Q (.ref x) H2) E
section
variable {X:Cx}{CX:CXT}{k:Nat}{f C:Addr}{fd:FuncData}{ps:List Str}{sp:Sp}{E:XK}{x m:Str}{p pos i7:Pos}{e o:Expr}{es:List Expr}{ta:TE}{t:TA}
theorem Inv.madeX(I:Inv X b9 σ H s) :
 Inv X b9 σ (upd H (s.heap.objs.size+1) (XO (s.heap.objs.size+1) C none)) { s with heap:=(s.heap.push (PySem.W.excTup us)).push (PySem.W.excNew C s.heap.objs.size) }:=by
 have e2:((s.heap.push (PySem.W.excTup us)).push (PySem.W.excNew C s.heap.objs.size)).get? (s.heap.objs.size+1)=some (PySem.W.excNew C s.heap.objs.size):=by
  have:=get?_push_size (s.heap.push (PySem.W.excTup us)) (o:=PySem.W.excNew C s.heap.objs.size) rfl;rwa [size_push] at this
 have I1:=I.kept (h':=s.heap.push (PySem.W.excTup us)) (t':=s.toks) (fun b u q=>get?_push_of_some _ q);exact I1.laid (a:=s.heap.objs.size+1) (t':=s.toks) (fun b u q=>get?_push_of_some _ q) (mK (size_push _ _)) (xo_ok e2)
theorem jOu(M:MkX X.K C f)(F:fJ X.prog X.w X.K X.mg X.base CX k f fd ps sp)(hr:kJ (k+1) X.A)(hb:oY X.K fd ps []) 
 (hx:jEz CX X E) (hz:ps.length<=1000) (I:Inv X b9 σ H s) (r:gX vs us)
 (h:∀ x,H x=none->sp (.ref x::vs) (upd H x (XO x C none)) (fun v H2=>v=.non/\Q (.ref x) H2) E) :
 dC (dF X.prog X.w) X.A (call (.ref C) us) (EP X b9 σ Q) X.xe s:=by
 have hq:=h (s.heap.objs.size+1) (I.hok.fresh (fL _));have I2:=Inv.madeX (C:=C) (us:=us) I;have r2:gX (V.ref (s.heap.objs.size+1)::vs) (Value.ref (s.heap.objs.size+1)::us):=.cons rfl r;have hl:(Value.ref (s.heap.objs.size+1)::us).length=ps.length:=by
  have e:=r2.length;rw [F.len _ _ _ _ hq] at e;exact e.symm
 have qT:=hb { s with heap:=(s.heap.push (PySem.W.excTup us)).push (PySem.W.excNew C s.heap.objs.size) } (Value.ref (s.heap.objs.size+1)::us) I2.kIn (by rw [eZ];exact hl);rw [eZ] at qT
 refine lU (PySem.W.make_X (f:=f) I.kIn M.makes M.init (beq_iff_eq.mp M.fn) (by rw [eY] at hl;rw [fC];omega) (h8 (F.run _ X.stack _ _ ⟨Value.ref (s.heap.objs.size+1)::us,[]⟩ (Value.ref (s.heap.objs.size+1)::us) _ _ E (hr.make C us [])
  (I2.env0.make C us []) qT r2 hq) fun r s' sT=>?_))
 cases r with
 | error e=>exact hx b9 σ _ _ e s' I2 sT
 | ok fl =>
   cases fl with
   | ret u =>
     obtain⟨v,H',I3,rv,ev,q3⟩:=I2.after sT;subst ev;exact⟨rv,⟨V.ref (s.heap.objs.size+1),H',I3,rfl,q3⟩⟩
   | next=>exact False.elim sT
   | brk=>exact False.elim sT
   | cont=>exact False.elim sT
theorem jPm(M:MkX X.K C f)(F:fJ X.prog X.w X.K X.mg X.base CX k f fd ps sp)(hr:kJ (k+1) X.A)(hg:Gl X x)(hm:X.mg x=some (.ref C))(hb:oY X.K fd ps [])(hx:jEz CX X E)(hz:ps.length<=1000) 
 (ha:PA X (e::es) t) (oO:(x==("__debug__":Str))=false:=by decide) (he:dG (e::es) X.env=(false,eU e X.env)::dG es X.env:=by rfl) (j4:(fZ pos (dG es X.env)).any (·.1)=false:=by rfl) :
 PE X (.Call (.Name x p) (e::es) [] pos) (jOt C sp E t):=by
 intro b9 s σ H Q I h;refine fR (jCQ I hg hm ?_ oO);refine j9 (h₀:=X.base) I.ok.mod.kin M.kp (thn (ha pos b9 s σ H _ I h) fun us s1 ⟨vs,H1,I1,r,q⟩=>⟨I1.kIn,?_⟩) he j4;exact jOu M F hr hb hx hz I1 r q
structure InX(K:PySem.W.Frag)(B:Addr):Prop where
 sp:iX K (.ref B) "__getattribute__"=some (some (.builtin "type.__getattribute__"))
 rd:o4 K B (.type "type")=true
 fc:pF K (.ref B) (.type "type") "__init__"=some (.val (.builtin "ValueError.__init__"))
inductive ItInX(K:PySem.W.Frag)(Q:VK)(vs:List V)(H1:Hp):Prop|mk a C d xs:vs=.ref a::xs->xs.length<=1000->H1 a=some (XO a C d)->PySem.W.excMk K C=true->Q .non H1->ItInX K Q vs H1
def tInX(K:PySem.W.Frag)(t:TA):TE:=fun σ H Q=>t σ H fun vs H1=>ItInX K Q vs H1
theorem jDf(J:InX X.K B)(hg:Gl X x)(hm:X.mg x=some (.ref B))(ha:PA X (e::es) t)(oO:(x==("__debug__":Str))=false:=by decide) 
 (hst:dG (e::es) X.env=(false,eU e X.env)::dG es X.env:=by rfl) (j4:(fZ pos (dG es X.env)).any (·.1)=false:=by rfl)
 (ht:eU (.Call (.Attribute (.Name x p) "__init__" i7) (e::es) [] pos) X.env=(do
  let ov <- eU (.Name x p) X.env
  lK i7.atName
  let (f,first) <- j6 [ov] (mZ ov "__init__" pl)
  m5 pos f first (fZ pos (dG (e::es) X.env)) (i6 pos (gI [] X.env))):=by rfl) :
 PE X (.Call (.Attribute (.Name x p) "__init__" i7) (e::es) [] pos) (tInX X.K t):=by
 intro b9 s σ H Q I h;refine kD (pl:=pl) (jCQ I hg hm ?_ oO) ht;refine sL I.kIn J.sp (vG I.kIn J.rd J.fc rfl ?_);have hA:=ha pos b9 _ σ H _ (I.tok (s.toks+1)) h;show dC _ _ (m5 pos (.builtin "ValueError.__init__") [] (fZ pos (dG (e::es) X.env)) []) _ _ _;rw [hst] at hA ⊢;refine Calls.callWith_builtin (by show (false||(fZ pos (dG es X.env)).any (·.1))=false;rw [j4]<;>rfl) (Calls.evalArgs_plain ?_);refine thn hA fun us s2 ⟨vs,H2,I2,r2,a,C,d,xs,ev,hl,ea,mk,q⟩=>?_;subst ev;cases r2 with
 | cons ru rr =>
   cases ru;obtain⟨t0,hx⟩:=jHJ I2.hok ea;refine PySem.W.initX I2.kIn hx mk (by rw [<- rr.length,fC];omega) fun h' h1 h2=>⟨.non,H2,?_,rfl,q⟩
   have:=I2.write (x:=a) (e:=a) (o:=XO a C d) (t':=s2.toks) (h':=h') (by rw [ea];exact True.intro) (.inl rfl) h2 ⟨_,h1⟩ (xo_ok h1);rwa [jPl ea] at this
end
def XF(H:Hp)(e C:Addr)(fs:List (Str×V)):Prop:=∃ dx,H e=some (XO e C (some dx))/\H dx=some (XD dx fs)/\dx≠e
def sFldX(K:PySem.W.Frag)(ta tv:TE)(f:Str):TS:=fun D σ H=>tv σ H fun y H1=>ta σ H1 fun x H2 =>
 (∃ a C,x=.ref a/\H2 a=some (XO a C none)/\ClsX K C/\jB K C f/\∀ dx,H2 dx=none->dx≠a->D.nx σ (upd (upd H2 dx (XD dx [(f,y)])) a (XO a C (some dx)))) \/
 (∃ a C dx fs,x=.ref a/\IsX H2 a C (some dx)/\H2 dx=some (XD dx fs)/\dx≠a/\ClsX K C/\jB K C f/\fs.length<1000/\D.nx σ (upd H2 dx (XD dx (mH f y fs))))
structure ClsI(K:PySem.W.Frag)(C:Addr):Prop where
 c:ClsX K C
 ca:PySem.W.findIn K (.ref C) "__class__"=some (some (.builtin "object.__class__"))
 cn:iX K (.builtin "object.__class__") "__get__"=some (some (.builtin "getset_descriptor.__get__"))
 ct:rJ K (.builtin "object.__class__")=some true
section
variable {X:Cx}{o e value:Expr}{f:Str}{pos nW qL:Pos}{ta tv:TE}
theorem jD0(ha:PE X o ta)(hv:PE X value tv)(hs:mX value (some (.Attribute o f nW)) pos.line X.env=pure false):PS X (.Assign [.Attribute o f nW] value pos) (sFldX X.K ta tv f):=by
 intro b9 s σ H D I h;refine q8 (thn (hv b9 s σ H _ I h) fun u s1 ⟨y,H1,I1,ry,q⟩=>thn (ha b9 s1 σ H1 _ I1 q) fun ov s2 ⟨x,H2,I2,rx,q2⟩=>?_) hs;rcases q2 with⟨a,C,ex,ea,c,n,q3⟩|⟨a,C,dx,fs,ex,ea,ed,ne,c,n,l,q3⟩
 ·subst ex;obtain rfl:ov=Value.ref a:=rx;exact jPj I2 ea c n ry fun dx s3 h1 h2 I3=>⟨σ,_,I3,q3 dx h1 h2⟩
 ·subst ex;obtain rfl:ov=Value.ref a:=rx;exact jPk I2 ea ed ne c n l ry fun s3 I3=>⟨σ,_,I3,q3⟩
end
structure sN(P:Program)(w:World)(K:PySem.W.Frag)(mg:Str->Option Value)(base:Heap)(k:Nat)(x:Str)(C:Addr)(ps:List Str)(sp:Sp):Prop where
 ex:∃ f fd,MkX K C f/\fJ P w K mg base CX0 k f fd ps sp/\oY K fd ps []/\mg x=some (.ref C)
 few:ps.length<=1000
theorem uB(D:sN X.prog X.w X.K X.mg X.base k x C ps sp)(hr:kJ (k+1) X.A)(hg:Gl X x)(ha:PA X (e::es) t)(oO:(x==("__debug__":Str))=false:=by decide) 
 (he:dG (e::es) X.env=(false,eU e X.env)::dG es X.env:=by rfl) (j4:(fZ pos (dG es X.env)).any (·.1)=false:=by rfl):PE X (.Call (.Name x p) (e::es) [] pos) (jOt C sp E0 t):=by
 obtain⟨f,fd,M,F,b,m⟩:=D.ex;exact jPm M F hr hg m b jI5 D.few ha oO he j4
def xcls(K:PySem.W.Frag)(C:Addr)(fs:List Str):Bool :=
 PySem.W.hasDictIn K C&&PySem.W.excOver K C&&PySem.W.findIn K (.ref C) "__setattr__" == some (some (.builtin "object.__setattr__"))&&PySem.W.findIn K (.ref C) "__getattribute__" == some (some (.builtin "BaseException.__getattribute__")) &&
 PySem.W.findIn K (.ref C) "__getattr__" == some none&&PySem.W.findIn K (.ref C) "__class__" == some (some (.builtin "object.__class__"))&&fs.all fun f=>PySem.W.findIn K (.ref C) f==some none
structure XCl(K:PySem.W.Frag)(C:Addr)(fs:List Str):Prop where
 i:ClsI K C
 n:∀ f∈fs,jB K C f
 m:PySem.W.excMk K C=true
theorem XCl.of{K:PySem.W.Frag}{C:Addr}{fs:List Str}(h:xcls K C fs=true)(m:PySem.W.excMk K C=true)(cn:iX K (.builtin "object.__class__") "__get__"=some (some (.builtin "getset_descriptor.__get__")))(ct:rJ K (.builtin "object.__class__")=some true):XCl K C fs:=by
 unfold xcls at h;simp only [fA,beq_iff_eq,jP] at h;obtain⟨⟨⟨⟨⟨⟨h1,h2⟩,h3⟩,h4⟩,h5⟩,h6⟩,h7⟩:=h;exact⟨⟨⟨h1,h2,h3,h4,h5⟩,h6,cn,ct⟩,fun f hf=>h7 f hf,m⟩
def jOv(K:PySem.W.Frag)(cs:List Addr)(b:Addr):Bool :=
 (range cs.length).all fun i=>nP K (.ref (cs.getD i 0)) (.ref b)==some true&&nP K (.ref (cs.getD i 0)) (.type "ValueError")==some true&&(range cs.length).all fun j=>nP K (.ref (cs.getD i 0)) (.ref (cs.getD j 0))==some (i==j)
theorem jNJ{kvs:List (Key×V)}{k:Key}{v:V}(h:k ∉ kvs.map (·.1)):pC kvs k v=kvs++[(k,v)]:=by
 unfold pC;rw [if_neg];intro e;obtain⟨p,hp,he⟩:=List.any_eq_true.mp e;exact h (eI.mpr ⟨p,hp,of_decide_eq_true he⟩)
theorem jGV:∀ {more kvs:List (Key×V)} {ks:List Key},kvs.map (·.1)++more.map (·.1)=ks->ks.Nodup->jDB kvs more=kvs++more
 | [],kvs,ks,_,_=>(eZ _).symm
 | p::r,kvs,ks,e,n=>by
   subst e;have hn:p.1 ∉ kvs.map (·.1):=fun z=>by
    rw [dQ,jT] at n;exact n.2.2 _ z _ (.head _) rfl
   show jDB (pC kvs p.1 p.2) r=_;rw [jNJ hn,jGV (more:=r) (kvs:=kvs++[(p.1,p.2)]) rfl (by rw [dU,append_assoc];exact n),append_assoc];rfl
end L2
namespace PySem.W
open PySem
structure Noted(e:Addr)(cl:Value)(d:Option Addr)(fr:List Addr)(off:Addr->Prop)(h h':Heap):Prop where
 exc:∃ vs sl T oT ts,h'.get? e=some ⟨cl,d,.fields vs,sl⟩/\vs[1]?=some (.ref T)/\T≠e/\h.objs.size<=T/\h'.get? T=some oT/\oT.data=.fields ts/\ts[3]?=some .none
 keep:∀ b o,b≠e->¬ off b->b ∉ fr->h.get? b=some o->h'.get? b=some o
 slot:∀ b o,b≠e->¬ off b->h.get? b=some o->∃ sl,h'.get? b=some { o with slots:=sl }
 ctx:∀ o o' vs vs',h.get? e=some o->h'.get? e=some o'->o.data=.fields vs->o'.data=.fields vs'->vs'[2]?=vs[2]?
abbrev jLw(ws:Array Value):Obj:={ cls:=.type "traceback",dict:=none,data:=.fields ws }
section
variable {M:Model}{E:Value->Shared->Prop}{A:Around}{s:Shared}
theorem jKX 
 (hA:A.frames=some (env::outer)) (hl:s.heap.FunFrames bh (env::outer)) (hf:env.frame=some L) (he:s.heap.get? e=some ⟨cl,d,.fields vs,sl⟩) (hz:1<vs.size)
 (k:∀ h',Noted e cl d ((env::outer).filterMap (·.frame)) (fun _=>False) s.heap h'->Q () { s with heap:=h' }) :
 dC M A (do let fo <- frameOf env;let pl <- entryPlaceOf L hadNext;let tb <- EntryCells.newEntry head fo .none (lB L) .none pl;zT (.ref e) 1 tb) (fun _ s1=>dC M A (oQ (.ref e) none) Q E s1) E s:=by
 have eno:e ∉ (env::outer).filterMap (·.frame):=fun z=>by
  obtain⟨_,ob,q1,q2⟩:=hl.mem z;rw [he] at q1;cases q1;exact q2 vs rfl
 refine c5 (wpAny_frameOf_fun hA hl hf fun g so=>?_);refine c5 (wpAny_entryPlaceOf fun pla j4=>?_);unfold EntryCells.newEntry;unfold newFields;refine (c5 (mI ?_ (j4.sizeOk5 _ _ _ _ _)));generalize hws:([head,.ref L,.none,lB L,.none]++(if pla.isEmpty then eQ 6 Value.none else pla)).toArray=ws;have wz:3<ws.size:=by
  rw [<- hws];simp only [dL,dH,eY,lJ];omega
 have e1:g.get? e=some ⟨cl,d,.fields vs,sl⟩:=(so.2.1 e eno).trans he;have nT:g.objs.size≠e:=gO (dR e1);have e2:(g.push (jLw ws)).get? e=_:=get?_push_of_some (h:=g) (jLw ws) e1;refine lT e2 rfl hz ?_;generalize hu:(g.push (jLw ws)).update e (pZ (·.setIfInBounds 1 (Value.ref g.objs.size)))=g2;have e3:g2.get? e=some ⟨cl,d,.fields (vs.setIfInBounds 1 (.ref g.objs.size)),sl⟩:=by
  rw [<- hu];exact get?_update_self _ e2 rfl
 have t3:g2.get? g.objs.size=some (jLw ws):=by
  rw [<- hu,get?_update_other _ _ (symm nT)];exact get?_push_size g rfl
 have o3:∀ b ob,b≠e->g.get? b=some ob->g2.get? b=some ob:=fun b ob hb q=>by
  rw [<- hu,get?_update_other _ _ (symm hb)];exact get?_push_of_some _ q
 unfold oQ;refine c5 (hZ e3 rfl (x:=.ref g.objs.size) (by simp [hz]) ?_);rw [if_pos (by simp)];refine lT t3 rfl wz (k _ ⟨?_,fun b ob hb _ hx q=>?_,fun b ob hb _ q=>?_,fun o o' ws' vs' q1 q2 q3 q4=>?_⟩)
 ·refine⟨vs.setIfInBounds 1 (.ref g.objs.size),sl,g.objs.size,_,_,?_,by simp [hz],nT,?_,get?_update_self _ t3 rfl,rfl,by simp [wz]⟩
  ·rw [get?_update_other _ _ nT];exact e3
  ·exact mK so.1.symm
 ·have q1:g.get? b=some ob:=(so.2.1 b hx).trans q;rw [get?_update_other _ _ (gO (dR q1))];exact o3 b ob hb q1
 ·obtain⟨s1,q1⟩:=so.2.2 b ob q;exists s1;rw [get?_update_other _ _ (gO (dR q1))];exact o3 b _ hb q1
 ·rw [get?_update_other _ _ nT,e3] at q2;rw [he] at q1;cases q1;cases q2;cases q3;cases q4;simp
def HeadAt(h:Heap)(e T:Addr):Prop:=T≠e/\∃ oT ts,h.get? T=some oT/\oT.data=.fields ts/\ts[3]?=some .none
theorem note_fly 
 (hA:A.frames=some (env::outer)) (hl:s.heap.FunFrames bh (env::outer)) (hf:env.frame=some L) (he:s.heap.get? e=some ⟨cl,d,.fields vs,sl⟩)
 (hv:vs[1]?=some .none\/∃ T,vs[1]?=some (.ref T)/\HeadAt s.heap e T/\off T)
 (k:∀ h',Noted e cl d ((env::outer).filterMap (·.frame)) off s.heap h'->Q () { s with heap:=h' }) :
 dC M A (rP (.ref e) env) (fun _ s1=>dC M A (oQ (.ref e) none) Q E s1) E s:=by
 unfold rP;simp only [hf];rcases hv with hv|⟨T,hv,⟨nT,oT,ts,hT,dT,h3⟩,ho⟩
 ·refine c5 (hZ he rfl hv ?_);rw [if_neg (by decide)];exact jKX hA hl hf he (Array.getElem?_eq_some_iff.mp hv).1 fun h' n=>k h' ⟨n.exc,fun b o h1 _=>n.keep b o h1 (fun z=>z),fun b o h1 _=>n.slot b o h1 (fun z=>z),n.ctx⟩
 ·refine c5 (hZ he rfl hv ?_);rw [if_pos (by simp)];refine c5 (hZ hT dT h3 ?_);rw [if_neg (by simp [lB])];refine c5 (lT hT dT (Array.getElem?_eq_some_iff.mp h3).1 ?_);generalize hu:s.heap.update T (pZ (·.setIfInBounds 3 Value.none))=g;have oth:∀ b,b≠T->g.get? b=s.heap.get? b:=fun b hb=>by rw [<- hu];exact get?_update_other _ _ (symm hb)
  have hz:g.objs.size=s.heap.objs.size:=by rw [<- hu];exact Heap.size_after_update ..
  refine jKX (s:={ s with heap:=g }) hA (hl.of_keeps fun b o q nf=>⟨o,(oth b fun z=>?_).trans q,rfl⟩) hf ((oth e (symm nT)).trans he) (Array.getElem?_eq_some_iff.mp hv).1 fun h' n=>k h' ⟨?_,fun b o h1 h2 h3 q=>?_,fun b o h1 h2 q=>?_,fun o o' ws vs' q1=>n.ctx o o' ws vs' ((oth e (symm nT)).trans q1)⟩
  ·rw [z,hT] at q;cases q;exact nf ts dT
  ·obtain⟨vs',sl',T',o',ts',x1,x2,x3,x4,x5⟩:=n.exc;exact⟨vs',sl',T',o',ts',x1,x2,x3,by rw [<- hz];exact x4,x5⟩
  ·exact n.keep b o h1 (fun z=>z) h3 ((oth b fun z=>h2 (z ▸ ho)).trans q)
  ·exact n.slot b o h1 (fun z=>z) ((oth b fun z=>h2 (z ▸ ho)).trans q)
end
end PySem.W
namespace L2
open PySem PyProof.Rows PySem.Spec PySem.Calls
def TrX(n:Nat)(H:Hp)(ea:Addr)(h:Heap):Prop:=∃ cl d vs sl T,h.get? ea=some ⟨cl,d,.fields vs,sl⟩/\vs[1]?=some (.ref T)/\PySem.W.HeadAt h ea T/\n<=T/\H T=none
def CXe(P:Program)(w:World):CXT:=fun outer H s E e s'=>∃ ea C d H',e=.ref ea/\s'.os=s.os/\AllBare s'.gens/\Un (frs outer) [] H H' s.heap s'.heap/\HOk P w H' s'.heap/\H' ea=some (XC ea C d) /\
 TrX s.heap.objs.size H' ea s'.heap/\E (.ref C) (some ea) H'
def TrI(X:Cx)(b9:List (Addr×Obj))(H:Hp)(ea:Addr)(h:Heap):Prop:=∃ cl d vs sl T,h.get? ea=some ⟨cl,d,.fields vs,sl⟩/\vs[1]?=some (.ref T)/\PySem.W.HeadAt h ea T/\X.s₀.heap.objs.size<=T/\H T=none /\
 T≠X.env.locals/\(∀ x c,X.env.cells.lookup x=some c->c≠T)/\∀ p∈X.pn++b9,p.1≠T
structure Top(X:Cx):Prop where
 ex:X.ex=[]
 stk:X.stack=X.env::X.outer
 fr:X.env.frame=some X.env.locals
def jCU(X:Cx)(G:St->XK):Prop:=∀ (b9:List (Addr×Obj)) (σ:St) (H:Hp) (s:Shared) (e:Value) (s':Shared),Inv X b9 σ H s->CXe X.prog X.w X.stack H s (G σ) e s'->X.xe e s'
def jNs(X:Cx)(G:St->XK):Prop:=∀ (b9:List (Addr×Obj)) (σ:St) (H:Hp) (s:Shared) (ea C:Addr) (d:Option Addr),Inv X b9 σ H s->H ea=some (XO ea C d)->G σ (.ref C) (some ea) (upd H ea (XC ea C d))->X.xe (.ref ea) s
abbrev G0:St->XK:=fun _ _ _ _=>False
theorem nR:jCU X G0:=fun _ _ _ _ _ _ _ ⟨_,_,_,_,_,_,_,_,_,_,_,z⟩=>z.elim
section
variable {X:Cx}{b9:List (Addr×Obj)}{σ:St}{H H':Hp}{s s':Shared}{ea C:Addr}{d:Option Addr}{h':Heap}
theorem Inv.flew(I:Inv X b9 σ H s)(c:CXe X.prog X.w X.stack H s E e s'):∃ ea C d H',e=.ref ea/\Inv X b9 σ H' s'/\H' ea=some (XC ea C d)/\TrI X b9 H' ea s'.heap/\E (.ref C) (some ea) H':=by
 obtain⟨ea,C,d,H',rfl,ho,hb,un,ok,hx,⟨cl,d',vs,sl,T,g1,g2,g3,g4,g5⟩,q⟩:=c;refine⟨ea,C,d,H',rfl,I.call' ho un ok hb (fun b z=>absurd z (by simp)),hx,⟨cl,d',vs,sl,T,g1,g2,g3,le_trans I.sz g4,g5,fun z=>?_,fun x c hc z=>?_,fun p hp z=>?_⟩,q⟩
 ·have lt:=I.lt;rw [<- z] at lt;exact absurd (dO lt g4) (gG _)
 ·obtain⟨v,o,q1,_⟩:=I.cell x c hc;have lt:=dR q1;rw [z] at lt;exact absurd (dO lt g4) (gG _)
 ·have lt:=dR (I.pin p hp).1;rw [z] at lt;exact absurd (dO lt g4) (gG _)
theorem Inv.noted(t:Top X)(I:Inv X b9 σ H s)(hx:H ea=some (XC ea C d)) 
 (ht:∀ T,off T->X.s₀.heap.objs.size<=T/\H T=none/\T≠X.env.locals/\(∀ x c,X.env.cells.lookup x=some c->c≠T)/\∀ p∈X.pn++b9,p.1≠T) (h1:∀ T U,off T->off U->T=U)
 (n:PySem.W.Noted ea (.ref C) d (X.env::X.outer |>.filterMap (·.frame)) off s.heap h'):Inv X b9 σ H { s with heap:=h' }/\TrI X b9 H ea h':=by
 have fr:∀ b,b∈(X.env::X.outer).filterMap (·.frame) ↔ b=X.env.locals\/b∈X.fs:=fun b=>by
  rw [jY,t.fr];exact dZ
 have frn:∀ b,b∈(X.env::X.outer).filterMap (·.frame)->H b=none:=fun b hb=>I.stkFree b (by rw [t.stk];exact hb);obtain⟨vs,sl,T,oT,ts,x1,x2,x3,x4,x5,x6,x7⟩:=n.exc;have nea:∀ b,H b=none->b≠ea:=fun b hb z=>by rw [z,hx] at hb;cases hb
 obtain⟨ch,rE⟩:∃ ch:List Addr,(∀ b∈ch,off b)/\∀ b,off b->b∈ch:=by
  by_cases z:∃ T,off T
  ·obtain⟨T,hT⟩:=z;exact⟨[T],fun b hb=>by rw [mem_singleton.mp hb];exact hT,fun b hb=>by rw [h1 b T hb hT];exact mem_singleton.mpr rfl⟩
  ·exact⟨[],fun b hb=>absurd hb (by simp),fun b hb=>absurd ⟨b,hb⟩ z⟩
 have I':Inv X b9 σ H { s with heap:=h',gens:=s.gens,drawn:=s.drawn,toks:=s.toks }:=by
  refine I.step (ch:=ch) (fun b hb=>?_) (fun b o h1 h2 h3 q hn=>?_) (fun b o h1 h2 h3 q hn=>?_) (fun _ _ _ _ q=>q) (fun b o h3 q=>?_) (fun _ _ q=>q) (fun _ _ _ q=>q) (fun b ps q=>⟨#[],by rw [q];simp⟩) (fun m hm=>?_) (fun b u hb=>?_) I.bare
  ·obtain⟨a1,_,a3,a4,a5⟩:=ht b (rE.1 b hb);exact⟨.inr a1,a3,a4,a5⟩
  ·exact n.keep b o (nea b hn) (fun z=>h3 (rE.2 b z)) (fun z=>((fr b).mp z).elim h1 h2) q
  ·exact n.slot b o (nea b hn) (fun z=>h3 (rE.2 b z)) q
  ·by_cases z:b=ea
   ·rw [z];exact⟨_,x1⟩
   ·obtain⟨l,q1⟩:=n.slot b o z (fun z=>h3 (rE.2 b z)) q;exact⟨_,q1⟩
  ·obtain⟨o,es,ep,ho,r⟩:=hm;obtain⟨l,q1⟩:=n.slot _ o (nea _ I.free) (fun z=>(ht _ z).2.2.1 rfl) ho;exact⟨_,es,ep,q1,r⟩
  ·by_cases z:b=ea
   ·subst z;rw [hx] at hb;cases hb;obtain⟨vs0,sl0,g0,c0⟩:=jOs I.hok (.inr hx);exact xc_ok x1 ((n.ctx _ _ _ _ g0 x1 rfl rfl).trans c0)
   ·refine (I.hok b u hb).stay (fun c v hc q=>n.keep c v ?_ (fun z=>?_) (fun z=>?_) q) (fun _ q=>q) fun _ _ q=>q
    ·rcases hc with rfl|hc
     ·exact z
     ·intro z;rw [z,hx] at hc;cases hc
    ·have hn:=(ht c z).2.1;rcases hc with rfl|hc
     ·rw [hb] at hn;cases hn
     ·rw [hc] at hn;cases hn
    ·have hn:=frn c z;rcases hc with rfl|hc
     ·rw [hb] at hn;cases hn
     ·rw [hc] at hn;cases hn
 have lt:=I.lt;refine⟨I',.ref C,d,vs,sl,T,x1,x2,⟨x3,oT,ts,x5,x6,x7⟩,le_trans I.sz x4,I.hok.fresh x4,fun z=>?_,fun x c hc z=>?_,fun p hp z=>?_⟩
 ·rw [<- z] at lt;exact absurd (dO lt x4) (gG _)
 ·obtain⟨v,o,q1,_⟩:=I.cell x c hc;have lt:=dR q1;rw [z] at lt;exact absurd (dO lt x4) (gG _)
 ·have lt:=dR (I.pin p hp).1;rw [z] at lt;exact absurd (dO lt x4) (gG _)
theorem jHK(t:Top X)(I:Inv X b9 σ H s)(hx:H ea=some (XC ea C d))(tr:TrI X b9 H ea s.heap) 
 (k:∀ s',Inv X b9 σ H s'->TrI X b9 H ea s'.heap->Q () s') :
 dC (dF X.prog X.w) X.A (rP (.ref ea) X.env) (fun _ s1=>dC (dF X.prog X.w) X.A (oQ (.ref ea) none) Q E s1) E s:=by
 obtain⟨cl,d',vs,sl,T,g1,g2,g3,g4⟩:=tr;obtain⟨vs',sl',q⟩:=x_get I.hok (.inr hx);rw [g1] at q;cases q;refine PySem.W.note_fly (bh:=X.base) (off:=fun b=>b=T) (outer:=X.outer) (by rw [<- t.stk];exact I.ok.frames) (by rw [<- t.stk];exact I.stack) t.fr g1 (.inr ⟨T,g2,g3,rfl⟩) fun h' n=>?_;obtain⟨a,b⟩:=I.noted (off:=fun b=>b=T) t hx (fun U z=>(show U=T from z) ▸ g4) (fun _ _ p q=>p.trans q.symm) n;exact k _ a b
theorem jOw(t:Top X)(I:Inv X b9 σ H s)(hx:H ea=some (XO ea C d)) 
 (k:∀ s',Inv X b9 σ (upd H ea (XC ea C d)) s'->TrI X b9 (upd H ea (XC ea C d)) ea s'.heap->Q () s') :
 dC (dF X.prog X.w) X.A (rP (.ref ea) X.env) (fun _ s1=>dC (dF X.prog X.w) X.A (oQ (.ref ea) none) Q E s1) E s:=by
 obtain⟨t0,g1⟩:=jHJ I.hok hx;have I1:Inv X b9 σ (upd H ea (XC ea C d)) { s with heap:=s.heap,toks:=s.toks }:=I.write (x:=ea) (e:=ea) (by rw [hx];exact True.intro) (.inl rfl) (fun _ _ _ q=>q) ⟨_,g1⟩ (xc_ok g1 rfl);refine PySem.W.note_fly (bh:=X.base) (off:=fun _=>False) (outer:=X.outer) (by rw [<- t.stk];exact I.ok.frames) (by rw [<- t.stk];exact I.stack) t.fr g1 (.inl rfl) fun h' n=>?_;obtain⟨a,b⟩:=I1.noted t d4 (fun _ z=>z.elim) (fun _ _ z=>z.elim) n;exact k _ a b
theorem TrI.tr(t:TrI X b9 H ea h'):TrX X.s₀.heap.objs.size H ea h':=let ⟨cl,d,vs,sl,T,a,b,c,e,f,_⟩:=t;⟨cl,d,vs,sl,T,a,b,c,e,f⟩
end
section
variable {P:Program}{w:World}{K:PySem.W.Frag}{mg:Str->Option Value}{base:Heap}{N ps:List Str}{qual x:Str}{scope:Scope}{f:Addr}{cd:Value}{A:Around}{outer:List Env}{s:Shared}{H:Hp}{E:XK}{k:Nat}
abbrev cxE(P:Program)(w:World)(K:PySem.W.Frag)(mg:Str->Option Value)(base:Heap)(N:List Str)(qual:Str)(scope:Scope)(f:Addr)(cd:Value)(A:Around)(outer:List Env)(s:Shared)(H:Hp)(E:XK):Cx :=
 jHB (CXe P w) P w K mg base N qual scope f cd A outer s H E
theorem jJ6:Top (cxE P w K mg base N qual scope f cd A outer s H E):=⟨rfl,rfl,rfl⟩
theorem v0:PassesOwn (dF P w) (cxE P w K mg base N qual scope f cd A outer s H E).A (cxE P w K mg base N qual scope f cd A outer s H E).env (cxE P w K mg base N qual scope f cd A outer s H E).xe:=PassesOwn.leaving
theorem jQ:jCU (cxE P w K mg base N qual scope f cd A outer s H E) (fun _=>E):=by
 intro b9 σ H1 s1 e s2 I c;obtain⟨ea,C,d,H2,rfl,I2,hx,tr,q⟩:=I.flew c;show dC _ _ (leaving _ _) _ _ _;unfold leaving;refine c5 (jHK jJ6 I2 hx tr fun s3 I3 t3=>?_);exact⟨ea,C,d,H2,rfl,I3.os,I3.bare,I3.base,I3.hok,hx,t3.tr,q⟩
theorem uA:jNs (cxE P w K mg base N qual scope f cd A outer s H E) (fun _=>E):=by
 intro b9 σ H1 s1 ea C d I hx q;show dC _ _ (leaving _ _) _ _ _;unfold leaving;refine c5 (jOw jJ6 I hx fun s3 I3 t3=>?_);exact⟨ea,C,d,_,rfl,I3.os,I3.bare,I3.base,I3.hok,d4,t3.tr,q⟩
theorem Fun.okE{st:Stmt}{fd:FuncData}{sp:Sp}(F:Fun K x qual st f fd)(S:gF N ps (fY st))
 (nF:∀ (fE:Value) (A:Around) (outer:List Env) (s:Shared) (H:Hp) (vs:List V) (Q:VK) (E:XK),kJ k (A.deeper (nG qual (fY st) s.heap.objs.size f fE))->sp vs H Q E ->
  ∃ t,PSs (cxE P w K mg base N qual (fY st) f fE A outer s H E) (wA st) t/\t { nx:=fun _ H'=>Q .non H',rt:=Q } (start N vs) H) (len:∀ vs H Q E,sp vs H Q E->vs.length=ps.length:=by intro _ _ _ _ h;cases h;subst_vars;rfl):fJ P w K mg base (CXe P w) (k+1) f fd ps sp:=by
 obtain⟨oc,od,kV,oG,pm,an,fE,ct,sZ,rfl,lk,nY⟩:=F.ex;exact fn_of lk nY S len fun A outer s H vs Q E hr wD=>nF fE A outer s H vs Q E hr wD
theorem fJ.lift{fd:FuncData}(F:fJ P w K mg base CX0 k f fd ps sp):fJ P w K mg base CX k f fd ps sp :=
 ⟨F.len,fun A outer s H args us vs Q E hr e0 hb r h=>h8 (F.run A outer s H args us vs Q E hr e0 hb r h) fun r s' q=>match r,q with
  | .ok (.ret _),q=>q
  | .ok .next,q=>q
  | .ok .brk,q=>q
  | .ok .cont,q=>q
  | .error _,q=>False.elim q⟩
structure DfE(P:Program)(w:World)(K:PySem.W.Frag)(mg:Str->Option Value)(base:Heap)(k:Nat)(x:Str)(ps:List Str)(sp:Sp):Prop where
 ex:∃ f fd,fJ P w K mg base (CXe P w) k f fd ps sp/\oY K fd ps []/\i8 K (.ref f)=true/\mg x=some (.ref f)
structure MtE(P:Program)(w:World)(K:PySem.W.Frag)(mg:Str->Option Value)(base:Heap)(k:Nat)(m:Str)(C:Addr)(ps:List Str)(sp:Sp):Prop where
 ex:∃ f fd,Meth K C m f/\fJ P w K mg base (CXe P w) k f fd ps sp/\oY K fd ps []
end
def tCallE(sp:Sp)(G:St->XK)(t:TA):TE:=fun σ H Q=>t σ H fun vs H1=>sp vs H1 Q (G σ)
inductive jIb(P:Program)(w:World)(K:PySem.W.Frag)(mg:Str->Option Value)(base:Heap)(k:Nat)(m:Str)(G:St->XK)(t:TA)(σ:St)(Q:VK)(x:V)(H1:Hp):Prop|mk a C dx fs ps sp:x=.ref a->H1 a=some (.ins C dx fs)->fs.lookup m=none->Cls K C->MtE P w K mg base k m C ps sp->(t σ H1 fun vs H2=>sp (x::vs) H2 Q (G σ))->jIb P w K mg base k m G t σ Q x H1
def jLV(P:Program)(w:World)(K:PySem.W.Frag)(mg:Str->Option Value)(base:Heap)(k:Nat)(m:Str)(G:St->XK)(ta:TE)(t:TA):TE:=fun σ H Q=>ta σ H fun x H1=>jIb P w K mg base k m G t σ Q x H1
section
variable {X:Cx}{k:Nat}{ps:List Str}{sp:Sp}{G:St->XK}{x m:Str}{p pos i7:Pos}{e o:Expr}{es:List Expr}{ta:TE}{t:TA}
theorem jJ7{fd:FuncData}(F:fJ X.prog X.w X.K X.mg X.base (CXe X.prog X.w) k f fd ps sp)(hr:kJ k X.A)(hb:oY X.K fd ps [])(hx:jCU X G) 
 (I:Inv X b9 σ H s) (r:gX vs us) (h:sp vs H Q (G σ)):dC (dF X.prog X.w) X.A (call (.ref f) us) (EP X b9 σ Q) X.xe s:=by
 have hl:us.length=ps.length:=by rw [<- r.length];exact F.len _ _ _ _ h
 have qT:=hb s us I.kIn (by rw [eZ];exact hl);rw [eZ] at qT;refine lU (h8 (F.run X.A X.stack s H ⟨us,[]⟩ us vs Q (G σ) hr I.env0 qT r h) fun r s' hq=>?_);cases r with
 | error e=>exact hx b9 σ H s e s' I hq
 | ok fl =>
   cases fl with
   | ret u=>exact I.after hq
   | next=>exact False.elim hq
   | brk=>exact False.elim hq
   | cont=>exact False.elim hq
theorem jFo(D:DfE X.prog X.w X.K X.mg X.base k x ps sp)(hx:jCU X G)(hr:kJ k X.A)(hg:Gl X x)(ha:PA X (e::es) t)(oO:(x==("__debug__":Str))=false:=by decide) 
 (he:dG (e::es) X.env=(false,eU e X.env)::dG es X.env:=by rfl) (j4:(fZ pos (dG es X.env)).any (·.1)=false:=by rfl):PE X (.Call (.Name x p) (e::es) [] pos) (tCallE sp G t):=by
 intro b9 s σ H Q I h;obtain⟨f,fd,F,b,kp,hm⟩:=D.ex;refine fR (jCQ I hg hm ?_ oO);refine j9 (h₀:=X.base) I.ok.mod.kin kp (thn (ha pos b9 s σ H _ I h) fun us s1 ⟨vs,H1,I1,r,q⟩=>⟨I1.kIn,?_⟩) he j4;exact jJ7 F hr b hx I1 r q
theorem oM(k:Nat)(hx:jCU X G)(hr:kJ k X.A)(he:PE X o ta)(ha:PA X (e::es) t) 
 (hst:dG (e::es) X.env=(false,eU e X.env)::dG es X.env:=by rfl) (j4:(fZ pos (dG es X.env)).any (·.1)=false:=by rfl)
 (ht:eU (.Call (.Attribute o m i7) (e::es) [] pos) X.env=(do
  let ov <- eU o X.env
  lK i7.atName
  let (f,first) <- j6 [ov] (mZ ov m pl)
  m5 pos f first (fZ pos (dG (e::es) X.env)) (i6 pos (gI [] X.env))):=by rfl) :
 PE X (.Call (.Attribute o m i7) (e::es) [] pos) (jLV X.prog X.w X.K X.mg X.base k m G ta t):=by
 intro b9 s σ H Q I h;refine kD (pl:=pl) (thn (he b9 s σ H _ I h) fun u s1 ⟨x,H1,I1,rx,a,C,dx,fs,ps,sp,ex,ea,l,c,D,q⟩=>?_) ht;subst ex;obtain rfl:u=Value.ref a:=rx;obtain⟨f,fd,hm,F,b⟩:=D.ex;refine jI1 I1 ea c hm l ?_;refine j9 (first:=[.ref a]) (h₀:=X.base) I.ok.mod.kin hm.kp (thn (ha pos b9 s1 σ H1 _ I1 q) fun us s2 ⟨vs,H2,I2,r,q2⟩=>⟨I2.kIn,?_⟩) hst j4;exact jJ7 (us:=.ref a::us) (vs:=.ref a::vs) F hr b hx I2 (.cons rfl r) q2
theorem jR(k:Nat)(hx:jCU X G)(hr:kJ k X.A)(he:PE X o ta) 
 (ht:eU (.Call (.Attribute o m i7) [] [] pos) X.env=(do
  let ov <- eU o X.env
  lK i7.atName
  let (f,first) <- j6 [ov] (mZ ov m pl)
  m5 pos f first (fZ pos (dG [] X.env)) (i6 pos (gI [] X.env))):=by rfl) :
 PE X (.Call (.Attribute o m i7) [] [] pos) (jLV X.prog X.w X.K X.mg X.base k m G ta jGP):=by
 intro b9 s σ H Q I h;refine kD (pl:=pl) (thn (he b9 s σ H _ I h) fun u s1 ⟨x,H1,I1,rx,a,C,dx,fs,ps,sp,ex,ea,l,c,D,q⟩=>?_) ht;subst ex;obtain rfl:u=Value.ref a:=rx;obtain⟨f,fd,hm,F,b⟩:=D.ex;refine jI1 I1 ea c hm l ?_;exact qX (first:=[.ref a]) I1.kIn hm.kp (jJ7 (us:=[.ref a]) (vs:=[.ref a]) F hr b hx I1 (.cons rfl .nil) q)
end
end L2
namespace PySem.W
open PySem PyProof.Rows PySem.Spec PySem.Calls
def mroHas(K:Frag)(C:Addr)(c:Value):Bool:=match K.lookup C with
 | some ⟨_,_,.cls cd,_⟩=>cd.mro.contains c
 | _=>false
theorem jJ8{K:Frag}{h:Heap}{C:Addr}(X:K.In h)(q:excMk K C=true):∃ sE,ExcAt h C sE/\OwnTail h jE3 sE/\∀ c,mroHas K C c=(Value.ref C::sE).contains c:=by
 obtain⟨sE,hE,T⟩:=jHH X q;refine⟨sE,hE,T,fun c=>?_⟩;unfold mroHas;cases hk:K.lookup C with
 | none =>
   unfold excMk at q;rw [hk] at q;cases q
 | some o =>
   obtain⟨N,nm,q,bs,u9,sn,sub,ab,col,dd,q0,q1,q2,q3,q5,hCl⟩:=hE;have z:=X _ _ hk;rw [hCl] at z;cases z;rfl
section
variable {M:Model}{A:Around}{E:Value->Shared->Prop}{env:Env}{K:Frag}
theorem exc_match{h:Heap}{g:Array GenState}{d:Drawn}{t:Nat}{os:OsState}{e C D:Addr}{oe:Obj}{Q:Bool->Shared->Prop}(X:K.In h)(qC:excMk K C=true)(qD:excMk K D=true)(he:h.get? e=some oe)(hc:oe.cls=.ref C)
 (hq:Q (mroHas K C (.ref D)) ⟨h,g,d,t,os⟩):dC M A (excMatches (.ref e) (.ref D)) Q E ⟨h,g,d,t,os⟩:=by
 obtain⟨tl,⟨N,nm,q,bs,u9,sn,sub,ab,col,dd,q0,q1,q2,q3,q5,hC⟩,_,mh⟩:=jJ8 X qC;obtain⟨tl',⟨N',pK,q',bs',hdct',sn',sub',ab',col',dd',q0',q1',q2',q3',q5',hD⟩,T,_⟩:=jJ8 X qD;have hB:(Value.ref D::tl').contains (.type "BaseException")=true:=by
  rw [mF,T.hasType (show jE3.contains (.type "BaseException")=true from by decide +kernel),Bool.or_true]
 rw [mh] at hq;have f:=tc_notTuple;unfold excMatches
 repeat (first|(with_reducible refine iQ he ?_;rw [hc])|with_reducible refine iQ hD ?_|(with_reducible refine lI hD ?_;rw [hB])|with_reducible refine lI hC ?_|wp_step)
 all_goals (cases hb:(Value.ref C::tl).contains (.ref D)<;>(rw [hb] at hq;wp_walk;exact hq))
theorem raise_X{s:Shared}{x:Sem Value}{Q:Flow->Shared->Prop}(hh:A.handled=none)
 (h:dC M A x (fun v s1=>∃ e C d t0,v=.ref e/\K.In s1.heap/\excMk K C=true/\s1.heap.get? e=some ⟨.ref C,d,.fields #[.ref t0,.none,.none,.none,.bool false,.none],#[]⟩/\E (.ref e) s1) E s) :
 dC M A (zO env (some x) none) Q E s := by  -- raised here
 unfold zO;refine c5 (eB h (fun v s1 h1=>?_) fun _ _ x=>x);obtain⟨e,C,d,t0,rfl,X,qC,he,hE⟩:=h1;obtain⟨tl,⟨N,nm,q,bs,u9,sn,sub,ab,col,dd,q0,q1,q2,q3,q5,hC⟩,T,_⟩:=jJ8 X qC;have hB:(Value.ref C::tl).contains (.type "BaseException")=true:=by
  rw [mF,T.hasType (show jE3.contains (.type "BaseException")=true from by decide +kernel),Bool.or_true]
 obtain⟨hp,g,d',tk,os⟩:=s1
 repeat (first|with_reducible refine iQ he ?_|with_reducible refine iQ hC ?_|(with_reducible refine lI hC ?_;rw [hB])|wp_step)
 exact (wpAny_raiseNew_none hh hE)
end
end PySem.W
namespace L2
open PySem PyProof.Rows PySem.Spec PySem.Calls
inductive jJ9(K:PySem.W.Frag)(G:St->XK)(σ:St)(v:V)(H1:Hp):Prop|mk ea C d:v=.ref ea->H1 ea=some (XO ea C d)->PySem.W.excMk K C=true->G σ (.ref C) (some ea) (upd H1 ea (XC ea C d))->jJ9 K G σ v H1
def tRaise(K:PySem.W.Frag)(G:St->XK)(te:TE):TS:=fun _ σ H=>te σ H fun v H1=>jJ9 K G σ v H1
abbrev Cx.caught(X:Cx)(ea:Addr):Cx:={ X with A:=X.A.mark (some (.ref ea)),calm:=false,xe:=fun _ _=>False }
abbrev Cx.inTry(X:Cx)(ps:List (Addr×Obj))(xe:Value->Shared->Prop):Cx:={ X with pn:=X.pn++ps,xe:=xe }
section
variable {X:Cx}{b9:List (Addr×Obj)}{σ:St}{H:Hp}{s:Shared}{ea:Addr}
theorem uD(hR:jNs X G)(hc:X.calm=true)(he:PE X e te):PS X (.Raise (some e) none pos) (tRaise X.K G te):=by
 intro b9 s σ H D I h;show dC _ _ (do lK pos;zO X.env (some (do let v <- eU e X.env;lK pos;pure v)) none) _ _ s;refine c5 (jL (PySem.W.raise_X (K:=X.K) (I.ok.hd hc) (c5 (thn (he b9 s σ H _ I h) fun v s1 ⟨x,H1,I1,rx,ea,C,d,ex,hx,mk,q⟩=>c5 (jL (dE ?_))))));subst ex;obtain rfl:v=Value.ref ea:=rx;obtain⟨t0,g1⟩:=jHJ I1.hok hx;exact⟨ea,C,d,t0,rfl,I1.kIn,mk,g1,hR b9 σ H1 s1 ea C d I1 hx q⟩
theorem Cx.Ok.caught(ok:X.Ok):(X.caught ea).Ok :=
 ⟨ok.mod,ok.kind,ok.glob,ok.blt,ok.above,ok.inj,ok.has,ok.cab,(fun z=>nomatch z),ok.frames,ok.stk,ok.exf,ok.bs,ok.bsz,ok.noex,ok.exfs,ok.funs,ok.frf⟩
theorem Inv.caught(I:Inv X b9 σ H s):Inv (X.caught ea) b9 σ H s:=⟨I.ok.caught,I.os,I.bare,I.base,I.loc,I.cell,I.free,I.freeC,I.pin,I.hok,I.len⟩
theorem Inv.uncaught(o:X.Ok)(I:Inv (X.caught ea) b9 σ H s):Inv X b9 σ H s:=⟨o,I.os,I.bare,I.base,I.loc,I.cell,I.free,I.freeC,I.pin,I.hok,I.len⟩
theorem Cx.Ok.inTry{ps:List (Addr×Obj)}{xe:Value->Shared->Prop}(ok:X.Ok):(X.inTry ps xe).Ok :=
 ⟨ok.mod,ok.kind,ok.glob,ok.blt,ok.above,ok.inj,ok.has,ok.cab,ok.hd,ok.frames,ok.stk,ok.exf,ok.bs,ok.bsz,ok.noex,ok.exfs,ok.funs,ok.frf⟩
theorem Inv.inTry(I:Inv X b9 σ H s):Inv (X.inTry b9 xe) [] σ H s:=⟨I.ok.inTry,I.os,I.bare,I.base,I.loc,I.cell,I.free,I.freeC,fun p hp=>I.pin p (by rw [<- eZ (X.pn++b9)];exact hp),I.hok,I.len⟩
theorem Inv.outTry(o:X.Ok)(I:Inv (X.inTry ps xe) b9 σ H s):Inv X ps σ H s:=⟨o,I.os,I.bare,I.base,I.loc,I.cell,I.free,I.freeC,fun p hp=>I.pin p (fX _ hp),I.hok,I.len⟩
theorem SP.outTry(o:X.Ok)(h:SP (X.inTry ps xe) b9 D f s'):SP X ps D f s':=by
 cases f with
 | next=>obtain⟨σ',H',I,q⟩:=h;exact⟨σ',H',I.outTry o,q⟩
 | brk=>obtain⟨σ',H',I,q⟩:=h;exact⟨σ',H',I.outTry o,q⟩
 | cont=>obtain⟨σ',H',I,q⟩:=h;exact⟨σ',H',I.outTry o,q⟩
 | ret u=>obtain⟨v,σ',H',I,r,q⟩:=h;exact⟨v,σ',H',I.outTry o,r,q⟩
end
abbrev TH:=tH->St->Hp->Addr->Addr->Prop
def PH(X:Cx)(hs:List ExceptHandler)(t:TH):Prop:=∀ (b9:List (Addr×Obj)) (s:Shared) (σ:St) (H:Hp) (D:tH) (ea C:Addr) (d:Option Addr),Inv X b9 σ H s->H ea=some (XC ea C d)->TrI X b9 H ea s.heap->t D σ H C ea ->
 dC (dF X.prog X.w) X.A (handleBy (.ref ea) X.env hs) (SP X b9 D) X.xe s
def tNoH:TH:=fun _ _ _ _ _=>False
def tTry(tb:(St->XK)->TS)(th:TH):TS:=fun D σ H=>tb (fun σ' c oa H'=>∃ C ea,c=.ref C/\oa=some ea/\th D σ' H' C ea) D σ H
section
variable {X:Cx}
theorem ph_nil:PH X [] tNoH:=fun _ _ _ _ _ _ _ _ _ _ _ h=>h.elim
theorem ps_try(t:Top X) 
 (hb:∀ (ps:List (Addr×Obj)) (xe:Value->Shared->Prop) (G:St->XK),jCU (X.inTry ps xe) G->PassesOwn (dF X.prog X.w) X.A X.env xe->PSs (X.inTry ps xe) body (tb G))
 (hh:PH X (h₀::hs) th):PS X (.Try body (h₀::hs) [] [] pos) (tTry tb th):=by
 intro b9 s σ H D I h;have o:=I.ok;refine wpAny_Try_except (thn (hb b9 _ _ ?_ PassesOwn.looking [] s σ H D I.inTry h) fun f s1 q=>?_)
 ·intro ps2 σ2 H2 s2 e s3 I2 c;obtain⟨ea,C,d,H3,rfl,I3,hx,tr,C',ea',e1,e2,q⟩:=I2.flew c;cases e1;cases e2;have tr':TrI X b9 H3 ea s3.heap:=let ⟨a1,a2,a3,a4,a5,b1,b2,b3,b4,b5,b6,b7,b8⟩:=tr;⟨a1,a2,a3,a4,a5,b1,b2,b3,b4,b5,b6,b7,fun p hp=>b8 p (fX _ hp)⟩;exact jHK t (I3.outTry o) hx tr' fun s4 I4 t4=>hh b9 s4 σ2 H3 D ea C d I4 hx t4 q
 ·have q':=q.outTry o;cases f with
  | next=>exact lA q'
  | brk=>exact q'
  | cont=>exact q'
  | ret u=>exact q'
end
def XG(H:Hp)(e C:Addr)(fs:List (Str×V)):Prop:=∃ dx,IsX H e C (some dx)/\H dx=some (XD dx fs)/\dx≠e
theorem XF.raised(x:XF H e C fs):∃ dx,H e=some (XO e C (some dx))/\XG (L2.upd H e (XC e C (some dx))) e C fs :=
 let ⟨d,a,b,c⟩:=x
 ⟨d,a,d,.inr d4,by rw [dW c];exact b,c⟩
section
variable {X:Cx}{e o:Expr}{es:List Expr}{f x:Str}{p pos i7:Pos}{ta:TE}{t:TA}{k:Nat}{ps:List Str}{sp:Sp}
structure InO(K:PySem.W.Frag)(B f:Addr):Prop where
 sp:iX K (.ref B) "__getattribute__"=some (some (.builtin "type.__getattribute__"))
 rd:o4 K B (.type "type")=true
 fc:pF K (.ref B) (.type "type") "__init__"=some (.val (.ref f))
structure InD(P:Program)(w:World)(K:PySem.W.Frag)(mg:Str->Option Value)(base:Heap)(k:Nat)(x:Str)(B:Addr)(ps:List Str)(sp:Sp):Prop where
 ex:∃ f fd,InO K B f/\fJ P w K mg base CX0 k f fd ps sp/\oY K fd ps []/\i8 K (.ref f)=true/\mg x=some (.ref B)
theorem jD1(D:InD X.prog X.w X.K X.mg X.base k x B ps sp)(hr:kJ k X.A)(hg:Gl X x)(ha:PA X (e::es) t)(oO:(x==("__debug__":Str))=false:=by decide) 
 (hst:dG (e::es) X.env=(false,eU e X.env)::dG es X.env:=by rfl) (j4:(fZ pos (dG es X.env)).any (·.1)=false:=by rfl)
 (ht:eU (.Call (.Attribute (.Name x p) "__init__" i7) (e::es) [] pos) X.env=(do
  let ov <- eU (.Name x p) X.env
  lK i7.atName
  let (f,first) <- j6 [ov] (mZ ov "__init__" pl)
  m5 pos f first (fZ pos (dG (e::es) X.env)) (i6 pos (gI [] X.env))):=by rfl) :
 PE X (.Call (.Attribute (.Name x p) "__init__" i7) (e::es) [] pos) (tCall sp [] E0 t):=by
 intro b9 s σ H Q I h;obtain⟨f,fd,J,F,b,kp,hm⟩:=D.ex;refine kD (pl:=pl) (jCQ I hg hm ?_ oO) ht;refine sL I.kIn J.sp (vG I.kIn J.rd J.fc rfl ?_);refine j9 (first:=[]) (h₀:=X.base) I.ok.mod.kin kp (thn (ha pos b9 _ σ H _ (I.tok (s.toks+1)) h) fun us s1 ⟨vs,H1,I1,r,q⟩=>⟨I1.kIn,?_⟩) hst j4;exact jOd F hr b .nil jI5 I1 r q
theorem jCJ(D:MkD X.prog X.w X.K X.mg X.base k x C ps sp)(hr:kJ (k+1) X.A)(hg:Gl X x)(oO:(x==("__debug__":Str))=false:=by decide):PE X (.Call (.Name x p) [] [] pos) (jLt C sp [] E0 jGP):=by
 obtain⟨f,fd,M,F,b,m⟩:=D.ex;exact jO_ M F hr hg m b .nil jI5 oO
end
section
variable {P:Program}{w:World}{K:PySem.W.Frag}{mg:Str->Option Value}{base:Heap}{j k:Nat}{x m:Str}{C:Addr}{ps:List Str}{sp:Sp}
theorem MtE.mono(D:MtE P w K mg base j m C ps sp)(h:j<=k):MtE P w K mg base k m C ps sp:=let ⟨f,fd,a,b,c⟩:=D.ex;⟨f,fd,a,b.mono h,c⟩
end
theorem top_nox{CX:CXT}{P:Program}{w:World}{K:PySem.W.Frag}{mg:Str->Option Value}{base:Heap}{N:List Str}{qual:Str}{scope:Scope}{f:Addr}{cd:Value}{A:Around}{outer:List Env}{s:Shared}{H:Hp}{E:XK} :
 Top (jHB CX P w K mg base N qual scope f cd A outer s H E).nox:=⟨rfl,rfl,rfl⟩
section
variable {X:Cx}{P:Program}{w:World}{K:PySem.W.Frag}{mg:Str->Option Value}{base:Heap}{G:St->XK}{m:Str}{pos i7:Pos}{e o:Expr}{es:List Expr}{ta:TE}{t:TA}
theorem jOx(q:X.prog=P/\X.w=w/\X.K=K/\X.mg=mg/\X.base=base)(k:Nat)(hx:jCU X G)(hr:kJ k X.A)(he:PE X o ta)(ha:PA X (e::es) t) 
 (hst:dG (e::es) X.env=(false,eU e X.env)::dG es X.env:=by rfl) (j4:(fZ pos (dG es X.env)).any (·.1)=false:=by rfl)
 (ht:eU (.Call (.Attribute o m i7) (e::es) [] pos) X.env=(do
  let ov <- eU o X.env
  lK i7.atName
  let (f,first) <- j6 [ov] (mZ ov m pl)
  m5 pos f first (fZ pos (dG (e::es) X.env)) (i6 pos (gI [] X.env))):=by rfl) :
 PE X (.Call (.Attribute o m i7) (e::es) [] pos) (jLV P w K mg base k m G ta t):=by
 obtain⟨rfl,rfl,rfl,rfl,rfl⟩:=q;exact oM (pl:=pl) k hx hr he ha hst j4 ht
end
section
variable {X:Cx}{K:PySem.W.Frag}{e:Expr}{f:Str}{pos:Pos}{ta:TE}
end
open PySem PySem.Spec PyProof.Rows
def Its(lo d:Int)(n:Nat):It:=⟨fun i _=>i<n,fun i H x H'=>H'=H/\x=.int (lo+i*d),fun i _=>n<=i⟩
theorem jMS{P:Program}{w:World}{K:PySem.W.Frag}{tg:Expr}(it:Addr)(lo d:Int)(n:Nat):jHy P w K tg (Its lo d n) [it] it (fun i h=>IsRangeIter h it (lo+(i:Nat)*d) ((n:Int)-(i:Nat)) d) where
 mem:=by simp
 obj:=fun i h st b hb=>by
  have e:b=it:=by simpa using hb
  subst e;exact⟨_,st,fun v z=>nomatch (show Data.fields _=Data.cell v from z)⟩
 keep:=fun i h h' st k=>k it (by simp) _ st
 item:=by
  intro X hP hw hK hc i b9 s σ H E I hf st hg;subst hP hw hK;obtain⟨f0,f1,f2,f3,f4,f5⟩:=hf it (by simp);have W:=Walks.range (prog:=X.prog) (w:=X.w) (I.ok.hd hc) it lo d n;refine W.item i s _ _ hg st fun v h' tk hv uI kk=>?_;obtain⟨t,rfl⟩:=hv;have I1:Inv X b9 σ H { s with heap:=h',toks:=tk }:=I.turned (fun b o hb e=>kk b o (by simpa using hb) e) f0 f1 f3 f4 f5;exact⟨_,rfl,jLs (s:={ s with heap:=h',toks:=tk }) (n:="range_iterator") uI rfl rfl (by decide) ⟨.int (lo+i*d),H,I1,⟨t,rfl⟩,⟨rfl,rfl⟩,uI,fun b hb=>(hf b hb).1⟩⟩
 done:=by
  intro X hP hw hK hc i b9 s σ H E I hf st hg;subst hP hw hK;obtain⟨f0,f1,f2,f3,f4,f5⟩:=hf it (by simp);exact x8 (I.ok.hd hc) st (by have:n<=i:=hg;omega) fun h' eb=>⟨rfl,I.turned (t':=s.toks) (fun b o hb e=>eb b o hb e) f0 f1 f3 f4 f5⟩
 self:=fun _ _ _ _ _ st h=>yA st h
theorem jNK(lo d:Int)(n:Nat)(H1:Hp):Seq (Its lo d n) H1 ((range n).map fun i=>V.int (lo+(i:Nat)*d)) where
 go:=fun i H _ hi=>by
  rw [c6,dP] at hi;exact hi
 yld:=fun i H x H' _ hi y=>by
  obtain⟨e,hx⟩:=y;exists e;rw [c6,dP] at hi;rw [getElem?_map,getElem?_range hi,hx];rfl
 stop:=fun H _=>by
  show n<=_;rw [c6,dP];exact le_refl _
theorem jNL(ha:-(2^60)<=a)(ha':a<2^60)(hb:-(2^60)<=b)(vA:b<2^60)(hd:0<d)(hd':d<2^29):Builtin.Range.small a b d=true:=by
 unfold Builtin.Range.small Builtin.Range.rangeSize;simp only [Builtin.Range.rangeFitsLong,fA,Bool.or_eq_true,decide_eq_true_eq,beq_iff_eq,show d > 0 from hd,if_true];by_cases h:a<b
 ·have h1:(b-a-1)/d<=b-a-1:=Int.ediv_le_self _ (by omega);have h2:0<=(b-a-1)/d:=Int.ediv_nonneg (by omega) (by omega);have h3:d*((b-a-1)/d)<=b-a-1:=Int.mul_ediv_self_le (by omega);simp only [if_pos h];omega
 ·simp only [if_neg h];omega
section
variable {X:Cx}{tg:Expr}
theorem jOy{b9:List (Addr×Obj)}{σ:St}{H:Hp}{s:Shared}{R:It->Hp->Prop}{E:Value->Shared->Prop}{lo hi d:Int}{t u v:Tok}{tk:Nat}(I:Inv X b9 σ H s)(hs:Builtin.Range.small lo hi d=true)(h0:0<=Builtin.Range.rangeSize lo hi d)
 (q:R (Its lo d (Builtin.Range.rangeSize lo hi d).toNat) H):dC (dF X.prog X.w) X.A (y9 (.ref s.heap.objs.size)) (PIE X b9 σ tg R) E { s with heap:=s.heap.push { cls:=.type "range",data:=.fields #[.int lo t,.int hi u,.int d v] },toks:=tk }:=by
 refine yS (IsRange.new ..) hs ?_;have I1:Inv X b9 σ H { s with heap:=s.heap.push { cls:=.type "range",data:=.fields #[.int lo t,.int hi u,.int d v] },toks:=tk }:=I.kept fun b o e=>get?_push_of_some _ e
 refine⟨(s.heap.push { cls:=.type "range",data:=.fields #[.int lo t,.int hi u,.int d v] }).objs.size,[(s.heap.push { cls:=.type "range",data:=.fields #[.int lo t,.int hi u,.int d v] }).objs.size],_,_,H,rfl,
  I1.kept (t':=tk) fun b o e=>get?_push_of_some _ e,jMS _ lo d _,?_,fun b hb=>?_,q⟩
 ·have e1:lo+((0:Nat):Int)*d=lo:=by simp
  have e2:(((Builtin.Range.rangeSize lo hi d).toNat:Nat):Int)-((0:Nat):Int)=Builtin.Range.rangeSize lo hi d:=by omega
  show IsRangeIter _ _ (lo+((0:Nat):Int)*d) ((((Builtin.Range.rangeSize lo hi d).toNat:Nat):Int)-((0:Nat):Int)) d;rw [e1,e2];exact (get?_push_size _ rfl)
 ·have e:b=(s.heap.push { cls:=.type "range",data:=.fields #[.int lo t,.int hi u,.int d v] }).objs.size:=by simpa using hb
  subst e;exact I1.fpOk (le_refl _) (I1.hok.fresh (le_refl _))
def iRng3(ta:TA):TI:=fun σ H R=>ta σ H fun vs H1=>∃ i j d:Int,vs=[.int i,.int j,.int d]/\(-(2^60)<=i/\i<2^60/\-(2^60)<=j/\j<2^60/\0<d/\d<2^29)/\R (Its i d (if i<j then (j-i-1)/d+1 else 0).toNat) H1
theorem jOz(hg:Gl X "range")(hm:X.mg "range"=none)(ha:PA X [a,b,c] ta)(hs:dG [a,b,c] X.env=[(false,eU a X.env),(false,eU b X.env),(false,eU c X.env)]:=by rfl)(uE:dG [b,c] X.env=[(false,eU b X.env),(false,eU c X.env)]:=by rfl) :
 PI X tg (.Call (.Name "range" p) [a,b,c] [] pos) (iRng3 ta):=by
 intro b9 s σ H R I h;refine Call_ (jC3 I hg hm vH (PyProof.Rows.callWith_type1 (thn (ha pos b9 s σ H _ I h) fun us s1 ⟨vs,H1,I1,r1,q1⟩=>?_) (by rw [hs,uE]) (by rw [uE];rfl)));obtain⟨i,j,d,e,⟨q1,q2,q3,q4,q5,q6⟩,q⟩:=q1;subst e;obtain⟨u1,u2,u3,rfl,x1,x2,x3⟩:∃ u1 u2 u3,us=[u1,u2,u3]/\gN (.int i) u1/\gN (.int j) u2/\gN (.int d) u3:=by
  cases r1 with
  | cons x1 rr =>
    cases rr with
    | cons x2 rr =>
      cases rr with
      | cons x3 rr =>
        cases rr;exact⟨_,_,_,rfl,x1,x2,x3⟩
 obtain⟨t1,rfl⟩:=x1;obtain⟨t2,rfl⟩:=x2;obtain⟨t3,rfl⟩:=x3;have er:Builtin.Range.rangeSize i j d=if i<j then (j-i-1)/d+1 else 0:=by
  unfold Builtin.Range.rangeSize;rw [if_pos (show d > 0 from q5)]
 refine call_range_3 (by omega) (jOy I1 (jNL q1 q2 q3 q4 q5 q6) ?_ (by rw [er];exact q)) (Or.inl (nM (by omega)));rw [er];split
 ·have:=Int.ediv_nonneg (a:=j-i-1) (b:=d) (by omega) (by omega);omega
 ·exact Int.le_refl _
end
def New(H H':Hp)(G:Hp->Prop):Prop:=∃ S:Addr->Prop,(∀ b,S b->H b=none/\∃ o,H' b=some o)/\∀ H3,(∀ b,S b->H3 b=H' b)->G H3
theorem jFp(S:Seq J H1 xs)(G:V->V->Hp->Prop)(hz:xs.length<c9) 
 (hc:∀ x∈xs,∀ (H':Hp) (R:Bool->Hp->Prop),eC H1 H'->R true H'->tc (σf (some x)) H' R)
 (he:∀ x∈xs,∀ (H':Hp) (R:VK),eC H1 H'->(∀ y H'',eC H' H''->New H' H'' (G x y)->R y H'')->te (σf (some x)) H' R)
 (q:∀ D H' ys,eC H1 H'->H1 D=none->H' D=some (.lst ys)->ys.length=xs.length->(∀ (i:Nat) x y,xs[i]?=some x->ys[i]?=some y->G x y H')->Q (.ref D) H'):jJc J tc te σf H1 Q:=by
 intro D hD
 refine⟨fun i m ys H2=>m=xs.length-i/\i<=xs.length/\eC H1 H2/\H2 D=some (.lst ys)/\ys.length=i/\∀ (k:Nat) x y,xs[k]?=some x->ys[k]?=some y->∃ Z:Addr->Prop,(∀ b,Z b->b≠D/\∃ o,H2 b=some o)/\∀ H3,(∀ b,Z b->H3 b=H2 b)->G x y H3,
  ⟨xs.length,rfl,d5 _,gM hD _,d4,rfl,fun k x y _ e=>by simp at e⟩,?_⟩
 rintro i m ys H2 ⟨rfl,hi,sm,vB,hl,hg⟩;exists vB;by_cases kP:i<xs.length
 ·refine .inr ⟨S.go i H2 sm kP,by omega,fun x H3 y=>?_⟩;obtain⟨e,hx⟩:=S.yld i H2 x H3 sm kP y;subst e;have mem:x∈xs:=mem_of_getElem? hx;refine hc x mem _ _ sm (kM (he x mem _ _ sm fun yv H5 s5 ny=>⟨s5 _ _ vB,xs.length-(i+1),by omega,rfl,kP,w5 hD (sm.trans s5) _,d4,by rw [dH,hl];rfl,fun k x' y' ex ey=>?_⟩));by_cases hk:k<i
  ·rw [getElem?_append_left (by omega)] at ey;obtain⟨Z,z1,z2⟩:=hg k x' y' ex ey;refine⟨Z,fun b hb=>?_,fun H6 h6=>z2 H6 fun b hb=>?_⟩
   ·obtain⟨nb,o,ho⟩:=z1 b hb;exact⟨nb,o,by rw [dW nb];exact s5 _ _ ho⟩
   ·obtain⟨nb,o,ho⟩:=z1 b hb;rw [h6 b hb,dW nb,s5 _ _ ho,ho]
  ·have ek:k=i:=by
    have:=(List.getElem?_eq_some_iff.mp ey).1;rw [dH,hl] at this;have:k<i+1:=this;omega
   subst ek;rw [getElem?_append_right (by omega),hl,sI] at ey;obtain rfl:yv=y':=Option.some.inj ey;obtain rfl:x=x':=Option.some.inj (hx.symm.trans ex);obtain⟨Z,z1,z2⟩:=ny;have nD:∀ b,Z b->b≠D:=fun b hb e=>by
    have:=(z1 b hb).1;rw [e,vB] at this;cases this
   refine⟨Z,fun b hb=>?_,fun H6 h6=>z2 H6 fun b hb=>?_⟩
   ·obtain⟨_,o,ho⟩:=z1 b hb;exact⟨nD b hb,o,by rw [dW (nD b hb)];exact ho⟩
   ·rw [h6 b hb,dW (nD b hb)]
 ·have e:i=xs.length:=by omega
  refine .inl ⟨by rw [e];exact S.stop H2 sm,q D H2 ys sm hD vB (by omega) fun k x y ex ey=>?_⟩;obtain⟨Z,_,z2⟩:=hg k x y ex ey;exact z2 H2 fun _ _=>rfl
theorem jHL{A:Around}{n:Nat}(h:A.units+(n+1)<kR):A.in1.units+n<kR:=by
 have:A.in1.units=A.units+1:=by first|rfl|exact Around.units_in1 _
 omega
theorem uQ(hr:kJ k A)(n:Nat)(h:n<=60):A.units+(n+1)<kR:=iC (Nat.add_le_add_left (by omega:n+1<=64) _) hr.units
section
variable {X:Cx}{vE lR:Expr}{x x2:Str}{px px2 tp pos:Pos}{kk:Nat}{tM:List Expr}{scope:Scope}{frees:List (Str×Nat)}{tc:TT}{te:TE}
end
def jGW(i:Int)(n:Nat):List V:=(range n).map fun k=>V.int (i+(k:Nat))
theorem jJ_:∀ {xs:List V} {us:List Value},xs.length=us.length->(∀ (k:Nat) x u,xs[k]?=some x->us[k]?=some u->gN x u)->gX xs us
 | [],[],_,_=>.nil
 | x::xs,u::us,e,h=>.cons (h 0 x u rfl rfl) (jJ_ (Nat.succ.inj e) fun k y w h1 h2=>h (k+1) y w h1 h2)
 | [],_::_,e,_=>nomatch e
 | _::_,[],e,_=>nomatch e
theorem jPn:∀ {n:Nat} {iM:Array Value},ItemsOf (fun k v=>∃ t,v=.int (i+(k:Nat)*1) t) iM n->gX (jGW i n) iM.toList:=by
 intro n iM h;refine jJ_ (by unfold jGW;rw [c6,dP,jE,h.1]) fun k x u hx hu=>?_;have hu':iM[k]?=some u:=by simpa using hu
 obtain⟨t,rfl⟩:=h.2 k u hu';unfold jGW at hx;rw [getElem?_map] at hx;obtain⟨m,em,rfl⟩:=dY.mp hx;have:m=k:=by
  obtain⟨_,e⟩:=List.getElem?_eq_some_iff.mp em;rw [List.getElem_range] at e;exact e.symm
 subst this;exact⟨t,by rw [Int.mul_one]⟩
section
variable {X:Cx}
end
end L2
namespace PySem
open Sem (wp)
theorem jKa:y3 (.type "list") "keys"=pure none:=am_miss_of_fast (by decide +kernel)
theorem jMT 
 (hx:s.heap.get? a=some { cls:=.type "list",dict:=none,data:=.seq xs n }) (hA:A.handled=none)
 (h:∀ h' tk,(∀ b ob,s.heap.get? b=some ob->h'.get? b=some ob)->Q none { s with heap:=h',toks:=tk }) :
 dC (dF prog w) A (getAttr? (.ref a) "keys") Q E s:=by
 obtain⟨hp,g,d,tk,os⟩:=s;have hT:∀ tk',(⟨hp,g,d,tk',os⟩:Shared).TypeIs (.ref a) "list":=fun _=>⟨_,hx,rfl⟩
 have g1:=sub_AttributeError;have g3:=F.slot_list_getattribute.lookup;have g4:=F.slot_list_getattribute.bind (.ref a);have g5:=am_list_getattr_none;unfold getAttr? getAttrBy? getAttrBy
 repeat (any_goals (first|assumption|exact hT _|((with_reducible show dC _ _ (call (Value.builtin "list.__getattribute__") _ _) _ _ _);refine nH F.slot_list_getattribute (hT _) am_entry_list_getattribute (F.args_list_getattribute_2 _ _) (meets_getattribute_miss_list a xs n _ "keys" _ jKa (by decide +kernel) (by size_fits)) ⟨hx,hA,fun h' tk' e hx=>?_⟩)|wp_step))
 obtain⟨t',u',he⟩:=hx.there;show dC (dF prog w) A (zA _ _ _ _ _ _ _) _ _ _;have hTe:∀ tk',(⟨h',g,d,tk',os⟩:Shared).TypeIs (.ref e) "AttributeError":=fun _=>⟨_,he,rfl⟩
 unfold zA
 repeat (any_goals (first|assumption|exact hTe _|wp_step))
 exact h _ _ hx.keeps
theorem jFq:entryFor table "dict.update.loop"=some Builtin.«dict.update.loop»:=entryFor_of_tree (by kernel_rfl)
theorem jCo:plainId "dict.update.loop"=true:=by decide +kernel
section
variable {prog:Program}{w:World}{K:Type}[DecidableEq K]{knd:KeyKind prog w K}{A:Around}{R:Result->Shared->Prop}
def jC5(ps:List (K×Value)):List (K×Value):=ps.foldl (fun iM p=>pJ iM p.1 p.2) []
theorem jNM(kvs:List (K×Value))(k:K)(v:Value):(pJ kvs k v).length<=kvs.length+1:=by
 unfold pJ;split
 ·rw [c6];exact fL _
 ·rw [dH];exact le_refl _
theorem jMU(ps:List (K×Value))(p:K×Value):jC5 (ps++[p])=pJ (jC5 ps) p.1 p.2:=by
 unfold jC5;rw [List.foldl_append];rfl
theorem jKY:∀ (ps iM:List (K×Value)),(ps.foldl (fun iM p=>pJ iM p.1 p.2) iM).length<=iM.length+ps.length
 | [],_=>le_refl _
 | p::r,iM=>by
   have h1:=jKY r (pJ iM p.1 p.2);have h2:=jNM iM p.1 p.2;rw [List.foldl_cons,eY];omega
theorem jNN{h₀:Heap}{l it D:Addr}{items:Array Value}{ps:List (K×Value)}(hA:A.handled=none)(hl:h₀.IsList l items)(nit:h₀.get? it=none)(nD:h₀.get? D=none)(ne:it≠D)
 (hn:items.size=ps.length) (hi:∀ (i:Nat) p,ps[i]?=some p->∃ t lW,items[i]?=some (.ref t)/\knd.is p.1 lW=true/\h₀.IsTuple t #[lW,p.2]) (hz:ps.length<=c9) :
 ∀ (k i:Nat) (s:Shared) (tk:Tok),ps.length-i=k->i<=ps.length->s.heap.IsListIter it l i->(∀ b o,h₀.get? b=some o->s.heap.get? b=some o)->s.heap.DictOf knd D (jC5 (ps.take i)) ->
  (∀ h' tk',(∀ b o,b≠it->b≠D->s.heap.get? b=some o->h'.get? b=some o)->h'.DictOf knd D (jC5 ps)->R (.ok (.ret .none)) { s with heap:=h',toks:=tk' }) ->
  iJ (dF prog w) A (.builtin "dict.update.loop" ⟨[.ref D,.ref it,.int i tk,.none],[]⟩) R s:=by
 intro k;induction k with
 | zero =>
   intro i s tk hk hi' hit kp hD hR;have e:i=ps.length:=by omega
   subst e;refine nU jFq ?_;rw [kC jCo _];show dC _ A.in1 (uJ (.ref it) >>= _) _ _ s;refine c5 (yE (i:=ps.length) (items:=items) hA hit ?_ ?_ fun h' hx=>?_)
   ·exact let ⟨o,ho,r⟩:=hl;⟨o,kp _ _ ho,r⟩
   ·exact Array.getElem?_eq_none (by omega)
   ·show dC _ A.in1 (Builtin.Dict.addKeywords D [] >>= fun _=>ret Value.none) _ _ _;refine c5 (dE (dE (hR h' s.toks (fun b o nb _ e=>hx b o nb e) ?_)));rw [jM] at hD;exact hD.extBut hx (symm ne)
 | succ k ih =>
   intro i s tk hk hi' hit kp hD hR;obtain⟨p,hp⟩:∃ p,ps[i]?=some p:=⟨_,getElem?_eq_getElem (by omega)⟩
   obtain⟨t,lW,ht,tR,htup⟩:=hi i p hp;refine nU jFq ?_;rw [kC jCo _];show dC _ A.in1 (uJ (.ref it) >>= _) _ _ s;refine c5 (x9 (i:=i) (items:=items) hit (let ⟨o,ho,r⟩:=hl;⟨o,kp _ _ ho,r⟩) ht fun h' hit' hs=>?_);have kp':∀ b o,h₀.get? b=some o->h'.get? b=some o:=fun b o e=>(hs.2 b (fun z=>by rw [z,nit] at e;cases e)).trans (kp b o e);obtain⟨ot,hot,hct,nt,hdt⟩:=htup;have hot':=kp' _ _ hot;have hT:(⟨h',s.gens,s.drawn,s.toks,s.os⟩:Shared).TypeIs (.ref t) "tuple":=⟨_,hot',hct⟩
   have tk1:ps.take (i+1)=ps.take i++[p]:=by rw [gR,hp];rfl
   have pz:(jC5 (ps.take i)).length<=c9:=by
    have h1:=jKY (ps.take i) [];rw [fI] at h1;unfold jC5;simp only [lJ] at h1;omega
   show dC _ A.in1 (j6 [Value.ref t] _ >>= _) _ _ _;refine c5 (fW ?_);refine c5 (wpAny_tryCatch ?_);unfold Builtin.Dict.pairItems;refine c5 (wpAny_typeOf hT ?_);rw [if_pos (by decide)];refine c5 (wpAny_seqItems hot' hdt (dE ?_));show dC _ A.in1 (j6 [lW,p.2] (dictSet D lW p.2)) _ _ _;refine fW ?_;have hD':DictOf knd h' D (jC5 (ps.take i)):=hD.sameBut hs (symm ne);refine wpAny_dictSet_pairs (s:=⟨h',s.gens,s.drawn,s.toks,s.os⟩) (hsz:=pz) tR hD' fun h2 vB uE=>?_;rw [<- jMU,<- tk1] at vB;refine dE ⟨wL jCo _,?_⟩;have hit2:h2.IsListIter it l (i+1):=let ⟨o,ho,r⟩:=hit';⟨o,(uE.2 it ne).trans ho,r⟩;refine ih (i+1) ⟨h2,s.gens,s.drawn,s.toks+1,s.os⟩ 0 (by omega) (by omega) hit2 (fun b o e=>(uE.2 b (fun z=>by rw [z,nD] at e;cases e)).trans (kp' b o e)) vB fun h3 tk3 k3 hD3=>?_;exact hR h3 tk3 (fun b o n1 n2 e=>k3 b o n1 n2 ((uE.2 b n2).trans ((hs.2 b n1).trans e))) hD3
theorem jK_{E:Value->Shared->Prop}{s:Shared}{l:Addr}{items:Array Value}{n:Nat}{ps:List (K×Value)}{Q:Value->Shared->Prop}(hA:A.handled=none)(hx:s.heap.get? l=some { cls:=.type "list",dict:=none,data:=.seq items n })
 (hn:items.size=ps.length) (hi:∀ (i:Nat) p,ps[i]?=some p->∃ t lW,items[i]?=some (.ref t)/\knd.is p.1 lW=true/\s.heap.IsTuple t #[lW,p.2]) (hz:ps.length<=c9)
 (h:∀ h' tk,(∀ b o,s.heap.get? b=some o->h'.get? b=some o)->h'.DictOf knd s.heap.objs.size (jC5 ps)->Q (.ref s.heap.objs.size) { s with heap:=h',toks:=tk }) :
 dC (dF prog w) A (call (.type "dict") [.ref l]) Q E s:=by
 refine callType_codes (Q₁:=fun obj fH=>obj=.ref s.heap.objs.size/\fH={ s with heap:=s.heap.push { cls:=.type "dict",data:=.dict #[] } }) F.kt_called_dict (F.kt_typeCall_dict_1 _) F.entry_dict_init (kt_code_dict_new _ ⟨rfl,rfl⟩) ?_;rintro obj fH ⟨rfl,rfl⟩;have u6:(s.heap.push { cls:=.type "dict",data:=.dict #[] }).DictOf knd s.heap.objs.size []:=DictOf.new s.heap;have wC:(s.heap.push { cls:=.type "dict",data:=.dict #[] }).get? l=some { cls:=.type "list",dict:=none,data:=.seq items n }:=get?_push_of_some _ hx;exists u6.typeIs,F.args_dict_init_2 _ _;unfold Builtin.«dict.__init__»;refine c5 ?_;unfold Builtin.Dict.selfAndRest;refine c5 (wpAny_notOrdered_dict u6.typeIs ?_);show dC _ _ (pure (s.heap.objs.size,[Value.ref l])) _ _ _;refine dE ?_;show dC _ _ (Builtin.Dict.updateFrom "dict.__init__" s.heap.objs.size (.ref l) [] .none) _ _ _;unfold Builtin.Dict.updateFrom;refine c5 (wpAny_typeOf (T:="list") ⟨_,wC,rfl⟩ ?_);rw [if_pos (by decide)];refine c5 (jMT wC hA fun h1 tk1 k1=>?_);simp only [Option.isNone_none,if_true];refine c5 (yR (c5 (zC (items:=items) ⟨_,k1 _ _ wC,rfl,n,rfl⟩ ?_)));have hsz:s.heap.objs.size<h1.objs.size:=by
  obtain⟨o,_,_,ho,_⟩:=u6;exact dR (k1 _ _ ho)
 refine dE ⟨wL jCo _,?_⟩;have keep:∀ b o,s.heap.get? b=some o->(h1.push { cls:=.type "list_iterator",data:=.fields #[.ref l,.int 0 0] }).get? b=some o:=fun b o e=>get?_push_of_some _ (k1 _ _ (get?_push_of_some _ e));refine jNN (A:=A.in1) (R:=wants (fun r fQ=>r=Value.none/\Q (Value.ref s.heap.objs.size) fQ) E) (h₀:=s.heap) (l:=l) (items:=items) (ps:=ps) hA ⟨_,hx,rfl,n,rfl⟩ (Heap.get?_none_of_le (iG hsz)) (Heap.get?_none_of_le (le_refl _)) (symm (eA hsz)) hn hi hz ps.length 0 ⟨h1.push { cls:=.type "list_iterator",data:=.fields #[.ref l,.int 0 0] },s.gens,s.drawn,tk1,s.os⟩ 0 (Nat.sub_zero _) (d5 _) ⟨_,get?_push_size _ rfl,rfl,rfl⟩ keep ?_ fun h' tk' k' hD'=>?_
 ·obtain⟨o,es,ep,ho,r⟩:=u6;exact⟨o,es,ep,get?_push_of_some _ (k1 _ _ ho),r⟩
 ·refine⟨rfl,h h' tk' (fun b o e=>k' b o ?_ ?_ (keep b o e)) hD'⟩
  ·intro z;exact absurd (dR e) (by rw [z];exact Nat.not_lt.mpr (iG hsz))
  ·intro z;exact absurd (dR e) (by rw [z];exact gG _)
end
end PySem
namespace L2
open PySem PySem.Spec PyProof.Rows
theorem kv_mk:∀ {kvs:List (Key×V)} {us:List Value},(kvs.map (·.2)).length=us.length->(∀ (i:Nat) q u,kvs[i]?=some q->us[i]?=some u->gN q.2 u)->∃ vs:List (Key×Value),KV kvs vs/\vs.map (·.1)=kvs.map (·.1)/\vs.map (·.2)=us
 | [],[],_,_=>⟨[],.nil,rfl,rfl⟩
 | q::r,u::us,e,h=>by
   obtain⟨vs,h1,h2,h3⟩:=kv_mk (kvs:=r) (us:=us) (Nat.succ.inj e) fun i q u e1 e2=>h (i+1) q u e1 e2;exact⟨(q.1,u)::vs,.cons ⟨rfl,h 0 q u rfl rfl⟩ h1,by rw [dQ,dQ,h2],by rw [dQ,h3]⟩
 | [],_::_,e,_=>nomatch e
 | _::_,[],e,_=>nomatch e
inductive jJd(K:PySem.W.Frag)(xs:List V)(H:Hp)(Q:VK):Prop|mk p ts kvs:xs=[.ref p]->H p=some (.lst ts)->ts.length=kvs.length->(∀ (i:Nat) y (q:Key×V),ts[i]?=some y->kvs[i]?=some q->∃ t,y=.ref t/\SqT K H t [kV q.1,q.2])->(kvs.map (·.1)).Nodup->(∀ d,H d=none->Q (.ref d) (upd H d (.dK kvs)))->jJd K xs H Q
theorem jJe(hc:X.calm=true):CallR X (.type "dict") (jJd X.K):=by
 intro b9 s σ H xs us Q I r h;obtain⟨p,ts,kvs,rfl,hp,lt,ht,nd,q⟩:=h;obtain⟨u,rfl,rx⟩:=uU r;cases rx;obtain⟨hz,its,n,rv,e⟩:=Rd.ok (u:=.lst ts) (.inl hp) I.hok;have li:=rv.length;have at1:∀ (i:Nat) q,kvs[i]?=some q->∃ t lW w',its[i]?=some (.ref t)/\gN (kV q.1) lW/\gN q.2 w'/\s.heap.IsTuple t #[lW,w']:=fun i q eq=>by
  have hi:i<kvs.length:=(List.getElem?_eq_some_iff.mp eq).1;obtain⟨y,ey⟩:∃ y,ts[i]?=some y:=⟨_,getElem?_eq_getElem (by omega)⟩
  obtain⟨t,rfl,hq⟩:=ht i y q ey eq;obtain⟨u,eu,ru⟩:=gX.get rv ey;cases ru;obtain⟨jt,rj,tj,_⟩:=I.tuple hq;cases rj with
  | cons r1 rr =>
    cases rr with
    | cons r2 rr =>
      cases rr;exact⟨t,_,_,eu,r1,r2,tj⟩
 obtain⟨ws,lw,gw⟩:∃ ws:List Value,ws.length=kvs.length/\∀ (i:Nat) q u,kvs[i]?=some q->ws[i]?=some u->gN q.2 u/\∃ t lW,its[i]?=some (.ref t)/\gN (kV q.1) lW/\s.heap.IsTuple t #[lW,u]:=by
  have ch:∀ i:Fin kvs.length,∃ w',gN (kvs[i]).2 w'/\∃ t lW,its[i.1]?=some (.ref t)/\gN (kV (kvs[i]).1) lW/\s.heap.IsTuple t #[lW,w']:=fun i=>by
   obtain⟨t,lW,w',h1,h2,h3,h4⟩:=at1 i.1 kvs[i] (getElem?_eq_getElem i.2);exact⟨w',h3,t,lW,h1,h2,h4⟩
  refine⟨List.ofFn fun i=>Classical.choose (ch i),List.length_ofFn,fun i q u e1 e2=>?_⟩;obtain⟨hi,rfl⟩:=List.getElem?_eq_some_iff.mp e1;rw [List.getElem?_ofFn,dif_pos hi] at e2;obtain rfl:=Option.some.inj e2;exact Classical.choose_spec (ch ⟨i,hi⟩)
 obtain⟨vs,kv,k1,k2⟩:=kv_mk (kvs:=kvs) (us:=ws) (by rw [c6,lw]) fun i q u e1 e2=>(gw i q u e1 e2).1;have lv:vs.length=kvs.length:=by rw [<- c6 (f:=(·.1)),k1,c6]
 refine jK_ (knd:=oB X.prog X.w) (ps:=vs) (I.ok.hd hc) e (by rw [dL];omega) (fun i p ep=>?_) (by omega) fun h' tk keep hd=>?_
 ·have hi:i<vs.length:=(List.getElem?_eq_some_iff.mp ep).1;have e1:kvs[i]?=some kvs[i]:=getElem?_eq_getElem (by omega);have e2:ws[i]?=some p.2:=by rw [<- k2,getElem?_map,ep];rfl
  have e3:kvs[i].1=p.1:=by
   have h1:(vs.map (·.1))[i]?=some p.1:=by rw [getElem?_map,ep];rfl
   rw [k1,getElem?_map,e1] at h1;exact Option.some.inj h1
  obtain⟨_,t,lW,h1,h2,h3⟩:=gw i _ _ e1 e2;refine⟨t,lW,by rw [List.getElem?_toArray];exact h1,?_,h3⟩;rw [<- e3];exact jH9 h2
 ·rw [show jC5 vs=vs from merged_nil_of_nodup vs (by rw [k1];exact nd)] at hd;refine⟨.ref s.heap.objs.size,_,I.laid (t':=tk) keep (le_refl _) (jI8 (by omega) (beq_eq_false_iff_ne.mpr (symm (eA I.big))) kv hd),rfl,q _ (I.hok.fresh (le_refl _))⟩
inductive jNt(xs:List V)(H:Hp)(Q:VK):Prop|mk a kvs:xs=[.ref a]->Rd H a (.dK kvs)->(∀ d,H d=none->Q (.ref d) (upd H d (.dK kvs)))->jNt xs H Q
theorem jGz:CallR X (.type "dict") jNt:=by
 intro b9 s σ H xs us Q I r h;obtain⟨a,kvs,rfl,e,q⟩:=h;obtain⟨u,rfl,rx⟩:=uU r;cases rx;exact jPe I e fun p s' hp I'=>⟨.ref p,_,I',rfl,q p hp⟩
theorem jKb:bootBuiltins "dict"=some (.type "dict"):=by decide +kernel
open PySem PyProof.Rows PySem.Spec PySem.Calls
section
variable {X:Cx}
def tPl(K:PySem.W.Frag)(B:Addr)(ts:TS)(tr:TH):TH:=fun D σ H C ea=>PySem.W.excMk K C=true/\PySem.W.excMk K B=true/\∃ b,PySem.W.mroHas K C (.ref B)=b/\if b=true then ts D σ H else tr D σ H C ea
theorem jPo{x:Str}{B:Addr}{b₀:Stmt}{wI:List Stmt}{ts:TS}{tr:TH}{np hpos:Pos}{rest:List ExceptHandler}(hg:Gl X x)(hm:X.mg x=some (.ref B))
 (hs:∀ ea,PSs (X.caught ea) (b₀::wI) ts) (hr:PH X rest tr) (hd:(x==("__debug__":Str))=false:=by decide):PH X (.ExceptHandler (some (.Name x np)) none (b₀::wI) hpos::rest) (tPl X.K B ts tr):=by
 intro b9 s σ H D ea C d I hx tr h;obtain⟨mC,mB,b,hb,h⟩:=h;have I1:Inv (X.caught ea) b9 σ H s:=I.caught;refine wpAny_handleBy_cons (codeAny_handlers_test (jCQ I1 hg hm ?_ hd)) (by intro q;cases q);obtain⟨vs,sl,g1⟩:=x_get I.hok (.inr hx);refine PySem.W.exc_match (K:=X.K) I.kIn mC mB g1 rfl ?_;rw [hb];cases b with
 | false=>exact hr b9 s σ H D ea C d I hx tr h
 | true =>
   show iJ _ _ _ _ _;refine (codeAny_handlers_suite ?_);obtain⟨cl,d',vs',sl',T,g1',g2,⟨nT,oT,ts',gT,dT,h3⟩,g4,g5,g6,g7,g8⟩:=tr;rw [g1] at g1';cases g1';unfold oQ;refine c5 (hZ g1 rfl g2 ?_);rw [if_pos (by simp)];refine lT gT dT (Array.getElem?_eq_some_iff.mp h3).1 ?_;have I2:Inv (X.caught ea) b9 σ H { s with heap:=s.heap.update T (pZ (·.setIfInBounds 3 ((none:Option Addr).elim Value.none fun f=>lB f))),toks:=s.toks } :=
    I1.turned (it:=T) (fun b o hb q=>by rw [get?_update_other _ _ (symm hb)];exact q) g5 g6 (.inr g4) g7 g8
   refine eB (hs ea b9 _ _ H D I2 h) (fun f s4 q=>?_) fun _ _ z=>False.elim z;cases f with
   | next=>obtain⟨σ',H',J,q⟩:=q;exact⟨_,H',J.uncaught I.ok,q⟩
   | brk=>obtain⟨σ',H',J,q⟩:=q;exact⟨_,H',J.uncaught I.ok,q⟩
   | cont=>obtain⟨σ',H',J,q⟩:=q;exact⟨_,H',J.uncaught I.ok,q⟩
   | ret u=>obtain⟨v,σ',H',J,r,q⟩:=q;exact⟨v,_,H',J.uncaught I.ok,r,q⟩
end
theorem jLW:∀ {ss:List Str} {us:List Value},gX (ss.map V.str) us->StrsAre us ss
 | [],_,h=>by cases h;exact .nil
 | s::ss,_,h=>by
   cases h with
   | cons a b =>
     obtain⟨t,rfl⟩:=a;exact .cons s t (jLW b)
theorem jLX:∀ {us:List Value} {ss:List Str},StrsAre us ss->gX (ss.map V.str) us
 | _,_,.nil=>.nil
 | _,_,.cons y t h=>.cons ⟨t,rfl⟩ (jLX h)
theorem jHM:∀ {p:Str} {l:List Str},tW p l=true->∀ x∈l,¬ x.cps.toList<p.cps.toList
 | p,[],_,x,hx=>absurd hx d6
 | p,y::l,h,x,hx=>by
   unfold tW at h;rw [fA,ltCps_eq,kT,decide_eq_false_iff_not] at h;rcases dZ.mp hx with z|z
   ·rw [z];exact h.1
   ·have h2:=jHM h.2 x z;have a:p.cps.toList<=y.cps.toList:=List.not_lt.mp h.1;have b:y.cps.toList<=x.cps.toList:=List.not_lt.mp h2;exact List.not_lt.mpr (List.le_trans a b)
theorem jIy(h:tW p l=true):sortedS l=true:=by
 cases l with
 | nil=>rfl
 | cons y l =>
   unfold tW at h;rw [fA] at h;exact h.2
theorem jIz:∀ {a b:List Str},a.Perm b->sortedS a=true->sortedS b=true->a=b
 | [],b,p,_,_=>(List.Perm.nil_eq p).symm ▸ rfl
 | x::a,b,p,ha,hb=>by
   cases b with
   | nil=>have le:=p.length_eq;cases le
   | cons y b =>
     have ha':tW x a=true:=ha;have vA:tW y b=true:=hb;have e:x=y:=by
      have hx:x∈y::b:=p.mem_iff.mp gB;have hy:y∈x::a:=p.mem_iff.mpr gB;rcases dZ.mp hx with z|z
      ·exact z
      ·rcases dZ.mp hy with w|w
       ·exact w.symm
       ·have h1:=List.not_lt.mp (jHM vA x z);have h2:=List.not_lt.mp (jHM ha' y w);have h3:x.cps.toList=y.cps.toList:=List.le_antisymm h2 h1;exact Blk.sg_inj h3
     subst e;rw [jIz (List.Perm.cons_inv p) (jIy ha') (jIy vA)]
section
variable {X:Cx}
end
open PySem PySem.Calls PyProof.Rows PyProof.V PySem.Spec PySem.W
theorem coll{T:String}(K:KdlSrc prog w T r d n P OK)(hh:A.handled=none)(hok:OK s.heap)(hn:n<=c9) 
 (g:∀ (hU:Heap) (k:Nat) (its:Array Value),s.heap.objs.size<hU.objs.size->(∀ b o,s.heap.get? b=some o->hU.get? b=some o)->ItemsOf P its n->R its.toList { s with heap:=hU,toks:=k }):dC (dF prog w) A (collect (.ref r)) R E s:=by
 obtain⟨lr,ld⟩:=K.there _ hok;have fin:∀ (hU:Heap) (k:Nat) (its:Array Value) (c:Nat),(∀ b o,s.heap.get? b=some o->hU.get? b=some o)->hU.get? s.heap.objs.size=some { cls:=.type "list",data:=.seq its c }->ItemsOf P its n->dC (dF prog w) A (load s.heap.objs.size >>= fun o=>match o.data with|.seq items _=>pure items.toList|_=>unsupported "internal:collect") R E { s with heap:=hU,toks:=k }:=fun hU k its c kp hS it=>c5 (wpAny_load hS (dE (g hU k its (dR hS) kp it)));unfold collect;refine c5 (wpAny_runValue (nU entry_proto_collect' ?_));rw [kC PySem.F.plain_proto_collect _];show dC _ A.in1 (newList [] >>= fun nl=>again (.builtin "list.__iadd__" ⟨[nl,.ref r],[]⟩)) _ _ s;refine c5 (mI (dE ⟨wL PySem.F.plain_list_iadd _,nU entry_list_iadd' ?_⟩));rw [kC PySem.F.plain_list_iadd _];have e0:(s.heap.push { cls:=.type "list",data:=.seq ([]:List Value).toArray }).get? s.heap.objs.size=some { cls:=.type "list",data:=.seq #[] }:=get?_push_size (o:={ cls:=.type "list",data:=.seq ([]:List Value).toArray }) _ rfl;have lW:=kdl_extend (A:=A) (s:={ s with heap:=s.heap.push { cls:=.type "list",data:=.seq ([]:List Value).toArray } }) (R:=fun (q:Result) (fQ:Shared)=>∃ (hU:Heap) (k:Nat) (its:Array Value) (c:Nat),q=.ok (.ret (.ref s.heap.objs.size))/\fQ={ s with heap:=hU,toks:=k }/\(∀ b o,s.heap.get? b=some o->hU.get? b=some o)/\hU.get? s.heap.objs.size=some { cls:=.type "list",data:=.seq its c }/\ItemsOf P its n) K hh (K.keep _ _ hok fun b _ o e=>get?_push_of_some _ e) s.heap.objs.size (gO lr) (gO ld) (.ref s.heap.objs.size) 0 e0 (fun hU k its c kp hS it=>⟨hU,k,its,c,rfl,rfl,fun b o e=>kp b o (eA (dR e)) (get?_push_of_some _ e),hS,it⟩) hn;refine eB lW (fun end' fQ x=>?_) fun e fQ x=>?_
 ·cases end' with
  | done f =>
    obtain⟨hU,k,its,c,e,rfl,kp,hS,it⟩:=x;cases e;exact fin hU k its c kp hS it
  | again c₁ =>
    refine⟨x.1,h8 x.2 fun q qN y=>?_⟩;obtain⟨hU,k,its,c,rfl,rfl,kp,hS,it⟩:=y;exact fin hU k its c kp hS it
 ·obtain⟨_,_,_,_,e₁,_⟩:=x;cases e₁
section
variable {X:Cx}
def jPp:List V->Hp->VK->Prop:=fun xs H Q=>∃ p kvs ss,xs=[.ref p]/\H p=some (.dK kvs)/\kvs.map (fun q=>kV q.1)=ss.map V.str/\ss.length<64/\∀ l sV,H l=none->List.Perm sV ss->sortedS sV=true->Q (.ref l) (upd H l (.lst (sV.map V.str)))
theorem jLa(hc:X.calm=true):CallR X (.builtin "sorted") jPp:=by
 intro b9 s σ H xs us Q I r h;obtain⟨p,kvs,ss,rfl,hp,ek,h64,q⟩:=h;obtain⟨u,rfl,rx⟩:=uU r;cases rx;obtain⟨z,hd,vs,rk,o,es,ep,e',xd,dt,ko,pr,nd⟩:=I.hok p _ hp;have hl:=KV.length rk;have hs:kvs.length=ss.length:=by
  have:=congrArg List.length ek;rwa [c6,c6] at this
 refine Calls.call_function_entry kind_sorted plain_sorted entry_sorted (args_sorted1 _) ?_;unfold Builtin.«sorted»;refine c5 (m:=checkCount "sorted" 1 1 _) (dE ?_);show dC _ _ (collect (.ref p) >>= _) _ _ _;refine c5 (coll (PySem.W.kdl_dict (knd:=oB X.prog X.w) (kvs:=vs) (ep:=ep) hd) (I.ok.hd hc) ⟨o,es,e',xd,dt,ko,pr,nd⟩ (by omega) fun h1 tk iM sz1 kp it=>?_);have ln:iM.toList.length=ss.length:=by
  have:iM.toList.length=vs.length:=it.1;omega
 have rv:gX (ss.map V.str) iM.toList:=jJ_ (by rw [c6];exact ln.symm) fun k x u hx hu=>by
  have hu':iM[k]?=some u:=by simpa using hu
  obtain⟨k',x',e1,e2⟩:=it.2 k u hu';rw [<- ek,getElem?_map] at hx;obtain⟨y,ey,rfl⟩:=dY.mp hx;have q1:(kvs.map (·.1))[k]?=(vs.map (·.1))[k]?:=by rw [KV.keys rk]
  rw [getElem?_map,getElem?_map,ey,e1] at q1;have q2:y.1=k':=Option.some.inj q1;show gN (kV y.1) u;rw [q2];exact jJ5 e2
 have hS:=jLW rv;refine c5 (wE ?_ (by rw [ln];exact iG (oN (by omega))));have hoL:(h1.push (hG "list" iM.toList.toArray 0)).get? h1.objs.size=some (hG "list" iM.toList.toArray 0):=get?_push_size _ rfl;refine c5 (fW (zM zS ⟨_,hoL,rfl⟩ zQ (list_sort_treeK strKind_oneLt hoL hS.keysOf (fun v₁ v₂ rest e=>keyKind_strs (by rw [<- e];exact hS)) (by omega) fun uI a1 a2=>⟨_,rfl,?_⟩) (args_list_sort _)));obtain⟨sV,b1,b2,b3⟩:=sorted_out_str hS a1 a2;refine dE ⟨_,rfl,?_⟩;obtain⟨c,he⟩:=sortedHeap_at (n:=0) hoL (vs:=iM.toList) (out:=(xZ uI).map (·.2));have sz:s.heap.objs.size<=h1.objs.size:=iG sz1;refine⟨.ref h1.objs.size,_,I.laid (t':=tk) (fun b o e=>?_) sz (show lO X.prog X.w _ _ _ (.lst (sV.map V.str)) from ⟨by rw [c6,b2.length_eq];exact iG (oN (by omega)),_,c,jLX b1,he⟩),rfl,q _ sV (I.hok.fresh sz) b2 b3⟩;have hb:=kp b o e;rw [sortedHeap_old (eA (dR hb)) (by rw [y8];exact jD (dR hb))];exact (get?_push_of_some _ hb :)
end
end L2
theorem L2.bt_sorted:PySem.bootBuiltins "sorted"=some (.builtin "sorted"):=xW
namespace L2
open PySem PyProof.Rows PySem.Spec PySem.Calls
section
variable {X:Cx}
theorem kv_at:∀ {kvs:List (κ×V)} {vs:List (κ×Value)} {k:Nat} {p:κ×V} {q:κ×Value},Paired R kvs vs->kvs[k]?=some p->vs[k]?=some q->R p q
 | _,_,k,_,_,.nil,e,_=>by simp at e
 | _,_,0,_,_,.cons r _,e,e'=>by
   obtain rfl:=Option.some.inj e;obtain rfl:=Option.some.inj e';exact r
 | _,_,k+1,_,_,.cons _ t,e,e'=>kv_at (k:=k) t e e'
end
def IW(v d:Addr):HO:=.ext fun h=>h.IsItemsView v d
def Itm(d:Addr)(o:Obj)(kvs:List (Key×V)):It :=
 ⟨fun i H=>H d=some (.frz o (.dK kvs))/\i<kvs.length,fun i H x H'=>∃ p k v,x=.ref p/\H p=none/\H'=upd H p (.tup [kV k,v])/\kvs[i]?=some (k,v),fun i H=>H d=some (.frz o (.dK kvs))/\kvs.length=i⟩
theorem jNO{P:Program}{w:World}{K:PySem.W.Frag}{sA:List Expr}{x1}{pos:Pos}(d it:Addr)(o:Obj)(kvs:List (Key×V)){vs:List (Key×Value)}{es:Array DictEntry}{ep:Nat}(rk:KV kvs vs)(hd:o.ExactDict)(he:o.data=.dict es ep)(hk:KeysOf (oB P w) es)(hp:Pairs (oB P w) es.toList vs)(nd:(vs.map (·.1)).Nodup) :
 jHy P w K (.Tuple sA x1 pos) (Itm d o kvs) [it] it (fun i h=>∃ ok ov,IsItemIter h it d i vs.length ep ok ov) where
 mem:=by simp
 obj:=fun i h st b hb=>by
  have e:b=it:=by simpa using hb
  subst e;obtain⟨ok,ov,k⟩:=st;exact⟨_,k,fun v z=>by cases z⟩
 keep:=fun i h h' st k=>by
  obtain⟨ok,ov,q⟩:=st;exact⟨ok,ov,k it (by simp) _ q⟩
 item:=by
  intro X hP hw hK hc i b9 s σ H E I hf st hg;subst hP hw hK;obtain⟨hz,hi⟩:=hg;obtain⟨eo,_⟩:=I.hok d _ hz;obtain⟨f0,f1,f2,f3,f4,f5⟩:=hf it (by simp);obtain⟨ok,ov,k⟩:=st;have hl:=KV.length rk;have hi2:i<vs.length:=by omega
  have ev:vs[i]?=some (vs[i].1,vs[i].2):=getElem?_eq_getElem hi2;have ks:kvs[i]?=some (kvs[i].1,kvs[i].2):=getElem?_eq_getElem hi;have keq:kvs[i].1=vs[i].1:=by
   have q:=KV.keys rk;have q1:(kvs.map (·.1))[i]?=(vs.map (·.1))[i]?:=by rw [q]
   rw [getElem?_map,getElem?_map,ks,ev] at q1;exact Option.some.inj q1
  have rvl:gN kvs[i].2 vs[i].2:=(kv_at rk (getElem?_eq_getElem hi) (getElem?_eq_getElem hi2)).2;refine wpAny_pyNext_items_item k ⟨o,es,eo,hd,he,hk,hp,nd⟩ ev fun lW hz2 tR ko tup sz kp=>?_;exists _,rfl;refine wpAny_letOwnedTupleGo_items ko fun h3 k3 s3=>?_;have lt1:it<s.heap.objs.size:=dR k;have tup3:h3.get? s.heap.objs.size=some { cls:=.type "tuple",data:=.seq #[lW,vs[i].2] }:=(s3.2 _ (gO lt1)).trans tup;have fr:H s.heap.objs.size=none:=I.hok.fresh (le_refl _);have I2:Inv X b9 σ (upd H s.heap.objs.size (.tup [kV kvs[i].1,kvs[i].2])) { s with heap:=h3 }:=by
   refine I.step (t':=s.toks) (g':=s.gens) (d':=s.drawn) (ch:=[it]) (fun b hb=>?_) (fun b o _ _ hc e _=>?_) (fun b o _ _ hc e _=>?_) (fun b o _ e n=>?_) (fun b o hc e=>?_) (fun b xs e=>?_) (fun b o xs e=>?_) (fun b ps e=>⟨#[],?_⟩) (fun m hm=>?_) (fun b v e=>?_) I.bare
   ·rw [mem_singleton.mp hb];exact⟨f3,f1,f4,f5⟩
   ·exact (s3.2 b (fun z=>hc (by simp [z]))).trans (kp b o (fun z=>hc (by simp [z])) e)
   ·exact⟨o.slots,(s3.2 b (fun z=>hc (by simp [z]))).trans (kp b o (fun z=>hc (by simp [z])) e)⟩
   ·rw [dW (eA (dR e))];exact n
   ·exact⟨o,(s3.2 b (fun z=>hc (by simp [z]))).trans (kp b o (fun z=>hc (by simp [z])) e)⟩
   ·rw [dW (eJ e fr)];exact e
   ·rw [dW (eJ e fr)];exact e
   ·rw [dW (eJ e fr),e];simp
   ·obtain⟨o,es,ep,ho,q⟩:=hm;exact⟨o,es,ep,(s3.2 _ (symm f1)).trans (kp _ o (symm f1) ho),q⟩
   ·by_cases hb:b=s.heap.objs.size
    ·subst hb;rw [d4] at e;cases e;exact⟨small (by show 2<=1000;decide),[lW,vs[i].2],.cons (by rw [keq];exact jJ5 tR) (.cons rvl .nil),_,tup3,rfl,_,rfl⟩
    ·rw [dW hb] at e;have nn:∀ c v,H c=some v->c≠it:=fun c v q z=>by rw [z,f0] at q;cases q
     refine (I.hok b v e).stay (fun c v' hc q=>?_) (fun c q=>by rw [dW (eJ q fr)];exact q) (fun c xs q=>by rw [dW (eJ q fr)];exact q);have m:c≠it:=by
      rcases hc with z|z
      ·rw [z];exact nn b v e
      ·exact nn c _ z
     exact (s3.2 c m).trans (kp c v' m q)
  refine⟨.ref s.heap.objs.size,_,I2,rfl,⟨_,_,_,rfl,fr,rfl,ks⟩,⟨_,_,k3⟩,fun b hb=>?_⟩;rw [dW (fun z=>?_)]
  ·exact (hf b hb).1
  ·rw [z] at hb;exact gO lt1 (mem_singleton.mp hb)
 done:=by
  intro X hP hw hK hc i b9 s σ H E I hf st hg;subst hP hw hK;obtain⟨hz,hi⟩:=hg;obtain⟨eo,_⟩:=I.hok d _ hz;obtain⟨f0,f1,f2,f3,f4,f5⟩:=hf it (by simp);obtain⟨ok,ov,k⟩:=st;have hl:=KV.length rk;have hin:vs[i]?=none:=getElem?_eq_none (by omega);exact wpAny_pyNext_items_end (I.ok.hd hc) k ⟨o,es,eo,hd,he,hk,hp,nd⟩ hin fun h' eb=>⟨rfl,I.turned (t':=s.toks) (fun b o hb e=>eb b o hb e) f0 f1 f3 f4 f5⟩
 self:=fun A i s Q E st h=>by
  obtain⟨ok,ov,k⟩:=st;exact PySem.W.kcp_self k h
section
variable {X:Cx}{sA:List Expr}{x1:Nat}{qL:Pos}
def jOA:V->List V->Hp->VK->Prop:=fun x vs H Q=>∃ d o kvs,x=.ref d/\vs=[]/\H d=some (.frz o (.dK kvs))/\∀ v,H v=none->Q (.ref v) (upd H v (IW v d))
theorem jPq:MtR X "dict.items" jOA:=by
 intro b9 s σ H x vs v us Q I rx rv h;obtain⟨d,o,kvs,rfl,rfl,hz,q⟩:=h;cases rx;cases rv;obtain⟨eo,z,hd,vs1,rk,o',es,ep,e',xd,dt,ko,pr,nd⟩:=I.hok d _ hz;have d1:s.heap.DictAt (oB X.prog X.w) d vs1 ep:=⟨o',es,e',xd,dt,ko,pr,nd⟩
 have d2:s.heap.DictOf (oB X.prog X.w) d vs1:=d1.dictOf;refine call_meetsIn PySem.F.slot_dict_items d2.typeIs PySem.F.entry_dict_items (PySem.F.args_dict_items_1 _) (meets_dict_items (oB X.prog X.w) d hd) ⟨⟨vs1,d2⟩,?_⟩;refine⟨.ref s.heap.objs.size,_,I.laid (t':=s.toks) (o:=IW s.heap.objs.size d) (fun b ob q=>get?_push_of_some _ q) (le_refl _) ?_,rfl,q _ (I.hok.fresh (le_refl _))⟩;refine⟨⟨_,get?_push_size _ rfl,rfl,rfl⟩,⟨_,get?_push_size _ rfl⟩,fun h1 h2 ⟨o,ho,r⟩ k=>⟨o,k o ho,r⟩⟩
def iItems(tl:TE):TI:=fun σ H R=>tl σ H fun x H1=>∃ v d o kvs,x=.ref v/\H1 v=some (IW v d)/\H1 d=some (.frz o (.dK kvs))/\R (Itm d o kvs) H1
theorem jPr{l:Expr}{tl:TE}(hl:PE X l tl):PI X (.Tuple sA x1 qL) l (iItems tl):=by
 intro b9 s σ H R I h;refine thn (hl b9 s σ H _ I h) fun v s1 ⟨x,H1,I1,r1,q1⟩=>?_;obtain⟨v,d,o,kvs,rfl,hv,hz,q⟩:=q1;cases r1;obtain⟨eo,z,hd,vs,rk,o',es,ep,e',xd,dt,ko,pr,nd⟩:=I1.hok d _ hz;rw [eo] at e';cases e';obtain⟨kv,_,_⟩:=(show lO X.prog X.w H1 s1.heap v (IW v d) from I1.hok v _ hv)
 refine wpAny_pyIter_items kv (knd:=oB X.prog X.w) ⟨o,es,eo,xd,dt,ko,pr,nd⟩ ?_;refine⟨s1.heap.objs.size,[s1.heap.objs.size],_,_,H1,rfl,I1.kept (t':=s1.toks) fun b o e=>get?_push_of_some _ e,jNO d _ o kvs rk xd dt ko pr nd,⟨_,_,get?_push_size _ rfl⟩,fun b hb=>?_,q⟩;have e:b=s1.heap.objs.size:=by simpa using hb
 subst e;exact I1.fpOk (le_refl _) (I1.hok.fresh (le_refl _))
end
theorem jKZ{lo:Int}{n:Nat}{tc:TT}{te:TE}{σf:Option V->St}{H1:Hp}{Q:VK}(Pv:Addr->Nat->List V->Hp->Prop)(hz:n<c9)
 (h0:∀ D,H1 D=none->Pv D 0 [] (upd H1 D (.lst [])))
 (hD:∀ D i ys H,Pv D i ys H->H D=some (.lst ys)/\ys.length<=i)
 (hs:∀ D i ys H (N:List V->Hp->Prop),i<n->H1 D=none->Pv D i ys H->(∀ ys' H',Pv D (i+1) ys' H'->N ys' H')->tc (σf (some (.int (lo+i)))) H fun b H4=>if b=true then te (σf (some (.int (lo+i)))) H4 fun y H5=>H5 D=some (.lst ys)/\N (ys++[y]) (upd H5 D (.lst (ys++[y]))) else N ys H4)
 (q:∀ D ys H,H1 D=none->Pv D n ys H->Q (.ref D) H):jJc (Itr lo n) tc te σf H1 Q:=by
 intro D hD1;exists fun i m ys H2=>m=n-i/\i<=n/\Pv D i ys H2,⟨n,rfl,d5 _,h0 D hD1⟩
 rintro i m ys H2 ⟨rfl,hi,p⟩;obtain⟨d1,d2⟩:=hD D i ys H2 p;exists d1;by_cases kP:i<n
 ·refine .inr ⟨kP,by omega,fun x H3 y=>?_⟩;obtain⟨rfl,rfl⟩:=y;exact hs D i ys _ (fun ys' H'=>∃ m',m'<n-i/\(m'=n-(i+1)/\i+1<=n/\Pv D (i+1) ys' H')) kP hD1 p fun ys' H' z=>⟨n-(i+1),by omega,rfl,kP,z⟩
 ·have e:i=n:=by omega
  subst e;exact .inl ⟨le_refl _,q D ys H2 hD1 p⟩
theorem jOB{d:Addr}{o:Obj}{kvs:List (Key×V)}{g:TG}{tb:TS}{D:tH}{σ:St}{H:Hp}(Pv:Nat->St->Hp->Prop)(h0:Pv 0 σ H)(hl:∀ i σ H,i<=kvs.length->Pv i σ H->H d=some (.frz o (.dK kvs)))
 (hs:∀ i k v p σ H,kvs[i]?=some (k,v)->H p=none->Pv i σ H->g (.ref p) σ (upd H p (.tup [kV k,v])) fun σ2 H2=>tb { D with nx:=Pv (i+1),ct:=Pv (i+1),bk:=D.nx } σ2 H2) (hd:∀ σ H,Pv kvs.length σ H->D.nx σ H) :
 ∃ W:Nat->Nat->St->Hp->Prop,(∃ m,W 0 m σ H)/\∀ i m σ H,W i m σ H ->
  ((Itm d o kvs).stop i H/\D.nx σ H)\/((Itm d o kvs).go i H/\∃ N:St->Hp->Prop,(∀ σ' H',N σ' H'->∃ m',m'<m/\W (i+1) m' σ' H')/\∀ x H',(Itm d o kvs).yld i H x H'->g x σ H' fun σ2 H2=>tb { D with nx:=N,ct:=N,bk:=D.nx } σ2 H2):=by
 exists fun i m σ H=>m=kvs.length-i/\i<=kvs.length/\Pv i σ H,⟨kvs.length,by simp,d5 _,h0⟩
 rintro i m σ H ⟨rfl,hi,p⟩;have q:=hl i σ H hi p;by_cases kP:i<kvs.length
 ·refine .inr ⟨⟨q,kP⟩,Pv (i+1),fun σ' H' p'=>⟨kvs.length-(i+1),by omega,rfl,kP,p'⟩,fun x H' y=>?_⟩;obtain⟨a,k,v,rfl,na,rfl,e⟩:=y;exact hs i k v a σ _ e na p
 ·have e:i=kvs.length:=by omega
  subst e;exact .inl ⟨⟨q,rfl⟩,hd σ H p⟩
section
variable {X:Cx}
def tItems0(to:TE):TE:=fun σ H Q=>to σ H fun x H1=>jOA x [] H1 Q
theorem jOC(ho:PE X o to)(xN:jO o "items" X.env (eU o X.env)=eU o X.env:=by rfl)(xI:(i7.endLine==lH.line)=true:=by rfl):PE X (.Call (.Attribute o "items" i7) [] [] lH) (tItems0 to):=by
 intro b9 s σ H Q I h;refine wpAny_Call_method0_late xN xI (thn (ho b9 s σ H _ I h) fun v s1 ⟨x,H1,I1,r1,q1⟩=>?_);have q2:=q1;obtain⟨d,o,kvs,rfl,_,hz,_⟩:=q2;have r2:=r1;cases r1;obtain⟨_,_,_,_,_,o',_,_,e',xd,_⟩:=I1.hok d _ hz;exact⟨"dict","dict.items",PySem.F.plainAttrs_dict,PySem.F.slot_dict_items,PySem.F.type_dict_items,⟨o',e',xd.1⟩,fun a e=>by cases e;exact⟨o',e',xd.2.1⟩,Calls.callWith_builtin rfl (PySem.evalArgs_none (jPq b9 s1 σ H1 (.ref d) [] _ [] Q I1 r2 .nil q1))⟩
end
def DeqB(K:PySem.W.Frag)(H:Hp):Nat->V->V->Bool->Prop
 | 0,x,y,b=>qF x=true/\qF y=true/\b=eqV x y
 | n+1,x,y,b=>(qF x=true/\qF y=true/\b=eqV x y)\/∃ a c xs ys,x=.ref a/\y=.ref c/\(a=c->b=true)/\((SqL K H a xs/\SqL K H c ys)\/(SqT K H a xs/\SqT K H c ys))/\xs.length=ys.length/\∃ e:Nat->Bool,(∀ j,j<xs.length->DeqB K H n (xs.getD j .non) (ys.getD j .non) (e j))/\b=(range xs.length).all e
theorem jFQ(I:Inv X b9 σ H s):∀ (n:Nat) (A:Around) (x y:V) (b:Bool) (u v:Value),A.units+n<kR->DeqB X.K H n x y b->gN x u->gN y v->SeqAt.EqAt A s u v b
 | 0,A,x,y,b,u,v,_,⟨f,g,e⟩,rx,ry=>by
   subst e;exact jI3 (A:=A) (s:=s) rx ry f g
 | n+1,A,x,y,bb,u,v,hu,h,rx,ry=>by
   rcases h with⟨f,g,e⟩|⟨a,b,xs,ys,rfl,rfl,same,hs,hl,e,he,eb⟩
   ·subst e;exact jI3 (A:=A) (s:=s) rx ry f g
   ·cases rx;cases ry;by_cases hab:a=b
    ·rw [same hab];subst hab;exact SeqAt.EqAt.same _
    have hu1:A.in1.units+n<kR:=jHL hu;refine SeqAt.EqAt.of_refs hab ?_;subst eb;rcases hs with⟨h1,h2⟩|⟨h1,h2⟩
    ·obtain⟨its,r1,l1,_⟩:=I.list h1;obtain⟨jts,r2,l2,_⟩:=I.list h2;have e1:=r1.length;have e2:=r2.length;have:=SeqAt.RcAt.lists (A:=A) (e:=e) l1.isList l2.isList (by simp;omega) (by omega) (fun j q1 q2=>jFQ I n A.in1 _ _ _ _ _ hu1 (he j (by simp at q1;omega)) (jCw r1 j q1) (jCw r2 j q2));rwa [show its.toArray.size=xs.length by simp;omega] at this
    ·obtain⟨its,r1,l1,_⟩:=I.tuple h1;obtain⟨jts,r2,l2,_⟩:=I.tuple h2;have e1:=r1.length;have e2:=r2.length;have:=SeqAt.RcAt.tuples (A:=A) (e:=e) l1 l2 (by omega) (fun j q1 q2=>jFQ I n A.in1 _ _ _ _ _ hu1 (he j (by simp at q1;omega)) (jCw r1 j q1) (jCw r2 j q2));rw [show min its.toArray.size jts.toArray.size=xs.length by simp;omega,show (its.toArray.size==jts.toArray.size)=true from beq_iff_eq.mpr (by simp;omega),Bool.and_true] at this;exact this
def rDb(K:PySem.W.Frag)(n:Nat)(neg:Bool):R2:=fun x y H Q=>∃ a c xs ys,x=.ref a/\y=.ref c/\((SqL K H a xs/\SqL K H c ys/\xs.length≠ys.length/\Q (.bl neg) H) \/
 (((SqL K H a xs/\SqL K H c ys)\/(SqT K H a xs/\SqT K H c ys))/\xs.length=ys.length/\∃ e:Nat->Bool,(∀ j,j<xs.length->DeqB K H n (xs.getD j .non) (ys.getD j .non) (e j))/\Q (.bl (if neg then !(range xs.length).all e else (range xs.length).all e)) H))
theorem jLY(hu:X.A.units+(n+1)<kR):OpR X (fM .NotEq) (rDb X.K n true):=by
 intro b9 s σ H x y v u Q I rx ry h;obtain⟨a,c,xs,ys,rfl,rfl,h⟩:=h;cases rx;cases ry;rcases h with⟨h1,h2,hl,q⟩|⟨hs,hl,e,he,q⟩
 ·obtain⟨its,r1,l1,_⟩:=I.list h1;obtain⟨jts,r2,l2,_⟩:=I.list h2;have e1:=r1.length;have e2:=r2.length;exact SeqAt.RcNeAt.lists_lengths l1.isList l2.isList (by simp [bne_iff_ne];omega) (by omega) X.prog X.w _ _ ⟨.bl true,H,I,rfl,q⟩
 rcases hs with⟨h1,h2⟩|⟨h1,h2⟩
 ·obtain⟨its,r1,l1,_⟩:=I.list h1;obtain⟨jts,r2,l2,_⟩:=I.list h2;have e1:=r1.length;have e2:=r2.length;have:=SeqAt.RcNeAt.lists (A:=X.A) (e:=e) l1.isList l2.isList (by simp;omega) (by omega) (fun j q1 q2=>jFQ I n X.A.in1 _ _ _ _ _ (jHL hu) (he j (by simp at q1;omega)) (jCw r1 j q1) (jCw r2 j q2));rw [show its.toArray.size=xs.length by simp;omega] at this;exact this X.prog X.w _ _ ⟨.bl _,H,I,rfl,q⟩
 ·obtain⟨its,r1,l1,_⟩:=I.tuple h1;obtain⟨jts,r2,l2,_⟩:=I.tuple h2;have e1:=r1.length;have e2:=r2.length;have:=SeqAt.RcNeAt.tuples (A:=X.A) (e:=e) l1 l2 (by omega) (fun j q1 q2=>jFQ I n X.A.in1 _ _ _ _ _ (jHL hu) (he j (by simp at q1;omega)) (jCw r1 j q1) (jCw r2 j q2));rw [show min its.toArray.size jts.toArray.size=xs.length by simp;omega,show (its.toArray.size==jts.toArray.size)=true from beq_iff_eq.mpr (by simp;omega),Bool.and_true] at this;exact this X.prog X.w _ _ ⟨.bl _,H,I,rfl,q⟩
section
variable {X:Cx}{b9:List (Addr×Obj)}{σ:St}
theorem jLZ(J:Inv X (b9++l) σ H s):Inv X b9 σ H s:=J.pins_of fun r hr=>J.pin r (dD _ (fX _ hr))
theorem jPs(J:Inv X (b9++[(S,so),(I,io)]) σ H s)(k:∀ b o,b≠S->s.heap.get? b=some o->h'.get? b=some o)(e:h'.get? S=some so')(nc:∀ v,so'.data≠.cell v) 
 (h1:X.s₀.heap.objs.size<=S) (h2:∀ x c,X.env.cells.lookup x=some c->c≠S) (h3:∀ p∈X.pn++b9,p.1≠S) (hIS:I≠S):Inv X (b9++[(S,so'),(I,io)]) σ H { s with heap:=h',toks:=t' }:=by
 have pS:=J.pin (S,so) (dD _ (dD _ (.head _)));have pI:=J.pin (I,io) (dD _ (dD _ (.tail _ (.head _))));have J2:=(jLZ J).turned (t':=t') k pS.2.1 pS.2.2.1 (.inr h1) h2 h3;refine J2.pins_of fun r hr=>?_;rcases eV.mp hr with hr|hr
 ·exact J2.pin r (dD _ hr)
 ·rcases dZ.mp hr with rfl|hr
  ·exact⟨e,pS.2.1,pS.2.2.1,pS.2.2.2.1,nc⟩
  ·rw [mem_singleton.mp hr];exact⟨k _ _ hIS pI.1,pI.2⟩
structure wS(X:Cx)(b9:List (Addr×Obj))(S:Addr):Prop where
 h1:X.s₀.heap.objs.size<=S
 h2:∀ x c,X.env.cells.lookup x=some c->c≠S
 h3:∀ p∈X.pn++b9,p.1≠S
end
def CD(c:Addr)(qual:Str):HO:=.ext fun h=>h.CodeRec (.ref c) qual
def FN(f:Addr)(o:Obj):HO:=.ext fun h=>h.get? f=some o
theorem cd_ok(e:h.CodeRec (.ref c) qual):lO P w H h c (CD c qual):=by
 refine⟨e,?_,fun h1 h2 e1 k=>?_⟩
 ·obtain⟨c',oc,vs,tq,hc,hoc,_⟩:=e;cases hc;exact⟨oc,hoc⟩
 ·obtain⟨c',oc,vs,tq,hc,hoc,hd,hq⟩:=e1;cases hc;exact⟨c,oc,vs,tq,rfl,k _ hoc,hd,hq⟩
theorem fn_ok(e:h.get? f=some o):lO P w H h f (FN f o):=⟨e,⟨o,e⟩,fun _ _ e1 k=>k _ e1⟩
def tab1(pos:Pos)(c:Addr):Array Value:=#[lB pos.line,lB pos.col,.ref c]
def jGX(H:Hp)(P:Addr)(pos:Pos)(qual:Str)(c:Addr):Prop:=H P=some (.tbl (tab1 pos c))/\H c=some (CD c qual)
def vP(H:Hp)(P:Addr)(pos:Pos)(qual:Str):Prop:=H P=some (.tbl #[])\/∃ c,jGX H P pos qual c
def sM(P:Addr)(H H':Hp):Prop:=∀ b o,b≠P->H b=some o->H' b=some o
theorem sM.trans(a:sM P H H1)(b:sM P H1 H2):sM P H H2:=fun x o n e=>b x o n (a x o n e)
theorem eC.p(a:eC H H'):sM P H H':=fun b o _ e=>a b o e
theorem jGX.same(t:jGX H P pos qual c)(s:eC H H'):jGX H' P pos qual c:=⟨s _ _ t.1,s _ _ t.2⟩
theorem vP.same(t:vP H P pos qual)(s:eC H H'):vP H' P pos qual:=t.imp (s _ _) fun⟨c,z⟩=>⟨c,z.same s⟩
def wX(base:Heap)(mg:Str->Option Value):Prop:=∃ bm ob,mg "__builtins__"=some (.ref bm)/\bm≠pV/\base.get? bm=some ob/\ob.cls=.type "module"/\ob.dict=some pV/\ob.data=.plain
section
variable {X:Cx}{b9:List (Addr×Obj)}{σ:St}{H:Hp}{s:Shared}
theorem Inv.bat(I:Inv X b9 σ H s)(B:wX X.base X.mg)(hP:s.heap.get? P=some (nJ ps)):s.heap.BuiltinsAt X.mg P:=by
 obtain⟨bm,ob,h1,h2,h3,h4,h5,h6⟩:=B;have e:=I.bk _ _ h3;refine⟨bm,ob,h1,h2,fun z=>?_,fun z=>?_,e,h4,h5,h6⟩
 ·obtain⟨o,es,ep,ho,hd,_⟩:=I.mod.glob.keeps I.bk;rw [z,ho] at e;cases e;rw [hd] at h6;cases h6
 ·rw [z,hP] at e;cases e;cases h4
theorem Inv.gP(I:Inv X b9 σ H s)(hP:s.heap.get? P=some (nJ ps)):dS≠P:=fun z=>by
 obtain⟨o,es,ep,ho,hd,_⟩:=I.mod.glob.keeps I.bk;rw [z,hP] at ho;cases ho;cases hd
theorem Inv.grown(I:Inv X b9 σ H s)(hH:H P=some (.tbl ps))(hx:Heap.ExtBut P s.heap h')(hc:s.heap.objs.size<=c)(hrec:h'.CodeRec (.ref c) qual)(hP:h'.get? P=some (nJ (ps++ps'))) :
 Inv X b9 σ (upd (upd H P (.tbl (ps++ps'))) c (CD c qual)) { s with heap:=h',toks:=tk }:=by
 have nc:H c=none:=I.hok.fresh hc;have cP:c≠P:=fun z=>by rw [z,hH] at nc;cases nc
 have ne:∀ b,H b=none->b≠P:=fun b n z=>by rw [z,hH] at n;cases n
 have HH:∀ b,b≠P->b≠c->upd (upd H P (.tbl (ps++ps'))) c (CD c qual) b=H b:=fun b n1 n2=>by rw [dW n2,dW n1]
 have nB:∀ b u,H b=some u->b≠c:=fun b u e z=>by rw [z,nc] at e;cases e
 refine I.un (t':=tk) ⟨fun b o e n _ _=>hx b o (ne b n) e,fun b o e n _ _=>⟨o.slots,hx b o (ne b n) e⟩,fun b o e n _=>by rw [HH b (ne b n) (fun z=>Nat.not_lt.mpr hc (by rw [<- z];exact dR e))];exact n,fun b o e _=>?_,fun b xs e=>?_,fun b o u e=>?_,fun b qs e=>?_⟩ (fun b u e=>?_)
 ·by_cases z:b=P
  ·exact⟨_,z ▸ hP⟩
  ·exact⟨o,hx b o z e⟩
 ·rw [HH b (eW e hH (by intro z;cases z)) (nB b _ e)];exact e
 ·rw [HH b (eW e hH (by intro z;cases z)) (nB b _ e)];exact e
 ·by_cases z:b=P
  ·subst z;rw [hH] at e;injection e with e;injection e with e;subst e;exact⟨ps',by rw [dW (symm cP),d4]⟩
  ·exact⟨#[],by rw [HH b z (nB b _ e),e];simp⟩
 ·by_cases z:b=c
  ·subst z;rw [d4] at e;obtain rfl:=Option.some.inj e;exact cd_ok hrec
  ·rw [dW z] at e;by_cases z2:b=P
   ·subst z2;rw [d4] at e;obtain rfl:=Option.some.inj e;exact hP
   ·rw [dW z2] at e;refine (I.hok b u e).stay (fun d v hd q=>hx d v ?_ q) (fun d q=>?_) (fun d xs q=>?_)
    ·rcases hd with rfl|hd
     ·exact z2
     ·exact eW hd hH (by intro z;cases z)
    ·rw [HH d (eW q hH (by intro z;cases z)) (nB d _ q)];exact q
    ·rw [HH d (eW q hH (by intro z;cases z)) (nB d _ q)];exact q
def LamO(qual:Str)(params:Arguments)(body:Expr)(scope:Scope)(pU:List (Str×Addr))(c:Addr)(o:Obj):Prop:=∃ pm vF,o=pA "<lambda>" qual params body scope pU pm c vF
theorem pe_lam(I:Inv X b9 σ H s)(B:wX X.base X.mg)(qG:X.env.code=.ref pR)(C:jI X.K pR P=true)(rZ:pT scope X.env=pure pU)(xM:zB params X.env=([],[])) 
 (ht:vP H P pos (X.env.qual ++ "<lambda>")) (q:∀ f o c H',sM P H H'->H f=none->jGX H' P pos (X.env.qual ++ "<lambda>") c->H' f=some (FN f o)->LamO (X.env.qual ++ "<lambda>") params body scope pU c o->Q (.ref f) H') :
 dC (dF X.prog X.w) X.A (eU (.Lambda params body scope pos) X.env) (EP X b9 σ Q) X.xe s:=by
 have CH:=qV I.kIn C;have G:=I.mod.glob.keeps I.bk;refine PySem.W.kla_eval xM ?_;rcases ht with ht|⟨c,ht,hc⟩
 ·have hP:s.heap.get? P=some (nJ #[]):=I.hok P _ ht;refine PySem.W.kla_makeFunction (mg:=X.mg) rZ I.ok.glob G qG CH hP trivial rfl (I.gP hP) (I.bat B hP) fun c' vF h' tk hx hge kP hrec htb=>?_;have J:=I.grown (tk:=tk) ht hx hge hrec (ps':=#[lB pos.line,lB pos.col,.ref c']) htb;have nf:upd (upd H P (.tbl (#[] ++ #[lB pos.line,lB pos.col,.ref c']))) c' (CD c' (X.env.qual ++ "<lambda>")) h'.objs.size=none:=J.hok.fresh (le_refl _);have nf0:H h'.objs.size=none:=I.hok.fresh (le_trans hge (iG kP));have nc:H c'=none:=I.hok.fresh hge;have cP:c'≠P:=fun z=>by rw [z,ht] at nc;cases nc
  have fc:h'.objs.size≠c':=gO kP;have fP:h'.objs.size≠P:=fun z=>by rw [z,ht] at nf0;cases nf0
  exists .ref h'.objs.size,_,J.laid (t':=tk) (a:=h'.objs.size) (o:=FN h'.objs.size (pA "<lambda>" (X.env.qual ++ "<lambda>") params body scope pU ((X.mg "__name__").getD .none) c' vF)) (fun b o e=>get?_push_of_some _ e) (le_refl _) (fn_ok (get?_push_size _ rfl)),rfl;refine q _ _ c' _ (fun b o nb e=>?_) nf0 ⟨?_,?_⟩ d4 ⟨_,_,rfl⟩
  ·have n1:b≠h'.objs.size:=fun z=>by rw [z,nf0] at e;cases e
   have n2:b≠c':=fun z=>by rw [z,nc] at e;cases e
   rw [dW n1,dW n2,dW nb];exact e
  ·rw [dW (symm fP),dW (symm cP),d4];rfl
  ·rw [dW (symm fc),d4]
 ·have hP:s.heap.get? P=some (nJ (tab1 pos c)):=I.hok P _ ht;have hrec:s.heap.CodeRec (.ref c) (X.env.qual ++ "<lambda>"):=(I.hok c _ hc).1;refine PySem.W.kla_makeFunctionHit (mg:=X.mg) (cv:=.ref c) rZ I.ok.glob G qG CH hP trivial (by show (if _ then _ else _)=_;simp [lB]) (I.bat B hP) fun vF h' tk hk hsz=>?_;have J:=I.kept (t':=tk) hk;have nf:H h'.objs.size=none:=I.hok.fresh hsz;exists .ref h'.objs.size,_,J.laid (t':=tk) (a:=h'.objs.size) (o:=FN h'.objs.size (pA "<lambda>" (X.env.qual ++ "<lambda>") params body scope pU ((X.mg "__name__").getD .none) c vF)) (fun b o e=>get?_push_of_some _ e) (le_refl _) (fn_ok (get?_push_size _ rfl)),rfl;have ss:=gM nf (FN h'.objs.size (pA "<lambda>" (X.env.qual ++ "<lambda>") params body scope pU ((X.mg "__name__").getD .none) c vF));exact q _ _ c _ ss.p nf ⟨ss _ _ ht,ss _ _ hc⟩ d4 ⟨_,_,rfl⟩
end
theorem jPt{T:String}(hp:(args.any (·.1)||kws.any (·.1.isNone))=false) 
 (h:dC M A (evalArgs (.builtin T) true args kws) (fun a s1=>dC M A (call (.builtin T) a.pos a.kw) Q E s1) E s):dC M A (m5 pos (.builtin T) [] args kws) Q E s:=by
 unfold m5;refine c5 (fW (eB h (fun a s1 h1=>c5 (jL ?_)) fun _ _ x=>x));simp only [hp];refine c5 (dE ?_);exact c5 (eB h1 (fun r s2 hr=>c5 (fW (wpAny_point (dE hr)))) fun _ _ x=>x)
theorem SqL.sameP{K:PySem.W.Frag}{H H':Hp}{P l:Addr}{xs:List V}{ps:Array Value}(h:SqL K H l xs)(hP:H P=some (.tbl ps))(s:sM P H H'):SqL K H' l xs:=by
 rcases h with (h|⟨o,h⟩)|h
 ·exact .inl (.inl (s _ _ (eW h hP (by intro z;cases z)) h))
 ·exact .inl (.inr ⟨o,s _ _ (eW h hP (by intro z;cases z)) h⟩)
 ·exact .inr h
theorem vP.is(t:vP H P pos qual):∃ ps,H P=some (.tbl ps):=by
 rcases t with t|⟨c,t,_⟩
 ·exact⟨_,t⟩
 ·exact⟨_,t⟩
section
variable {X:Cx}
def tLam(P:Addr)(pos:Pos)(qual:Str)(params:Arguments)(body:Expr)(scope:Scope)(pU:List (Str×Addr)):TE:=fun _ H Q=>vP H P pos qual/\∀ f o c H',sM P H H'->H f=none->jGX H' P pos qual c->H' f=some (FN f o)->LamO qual params body scope pU c o->Q (.ref f) H'
theorem pe_lamE(B:wX X.base X.mg)(qG:X.env.code=.ref pR)(C:jI X.K pR P=true)(rZ:pT scope X.env=pure pU)(xM:zB params X.env=([],[]):=by rfl) :
 PE X (.Lambda params body scope pos) (tLam P pos (X.env.qual ++ "<lambda>") params body scope pU):=fun b9 s σ H Q I h=>pe_lam I B qG C rZ xM h.1 h.2
end
open PySem PySem.Spec PyProof.Rows
theorem jOD{P:Program}{w:World}{K:PySem.W.Frag}{mg mb:Str->Option Value}{CX:CXT}{k:Nat}{fa a:Addr}{fd:FuncData}{x:Str}{sp:Sp}{fH:Shared}{vs:List Value}{ns:List Int}{ts:List (Addr×Addr)}
 (KX:K.In fH.heap) (hns:fH.heap.Ns dS mg) (hb:fH.heap.Ns pV mb) (hbb:∀ x:Str,x≠"__name__"->mb x=bootBuiltins x) (hlim:fH.heap.NoLimit) (hbm:wX fH.heap mg) (hg:fH.gens=#[])
 (hT:∀ t∈ts,fH.heap.get? t.2=some (nJ #[])) (hC:∀ t∈ts,jI K t.1 t.2=true) (hKt:∀ t∈ts,K.lookup t.2=none)
 (ha:fH.heap.get? a=some { cls:=.type "list",data:=.seq vs.toArray }) (hi:IntsAre vs ns) (hl:ns.length<=c9) (hr:kJ k qW)
 (F:∀ base:Heap,K.In base->base.Ns dS mg->wX base mg->fJ P w K mg base CX k fa fd [x] sp) (r6:∀ (s:Shared) (u:Value),BindsTo s fd ⟨[u],[]⟩ [(x,u)])
 (wD:∀ H:Hp,(∀ t∈ts,H t.2=some (.tbl #[]))->SqL K H a (ns.map V.int)->sp [.ref a] H (fun v _=>v=.bl true) fun _ _ _=>False)
 (hCX:∀ H e s',CX [] H fH (fun _ _ _=>False) e s'->False) :
 iJ (dF P w) qW (.call (.ref fa) ⟨[.ref a],[]⟩) (fun r s'=>r=.ok (.ret (.bool true))/\OldK fH.heap s'.heap/\s'.os=fH.os/\AllBare s'.gens) fH:=by
 have rv:=jKM hi;have lenV:=hi.length;have core:∀ H:Hp,(∀ b,H b=none\/(∃ o xs,H b=some (.frz o (.lst xs)))\/((∃ t∈ts,t.2=b)/\H b=some (.tbl #[])))->(∀ t∈ts,H t.2=some (.tbl #[]))->SqL K H a (ns.map V.int)->HOk P w H fH.heap->(∀ b,H b≠none->b=a\/∃ t∈ts,t.2=b)->(H a≠none->K.lookup a=none) ->
  iJ (dF P w) qW (.call (.ref fa) ⟨[.ref a],[]⟩) (fun r s'=>r=.ok (.ret (.bool true))/\OldK fH.heap s'.heap/\s'.os=fH.os/\AllBare s'.gens) fH:=by
  intro H hO hOt hS hok hA hK;have qY:∀ {b:Addr} {o:Obj},fH.heap.get? b=some o->H b=none->(jGa fH.heap H).get? b=some o:=fun e n=>jO4 e n;have trk:∀ {b:Addr} {o:Obj},fH.heap.get? b=some o->o.cls≠.type "list"->o.cls≠.none->H b=none:=fun {b o} e n1 n2=>by
   cases q:H b with
   | none=>rfl
   | some u =>
     rcases hA b (by rw [q];simp) with e'|⟨t,ht,e'⟩
     ·subst e';rw [ha] at e;cases e;exact absurd rfl n1
     ·subst e';rw [hT t ht] at e;cases e;exact absurd rfl n2
  have noA:∀ {b:Addr} {o:Obj} {es:Array DictEntry} {ep:Nat},fH.heap.get? b=some o->o.data=.dict es ep->H b=none:=fun {b o es ep} e d=>by
   cases q:H b with
   | none=>rfl
   | some u =>
     rcases hA b (by rw [q];simp) with e'|⟨t,ht,e'⟩
     ·subst e';rw [ha] at e;cases e;have d':Data.seq vs.toArray _=Data.dict es ep:=d;cases d'
     ·subst e';rw [hT t ht] at e;cases e;have d':Data.fields _=Data.dict es ep:=d;cases d'
  have nsK:∀ {b:Addr} {m:Str->Option Value},fH.heap.Ns b m->(jGa fH.heap H).Ns b m:=fun {b m} ⟨o,es,ep,e,d,r⟩=>⟨o,es,ep,qY e (noA e d),d,r⟩
  have hKb:K.In (jGa fH.heap H):=fun b o e=>qY (KX b o e) (by
   cases q:H b with
   | none=>rfl
   | some u =>
     rcases hA b (by rw [q];simp) with e'|⟨t,ht,e'⟩
     ·subst e';rw [hK (by rw [q];simp)] at e;cases e
     ·subst e'
      rw [hKt t ht] at e;cases e)
  have hM:Mod K mg (jGa fH.heap H):=⟨hKb,nsK hns,⟨mb,nsK hb,hbb⟩,let ⟨mc,h1,h2⟩:=hlim;⟨mc,nsK h1,h2⟩⟩
  have hB:wX (jGa fH.heap H) mg:=by
   obtain⟨bm,ob,h1,h2,h3,h4,h5⟩:=hbm;exact⟨bm,ob,h1,h2,qY h3 (trk h3 (by rw [h4];decide) (by rw [h4];intro z;cases z)),h4,h5⟩
  have e0:jGd P w K mg (jGa fH.heap H) qW [] fH H:=⟨rfl,hM,fun b o e=>of_hidT e,mK (jN0 _ _),trivial,fun b hb=>absurd (show b∈([]:List Addr) from hb) (by simp),hok,.of_eq hg⟩
  refine h8 ((F _ hKb (nsK hns) hB).run qW [] fH H ⟨[.ref a],[]⟩ [.ref a] [.ref a] _ _ hr e0 (r6 fH (.ref a)) (.cons rfl .nil) (wD H hOt hS)) fun r s' h=>?_;cases r with
  | error e=>exact (hCX H e s' h).elim
  | ok fl =>
    cases fl with
    | next=>exact False.elim h
    | brk=>exact False.elim h
    | cont=>exact False.elim h
    | ret u =>
      obtain⟨v,H',os,bare,un,hok',r',q⟩:=h;have q':v=.bl true:=q;subst q';obtain rfl:u=Value.bool true:=r';have kp:∀ b o,fH.heap.get? b=some o->asItWas fH.heap s'.heap b o:=fun b o e=>by
       cases q:H b with
       | none=>exact .inl (un.keep b o e q (by intro z;exact absurd (show b∈([]:List Addr) from z) (by simp)) (by simp))
       | some u =>
         rcases hO b with z|⟨ob,xs,z⟩|⟨⟨t,ht,e'⟩,z⟩
         ·rw [q] at z;cases z
         ·have z2:=un.frzs b ob _ z;obtain⟨e1,_⟩:=hok b _ z;obtain⟨e2,_⟩:=hok' b _ z2;rw [e] at e1;cases e1;exact .inl e2
         ·subst e';obtain⟨more,z2⟩:=un.tbls _ _ z;have e2:s'.heap.get? t.2=some { cls:=.none,data:=.fields (#[]++more) }:=hok' t.2 _ z2;rw [hT t ht] at e;cases e;have CH:=qV KX (hC t ht);exact .inr (.inl ⟨(CH.tab (hT t ht)).isCodeTable,rfl,#[],more,rfl,e2⟩)
      exact⟨rfl,⟨kp,fun b o e=>un.there b o e (by simp)⟩,os,bare⟩
 have aT:∀ t∈ts,t.2≠a:=fun t ht z=>by
  have e:=hT t ht;rw [z,ha] at e;cases e
 have dT:∀ b,Decidable (∃ t∈ts,t.2=b):=fun b=>by infer_instance
 cases hk:K.lookup a with
 | some o =>
   have e:=KX a o hk;rw [ha] at e;cases e;refine core (fun b=>if ∃ t∈ts,t.2=b then some (.tbl #[]) else none) (fun b=>?_) (fun t ht=>if_pos ⟨t,ht,rfl⟩) (.inr ⟨_,vs.toArray,_,hk,rfl,rfl,rfl,by rw [dL,lenV];exact hl,by simpa using rv⟩) (fun b u z=>?_) (fun b z=>?_) fun z=>absurd (if_neg (fun⟨t,ht,e⟩=>aT t ht e)) z
   ·by_cases hb:∃ t∈ts,t.2=b
    ·exact .inr (.inr ⟨hb,if_pos hb⟩)
    ·exact .inl (if_neg hb)
   ·by_cases hb:∃ t∈ts,t.2=b
    ·have z':=(if_pos hb).symm.trans z;cases z';obtain⟨t,ht,rfl⟩:=hb;exact hT t ht
    ·have z':=(if_neg hb).symm.trans z;cases z'
   ·by_cases hb:∃ t∈ts,t.2=b
    ·exact .inr hb
    ·exact absurd (if_neg hb) z
 | none =>
   refine core (fun b=>if b=a then some (.frz { cls:=.type "list",data:=.seq vs.toArray } (.lst (ns.map V.int))) else if ∃ t∈ts,t.2=b then some (.tbl #[]) else none) (fun b=>?_) (fun t ht=>(if_neg (aT t ht)).trans (if_pos ⟨t,ht,rfl⟩)) (.inl (.inr ⟨{ cls:=.type "list",data:=.seq vs.toArray },if_pos rfl⟩)) (fun b u z=>?_) (fun b z=>?_) fun _=>hk
   ·by_cases hb:b=a
    ·exact .inr (.inl ⟨_,_,if_pos hb⟩)
    ·by_cases qT:∃ t∈ts,t.2=b
     ·exact .inr (.inr ⟨qT,(if_neg hb).trans (if_pos qT)⟩)
     ·exact .inl ((if_neg hb).trans (if_neg qT))
   ·by_cases hb:b=a
    ·have z':=(if_pos hb).symm.trans z;cases z';subst hb;exact⟨ha,by rw [c6];exact hl,vs,_,rv,ha⟩
    ·have z':=(if_neg hb).symm.trans z;by_cases qT:∃ t∈ts,t.2=b
     ·have z'':=(if_pos qT).symm.trans z';cases z'';obtain⟨t,ht,rfl⟩:=qT;exact hT t ht
     ·have z'':=(if_neg qT).symm.trans z';cases z''
   ·by_cases hb:b=a
    ·exact .inl hb
    ·by_cases qT:∃ t∈ts,t.2=b
     ·exact .inr qT
     ·exact absurd ((if_neg hb).trans (if_neg qT)) z
theorem walk_of1{l:PySem.W.OpenLaw}{n k:Nat}{q:Program}{qA:List Str}{XP:(Str->Option Value)->Heap->Prop}{YP:World->Heap->Prop}{d:DefRec}{K:Params->PySem.W.Frag}{CX:World->CXT}{sp:World->Sp}{x:Str}{tP:Addr}
 (hn:l.most=some n) (hn2:n<=c9) (hdf:d.params.defaults=[]) (hr:kJ k qW)
 (hY:∀ (w:World) (h:Heap),YP w h->(K w.params).In h) (hT:∀ (w:World) (h:Heap),YP w h->h.get? tP=some (nJ #[])) (hKt:∀ (w:World),(K w.params).lookup tP=none)
 (F:∀ (w:World) (mg:Str->Option Value) (fa:Addr) (h:Heap),(K w.params).In h->h.Ns dS mg->mg d.name=some (.ref fa) ->
  ∃ fd:FuncData,(∀ (s:Shared) (u:Value),BindsTo s fd ⟨[u],[]⟩ [(x,u)])/\(∃ c,jI (K w.params) c tP=true) /\
   ∀ base:Heap,(K w.params).In base->base.Ns dS mg->wX base mg->fJ l.prog w (K w.params) mg base (CX w) k fa fd [x] (sp w))
 (wD:∀ (w:World) (H:Hp) (a:Addr) (ns:List Int),ns.length<=n->H tP=some (.tbl #[])->SqL (K w.params) H a (ns.map V.int)->sp w [.ref a] H (fun v _=>v=.bl true) fun _ _ _=>False)
 (hCX:∀ (w:World) (H:Hp) (s:Shared) (e:Value) (s':Shared),CX w [] H s (fun _ _ _=>False) e s'->False) :
 PySem.W.WalkO q qA XP YP l.row.toRowW d [] (fun f vs=>PySem.call f vs):=by
 refine Att.attach_call hn hdf fun w s₀ fH mg mb fa o pm cd oG a vs ns G Y ho hd nY hmg hobj xL kK hg=>?_;have KX:=hY w _ Y;obtain⟨fd,hb,⟨c,hc⟩,hF⟩:=F w mg fa _ KX G.T.g hmg;have one:∀ {p:Addr×Addr->Prop},p (c,tP)->∀ t∈[(c,tP)],p t:=fun h t ht=>by rw [mem_singleton.mp ht];exact h
 exact jOD (ts:=[(c,tP)]) KX G.T.g G.T.b G.T.builtins G.T.nolimit G.T.bmain hg (one (hT w _ Y)) (one hc) (one (hKt w)) hobj xL (le_trans kK hn2) hr hF hb (fun H hO hS=>wD w H a ns kK (hO (c,tP) (.head _)) hS) fun H e s'=>hCX w H fH e s'
section
variable {P:Program}{w:World}{K:PySem.W.Frag}{mg:Str->Option Value}{base:Heap}
end
section
variable {X:Cx}
def jMV(ta:TA):TE:=fun σ H Q=>ta σ H fun vs H1=>∃ j:Int,vs=[.int j]/\(-(2^62)<=j/\j<2^62)/\j.toNat<=c9/\j.toNat<=2^24/\∀ l,H1 l=none->Q (.ref l) (upd H1 l (.lst (jGW 0 j.toNat)))
theorem jHs(hc:X.calm=true)(hl:Gl X "list")(hlm:X.mg "list"=none)(hg:Gl X "range")(hm:X.mg "range"=none)(ha:PA X [b] ta) 
 (uE:dG [b] X.env=[(false,eU b X.env)]:=by rfl) (hb:bootBuiltins "list"=some (.type "list"):=by decide +kernel)
 (ho:dG [Expr.Call (.Name "range" p2) [b] [] pos2] X.env=[(false,eU (.Call (.Name "range" p2) [b] [] pos2) X.env)]:=by rfl) :
 PE X (.Call (.Name "list" p) [.Call (.Name "range" p2) [b] [] pos2] [] pos) (jMV ta):=by
 intro b9 s σ H Q I h;refine fR (jC3 I hl hlm hb ?_);refine PyProof.Rows.callWith_type1 ?_ (by rw [ho];rfl) rfl;rw [ho];refine Calls.spliced_cons ?_;refine Call_ (jC3 I hg hm vH (PyProof.Rows.callWith_type1 (thn (ha pos2 b9 s σ H _ I h) fun us s1 ⟨vs,H1,I1,r1,q1⟩=>?_) (by rw [uE];rfl) rfl));obtain⟨j,e,⟨q3,q4⟩,z1,z2,q⟩:=q1;subst e;cases r1 with
 | cons r rr =>
   cases rr;obtain⟨t',rfl⟩:=r;refine call_range_1 ?_;refine Calls.spliced_nil ?_;have hn:Builtin.Range.rangeSize 0 j 1=((j.toNat:Nat):Int):=by rw [zY];split<;>omega
   refine call_list_range (I1.ok.hd hc) (IsRange.new ..) (small_one (by decide) (by decide) q3 q4) hn z2 fun h' tk acc' c' hk hS' hacc=>?_;have kp:∀ b o,s1.heap.get? b=some o->h'.get? b=some o:=fun b o e=>hk b o (get?_push_of_some _ e);refine⟨.ref _,_,I1.laid (t':=tk) kp ?_ ?_,rfl,q _ (I1.hok.fresh ?_)⟩
   ·rw [size_push];exact fL _
   ·refine⟨(by unfold jGW;rw [c6,dP];exact z1),acc'.toList,c',jPn hacc,?_⟩;exact hS'
   ·rw [size_push];exact fL _
end
open PySem PyProof.Rows PySem.Spec PySem.Calls PySem.W
section
variable {n:Nat}{kf:Nat->Int}
def KP(kf:Nat->Int)(p:Array Nat)(i:Nat):Int:=kf (p.getD i 0)
def Dn(kf:Nat->Int)(p:Array Nat)(m:Nat):Prop:=∀ i,i+1<m->KP kf p (i+1)<KP kf p i
variable {s:Shared}{cmp:Nat->Nat->(Bool->Shared->Prop)->Shared->Prop}
end
inductive VP:List (Int×V)->List (Int×Value)->Prop where
 | nil:VP [] []
 | cons {k:Int} {x:V} {v:Value} {xs:List (Int×V)} {vs:List (Int×Value)} (r:gN x v) (h:VP xs vs):VP ((k,x)::xs) ((k,v)::vs)
theorem VP.of:∀ {kz:List Int} {xs:List V} {vs:List Value},gX xs vs->VP (kz.zip xs) (kz.zip vs)
 | [],_,_,_=>.nil
 | _::_,_,_,.nil=>.nil
 | _::_,_,_,.cons r h=>.cons r (VP.of h)
theorem VP.vals:∀ {xs:List (Int×V)} {vs:List (Int×Value)},VP xs vs->gX (xs.map y7) (vs.map y7)
 | _,_,.nil=>.nil
 | _,_,.cons r h=>.cons r h.vals
theorem VP.fsts:∀ {xs:List (Int×V)} {vs:List (Int×Value)},VP xs vs->xs.map fst=vs.map fst
 | _,_,.nil=>rfl
 | _,_,.cons r h=>by rw [dQ,dQ,h.fsts]
theorem VP.back(p:ps.Perm qs):∀ {xs:List (Int×V)},VP xs qs->∃ ys,List.Perm ys xs/\VP ys ps:=by
 induction p with
 | nil=>exact fun h=>⟨_,.refl _,h⟩
 | cons x _ ih =>
   intro xs h;cases h with
   | cons r h =>
     obtain⟨ys,p,v⟩:=ih h;exact⟨_,p.cons _,.cons r v⟩
 | swap x y l =>
   intro xs h;cases h with
   | cons r h =>
     cases h with
     | cons r2 h=>exact⟨_,.swap _ _ _,.cons r2 (.cons r h)⟩
 | trans _ _ ih1 ih2 =>
   intro xs h;obtain⟨ys,p,v⟩:=ih2 h;obtain⟨zs,p2,v2⟩:=ih1 v;exact⟨zs,p2.trans p,v2⟩
theorem jPu{α β:Type}{R:Int->Int->Prop}{xs:List (Int×α)}{vs:List (Int×β)}(e:xs.map fst=vs.map fst)(h:vs.Pairwise fun p q=>R p.1 q.1):xs.Pairwise fun p q=>R p.1 q.1:=by
 have h1:(vs.map fst).Pairwise R:=mR.mpr h;rw [<- e] at h1;exact mR.mp h1
section
variable {X:Cx}{b9:List (Addr×Obj)}{σ:St}
theorem Inv.adopt(J:Inv X b9 σ H s)(w:wS X b9 D)(nD:H D=none)(hL:D≠X.env.locals)(new:lO X.prog X.w (upd H D o) s.heap D o):Inv X b9 σ (upd H D o) s:=by
 have ne:∀ b u,H b=some u->b≠D:=fun b u e z=>by rw [z,nD] at e;cases e
 refine⟨J.ok,J.os,J.bare,⟨J.base.keep,J.base.slot,fun b u e n x=>?_,J.base.there,fun b ys e=>?_,fun b u v e=>?_,fun b ps e=>?_⟩,J.loc,J.cell,?_,fun x c e=>?_,fun p hp=>?_,fun b u e=>?_,J.len⟩
 ·rw [dW (eA (dO (dR e) w.h1))];exact J.base.free b u e n x
 ·have:=J.base.tups b ys e;rw [dW (ne _ _ this)];exact this
 ·have:=J.base.frzs b u v e;rw [dW (ne _ _ this)];exact this
 ·obtain⟨more,this⟩:=J.base.tbls b ps e;exact⟨more,by rw [dW (ne _ _ this)];exact this⟩
 ·rw [dW (symm hL)];exact J.free
 ·rw [dW (w.h2 x c e)];exact J.freeC x c e
 ·obtain⟨a,b,c⟩:=J.pin p hp;exact⟨a,by rw [dW (w.h3 p hp)];exact b,c⟩
 ·by_cases z:b=D
  ·subst z;rw [d4] at e;obtain rfl:=Option.some.inj e;exact new
  ·rw [dW z] at e;exact (J.hok b u e).stay (fun c v _ q=>q) (fun c q=>by rw [dW (ne _ _ q)];exact q) fun c xs q=>by rw [dW (ne _ _ q)];exact q
theorem sk_tail{H:Hp}{s:Shared}{A:Around}{E:Value->Shared->Prop}{P:PySem.Fin->Shared->Prop}{D kS:Addr}{ks:Array Value}{e1 e2:Nat}{st:SortSt}{out:List Value}{ys:List V}
 (J:Inv X (b9++[(kS,hG "list" ks e2),(D,hG "list" #[] e1)]) σ H s) (oD:wS X b9 D) (oS:wS X b9 kS) (hSD:kS≠D) (lk:ks.size<=64) (hf:zW st=none) (ho:(xZ st).map (·.2)=out.toArray) (rv:gX ys out) (l64:ys.length<64)
 (h:∀ s',H D=none->Inv X b9 σ (upd H D (.lst ys)) s'->P (.done (.ret .none)) s'):dC (dF X.prog X.w) A (zU D false e1 (.ref kS) st) P E s:=by
 have pS:=J.pin (kS,hG "list" ks e2) (dD _ (dD _ (.head _)));have pD:=J.pin (D,hG "list" #[] e1) (dD _ (dD _ (.tail _ (.head _))));have u1:=SameBut.update s.heap kS (gE fun _=>(#[]:Array Value));have gD:(s.heap.update kS (gE fun _=>(#[]:Array Value))).get? D=some (hG "list" #[] e1):=(u1.2 D (symm hSD)).trans pD.1;have u2:=SameBut.update (s.heap.update kS (gE fun _=>(#[]:Array Value))) D (gE fun _=>out.toArray);have g2:=get?_update_seq gD fun _=>out.toArray;have lo:out.length=ys.length:=rv.length.symm;unfold zU;dsimp only;refine c5 (o6 pS.1 rfl (c5 (yI (c5 (seqEpoch_at gD rfl (c5 ?_))))) (le_trans lk (by rw [fC];omega)) (d5 _));rw [ho,hf];refine o6 gD rfl ?_ (d5 _) (by show out.toArray.size<=_;rw [dL,lo,fC];omega);simp only [bne_self_eq_false,mE,if_false];refine dE (h _ pD.2.1 ?_);have J1:=(jLZ J).turned (t':=s.toks) (it:=kS) (fun b u nb e=>(u1.2 b nb).trans e) pS.2.1 pS.2.2.1 (.inr oS.h1) oS.h2 oS.h3;have J2:=J1.turned (t':=s.toks) (it:=D) (fun b u nb e=>(u2.2 b nb).trans e) pD.2.1 pD.2.2.1 (.inr oD.h1) oD.h2 oD.h3;exact J2.adopt oD pD.2.1 pD.2.2.1 ⟨by rw [fC];omega,out,_,rv,g2⟩
theorem sk_end 
 (J:Inv X (b9++[(kS,hG "list" ks e2),(D,hG "list" #[] e1)]) σ H s) (oD:wS X b9 D) (oS:wS X b9 kS) (hSD:kS≠D) (hk:IntsAre ks.toList kz) (rv:gX xs its) (hl:kz.length=xs.length) (l64:xs.length<64)
 (h:∀ s' qs,H D=none->List.Perm qs (kz.zip xs)->qs.Pairwise (fun p q=>p.1<=q.1)->Inv X b9 σ (upd H D (.lst (qs.map y7))) s'->P (.done (.ret .none)) s'):dC (dF X.prog X.w) A (ksk_end D false its.toArray e1 (.ref kS) ks) P E s:=by
 have li:xs.length=its.length:=rv.length;have lk:ks.size=its.length:=by
  have:=hk.length;rw [jE] at this;omega
 have lz:(ks.zip its.toArray).size=its.length:=by rw [Array.size_zip,lk,dL,Nat.min_self]
 have fin:∀ st:SortSt,(xZ st).Perm (ks.zip its.toArray)->SortedTo (xZ st) (xZ st).size->zW st=none->dC (dF X.prog X.w) A (zU D false e1 (.ref kS) st) P E s:=fun st hp hs hf=>by
  obtain⟨ps,p1,p2,p3⟩:=ksk_out (b:=false) hk hp hs;obtain⟨qs,q1,q2⟩:=VP.back p1 (VP.of rv);have ea:(xZ st).map (·.2)=(ps.map y7).toArray:=by
   rw [<- p2,if_neg (by decide),Array.toArray_toList]
  refine sk_tail (ys:=qs.map y7) J oD oS hSD (by omega) hf ea q2.vals ?_ (fun s' nD J'=>h s' qs nD q1 (jPu (R:=fun a b=>a<=b) q2.fsts ?_) J')
  ·rw [c6,q1.length_eq,List.length_zip];omega
  ·exact p3.imp fun {a b} z=>by simpa using z
 unfold ksk_end;dsimp only;rw [if_neg (by decide)];by_cases c:its.toArray.size<2
 ·rw [if_pos c,if_pos c];refine c5 (dE ?_);rw [StateT.run_pure];refine c5 (dE (fin (SortSt.mk' general' (if false=true then (ks.zip its.toArray).reverse else ks.zip its.toArray) #[] 7 none) (Array.Perm.refl _) (fun i j a b=>?_) rfl));have b2:j<(ks.zip its.toArray).size:=b;rw [dL] at c;obtain rfl:i=j:=by omega
  exact Int.le_refl _
 ·rw [if_neg c,if_neg c];rw [dL] at c;rw [ksk_kind hk (by omega)];refine c5 (dE ?_);refine c5 (eB (wpS_sortRuns (a₀:=ks.zip its.toArray) (st:=SortSt.mk' oneType' (if false=true then (ks.zip its.toArray).reverse else ks.zip its.toArray) #[] 7 none) (Q:=fun _ t=>(xZ t).Perm (ks.zip its.toArray)/\zW t=none/\SortedTo (xZ t) (ks.zip its.toArray).size) (ksk_intKeys hk) ⟨Array.Perm.refl _,rfl,rfl,rfl⟩ (by omega) (by omega) fun t a b c=>⟨a,b,c⟩) ?_ fun _ _ z=>z);rintro⟨⟨⟩,t⟩ s' ⟨rfl,a,b,c⟩;exact fin t a (by rw [a.size_eq];exact c) b
theorem sk_rest{H0:Hp}{s:Shared}{A:Around}{E:Value->Shared->Prop}{P:PySem.Fin->Shared->Prop}{D kS:Addr}{e1:Nat}{its:List Value}{xs:List V}{kz:List Int}{fv:Value}
 (J:Inv X (b9++[(kS,hG "list" #[] 0),(D,hG "list" #[] e1)]) σ H0 s) (oD:wS X b9 D) (oS:wS X b9 kS) (hSD:kS≠D) (rv:gX xs its) (hl:kz.length=xs.length) (l64:xs.length<64)
 (turn:∀ (i:Nat) (x:V) (v:Value) (k:Int),xs[i]?=some x->kz[i]?=some k->gN x v->∀ (ex:List (Addr×Obj)) (H:Hp) (s:Shared),Inv X (b9++ex) σ H s->eC H0 H ->
  dC (dF X.prog X.w) A (call fv [v]) (fun z s'=>∃ t H',z=.int k t/\eC H H'/\Inv X (b9++ex) σ H' s') (fun _ _=>False) s)
 (h:∀ H s' qs,eC H0 H->H D=none->List.Perm qs (kz.zip xs)->qs.Pairwise (fun p q=>p.1<=q.1)->Inv X b9 σ (upd H D (.lst (qs.map y7))) s'->P (.done (.ret .none)) s'):dC (dF X.prog X.w) A (ksk_rest D fv false its.toArray e1 (.ref kS)) P E s:=by
 have li:xs.length=its.length:=rv.length;unfold ksk_rest;refine c5 (yR ?_);rw [List.forIn_toArray];refine c5 (ksk_fold (fun i s'=>∃ (H:Hp) (kA:Array Value) (e:Nat),eC H0 H/\Inv X (b9++[(kS,hG "list" kA e),(D,hG "list" #[] e1)]) σ H s'/\IntsAre kA.toList (kz.take i)) its 0 s ⟨H0,#[],0,eC.refl _,J,by simpa using IntsAre.nil⟩ ?step ?done)
 case step =>
  rintro j v s' hv ⟨H,kA,e,sm,J1,hk⟩;rw [Nat.zero_add] at hk ⊢;have hj:j<its.length:=(List.getElem?_eq_some_iff.mp hv).1;obtain⟨x,hx⟩:∃ x,xs[j]?=some x:=⟨_,getElem?_eq_getElem (by omega)⟩
  obtain⟨k,hkj⟩:∃ k,kz[j]?=some k:=⟨_,getElem?_eq_getElem (by omega)⟩
  have rx:gN x v:=by
   obtain⟨u,hu,ru⟩:=rv.get hx;rw [hv] at hu;rw [Option.some.inj hu];exact ru
  have lz:kA.size<=its.length:=by
   have:=hk.length;rw [jE,fI] at this;omega
  refine c5 (zX (eB (turn j x v k hx hkj rx _ H s' J1 sm) (fun z s2 hz=>?_) fun _ _ z=>z.elim));obtain⟨t,H2,rfl,sm2,J2⟩:=hz;dsimp only;have pS:=J2.pin (kS,hG "list" kA e) (dD _ (dD _ (.head _)));have u1:=SameBut.update s2.heap kS (gE (·.push (.int k t)));have g1:=get?_update_seq pS.1 (·.push (.int k t));refine c5 (o6 pS.1 rfl ?_ (by rw [fC];omega) (by rw [Array.size_push,fC];omega));refine dE ⟨rfl,H2,_,_,sm.trans sm2,jPs (t':=s2.toks) J2 (fun b o nb q=>(u1.2 b nb).trans q) g1 (fun v z=>by cases z) oS.h1 oS.h2 oS.h3 (symm hSD),?_⟩;rw [show (kA.push (Value.int k t)).toList=kA.toList++[Value.int k t] by simp,gR,hkj];exact ksk_snoc hk
 case done =>
  rintro s' ⟨H,kA,e,sm,J1,hk⟩;rw [fG (by omega)] at hk;have pS:=J1.pin (kS,hG "list" kA e) (dD _ (dD _ (.head _)));refine c5 (listItems_at pS.1 rfl ?_);exact sk_end J1 oD oS hSD hk rv hl l64 fun s2 qs n a b c=>h H s2 qs sm n a b c
theorem sk_sort{H0:Hp}{s:Shared}{A:Around}{E:Value->Shared->Prop}{P:PySem.Fin->Shared->Prop}{D:Addr}{n:Nat}{its:List Value}{xs:List V}{kz:List Int}{fv:Value}
 (J:Inv X b9 σ H0 s) (oD:wS X b9 D) (nD:H0 D=none) (hL:D≠X.env.locals) (hfs:D ∉ X.fs) (ho:s.heap.get? D=some (hG "list" its.toArray n)) (rv:gX xs its) (hl:kz.length=xs.length) (l64:xs.length<64)
 (turn:∀ (i:Nat) (x:V) (v:Value) (k:Int),xs[i]?=some x->kz[i]?=some k->gN x v->∀ (ex:List (Addr×Obj)) (H:Hp) (s:Shared),Inv X (b9++ex) σ H s->eC H0 H ->
  dC (dF X.prog X.w) A (call fv [v]) (fun z s'=>∃ t H',z=.int k t/\eC H H'/\Inv X (b9++ex) σ H' s') (fun _ _=>False) s)
 (h:∀ H s' qs,eC H0 H->H D=none->List.Perm qs (kz.zip xs)->qs.Pairwise (fun p q=>p.1<=q.1)->Inv X b9 σ (upd H D (.lst (qs.map y7))) s'->P (.done (.ret .none)) s'):dC (dF X.prog X.w) A (ksk_tree D fv false) P E s:=by
 have li:xs.length=its.length:=rv.length;have u1:=SameBut.update s.heap D (gE fun _=>(#[]:Array Value));have g1:=get?_update_seq ho fun _=>#[];have lD:=dR ho;have J1:=J.turned (t':=s.toks) (it:=D) (fun b u nb e=>(u1.2 b nb).trans e) nD hL (.inr oD.h1) oD.h2 oD.h3;have z1:(s.heap.update D (gE fun _=>(#[]:Array Value))).objs.size=s.heap.objs.size:=Heap.size_update ..;have kp:∀ b o,(s.heap.update D (gE fun _=>(#[]:Array Value))).get? b=some o->(((s.heap.update D (gE fun _=>(#[]:Array Value))).push { cls:=.type "tuple",data:=.seq its.toArray }).push { cls:=.type "list",data:=.seq #[] }).get? b=some o:=fun b o e=>get?_push_of_some _ (get?_push_of_some _ e);unfold ksk_tree;refine c5 (listItems_at ho rfl (c5 (o6 ho rfl (c5 (seqEpoch_at g1 rfl (c5 (zR ?_ (by show its.length<=_;rw [fC];omega))))) (by rw [dL,fC];omega) (d5 _))));refine c5 (wE (fW ?_) (d5 _));have z2:((s.heap.update D (gE fun _=>(#[]:Array Value))).push { cls:=.type "tuple",data:=.seq its.toArray }).objs.size=s.heap.objs.size+1:=by rw [y8,z1]
 have J2:=J1.kept (t':=s.toks) kp;have gS:(((s.heap.update D (gE fun _=>(#[]:Array Value))).push { cls:=.type "tuple",data:=.seq its.toArray }).push { cls:=.type "list",data:=.seq #[] }).get? ((s.heap.update D (gE fun _=>(#[]:Array Value))).push { cls:=.type "tuple",data:=.seq its.toArray }).objs.size=some (hG "list" #[] 0):=get?_push_size _ rfl;have fS:=J1.fpOk (b:=((s.heap.update D (gE fun _=>(#[]:Array Value))).push { cls:=.type "tuple",data:=.seq its.toArray }).objs.size) (by rw [z2];show _<=_;rw [z1];exact fL _) (J1.hok.fresh (by rw [z2];show _<=_;rw [z1];exact fL _));have oS:wS X b9 ((s.heap.update D (gE fun _=>(#[]:Array Value))).push { cls:=.type "tuple",data:=.seq its.toArray }).objs.size:=⟨le_trans J.sz (by rw [z2];exact fL _),fS.2.2.2.2.1,fS.2.2.2.2.2⟩
 have hSD:((s.heap.update D (gE fun _=>(#[]:Array Value))).push { cls:=.type "tuple",data:=.seq its.toArray }).objs.size≠D:=by rw [z2];exact gO (jD lD)
 refine sk_rest (J2.pins_of fun p hp=>?_) oD oS hSD rv hl l64 turn h;rcases eV.mp hp with hp|hp
 ·exact J2.pin p (dD _ hp)
 ·rcases dZ.mp hp with rfl|hp
  ·exact⟨gS,fS.1,fS.2.1,fS.2.2.1,fun v z=>by cases z⟩
  ·rw [mem_singleton.mp hp];exact⟨kp _ _ g1,nD,hL,hfs,fun v z=>by cases z⟩
theorem jL0{H0:Hp}{s:Shared}{A:Around}{E Q:Value->Shared->Prop}{l:Addr}{its:List Value}{kw:List (Str×Value)}(I:Inv X b9 σ H0 s)(hl:s.heap.IsList l its.toArray)(l64:its.length<64)(a1:argsOk "sorted" ⟨[.ref l],kw⟩)(a2:∀ x,argsOk "list.sort" ⟨[.ref x],kw⟩)
 (go:∀ (D:Addr) (h1:Heap),Inv X b9 σ H0 { s with heap:=h1 }->wS X b9 D->H0 D=none->D≠X.env.locals->D ∉ X.fs->h1.get? D=some (hG "list" its.toArray 0) ->
  dC (dF X.prog X.w) A.in1.in1 (Builtin.«list.sort» ⟨[.ref D],kw⟩) (fun z s'=>z=.done (.ret .none)/\Q (.ref D) s') E { s with heap:=h1 }) :
 dC (dF X.prog X.w) A (call (.builtin "sorted") [.ref l] kw) Q E s:=by
 refine call_function_entry_kw kind_sorted plain_sorted entry_sorted a1 ?_;unfold Builtin.«sorted»;refine c5 (m:=checkCount "sorted" 1 1 _) (dE (c5 (collect_list hl (c5 (wE ?_ (by rw [fC];omega))) (by rw [fC];omega))));have z1:((s.heap.push (hG "list" #[] 0)).update s.heap.objs.size (gE (· ++ its.toArray))).objs.size=s.heap.objs.size+1:=by rw [Heap.size_update,y8]
 have kp:∀ b o,s.heap.get? b=some o->(((s.heap.push (hG "list" #[] 0)).update s.heap.objs.size (gE (· ++ its.toArray))).push { cls:=.type "list",data:=.seq its.toArray }).get? b=some o:=fun b o e=>by
  have lt:=dR e;refine get?_push_of_some _ ?_;rw [get?_update_ne _ _ _ _ (eA lt)];exact get?_push_of_some _ e
 have gD:(((s.heap.push (hG "list" #[] 0)).update s.heap.objs.size (gE (· ++ its.toArray))).push { cls:=.type "list",data:=.seq its.toArray }).get? ((s.heap.push (hG "list" #[] 0)).update s.heap.objs.size (gE (· ++ its.toArray))).objs.size=some (hG "list" its.toArray 0):=get?_push_size _ rfl;have fD:=I.fpOk (b:=((s.heap.push (hG "list" #[] 0)).update s.heap.objs.size (gE (· ++ its.toArray))).objs.size) (by rw [z1];exact fL _) (I.hok.fresh (by rw [z1];exact fL _));have oD:wS X b9 ((s.heap.push (hG "list" #[] 0)).update s.heap.objs.size (gE (· ++ its.toArray))).objs.size:=⟨le_trans I.sz (by rw [z1];exact fL _),fD.2.2.2.2.1,fD.2.2.2.2.2⟩
 refine c5 (fW (wpAny_call_entry_kw zS ⟨_,gD,rfl⟩ zQ (eB (go _ _ (I.kept (t':=s.toks) kp) oD fD.1 fD.2.1 fD.2.2.1 gD) (fun z s' hz=>?_) fun _ _ x=>x) (a2 _)));obtain⟨rfl,q⟩:=hz;exact⟨_,rfl,dE ⟨_,rfl,q⟩⟩
end
def jHN(P:Program)(w:World)(K:PySem.W.Frag)(mg:Str->Option Value)(base:Heap)(x:Str)(qual:Str)(scope:Scope)(f:Addr)(cd:Value)(A:Around)(outer:List Env)(s:Shared)(H:Hp):Cx where
 prog:=P
 w:=w
 K:=K
 mg:=mg
 base:=base
 A:=A.deeper (envX qual scope s.heap.objs.size f cd [])
 N:=[x]
 s₀:=s
 H₀:=H
 env:=envX qual scope s.heap.objs.size f cd []
 outer:=outer
 stack:=envX qual scope s.heap.objs.size f cd []::outer
 ex:=[]
 fn:=fun z=>z==x
 calm:=true
 pn:=[]
 xe:=fun _ _=>False
structure jDw(x:Str)(scope:Scope):Prop where
 kind:scope.kind=.function
 co:scope.isCoroutine=false
 gen:scope.isGenerator=false
 lx:scope.names.lookup x=some .local
 nocell:∀ z∈scope.names,z.2≠.cell
 nofree:∀ z,scope.names.lookup z≠some .free
theorem jNP{P:Program}{w:World}{K:PySem.W.Frag}{mg:Str->Option Value}{base:Heap}{x qual:Str}{scope:Scope}{f:Addr}{cd:Value}{A:Around}{outer:List Env}{s:Shared}{H:Hp}{hU:Heap}{tk:Nat}{u:Value}{v:V}
 (S:jDw x scope) (hd:A.handled=none) (e0:jGd P w K mg base A outer s H) (ru:gN v u)
 (hns:hU.Ns s.heap.objs.size (fun z=>[(x,u)].reverse.lookup z)) (hk:∀ b o,s.heap.get? b=some o->hU.get? b=some o) :
 Inv (jHN P w K mg base x qual scope f cd A outer s H) [] [some v] H { s with heap:=hU,toks:=tk }:=by
 have noA:∀ b:Addr,b ∉ (jHN P w K mg base x qual scope f cd A outer s H).ex:=fun b z=>absurd (show b∈([]:List Addr) from z) (by simp);have rZ:∀ z d,(jHN P w K mg base x qual scope f cd A outer s H).env.cells.lookup z≠some d:=fun z d h=>by
  have h':List.lookup z ([]:List (Str×Addr))=some d:=h;cases h'
 refine⟨⟨e0.mod,S.kind,rfl,rfl,le_refl _,fun a b d h1 h2=>absurd h1 (rZ a d),fun z hz=>?_,fun z d hf hz=>absurd hz (rZ z d),fun _=>hd,Around.frames_deeper e0.frames,.inr ⟨rfl,rfl⟩,fun b z=>absurd z (noA b),e0.bs,e0.bsz,fun b _ _=>noA b,fun b z=>absurd z (noA b),e0.funs,e0.frf⟩,
  rfl,e0.bare,Un.kept hk,⟨_,hns,fun i z r h1 h2 h3=>?_⟩,fun z d h=>absurd h (rZ z d),e0.hok.fresh (le_refl _),fun z d h=>absurd h (rZ z d),fun p hp=>absurd (show p∈([]:List (Addr×Obj)) from hp) (by simp),e0.hok.kept hk,rfl⟩
 ·have hz:scope.names.lookup z=some .cell\/scope.names.lookup z=some .free:=hz;rcases hz with hz|hz
  ·exact absurd rfl (S.nocell _ (PySem.mem_of_lookup hz))
  ·exact absurd hz (S.nofree z)
 ·match i,h1,h2 with
  | 0,h1,h2 =>
    obtain rfl:x=z:=Option.some.inj h1;obtain rfl:v=r:=Option.some.inj (Option.some.inj h2);exact⟨u,ru,.inl ⟨S.lx,by show List.lookup x [(x,u)]=some u;rw [eX,beq_self_eq_true]⟩⟩
theorem jPv{P:Program}{w:World}{K:PySem.W.Frag}{mg:Str->Option Value}{base:Heap}{x qual:Str}{params:Arguments}{body:Expr}{scope:Scope}{f c':Addr}{pm vF:Value}{A:Around}{outer:List Env}{s:Shared}{H:Hp}{u:Value}{v:V}{t:TE}{Q:VK}
 (S:jDw x scope) (hd:A.handled=none) (hdep:A.depth<oH) (e0:jGd P w K mg base A outer s H) (ru:gN v u)
 (hf:s.heap.get? f=some (pA "<lambda>" qual params body scope [] pm c' vF)) (nY:s.heap.CodeRec (.ref c') qual)
 (r6:yO (zJ "<lambda>" qual params body scope [] pm (.ref c') vF) ⟨[u],[]⟩=pure [(x,u)])
 (hb:PE (jHN P w K mg base x qual scope f (.ref c') A outer s H) body t) (hq:t [some v] H Q) :
 iJ (dF P w) A (.call (.ref f) ⟨[u],[]⟩) (fun r s'=>match r with|.ok (.ret z)=>CE outer P w H s Q z s'|_=>False) s:=by
 have lim:s.heap.NoLimit:=e0.mod.nolimit.keeps fun b o e=>(e0.bs b o e).1;refine PySem.W.kla_callFunE hdep hf rfl S.co S.gen rfl nY ?_;rw [r6];refine dE (yH S.nocell (fun z hz=>?_) (fun hU hns hsb=>⟨lim.fresh _ hsb,?_⟩) S.kind)
 ·rw [mem_singleton.mp hz];exact S.lx
 show iJ _ _ (.expr body (envX qual scope s.heap.objs.size f (.ref c') [])) _ _;have hk:∀ b o,s.heap.get? b=some o->hU.get? b=some o:=fun b o e=>hsb.extBut b o (eA (dR e)) (get?_push_of_some _ e);have I:=jNP (qual:=qual) (f:=f) (cd:=.ref c') (tk:=s.toks+1) S hd e0 ru hns hk;refine PySem.W.kla_codeExpr (eB (hb [] _ _ H Q I hq) (fun z s' h=>?_) fun e s' h=>(show False from h).elim);obtain⟨vv,H',J,rv,q⟩:=h;exact⟨vv,H',J.os,J.bare,J.base,J.hok,rv,q⟩
section
variable {X:Cx}
def jPw(K:PySem.W.Frag)(ta:TA)(P:Addr)(pos:Pos)(qual:Str)(tb:TE):TE:=fun σ H Q=>ta σ H fun vs H1=>∃ (l:Addr) (xs:List V) (kz:List Int),vs=[.ref l]/\SqL K H1 l xs/\xs.length<64/\kz.length=xs.length/\vP H1 P pos qual /\
 (∀ H2,sM P H1 H2->∀ (i:Nat) x k,xs[i]?=some x->kz[i]?=some k->tb [some x] H2 fun v H4=>v=.int k/\eC H2 H4) /\
 ∀ H2 D qs,H2 D=none->sM P H1 H2->vP H2 P pos qual->List.Perm qs (kz.zip xs)->qs.Pairwise (fun p q=>p.1<=q.1)->Q (.ref D) (upd H2 D (.lst (qs.map y7)))
theorem jNQ(hr:kJ 1 X.A)(hg:Gl X "sorted")(hm:X.mg "sorted"=none)(ha:PA X [a] ta)(S:jDw x scope) 
 (B:wX X.base X.mg) (qG:X.env.code=.ref pR) (C:jI X.K pR P=true) (rZ:pT scope X.env=pure [])
 (r6:∀ pm c' vF u,yO (zJ "<lambda>" (X.env.qual ++ "<lambda>") params body scope [] pm (.ref c') vF) ⟨[u],[]⟩=pure [(x,u)])
 (hb:∀ (f:Addr) (cd:Value) (A:Around) (outer:List Env) (s:Shared) (H:Hp),PE (jHN X.prog X.w X.K X.mg X.base x (X.env.qual ++ "<lambda>") scope f cd A outer s H) body tb)
 (hs:dG [a] X.env=[(false,eU a X.env)]:=by rfl) (xM:zB params X.env=([],[]):=by rfl) (bt:bootBuiltins "sorted"=some (.builtin "sorted"):=by decide +kernel)
 (xO:(i6 pos (gI [⟨some "key",.Lambda params body scope lpos,uM⟩] X.env)).all (·.1.isSome)=true:=by rfl) (hks:(i6 pos (gI [⟨some "key",.Lambda params body scope lpos,uM⟩] X.env)).filterMap (·.1)=[("key":Str)]:=by rfl)
 (j4:((fZ pos (dG [a] X.env)).any (·.1)||(i6 pos (gI [⟨some "key",.Lambda params body scope lpos,uM⟩] X.env)).any (·.1.isNone))=false:=by rfl) :
 PE X (.Call (.Name "sorted" p) [a] [⟨some "key",.Lambda params body scope lpos,uM⟩] pos) (jPw X.K ta P lpos (X.env.qual ++ "<lambda>") tb):=by
 intro b9 s σ H Q I h;refine fR (jC3 I hg hm bt ?_);refine jPt j4 (evalArgs_kw2 xO (thn (ha pos b9 s σ H _ I h) fun us s1 ⟨vs,H1,I1,r1,q1⟩=>?_) hs);obtain⟨l,xs,kz,rfl,hl,l64,lz,ht,nF,hq⟩:=q1;obtain⟨u,rfl,ru⟩:=uU r1;cases ru;have K1:PK X [⟨some "key",.Lambda params body scope lpos,uM⟩] _:=pk_cons (pe_lamE B qG C rZ xM) pk_nil;obtain⟨ps,hP⟩:=ht.is;refine thn (K1 pos b9 s1 σ H1 (fun zs H2=>∃ f o c',zs=[V.ref f]/\sM P H1 H2/\jGX H2 P lpos (X.env.qual ++ "<lambda>") c'/\H2 f=some (FN f o)/\LamO (X.env.qual ++ "<lambda>") params body scope [] c' o) I1 ⟨ht,fun f o c' H' sP nf tA hf hO=>⟨f,o,c',rfl,sP,tA,hf,hO⟩⟩) fun ws s2 ⟨zs,H2,I2,r2,q2⟩=>?_;obtain⟨f,o,c',rfl,sP,tA,hf,hO⟩:=q2;obtain⟨u2,rfl,ru2⟩:=uU r2;cases ru2;rw [hks];obtain⟨pm,vF,rfl⟩:=hO;obtain⟨its,rv,pl,_⟩:=I2.list (hl.sameP hP sP);have li:=rv.length;refine jL0 I2 pl.isList (by omega) (ksk_s1 _ _) (fun x=>ksk_l1 _ _) (fun D h1 J oD nD hL hfs gD=>?_);show dC _ _ (Builtin.«list.sort» ⟨[.ref D],[(c7 "key",.ref f)]⟩) _ _ _;rw [ksk_t1];refine sk_sort J oD nD hL hfs gD rv lz l64 (fun i xv v k hx hk rx ex H3 s3 J3 s23=>?_) (fun H3 s3 qs s23 nD3 p1 p2 J3=>⟨rfl,?_⟩)
 ·have e0:=J3.env0;have e1:jGd X.prog X.w X.K X.mg X.base X.A.in1.in1 X.stack s3 H3:=⟨e0.frames,e0.mod,e0.bs,e0.bsz,e0.funs,e0.frf,e0.hok,e0.bare⟩
  have hf3:s3.heap.get? f=some _:=(J3.hok f _ (s23 _ _ hf)).1;have nY:s3.heap.CodeRec (.ref c') (X.env.qual ++ "<lambda>"):=(J3.hok c' _ (s23 _ _ tA.2)).1;have run:=jPv (u:=v) S (show X.A.in1.in1.handled=none from hr.hd) (show X.A.in1.in1.depth<oH by have:=hr.dp;show X.A.depth<_;omega) e1 rx hf3 nY (r6 pm c' vF v) (hb f (.ref c') X.A.in1.in1 X.stack s3 H3) (nF H3 (sP.trans s23.p) i xv k hx hk);refine lU (h8 run fun r s' oW=>?_);cases r with
  | error e=>exact oW.elim
  | ok fl =>
    cases fl with
    | next=>exact oW.elim
    | brk=>exact oW.elim
    | cont=>exact oW.elim
    | ret z =>
      obtain⟨vv,H4,J4,rv,rfl,s34⟩:=J3.after oW;obtain⟨t,rfl⟩:=rv;exact⟨t,H4,rfl,s34,J4⟩
 ·exact⟨.ref D,_,J3,rfl,hq H3 D qs nD3 (sP.trans s23.p) (.inr ⟨c',tA.same s23⟩) p1 p2⟩
end
section
variable {X:Cx}{b9:List (Addr×Obj)}{σ:St}
end
section
variable {P:Program}{w:World}{K:PySem.W.Frag}{mg:Str->Option Value}{base:Heap}
theorem Fun.okLE{x qual:Str}{st:Stmt}{f pR:Addr}{fd:FuncData}{N ps:List Str}{k:Nat}{sp:Sp}(F:Fun K x qual st f fd)(hL:fd.code=.ref pR)(S:gF N ps (fY st))(len:∀ vs H Q E,sp vs H Q E->vs.length=ps.length)
 (nF:∀ (A:Around) (outer:List Env) (s:Shared) (H:Hp) (vs:List V) (Q:VK) (E:XK),kJ k (A.deeper (nG qual (fY st) s.heap.objs.size f (.ref pR)))->sp vs H Q E ->
  ∃ t,PSs (cxE P w K mg base N qual (fY st) f (.ref pR) A outer s H E) (wA st) t/\t { nx:=fun _ H'=>Q .non H',rt:=Q } (start N vs) H):fJ P w K mg base (CXe P w) (k+1) f fd ps sp:=by
 obtain⟨oc,od,kV,oG,pm,an,fE,ct,sZ,rfl,lk,nY⟩:=F.ex;obtain rfl:fE=.ref pR:=hL;exact fn_of lk nY S len fun A outer s H vs Q E hr wD=>nF A outer s H vs Q E hr wD
theorem jDw.mk1(hn:scope.names=[(x,.local)])(kind:scope.kind=.function)(co:scope.isCoroutine=false)(gen:scope.isGenerator=false):jDw x scope:=by
 refine⟨kind,co,gen,?_,fun z hz=>?_,fun z hz=>?_⟩
 ·rw [hn,eX,beq_self_eq_true]
 ·rw [hn] at hz;rw [mem_singleton.mp hz];intro z;cases z
 ·have m:=PySem.mem_of_lookup hz;rw [hn] at m;injection mem_singleton.mp m with _ e;cases e
end
section
variable {P:Program}{w:World}{K:PySem.W.Frag}{mg:Str->Option Value}{base:Heap}{N:List Str}{qual:Str}{scope:Scope}{f:Addr}{cd:Value}{A:Around}{outer:List Env}{s:Shared}{H:Hp}{E:XK}
def ThawE(H:Hp)(E:XK):XK:=fun C ea H'=>∃ (d:Addr) (o:Obj) (kvs:List (Key×V)),H d=some (.dK kvs)/\H' d=some (.frz o (.dK kvs))/\E C ea (upd H' d (.dK kvs))
theorem jOE:jCU (cxE P w K mg base N qual scope f cd A outer s H E) (fun _=>ThawE H E):=by
 intro b9 σ H1 s1 e s2 I c;obtain⟨ea,C,d,H2,rfl,I2,hx,tr,dd,o,kvs,h0,hz,q⟩:=I.flew c;show dC _ _ (leaving _ _) _ _ _;unfold leaving;refine c5 (jHK jJ6 I2 hx tr fun s3 I3 t3=>?_);have I4:=I3.thaw hz (fun o u z=>by have z':H dd=some (.frz o u):=z;rw [h0] at z';cases z');refine⟨ea,C,d,_,rfl,I4.os,I4.bare,I4.base,I4.hok,?_,?_,q⟩
 ·rw [dW (fun z=>by rw [z,hz] at hx;cases hx)];exact hx
 ·obtain⟨cl,d',vs,sl,T,g1,g2,g3,g4,g5⟩:=t3.tr;exact⟨cl,d',vs,sl,T,g1,g2,g3,g4,by rw [dW (fun z=>by rw [z,hz] at g5;cases g5)];exact g5⟩
end
section
variable {X:Cx}
theorem op_isB:OpR X (fM .Is) (fun x y H Q=>∃ a b,x=.bl a/\y=.bl b/\Q (.bl (decide (a=b))) H):=by
 intro b9 s σ H x y v u Q I rx ry h;obtain⟨a,b,rfl,rfl,q⟩:=h;cases rx;cases ry;refine wpAny_of_eq (a:=Value.bool (decide (a=b))) ?_ (mP I q rfl);cases a<;>cases b<;>rfl
end
section
variable {X:Cx}{a b o e:Expr}{ta tb td te:TE}{pos p nW:Pos}{i:Nat}{x:Str}{r:R2}{op:CmpOp}
theorem psA(hN:X.N.Nodup)(he:PE X e te)(hi:X.N[i]?=some x:=by rfl)(hx:Loc X.env.scope x:=by first|exact Or.inl rfl|exact Or.inr rfl)(hs:mX e (some (.Name x nW)) pos.line X.env=pure false:=by rfl)(hf:X.fn x=true\/X.env.scope.names.lookup x=some .local:=by first|exact .inl rfl|exact .inr rfl|assumption):PS X (.Assign [.Name x nW] e pos) (tAsg te (wZ i)):=ps_set hN hi hx he hs hf
theorem pgA(hN:X.N.Nodup)(hi:X.N[i]?=some x:=by rfl)(hx:Loc X.env.scope x:=by first|exact Or.inl rfl|exact Or.inr rfl)(hf:X.fn x=true\/X.env.scope.names.lookup x=some .local:=by first|exact .inl rfl|exact .inr rfl|assumption):PG X (.Name x pos) (wZ i):=jNh hN hi hx hf
theorem dgA(hu:X.A.units+1<kR)(ho:PE X o td)(hi:PE X b tb)(hs:NoSl b:=by exact fun _ _=>rfl):PE X (.Subscript o b pos) (jLv td tb):=pe_dget hu ho hi hs
theorem ixA(hr:IxR X r)(ha:PE X a ta)(hb:PE X b tb)(hs:jJZ b:=by exact fun _ _=>rfl):PE X (.Subscript a b pos) (tOp r ta tb):=pe_ix hr ha hb hs
theorem ecA(ho:OpR X (fM op) r)(ha:PE X a ta)(hb:PE X b tb)(hm:iB op b=false:=by exact jN_ _):PE X (.Compare a [op] [b] pos) (tOp r ta tb):=pe_cmpR ho ha hb hm
theorem tcA(ho:OpR X (fM op) r)(ha:PE X a ta)(hb:PE X b tb)(hm:iB op b=false:=by exact jN_ _):PT X (.Compare a [op] [b] pos) (jIY (tOp r ta tb)):=jNl ho ha hb hm
theorem kJ.m(h:kJ k A)(e:j<=k:=by decide):kJ j A:=h.mono e
theorem scM(h:gF N ps sc:=by exact⟨rfl,rfl,rfl,by decide +kernel,rfl,by decide +kernel,by decide +kernel⟩):gF N ps sc:=h
end
end L2
namespace My
open PySem L2
def fig:List Nat:=zH 48 10
def isnum(z:Str):Bool:=decide ((1:Int)<=(z.length:Nat))&&decide (((z.length:Nat):Int)<=9)&&(z.cps.toList.all fun c=>decide (c∈fig))&&(decide (z=⟨#[48]⟩) || !decide (z.cps.toList.headD 0=48))
def val(z:Str):Int:=((NumText.digitsVal z.cps.toList:Nat):Int)
def jLx(z:Str)(lo hi:Int):V:=if (isnum z&&decide (lo<=val z)&&decide (val z<=hi))=true then .int (val z) else .non
def low:List Nat:=zH 97 26
def vC(z:Str):Bool:=decide ((1:Int)<=(z.length:Nat))&&decide (((z.length:Nat):Int)<=12)&&decide (z.cps.toList.headD 0∈low)&&z.cps.toList.all fun c=>decide (c∈low++fig)
def lay(z:Str):Bool:=decide (z=c7 "both")||(Txt.startswith z (c7 "up:")&&decide (¬ jLx (Txt.slice z (some 3) none) 2 16=V.non))
def jOF:List Str:=(range 15).map fun i=>c7 "up:" ++ c7 (toString (2+((i:Nat):Int)))
open Blk (sg sg_inj sg_app)
def tn(n:Int):Str:=c7 (toString n)
inductive VO where
 | v (x:V)|pair (a b:Int)
 deriving DecidableEq
def non:VO:=.v .non
abbrev cX:Str:=c7 "x"
abbrev cCol:Str:=c7 "colour:"
abbrev cPap:Str:=c7 "paper:"
abbrev cCov:Str:=c7 "cover:"
abbrev cAft:Str:=c7 "after:"
abbrev cSta:Str:=c7 "staple"
abbrev cLay:Str:=c7 "layout"
abbrev yZ:Str:=c7 "one"
abbrev cDash:Str:=c7 "-"
def rst(z p:Str):Str:=Txt.slice z (some ((p.length:Nat):Int)) none
def readCol(span:Str)(pages:Int):VO:=match Txt.split span cDash with
 | [a,b]=>(match jLx a 1 pages with
   | .int f=>(match jLx b f pages with
     | .int l=>.pair f l
     | _=>non)
   | _=>non)
 | _=>non
def three:List Str:=[cPap,cCov,cAft]
def four:List Str:=[cX,cCol,cPap,cCov]
def valueOf(z:Str)(pages:Int):VO :=
 if z=cSta then .v (.bl true) else if lay z=true then .v (.str z) else if Txt.startswith z cX=true then .v (jLx (rst z cX) 1 99) else if Txt.startswith z cCol=true then readCol (rst z cCol) pages
 else match three.find? (fun p=>Txt.startswith z p&&vC (rst z p)) with
  | some p=>.v (.str (rst z p))
  | none=>non
def sortOf(z:Str):Str:=if lay z=true then cLay else (four.find? fun p=>Txt.startswith z p).getD z
structure Jb where
 name:Str
 asker:Str
 pages:Int
 copies:Int
 layout:Str
 paper:Str
 cover:Option Str
 colour:Option (Int×Int)
 staple:Bool
 after:List Str
structure Jb.Ok(j:Jb):Prop where
 name:vC j.name=true
 asker:vC j.asker=true
 p0:1<=j.pages
 p1:j.pages<=999
 c0:1<=j.copies
 c1:j.copies<=99
 lay:j.layout∈yZ::c7 "both" :: jOF
 paper:vC j.paper=true
 cover:∀ z,j.cover=some z->vC z=true
 colour:∀ a b,j.colour=some (a,b)->1<=a/\a<=b/\b<=j.pages
 after:∀ z∈j.after,vC z=true
 nd:j.after.Nodup
 few:j.after.length<=3
def iL(pages:Int)(M:List Str):List (Str×VO):=M.map fun w=>(sortOf w,valueOf w pages)
def Jb.head(j:Jb):List Str:=[j.name,j.asker,tn j.pages]
def tZ(a b c d e f g h i j:V):List (Str×V):=[("name",a),("asker",b),("pages",c),("copies",d),("layout",e),("paper",f),("cover",g),("colour",h),("staple",i),("after",j)]
theorem w9:∀ {fs:List (Str×V)},¬ f∈fs.map (·.1)->mH f v fs=fs++[(f,v)]
 | [],_=>rfl
 | (g,u)::r,h=>by
   have h1:¬ g=f:=fun e=>h (by rw [<- e];exact gB);show (if g=f then _ else (g,u)::mH f v r)=_;rw [if_neg h1,w9 fun m=>h (fB _ m)];rfl
theorem jPx(xs:List V)(k:Nat):jHC xs (some (k:Int)) none=xs.drop k:=by
 unfold jHC;rw [HT.sIx_nat,HT.sIx_none];by_cases h:k<=xs.length
 ·rw [Nat.min_eq_left h];exact fG (by rw [iS];omega)
 ·rw [Nat.min_eq_right (by omega),List.drop_of_length_le (le_refl _),List.drop_of_length_le (by omega),List.take_nil]
theorem jOG(xs:List V)(k:Nat):jHC xs none (some (k:Int))=xs.take k:=by
 unfold jHC;rw [HT.sIx_nat,HT.sIx_none];by_cases h:k<=xs.length
 ·rw [Nat.min_eq_left h];rfl
 ·rw [Nat.min_eq_right (by omega),qH,Nat.sub_zero,fG (le_refl _),fG (by omega)]
def nmC(f r:Nat)(size wM l:Nat):List Nat:=(f::eQ (size-1) r).set wM l
def nm(f r:Nat)(size wM l:Nat):Str:=⟨(nmC f r size wM l).toArray⟩
def one(c:Nat):Str:=⟨#[c]⟩
inductive Ly where
 | one|both|up (n:Nat)
def Ly.Ok:Ly->Prop
 | .up n=>2<=n/\n<=16
 | _=>True
def Ly.cells:Ly->Nat
 | .up n=>n
 | _=>1
def Ly.backs:Ly->Bool
 | .one=>false
 | _=>true
def Ly.per(l:Ly):Nat:=if l.backs=true then 2*l.cells else l.cells
def wH(n:Nat):Str:=c7 "up:" ++ c7 (toString (n:Int))
def Ly.text:Ly->Str
 | .one=>c7 "one"
 | .both=>c7 "both"
 | .up n=>wH n
def jGA(f:Int)(m:Nat)(n:Int):List Int:=(range m).map fun i=>if f+(i:Nat)<=n then f+(i:Nat) else 0
def jEC(l:Ly)(n f:Int):List Int×List Int:=(jGA f l.cells n,if l.backs=true then jGA (f+l.cells) l.cells n else eQ l.cells 0)
def mO(l:Ly)(n:Nat):Nat:=(n-1)/l.per+1
def wW(l:Ly)(n:Nat):List (List Int×List Int):=(range (mO l n)).map fun i=>jEC l n (1+(i:Nat)*(l.per:Int))
theorem Ly.cells_pos{l:Ly}(h:l.Ok):1<=l.cells/\l.cells<=16:=by
 cases l with
 | one=>exact⟨by decide,by decide⟩
 | both=>exact⟨by decide,by decide⟩
 | up n=>exact⟨le_trans (by decide) h.1,h.2⟩
theorem Ly.per_pos{l:Ly}(h:l.Ok):1<=l.per/\l.per<=32:=by
 have:=Ly.cells_pos h;unfold Ly.per;split<;>omega
def jNu(n:Nat):Bool:=PySem.intText? (Txt.slice (wH n) (some 3) none)==some (n:Int)&&decide ((Txt.slice (wH n) (some 3) none).length<=10)&&decide (wH n≠c7 "one")&&decide (wH n≠c7 "both")&&decide ((wH n).length<=10)
theorem up_all:((range 17).drop 2).all jNu=true:=by decide +kernel
theorem jOH(h1:2<=n)(h2:n<=16):PySem.intText? (Txt.slice (wH n) (some 3) none)=some (n:Int)/\(Txt.slice (wH n) (some 3) none).length<=10/\wH n≠c7 "one"/\wH n≠c7 "both"/\(wH n).length<=10:=by
 have:=jP.mp up_all n (by
  have:n=((range 17).drop 2)[n-2]'(by simp;omega):=by simp;omega
  rw [this]
  exact List.getElem_mem _)
 unfold jNu at this;simp only [fA,beq_iff_eq,decide_eq_true_eq] at this;exact⟨this.1.1.1.1,this.1.1.1.2,this.1.1.2,this.1.2,this.2⟩
abbrev Tag:=Str×Int
abbrev Pc:=Str×List Int
def rB(iL:List Pc)(g:Tag):Option (List Pc) :=
 if g.2=-1 then some (iL++[(g.1,[])]) else match iL.getLast? with
  | some m=>if m.1=g.1 then some (iL.dropLast++[(m.1,m.2++[g.2])]) else none
  | none=>none
def mY:List Pc->List Tag->Nat->Except Nat (List Pc)
 | iL,[],_=>.ok iL
 | iL,g::r,i=>match rB iL g with
   | some t=>mY t r (i+1)
   | none=>.error i
theorem jL1(l:List α)(x:α):(l++[x]).getLast?=some x:=by simp
def gQ(i:Nat):Stmt:=PySem.Challenge.pw_spoolhall_k38_whole_run_in_heaps.main.body.getD i (.Pass ⟨0,0,0,0⟩)
abbrev jD3:Stmt:=iI (gQ 3) 0
abbrev jEG:Stmt:=iI (gQ 4) 0
abbrev jD4:Stmt:=iI (gQ 5) 0
abbrev jGY:Stmt:=iI (gQ 6) 0
abbrev jGe:Stmt:=iI (gQ 7) 0
abbrev jD5:Stmt:=iI (gQ 8) 0
abbrev jEH:Stmt:=iI (gQ 9) 0
abbrev jIK:Stmt:=gQ 12
abbrev jE4:Stmt:=gQ 13
abbrev jFs:Stmt:=gQ 14
abbrev jFt:Stmt:=gQ 19
abbrev jEI:Stmt:=iI (gQ 20) 0
abbrev jCK:Stmt:=iI (gQ 20) 1
abbrev jEJ:Stmt:=iI (gQ 20) 2
abbrev jCA:Stmt:=iI (gQ 20) 3
abbrev jGZ:Stmt:=iI (gQ 21) 0
abbrev jGf:Stmt:=iI (gQ 22) 0
abbrev jD6:Stmt:=iI (gQ 23) 0
abbrev jGg:Stmt:=gQ 24
abbrev jGh:Stmt:=gQ 27
abbrev jG0:Stmt:=gQ 28
abbrev jIL:Stmt:=gQ 29
abbrev jEK:Stmt:=gQ 30
abbrev jFu:Stmt:=iI (gQ 35) 0
abbrev jD7:Stmt:=iI (gQ 35) 1
abbrev jGi:Stmt:=iI (gQ 35) 2
abbrev jFv:Stmt:=iI (gQ 35) 3
abbrev jEL:Stmt:=iI (gQ 35) 4
abbrev jFw:Stmt:=iI (gQ 35) 5
abbrev jFx:Stmt:=iI (gQ 36) 0
abbrev jGj:Stmt:=iI (gQ 36) 1
abbrev jEM:Stmt:=iI (gQ 36) 2
abbrev jEN:Stmt:=iI (gQ 37) 0
abbrev jEO:Stmt:=iI (gQ 37) 1
abbrev jD8:Stmt:=iI (gQ 37) 2
abbrev jGk:Stmt:=iI (gQ 38) 0
abbrev jGl:Stmt:=iI (gQ 38) 1
abbrev jG1:Stmt:=iI (gQ 40) 0
abbrev jG2:Stmt:=iI (gQ 40) 1
abbrev jGm:Stmt:=iI (gQ 40) 2
abbrev jHO:Stmt:=iI (gQ 40) 3
abbrev jIM:Stmt:=iI (gQ 40) 4
abbrev jGn:Stmt:=iI (gQ 40) 5
abbrev jG3:Stmt:=iI (gQ 40) 6
abbrev jD9:Stmt:=iI (gQ 40) 7
abbrev jG4:Stmt:=iI (gQ 40) 8
abbrev jG5:Stmt:=iI (gQ 40) 9
abbrev jG6:Stmt:=iI (gQ 40) 10
abbrev jHP:Stmt:=iI (gQ 40) 11
abbrev jDg:Stmt:=iI (gQ 40) 12
abbrev jCp:Stmt:=iI (gQ 40) 13
abbrev jEP:Stmt:=iI (gQ 40) 14
abbrev jHQ:Stmt:=iI (gQ 40) 15
abbrev jEQ:Stmt:=iI (gQ 40) 16
abbrev jD_:Stmt:=iI (gQ 40) 17
abbrev jG7:Stmt:=iI (gQ 42) 0
abbrev jFy:Stmt:=iI (gQ 44) 0
abbrev jFz:Stmt:=iI (gQ 44) 1
abbrev jL2:Stmt:=iI (gQ 44) 2
abbrev jFA:Stmt:=iI (gQ 44) 3
abbrev jDh:Stmt:=iI (gQ 44) 4
abbrev jGo:Stmt:=iI (gQ 44) 5
abbrev jDG:Stmt:=iI (gQ 44) 6
abbrev jDi:Stmt:=iI (gQ 44) 7
abbrev jEa:Stmt:=iI (gQ 49) 0
abbrev jDj:Stmt:=iI (gQ 49) 1
abbrev jCq:Stmt:=iI (gQ 49) 3
abbrev jDk:Stmt:=iI (gQ 49) 5
abbrev jEb:Stmt:=iI (gQ 49) 6
abbrev jEc:Stmt:=iI (gQ 49) 7
abbrev jB3:Stmt:=iI (gQ 49) 8
abbrev jEd:Stmt:=iI (gQ 49) 9
abbrev jEe:Stmt:=iI (gQ 49) 10
abbrev jDl:Stmt:=iI (gQ 49) 11
abbrev jER:Stmt:=iI (gQ 49) 12
abbrev jDH:Stmt:=iI (gQ 49) 13
abbrev jEf:Stmt:=iI (gQ 49) 14
abbrev jEg:Stmt:=iI (gQ 49) 15
abbrev jEh:Stmt:=gQ 51
abbrev jG8:Stmt:=gQ 52
abbrev jGp:Stmt:=gQ 53
abbrev jGq:Stmt:=gQ 54
abbrev jG9:Stmt:=gQ 55
abbrev jEi:Stmt:=gQ 56
abbrev jES:Stmt:=gQ 57
abbrev jGr:Stmt:=gQ 58
abbrev jHR:Stmt:=gQ 59
abbrev jGs:Stmt:=gQ 60
abbrev jFB:Stmt:=gQ 61
abbrev jDI:Stmt:=gQ 62
abbrev jET:Stmt:=gQ 63
abbrev jIc:Stmt:=gQ 64
set_option genSizeOf false
theorem wq1:1<=c9:=small (by decide)
theorem wq2:2<=c9:=small (by decide)
theorem wq3:3<=c9:=small (by decide)
structure Txt(K:PySem.W.Frag)(mg:Str->Option Value)(yQ yZ yX yY yV yJ yW yU yK yG cQ cZ cV cK cG vQ vZ vX vY vV dB:Addr):Prop where
 ao:mg "len"=none
 ai:mg "range"=none
 bJ:mg "enumerate"=none
 aE:mg "str"=none
 aF:mg "int"=none
 bK:mg "bool"=none
 bB:mg "tuple"=none
 aP:mg "list"=none
 aQ:mg "isinstance"=none
 aY:mg "dict"=none
 aZ:mg "sorted"=none
 ce:mg "ValueError"=none
 aG:GI mg "SLIP" (-1)
 UP:GS mg "UP" (c7 "up:")
 bc:GI mg "NOTHING" (0)
 bL:GI mg "FIRST_PAGE" (1)
 bM:GI mg "COVER_SHEET" (0)
 be:GS mg "READY" (c7 "ready")
 bN:GS mg "JAMMED" (c7 "jammed")
 bO:GS mg "OFF" (c7 "off")
 bf:GS mg "BLACK" (c7 "black")
 bg:GS mg "COLOUR" (c7 "colour")
 bP:GS mg "WITHIN" (c7 "within")
 ck:Cls K yQ
 cm:mg "Layout"=some (.ref yQ)
 cq:jB K yQ "cells"
 cr:jB K yQ "backs"
 aH:Cls K yZ
 cu:mg "One"=some (.ref yZ)
 bi:jB K yZ "cells"
 bj:jB K yZ "backs"
 aI:Cls K yX
 cx:mg "Both"=some (.ref yX)
 bo:jB K yX "cells"
 bp:jB K yX "backs"
 aJ:Cls K yY
 cy:mg "Several"=some (.ref yY)
 bq:jB K yY "cells"
 bu:jB K yY "backs"
 cz:Cls K yV
 cC:mg "State"=some (.ref yV)
 cD:jB K yV "word"
 ar:Cls K yJ
 cE:mg "Ready"=some (.ref yJ)
 aR:jB K yJ "word"
 au:Cls K yW
 cF:mg "Jammed"=some (.ref yW)
 aS:jB K yW "word"
 ak:Cls K yU
 cH:mg "Away"=some (.ref yU)
 aK:jB K yU "word"
 bC:jB K yU "jammed"
 aa:Cls K yK
 cI:mg "Run"=some (.ref yK)
 av:jB K yK "job"
 bv:jB K yK "inks"
 ay:jB K yK "passed"
 ag:jB K yK "printer"
 aL:jB K yK "slipped"
 aM:jB K yK "broken"
 ae:Cls K yG
 db:mg "Job"=some (.ref yG)
 aA:jB K yG "name"
 bQ:jB K yG "asker"
 bD:jB K yG "pages"
 bE:jB K yG "copies"
 bF:jB K yG "layout"
 aU:jB K yG "paper"
 bx:jB K yG "cover"
 bG:jB K yG "colour"
 bR:jB K yG "staple"
 bS:jB K yG "after"
 ah:Cls K cQ
 de:mg "Stock"=some (.ref cQ)
 bz:jB K cQ "rooms"
 aB:jB K cQ "amounts"
 ad:Cls K cZ
 df:mg "Printer"=some (.ref cZ)
 bH:jB K cZ "name"
 bU:jB K cZ "can"
 bI:jB K cZ "path"
 bV:jB K cZ "rooms"
 aV:jB K cZ "trays"
 bA:jB K cZ "inks"
 aq:jB K cZ "state"
 al:jB K cZ "inside"
 bW:PySem.W.excMk K vV=true
 bX:PySem.W.mroHas K vZ (.ref vV)=true
 bY:PySem.W.mroHas K vX (.ref vV)=true
 bZ:PySem.W.mroHas K cK (.ref vV)=true
 cb:PySem.W.mroHas K cG (.ref vV)=true
 aW:XCl K cV ["name"]
 dg:mg "Unknown"=some (.ref cV)
 aj:XCl K cK ["found"]
 dh:mg "NotNow"=some (.ref cK)
 aC:XCl K cG ["name"]
 dk:mg "TooMuch"=some (.ref cG)
 aX:XCl K vQ ["name"]
 du:mg "Dry"=some (.ref vQ)
 aD:XCl K vZ ["job"]
 dv:mg "Over"=some (.ref vZ)
 aN:XCl K vX ["job"]
 dw:mg "Nowhere"=some (.ref vX)
 aO:XCl K vY ["place"]
 dz:mg "NoHeap"=some (.ref vY)
 az:InX K vV
 ax:mg "HallError"=some (.ref vV)
 dA:jOv K [cV,cK,cG,vQ,vZ,vX,vY] vV=true
end My
seal L2.PE L2.PS L2.PSs L2.PT L2.PW L2.PA L2.PI L2.PG L2.PGs L2.PSet L2.PIfs L2.PO L2.PK L2.CallR L2.OpR L2.IxR L2.SlR L2.UnR L2.PPs
namespace My
open PySem L2
open Blk (sg sg_inj sg_app)
section
variable {P:Program}{w:World}{K:PySem.W.Frag}{mg:Str->Option Value}{base:Heap}{fa yQ yZ yX yY yV yJ yW yU yK yG cQ cZ cV cK cG vQ vZ vX vY vV dB:Addr}{fd:FuncData}(T:Txt K mg yQ yZ yX yY yV yJ yW yU yK yG cQ cZ cV cK cG vQ vZ vX vY vV dB)
structure Scr(K:PySem.W.Frag)(H:Hp)(a:Addr):Prop where
 ex:∃ ns:List Int,SqL K H a (ns.map V.int)/\ns.length<=63
def jKc(x:Addr)(H H':Hp):Prop:=∀ b o,b≠x->H b=some o->H' b=some o
inductive oZ(C:Addr)(f:Str)(vs:List V)(H:Hp)(Q:VK)(E_:XK):Prop|mk (x:Addr) (y:V):vs=[.ref x,y]->H x=some (XO x C none)->(∀ H',jKc x H H'->XF H' x C [(f,y)]->Q .non H')->oZ C f vs H Q E_
theorem jDm(hd:H dx=none):jKc x H (upd (upd H dx o) x u):=fun b v hb e=>by
 rw [dW hb,dW (eJ e hd)];exact e
theorem jFC(hx:dx≠x):XF (upd (upd H dx (XD dx fs)) x (XO x C (some dx))) x C fs:=⟨dx,d4,by rw [dW hx,d4],hx⟩
theorem jOI(hx:H x=none)(k:jKc x (upd H x o) H'):eC H H':=fun b v e=>by
 have hb:b≠x:=eJ e hx;exact k b v hb (by rw [dW hb];exact e)
theorem rC(mk:PySem.W.excMk K C=true)(h:∀ ea H',eC H H'->H ea=none->XG H' ea C [(f,y)]->E (.ref C) (some ea) H') :
 ∀ x,H x=none->oZ C f (.ref x::[y]) (upd H x (XO x C none)) (fun v H2=>v=.non/\jJ9 K (fun _=>E) σ (.ref x) H2) E0:=by
 intro x nx;refine⟨x,y,rfl,d4,fun H' kb xf=>⟨rfl,?_⟩⟩;obtain⟨dx,a,g⟩:=xf.raised;exact⟨x,C,some dx,rfl,a,mk,h x _ (w5 nx (jOI nx kb) _) nx g⟩
theorem jHS{c A B:Prop}[Decidable c](hc:c)(h:A):if decide c=true then A else B:=by
 rw [if_pos (decide_eq_true hc)];exact h
theorem jE5{c A B:Prop}[Decidable c](hc:¬ c)(h:B):if decide c=true then A else B:=by
 rw [if_neg (by rw [decide_eq_false hc];decide)];exact h
theorem iteNN{c A B:Prop}[Decidable c](hc:¬ c)(h:A):if (!decide c)=true then A else B:=by
 rw [decide_eq_false hc];exact h
theorem jKd:gF ["self","place"] ["self","place"] (fY jEH):=scM
include T in
theorem jKe(F:Fun K "__init__" "NoHeap.__init__" jEH fa fd)  :
 fJ P w K mg base CX0 1 fa fd ["self","place"] (oZ vY "place"):=by
 refine F.ok jKd fun fE A outer s H vs Q E hr h=>?_;obtain⟨x,y,rfl,hx,q⟩:=h;exists _,(d9 (kE (jDf T.az rfl T.ax (dJ (pv 0) (dJ (pv 1) dX)))) (d7 (jD0 (pv 0) (pv 1) rfl)))
 exists _,rfl,_,rfl,x,_,none,[y],rfl,(by simp),hx,T.aO.m;refine⟨_,rfl,_,rfl,.inl ⟨x,_,rfl,hx,T.aO.i.c,T.aO.n _ (.head _),fun dx nd ne=>?_⟩⟩;exact q _ (jDm nd) (jFC ne)
def jE6(H:Hp)(a:Addr)(h:List Tag):Prop:=∃ ts:List (Addr×Tag),h=ts.map (·.2)/\H a=some (.lst (ts.map fun r=>V.ref r.1))/\∀ r∈ts,H r.1=some (.tup [.str r.2.1,.int r.2.2])
theorem jE6.same(x:jE6 H a h)(k:eC H H'):jE6 H' a h:=let ⟨ts,e,e1,g⟩:=x;⟨ts,e,k _ _ e1,fun r hr=>k _ _ (g r hr)⟩
def oU(H0 H:Hp)(p:Addr)(L:List Pc):Prop:=H0 p=none/\∃ eE:List (Addr×Addr×Pc),L=eE.map (·.2.2)/\H p=some (.lst (eE.map fun r=>V.ref r.1))/\(eE.map (·.2.1)).Nodup /\
 ∀ r∈eE,H r.1=some (.tup [.str r.2.2.1,.ref r.2.1])/\H r.2.1=some (.lst (r.2.2.2.map V.int))/\H0 r.2.1=none/\r.2.1≠p
theorem oU.same(x:oU H0 H p L)(k:eC H H'):oU H0 H' p L :=
 let ⟨n,eE,e,e1,nd,g⟩:=x
 ⟨n,eE,e,k _ _ e1,nd,fun r hr=>let ⟨a,b,c⟩:=g r hr;⟨k _ _ a,k _ _ b,c⟩⟩
theorem oU.slip{H0 H H2:Hp}{p t l:Addr}{L:List Pc}{n:Str}{eE:List (Addr×Addr×Pc)}(n0:H0 p=none)(eL:L=eE.map (·.2.2))(hp:H p=some (.lst (eE.map fun r=>V.ref r.1)))(nd:(eE.map (·.2.1)).Nodup)
 (g:∀ r∈eE,H r.1=some (.tup [.str r.2.2.1,.ref r.2.1])/\H r.2.1=some (.lst (r.2.2.2.map V.int))/\H0 r.2.1=none/\r.2.1≠p) (s2:eC H H2) (nl:H l=none) (n0l:H0 l=none) (hl:H2 l=some (.lst [])) (ht:H2 t=some (.tup [.str n,.ref l])) :
 oU H0 (upd H2 p (.lst ((eE.map fun r=>V.ref r.1)++[V.ref t]))) p (L++[(n,[])]):=by
 have lp:l≠p:=fun e=>by rw [e,hp] at nl;cases nl
 refine⟨n0,eE++[(t,l,(n,[]))],by rw [eL,dU];rfl,by rw [d4,dU];rfl,?_,fun r hr=>?_⟩
 ·rw [dU,jT];refine⟨nd,by simp,fun x hx y hy=>?_⟩;have hy':y=l:=by simpa using hy
  obtain⟨r,hr,rfl⟩:=eI.mp hx;rw [hy'];intro e;have:=(g r hr).2.1;rw [e,nl] at this;cases this
 ·rcases eV.mp hr with hr|hr
  ·obtain⟨a,b,c,d⟩:=g r hr;refine⟨?_,?_,c,d⟩
   ·rw [dW (eW (s2 _ _ a) (s2 _ _ hp) nofun)];exact s2 _ _ a
   ·rw [dW d];exact s2 _ _ b
  ·rw [mem_singleton.mp hr];refine⟨?_,?_,n0l,lp⟩
   ·show upd H2 p _ t=_;rw [dW (eW ht (s2 _ _ hp) nofun)];exact ht
   ·show upd H2 p _ l=_;rw [dW lp];exact hl
theorem oU.more(n0:H0 p=none)(hp:H p=some (.lst ((eE++[(t,l,m)]).map fun r=>V.ref r.1)))(nd:((eE++[(t,l,m)]).map (·.2.1)).Nodup) 
 (g:∀ r∈eE++[(t,l,m)],H r.1=some (.tup [.str r.2.2.1,.ref r.2.1])/\H r.2.1=some (.lst (r.2.2.2.map V.int))/\H0 r.2.1=none/\r.2.1≠p) :
 oU H0 (upd H l (.lst (m.2.map V.int++[V.int k]))) p (eE.map (·.2.2)++[(m.1,m.2++[k])]):=by
 obtain⟨a,b,c,d⟩:=g (t,l,m) (dD _ (.head _));have a':H t=some (.tup [.str m.1,.ref l]):=a;have b':H l=some (.lst (m.2.map V.int)):=b;refine⟨n0,eE++[(t,l,(m.1,m.2++[k]))],by rw [dU];rfl,?_,?_,fun r hr=>?_⟩
 ·rw [dW (symm d),hp,dU,dU];rfl
 ·rw [dU] at nd ⊢;exact nd
 ·rcases eV.mp hr with hr|hr
  ·obtain⟨x,y,z,w⟩:=g r (fX _ hr);have nl:r.2.1≠l:=fun e=>by
    rw [dU,jT] at nd;exact nd.2.2 r.2.1 (eI.mpr ⟨r,hr,rfl⟩) l (.head _) e
   refine⟨?_,?_,z,w⟩
   ·rw [dW (eW x b' nofun)];exact x
   ·rw [dW nl];exact y
  ·rw [mem_singleton.mp hr];refine⟨?_,?_,c,d⟩
   ·show upd H l _ t=_;rw [dW (eW a' b' nofun)];exact a'
   ·show upd H l _ l=_;rw [d4,dU];rfl
inductive jHT(cN:Addr)(vs:List V)(H:Hp)(Q:VK)(E:XK):Prop|mk (a:Addr) (h:List Tag):vs=[.ref a]->jE6 H a h->h.length<=300->(∀ L,mY [] h 0=.ok L->∀ p H',eC H H'->oU H H' p L->Q (.ref p) H')->(∀ i:Nat,mY [] h 0=.error i->∀ ea H',eC H H'->XG H' ea cN [("place",.int (i:Int))]->E (.ref cN) (some ea) H')->jHT cN vs H Q E
theorem jFR:gF ["heap","told","place","tag"] ["heap"] (fY jIK):=scM
include T in
theorem jOJ(F:Fun K "pieces" "pieces" jIK fa fd)(DaO:sN P w K mg base 1 "NoHeap" vY ["self","place"] (oZ vY "place")) :
 fJ P w K mg base (CXe P w) 3 fa fd ["heap"] (jHT vY):=by
 refine F.okE jFR fun fE A outer s H vs Q E hr h=>?_;obtain⟨a,h,rfl,⟨ts,eh,ha,gt⟩,lh,q1,q2⟩:=h;exists _,(d9 (psA (i:=1) jFR.nd (lQ dX)) (d9 (pN v0 rfl (pi_enum rfl T.bJ (dJ (pv 0) dX)) (jC4 rfl (pE (pgA (i:=2) jFR.nd) (pE (pgA (i:=3) jFR.nd) jCv))) (d7 (jC (tcA nC (ixA j1 (pv 3) eO) (jEt T.aG rfl)) (d7 (kE (vR eD PySem.F.slot_list_append PySem.F.type_list_append jCm (pv 1) (dJ (mT (dJ (ixA j1 (pv 3) eO) (dJ (lQ dX) dX))) dX)))) (d7 (jC (PW.pt (rA (mU (pv 1) (fun _=>rfl)) (sR (tcA nC (ixA j1 (ixA jH8 (pv 1) (pe_un jN8 eO)) eO) (ixA j1 (pv 3) eO))))) (d7 (kE (vR eD PySem.F.slot_list_append PySem.F.type_list_append jCm (ixA j1 (ixA jH8 (pv 1) (pe_un jN8 eO)) eO) (dJ (ixA j1 (pv 3) eO) dX)))) (d7 (uD uA rfl (uB DaO hr.m rfl (dJ (pv 2) dX))))))))) (d7 (gY (pv 1)))))
 have z2:2<=c9:=small (by decide);have lt:ts.length=h.length:=by rw [eh,c6]
 refine⟨d5 _,fun p np=>?_⟩;have sp:=gM np (.lst [])
 refine⟨_,rfl,a,rfl,⟨_,SqL.of (sp _ _ ha)⟩,jPh (K:=K) (a:=a) (j:=0) (xs:=ts.map fun r=>V.ref r.1) (fun i σ H'=>eC H H'/\∃ (v2 v3:Option V) (iL:List Pc),σ=[some (.ref a),some (.ref p),v2,v3]/\oU H H' p iL/\iL.length<=i/\(∀ g∈iL,g.2.length<=i)/\mY iL (h.drop i) i=mY [] h 0)
  ⟨sp,_,_,[],rfl,⟨np,[],rfl,d4,jN,fun r hr=>absurd hr d6⟩,le_refl _,fun g hg=>absurd hg d6,rfl⟩ (fun i σ H' _ z=>SqL.of (z.1 _ _ ha)) (fun i x σ H' t hx z nt=>?_) (fun σ H' z=>?_)⟩
 ·obtain⟨sm,v2,v3,iL,rfl,⟨n0,eE,eL,hp,nd,g⟩,l1,l2,er⟩:=z;rw [getElem?_map] at hx;obtain⟨r,hr,rfl⟩:=dY.mp hx;have hg:h[i]?=some r.2:=by rw [eh,getElem?_map,hr];rfl
  have hi:i<h.length:=(List.getElem?_eq_some_iff.mp hg).1;have ed:h.drop i=r.2::h.drop (i+1):=by
   rw [List.drop_eq_getElem_cons hi];congr 1;exact (List.getElem?_eq_some_iff.mp hg).2
  rw [ed] at er;have st:=gM nt (.tup [.int (0+(i:Int)),.ref r.1]);have xF:upd H' t (.tup [.int (0+(i:Int)),.ref r.1]) r.1=some (.tup [.str r.2.1,.int r.2.2]):=st _ _ (sm _ _ (gt r (mem_of_getElem? hr)));exists t,_,rfl,SqT.of d4,rfl,_,_,rfl,_,_,rfl,rfl;generalize upd H' t (.tup [.int (0+(i:Int)),.ref r.1])=H1 at st xF ⊢;have sm1:=sm.trans st;have hp1:=st _ _ hp;have g1:∀ r∈eE,H1 r.1=some (.tup [.str r.2.2.1,.ref r.2.1])/\H1 r.2.1=some (.lst (r.2.2.2.map V.int))/\H r.2.1=none/\r.2.1≠p:=fun r hr=>let ⟨a,b,c⟩:=g r hr;⟨st _ _ a,st _ _ b,c⟩;have lr:eE.length=iL.length:=by rw [eL,c6]
  exists _,rfl,r.1,_,_,_,rfl,rfl,SqT.of xF,kL (j:=1) rfl,rfl,_,rfl;refine oK (fun c=>?_) (fun c=>?_)
  ·have c':r.2.2=-1:=by
    have:=of_decide_eq_true c;injection this
   refine⟨_,rfl,.inl ⟨rfl,_,SqL.of hp1⟩,_,rfl,r.1,_,_,_,rfl,rfl,SqT.of xF,kL (j:=0) rfl,d5 _,fun l nl=>⟨z2,fun t2 nt2=>?_⟩⟩;have s2:=(gM nl (.lst [])).trans (gM nt2 (.tup [.str r.2.1,.ref l]));refine⟨p,_,_,rfl,rfl,s2 _ _ hp1,oN (by rw [c6];omega),?_⟩;refine⟨w5 np (sm1.trans s2) _,_,_,iL++[(r.2.1,[])],rfl,oU.slip n0 eL hp1 nd g1 s2 nl (sm1.free nl) (by rw [dW (eJ d4 nt2)];exact d4) d4,by rw [dH];show iL.length+1<=i+1;omega,fun y hy=>?_,?_⟩
   ·rcases eV.mp hy with hy|hy
    ·exact Nat.le_succ_of_le (l2 y hy)
    ·rw [mem_singleton.mp hy];exact d5 _
   ·rw [<- er];show _=match rB iL r.2 with|some t=>mY t (h.drop (i+1)) (i+1)|none=>.error i
    unfold rB;rw [if_pos c']
  ·have c':¬ r.2.2=-1:=fun e=>c (decide_eq_true (by rw [e]));rcases List.eq_nil_or_concat eE with er0|⟨rows0,⟨t',l',m⟩,er0⟩
   ·subst er0;refine⟨_,rfl,false,.inl ⟨_,SqL.of hp1,rfl⟩,jJ (jJ ?_)⟩;refine⟨_,rfl,rC T.aO.m fun ea H2 s2 _ gx=>?_⟩;have e0:mY [] h 0=.error i:=by
     rw [<- er,eL];show (match rB [] r.2 with|some t=>mY t (h.drop (i+1)) (i+1)|none=>.error i)=_;unfold rB;rw [if_neg c'];rfl
    refine q2 i e0 ea H2 (sm1.trans s2) ?_;rwa [show (0:Int)+(i:Int)=(i:Int) from by omega] at gx
   ·rw [List.concat_eq_append] at er0;subst er0;have hp2:H1 p=some (.lst ((rows0.map fun r=>V.ref r.1)++[V.ref t'])):=by rw [hp1,dU];rfl
    have el:atI ((rows0.map fun r=>V.ref r.1)++[V.ref t']) (-1)=some (V.ref t'):=jPa _ _;obtain⟨a',b',c2,d2⟩:=g1 (t',l',m) (dD _ (.head _));have a2:H1 t'=some (.tup [.str m.1,.ref l']):=a';have b2:H1 l'=some (.lst (m.2.map V.int)):=b';have et:iL.getLast?=some m:=by rw [eL,dU];exact jL1 _ _
    have ed2:iL.dropLast=rows0.map (·.2.2):=by rw [eL,dU];exact List.dropLast_concat
    have u8:m.2.length<=i:=l2 m (List.mem_of_getLast? et);refine⟨_,rfl,true,.inl ⟨_,SqL.of hp2,?_⟩,kM ?_⟩
    ·simp
    exists _,rfl,_,rfl,p,_,_,_,rfl,rfl,SqL.of hp2,el,t',_,_,_,rfl,rfl,SqT.of a2,kL (j:=0) rfl,_,rfl,r.1,_,_,_,rfl,rfl,SqT.of xF,kL (j:=0) rfl,rfl,_,rfl;refine oK (fun c3=>?_) (fun c3=>?_)
    ·have c4:m.1=r.2.1:=by
      have:=of_decide_eq_true c3;injection this
     refine⟨_,rfl,_,rfl,p,_,_,_,rfl,rfl,SqL.of hp2,el,t',_,_,_,rfl,rfl,SqT.of a2,kL (j:=1) rfl,.inl ⟨rfl,_,SqL.of b2⟩,_,rfl,r.1,_,_,_,rfl,rfl,SqT.of xF,kL (j:=1) rfl,l',_,_,rfl,rfl,b2,oN (by rw [c6];omega),?_⟩;exists w5 c2 sm1 _,_,_,rows0.map (·.2.2)++[(m.1,m.2++[r.2.2])],rfl,oU.more n0 hp1 nd g1,?_,fun y hy=>?_
     ·rw [dH,c6];rw [dH] at lr;have:rows0.length+1=iL.length:=lr;show rows0.length+1<=i+1;omega
     ·rcases eV.mp hy with hy|hy
      ·refine Nat.le_succ_of_le (l2 y ?_);rw [eL,dU];exact fX _ hy
      ·rw [mem_singleton.mp hy];show (m.2++[r.2.2]).length<=i+1;rw [dH];show m.2.length+1<=i+1;omega
     ·rw [<- er];show _=match rB iL r.2 with|some t=>mY t (h.drop (i+1)) (i+1)|none=>.error i
      unfold rB;rw [if_neg c',et];dsimp only;rw [if_pos c4,ed2]
    ·have c4:¬ m.1=r.2.1:=fun e=>c3 (decide_eq_true (by rw [e]));refine⟨_,rfl,rC T.aO.m fun ea H2 s2 _ gx=>?_⟩;have e0:mY [] h 0=.error i:=by
      rw [<- er];show (match rB iL r.2 with|some t=>mY t (h.drop (i+1)) (i+1)|none=>.error i)=_;unfold rB;rw [if_neg c',et];dsimp only;rw [if_neg c4]
     refine q2 i e0 ea H2 (sm1.trans s2) ?_;rwa [show (0:Int)+(i:Int)=(i:Int) from by omega] at gx
 ·obtain⟨sm,v2,v3,iL,rfl,pc,l1,l2,er⟩:=z;rw [c6,lt,kI] at er;exact⟨_,rfl,q1 iL er.symm p H' sm pc⟩
abbrev HRow:=Str×Addr×List Tag
def rY(eE:List HRow):List (Key×V):=eE.map fun r=>((Sum.inr r.1:Key),V.ref r.2.1)
structure jId(H:Hp)(d:Addr)(eE:List HRow):Prop where
 o:H d=some (.dK (rY eE))
 t:∀ r∈eE,jE6 H r.2.1 r.2.2
 l:(eE.map fun r=>r.2.2.length).sum<=300
theorem jId.same(x:jId H d eE)(s:eC H H'):jId H' d eE:=⟨s _ _ x.o,fun r hr=>(x.t r hr).same s,x.l⟩
def rD(p:Pc):Int:=p.2.headD 0
def oA(name pr:Str)(L:List Pc):List Pc:=(L.filter fun p=>decide (p.1=name) && !p.2.isEmpty).map fun p=>(pr,p.2)
def rR(name:Str):List Pc->List HRow->Except Nat (List Pc)
 | iM,[]=>.ok iM
 | iM,r::rs=>match mY [] r.2.2 0 with
   | .ok L=>rR name (iM++oA name r.1 L) rs
   | .error i=>.error i
theorem jKf:∀ (h:List Tag) (iL:List Pc) (i:Nat) {L:List Pc},mY iL h i=.ok L->L.length<=iL.length+h.length
 | [],iL,i,L,e=>by cases e;exact le_refl _
 | g::r,iL,i,L,e=>by
   unfold mY at e;cases q:rB iL g with
   | none=>rw [q] at e;cases e
   | some t =>
     rw [q] at e;have h1:=jKf r t (i+1) e;have h2:t.length<=iL.length+1:=by
      unfold rB at q;by_cases c:g.2=-1
      ·rw [if_pos c] at q;rw [<- Option.some.inj q,dH];exact le_refl _
      ·rw [if_neg c] at q;cases e2:iL.getLast? with
       | none=>rw [e2] at q;cases q
       | some m =>
         rw [e2] at q;dsimp only at q;by_cases c2:m.1=g.1
         ·rw [if_pos c2] at q;rw [<- Option.some.inj q,dH,List.length_dropLast];show iL.length-1+1<=_;omega
         ·rw [if_neg c2] at q;cases q
     rw [eY];omega
theorem jL3(name pr:Str)(L:List Pc):(oA name pr L).length<=L.length:=by
 unfold oA;rw [c6];exact iE _ _
theorem jOK{name pr:Str}{L:List Pc}{j:Nat}{p:Pc}(h:L[j]?=some p):oA name pr (L.take (j+1))=oA name pr (L.take j)++if p.1=name/\p.2≠[] then [(pr,p.2)] else []:=by
 unfold oA;rw [gR,h];show (List.filter _ (L.take j++[p])).map _=_;rw [jH,dU];congr 1;by_cases c:p.1=name/\p.2≠[]
 ·rw [if_pos c];have:(decide (p.1=name) && !p.2.isEmpty)=true:=by
   rw [decide_eq_true c.1];cases e:p.2 with
   | nil=>exact absurd e c.2
   | cons a b=>rfl
  rw [gA (p:=fun p:Pc=>decide (p.1=name) && !p.2.isEmpty) this];rfl
 ·rw [if_neg c]
  have:¬ (decide (p.1=name) && !p.2.isEmpty)=true:=fun z=>c (by
   rw [fA] at z;refine⟨of_decide_eq_true z.1,fun e=>?_⟩;rw [e] at z
   cases z.2)
  rw [fO (p:=fun p:Pc=>decide (p.1=name) && !p.2.isEmpty) this];rfl
theorem jOL(p:qs.Perm ps):∀ {xs:List α},ps=xs.map f->∃ ys:List α,ys.Perm xs/\qs=ys.map f:=by
 induction p with
 | nil=>exact fun e=>⟨_,.refl _,e⟩
 | cons x _ ih =>
   intro xs e;cases xs with
   | nil=>cases e
   | cons y xs =>
     injection e with e1 e2;obtain⟨ys,p,q⟩:=ih e2;exact⟨y::ys,p.cons _,by rw [dQ,e1,q]⟩
 | swap x y l =>
   intro xs e
   match xs,e with
   | a::b::xs,e =>
     injection e with e1 e2;injection e2 with e2 e3;exact⟨b::a::xs,.swap _ _ _,by rw [dQ,dQ,e1,e2,e3]⟩
 | trans _ _ ih1 ih2 =>
   intro xs e;obtain⟨ys,p,q⟩:=ih2 e;obtain⟨zs,p2,q2⟩:=ih1 q;exact⟨zs,p2.trans p,q2⟩
theorem jL4(f:α->β)(g:α->γ):∀ l:List α,(l.map f).zip (l.map g)=l.map fun x=>(f x,g x)
 | []=>rfl
 | x::l=>by rw [dQ,dQ,List.zip_cons_cons,jL4 f g l];rfl
theorem oU.off(x:oU H0 H p L)(h:H d=some (.frz o u)):oU H0 (upd H d v) p L:=by
 obtain⟨n,eE,e,e1,nd,g⟩:=x;refine⟨n,eE,e,by rw [dW (eW e1 h nofun)];exact e1,nd,fun r hr=>?_⟩;obtain⟨a,b,c⟩:=g r hr;exact⟨by rw [dW (eW a h nofun)];exact a,by rw [dW (eW b h nofun)];exact b,c⟩
theorem oU.add(x:oU H0 H p L)(nl:H0 l=none)(lp:l≠p)(hl:H l=some (.lst (m.2.map V.int)))(ht:H t=some (.tup [.str m.1,.ref l]))(no:∀ eE:List (Addr×Addr×Pc),H p=some (.lst (eE.map fun r=>V.ref r.1))->(∀ r∈eE,H r.1=some (.tup [.str r.2.2.1,.ref r.2.1]))->∀ r∈eE,r.2.1≠l) :
 ∃ vs,H p=some (.lst vs)/\vs.length=L.length/\oU H0 (upd H p (.lst (vs++[.ref t]))) p (L++[m]):=by
 obtain⟨n,eE,e,e1,nd,g⟩:=x;refine⟨_,e1,by rw [c6,e,c6],n,eE++[(t,l,m)],by rw [dU,e];rfl,by rw [d4,dU];rfl,?_,fun r hr=>?_⟩
 ·rw [dU,jT];refine⟨nd,fN.mpr ⟨d6,jN⟩,fun a ha b hb z=>?_⟩;obtain⟨r,hr,rfl⟩:=eI.mp ha;exact no eE e1 (fun r hr=>(g r hr).1) r hr (z.trans (mem_singleton.mp hb))
 ·rcases eV.mp hr with hr|hr
  ·obtain⟨a,b,c,d⟩:=g r hr;exact⟨by rw [dW (eW a e1 nofun)];exact a,by rw [dW d];exact b,c,d⟩
  ·rw [mem_singleton.mp hr];exact⟨by show upd H p _ t=_;rw [dW (eW ht e1 nofun)];exact ht,by show upd H p _ l=_;rw [dW lp];exact hl,nl,lp⟩
theorem xg_off(x:XG H e C fs)(h:H d=some (.frz o u)):XG (upd H d v) e C fs:=by
 obtain⟨dx,hx,hd,ne⟩:=x;refine⟨dx,?_,by rw [dW (eW hd h nofun)];exact hd,ne⟩;rcases hx with hx|hx
 ·exact .inl (by rw [dW (eW hx h nofun)];exact hx)
 ·exact .inr (by rw [dW (eW hx h nofun)];exact hx)
def gPos:Pos:=match wA jE4 with
 | [_,_,.Return (some (.Call _ _ [⟨_,.Lambda _ _ _ p,_⟩] _)) _]=>p
 | _=>⟨0,0,0,0⟩
abbrev gQual:Str:=(c7 "gathered" ++ ".<locals>.") ++ "<lambda>"
abbrev mG(H:Hp)(tP:Addr):Prop:=vP H tP gPos gQual
inductive jC6(cN tP:Addr)(vs:List V)(H:Hp)(Q:VK)(E:XK):Prop|mk (d:Addr) (eE:List HRow) (name:Str):vs=[.ref d,.str name]->jId H d eE->mG H tP->(∀ L,rR name [] eE=.ok L->L.length<64/\∀ D H' L',sM tP H H'->mG H' tP->List.Perm L' L->L'.Pairwise (fun a b=>rD a<=rD b)->oU H H' D L'->Q (.ref D) H')->(∀ i:Nat,rR name [] eE=.error i->∀ ea H',eC H H'->XG H' ea cN [("place",.int (i:Int))]->E (.ref cN) (some ea) H')->jC6 cN tP vs H Q E
theorem jCy:gF ["heaps","name","found","printer","heap","owner","numbers"] ["heaps","name"] (fY jE4):=scM
theorem jMW{fa cL yQ yZ yX yY yV yJ yW yU yK yG cQ cZ cV cK cG vQ vZ vX vY vV dB:Addr}{fd:FuncData}(F:Fun K "gathered" "gathered" jE4 fa fd)(T:Txt K mg yQ yZ yX yY yV yJ yW yU yK yG cQ cZ cV cK cG vQ vZ vX vY vV dB)(hL:fd.code=.ref cL)(hC:jI K cL dB=true)(BM:wX base mg)(DaP:DfE P w K mg base 3 "pieces" ["heap"] (jHT vY)) :
 fJ P w K mg base (CXe P w) 4 fa fd ["heaps","name"] (jC6 vY dB):=by
 refine F.okLE hL jCy (fun vs H Q E h=>?_) (fun A outer s H vs Q E hr h=>?_)
 ·obtain⟨d,eE,name,rfl,_⟩:=h;rfl
 obtain⟨d,eE,name,rfl,A,ht,q1,q2⟩:=h;exists _,(d9 (psA (i:=2) jCy.nd (lQ dX)) (d9 (ps_frz (pN v0 rfl (jPr (jOC (pv 0))) (jC4 rfl (pE (pgA (i:=3) jCy.nd) (pE (pgA (i:=4) jCy.nd) jCv))) (d7 (pN v0 rfl (q9 (jFo DaP jOE hr.m rfl (dJ (pv 4) dX))) (jC4 rfl (pE (pgA (i:=5) jCy.nd) (pE (pgA (i:=6) jCy.nd) jCv))) (d7 (jC (PW.pt (rA (tcA nC (pv 5) (pv 1)) (sR (mU (pv 6) (fun _=>rfl))))) (d7 (kE (vR eD PySem.F.slot_list_append PySem.F.type_list_append jCm (pv 2) (dJ (mT (dJ (pv 3) (dJ (pv 6) dX))) dX)))) jK)))))) (d7 (gY (jNQ (x:="part") hr.m rfl T.aZ (dJ (pv 2) dX) (jDw.mk1 rfl rfl rfl rfl) BM rfl hC rfl (fun _ _ _ _=>rfl) (fun _ _ _ _ _ _=>by exact (jEB (K:=K) (r:=rIxL) rfl jH8 (jEB (K:=K) (r:=jGQ) rfl j1 (pv 0) eO (fun _ _=>rfl)) eO (fun _ _=>rfl))))))))
 have hd:=A.o;have z2:2<=c9:=small (by decide);have lrw:(rY eE).length=eE.length:=c6 _;refine⟨d5 _,fun p np=>?_⟩;have s1:=gM np (.lst []);have hp1:upd H p (.lst []) p=some (.lst []):=d4;generalize upd H p (.lst [])=H1 at s1 hp1 ⊢;have dp:d≠p:=eJ hd np;refine⟨d,_,s1 _ _ hd,fun o=>?_⟩;have hf2:upd H1 d (.frz o (.dK (rY eE))) d=some (.frz o (.dK (rY eE))):=d4;have k2:∀ b u,b≠d->H1 b=some u->upd H1 d (.frz o (.dK (rY eE))) b=some u:=fun b u nb e=>by rw [dW nb];exact e
 have fr2:∀ b,upd H1 d (.frz o (.dK (rY eE))) b=none->H b=none:=fun b hb=>by
  by_cases c:b=d
  ·rw [c,hf2] at hb;cases hb
  ·rw [dW c] at hb;exact s1.free hb
 generalize upd H1 d (.frz o (.dK (rY eE)))=H2 at hf2 k2 fr2 ⊢;refine⟨_,rfl,d,o,_,rfl,rfl,hf2,fun v nv=>⟨v,d,o,_,rfl,d4,by rw [dW (eJ hf2 nv)];exact hf2,?_⟩⟩;have s3:=gM nv (IW v d);generalize upd H2 v (IW v d)=H3 at s3 ⊢;have k3:∀ b u,b≠d->H b=some u->H3 b=some u:=fun b u nb e=>s3 _ _ (k2 b u nb (s1 _ _ e));have fr3:∀ b,H3 b=none->H b=none:=fun b hb=>fr2 b (s3.free hb);refine jOB (fun i σ G=>∃ (v3 v4 v5 v6:Option V) (F:List Pc),σ=[some (.ref d),some (.str name),some (.ref p),v3,v4,v5,v6]/\(∀ b u,b≠d->H b=some u->G b=some u)/\(∀ b,G b=none->H b=none)/\G d=some (.frz o (.dK (rY eE)))/\oU H G p F/\F.length<=((eE.take i).map fun r=>r.2.2.length).sum/\(∀ m∈F,m.2≠[])/\rR name F (eE.drop i)=rR name [] eE) ⟨_,_,_,_,[],rfl,k3,fr3,s3 _ _ hf2,⟨np,[],rfl,s3 _ _ (k2 _ _ (symm dp) hp1),jN,fun r hr=>absurd hr d6⟩,d5 _,fun m hm=>absurd hm d6,rfl⟩ (fun i σ G _ z=>?_) (fun i k v t σ G hkv nt z=>?_) (fun σ G z=>?_)
 ·obtain⟨_,_,_,_,_,_,_,_,hz,_⟩:=z;exact hz
 ·obtain⟨v3,v4,v5,v6,F,rfl,kG,frG,hfG,pcG,lF,neF,eG⟩:=z;obtain⟨r,er,ek⟩:∃ r:HRow,eE[i]?=some r/\(k,v)=((Sum.inr r.1:Key),V.ref r.2.1):=by
   unfold rY at hkv;rw [getElem?_map] at hkv;obtain⟨r,e1,e2⟩:=dY.mp hkv;exact⟨r,e1,e2.symm⟩
  obtain⟨rfl,rfl⟩:=Prod.mk.inj ek;have hr:=mem_of_getElem? er;have hi:i<eE.length:=(List.getElem?_eq_some_iff.mp er).1;have ed:eE.drop i=r::eE.drop (i+1):=by
   rw [List.drop_eq_getElem_cons hi];congr 1;exact (List.getElem?_eq_some_iff.mp er).2
  rw [ed] at eG;have s4:=gM nt (.tup [kV (Sum.inr r.1),V.ref r.2.1]);have ht4:upd G t (.tup [kV (Sum.inr r.1),V.ref r.2.1]) t=some (.tup [kV (Sum.inr r.1),V.ref r.2.1]):=d4;generalize upd G t (.tup [kV (Sum.inr r.1),V.ref r.2.1])=G4 at s4 ht4 ⊢;exists t,_,rfl,SqT.of ht4,rfl,_,_,rfl,_,_,rfl,rfl;have tg:jE6 G4 r.2.1 r.2.2:=by
   obtain⟨ts,e,e1,g⟩:=A.t r hr;exact⟨ts,e,s4 _ _ (kG _ _ (eW e1 hd nofun) e1),fun x hx=>s4 _ _ (kG _ _ (eW (g x hx) hd nofun) (g x hx))⟩
  have lh:r.2.2.length<=300:=by
   have:=A.l;rw [<- iW i eE,ed,dU,oP,dQ,sF] at this;omega
  refine⟨_,rfl,r.2.1,r.2.2,rfl,tg,lh,fun L eL pp G5 s5 pc=>?_,fun i' e' ea G5 s5 xg=>?_⟩;rotate_left
  ·have ee:rR name [] eE=.error i':=by
    rw [<- eG];show (match mY [] r.2.2 0 with|.ok L=>rR name (F++oA name r.1 L) (eE.drop (i+1))|.error i=>.error i)=_;rw [e']
   have h5:=s5 _ _ (s4 _ _ hfG);refine⟨d,o,_,hd,h5,q2 i' ee ea _ (fun b u e=>?_) ?_⟩
   ·by_cases c:b=d
    ·rw [c,hd] at e;rw [c,d4];exact e
    ·rw [dW c];exact s5 _ _ (s4 _ _ (kG b u c e))
   ·exact xg_off xg h5
  obtain⟨npp,prow,eP,hpp,ndP,gP⟩:=pc;have s45:=s4.trans s5;have lP:prow.length=L.length:=by rw [eP,c6]
  have pc4:=pcG.same s4;have no4:∀ vs,G4 p=some (.lst vs)->∀ t' pr l',V.ref t'∈vs->G4 t'=some (.tup [.str pr,.ref l'])->G4 l'≠none:=fun vs e1 t' pr l' m e2 e3=>by
   obtain⟨_,rows',_,e1',_,g'⟩:=pc4;rw [e1] at e1';injection e1' with e1';injection e1' with e1';rw [e1'] at m;obtain⟨q,hq,eq⟩:=eI.mp m;injection eq with eq;obtain⟨a,b,_⟩:=g' q hq;rw [eq,e2] at a;injection a with a;injection a with a;injection a with _ a;injection a with a _;injection a with a;rw [<- a,e3] at b;cases b
  refine⟨pp,rfl,⟨_,SqL.of hpp⟩,uZ (K:=K) (a:=pp) (xs:=prow.map fun (r:Addr×Addr×Pc)=>V.ref r.1) (fun j σ G'=>∃ (v5 v6:Option V),σ=[some (.ref d),some (.str name),some (.ref p),some (.str r.1),some (.ref r.2.1),v5,v6]/\(∀ b u,b≠d->H b=some u->G' b=some u)/\(∀ b,G' b=none->H b=none)/\G' d=some (.frz o (.dK (rY eE)))/\G' pp=some (.lst (prow.map fun r=>V.ref r.1))/\(∀ q∈prow,G' q.1=some (.tup [.str q.2.2.1,.ref q.2.1])/\G' q.2.1=some (.lst (q.2.2.2.map V.int)))/\oU H G' p (F++oA name r.1 (L.take j)) /\
   ∀ vs,G' p=some (.lst vs)->∀ t' pr l',V.ref t'∈vs->G' t'=some (.tup [.str pr,.ref l'])->G4 l'≠none\/∃ k q,k<j/\prow[k]?=some q/\q.2.1=l') ?_ (fun j σ G' _ z=>?_) (fun j x σ G' hx z=>?_) (fun σ G' z=>?_)⟩
  ·refine⟨_,_,rfl,fun b u nb e=>s45 _ _ (kG b u nb e),fun b hb=>frG b (s45.free hb),s45 _ _ hfG,hpp,fun q hq=>⟨(gP q hq).1,(gP q hq).2.1⟩,?_,fun vs e1 t' pr l' m e2=>.inl ?_⟩
   ·rw [mJ];show oU H G5 p (F++[]);rw [eZ];exact pc4.same s5
   ·obtain⟨_,rows',_,e1',_,g'⟩:=id pc4;have e5:=s5 _ _ e1';rw [e1] at e5;injection e5 with e5;injection e5 with e5;obtain⟨q,hq,eq⟩:=eI.mp (e5 ▸ m);injection eq with eq;have a:=s5 _ _ (g' q hq).1;rw [eq,e2] at a;injection a with a;injection a with a;injection a with _ a;injection a with a _;injection a with a;intro z;have b:=(g' q hq).2.1;rw [<- a,z] at b;cases b
  ·obtain⟨_,_,_,_,_,_,hz,_⟩:=z;exact SqL.of hz
  ·obtain⟨v5,v6,rfl,kG',frG',hf',hpp',gq,pcF,no'⟩:=z;rw [getElem?_map] at hx;obtain⟨q,hq,rfl⟩:=dY.mp hx;have sT:=mem_of_getElem? hq;obtain⟨ga,gb⟩:=gq q sT;have hL:L[j]?=some q.2.2:=by rw [eP,getElem?_map,hq];rfl
   exists q.1,_,rfl,SqT.of ga,rfl,_,_,rfl,_,_,rfl,rfl;rw [jOK hL];have skip:¬ (q.2.2.1=name/\q.2.2.2≠[])->∃ (v5 v6:Option V),[some (V.ref d),some (V.str name),some (V.ref p),some (V.str r.1),some (V.ref r.2.1),some (V.str q.2.2.1),some (V.ref q.2.1)]=[some (.ref d),some (.str name),some (.ref p),some (.str r.1),some (.ref r.2.1),v5,v6]/\(∀ b u,b≠d->H b=some u->G' b=some u)/\(∀ b,G' b=none->H b=none)/\G' d=some (.frz o (.dK (rY eE)))/\G' pp=some (.lst (prow.map fun r=>V.ref r.1))/\(∀ q∈prow,G' q.1=some (.tup [.str q.2.2.1,.ref q.2.1])/\G' q.2.1=some (.lst (q.2.2.2.map V.int)))/\oU H G' p (F++(oA name r.1 (L.take j)++if q.2.2.1=name/\q.2.2.2≠[] then [(r.1,q.2.2.2)] else [])) /\
    ∀ vs,G' p=some (.lst vs)->∀ t' pr l',V.ref t'∈vs->G' t'=some (.tup [.str pr,.ref l'])->G4 l'≠none\/∃ k q,k<j+1/\prow[k]?=some q/\q.2.1=l':=fun c=>by
    refine⟨_,_,rfl,kG',frG',hf',hpp',gq,by rw [if_neg c,eZ];exact pcF,fun vs e1 t' pr l' m e2=>?_⟩;rcases no' vs e1 t' pr l' m e2 with z|⟨k,q,h1,h2,h3⟩
    ·exact .inl z
    ·exact .inr ⟨k,q,jD h1,h2,h3⟩
   refine⟨_,rfl,_,rfl,rfl,_,rfl,oK (fun c=>?_) (fun c=>?_)⟩;rotate_left
   ·exact jJ (skip fun z=>c (decide_eq_true (by rw [z.1])))
   have c1:q.2.2.1=name:=by
    have:=of_decide_eq_true c;injection this
   cases en:q.2.2.2 with
   | nil =>
     rw [en] at skip;exact⟨_,rfl,false,.inl ⟨_,SqL.of gb,by rw [en];rfl⟩,jJ (skip fun z=>z.2 rfl)⟩
   | cons n0 ns =>
     refine⟨_,rfl,true,.inl ⟨_,SqL.of gb,by rw [en];rfl⟩,kM ?_⟩;have lpp:∀ q∈prow,q.2.1≠p:=fun q hq z=>by
      obtain⟨_,_,_,e1,_⟩:=pc4;have:=(gP q hq).2.2.1;rw [z,e1] at this;cases this
     have ppp:pp≠p:=fun z=>by
      obtain⟨_,_,_,e1,_⟩:=pc4;rw [z,e1] at npp;cases npp
     have nl:H q.2.1=none:=frG _ (s4.free (gP q sT).2.2.1);obtain⟨_,_,_,qS,_⟩:=id pcF;refine⟨_,rfl,.inl ⟨rfl,_,SqL.of qS⟩,_,rfl,_,rfl,z2,fun t2 nt2=>?_⟩;have s6:=gM nt2 (.tup [.str r.1,.ref q.2.1]);have ht6:upd G' t2 (.tup [.str r.1,.ref q.2.1]) t2=some (.tup [.str r.1,.ref q.2.1]):=d4;dsimp only;have old:∀ b,b≠t2->upd G' t2 (.tup [.str r.1,.ref q.2.1]) b=G' b:=fun b nb=>dW nb;generalize upd G' t2 (.tup [.str r.1,.ref q.2.1])=G6 at s6 ht6 old ⊢
     obtain⟨vs,hp6,lv,pc6⟩:=oU.add (m:=(r.1,n0::ns)) (pcF.same s6) nl (lpp q sT) (s6 _ _ (by rw [gb,en])) ht6 (fun sX e1 e2 x hx z=>by
      have tO:=s6 _ _ qS;rw [e1] at tO;injection tO with tO;injection tO with tO;have m:V.ref x.1∈sX.map fun r=>V.ref r.1:=eI.mpr ⟨x,hx,rfl⟩;have nt:x.1≠t2:=fun z2=>by
       obtain⟨_,rows',_,e1',_,g'⟩:=pcF;rw [qS] at e1';injection e1' with e1';injection e1' with e1';rw [tO,e1'] at m;obtain⟨y2,xE,ey2⟩:=eI.mp m;injection ey2 with ey2;have:=(g' y2 xE).1;rw [ey2,z2,nt2] at this;cases this
      have e3:=e2 x hx;rw [old _ nt] at e3;rcases no' _ qS x.1 _ x.2.1 (by rw [<- tO];exact m) e3 with z3|⟨k,q3,h1,h2,h3⟩
      ·rw [z] at z3;exact z3 (gP q sT).2.2.1
      ·rw [z] at h3;have lk:k<prow.length:=(List.getElem?_eq_some_iff.mp h2).1;have lj:j<prow.length:=(List.getElem?_eq_some_iff.mp hq).1;have a1:(prow.map (·.2.1))[k]'(by rw [c6];exact lk)=q3.2.1:=by rw [List.getElem_map,(List.getElem?_eq_some_iff.mp h2).2]
       have a2:(prow.map (·.2.1))[j]'(by rw [c6];exact lj)=q.2.1:=by rw [List.getElem_map,(List.getElem?_eq_some_iff.mp hq).2]
       have:=(List.getElem_inj ndP).mp ((a1.trans h3).trans a2.symm)
       omega)
     exists p,vs,_,rfl,rfl,hp6,?_
     ·have l1:L.length<=0+r.2.2.length:=jKf r.2.2 [] 0 eL;have l2:=jL3 name r.1 (L.take j);rw [fI] at l2;have l3:=A.l;rw [<- iW i eE,ed,dU,oP,dQ,sF] at l3;rw [lv,dH];exact oN (by omega)
     refine⟨_,_,rfl,fun b u nb e=>?_,fun b hb=>?_,?_,?_,fun q2 hq2=>⟨?_,?_⟩,?_,fun vs' e1 t' pr l' m e2=>?_⟩
     ·rw [dW (eJ e np)];exact s6 _ _ (kG' b u nb e)
     ·by_cases z:b=p
      ·rw [z,d4] at hb;cases hb
      ·rw [dW z] at hb;exact frG' b (s6.free hb)
     ·rw [dW dp];exact s6 _ _ hf'
     ·rw [dW ppp];exact s6 _ _ hpp'
     ·rw [dW (eW (s6 _ _ (gq q2 hq2).1) hp6 nofun)];exact s6 _ _ (gq q2 hq2).1
     ·rw [dW (lpp q2 hq2)];exact s6 _ _ (gq q2 hq2).2
     ·rw [if_pos ⟨c1,by intro z;cases z⟩,<- append_assoc];exact pc6
     ·rw [d4] at e1;injection e1 with e1;injection e1 with e1;rw [<- e1] at m;have np':t'≠p:=fun z=>by rw [z,d4] at e2;cases e2
      rw [dW np'] at e2;rcases eV.mp m with m|m
      ·have tO:=s6 _ _ qS;rw [hp6] at tO;injection tO with tO;injection tO with tO;have nt:t'≠t2:=fun z=>by
        obtain⟨_,rows',_,e1',_,g'⟩:=pcF;rw [qS] at e1';injection e1' with e1';injection e1' with e1';rw [tO,e1'] at m;obtain⟨y2,xE,ey2⟩:=eI.mp m;injection ey2 with ey2;have:=(g' y2 xE).1;rw [ey2,z,nt2] at this;cases this
       rw [old _ nt] at e2;rcases no' _ qS t' pr l' (by rw [<- tO];exact m) e2 with z|⟨k,q3,h1,h2,h3⟩
       ·exact .inl z
       ·exact .inr ⟨k,q3,jD h1,h2,h3⟩
      ·have:=mem_singleton.mp m;injection this with this;rw [this,ht6] at e2;injection e2 with e2;injection e2 with e2;injection e2 with _ e2;injection e2 with e2 _;injection e2 with e2;exact .inr ⟨j,q,kW _,hq,e2⟩
  ·obtain⟨v5,v6,rfl,kG',frG',hf',hpp',gq,pcF,no'⟩:=z;rw [c6,lP,jM] at pcF;exists _,_,_,_,F++oA name r.1 L,rfl,kG',frG',hf',pcF,?_,fun m hm=>?_
   ·have l1:L.length<=0+r.2.2.length:=jKf r.2.2 [] 0 eL;have l2:=jL3 name r.1 L;rw [gR,er,dU,oP,dH];show _<=_+(r.2.2.length+0)
    omega
   ·rcases eV.mp hm with hm|hm
    ·exact neF m hm
    ·unfold oA at hm;obtain⟨x,hx,rfl⟩:=eI.mp hm;have:=(mS.mp hx).2;rw [fA] at this;intro z;rw [show x.2=[] from z] at this;cases this.2
   ·rw [<- eG];show _=(match mY [] r.2.2 0 with|.ok L=>rR name (F++oA name r.1 L) (eE.drop (i+1))|.error i=>.error i)
    rw [eL]
 ·obtain⟨v3,v4,v5,v6,F,rfl,kG,frG,hfG,pcG,lF,neF,eG⟩:=z;rw [lrw,kI] at eG;have ok:rR name [] eE=.ok F:=eG.symm;exists hfG;have s5:eC H (upd G d (.dK (rY eE))):=fun b u e=>by
   by_cases c:b=d
   ·rw [c,hd] at e;rw [c,d4];exact e
   ·rw [dW c];exact kG b u c e
  have pc5:oU H (upd G d (.dK (rY eE))) p F:=pcG.off hfG;dsimp only;generalize upd G d (.dK (rY eE))=H5 at s5 pc5 ⊢;obtain⟨f64,q1'⟩:=q1 F ok;obtain⟨npp,fr,eF,hp5,nd5,g5⟩:=pc5;obtain⟨tps,htp⟩:=(ht.same s5).is;refine⟨_,rfl,p,_,fr.map fun r=>rD r.2.2,rfl,SqL.of hp5,?_,?_,ht.same s5,fun H6 s6 i x k hx hk=>?_,fun H6 D qs nD s6 t6 pm pw=>?_⟩
  ·rw [c6,<- c6 (f:=fun r:Addr×Addr×Pc=>r.2.2),<- eF];exact f64
  ·rw [c6,c6]
  ·rw [getElem?_map] at hx hk;obtain⟨r,er,rfl⟩:=dY.mp hx;rw [er] at hk;obtain rfl:=Option.some.inj hk;have hr:=mem_of_getElem? er;obtain⟨ga,gb,_⟩:=g5 r hr;have ga6:=s6 _ _ (eW ga htp nofun) ga;have gb6:=s6 _ _ (eW gb htp nofun) gb;have ne:=neF r.2.2 (by rw [eF];exact eI.mpr ⟨r,hr,rfl⟩);refine⟨_,rfl,r.1,_,_,_,rfl,rfl,SqT.of ga6,kL (j:=1) rfl,r.2.1,_,_,_,rfl,rfl,SqL.of gb6,kL (j:=0) (v:=V.int (rD r.2.2)) ?_,rfl,eC.refl _⟩;unfold rD;cases e:r.2.2.2 with
   | nil=>exact absurd e ne
   | cons a b=>rfl
  ·rw [show (fr.map fun r=>rD r.2.2).zip (fr.map fun r=>V.ref r.1)=fr.map (fun r=>(rD r.2.2,V.ref r.1)) from jL4 _ _ fr] at pm;obtain⟨fs,p1,rfl⟩:=jOL pm rfl;have nD5:H5 D=none:=by
    cases e:H5 D with
    | none=>rfl
    | some u =>
      by_cases c:D=dB
      ·obtain⟨_,z⟩:=t6.is;rw [c,z] at nD;cases nD
      ·rw [s6 _ _ c e] at nD;cases nD
   have hD7:upd H6 D (.lst ((fs.map fun r=>(rD r.2.2,V.ref r.1)).map y7)) D=some (.lst (fs.map fun r=>V.ref r.1)):=by rw [d4,iF];rfl
   have s7:sM dB H (upd H6 D (.lst ((fs.map fun r=>(rD r.2.2,V.ref r.1)).map y7))):=fun b u nb e=>by
    rw [dW (eJ (s5 _ _ e) nD5)];exact s6 _ _ nb (s5 _ _ e)
   have s67:=gM nD (.lst ((fs.map fun r=>(rD r.2.2,V.ref r.1)).map y7));have pw2:(fs.map (·.2.2)).Pairwise (fun a b=>rD a<=rD b):=by
    rw [mR] at pw ⊢;exact pw
   refine q1' D _ (fs.map (·.2.2)) s7 (t6.same s67) (by rw [eF];exact p1.map _) pw2 ⟨s5.free nD5,fs,rfl,hD7,(List.Perm.nodup_iff (p1.map _)).mpr nd5,fun r hr=>?_⟩;obtain⟨ga,gb,gc,_⟩:=g5 r (p1.mem_iff.mp hr);exact⟨s67 _ _ (s6 _ _ (eW ga htp nofun) ga),s67 _ _ (s6 _ _ (eW gb htp nofun) gb),gc,eJ gb nD5⟩
def kF(L:List Pc):List Int:=L.flatMap (·.2)
def jIe(ns:List Int)(t:Nat):Option Nat:=(range t).find? fun n=>!ns.contains (n:Int)
def lackV(o:Option Nat):V:=match o with|some n=>.int (n:Int)|none=>.non
theorem jL5{ns:List Int}{t k:Nat}(hk:k<t)(h:∀ j,j<k->(j:Int)∈ns)(n:¬ (k:Int)∈ns):jIe ns t=some k:=by
 unfold jIe;rw [List.find?_eq_some_iff_getElem];refine⟨by rw [kT,<- Bool.not_eq_true,List.contains_iff_mem];exact n,k,by simpa using hk,by simp,fun j hj=>?_⟩;rw [List.getElem_range,Bool.not_not,List.contains_iff_mem];exact h j hj
theorem jK0{ns:List Int}{t:Nat}(h:∀ j,j<t->(j:Int)∈ns):jIe ns t=none:=by
 unfold jIe;rw [find?_eq_none];intro x hx;rw [kT,Bool.not_eq_false,List.contains_iff_mem];exact h x (j8.mp hx)
theorem tab_off(t:vP H tP pos qual)(hy:H y=some (.dK kvs))(k:∀ b,b≠y->G b=H b):vP G tP pos qual:=by
 rcases t with t|⟨c,t,u⟩
 ·exact .inl (by rw [k _ (eW t hy nofun)];exact t)
 ·exact .inr ⟨c,by rw [k _ (eW t hy nofun)];exact t,by rw [k _ (eW u hy nofun)];exact u⟩
theorem jK1{L:List Pc}{i:Nat}{p:Pc}(h:L[i]?=some p):kF (L.take (i+1))=kF (L.take i)++p.2:=by
 unfold kF;rw [gR,h,g9];show _++(p.2++[])=_;rw [eZ]
inductive jEU(cN tP:Addr)(vs:List V)(H:Hp)(Q:VK)(E:XK):Prop|mk (d:Addr) (eE:List HRow) (name:Str) (t:Nat) (L:List Pc):vs=[.ref d,.str name,.int (t:Int)]->jId H d eE->mG H tP->t<=900->rR name [] eE=.ok L->L.length<64->(kF L).length<=300->(∀ H',sM tP H H'->mG H' tP->Q (lackV (jIe (kF L) t)) H')->jEU cN tP vs H Q E
theorem jCt:gF ["heaps","name","total","lying","part","number"] ["heaps","name","total"] (fY jFs):=scM
include T in
theorem jLb(F:Fun K "first_lack" "first_lack" jFs fa fd)(Dao:DfE P w K mg base 4 "gathered" ["heaps","name"] (jC6 vY dB)) :
 fJ P w K mg base (CXe P w) 5 fa fd ["heaps","name","total"] (jEU vY dB):=by
 refine F.okE jCt fun fE A outer s H vs Q E hr h=>?_;obtain⟨d,eE,name,t,L,rfl,A,ht,t9,eL,l64,l3,q⟩:=h;have hu:=hu_of hr;exists _,(d9 (psA (i:=3) jCt.nd jPd) (d9 (pN v0 rfl (q9 (jFo Dao jQ hr.m rfl (dJ (pv 0) (dJ (pv 1) dX)))) (pgA (i:=4) jCt.nd) (d7 (pN v0 rfl (q9 (ixA j1 (pv 4) eO)) (pgA (i:=5) jCt.nd) (d7 (ps_dput hu (pv 3) (pv 5) nQ rfl))))) (d9 (pN v0 rfl (xD rfl T.ai (dJ (pv 2) dX)) (pgA (i:=5) jCt.nd) (d7 (jC (jN2 (jKR hu (pv 5) (pv 3))) (d7 (gY (pv 5))) jK))) (d7 (gY nX)))))
 refine fun y ny=>?_;have s1:=gM ny (.dK []);have hy1:upd H y (.dK []) y=some (.dK []):=d4;generalize upd H y (.dK [])=H1 at s1 hy1 ⊢;refine⟨_,rfl,_,rfl,d,eE,name,rfl,A.same s1,ht.same s1,fun L' e'=>?_,fun i e=>by rw [eL] at e;cases e⟩;obtain rfl:L=L':=by rw [eL] at e';injection e'
 refine⟨l64,fun D H2 M s2 t2 pm pw pc=>?_⟩;obtain⟨nD,fr,eM,hD,nd,g⟩:=pc;obtain⟨tps,htp⟩:=(ht.same s1).is;have xE:H2 y=some (.dK []):=s2 _ _ (eW hy1 htp nofun) hy1;have mm:∀ n,n∈kF M ↔ n∈kF L:=fun n=>by
  unfold kF;rw [nN,nN];constructor
  ·rintro⟨x,hx,hn⟩;exact⟨x,pm.mem_iff.mp hx,hn⟩
  ·rintro⟨x,hx,hn⟩;exact⟨x,pm.mem_iff.mpr hx,hn⟩
 have ml:(kF M).length=(kF L).length:=(pm.flatMap_right _).length_eq;have lM:M.length=fr.length:=by rw [eM,c6]
 refine⟨D,rfl,⟨_,SqL.of hD⟩,uZ (K:=K) (a:=D) (xs:=fr.map fun (r:Addr×Addr×Pc)=>V.ref r.1) (fun i σ G=>∃ (v4 v5:Option V) (kvs:List (Key×V)),σ=[some (.ref d),some (.str name),some (.int (t:Int)),some (.ref y),v4,v5]/\G y=some (.dK kvs)/\(∀ b,b≠y->G b=H2 b)/\(∀ n:Int,(m7 kvs (Sum.inl n)).isSome=true ↔ n∈kF (M.take i))/\kvs.length<=(kF (M.take i)).length) ⟨_,_,[],rfl,xE,fun _ _=>rfl,fun n=>⟨(fun z=>nomatch z),(fun z=>nomatch z)⟩,d5 _⟩ (fun i σ G _ z=>?_) (fun i x σ G hx z=>?_) (fun σ G z=>?_)⟩
 ·obtain⟨_,_,_,_,_,k,_⟩:=z;exact SqL.of (by rw [k _ (eW hD xE nofun)];exact hD)
 ·obtain⟨v4,v5,kvs,rfl,hyG,k,mem,lk⟩:=z;rw [getElem?_map] at hx;obtain⟨r,er,rfl⟩:=dY.mp hx;obtain⟨ga,gb,_⟩:=g r (mem_of_getElem? er);have eMi:M[i]?=some r.2.2:=by rw [eM,getElem?_map,er];rfl
  have ga':G r.1=some (.tup [.str r.2.2.1,.ref r.2.1]):=by rw [k _ (eW ga xE nofun)];exact ga
  have nt:=jK1 eMi;have lt:(kF (M.take (i+1))).length<=(kF M).length:=by
   have e:kF M=kF (M.take (i+1))++kF (M.drop (i+1)):=by
    unfold kF;rw [<- g9,iW]
   rw [e,dH];exact jU _ _
  refine⟨_,rfl,r.1,_,_,_,rfl,rfl,SqT.of ga',kL (j:=1) rfl,r.2.1,rfl,⟨_,SqL.of (by rw [k _ (eW gb xE nofun)];exact gb)⟩,?_⟩;refine uZ (K:=K) (a:=r.2.1) (xs:=r.2.2.2.map V.int) (fun j σ G=>∃ (v5:Option V) (kvs:List (Key×V)),σ=[some (.ref d),some (.str name),some (.int (t:Int)),some (.ref y),some (.ref r.1),v5]/\G y=some (.dK kvs)/\(∀ b,b≠y->G b=H2 b)/\(∀ n:Int,(m7 kvs (Sum.inl n)).isSome=true ↔ n∈kF (M.take i)++r.2.2.2.take j)/\kvs.length<=(kF (M.take i)++r.2.2.2.take j).length) ⟨_,kvs,rfl,hyG,k,by rw [mJ,eZ];exact mem,by rw [mJ,eZ];exact lk⟩ (fun j σ G _ z=>?_) (fun j x σ G hx z=>?_) (fun σ G z=>?_)
  ·obtain⟨_,_,_,_,k,_⟩:=z;exact SqL.of (by rw [k _ (eW gb xE nofun)];exact gb)
  ·obtain⟨v5,kvs,rfl,hyG,k,mem,lk⟩:=z;rw [getElem?_map] at hx;obtain⟨n0,en,rfl⟩:=dY.mp hx;have et:r.2.2.2.take (j+1)=r.2.2.2.take j++[n0]:=by rw [gR,en];rfl
   have l5:(kF (M.take i)++r.2.2.2.take j).length<=300:=by
    rw [nt,dH] at lt;rw [dH,fI];omega
   refine⟨_,rfl,_,rfl,y,_,rfl,jHD.k (k:=Sum.inl n0) hyG (oN (by omega)),⟨_,_,rfl,d4,fun b nb=>by rw [dW nb];exact k b nb,fun n=>?_,?_⟩⟩
   ·rw [jPc,et,<- append_assoc,eV,mem_singleton];by_cases c:n=n0
    ·rw [if_pos (by rw [c])];exact⟨fun _=>.inr c,fun _=>rfl⟩
    ·rw [if_neg (fun z=>c (Sum.inl.inj z)),mem];exact⟨fun z=>.inl z,fun z=>z.resolve_right c⟩
   ·have:=jEs kvs (Sum.inl n0) (.bl true);rw [et,<- append_assoc,dH];show _<=_+1;omega
  ·obtain⟨v5,kvs,rfl,hyG,k,mem,lk⟩:=z;rw [c6,jM,<- nt] at mem lk;exact⟨_,_,kvs,rfl,hyG,k,mem,lk⟩
 ·obtain⟨v4,v5,kvs,rfl,hyG,k,mem,lk⟩:=z;rw [c6,<- lM,jM] at mem;have fin:sM dB H G:=fun b u nb e=>by
   have e1:=s1 _ _ e;rw [k _ (eJ e ny)];exact s2 _ _ nb e1
  have tab:mG G dB:=tab_off t2 xE k;have mem':∀ n:Int,(m7 kvs (Sum.inl n)).isSome=true ↔ n∈kF L:=fun n=>(mem n).trans (mm n);exists _,rfl,_,rfl,by omega,by omega
  refine jDr (lo:=0) (n:=((t:Int)).toNat) (fun j σ G'=>G'=G/\(∀ i,i<j->((i:Nat):Int)∈kF L)/\∃ v5,σ=[some (.ref d),some (.str name),some (.int (t:Int)),some (.ref y),v4,v5]) ⟨rfl,fun i z=>absurd z (gC _),_,rfl⟩ (fun j σ G' hj z=>?_) (fun σ G' z=>?_)
  ·obtain⟨rfl,pre,v5,rfl⟩:=z;have ej:(0:Int)+(j:Int)=(j:Int):=zero_add _;refine⟨_,rfl,_,rfl,y,_,rfl,qE.k (k:=Sum.inl (0+(j:Int))) hyG,_,rfl,oK (fun c=>?_) (fun c=>?_)⟩
   ·rw [ej] at c ⊢;have nn:¬ (j:Int)∈kF L:=fun z=>by
     rw [(mem' _).mpr z] at c;cases c
    exists _,rfl;have:=q G' fin tab;rw [jL5 (by omega) pre nn] at this;exact this
   ·rw [ej] at c
    have yy:(j:Int)∈kF L:=(mem' _).mp (by
     cases e:(m7 kvs (Sum.inl (j:Int))).isSome with
     | true=>rfl
     | false=>rw [e] at c;exact absurd rfl c)
    refine⟨rfl,fun i hi=>?_,_,rfl⟩;by_cases e:i=j
    ·rw [e];exact yy
    ·exact pre i (by omega)
  ·obtain⟨rfl,pre,v5,rfl⟩:=z;have:=q G' fin tab;rw [jK0 (fun j hj=>pre j (by omega))] at this;exact this
theorem jJf:gF ["self","name"] ["self","name"] (fY jD3):=scM
include T in
theorem jJg(F:Fun K "__init__" "Unknown.__init__" jD3 fa fd)  :
 fJ P w K mg base CX0 1 fa fd ["self","name"] (oZ cV "name"):=by
 refine F.ok jJf fun fE A outer s H vs Q E hr h=>?_;obtain⟨x,y,rfl,hx,q⟩:=h;exists _,(d9 (kE (jDf T.az rfl T.ax (dJ (pv 0) (dJ (pv 1) dX)))) (d7 (jD0 (pv 0) (pv 1) rfl)))
 exists _,rfl,_,rfl,x,_,none,[y],rfl,(by simp),hx,T.aW.m;refine⟨_,rfl,_,rfl,.inl ⟨x,_,rfl,hx,T.aW.i.c,T.aW.n _ (.head _),fun dx nd ne=>?_⟩⟩;exact q _ (jDm nd) (jFC ne)
theorem jJh:gF ["self","name"] ["self","name"] (fY jD4):=scM
include T in
theorem jJi(F:Fun K "__init__" "TooMuch.__init__" jD4 fa fd)  :
 fJ P w K mg base CX0 1 fa fd ["self","name"] (oZ cG "name"):=by
 refine F.ok jJh fun fE A outer s H vs Q E hr h=>?_;obtain⟨x,y,rfl,hx,q⟩:=h;exists _,(d9 (kE (jDf T.az rfl T.ax (dJ (pv 0) (dJ (pv 1) dX)))) (d7 (jD0 (pv 0) (pv 1) rfl)))
 exists _,rfl,_,rfl,x,_,none,[y],rfl,(by simp),hx,T.aC.m;refine⟨_,rfl,_,rfl,.inl ⟨x,_,rfl,hx,T.aC.i.c,T.aC.n _ (.head _),fun dx nd ne=>?_⟩⟩;exact q _ (jDm nd) (jFC ne)
theorem jMX:gF ["self","name"] ["self","name"] (fY jGY):=scM
include T in
theorem jMY(F:Fun K "__init__" "Dry.__init__" jGY fa fd)  :
 fJ P w K mg base CX0 1 fa fd ["self","name"] (oZ vQ "name"):=by
 refine F.ok jMX fun fE A outer s H vs Q E hr h=>?_;obtain⟨x,y,rfl,hx,q⟩:=h;exists _,(d9 (kE (jDf T.az rfl T.ax (dJ (pv 0) (dJ (pv 1) dX)))) (d7 (jD0 (pv 0) (pv 1) rfl)))
 exists _,rfl,_,rfl,x,_,none,[y],rfl,(by simp),hx,T.aX.m;refine⟨_,rfl,_,rfl,.inl ⟨x,_,rfl,hx,T.aX.i.c,T.aX.n _ (.head _),fun dx nd ne=>?_⟩⟩;exact q _ (jDm nd) (jFC ne)
theorem rT:∀ {fs:List (Str×V)},¬ f∈fs.map (·.1)->mH f v fs=fs++[(f,v)]
 | [],_=>rfl
 | (g,u)::r,h=>by
   have h1:¬ g=f:=fun e=>h (by rw [<- e];exact gB);show (if g=f then _ else (g,u)::mH f v r)=_;rw [if_neg h1,rT fun m=>h (fB _ m)];rfl
def dI(ps:List (Str×Int)):List (Key×V):=ps.map fun p=>(Sum.inr p.1,V.int p.2)
theorem jLc{l:List Str}(h:l.Nodup):(l.map (Sum.inr:Str->Key)).Nodup:=by
 induction l with
 | nil=>exact jN
 | cons a r ih =>
   rw [fN] at h;rw [dQ,fN];refine⟨fun m=>?_,ih h.2⟩;obtain⟨b,hb,e⟩:=eI.mp m;cases e;exact h.1 hb
inductive jEV(C:Addr)(vs:List V)(H:Hp)(Q:VK)(E_:XK):Prop|mk (x dx a:Addr) (rs:List (Str×Int)):vs=[.ref x,.ref a]->H x=some (.ins C dx [])->H a=some (.dK (dI rs))->(rs.map (·.1)).Nodup->rs.length<=1000->(∀ r m H',(∀ b u,b≠x->H b=some u->H' b=some u)->H r=none->H m=none->r≠m->H' x=some (.ins C dx [("rooms",.ref r),("amounts",.ref m)])->H' r=some (.dK (dI rs))->H' m=some (.dK (dI (rs.map fun p=>(p.1,0))))->Q .non H')->jEV C vs H Q E_
theorem jLd:gF ["self","rooms"] ["self","rooms"] (fY jFy):=scM
include T in
theorem jLe(F:Fun K "__init__" "Stock.__init__" jFy fa fd)  :
 fJ P w K mg base CX0 1 fa fd ["self","rooms"] (jEV cQ):=by
 refine F.ok jLd fun fE A outer s H vs Q E hr h=>?_;obtain⟨x,dx,a,rs,rfl,hx,ha,nd,l1,q⟩:=h;exists _,(d9 (kX (pv 0) (uC jGz rfl T.aY jKb (dJ (pv 1) dX)) rfl) (d7 (kX (pv 0) (pe_frz (uC (jJe rfl) rfl T.aY jKb (dJ (jCx (frees:=[]) ⟨by decide +kernel,rfl,rfl,by decide +kernel,trivial,by decide +kernel,uW rfl,rfl⟩ rfl (pi_dict (pv 1)) (fun _ _ _ _=>jCn) (fun _ _ _ _=>by exact (mT (dJ (pv 0) (dJ eO dX))))) dX))) rfl)))
 have z2:2<=c9:=small (by decide);refine⟨_,rfl,a,_,rfl,.inl ha,fun r nr=>?_⟩;have nrx:x≠r:=eJ hx nr;have nra:a≠r:=eJ ha nr;have nax:a≠x:=eW ha hx nofun
 refine⟨_,rfl,x,cQ,dx,_,rfl,(by rw [dW nrx];exact hx),T.ah,T.bz,(by show 0<1000;decide),?_⟩;rw [rT (by show ¬ ("rooms":Str)∈([]:List Str);decide +kernel),j7];have k1:∀ b u,b≠x->H b=some u->upd (upd H r (.dK (dI rs))) x (.ins cQ dx [("rooms",.ref r)]) b=some u:=fun b u nb e=>by rw [dW nb,dW (eJ e nr)];exact e
 have hr1:upd (upd H r (.dK (dI rs))) x (.ins cQ dx [("rooms",.ref r)]) r=some (.dK (dI rs)):=by rw [dW (symm nrx),d4]
 have pO:upd (upd H r (.dK (dI rs))) x (.ins cQ dx [("rooms",.ref r)]) x=some (.ins cQ dx [("rooms",.ref r)]):=d4;generalize upd (upd H r (.dK (dI rs))) x (.ins cQ dx [("rooms",.ref r)])=H1 at k1 hr1 pO ⊢;refine⟨a,dI rs,k1 _ _ nax ha,fun o=>?_⟩;exists _,rfl,a,o,dI rs,rfl,d4;have zr:((dI rs).map fun p=>kV p.1).length=rs.length:=by unfold dI;rw [c6,c6]
 refine jFp (jPi d4) (fun n y H'=>∃ t,y=.ref t/\H' t=some (.tup [n,.int 0])) (by rw [zr];exact oN l1) (fun x _ H' R _ rr=>rr) (fun n _ H' R _ rr=>⟨_,rfl,z2,fun t nt=>rr _ _ (gM nt _) ⟨fun z=>z=t,fun b hb=>by subst hb;exact⟨nt,_,d4⟩,fun H3 h3=>⟨t,rfl,by rw [h3 t rfl];exact d4⟩⟩⟩) (fun D H2 ys s2 nD hD ly gy=>?_);have k2:∀ b u,b≠a->H1 b=some u->H2 b=some u:=fun b u nb e=>s2 b u (by rw [dW nb];exact e);have ha2:=s2 _ _ (d4 (H:=H1) (a:=a) (o:=.frz o (.dK (dI rs))));have nd':((dI (rs.map fun p=>(p.1,0))).map (·.1)).Nodup:=by
  have e:(dI (rs.map fun p=>(p.1,(0:Int)))).map (·.1)=(rs.map (·.1)).map (Sum.inr:Str->Key):=by
   unfold dI;rw [iF,iF,iF];rfl
  rw [e];exact jLc nd
 refine⟨D,ys,dI (rs.map fun p=>(p.1,0)),rfl,hD,?_,fun i y kv e1 e2=>?_,nd',fun m nm=>⟨?_,?_⟩⟩
 ·rw [ly,zr];unfold dI;rw [c6,c6]
 ·unfold dI at e2;rw [iF,getElem?_map] at e2;obtain⟨p,ep,rfl⟩:=dY.mp e2;have ex:((dI rs).map fun p=>kV p.1)[i]?=some (.str p.1):=by
   unfold dI;rw [iF,getElem?_map,ep];rfl
  obtain⟨t,rfl,ht⟩:=gy i _ y ex e1;exact⟨t,rfl,SqT.of ht⟩
 ·rw [dW (eJ ha2 nm)];exact ha2
 have nma:a≠m:=eJ ha2 nm;have hx2:=k2 _ _ (symm nax) pO;have nmx:x≠m:=eJ hx2 nm;have hr2:=k2 _ _ (symm nra) hr1;have nmr:r≠m:=eJ hr2 nm;refine⟨_,rfl,x,cQ,dx,_,rfl,(by rw [dW (symm nax),dW nmx];exact hx2),T.ah,T.aB,(by show 1<1000;decide),?_⟩;rw [rT (by show ¬ ("amounts":Str)∈(["rooms"]:List Str);decide +kernel)];have nm1:H m=none:=by
  cases e:H m with
  | none=>rfl
  | some u =>
    have:H2 m=some u:=k2 m u (symm nma) (k1 m u (symm nmx) e);rw [nm] at this;cases this
 refine q r m _ (fun b u nb e=>?_) nr nm1 nmr d4 ?_ ?_
 ·rw [dW nb];by_cases hb:b=a
  ·subst hb;rw [d4];rw [ha] at e;exact e
  ·have e2:=k2 b u hb (k1 b u nb e);rw [dW hb,dW (eJ e2 nm)];exact e2
 ·rw [dW (symm nrx),dW (symm nra),dW nmr];exact hr2
 ·rw [dW (symm nmx),dW (symm nma),d4]
theorem jOM:m7 (dI rs) (Sum.inr n:Key)=(rs.lookup n).map V.int:=by
 induction rs with
 | nil=>rfl
 | cons p r ih =>
   obtain⟨k,v⟩:=p;show ((((Sum.inr k:Key),V.int v)::dI r).find? fun kv=>decide (kv.1=Sum.inr n)).map (·.2)=_;rw [find?_cons,eX];by_cases h:k=n
   ·subst h;rw [decide_eq_true rfl,beq_self_eq_true];rfl
   ·rw [decide_eq_false (show ¬ (((Sum.inr k:Key),V.int v).1=Sum.inr n) from fun z=>h (Sum.inr.inj z)),beq_eq_false_iff_ne.mpr (symm h)];exact ih
theorem jFf(e:H m=some (.dK (dI am)))(l:am.lookup n=some v):qE H m (.str n) (some (.int v)):=by
 have:=qE.k (k:=Sum.inr n) e;rw [jOM,l] at this;exact this
theorem jDx{rs:List (Str×Int)}{n:Str}{v:Int}(h:rs.lookup n=some v):n∈rs.map (·.1):=eI.mpr ⟨(n,v),PySem.mem_of_lookup h,rfl⟩
theorem jFS{rs:List (Str×Int)}{n:Str}(h:rs.lookup n=none):¬ n∈rs.map (·.1):=by
 intro m;obtain⟨p,hp,e⟩:=eI.mp m;rw [List.lookup_eq_none_iff] at h;have:=h p hp;rw [e] at this;simp at this
theorem look_in{rs:List (Str×Int)}{n:Str}(h:n∈rs.map (·.1)):(rs.lookup n).isNone=false:=by
 cases e:rs.lookup n with
 | none=>exact absurd h (jFS e)
 | some v=>rfl
theorem jPy{rs:List (Str×Int)}{n:Str}(h:¬ n∈rs.map (·.1)):(rs.lookup n).isNone=true:=by
 cases e:rs.lookup n with
 | none=>rfl
 | some v=>exact absurd (jDx e) h
def jIf(C:Addr)(H:Hp)(x:Addr)(rs am:List (Str×Int)):Prop:=∃ dx r m,H x=some (.ins C dx [("rooms",.ref r),("amounts",.ref m)])/\H r=some (.dK (dI rs))/\H m=some (.dK (dI am))/\r≠m
def OutU(cU:Addr)(n:Str)(H:Hp)(E:XK):Prop:=∀ ea H',eC H H'->XG H' ea cU [("name",.str n)]->E (.ref cU) (some ea) H'
inductive jIg(C cU:Addr)(vs:List V)(H:Hp)(Q:VK)(E:XK):Prop|mk x rs am n:vs=[.ref x,.str n]->jIf C H x rs am->(n∈rs.map (·.1)->Q .non H)->(¬ n∈rs.map (·.1)->OutU cU n H E)->jIg C cU vs H Q E
theorem jLf:gF ["self","name"] ["self","name"] (fY jFA):=scM
include T in
theorem jLg(F:Fun K "know" "Stock.know" jFA fa fd)(DaQ:sN P w K mg base 1 "Unknown" cV ["self","name"] (oZ cV "name")) :
 fJ P w K mg base (CXe P w) 3 fa fd ["self","name"] (jIg cQ cV):=by
 refine F.okE jLf fun fE A outer s H vs Q E hr h=>?_;obtain⟨x,rs,am,n,rfl,⟨dx,r,m,hx,oW,hm,ne⟩,q1,q2⟩:=h;have hu:=uQ hr 0 (by decide);exists _,(d7 (jC (jN2 (jKR hu (pv 1) (hV (pv 0) rfl))) (d7 (uD uA rfl (uB DaQ hr.m rfl (dJ (pv 1) dX)))) jK))
 exists _,rfl,_,rfl,x,cQ,dx,_,_,rfl,hx,T.ah,T.bz,rfl,r,_,rfl,qE.k (k:=Sum.inr n) oW,_,rfl;rw [jOM];cases e:rs.lookup n with
 | some v=>exact jJ (q1 (jDx e))
 | none=>exact kM ⟨_,rfl,rC T.aW.m fun ea H' sm _ g=>q2 (jFS e) ea H' sm g⟩
inductive jKg(C cU:Addr)(vs:List V)(H:Hp)(Q:VK)(E:XK):Prop|mk x rs am n:vs=[.ref x,.str n]->jIf C H x rs am->(∀ v,n∈rs.map (·.1)->am.lookup n=some v->Q (.int v) H)->(n∈rs.map (·.1)->∃ v,am.lookup n=some v)->(¬ n∈rs.map (·.1)->OutU cU n H E)->jKg C cU vs H Q E
theorem jLh:gF ["self","name"] ["self","name"] (fY jFz):=scM
include T in
theorem jLi(F:Fun K "held" "Stock.held" jFz fa fd)(Dap:MtE P w K mg base 3 "know" cQ ["self","name"] (jIg cQ cV)) :
 fJ P w K mg base (CXe P w) 4 fa fd ["self","name"] (jKg cQ cV):=by
 refine F.okE jLh fun fE A outer s H vs Q E hr h=>?_;obtain⟨x,rs,am,n,rfl,S,q1,q0,q2⟩:=h;have hu:=uQ hr 0 (by decide);obtain⟨dx,r,m,hx,oW,hm,ne⟩:=id S;exists _,(d9 (kE (oM 3 jQ hr.m (pv 0) (dJ (pv 1) dX))) (d7 (gY (dgA hu (hV (pv 0) rfl) (pv 1)))))
 refine⟨_,rfl,x,_,dx,_,_,_,rfl,hx,rfl,T.ah,Dap,_,rfl,x,rs,am,n,rfl,S,fun hn=>?_,q2⟩;obtain⟨v,ev⟩:=q0 hn;exact⟨_,rfl,x,cQ,dx,_,_,rfl,hx,T.ah,T.aB,rfl,_,rfl,m,_,rfl,jFf hm ev,q1 v hn ev⟩
def GiftAt(H:Hp)(y:V)(g:Str×Int):Prop:=∃ t,y=.ref t/\H t=some (.tup [.str g.1,.int g.2])
def jIh(H:Hp)(p:Addr)(ws:List (Str×Int)):Prop:=∃ ts,H p=some (.lst ts)/\ts.length=ws.length/\∀ (i:Nat) y g,ts[i]?=some y->ws[i]?=some g->GiftAt H y g
def sQ(rs ws:List (Str×Int)):Option Str:=(ws.find? fun g=>(rs.lookup g.1).isNone).map (·.1)
theorem jE7:∀ {l:List α} {i:Nat} {a:α},l[i]?=some a->(∀ j b,j<i->l[j]?=some b->f b=false)->f a=true->l.find? f=some a
 | [],_,_,h,_,_=>by simp at h
 | b::r,0,a,h,_,k=>by
   obtain rfl:b=a:=Option.some.inj h;rw [find?_cons,k]
 | b::r,i+1,a,h,g,k=>by
   have hb:f b=false:=g 0 b (Nat.succ_pos _) rfl;rw [find?_cons,hb];exact jE7 (i:=i) h (fun j c hj e=>g (j+1) c (Nat.succ_lt_succ hj) e) k
theorem jKh{α:Type}{f:α->Bool}{l:List α}(h:∀ (j:Nat) b,l[j]?=some b->f b=false):l.find? f=none:=by
 rw [find?_eq_none];intro x hx;obtain⟨j,hj⟩:=mem_iff_getElem?.mp hx;rw [h j x hj];decide
inductive jEu(C cU:Addr)(vs:List V)(H:Hp)(Q:VK)(E:XK):Prop|mk x p rs am ws:vs=[.ref x,.ref p]->jIf C H x rs am->jIh H p ws->(sQ rs ws=none->Q .non H)->(∀ n,sQ rs ws=some n->OutU cU n H E)->jEu C cU vs H Q E
theorem jE0:gF ["self","rows","row"] ["self","rows"] (fY jDh):=scM
include T in
theorem jIo(F:Fun K "know_all" "Stock.know_all" jDh fa fd)(Dap:MtE P w K mg base 3 "know" cQ ["self","name"] (jIg cQ cV)) :
 fJ P w K mg base (CXe P w) 4 fa fd ["self","rows"] (jEu cQ cV):=by
 refine F.okE jE0 fun fE A outer s H vs Q E hr h=>?_;obtain⟨x,p,rs,am,ws,rfl,S,⟨ts,hp,lt,gt⟩,q1,q2⟩:=h;have hu:=uQ hr 0 (by decide);obtain⟨dx,r,m,hx,oW,hm,ne⟩:=id S;exists _,(d7 (pN v0 rfl (q9 (pv 1)) (pgA (i:=2) jE0.nd) (d7 (kE (oM 3 jQ hr.m (pv 0) (dJ (ixA j1 (pv 2) eO) dX))))))
 refine⟨_,rfl,p,rfl,⟨_,SqL.of hp⟩,uZ (K:=K) (a:=p) (xs:=ts) (fun i σ H'=>H'=H/\(∀ (j:Nat) g,j<i->ws[j]?=some g->(rs.lookup g.1).isNone=false)/\∃ v,σ=[some (.ref x),some (.ref p),v]) ⟨rfl,fun j g hj=>absurd hj (gC j),_,rfl⟩ (fun i σ H' _ z=>by rw [z.1];exact SqL.of hp) (fun i y σ H' hy z=>?_) (fun σ H' z=>?_)⟩
 ·obtain⟨rfl,kn,v,rfl⟩:=z;obtain⟨g,eg⟩:∃ g,ws[i]?=some g:=⟨_,getElem?_eq_getElem (by rw [<- lt];exact (List.getElem?_eq_some_iff.mp hy).1)⟩
  obtain⟨t,rfl,ht⟩:=gt i y g hy eg;exists _,rfl,x,_,dx,_,_,_,rfl,hx,rfl,T.ah,Dap;refine⟨_,rfl,t,_,_,_,rfl,rfl,SqT.of ht,kL (j:=0) rfl,x,rs,am,g.1,rfl,S,fun hn=>⟨rfl,fun j g' hj e=>?_,_,rfl⟩,fun hn=>q2 g.1 ?_⟩
  ·by_cases hji:j<i
   ·exact kn j g' hji e
   ·have:j=i:=by omega
    subst this;rw [eg] at e;obtain rfl:=Option.some.inj e;exact look_in hn
  ·unfold sQ;rw [jE7 eg (fun j b hj e=>kn j b hj e) (jPy hn)];rfl
 ·obtain⟨rfl,kn,v,rfl⟩:=z;refine q1 ?_;unfold sQ;rw [jKh fun j g e=>kn j g (by rw [lt];exact (List.getElem?_eq_some_iff.mp e).1) e];rfl
def uR(C:Addr)(H:Hp)(x r m:Addr)(rs am:List (Str×Int)):Prop:=(∃ dx,H x=some (.ins C dx [("rooms",.ref r),("amounts",.ref m)]))/\H r=some (.dK (dI rs))/\H m=some (.dK (dI am))/\r≠m
theorem uR.at(h:uR C H x r m rs am):jIf C H x rs am:=let ⟨⟨dx,e1⟩,e2,e3,n⟩:=h;⟨dx,r,m,e1,e2,e3,n⟩
def lS(am:List (Str×Int))(n:Str)(v:Int):List (Str×Int):=am.map fun p=>if p.1=n then (p.1,v) else p
def sO(s:Int)(am ws:List (Str×Int)):List (Str×Int):=ws.foldl (fun am g=>lS am g.1 ((am.lookup g.1).getD 0+s*g.2)) am
theorem jHU(am:List (Str×Int))(n:Str)(v:Int):(lS am n v).map (·.1)=am.map (·.1):=by
 unfold lS;rw [iF];refine iR fun p _=>?_;show (if p.1=n then (p.1,v) else p).1=p.1;split<;>rfl
theorem jON(h:n∈am.map (·.1)):pC (dI am) (Sum.inr n:Key) (.int v)=dI (lS am n v):=by
 have hany:((dI am).any fun kv=>decide (kv.1=(Sum.inr n:Key)))=true:=by
  obtain⟨p,hp,e⟩:=eI.mp h;refine List.any_eq_true.mpr ⟨(Sum.inr p.1,V.int p.2),eI.mpr ⟨p,hp,rfl⟩,decide_eq_true ?_⟩;rw [e]
 unfold pC;rw [if_pos hany];unfold dI lS;rw [iF,iF];refine iR fun p _=>?_;show (if (Sum.inr p.1:Key)=Sum.inr n then ((Sum.inr p.1:Key),V.int v) else (Sum.inr p.1,V.int p.2))=(Sum.inr (if p.1=n then (p.1,v) else p).1,V.int (if p.1=n then (p.1,v) else p).2)
 by_cases e:p.1=n
 ·rw [if_pos (by rw [e]),if_pos e]
 ·rw [if_neg (fun z=>e (Sum.inr.inj z)),if_neg e]
def vW(rs am ws:List (Str×Int)):Option Str:=(ws.find? fun g=>decide ((rs.lookup g.1).getD 0<(am.lookup g.1).getD 0+g.2)).map (·.1)
def t7(am ws:List (Str×Int)):Option Str:=(ws.find? fun g=>decide ((am.lookup g.1).getD 0<g.2)).map (·.1)
def jHV(C cU cN:Addr)(s:Int)(bad:List (Str×Int)->List (Str×Int)->List (Str×Int)->Option Str):Sp:=fun vs H Q E=>∃ x r m p rs am ws,vs=[.ref x,.ref p]/\uR C H x r m rs am/\am.map (·.1)=rs.map (·.1)/\am.length<=1000/\p≠m/\jIh H p ws /\
 (∀ n,sQ rs ws=some n->OutU cU n H E)/\(∀ n,sQ rs ws=none->bad rs am ws=some n->OutU cN n H E) /\
 (sQ rs ws=none->bad rs am ws=none->∀ H',(∀ b u,b≠m->H b=some u->H' b=some u)->uR C H' x r m rs (sO s am ws)->Q .non H')
theorem jC7(s:Int):∀ (ws am:List (Str×Int)),(sO s am ws).map (·.1)=am.map (·.1)
 | [],_=>rfl
 | g::r,am=>by
   show (sO s (lS am g.1 ((am.lookup g.1).getD 0+s*g.2)) r).map (·.1)=_;rw [jC7 s r,jHU]
theorem jIA(s:Int)(am ws:List (Str×Int))(g:Str×Int):sO s am (ws++[g])=lS (sO s am ws) g.1 (((sO s am ws).lookup g.1).getD 0+s*g.2):=by
 unfold sO;rw [List.foldl_append];rfl
theorem jFT{rs am:List (Str×Int)}{n:Str}{v:Int}(e:am.map (·.1)=rs.map (·.1))(h:rs.lookup n=some v):∃ w,am.lookup n=some w:=by
 cases l:am.lookup n with
 | some w=>exact⟨w,rfl⟩
 | none=>exact absurd (e ▸ jDx h) (jFS l)
theorem jDJ{rs ws:List (Str×Int)}(h:sQ rs ws=none){j:Nat}{g:Str×Int}(e:ws[j]?=some g):∃ v,rs.lookup g.1=some v:=by
 unfold sQ at h;have h1:=find?_eq_none.mp (Option.map_eq_none_iff.mp h) g (mem_of_getElem? e);cases l:rs.lookup g.1 with
 | some v=>exact⟨v,rfl⟩
 | none=>rw [l] at h1;exact absurd rfl h1
theorem jBY:gF ["self","gifts","name","many"] ["self","gifts"] (fY jDG):=scM
include T in
theorem jIN(F:Fun K "put_all" "Stock.put_all" jDG fa fd)(Daq:sN P w K mg base 1 "TooMuch" cG ["self","name"] (oZ cG "name"))(Dar:MtE P w K mg base 4 "know_all" cQ ["self","rows"] (jEu cQ cV)) :
 fJ P w K mg base (CXe P w) 5 fa fd ["self","gifts"] (jHV cQ cV cG 1 vW):=by
 refine F.okE jBY (fun fE A outer s H vs Q E hr h=>?_) (fun vs H Q E h=>?_);rotate_left
 ·obtain⟨x,r,m,p,rs,am,ws,rfl,_⟩:=h;rfl
 obtain⟨x,r,m,p,rs,am,ws,rfl,S,ek,la,npm,G,q1,q2,q3⟩:=h;have hu:=uQ hr 0 (by decide);obtain⟨⟨dx,hx⟩,oW,hm,ne⟩:=id S;obtain⟨ts,hp,lt,gt⟩:=id G;have nxm:x≠m:=eW hx hm nofun
 exists _,(d9 (kE (oM 4 jQ hr.m (pv 0) (dJ (pv 1) dX))) (d9 (pN v0 rfl (q9 (pv 1)) (jC4 rfl (pE (pgA (i:=2) jBY.nd) (pE (pgA (i:=3) jBY.nd) jCv))) (d7 (jC (tcA jH6 (iO oE (dgA hu (hV (pv 0) rfl) (pv 2)) (pv 3)) (dgA hu (hV (pv 0) rfl) (pv 2))) (d7 (uD uA rfl (uB Daq hr.m rfl (dJ (pv 2) dX)))) jK))) (d7 (pN v0 rfl (q9 (pv 1)) (jC4 rfl (pE (pgA (i:=2) jBY.nd) (pE (pgA (i:=3) jBY.nd) jCv))) (d7 (jNp hu (hV (pv 0) rfl) (pv 2) (pv 3) in_add (fun _ _ _=>rfl)))))))
 refine⟨_,rfl,x,_,dx,_,_,_,rfl,hx,rfl,T.ah,Dar,_,rfl,x,p,rs,am,ws,rfl,S.at,G,fun kn=>?_,q1⟩;refine⟨_,rfl,p,rfl,⟨_,SqL.of hp⟩,uZ (K:=K) (a:=p) (xs:=ts) (fun i σ H'=>H'=H/\(∀ (j:Nat) g,j<i->ws[j]?=some g->decide ((rs.lookup g.1).getD 0<(am.lookup g.1).getD 0+g.2)=false)/\∃ v2 v3,σ=[some (.ref x),some (.ref p),v2,v3]) ⟨rfl,fun j g hj=>absurd hj (gC j),_,_,rfl⟩ (fun i σ H' _ z=>by rw [z.1];exact SqL.of hp) (fun i y σ H' hy z=>?_) (fun σ H' z=>?_)⟩
 ·obtain⟨rfl,kb,v2,v3,rfl⟩:=z;obtain⟨g,eg⟩:∃ g,ws[i]?=some g:=⟨_,getElem?_eq_getElem (by rw [<- lt];exact (List.getElem?_eq_some_iff.mp hy).1)⟩
  obtain⟨t,rfl,ht⟩:=gt i y g hy eg;obtain⟨vr,er⟩:=jDJ kn eg;obtain⟨va,ea⟩:=jFT ek er;exists t,[.str g.1,.int g.2],rfl,SqT.of ht,rfl,.str g.1,[.int g.2],rfl,.int g.2,[],rfl,rfl;exists _,rfl,x,cQ,dx,_,_,rfl,hx,T.ah,T.aB,rfl,_,rfl,m,_,rfl,jFf hm ea,_,rfl,_,_,rfl,rfl,_,rfl,x,cQ,dx,_,_,rfl,hx,T.ah,T.bz,rfl,_,rfl,r,_,rfl,jFf oW er,_,_,rfl,rfl,decide (vr<va+g.2),rfl;have eb:(decide ((rs.lookup g.1).getD 0<(am.lookup g.1).getD 0+g.2))=decide (vr<va+g.2):=by rw [ea,er];rfl
  cases hd:decide (vr<va+g.2) with
  | false =>
    refine jJ ⟨rfl,fun j g' hj e=>?_,_,_,rfl⟩;by_cases hji:j<i
    ·exact kb j g' hji e
    ·have:j=i:=by omega
     subst this;rw [eg] at e;obtain rfl:=Option.some.inj e;rw [eb,hd]
  | true =>
    refine kM ⟨_,rfl,rC T.aC.m fun ea H2 sm _ gx=>q2 g.1 kn ?_ ea H2 sm gx⟩;unfold vW;rw [jE7 eg (fun j b hj e=>kb j b hj e) (by rw [eb,hd])];rfl
 ·obtain⟨rfl,kb,v2,v3,rfl⟩:=z;have nb:vW rs am ws=none:=by
   unfold vW;rw [jKh fun j g e=>kb j g (by rw [lt];exact (List.getElem?_eq_some_iff.mp e).1) e];rfl
  refine⟨_,rfl,p,rfl,⟨_,SqL.of hp⟩,uZ (K:=K) (a:=p) (xs:=ts) (fun i σ H2=>(∀ b u,b≠m->H' b=some u->H2 b=some u)/\H2 m=some (.dK (dI (sO 1 am (ws.take i))))/\∃ v2 v3,σ=[some (.ref x),some (.ref p),v2,v3]) ⟨fun b u _ e=>e,hm,_,_,rfl⟩ (fun i σ H2 _ z=>SqL.of (z.1 _ _ npm hp)) (fun i y σ H2 hy z=>?_) (fun σ H2 z=>?_)⟩
  ·obtain⟨kp,u8,v2,v3,rfl⟩:=z;obtain⟨g,eg⟩:∃ g,ws[i]?=some g:=⟨_,getElem?_eq_getElem (by rw [<- lt];exact (List.getElem?_eq_some_iff.mp hy).1)⟩
   obtain⟨t,rfl,ht⟩:=gt i y g hy eg;obtain⟨vr,er⟩:=jDJ kn eg;have ek2:(sO 1 am (ws.take i)).map (·.1)=rs.map (·.1):=by rw [jC7,ek]
   obtain⟨va,ea⟩:=jFT ek2 er;have tk:ws.take (i+1)=ws.take i++[g]:=by rw [gR,eg];rfl
   exists t,[.str g.1,.int g.2],rfl,SqT.of (kp _ _ (eW ht hm nofun) ht),rfl,.str g.1,[.int g.2],rfl,.int g.2,[],rfl,rfl;have ln:(dI (sO 1 am (ws.take i))).length<c9:=by
    unfold dI;have:=congrArg List.length (jC7 1 (ws.take i) am);rw [c6,c6] at this;rw [c6,this];exact oN la
   exists _,rfl,x,cQ,dx,_,_,rfl,kp _ _ nxm hx,T.ah,T.aB,rfl,_,rfl,m,_,rfl,jFf u8 ea,_,rfl,_,_,rfl,rfl,_,jHD.k (k:=Sum.inr g.1) u8 ln;refine⟨fun b u nb e=>by rw [dW nb];exact kp b u nb e,?_,_,_,rfl⟩;rw [d4,jON (jDx ea),tk,jIA,ea,nZ];rw [rO]
  ·obtain⟨kp,u8,v2,v3,rfl⟩:=z;rw [fG (by omega)] at u8;exact q3 kn nb H2 kp ⟨⟨dx,kp _ _ nxm hx⟩,kp _ _ ne oW,u8,ne⟩
theorem jBO:gF ["self","wants","name","many"] ["self","wants"] (fY jDi):=scM
include T in
theorem jIp(F:Fun K "draw_all" "Stock.draw_all" jDi fa fd)(Das:sN P w K mg base 1 "Dry" vQ ["self","name"] (oZ vQ "name"))(Dar:MtE P w K mg base 4 "know_all" cQ ["self","rows"] (jEu cQ cV)) :
 fJ P w K mg base (CXe P w) 5 fa fd ["self","wants"] (jHV cQ cV vQ (-1) (fun _ am ws=>t7 am ws)):=by
 refine F.okE jBO (fun fE A outer s H vs Q E hr h=>?_) (fun vs H Q E h=>?_);rotate_left
 ·obtain⟨x,r,m,p,rs,am,ws,rfl,_⟩:=h;rfl
 obtain⟨x,r,m,p,rs,am,ws,rfl,S,ek,la,npm,G,q1,q2,q3⟩:=h;have hu:=uQ hr 0 (by decide);obtain⟨⟨dx,hx⟩,oW,hm,ne⟩:=id S;obtain⟨ts,hp,lt,gt⟩:=id G;have nxm:x≠m:=eW hx hm nofun
 exists _,(d9 (kE (oM 4 jQ hr.m (pv 0) (dJ (pv 1) dX))) (d9 (pN v0 rfl (q9 (pv 1)) (jC4 rfl (pE (pgA (i:=2) jBO.nd) (pE (pgA (i:=3) jBO.nd) jCv))) (d7 (jC (tcA jFN (dgA hu (hV (pv 0) rfl) (pv 2)) (pv 3)) (d7 (uD uA rfl (uB Das hr.m rfl (dJ (pv 2) dX)))) jK))) (d7 (pN v0 rfl (q9 (pv 1)) (jC4 rfl (pE (pgA (i:=2) jBO.nd) (pE (pgA (i:=3) jBO.nd) jCv))) (d7 (jNp hu (hV (pv 0) rfl) (pv 2) (pv 3) in_sub (fun _ _ _=>rfl)))))))
 refine⟨_,rfl,x,_,dx,_,_,_,rfl,hx,rfl,T.ah,Dar,_,rfl,x,p,rs,am,ws,rfl,S.at,G,fun kn=>?_,q1⟩;refine⟨_,rfl,p,rfl,⟨_,SqL.of hp⟩,uZ (K:=K) (a:=p) (xs:=ts) (fun i σ H'=>H'=H/\(∀ (j:Nat) g,j<i->ws[j]?=some g->decide ((am.lookup g.1).getD 0<g.2)=false)/\∃ v2 v3,σ=[some (.ref x),some (.ref p),v2,v3]) ⟨rfl,fun j g hj=>absurd hj (gC j),_,_,rfl⟩ (fun i σ H' _ z=>by rw [z.1];exact SqL.of hp) (fun i y σ H' hy z=>?_) (fun σ H' z=>?_)⟩
 ·obtain⟨rfl,kb,v2,v3,rfl⟩:=z;obtain⟨g,eg⟩:∃ g,ws[i]?=some g:=⟨_,getElem?_eq_getElem (by rw [<- lt];exact (List.getElem?_eq_some_iff.mp hy).1)⟩
  obtain⟨t,rfl,ht⟩:=gt i y g hy eg;obtain⟨vr,er⟩:=jDJ kn eg;obtain⟨va,ea⟩:=jFT ek er;exists t,[.str g.1,.int g.2],rfl,SqT.of ht,rfl,.str g.1,[.int g.2],rfl,.int g.2,[],rfl,rfl;exists _,rfl,x,cQ,dx,_,_,rfl,hx,T.ah,T.aB,rfl,_,rfl,m,_,rfl,jFf hm ea,_,rfl,_,_,rfl,rfl,decide (va<g.2),rfl;have eb:(decide ((am.lookup g.1).getD 0<g.2))=decide (va<g.2):=by rw [ea];rfl
  cases hd:decide (va<g.2) with
  | false =>
    refine jJ ⟨rfl,fun j g' hj e=>?_,_,_,rfl⟩;by_cases hji:j<i
    ·exact kb j g' hji e
    ·have:j=i:=by omega
     subst this;rw [eg] at e;obtain rfl:=Option.some.inj e;rw [eb,hd]
  | true =>
    refine kM ⟨_,rfl,rC T.aX.m fun ea H2 sm _ gx=>q2 g.1 kn ?_ ea H2 sm gx⟩;show t7 am ws=some g.1;unfold t7;rw [jE7 eg (fun j b hj e=>kb j b hj e) (by rw [eb,hd])];rfl
 ·obtain⟨rfl,kb,v2,v3,rfl⟩:=z;have nb:t7 am ws=none:=by
   unfold t7;rw [jKh fun j g e=>kb j g (by rw [lt];exact (List.getElem?_eq_some_iff.mp e).1) e];rfl
  refine⟨_,rfl,p,rfl,⟨_,SqL.of hp⟩,uZ (K:=K) (a:=p) (xs:=ts) (fun i σ H2=>(∀ b u,b≠m->H' b=some u->H2 b=some u)/\H2 m=some (.dK (dI (sO (-1) am (ws.take i))))/\∃ v2 v3,σ=[some (.ref x),some (.ref p),v2,v3]) ⟨fun b u _ e=>e,hm,_,_,rfl⟩ (fun i σ H2 _ z=>SqL.of (z.1 _ _ npm hp)) (fun i y σ H2 hy z=>?_) (fun σ H2 z=>?_)⟩
  ·obtain⟨kp,u8,v2,v3,rfl⟩:=z;obtain⟨g,eg⟩:∃ g,ws[i]?=some g:=⟨_,getElem?_eq_getElem (by rw [<- lt];exact (List.getElem?_eq_some_iff.mp hy).1)⟩
   obtain⟨t,rfl,ht⟩:=gt i y g hy eg;obtain⟨vr,er⟩:=jDJ kn eg;have ek2:(sO (-1) am (ws.take i)).map (·.1)=rs.map (·.1):=by rw [jC7,ek]
   obtain⟨va,ea⟩:=jFT ek2 er;have tk:ws.take (i+1)=ws.take i++[g]:=by rw [gR,eg];rfl
   exists t,[.str g.1,.int g.2],rfl,SqT.of (kp _ _ (eW ht hm nofun) ht),rfl,.str g.1,[.int g.2],rfl,.int g.2,[],rfl,rfl;have ln:(dI (sO (-1) am (ws.take i))).length<c9:=by
    unfold dI;have:=congrArg List.length (jC7 (-1) (ws.take i) am);rw [c6,c6] at this;rw [c6,this];exact oN la
   exists _,rfl,x,cQ,dx,_,_,rfl,kp _ _ nxm hx,T.ah,T.aB,rfl,_,rfl,m,_,rfl,jFf u8 ea,_,rfl,_,_,rfl,rfl,_,jHD.k (k:=Sum.inr g.1) u8 ln;refine⟨fun b u nb e=>by rw [dW nb];exact kp b u nb e,?_,_,_,rfl⟩;rw [d4,jON (jDx ea),tk,jIA,ea,nZ];rw [show va + -1*g.2=va-g.2 from by omega]
  ·obtain⟨kp,u8,v2,v3,rfl⟩:=z;rw [fG (by omega)] at u8;exact q3 kn nb H2 kp ⟨⟨dx,kp _ _ nxm hx⟩,kp _ _ ne oW,u8,ne⟩
inductive jL6(C cU cT:Addr)(vs:List V)(H:Hp)(Q:VK)(E:XK):Prop|mk x r m rs am n k:vs=[.ref x,.str n,.int k]->uR C H x r m rs am->am.map (·.1)=rs.map (·.1)->am.length<=1000->(∀ n',sQ rs [(n,k)]=some n'->OutU cU n' H E)->(∀ n',sQ rs [(n,k)]=none->vW rs am [(n,k)]=some n'->OutU cT n' H E)->(sQ rs [(n,k)]=none->vW rs am [(n,k)]=none->∀ H',(∀ b u,b≠m->H b=some u->H' b=some u)->uR C H' x r m rs (sO 1 am [(n,k)])->Q .non H')->jL6 C cU cT vs H Q E
theorem uR.same(h:uR C H x r m rs am)(k:eC H H'):uR C H' x r m rs am:=let ⟨⟨dx,e1⟩,e2,e3,n⟩:=h;⟨⟨dx,k _ _ e1⟩,k _ _ e2,k _ _ e3,n⟩
theorem jL7:gF ["self","name","many"] ["self","name","many"] (fY jGo):=scM
include T in
theorem jL8(F:Fun K "put" "Stock.put" jGo fa fd)(Dat:MtE P w K mg base 5 "put_all" cQ ["self","gifts"] (jHV cQ cV cG 1 vW)) :
 fJ P w K mg base (CXe P w) 6 fa fd ["self","name","many"] (jL6 cQ cV cG):=by
 refine F.okE jL7 fun fE A outer s H vs Q E hr h=>?_;obtain⟨x,r,m,rs,am,n,k,rfl,S,ek,la,q1,q2,q3⟩:=h;have z1:1<=c9:=small (by decide);have z2:2<=c9:=small (by decide);obtain⟨⟨dx,hx⟩,oW,hm,ne⟩:=id S;exists _,(d7 (kE (oM 5 jQ hr.m (pv 0) (dJ (lQ (dJ (mT (dJ (pv 1) (dJ (pv 2) dX))) dX)) dX))))
 refine⟨_,rfl,x,_,dx,_,_,_,rfl,hx,rfl,T.ah,Dat,_,rfl,_,rfl,z2,fun t nt=>⟨z1,fun p np=>?_⟩⟩;have s1:=(gM nt (.tup [.str n,.int k])).trans (gM np (.lst [.ref t]));have ht:=gM np (.lst [.ref t]) _ _ (d4 (H:=H) (a:=t) (o:=.tup [.str n,.int k]));have hp:=d4 (H:=upd H t (.tup [.str n,.int k])) (a:=p) (o:=.lst [.ref t]);have npm:p≠m:=fun e=>by
  have:=gM nt (.tup [.str n,.int k]) _ _ hm;rw [<- e,np] at this;cases this
 refine⟨x,r,m,p,rs,am,[(n,k)],rfl,S.same s1,ek,la,npm,⟨[.ref t],hp,rfl,fun i y g e1 e2=>?_⟩,fun n' h ea H' sm gx=>q1 n' h ea H' (s1.trans sm) gx,fun n' h h2 ea H' sm gx=>q2 n' h h2 ea H' (s1.trans sm) gx,fun h1 h2 H' kp S'=>q3 h1 h2 H' (fun b u nb e=>kp b u nb (s1 _ _ e)) S'⟩
 match i,e1,e2 with
 | 0,e1,e2 =>
   obtain rfl:V.ref t=y:=Option.some.inj e1;obtain rfl:(n,k)=g:=Option.some.inj e2;exact⟨t,rfl,ht⟩
theorem jKi:gF ["self","found"] ["self","found"] (fY jEG):=scM
include T in
theorem jKj(F:Fun K "__init__" "NotNow.__init__" jEG fa fd)  :
 fJ P w K mg base CX0 1 fa fd ["self","found"] (oZ cK "found"):=by
 refine F.ok jKi fun fE A outer s H vs Q E hr h=>?_;obtain⟨x,y,rfl,hx,q⟩:=h;exists _,(d9 (kE (jDf T.az rfl T.ax (dJ (pv 0) (dJ (pv 1) dX)))) (d7 (jD0 (pv 0) (pv 1) rfl)))
 exists _,rfl,_,rfl,x,_,none,[y],rfl,(by simp),hx,T.aj.m;refine⟨_,rfl,_,rfl,.inl ⟨x,_,rfl,hx,T.aj.i.c,T.aj.n _ (.head _),fun dx nd ne=>?_⟩⟩;exact q _ (jDm nd) (jFC ne)
inductive S3 where
 | rd|jm|aw (b:Bool)
 deriving DecidableEq
def wd:S3->Str
 | .rd=>c7 "ready"
 | .jm=>c7 "jammed"
 | .aw _=>c7 "off"
def tG:S3->List (Str×V)
 | .rd=>[("word",.str (c7 "ready"))]
 | .jm=>[("word",.str (c7 "jammed"))]
 | .aw b=>[("word",.str (c7 "off")),("jammed",.bl b)]
def clOf(cR cJ cA:Addr):S3->Addr
 | .rd=>cR
 | .jm=>cJ
 | .aw _=>cA
def lN:Nat->S3->Option S3
 | 0,.rd=>some .jm
 | 1,.jm=>some .rd
 | 2,.rd=>some (.aw false)
 | 2,.jm=>some (.aw true)
 | 3,.aw b=>some (if b=true then .jm else .rd)
 | _,_=>none
def vO(cR cJ cA:Addr)(H:Hp)(a:Addr)(s:S3):Prop:=∃ dx,H a=some (.ins (clOf cR cJ cA s) dx (tG s))
theorem vO.same(h:vO cR cJ cA H a s)(k:eC H H'):vO cR cJ cA H' a s:=let ⟨dx,e⟩:=h;⟨dx,k _ _ e⟩
theorem jCV(nx:H x=none)(nd:H dx=none):eC H (upd (upd (upd H dx o) x o1) x o2):=by
 rw [uY];exact w5 nx (gM nd _) _
def OutS(cR cJ cA cN:Addr)(d:Nat)(s:S3)(H:Hp)(Q:VK)(E:XK):Prop:=(∀ s',lN d s=some s'->∀ p H',eC H H'->H p=none->vO cR cJ cA H' p s'->Q (.ref p) H') /\
 (lN d s=none->∀ ea H',eC H H'->XG H' ea cN [("found",.str (wd s))]->E (.ref cN) (some ea) H')
inductive oI(cR cJ cA cN:Addr)(S:S3->Prop)(d:Nat)(vs:List V)(H:Hp)(Q:VK)(E:XK):Prop|mk a s:vs=[.ref a]->S s->vO cR cJ cA H a s->OutS cR cJ cA cN d s H Q E->oI cR cJ cA cN S d vs H Q E
inductive jED(cR cJ cA:Addr)(vs:List V)(H:Hp)(Q:VK)(E_:XK):Prop|mk a s:vs=[.ref a]->vO cR cJ cA H a s->Q (.str (wd s)) H->jED cR cJ cA vs H Q E_
inductive jB8(K:PySem.W.Frag)(vs:List V)(H:Hp)(Q:VK)(E_:XK):Prop|mk x dx C y:vs=[.ref x,y]->H x=some (.ins C dx [])->Cls K C->jB K C "word"->Q .non (upd H x (.ins C dx [("word",y)]))->jB8 K vs H Q E_
def jFD(C:Addr)(fs:List (Str×V)):Sp:=fun vs H Q _=>∃ x dx,vs=[.ref x]/\H x=some (.ins C dx [])/\Q .non (upd H x (.ins C dx fs))
inductive jDK(C:Addr)(vs:List V)(H:Hp)(Q:VK)(E_:XK):Prop|mk x dx b:vs=[.ref x,.bl b]->H x=some (.ins C dx [])->Q .non (upd H x (.ins C dx (tG (.aw b))))->jDK C vs H Q E_
theorem jLj:gF ["self","word"] ["self","word"] (fY jFu):=scM
include T in
theorem jHt(F:Fun K "__init__" "State.__init__" jFu fa fd)  :
 fJ P w K mg base CX0 1 fa fd ["self","word"] (jB8 K):=by
 refine F.ok jLj fun fE A outer s H vs Q E hr h=>?_;obtain⟨x,dx,C,y,rfl,hx,cl,n,q⟩:=h;exists _,(d7 (kX (pv 0) (pv 1) rfl))
 exact⟨_,rfl,_,rfl,x,C,dx,_,rfl,hx,cl,n,(by decide),q⟩
theorem jJj:gF ["self"] ["self"] (fY jD7):=scM
include T in
theorem jDL(F:Fun K "called" "State.called" jD7 fa fd)  :
 fJ P w K mg base CX0 1 fa fd ["self"] (jED yJ yW yU):=by
 refine F.ok jJj fun fE A outer s H vs Q E hr h=>?_;obtain⟨a,s,rfl,⟨dx,hx⟩,q⟩:=h;exists _,(d7 (gY (hV (pv 0) rfl)))
 cases s with
 | rd=>exact⟨_,rfl,a,_,dx,_,_,rfl,hx,T.ar,T.aR,rfl,q⟩
 | jm=>exact⟨_,rfl,a,_,dx,_,_,rfl,hx,T.au,T.aS,rfl,q⟩
 | aw b=>exact⟨_,rfl,a,_,dx,_,_,rfl,hx,T.ak,T.aK,rfl,q⟩
theorem jL9:gF ["self"] ["self"] (fY jGi):=scM
include T in
theorem jHW(F:Fun K "jam" "State.jam" jGi fa fd)(Dab:sN P w K mg base 1 "NotNow" cK ["self","found"] (oZ cK "found")) :
 fJ P w K mg base (CXe P w) 3 fa fd ["self"] (oI yJ yW yU cK (fun s=>lN 0 s=none) 0):=by
 refine F.okE jL9 fun fE A outer s H vs Q E hr h=>?_;obtain⟨a,s,rfl,hs,⟨dx,hx⟩,_,q⟩:=h;exists _,(d7 (uD uA rfl (uB Dab hr.m rfl (dJ (hV (pv 0) rfl) dX))))
 cases s with
 | rd=>cases hs
 | jm=>exact⟨_,rfl,a,_,dx,_,_,rfl,hx,T.au,T.aS,rfl,rC T.aj.m fun ea H' sm _ g=>q hs ea H' sm g⟩
 | aw b=>exact⟨_,rfl,a,_,dx,_,_,rfl,hx,T.ak,T.aK,rfl,rC T.aj.m fun ea H' sm _ g=>q hs ea H' sm g⟩
theorem jLk:gF ["self"] ["self"] (fY jFv):=scM
include T in
theorem jHu(F:Fun K "mend" "State.mend" jFv fa fd)(Dab:sN P w K mg base 1 "NotNow" cK ["self","found"] (oZ cK "found")) :
 fJ P w K mg base (CXe P w) 3 fa fd ["self"] (oI yJ yW yU cK (fun s=>lN 1 s=none) 1):=by
 refine F.okE jLk fun fE A outer s H vs Q E hr h=>?_;obtain⟨a,s,rfl,hs,⟨dx,hx⟩,_,q⟩:=h;exists _,(d7 (uD uA rfl (uB Dab hr.m rfl (dJ (hV (pv 0) rfl) dX))))
 cases s with
 | jm=>cases hs
 | rd=>exact⟨_,rfl,a,_,dx,_,_,rfl,hx,T.ar,T.aR,rfl,rC T.aj.m fun ea H' sm _ g=>q hs ea H' sm g⟩
 | aw b=>exact⟨_,rfl,a,_,dx,_,_,rfl,hx,T.ak,T.aK,rfl,rC T.aj.m fun ea H' sm _ g=>q hs ea H' sm g⟩
theorem jKk:gF ["self"] ["self"] (fY jEL):=scM
include T in
theorem jKl(F:Fun K "leave" "State.leave" jEL fa fd)(Dab:sN P w K mg base 1 "NotNow" cK ["self","found"] (oZ cK "found")) :
 fJ P w K mg base (CXe P w) 3 fa fd ["self"] (oI yJ yW yU cK (fun s=>lN 2 s=none) 2):=by
 refine F.okE jKk fun fE A outer s H vs Q E hr h=>?_;obtain⟨a,s,rfl,hs,⟨dx,hx⟩,_,q⟩:=h;exists _,(d7 (uD uA rfl (uB Dab hr.m rfl (dJ (hV (pv 0) rfl) dX))))
 cases s with
 | jm=>cases hs
 | rd=>cases hs
 | aw b=>exact⟨_,rfl,a,_,dx,_,_,rfl,hx,T.ak,T.aK,rfl,rC T.aj.m fun ea H' sm _ g=>q hs ea H' sm g⟩
theorem jLl:gF ["self"] ["self"] (fY jFw):=scM
include T in
theorem jHv(F:Fun K "come" "State.come" jFw fa fd)(Dab:sN P w K mg base 1 "NotNow" cK ["self","found"] (oZ cK "found")) :
 fJ P w K mg base (CXe P w) 3 fa fd ["self"] (oI yJ yW yU cK (fun s=>lN 3 s=none) 3):=by
 refine F.okE jLl fun fE A outer s H vs Q E hr h=>?_;obtain⟨a,s,rfl,hs,⟨dx,hx⟩,_,q⟩:=h;exists _,(d7 (uD uA rfl (uB Dab hr.m rfl (dJ (hV (pv 0) rfl) dX))))
 cases s with
 | rd=>exact⟨_,rfl,a,_,dx,_,_,rfl,hx,T.ar,T.aR,rfl,rC T.aj.m fun ea H' sm _ g=>q hs ea H' sm g⟩
 | jm=>exact⟨_,rfl,a,_,dx,_,_,rfl,hx,T.au,T.aS,rfl,rC T.aj.m fun ea H' sm _ g=>q hs ea H' sm g⟩
 | aw b=>cases hs
theorem jLm:gF ["self"] ["self"] (fY jFx):=scM
include T in
theorem jLn(F:Fun K "__init__" "Ready.__init__" jFx fa fd)(Dag:InD P w K mg base 1 "State" yV ["self","word"] (jB8 K)) :
 fJ P w K mg base CX0 2 fa fd ["self"] (jFD yJ (tG .rd)):=by
 refine F.ok jLm (fun fE A outer s H vs Q E hr h=>?_) (fun vs H Q E h=>?_);rotate_left
 ·obtain⟨x,dx,rfl,_⟩:=h;rfl
 obtain⟨x,dx,rfl,hx,q⟩:=h;exists _,(d7 (kE (jD1 Dag hr.m rfl (dJ (pv 0) (dJ (uT T.be rfl) dX)))))
 exact⟨_,rfl,x,dx,_,_,rfl,hx,T.ar,T.aR,q⟩
theorem jKm:gF ["self"] ["self"] (fY jEN):=scM
include T in
theorem jKn(F:Fun K "__init__" "Jammed.__init__" jEN fa fd)(Dag:InD P w K mg base 1 "State" yV ["self","word"] (jB8 K)) :
 fJ P w K mg base CX0 2 fa fd ["self"] (jFD yW (tG .jm)):=by
 refine F.ok jKm (fun fE A outer s H vs Q E hr h=>?_) (fun vs H Q E h=>?_);rotate_left
 ·obtain⟨x,dx,rfl,_⟩:=h;rfl
 obtain⟨x,dx,rfl,hx,q⟩:=h;exists _,(d7 (kE (jD1 Dag hr.m rfl (dJ (pv 0) (dJ (uT T.bN rfl) dX)))))
 exact⟨_,rfl,x,dx,_,_,rfl,hx,T.au,T.aS,q⟩
theorem jL_:gF ["self","jammed"] ["self","jammed"] (fY jGk):=scM
include T in
theorem jMa(F:Fun K "__init__" "Away.__init__" jGk fa fd)(Dag:InD P w K mg base 1 "State" yV ["self","word"] (jB8 K)) :
 fJ P w K mg base CX0 2 fa fd ["self","jammed"] (jDK yU):=by
 refine F.ok jL_ fun fE A outer s H vs Q E hr h=>?_;obtain⟨x,dx,b,rfl,hx,q⟩:=h;exists _,(d9 (kE (jD1 Dag hr.m rfl (dJ (pv 0) (dJ (uT T.bO rfl) dX)))) (d7 (kX (pv 0) (pv 1) rfl)))
 exists _,rfl,x,dx,_,_,rfl,hx,T.ak,T.aK;exists _,rfl,_,rfl,x,_,dx,_,rfl,d4,T.ak,T.bC,(by decide)
 rw [uY];exact q
theorem jMb:gF ["self"] ["self"] (fY jGj):=scM
include T in
theorem jMc(F:Fun K "jam" "Ready.jam" jGj fa fd)(Dau:MkD P w K mg base 2 "Jammed" yW ["self"] (jFD yW (tG .jm))) :
 fJ P w K mg base CX0 4 fa fd ["self"] (oI yJ yW yU cK (fun s=>s=.rd) 0):=by
 refine F.ok jMb fun fE A outer s H vs Q E hr h=>?_;obtain⟨a,s,rfl,rfl,_,q,_⟩:=h;exists _,(d7 (gY (jCJ Dau hr.m rfl)))
 exact fun x dx nx nd ne=>⟨x,dx,rfl,d4,rfl,q _ rfl x _ (jCV nx nd) nx ⟨dx,d4⟩⟩
theorem jKo:gF ["self"] ["self"] (fY jEM):=scM
include T in
theorem jKp(F:Fun K "leave" "Ready.leave" jEM fa fd)(Dav:MkD P w K mg base 2 "Away" yU ["self","jammed"] (jDK yU)) :
 fJ P w K mg base CX0 4 fa fd ["self"] (oI yJ yW yU cK (fun s=>s=.rd) 2):=by
 refine F.ok jKo fun fE A outer s H vs Q E hr h=>?_;obtain⟨a,s,rfl,rfl,_,q,_⟩:=h;exists _,(d7 (gY (jCI Dav hr.m rfl (dJ nQ dX))))
 exact fun x dx nx nd ne=>⟨x,dx,_,rfl,d4,rfl,q _ rfl x _ (jCV nx nd) nx ⟨dx,d4⟩⟩
theorem jKq:gF ["self"] ["self"] (fY jEO):=scM
include T in
theorem jKr(F:Fun K "mend" "Jammed.mend" jEO fa fd)(Dah:MkD P w K mg base 2 "Ready" yJ ["self"] (jFD yJ (tG .rd))) :
 fJ P w K mg base CX0 4 fa fd ["self"] (oI yJ yW yU cK (fun s=>s=.jm) 1):=by
 refine F.ok jKq fun fE A outer s H vs Q E hr h=>?_;obtain⟨a,s,rfl,rfl,_,q,_⟩:=h;exists _,(d7 (gY (jCJ Dah hr.m rfl)))
 exact fun x dx nx nd ne=>⟨x,dx,rfl,d4,rfl,q _ rfl x _ (jCV nx nd) nx ⟨dx,d4⟩⟩
theorem jJk:gF ["self"] ["self"] (fY jD8):=scM
include T in
theorem jJl(F:Fun K "leave" "Jammed.leave" jD8 fa fd)(Dav:MkD P w K mg base 2 "Away" yU ["self","jammed"] (jDK yU)) :
 fJ P w K mg base CX0 4 fa fd ["self"] (oI yJ yW yU cK (fun s=>s=.jm) 2):=by
 refine F.ok jJk fun fE A outer s H vs Q E hr h=>?_;obtain⟨a,s,rfl,rfl,_,q,_⟩:=h;exists _,(d7 (gY (jCI Dav hr.m rfl (dJ nQ dX))))
 exact fun x dx nx nd ne=>⟨x,dx,_,rfl,d4,rfl,q _ rfl x _ (jCV nx nd) nx ⟨dx,d4⟩⟩
theorem jMd:gF ["self"] ["self"] (fY jGl):=scM
include T in
theorem jMe(F:Fun K "come" "Away.come" jGl fa fd)(Dau:MkD P w K mg base 2 "Jammed" yW ["self"] (jFD yW (tG .jm)))(Dah:MkD P w K mg base 2 "Ready" yJ ["self"] (jFD yJ (tG .rd))) :
 fJ P w K mg base CX0 4 fa fd ["self"] (oI yJ yW yU cK (fun s=>∃ b,s=.aw b) 3):=by
 refine F.ok jMd fun fE A outer s H vs Q E hr h=>?_;obtain⟨a,s,rfl,⟨b,rfl⟩,⟨dx,hx⟩,q,_⟩:=h;exists _,(d7 (gY (jCE (mU (hV (pv 0) rfl) (fun _=>rfl)) (jCJ Dau hr.m rfl) (jCJ Dah hr.m rfl))))
 exists _,rfl,a,_,dx,_,_,rfl,hx,T.ak,T.bC,rfl,b,rfl;cases b with
 | true=>exact kM fun x dx nx nd ne=>⟨x,dx,rfl,d4,rfl,q _ rfl x _ (jCV nx nd) nx ⟨dx,d4⟩⟩
 | false=>exact jJ fun x dx nx nd ne=>⟨x,dx,rfl,d4,rfl,q _ rfl x _ (jCV nx nd) nx ⟨dx,d4⟩⟩
abbrev kZ:Str:=c7 "black"
abbrev kQ:Str:=c7 "colour"
theorem blco:kZ≠kQ:=by decide +kernel
def jW(b c:Int):List (Str×Int):=[(kZ,b),(kQ,c)]
structure PD where
 dx:Addr
 cn:Addr
 rm:Addr
 tr:Addr
 tr1:Addr
 tr2:Addr
 ik:Addr
 ik1:Addr
 ik2:Addr
 st:Addr
 ins:Addr
 name:Str
 path:Int
 rs:List (Str×Int)
 am:List (Str×Int)
 rb:Int
 rc:Int
 b:Int
 c:Int
 tags:List V
 S:S3
def PD.fs(d:PD):List (Str×V):=[("name",.str d.name),("can",.ref d.cn),("path",.int d.path),("rooms",.ref d.rm),("trays",.ref d.tr),("inks",.ref d.ik),("state",.ref d.st),("inside",.ref d.ins)]
structure iA(cP cS cR cJ cA:Addr)(H:Hp)(x:Addr)(d:PD):Prop where
 o:H x=some (.ins cP d.dx d.fs)
 T:uR cS H d.tr d.tr1 d.tr2 d.rs d.am
 I:uR cS H d.ik d.ik1 d.ik2 (jW d.rb d.rc) (jW d.b d.c)
 s:vO cR cJ cA H d.st d.S
 n:H d.ins=some (.lst d.tags)
 ka:d.am.map (·.1)=d.rs.map (·.1)
 la:d.am.length<=900
 lt:d.tags.length<=900
 n22:d.tr2≠d.ik2
 n21:d.tr2≠d.ik1
 n12:d.tr1≠d.ik2
theorem iA.same(h:iA cP cS cR cJ cA H x d)(k:eC H H'):iA cP cS cR cJ cA H' x d :=
 { h with o:=k _ _ h.o,T:=h.T.same k,I:=h.I.same k,s:=h.s.same k,n:=k _ _ h.n }
def pL(c:Addr)(f:Str)(v:V)(H:Hp)(E:XK):Prop:=∀ ea H',eC H H'->XG H' ea c [(f,v)]->E (.ref c) (some ea) H'
theorem pL.after(h:pL c f v H E)(k:eC H H'):pL c f v H' E:=fun ea H2 s g=>h ea H2 (k.trans s) g
inductive jBZ(cP cS cR cJ cA:Addr)(vs:List V)(H:Hp)(Q:VK)(E_:XK):Prop|mk x d:vs=[.ref x]->iA cP cS cR cJ cA H x d->Q (.str (wd d.S)) H->jBZ cP cS cR cJ cA vs H Q E_
theorem jIq:gF ["self"] ["self"] (fY jDj):=scM
include T in
theorem jIr(F:Fun K "stands" "Printer.stands" jDj fa fd)(DaR:MtE P w K mg base 1 "called" yJ ["self"] (jED yJ yW yU))(DaS:MtE P w K mg base 1 "called" yW ["self"] (jED yJ yW yU))(DaT:MtE P w K mg base 1 "called" yU ["self"] (jED yJ yW yU)) :
 fJ P w K mg base CX0 2 fa fd ["self"] (jBZ cZ cQ yJ yW yU):=by
 refine F.ok jIq fun fE A outer s H vs Q E hr h=>?_;obtain⟨x,d,rfl,P,q⟩:=h;exists _,(d7 (gY (jR 1 nR hr.m (hV (pv 0) rfl))))
 exists _,rfl,x,cZ,d.dx,_,_,rfl,P.o,T.ad,T.aq,rfl;obtain⟨ds,hs⟩:=id P.s;have tN:=P.s;cases eS:d.S with
 | rd =>
   rw [eS] at hs tN q;exact⟨d.st,_,ds,_,_,_,rfl,hs,rfl,T.ar,DaR,d.st,.rd,rfl,tN,q⟩
 | jm =>
   rw [eS] at hs tN q;exact⟨d.st,_,ds,_,_,_,rfl,hs,rfl,T.au,DaS,d.st,.jm,rfl,tN,q⟩
 | aw b =>
   rw [eS] at hs tN q;exact⟨d.st,_,ds,_,_,_,rfl,hs,rfl,T.ak,DaT,d.st,.aw b,rfl,tN,q⟩
inductive jDo(cP cS cR cJ cA:Addr)(vs:List V)(H:Hp)(Q:VK)(E_:XK):Prop|mk x d n v:vs=[.ref x,.str n]->iA cP cS cR cJ cA H x d->d.am.lookup n=some v->Q (.int v) H->jDo cP cS cR cJ cA vs H Q E_
theorem jMf{rs am:List (Str×Int)}{n:Str}{v:Int}(e:am.map (·.1)=rs.map (·.1))(h:am.lookup n=some v):n∈rs.map (·.1):=e ▸ jDx h
theorem jGB:gF ["self","kind"] ["self","kind"] (fY jCq):=scM
include T in
theorem jGC(F:Fun K "paper_left" "Printer.paper_left" jCq fa fd)(DaU:MtE P w K mg base 4 "held" cQ ["self","name"] (jKg cQ cV)) :
 fJ P w K mg base (CXe P w) 5 fa fd ["self","kind"] (jDo cZ cQ yJ yW yU):=by
 refine F.okE jGB fun fE A outer s H vs Q E hr h=>?_;obtain⟨x,d,n,v,rfl,P,l,q⟩:=h;exists _,(d7 (gY (oM 4 jQ hr.m (hV (pv 0) rfl) (dJ (pv 1) dX))))
 exists _,rfl,x,cZ,d.dx,_,_,rfl,P.o,T.ad,T.aV,rfl;obtain⟨⟨dt,ht⟩,_⟩:=id P.T;have mem:=jMf P.ka l;exact⟨d.tr,_,dt,_,_,_,rfl,ht,rfl,T.ah,DaU,_,rfl,d.tr,d.rs,d.am,n,rfl,P.T.at,fun v' _ l'=>by rw [l] at l';obtain rfl:=Option.some.inj l';exact q,fun _=>⟨v,l⟩,fun z=>absurd mem z⟩
theorem jJm:(jW b c).lookup kZ=some b:=by
 unfold jW;rw [eX,beq_self_eq_true]
theorem jJn:(jW b c).lookup kQ=some c:=by
 unfold jW;rw [eX,beq_eq_false_iff_ne.mpr (symm blco),eX,beq_self_eq_true]
inductive jDM(cP cS cR cJ cA:Addr)(vs:List V)(H:Hp)(Q:VK)(E_:XK):Prop|mk x d:vs=[.ref x]->iA cP cS cR cJ cA H x d->(∀ l H',eC H H'->H l=none->H' l=some (.lst d.tags)->Q (.ref l) H')->jDM cP cS cR cJ cA vs H Q E_
theorem jIs:gF ["self"] ["self"] (fY jDk):=scM
include T in
theorem jIt(F:Fun K "within" "Printer.within" jDk fa fd)  :
 fJ P w K mg base CX0 1 fa fd ["self"] (jDM cZ cQ yJ yW yU):=by
 refine F.ok jIs fun fE A outer s H vs Q E hr h=>?_;obtain⟨x,d,rfl,P,q⟩:=h;exists _,(d7 (gY (uC jLK rfl T.aP jNq (dJ (hV (pv 0) rfl) dX))))
 exists _,rfl,x,cZ,d.dx,_,_,rfl,P.o,T.ad,T.al,rfl;exact⟨d.ins,_,rfl,.inl (SqL.of P.n),fun l nl=>q l _ (gM nl _) nl d4⟩
inductive jE8(cN cP cS cR cJ cA:Addr)(vs:List V)(H:Hp)(Q:VK)(E:XK):Prop|mk x d:vs=[.ref x]->iA cP cS cR cJ cA H x d->(d.S=.rd->Q .non H)->(d.S≠.rd->pL cN "found" (.str (wd d.S)) H E)->jE8 cN cP cS cR cJ cA vs H Q E
theorem wd_rd:wd s=c7 "ready" ↔ s=.rd:=by
 constructor
 ·intro h;cases s with
  | rd=>rfl
  | jm=>exact absurd h (by decide +kernel)
  | aw b=>exact absurd (show c7 "off"=c7 "ready" from h) (by decide +kernel)
 ·rintro rfl;rfl
theorem jFE:gF ["self"] ["self"] (fY jB3):=scM
include T in
theorem jFF(F:Fun K "must_be_ready" "Printer.must_be_ready" jB3 fa fd)(Dab:sN P w K mg base 1 "NotNow" cK ["self","found"] (oZ cK "found"))(Dac:MtE P w K mg base 2 "stands" cZ ["self"] (jBZ cZ cQ yJ yW yU)) :
 fJ P w K mg base (CXe P w) 3 fa fd ["self"] (jE8 cK cZ cQ yJ yW yU):=by
 refine F.okE jFE fun fE A outer s H vs Q E hr h=>?_;obtain⟨x,d,rfl,P,q,q2⟩:=h;exists _,(d7 (jC (tcA jEr (jR 2 jQ hr.m (pv 0)) (uT T.be rfl)) (d7 (uD uA rfl (uB Dab hr.m rfl (dJ (jR 2 jQ hr.m (pv 0)) dX)))) jK))
 exists _,rfl,x,_,d.dx,_,_,_,rfl,P.o,rfl,T.ad,Dac,x,d,rfl,P,rfl,_,rfl;by_cases h:d.S=.rd
 ·exact iteNS (by rw [h];rfl) (q h)
 ·refine iteNN (fun z=>h (wd_rd.mp (by injection z))) ?_;exact⟨_,rfl,x,_,d.dx,_,_,_,rfl,P.o,rfl,T.ad,Dac,x,d,rfl,P,rC T.aj.m fun ea H' sm _ g=>q2 h ea H' sm g⟩
theorem jIB(h:rs.lookup n=some v):sQ rs [(n,k)]=none:=by
 unfold sQ;rw [find?_cons,show ((rs.lookup (n,k).1).isNone)=false from by rw [show (n,k).1=n from rfl,h];rfl];rfl
theorem jPz(h:rs.lookup n=some v)(h':am.lookup n=some u):vW rs am [(n,k)]=if v<u+k then some n else none:=by
 unfold vW;rw [find?_cons,show (rs.lookup (n,k).1).getD 0=v from by rw [show (n,k).1=n from rfl,h];rfl,show (am.lookup (n,k).1).getD 0=u from by rw [show (n,k).1=n from rfl,h'];rfl];by_cases c:v<u+k
 ·rw [if_pos c,decide_eq_true (show v<u+(n,k).2 from c)];rfl
 ·rw [if_neg c,decide_eq_false (show ¬ v<u+(n,k).2 from c)];rfl
theorem few_one(h':am.lookup n=some u):t7 am [(n,k)]=if u<k then some n else none:=by
 unfold t7;rw [find?_cons,show (am.lookup (n,k).1).getD 0=u from by rw [show (n,k).1=n from rfl,h'];rfl];by_cases c:u<k
 ·rw [if_pos c,decide_eq_true (show u<(n,k).2 from c)];rfl
 ·rw [if_neg c,decide_eq_false (show ¬ u<(n,k).2 from c)];rfl
theorem jNv(h:am.lookup n=some u):sO s am [(n,k)]=lS am n (u+s*k):=by
 show lS am n ((am.lookup n).getD 0+s*k)=_;rw [h];rfl
theorem jIC:sQ (jW a b) (jW x y)=none:=by
 unfold sQ;rw [show jW x y=[(kZ,x),(kQ,y)] from rfl,find?_cons,show ((jW a b).lookup (kZ,x).1).isNone=false from by rw [show (kZ,x).1=kZ from rfl,jJm];rfl];show (find? _ [(kQ,y)]).map _=none;rw [find?_cons,show ((jW a b).lookup (kQ,y).1).isNone=false from by rw [show (kQ,y).1=kQ from rfl,jJn];rfl];rfl
theorem jPA(h1:a+x<=rb)(h2:b+y<=rc):vW (jW rb rc) (jW a b) (jW x y)=none:=by
 unfold vW;rw [show jW x y=[(kZ,x),(kQ,y)] from rfl,find?_cons,show ((jW rb rc).lookup (kZ,x).1).getD 0=rb from by rw [show (kZ,x).1=kZ from rfl,jJm];rfl,show ((jW a b).lookup (kZ,x).1).getD 0=a from by rw [show (kZ,x).1=kZ from rfl,jJm];rfl,decide_eq_false (show ¬ rb<a+(kZ,x).2 from Int.not_lt.mpr h1)];show (find? _ [(kQ,y)]).map _=none;rw [find?_cons,show ((jW rb rc).lookup (kQ,y).1).getD 0=rc from by rw [show (kQ,y).1=kQ from rfl,jJn];rfl,show ((jW a b).lookup (kQ,y).1).getD 0=b from by rw [show (kQ,y).1=kQ from rfl,jJn];rfl,decide_eq_false (show ¬ rc<b+(kQ,y).2 from Int.not_lt.mpr h2)];rfl
theorem ink_few(h1:x<=a)(h2:y<=b):t7 (jW a b) (jW x y)=none:=by
 unfold t7;rw [show jW x y=[(kZ,x),(kQ,y)] from rfl,find?_cons,show ((jW a b).lookup (kZ,x).1).getD 0=a from by rw [show (kZ,x).1=kZ from rfl,jJm];rfl,decide_eq_false (show ¬ a<(kZ,x).2 from Int.not_lt.mpr h1)];show (find? _ [(kQ,y)]).map _=none;rw [find?_cons,show ((jW a b).lookup (kQ,y).1).getD 0=b from by rw [show (kQ,y).1=kQ from rfl,jJn];rfl,decide_eq_false (show ¬ b<(kQ,y).2 from Int.not_lt.mpr h2)];rfl
theorem set_b:lS (jW a b) kZ v=jW v b:=by
 unfold lS jW;rw [dQ,dQ,if_pos rfl,if_neg (symm blco)];rfl
theorem set_c:lS (jW a b) kQ v=jW a v:=by
 unfold lS jW;rw [dQ,dQ,if_neg blco,if_pos rfl];rfl
theorem jNw:sO s (jW a b) (jW x y)=jW (a+s*x) (b+s*y):=by
 show lS (lS (jW a b) kZ (((jW a b).lookup kZ).getD 0+s*x)) kQ (((lS (jW a b) kZ (((jW a b).lookup kZ).getD 0+s*x)).lookup kQ).getD 0+s*y)=_;rw [jJm];show lS (lS (jW a b) kZ (a+s*x)) kQ (((lS (jW a b) kZ (a+s*x)).lookup kQ).getD 0+s*y)=_;rw [set_b,jJn];exact set_c
theorem iA.trays(h:iA cP cS cR cJ cA H x d)(kp:∀ b o,b≠d.tr2->H b=some o->H' b=some o)(S:uR cS H' d.tr d.tr1 d.tr2 d.rs am')(k:am'.map (·.1)=d.rs.map (·.1))(l:am'.length<=900):iA cP cS cR cJ cA H' x { d with am:=am' }:=by
 obtain⟨⟨di,hi⟩,h1,h2,n⟩:=id h.I;have hm:=h.T.2.2.1;have off:∀ b o,H b=some o->(∀ kv,o≠.dK kv)->H' b=some o:=fun b o e n=>kp b o (fun z=>by rw [z,hm] at e;injection e with e;exact n _ e.symm) e;exact { o:=off _ _ h.o (by intro kv z;cases z),T:=S,I:=⟨⟨di,off _ _ hi (by intro kv z;cases z)⟩,kp _ _ (symm h.n21) h1,kp _ _ (symm h.n22) h2,n⟩,s:=let ⟨ds,e⟩:=h.s;⟨ds,off _ _ e (by intro kv z;cases z)⟩,n:=off _ _ h.n (by intro kv z;cases z),ka:=k,la:=l,lt:=h.lt,n22:=h.n22,n21:=h.n21,n12:=h.n12 }
theorem iA.inks(h:iA cP cS cR cJ cA H x d)(kp:∀ b o,b≠d.ik2->H b=some o->H' b=some o)(S:uR cS H' d.ik d.ik1 d.ik2 (jW d.rb d.rc) (jW b' c')):iA cP cS cR cJ cA H' x { d with b:=b',c:=c' }:=by
 obtain⟨⟨di,hi⟩,h1,h2,n⟩:=id h.T;have hm:=h.I.2.2.1;have off:∀ b o,H b=some o->(∀ kv,o≠.dK kv)->H' b=some o:=fun b o e n=>kp b o (fun z=>by rw [z,hm] at e;injection e with e;exact n _ e.symm) e;exact { o:=off _ _ h.o (by intro kv z;cases z),T:=⟨⟨di,off _ _ hi (by intro kv z;cases z)⟩,kp _ _ h.n12 h1,kp _ _ h.n22 h2,n⟩,I:=S,s:=let ⟨ds,e⟩:=h.s;⟨ds,off _ _ e (by intro kv z;cases z)⟩,n:=off _ _ h.n (by intro kv z;cases z),ka:=h.ka,la:=h.la,lt:=h.lt,n22:=h.n22,n21:=h.n21,n12:=h.n12 }
theorem iA.inside(h:iA cP cS cR cJ cA H x d)(kp:∀ b o,b≠d.ins->H b=some o->H' b=some o)(hn:H' d.ins=some (.lst ts))(l:ts.length<=900):iA cP cS cR cJ cA H' x { d with tags:=ts }:=by
 have off:∀ b o,H b=some o->(∀ xs,o≠.lst xs)->H' b=some o:=fun b o e n=>kp b o (fun z=>by rw [z,h.n] at e;injection e with e;exact n _ e.symm) e;obtain⟨⟨di,hi⟩,h1,h2,n⟩:=id h.T;obtain⟨⟨di',hi'⟩,h1',h2',n'⟩:=id h.I;exact { o:=off _ _ h.o (by intro kv z;cases z),T:=⟨⟨di,off _ _ hi (by intro kv z;cases z)⟩,off _ _ h1 (by intro kv z;cases z),off _ _ h2 (by intro kv z;cases z),n⟩,I:=⟨⟨di',off _ _ hi' (by intro kv z;cases z)⟩,off _ _ h1' (by intro kv z;cases z),off _ _ h2' (by intro kv z;cases z),n'⟩,s:=let ⟨ds,e⟩:=h.s;⟨ds,off _ _ e (by intro kv z;cases z)⟩,n:=hn,ka:=h.ka,la:=h.la,lt:=l,n22:=h.n22,n21:=h.n21,n12:=h.n12 }
inductive jG_(cP cS cR cJ cA:Addr)(vs:List V)(H:Hp)(Q:VK)(E_:XK):Prop|mk x d n k R A:vs=[.ref x,.str n,.int k]->iA cP cS cR cJ cA H x d->d.rs.lookup n=some R->d.am.lookup n=some A->A+k<=R->(∀ H',(∀ b o,b≠d.tr2->H b=some o->H' b=some o)->iA cP cS cR cJ cA H' x { d with am:=lS d.am n (A+k) }->Q .non H')->jG_ cP cS cR cJ cA vs H Q E_
theorem jJo:gF ["self","kind","many"] ["self","kind","many"] (fY jEb):=scM
include T in
theorem jJp(F:Fun K "load" "Printer.load" jEb fa fd)(DaV:MtE P w K mg base 6 "put" cQ ["self","name","many"] (jL6 cQ cV cG)) :
 fJ P w K mg base (CXe P w) 7 fa fd ["self","kind","many"] (jG_ cZ cQ yJ yW yU):=by
 refine F.okE jJo fun fE A outer s H vs Q E hr h=>?_;obtain⟨x,d,n,k,R,A,rfl,P,lr,la,le,q⟩:=h;exists _,(d7 (kE (oM 6 jQ hr.m (hV (pv 0) rfl) (dJ (pv 1) (dJ (pv 2) dX)))))
 obtain⟨⟨dt,ht⟩,_⟩:=id P.T;exists _,rfl,x,cZ,d.dx,_,_,rfl,P.o,T.ad,T.aV,rfl;refine⟨d.tr,_,dt,_,_,_,rfl,ht,rfl,T.ah,DaV,_,rfl,_,rfl,d.tr,d.tr1,d.tr2,d.rs,d.am,n,k,rfl,P.T,P.ka,by have:=P.la;omega,fun n' h ea H1 sm g=>?_,fun n' h h2 ea H1 sm g=>?_,fun h h2 H1 kp S1=>?_⟩
 ·rw [jIB lr] at h;cases h
 ·rw [jPz lr la,if_neg (by omega)] at h2;cases h2
 ·rw [jNv la,rO] at S1;exact q H1 kp (P.trays kp S1 (by rw [jHU];exact P.ka) (by unfold lS;rw [c6];exact P.la))
inductive jHa(cP cS cR cJ cA:Addr)(vs:List V)(H:Hp)(Q:VK)(E_:XK):Prop|mk x d y z:vs=[.ref x,.int y,.int z]->iA cP cS cR cJ cA H x d->d.b+y<=d.rb->d.c+z<=d.rc->(∀ H',(∀ b o,b≠d.ik2->H b=some o->H' b=some o)->iA cP cS cR cJ cA H' x { d with b:=d.b+y,c:=d.c+z }->Q .non H')->jHa cP cS cR cJ cA vs H Q E_
theorem jK2(hl:H l=some (.lst [.ref t1,.ref t2]))(h1:H t1=some (.tup [.str kZ,.int y]))(h2:H t2=some (.tup [.str kQ,.int z])):jIh H l (jW y z):=by
 refine⟨_,hl,rfl,fun i v g e1 e2=>?_⟩
 match i,e1,e2 with
 | 0,e1,e2 =>
   obtain rfl:=Option.some.inj e1;obtain rfl:=Option.some.inj e2;exact⟨t1,rfl,h1⟩
 | 1,e1,e2 =>
   obtain rfl:=Option.some.inj e1;obtain rfl:=Option.some.inj e2;exact⟨t2,rfl,h2⟩
theorem jJq:gF ["self","black","coloured"] ["self","black","coloured"] (fY jEc):=scM
include T in
theorem jJr(F:Fun K "fill" "Printer.fill" jEc fa fd)(Dat:MtE P w K mg base 5 "put_all" cQ ["self","gifts"] (jHV cQ cV cG 1 vW)) :
 fJ P w K mg base (CXe P w) 6 fa fd ["self","black","coloured"] (jHa cZ cQ yJ yW yU):=by
 refine F.okE jJq fun fE A outer s H vs Q E hr h=>?_;obtain⟨x,d,y,z,rfl,P,l1,l2,q⟩:=h;have z2:2<=c9:=small (by decide);exists _,(d7 (kE (oM 5 jQ hr.m (hV (pv 0) rfl) (dJ (lQ (dJ (mT (dJ (uT T.bf rfl) (dJ (pv 1) dX))) (dJ (mT (dJ (uT T.bg rfl) (dJ (pv 2) dX))) dX))) dX))))
 obtain⟨⟨dt,ht⟩,_⟩:=id P.I;exists _,rfl,x,cZ,d.dx,_,_,rfl,P.o,T.ad,T.bA,rfl;refine⟨d.ik,_,dt,_,_,_,rfl,ht,rfl,T.ah,Dat,_,rfl,z2,fun t1 nt1=>?_⟩;have s1:=gM nt1 (.tup [.str kZ,.int y]);have h1:upd H t1 (.tup [.str kZ,.int y]) t1=some (.tup [.str kZ,.int y]):=d4;generalize upd H t1 (.tup [.str kZ,.int y])=H1 at s1 h1 ⊢;refine⟨_,rfl,z2,fun t2 nt2=>?_⟩;have s2:=gM nt2 (.tup [.str kQ,.int z]);have h2:upd H1 t2 (.tup [.str kQ,.int z]) t2=some (.tup [.str kQ,.int z]):=d4;generalize upd H1 t2 (.tup [.str kQ,.int z])=H2 at s2 h2 ⊢;refine⟨z2,fun l nl=>?_⟩;have s3:=gM nl (.lst [.ref t1,.ref t2]);have hl:upd H2 l (.lst [.ref t1,.ref t2]) l=some (.lst [.ref t1,.ref t2]):=d4;generalize upd H2 l (.lst [.ref t1,.ref t2])=H3 at s3 hl ⊢;have s03:=(s1.trans s2).trans s3;have P3:=P.same s03;refine⟨d.ik,d.ik1,d.ik2,l,_,_,jW y z,rfl,P3.I,rfl,by show 2<=1000;decide,eW hl P3.I.2.2.1 nofun,jK2 hl ((s2.trans s3) _ _ h1) (s3 _ _ h2),fun n h=>?_,fun n h h2=>?_,fun h h2 H4 kp S4=>?_⟩
 ·rw [jIC] at h;cases h
 ·rw [jPA l1 l2] at h2;cases h2
 ·rw [jNw,rO,rO] at S4;exact q H4 (fun b o nb e=>kp b o nb (s03 _ _ e)) (P3.inks kp S4)
inductive jDN(cP cS cR cJ cA:Addr)(vs:List V)(H:Hp)(Q:VK)(E_:XK):Prop|mk x d:vs=[.ref x]->iA cP cS cR cJ cA H x d->(∀ l H',(∀ b o,b≠d.ins->H b=some o->H' b=some o)->H l=none->H' l=some (.lst (d.tags.take 1))->iA cP cS cR cJ cA H' x { d with tags:=d.tags.drop 1 }->Q (.ref l) H')->jDN cP cS cR cJ cA vs H Q E_
theorem jIu:gF ["self"] ["self"] (fY jDl):=scM
include T in
theorem jIv(F:Fun K "oldest" "Printer.oldest" jDl fa fd)  :
 fJ P w K mg base CX0 1 fa fd ["self"] (jDN cZ cQ yJ yW yU):=by
 refine F.ok jIu fun fE A outer s H vs Q E hr h=>?_;obtain⟨x,d,rfl,P,q⟩:=h;have z1:1<=c9:=small (by decide);exists _,(d7 (gY (jCE (mU (hV (pv 0) rfl) (fun _=>rfl)) (lQ (dJ (vR eD PySem.F.slot_list_pop PySem.F.type_list_pop jPb (hV (pv 0) rfl) (dJ eO dX)) dX)) (lQ dX))))
 exists _,rfl,x,cZ,d.dx,_,_,rfl,P.o,T.ad,T.al,rfl;cases et:d.tags with
 | nil =>
   refine⟨false,.inl ⟨_,SqL.of P.n,by rw [et];rfl⟩,jJ ⟨d5 _,fun l nl=>?_⟩⟩;have s:=gM nl (.lst []);refine q l _ (fun b o _ e=>s _ _ e) nl (by rw [d4,et];rfl) ?_;have P':=P.same s;have e:({ d with tags:=d.tags.drop 1 }:PD)=d:=by
    rw [et];show ({ d with tags:=[] }:PD)=d;rw [<- et]
   rw [e];exact P'
 | cons t r =>
   refine⟨true,.inl ⟨_,SqL.of P.n,by rw [et];rfl⟩,kM ?_⟩;refine⟨_,rfl,x,cZ,d.dx,_,_,rfl,P.o,T.ad,T.al,rfl,.inl ⟨rfl,_,SqL.of P.n⟩,d.ins,_,0,0,t,rfl,rfl,P.n,by decide,by decide,?_,by rw [et];rfl,z1,fun l nl=>?_⟩
   ·rw [et];exact sJ (by decide) (by show (0:Int)<((r.length+1:Nat):Int);omega)
   have kp:∀ b o,b≠d.ins->H b=some o->upd H d.ins (.lst (d.tags.eraseIdx 0)) b=some o:=fun b o nb e=>by rw [dW nb];exact e
   have hi:upd H d.ins (.lst (d.tags.eraseIdx 0)) d.ins=some (.lst r):=by rw [d4,et];rfl
   have nl0:H l=none:=by
    have ne:l≠d.ins:=fun z=>by rw [z,hi] at nl;cases nl
    rw [dW ne] at nl;exact nl
   generalize upd H d.ins (.lst (d.tags.eraseIdx 0))=H1 at kp hi nl ⊢;have s:=gM nl (.lst [t]);have P1:=(P.inside kp hi (by have:=P.lt;rw [et] at this;exact Nat.le_of_succ_le this)).same s;refine q l _ (fun b o nb e=>s _ _ (kp b o nb e)) nl0 (by rw [d4,et];rfl) ?_;rw [et];exact P1
inductive jE9(cN cP cS cR cJ cA:Addr)(vs:List V)(H:Hp)(Q:VK)(E:XK):Prop|mk x d:vs=[.ref x]->iA cP cS cR cJ cA H x d->(d.S=.rd->∀ l H',(∀ b o,b≠d.ins->H b=some o->H' b=some o)->H l=none->H' l=some (.lst (d.tags.take 1))->iA cP cS cR cJ cA H' x { d with tags:=d.tags.drop 1 }->Q (.ref l) H')->(d.S≠.rd->pL cN "found" (.str (wd d.S)) H E)->jE9 cN cP cS cR cJ cA vs H Q E
theorem jJs:gF ["self"] ["self"] (fY jEe):=scM
include T in
theorem jJt(F:Fun K "push" "Printer.push" jEe fa fd)(Daw:MtE P w K mg base 3 "must_be_ready" cZ ["self"] (jE8 cK cZ cQ yJ yW yU))(Dax:MtE P w K mg base 1 "oldest" cZ ["self"] (jDN cZ cQ yJ yW yU)) :
 fJ P w K mg base (CXe P w) 4 fa fd ["self"] (jE9 cK cZ cQ yJ yW yU):=by
 refine F.okE jJs fun fE A outer s H vs Q E hr h=>?_;obtain⟨x,d,rfl,P,q,q2⟩:=h;exists _,(d9 (kE (jR 3 jQ hr.m (pv 0))) (d7 (gY (jR 1 jQ hr.m (pv 0)))))
 refine⟨_,rfl,x,_,d.dx,_,_,_,rfl,P.o,rfl,T.ad,Daw,x,d,rfl,P,fun rd=>?_,q2⟩;exact⟨_,rfl,x,_,d.dx,_,_,_,rfl,P.o,rfl,T.ad,Dax,x,d,rfl,P,q rd⟩
def xQ(d:PD)(n:Str)(A y z:Int)(qM:V):PD:={ d with am:=lS d.am n (A-1),b:=d.b-y,c:=d.c-z,tags:=d.tags++[qM] }
inductive jHb(cN cP cS cR cJ cA:Addr)(vs:List V)(H:Hp)(Q:VK)(E:XK):Prop|mk x d qM n y z A:vs=[.ref x,qM,.str n,.int y,.int z]->iA cP cS cR cJ cA H x d->(d.S≠.rd->pL cN "found" (.str (wd d.S)) H E)->d.am.lookup n=some A->1<=A->y<=d.b->z<=d.c->d.tags.length<=800->(d.S=.rd->∀ l H',(∀ b o,b≠d.ins->b≠d.tr2->b≠d.ik2->H b=some o->H' b=some o)->H l=none->H' l=some (.lst (if d.path<((d.tags.length+1:Nat):Int) then (d.tags++[qM]).take 1 else []))->iA cP cS cR cJ cA H' x { xQ d n A y z qM with tags:=if d.path<((d.tags.length+1:Nat):Int) then (d.tags++[qM]).drop 1 else d.tags++[qM] }->Q (.ref l) H')->jHb cN cP cS cR cJ cA vs H Q E
theorem jJu:gF ["self","tag","kind","black","coloured"] ["self","tag","kind","black","coloured"] (fY jEd):=scM
include T in
theorem jJv(F:Fun K "feed" "Printer.feed" jEd fa fd)(Das:sN P w K mg base 1 "Dry" vQ ["self","name"] (oZ vQ "name"))(Daw:MtE P w K mg base 3 "must_be_ready" cZ ["self"] (jE8 cK cZ cQ yJ yW yU))(DaW:MtE P w K mg base 5 "paper_left" cZ ["self","kind"] (jDo cZ cQ yJ yW yU))(DaK:MtE P w K mg base 5 "draw_all" cQ ["self","wants"] (jHV cQ cV vQ (-1) (fun _ am ws=>t7 am ws)))(Dax:MtE P w K mg base 1 "oldest" cZ ["self"] (jDN cZ cQ yJ yW yU)) :
 fJ P w K mg base (CXe P w) 6 fa fd ["self","tag","kind","black","coloured"] (jHb cK cZ cQ yJ yW yU):=by
 refine F.okE jJu fun fE A outer s H vs Q E hr h=>?_;obtain⟨x,d,qM,n,y,z,A,rfl,P,qn,la,A1,yb,zc,lt,q⟩:=h;have z1:1<=c9:=small (by decide);have z2:2<=c9:=small (by decide);exists _,(d9 (kE (jR 3 jQ hr.m (pv 0))) (d9 (jC (tcA jFN (oM 5 jQ hr.m (pv 0) (dJ (pv 2) dX)) eO) (d7 (uD uA rfl (uB Das hr.m rfl (dJ (pv 2) dX)))) jK) (d9 (kE (oM 5 jQ hr.m (hV (pv 0) rfl) (dJ (lQ (dJ (mT (dJ (uT T.bf rfl) (dJ (pv 3) dX))) (dJ (mT (dJ (uT T.bg rfl) (dJ (pv 4) dX))) dX))) dX))) (d9 (kE (oM 5 jQ hr.m (hV (pv 0) rfl) (dJ (lQ (dJ (mT (dJ (pv 2) (dJ eO dX))) dX)) dX))) (d9 (kE (vR eD PySem.F.slot_list_append PySem.F.type_list_append jCm (hV (pv 0) rfl) (dJ (pv 1) dX))) (d7 (gY (jCE (tcA jH6 (rV jBr rfl T.ao iT (dJ (hV (pv 0) rfl) dX)) (hV (pv 0) rfl)) (jR 1 jQ hr.m (pv 0)) (lQ dX)))))))))
 refine⟨_,rfl,x,_,d.dx,_,_,_,rfl,P.o,rfl,T.ad,Daw,x,d,rfl,P,fun rd=>?_,qn⟩;replace q:=q rd;exists _,rfl,x,_,d.dx,_,_,_,rfl,P.o,rfl,T.ad,DaW,_,rfl,x,d,n,A,rfl,P,la;refine⟨_,_,rfl,rfl,_,rfl,jE5 (by omega) ?_⟩;obtain⟨⟨di,hi⟩,_⟩:=id P.I;exists _,rfl,x,cZ,d.dx,_,_,rfl,P.o,T.ad,T.bA,rfl;refine⟨d.ik,_,di,_,_,_,rfl,hi,rfl,T.ah,DaK,_,rfl,z2,fun t1 nt1=>?_⟩;have s1:=gM nt1 (.tup [.str kZ,.int y]);have h1:upd H t1 (.tup [.str kZ,.int y]) t1=some (.tup [.str kZ,.int y]):=d4;generalize upd H t1 (.tup [.str kZ,.int y])=H1 at s1 h1 ⊢;refine⟨_,rfl,z2,fun t2 nt2=>?_⟩;have s2:=gM nt2 (.tup [.str kQ,.int z]);have h2:upd H1 t2 (.tup [.str kQ,.int z]) t2=some (.tup [.str kQ,.int z]):=d4;generalize upd H1 t2 (.tup [.str kQ,.int z])=H2 at s2 h2 ⊢;refine⟨z2,fun l nl=>?_⟩;have s3:=gM nl (.lst [.ref t1,.ref t2]);have hl:upd H2 l (.lst [.ref t1,.ref t2]) l=some (.lst [.ref t1,.ref t2]):=d4;generalize upd H2 l (.lst [.ref t1,.ref t2])=H3 at s3 hl ⊢;have s03:=(s1.trans s2).trans s3;have P3:=P.same s03;refine⟨d.ik,d.ik1,d.ik2,l,_,_,jW y z,rfl,P3.I,rfl,by show 2<=1000;decide,eW hl P3.I.2.2.1 nofun,jK2 hl ((s2.trans s3) _ _ h1) (s3 _ _ h2),fun n h=>?_,fun n h h2=>?_,fun h h2 H4 kp4 S4=>?_⟩
 ·rw [jIC] at h;cases h
 ·rw [show (fun _ am ws=>t7 am ws) (jW d.rb d.rc) (jW d.b d.c) (jW y z)=t7 (jW d.b d.c) (jW y z) from rfl,ink_few yb zc] at h2;cases h2
 rw [jNw,show d.b + -1*y=d.b-y by omega,show d.c + -1*z=d.c-z by omega] at S4;have P4:=P3.inks kp4 S4;obtain⟨⟨dt,ht4⟩,_⟩:=id P4.T;exists _,rfl,x,cZ,d.dx,_,_,rfl,P4.o,T.ad,T.aV,rfl;refine⟨d.tr,_,dt,_,_,_,rfl,ht4,rfl,T.ah,DaK,_,rfl,z2,fun t3 nt3=>?_⟩;have s5:=gM nt3 (.tup [.str n,.int 1]);have h5:upd H4 t3 (.tup [.str n,.int 1]) t3=some (.tup [.str n,.int 1]):=d4;generalize upd H4 t3 (.tup [.str n,.int 1])=H5 at s5 h5 ⊢;refine⟨z1,fun l2 nl2=>?_⟩;have s6:=gM nl2 (.lst [.ref t3]);have xJ:upd H5 l2 (.lst [.ref t3]) l2=some (.lst [.ref t3]):=d4;generalize upd H5 l2 (.lst [.ref t3])=H6 at s6 xJ ⊢;have P6:=P4.same (s5.trans s6);have hm6:H6 d.tr2=some (.dK (dI d.am)):=P6.T.2.2.1;have G6:jIh H6 l2 [(n,1)]:=by
  refine⟨_,xJ,rfl,fun i v g e1 e2=>?_⟩
  match i,e1,e2 with
  | 0,e1,e2 =>
    obtain rfl:=Option.some.inj e1;obtain rfl:=Option.some.inj e2;exact⟨t3,rfl,s6 _ _ h5⟩
 refine⟨d.tr,d.tr1,d.tr2,l2,d.rs,d.am,[(n,1)],rfl,P6.T,P.ka,by have:=P.la;omega,eW xJ hm6 nofun,G6,fun n' h=>?_,fun n' h h2=>?_,fun h h2 H7 kp7 S7=>?_⟩
 ·obtain⟨R,eR⟩:∃ R,d.rs.lookup n=some R:=by
   cases l:d.rs.lookup n with
   | some v=>exact⟨v,rfl⟩
   | none=>exact absurd (jMf P.ka la) (jFS l)
  rw [jIB eR] at h;cases h
 ·rw [show (fun _ am ws=>t7 am ws) d.rs d.am [(n,1)]=t7 d.am [(n,1)] from rfl,few_one la,if_neg (by omega)] at h2;cases h2
 rw [jNv la,show A + -1*1=A-1 by omega] at S7;have P7:iA cZ cQ yJ yW yU H7 x { d with am:=lS d.am n (A-1),b:=d.b-y,c:=d.c-z }:=P6.trays kp7 S7 (by rw [jHU];exact P.ka) (by unfold lS;rw [c6];exact P.la);have hi7:H7 d.ins=some (.lst d.tags):=P7.n;refine⟨_,rfl,x,cZ,d.dx,_,_,rfl,P7.o,T.ad,T.al,rfl,.inl ⟨rfl,_,SqL.of hi7⟩,_,rfl,d.ins,_,_,rfl,rfl,hi7,oN (by show d.tags.length<=1000;omega),?_⟩;have kp8:∀ b o,b≠d.ins->H7 b=some o->upd H7 d.ins (.lst (d.tags++[qM])) b=some o:=fun b o nb e=>by rw [dW nb];exact e
 have hi8:upd H7 d.ins (.lst (d.tags++[qM])) d.ins=some (.lst (d.tags++[qM])):=d4;generalize upd H7 d.ins (.lst (d.tags++[qM]))=H8 at kp8 hi8 ⊢;have P8:iA cZ cQ yJ yW yU H8 x (xQ d n A y z qM):=P7.inside kp8 hi8 (by rw [dH];show d.tags.length+1<=900;omega);have fr:∀ b o,b≠d.ins->b≠d.tr2->b≠d.ik2->H b=some o->H8 b=some o:=fun b o b1 b2 b3 e=>kp8 b o b1 (kp7 b o b2 ((s5.trans s6) b o (kp4 b o b3 (s03 b o e))));have ll:(d.tags++[qM]).length=d.tags.length+1:=by rw [dH];rfl
 exists _,rfl,x,cZ,d.dx,_,_,rfl,P8.o,T.ad,T.al,rfl,d.ins,_,rfl,.inl (SqL.of hi8),_,rfl,x,cZ,d.dx,_,_,rfl,P8.o,T.ad,T.bI,rfl,_,_,rfl,rfl,_,rfl;have back:∀ l,H8 l=none->H l=none:=fun l nl=>by
  cases e:H l with
  | none=>rfl
  | some o =>
    by_cases c1:l=d.ins
    ·rw [c1,hi8] at nl;cases nl
    by_cases c2:l=d.tr2
    ·rw [c2,show H8 d.tr2=_ from P8.T.2.2.1] at nl;cases nl
    by_cases c3:l=d.ik2
    ·rw [c3,show H8 d.ik2=_ from P8.I.2.2.1] at nl;cases nl
    rw [fr l o c1 c2 c3 e] at nl;cases nl
 refine oK (fun c=>?_) (fun c=>?_)
 ·have c':d.path<((d.tags.length+1:Nat):Int):=by
   have:=of_decide_eq_true c;rwa [ll] at this
  rw [if_pos c',if_pos c'] at q;exact⟨_,rfl,x,_,d.dx,_,_,_,rfl,P8.o,rfl,T.ad,Dax,x,xQ d n A y z qM,rfl,P8,fun l H9 kp9 nl hl9 P9=>q l H9 (fun b o b1 b2 b3 e=>kp9 b o b1 (fr b o b1 b2 b3 e)) (back l nl) hl9 P9⟩
 ·have c':¬ d.path<((d.tags.length+1:Nat):Int):=fun z=>c (decide_eq_true (by rw [ll];exact z));rw [if_neg c',if_neg c'] at q;refine⟨d5 _,fun l nl=>?_⟩;have s9:=gM nl (.lst []);exact q l _ (fun b o b1 b2 b3 e=>s9 _ _ (fr b o b1 b2 b3 e)) (back l nl) d4 (P8.same s9)
abbrev wiW:Str:=c7 "within"
theorem jFU{d:PD}{st:Addr}:mH "state" (.ref st) d.fs=({ d with st:=st }:PD).fs:=by
 unfold PD.fs
 repeat (rw [show ∀ (g:Str) (u v:V) (r:List (Str×V)),mH "state" v ((g,u)::r)=if g="state" then (g,v)::r else (g,u)::mH "state" v r from fun _ _ _ _=>rfl];first|rw [if_pos rfl]|rw [if_neg (by decide +kernel)])
theorem jJw{d:PD}{il:Addr}:mH "inside" (.ref il) d.fs=({ d with ins:=il }:PD).fs:=by
 unfold PD.fs
 repeat (rw [show ∀ (g:Str) (u v:V) (r:List (Str×V)),mH "inside" v ((g,u)::r)=if g="inside" then (g,v)::r else (g,u)::mH "inside" v r from fun _ _ _ _=>rfl];first|rw [if_pos rfl]|rw [if_neg (by decide +kernel)])
theorem iA.turned(h:iA cP cS cR cJ cA H x d)(kp:∀ b o,b≠x->H b=some o->H' b=some o)(ho:H' x=some (.ins cP d.dx ({ d with st:=st,ins:=il }:PD).fs))(hs:vO cR cJ cA H' st S)(hn:H' il=some (.lst ts))(l:ts.length<=900):iA cP cS cR cJ cA H' x { d with st:=st,S:=S,ins:=il,tags:=ts }:=by
 obtain⟨⟨di,hi⟩,h1,h2,n⟩:=id h.T;obtain⟨⟨di',hi'⟩,h1',h2',n'⟩:=id h.I;have off:∀ b o,H b=some o->o≠.ins cP d.dx d.fs->H' b=some o:=fun b o e n=>kp b o (eW e h.o n) e;have two:∀ (c e:Addr) (u v:Str×V),HO.ins c e [u,v]≠.ins cP d.dx d.fs:=fun c e u v z=>by
  injection z with _ _ z;have:=congrArg List.length z;rw [show d.fs.length=8 from rfl] at this;exact absurd (show 2=8 from this) (by decide)
 exact { o:=ho,T:=⟨⟨di,off _ _ hi (two _ _ _ _)⟩,off _ _ h1 nofun,off _ _ h2 nofun,n⟩,I:=⟨⟨di',off _ _ hi' (two _ _ _ _)⟩,off _ _ h1' nofun,off _ _ h2' nofun,n'⟩,s:=hs,n:=hn,ka:=h.ka,la:=h.la,lt:=l,n22:=h.n22,n21:=h.n21,n12:=h.n12 }
theorem jIi(D1:MtE P w K mg base k1 m cR ["self"] (oI cR cJ cA cN S1 i))(D2:MtE P w K mg base k2 m cJ ["self"] (oI cR cJ cA cN S2 i))(D3:MtE P w K mg base k3 m cA ["self"] (oI cR cJ cA cN S3' i)) 
 (l1:k1<=k) (l2:k2<=k) (l3:k3<=k) (h1:S1 .rd) (h2:S2 .jm) (h3:∀ b,S3' (.aw b)) (c1:Cls K cR) (c2:Cls K cJ) (c3:Cls K cA) (hm:∀ s,(tG s).lookup m=none) (hs:vO cR cJ cA H a s) (q:OutS cR cJ cA cN i s H Q E) :
 jIb P w K mg base k m (fun _=>E) jGP σ Q (.ref a) H:=by
 obtain⟨ds,e⟩:=id hs;cases s with
 | rd=>exact⟨a,_,ds,_,_,_,rfl,e,hm _,c1,D1.mono l1,a,.rd,rfl,h1,hs,q⟩
 | jm=>exact⟨a,_,ds,_,_,_,rfl,e,hm _,c2,D2.mono l2,a,.jm,rfl,h2,hs,q⟩
 | aw b=>exact⟨a,_,ds,_,_,_,rfl,e,hm _,c3,D3.mono l3,a,.aw b,rfl,h3 b,hs,q⟩
theorem jJx{cP cR cJ cA:Addr}{H:Hp}{x a:Addr}{s:S3}{d:PD}(h:vO cR cJ cA H a s)(hx:H x=some (.ins cP d.dx d.fs)):a≠x:=by
 obtain⟨ds,e⟩:=h;refine eW e hx fun z=>?_;injection z with _ _ z;have:=congrArg List.length z;rw [show d.fs.length=8 from rfl] at this;cases s with
 | rd=>exact absurd (show 1=8 from this) (by decide)
 | jm=>exact absurd (show 1=8 from this) (by decide)
 | aw b=>exact absurd (show 2=8 from this) (by decide)
inductive jCW(i:Nat)(cN cP cS cR cJ cA:Addr)(vs:List V)(H:Hp)(Q:VK)(E:XK):Prop|mk x d:vs=[.ref x]->iA cP cS cR cJ cA H x d->(∀ s',lN i d.S=some s'->∀ st H',(∀ b o,b≠x->H b=some o->H' b=some o)->iA cP cS cR cJ cA H' x { d with st:=st,S:=s' }->Q (.str (wd s')) H')->(lN i d.S=none->pL cN "found" (.str (wd d.S)) H E)->jCW i cN cP cS cR cJ cA vs H Q E
theorem jJy:gF ["self"] ["self"] (fY jEf):=scM
include T in
theorem jJz(F:Fun K "mend" "Printer.mend" jEf fa fd)(DaX:MtE P w K mg base 3 "mend" yJ ["self"] (oI yJ yW yU cK (fun s=>lN 1 s=none) 1))(DaY:MtE P w K mg base 4 "mend" yW ["self"] (oI yJ yW yU cK (fun s=>s=.jm) 1))(DaZ:MtE P w K mg base 3 "mend" yU ["self"] (oI yJ yW yU cK (fun s=>lN 1 s=none) 1))(Dac:MtE P w K mg base 2 "stands" cZ ["self"] (jBZ cZ cQ yJ yW yU)) :
 fJ P w K mg base (CXe P w) 5 fa fd ["self"] (jCW 1 cK cZ cQ yJ yW yU):=by
 refine F.okE jJy fun fE A outer s H vs Q E hr h=>?_;obtain⟨x,d,rfl,P,q,q2⟩:=h;exists _,(d9 (kX (pv 0) (jR 4 jQ hr.m (hV (pv 0) rfl)) rfl) (d7 (gY (jR 2 jQ hr.m (pv 0)))))
 exists _,rfl,x,cZ,d.dx,_,_,rfl,P.o,T.ad,T.aq,rfl;refine jIi DaX DaY DaZ (by decide) (by decide) (by decide) rfl rfl (fun _=>rfl) T.ar T.au T.ak (fun s=>by cases s<;>rfl) P.s ⟨fun s' e p H1 sm _ sa=>?_,q2⟩;have P1:=P.same sm;refine⟨_,rfl,x,cZ,d.dx,_,rfl,P1.o,T.ad,T.aq,(by show 8<1000;decide),?_⟩;rw [jFU];have kp:∀ b o,b≠x->H b=some o->upd H1 x (.ins cZ d.dx ({ d with st:=p }:PD).fs) b=some o:=fun b o nb e=>by rw [dW nb];exact sm _ _ e
 have P2:iA cZ cQ yJ yW yU (upd H1 x (.ins cZ d.dx ({ d with st:=p }:PD).fs)) x { d with st:=p,S:=s' }:=by
  obtain⟨ds,hs⟩:=sa;exact iA.turned (st:=p) (il:=d.ins) (S:=s') (ts:=d.tags) P kp d4 ⟨ds,by rw [dW (jJx ⟨ds,hs⟩ P1.o)];exact hs⟩ (kp _ _ (eW P.n P.o nofun) P.n) P.lt
 exact⟨_,rfl,x,_,d.dx,_,_,_,rfl,P2.o,rfl,T.ad,Dac,x,_,rfl,P2,q s' e p _ kp P2⟩
theorem jJA:gF ["self"] ["self"] (fY jEg):=scM
include T in
theorem jJB(F:Fun K "come" "Printer.come" jEg fa fd)(Da0:MtE P w K mg base 3 "come" yJ ["self"] (oI yJ yW yU cK (fun s=>lN 3 s=none) 3))(Da1:MtE P w K mg base 3 "come" yW ["self"] (oI yJ yW yU cK (fun s=>lN 3 s=none) 3))(Da2:MtE P w K mg base 4 "come" yU ["self"] (oI yJ yW yU cK (fun s=>∃ b,s=.aw b) 3))(Dac:MtE P w K mg base 2 "stands" cZ ["self"] (jBZ cZ cQ yJ yW yU)) :
 fJ P w K mg base (CXe P w) 5 fa fd ["self"] (jCW 3 cK cZ cQ yJ yW yU):=by
 refine F.okE jJA fun fE A outer s H vs Q E hr h=>?_;obtain⟨x,d,rfl,P,q,q2⟩:=h;exists _,(d9 (kX (pv 0) (jR 4 jQ hr.m (hV (pv 0) rfl)) rfl) (d7 (gY (jR 2 jQ hr.m (pv 0)))))
 exists _,rfl,x,cZ,d.dx,_,_,rfl,P.o,T.ad,T.aq,rfl;refine jIi Da0 Da1 Da2 (by decide) (by decide) (by decide) rfl rfl (fun b=>⟨b,rfl⟩) T.ar T.au T.ak (fun s=>by cases s<;>rfl) P.s ⟨fun s' e p H1 sm _ sa=>?_,q2⟩;have P1:=P.same sm;refine⟨_,rfl,x,cZ,d.dx,_,rfl,P1.o,T.ad,T.aq,(by show 8<1000;decide),?_⟩;rw [jFU];have kp:∀ b o,b≠x->H b=some o->upd H1 x (.ins cZ d.dx ({ d with st:=p }:PD).fs) b=some o:=fun b o nb e=>by rw [dW nb];exact sm _ _ e
 have P2:iA cZ cQ yJ yW yU (upd H1 x (.ins cZ d.dx ({ d with st:=p }:PD).fs)) x { d with st:=p,S:=s' }:=by
  obtain⟨ds,hs⟩:=sa;exact iA.turned (st:=p) (il:=d.ins) (S:=s') (ts:=d.tags) P kp d4 ⟨ds,by rw [dW (jJx ⟨ds,hs⟩ P1.o)];exact hs⟩ (kp _ _ (eW P.n P.o nofun) P.n) P.lt
 exact⟨_,rfl,x,_,d.dx,_,_,_,rfl,P2.o,rfl,T.ad,Dac,x,_,rfl,P2,q s' e p _ kp P2⟩
inductive jEv(cN cP cS cR cJ cA:Addr)(vs:List V)(H:Hp)(Q:VK)(E:XK):Prop|mk x d:vs=[.ref x]->iA cP cS cR cJ cA H x d->(∀ s',lN 2 d.S=some s'->∀ st il H',(∀ b o,b≠x->H b=some o->H' b=some o)->H il=none->iA cP cS cR cJ cA H' x { d with st:=st,S:=s',ins:=il,tags:=[] }->Q (.ref d.ins) H')->(lN 2 d.S=none->pL cN "found" (.str (wd d.S)) H E)->jEv cN cP cS cR cJ cA vs H Q E
theorem jFG:gF ["self","lost"] ["self"] (fY jDH):=scM
include T in
theorem jIO(F:Fun K "leave" "Printer.leave" jDH fa fd)(Da3:MtE P w K mg base 4 "leave" yJ ["self"] (oI yJ yW yU cK (fun s=>s=.rd) 2))(Da4:MtE P w K mg base 4 "leave" yW ["self"] (oI yJ yW yU cK (fun s=>s=.jm) 2))(Da5:MtE P w K mg base 3 "leave" yU ["self"] (oI yJ yW yU cK (fun s=>lN 2 s=none) 2)) :
 fJ P w K mg base (CXe P w) 5 fa fd ["self"] (jEv cK cZ cQ yJ yW yU):=by
 refine F.okE jFG fun fE A outer s H vs Q E hr h=>?_;obtain⟨x,d,rfl,P,q,q2⟩:=h;exists _,(d9 (kX (pv 0) (jR 4 jQ hr.m (hV (pv 0) rfl)) rfl) (d9 (psA (i:=1) jFG.nd (hV (pv 0) rfl)) (d9 (kX (pv 0) (lQ dX) rfl) (d7 (gY (pv 1))))))
 exists _,rfl,x,cZ,d.dx,_,_,rfl,P.o,T.ad,T.aq,rfl;refine jIi Da3 Da4 Da5 (by decide) (by decide) (by decide) rfl rfl (fun _=>rfl) T.ar T.au T.ak (fun s=>by cases s<;>rfl) P.s ⟨fun s' e p H1 sm _ sa=>?_,q2⟩;have P1:=P.same sm;refine⟨_,rfl,x,cZ,d.dx,_,rfl,P1.o,T.ad,T.aq,(by show 8<1000;decide),?_⟩;rw [jFU];have kp:∀ b o,b≠x->H b=some o->upd H1 x (.ins cZ d.dx ({ d with st:=p }:PD).fs) b=some o:=fun b o nb e=>by rw [dW nb];exact sm _ _ e
 have ho:upd H1 x (.ins cZ d.dx ({ d with st:=p }:PD).fs) x=some (.ins cZ d.dx ({ d with st:=p }:PD).fs):=d4;have hs:vO yJ yW yU (upd H1 x (.ins cZ d.dx ({ d with st:=p }:PD).fs)) p s':=by
  obtain⟨ds,hs⟩:=sa;exact⟨ds,by rw [dW (jJx ⟨ds,hs⟩ P1.o)];exact hs⟩
 generalize upd H1 x (.ins cZ d.dx ({ d with st:=p }:PD).fs)=H2 at kp ho hs ⊢;exists _,rfl,x,cZ,d.dx,_,_,rfl,ho,T.ad,T.al,rfl;refine⟨d5 _,fun il jA=>?_⟩;have s3:=gM jA (.lst []);have h3:upd H2 il (.lst []) il=some (.lst []):=d4;generalize upd H2 il (.lst [])=H3 at s3 h3 ⊢;refine⟨_,rfl,x,cZ,d.dx,_,rfl,s3 _ _ ho,T.ad,T.al,(by show 8<1000;decide),?_⟩;rw [jJw];have kp4:∀ b o,b≠x->H b=some o->upd H3 x (.ins cZ d.dx ({ d with st:=p,ins:=il }:PD).fs) b=some o:=fun b o nb e=>by rw [dW nb];exact s3 _ _ (kp b o nb e)
 have nil0:H il=none:=by
  cases e:H il with
  | none=>rfl
  | some o =>
    by_cases c:il=x
    ·rw [c,ho] at jA;cases jA
    ·rw [kp il o c e] at jA;cases jA
 have nix:il≠x:=symm (eJ ho jA);refine⟨_,rfl,q s' e p il _ kp4 nil0 (iA.turned (st:=p) (il:=il) (S:=s') (ts:=[]) P kp4 d4 ?_ (by rw [dW nix];exact h3) (d5 _))⟩;obtain⟨ds,hs⟩:=hs;exact⟨ds,by rw [dW (jJx (d:={ d with st:=p }) ⟨ds,hs⟩ ho)];exact s3 _ _ hs⟩
inductive jHX(cN cT cP cS cR cJ cA:Addr)(vs:List V)(H:Hp)(Q:VK)(E:XK):Prop|mk x d k:vs=[.ref x,.int (k:Nat)]->iA cP cS cR cJ cA H x d->(d.S≠.rd->pL cN "found" (.str (wd d.S)) H E)->(d.S=.rd->d.tags.length<k->pL cT "name" (.str wiW) H E)->(d.S=.rd->k<=d.tags.length->∀ t l1 l2 st il H',(∀ b o,b≠x->H b=some o->H' b=some o)->H il=none->H t=none->H' t=some (.tup [.ref l1,.ref l2])->H' l1=some (.lst (d.tags.take k))->H' l2=some (.lst (d.tags.drop k))->iA cP cS cR cJ cA H' x { d with st:=st,S:=.jm,ins:=il,tags:=[] }->Q (.ref t) H')->jHX cN cT cP cS cR cJ cA vs H Q E
theorem jCX:gF ["self","saved","jammed","out","lost"] ["self","saved"] (fY jER):=scM
include T in
theorem jKs(F:Fun K "jam" "Printer.jam" jER fa fd)(Daq:sN P w K mg base 1 "TooMuch" cG ["self","name"] (oZ cG "name"))(Da6:MtE P w K mg base 4 "jam" yJ ["self"] (oI yJ yW yU cK (fun s=>s=.rd) 0))(Da7:MtE P w K mg base 3 "jam" yW ["self"] (oI yJ yW yU cK (fun s=>lN 0 s=none) 0))(Da8:MtE P w K mg base 3 "jam" yU ["self"] (oI yJ yW yU cK (fun s=>lN 0 s=none) 0)) :
 fJ P w K mg base (CXe P w) 5 fa fd ["self","saved"] (jHX cK cG cZ cQ yJ yW yU):=by
 refine F.okE jCX fun fE A outer s H vs Q E hr h=>?_;obtain⟨x,d,k,rfl,P,q1,q2,q⟩:=h;exists _,(d9 (psA (i:=2) jCX.nd (jR 4 jQ hr.m (hV (pv 0) rfl))) (d9 (jC (tcA jH6 (pv 1) (rV jBr rfl T.ao iT (dJ (hV (pv 0) rfl) dX))) (d7 (uD uA rfl (uB Daq hr.m rfl (dJ (uT T.bP rfl) dX)))) jK) (d9 (psA (i:=3) jCX.nd (jCH jJ0 (hV (pv 0) rfl) jDs (jDt (pv 1)))) (d9 (psA (i:=4) jCX.nd (jCH jJ0 (hV (pv 0) rfl) (jDt (pv 1)) jDs)) (d9 (kX (pv 0) (lQ dX) rfl) (d9 (kX (pv 0) (pv 2) rfl) (d7 (gY (mT (dJ (pv 3) (dJ (pv 4) dX)))))))))))
 exists _,rfl,x,cZ,d.dx,_,_,rfl,P.o,T.ad,T.aq,rfl;have nn:∀ s,lN 0 s=none ↔ s≠.rd:=fun s=>by cases s with
  | rd=>exact⟨fun z=>(by cases z),fun z=>absurd rfl z⟩
  | jm=>exact⟨fun _ z=>(by cases z),fun _=>rfl⟩
  | aw b=>exact⟨fun _ z=>(by cases z),fun _=>rfl⟩
 refine jIi Da6 Da7 Da8 (by decide) (by decide) (by decide) rfl rfl (fun _=>rfl) T.ar T.au T.ak (fun s=>by cases s<;>rfl) P.s ⟨fun s' e p H1 sm np sa=>?_,fun e=>q1 ((nn _).mp e)⟩;have P1:=P.same sm;have rd:d.S=.rd:=iH fun z=>by rw [(nn _).mpr z] at e;cases e
 rw [rd] at e;obtain rfl:=Option.some.inj e;exists _,rfl,_,rfl,x,cZ,d.dx,_,_,rfl,P1.o,T.ad,T.al,rfl,d.ins,_,rfl,.inl (SqL.of P1.n),_,_,rfl,rfl,_,rfl;refine oK (fun c=>rC T.aC.m fun ea H' s1 _ g=>q2 rd (by have:=of_decide_eq_true c;omega) ea H' (sm.trans s1) g) (fun c=>?_);have hk:k<=d.tags.length:=Nat.not_lt.mp fun z=>c (decide_eq_true (by omega));exists _,rfl,x,cZ,d.dx,_,_,rfl,P1.o,T.ad,T.al,rfl;refine⟨_,rfl,_,rfl,d.ins,_,rfl,SqL.of P1.n,fun l1 nl1=>?_⟩;rw [jOG];have s2:=gM nl1 (.lst (d.tags.take k));have h2:upd H1 l1 (.lst (d.tags.take k)) l1=some (.lst (d.tags.take k)):=d4;generalize upd H1 l1 (.lst (d.tags.take k))=H2 at s2 h2 ⊢;have P2:=P1.same s2;exists _,rfl,x,cZ,d.dx,_,_,rfl,P2.o,T.ad,T.al,rfl;refine⟨_,rfl,_,rfl,d.ins,_,rfl,SqL.of P2.n,fun l2 nl2=>?_⟩;rw [jPx];have s3:=gM nl2 (.lst (d.tags.drop k));have h3:upd H2 l2 (.lst (d.tags.drop k)) l2=some (.lst (d.tags.drop k)):=d4;generalize upd H2 l2 (.lst (d.tags.drop k))=H3 at s3 h3 ⊢;refine⟨d5 _,fun il jA=>?_⟩;have s4:=gM jA (.lst []);have h4:upd H3 il (.lst []) il=some (.lst []):=d4;generalize upd H3 il (.lst [])=H4 at s4 h4 ⊢;have s14:=(s2.trans s3).trans s4;have P4:=P1.same s14;refine⟨_,rfl,x,cZ,d.dx,_,rfl,P4.o,T.ad,T.al,(by show 8<1000;decide),?_⟩;rw [jJw];have kp5:∀ b o,b≠x->H4 b=some o->upd H4 x (.ins cZ d.dx ({ d with ins:=il }:PD).fs) b=some o:=fun b o nb e=>by rw [dW nb];exact e
 have ho5:upd H4 x (.ins cZ d.dx ({ d with ins:=il }:PD).fs) x=some (.ins cZ d.dx ({ d with ins:=il }:PD).fs):=d4;generalize upd H4 x (.ins cZ d.dx ({ d with ins:=il }:PD).fs)=H5 at kp5 ho5 ⊢;refine⟨_,rfl,_,rfl,x,cZ,d.dx,_,rfl,ho5,T.ad,T.aq,(by show 8<1000;decide),?_⟩;rw [jFU];have kp6:∀ b o,b≠x->H5 b=some o->upd H5 x (.ins cZ d.dx ({ d with ins:=il,st:=p }:PD).fs) b=some o:=fun b o nb e=>by rw [dW nb];exact e
 have ho6:upd H5 x (.ins cZ d.dx ({ d with ins:=il,st:=p }:PD).fs) x=some (.ins cZ d.dx ({ d with ins:=il,st:=p }:PD).fs):=d4;generalize upd H5 x (.ins cZ d.dx ({ d with ins:=il,st:=p }:PD).fs)=H6 at kp6 ho6 ⊢;have z2:2<=c9:=small (by decide);refine⟨_,rfl,_,rfl,z2,fun t nt=>?_⟩;have s7:=gM nt (.tup [.ref l1,.ref l2]);have h7:upd H6 t (.tup [.ref l1,.ref l2]) t=some (.tup [.ref l1,.ref l2]):=d4;generalize upd H6 t (.tup [.ref l1,.ref l2])=H7 at s7 h7 ⊢;have kq:∀ b o,b≠x->H4 b=some o->H7 b=some o:=fun b o nb e=>s7 _ _ (kp6 b o nb (kp5 b o nb e));have nx4:∀ l ys,H4 l=some (.lst ys)->l≠x:=fun l ys e=>eW e P4.o nofun
 have e1:=(s3.trans s4) _ _ h2;have e2:=s4 _ _ h3;refine q rd hk t l1 l2 p il H7 (fun b o nb e=>kq b o nb (s14 _ _ (sm _ _ e))) (sm.free ((s2.trans s3).free jA)) ?_ h7 (kq _ _ (nx4 _ _ e1) e1) (kq _ _ (nx4 _ _ e2) e2) ?_
 ·cases e:H t with
  | none=>rfl
  | some o =>
    by_cases c:t=x
    ·rw [c,ho6] at nt;cases nt
    ·rw [kp6 t o c (kp5 t o c (s14 _ _ (sm _ _ e)))] at nt;cases nt
 ·refine iA.turned (st:=p) (il:=il) (S:=.jm) (ts:=[]) P4 kq (s7 _ _ ho6) ?_ (kq _ _ (nx4 _ _ h4) h4) (d5 _);obtain⟨ds,hs⟩:=id (sa.same s14);exact⟨ds,kq _ _ (jJx (sa.same s14) P4.o) hs⟩
inductive jHc(cP cS cR cJ cA:Addr)(vs:List V)(H:Hp)(Q:VK)(E_:XK):Prop|mk (x dx cl pp:Addr) (nm:Str) (path rb rc:Int) (cs:List V) (rs:List (Str×Int)):vs=[.ref x,.str nm,.ref cl,.int path,.ref pp,.int rb,.int rc]->H x=some (.ins cP dx [])->H cl=some (.lst cs)->H pp=some (.dK (dI rs))->(rs.map (·.1)).Nodup->rs.length<=900->(∀ d H',(∀ b o,b≠x->H b=some o->H' b=some o)->iA cP cS cR cJ cA H' x d->d.name=nm->d.path=path->d.rs=rs->d.am=rs.map (fun p=>(p.1,0))->d.rb=rb->d.rc=rc->d.b=0->d.c=0->d.tags=[]->d.S=.rd->H d.tr1=none->H d.tr2=none->H d.ik1=none->H d.ik2=none->H d.ins=none->Q .non H')->jHc cP cS cR cJ cA vs H Q E_
theorem jJC:gF ["self","name","can","path","papers","black","colour"] ["self","name","can","path","papers","black","colour"] (fY jEa):=scM
include T in
theorem jJD(F:Fun K "__init__" "Printer.__init__" jEa fa fd)(DaL:MkD P w K mg base 1 "Stock" cQ ["self","rooms"] (jEV cQ))(Dah:MkD P w K mg base 2 "Ready" yJ ["self"] (jFD yJ (tG .rd))) :
 fJ P w K mg base CX0 4 fa fd ["self","name","can","path","papers","black","colour"] (jHc cZ cQ yJ yW yU):=by
 refine F.ok jJC fun fE A outer s H vs Q E hr h=>?_;obtain⟨x,dx,cl,pp,nm,path,rb,rc,cs,rs,rfl,hx,rZ,hpp,nd,lr,q⟩:=h;exists _,(d9 (kX (pv 0) (pv 1) rfl) (d9 (kX (pv 0) (uC jK9 rfl T.bB jLR (dJ (pv 2) dX)) rfl) (d9 (kX (pv 0) (pv 3) rfl) (d9 (kX (pv 0) (uC jGz rfl T.aY jKb (dJ (pv 4) dX)) rfl) (d9 (kX (pv 0) (jCI DaL hr.m rfl (dJ (pv 4) dX)) rfl) (d9 (kX (pv 0) (jCI DaL hr.m rfl (dJ (jIa (xA (uT T.bf rfl) (pv 5) (xA (uT T.bg rfl) (pv 6) jH_)) rfl rfl (by decide) (by decide)) dX)) rfl) (d9 (kX (pv 0) (jCJ Dah hr.m rfl) rfl) (d7 (kX (pv 0) (lQ dX) rfl)))))))))
 have ncx:cl≠x:=eW rZ hx nofun
 have npx:pp≠x:=eW hpp hx nofun
 refine⟨_,rfl,_,rfl,x,cZ,dx,_,rfl,hx,T.ad,T.bH,(by show 0<1000;decide),?_⟩;rw [rT (by show ¬ ("name":Str)∈([]:List Str);decide +kernel),j7];have k1:∀ b o,b≠x->H b=some o->upd H x (.ins cZ dx [("name",V.str nm)]) b=some o:=fun b o nb e=>by rw [dW nb];exact e
 have pO:upd H x (.ins cZ dx [("name",V.str nm)]) x=some (.ins cZ dx [("name",V.str nm)]):=d4;generalize upd H x (.ins cZ dx [("name",V.str nm)])=H1 at k1 pO ⊢;refine⟨_,rfl,cl,_,rfl,.inl ⟨SqL.of (k1 _ _ ncx rZ),fun cn ncn=>?_⟩⟩;have s2:=gM ncn (.tup cs);generalize upd H1 cn (.tup cs)=H2 at s2 ⊢;refine⟨_,rfl,x,cZ,dx,_,rfl,s2 _ _ pO,T.ad,T.bU,(by show 1<1000;decide),?_⟩;rw [rT (by show ¬ ("can":Str)∈(["name"]:List Str);decide +kernel)];have k3:∀ b o,b≠x->H1 b=some o->upd H2 x (.ins cZ dx (([("name",V.str nm)]:List (Str×V))++([("can",V.ref cn)]:List (Str×V)))) b=some o:=fun b o nb e=>by rw [dW nb];exact s2 _ _ e
 have hx3:upd H2 x (.ins cZ dx (([("name",V.str nm)]:List (Str×V))++([("can",V.ref cn)]:List (Str×V)))) x=some (.ins cZ dx [("name",V.str nm),("can",V.ref cn)]):=d4;generalize upd H2 x (.ins cZ dx (([("name",V.str nm)]:List (Str×V))++([("can",V.ref cn)]:List (Str×V))))=H3 at k3 hx3 ⊢;refine⟨_,rfl,_,rfl,x,cZ,dx,_,rfl,hx3,T.ad,T.bI,(by show 2<1000;decide),?_⟩;rw [rT (by show ¬ ("path":Str)∈(["name","can"]:List Str);decide +kernel)];have k4:∀ b o,b≠x->H3 b=some o->upd H3 x (.ins cZ dx (([("name",V.str nm),("can",V.ref cn)]:List (Str×V))++([("path",V.int path)]:List (Str×V)))) b=some o:=fun b o nb e=>by rw [dW nb];exact e
 have hx4:upd H3 x (.ins cZ dx (([("name",V.str nm),("can",V.ref cn)]:List (Str×V))++([("path",V.int path)]:List (Str×V)))) x=some (.ins cZ dx [("name",V.str nm),("can",V.ref cn),("path",V.int path)]):=d4;generalize upd H3 x (.ins cZ dx (([("name",V.str nm),("can",V.ref cn)]:List (Str×V))++([("path",V.int path)]:List (Str×V))))=H4 at k4 hx4 ⊢;have k04:∀ b o,b≠x->H b=some o->H4 b=some o:=fun b o nb e=>k4 b o nb (k3 b o nb (k1 b o nb e));have hpp4:=k04 _ _ npx hpp;refine⟨_,rfl,pp,_,rfl,.inl hpp4,fun rm nrm=>?_⟩;have s5:=gM nrm (.dK (dI rs));generalize upd H4 rm (.dK (dI rs))=H5 at s5 ⊢;refine⟨_,rfl,x,cZ,dx,_,rfl,s5 _ _ hx4,T.ad,T.bV,(by show 3<1000;decide),?_⟩;rw [rT (by show ¬ ("rooms":Str)∈(["name","can","path"]:List Str);decide +kernel)];have k6:∀ b o,b≠x->H4 b=some o->upd H5 x (.ins cZ dx (([("name",V.str nm),("can",V.ref cn),("path",V.int path)]:List (Str×V))++([("rooms",V.ref rm)]:List (Str×V)))) b=some o:=fun b o nb e=>by rw [dW nb];exact s5 _ _ e
 have hx6:upd H5 x (.ins cZ dx (([("name",V.str nm),("can",V.ref cn),("path",V.int path)]:List (Str×V))++([("rooms",V.ref rm)]:List (Str×V)))) x=some (.ins cZ dx [("name",V.str nm),("can",V.ref cn),("path",V.int path),("rooms",V.ref rm)]):=d4;generalize upd H5 x (.ins cZ dx (([("name",V.str nm),("can",V.ref cn),("path",V.int path)]:List (Str×V))++([("rooms",V.ref rm)]:List (Str×V))))=H6 at k6 hx6 ⊢;have k06:∀ b o,b≠x->H b=some o->H6 b=some o:=fun b o nb e=>k6 b o nb (k04 b o nb e);have r9:∀ b,H6 b=none->H b=none:=fun b nb=>by
  cases e:H b with
  | none=>rfl
  | some o =>
    by_cases c:b=x
    ·rw [c,hx6] at nb;cases nb
    ·rw [k06 b o c e] at nb;cases nb
 refine⟨_,rfl,fun tr dt ntr ndt nde=>?_⟩;have ki:∀ b o,H6 b=some o->b≠tr/\upd (upd H6 dt (.own tr)) tr (.ins cQ dt []) b=some o:=fun b o e=>by
  have b1:b≠tr:=eJ e ntr;exact⟨b1,by rw [dW b1,dW (eJ e ndt)];exact e⟩
 refine⟨tr,dt,pp,rs,rfl,d4,(ki _ _ (k06 _ _ npx hpp)).2,nd,by omega,fun tr1 tr2 H7 kp7 nr pK n12 ht7 hr7 hm7=>⟨rfl,?_⟩⟩;have s7:eC H6 H7:=fun b o e=>kp7 b o (ki b o e).1 (ki b o e).2;have ntr1:H6 tr1=none:=by
  cases e:H6 tr1 with
  | none=>rfl
  | some o=>rw [(ki _ _ e).2] at nr;cases nr
 have ntr2:H6 tr2=none:=by
  cases e:H6 tr2 with
  | none=>rfl
  | some o=>rw [(ki _ _ e).2] at pK;cases pK
 refine⟨_,rfl,x,cZ,dx,_,rfl,s7 _ _ hx6,T.ad,T.aV,(by show 4<1000;decide),?_⟩;rw [rT (by show ¬ ("trays":Str)∈(["name","can","path","rooms"]:List Str);decide +kernel)];have hx7:=s7 _ _ hx6;have ntx:tr≠x:=symm (eJ hx6 ntr);have nt1x:tr1≠x:=symm (eJ hx6 ntr1);have nt2x:tr2≠x:=symm (eJ hx6 ntr2);have k8:∀ b o,b≠x->H7 b=some o->upd H7 x (.ins cZ dx (([("name",V.str nm),("can",V.ref cn),("path",V.int path),("rooms",V.ref rm)]:List (Str×V))++([("trays",V.ref tr)]:List (Str×V)))) b=some o:=fun b o nb e=>by rw [dW nb];exact e
 have hx8:upd H7 x (.ins cZ dx (([("name",V.str nm),("can",V.ref cn),("path",V.int path),("rooms",V.ref rm)]:List (Str×V))++([("trays",V.ref tr)]:List (Str×V)))) x=some (.ins cZ dx [("name",V.str nm),("can",V.ref cn),("path",V.int path),("rooms",V.ref rm),("trays",V.ref tr)]):=d4;generalize upd H7 x (.ins cZ dx (([("name",V.str nm),("can",V.ref cn),("path",V.int path),("rooms",V.ref rm)]:List (Str×V))++([("trays",V.ref tr)]:List (Str×V))))=H8 at k8 hx8 ⊢;have ht8:=k8 _ _ ntx ht7;have hr8:=k8 _ _ nt1x hr7;have hm8:=k8 _ _ nt2x hm7;have free8:∀ b,H8 b=none->H6 b=none:=fun b nb=>by
  cases e:H6 b with
  | none=>rfl
  | some o =>
    by_cases c:b=x
    ·rw [c,hx8] at nb;cases nb
    ·rw [k8 b o c (s7 _ _ e)] at nb;cases nb
 refine fun ip nip=>?_;have s9:=gM nip (.dK []);have h9:upd H8 ip (.dK []) ip=some (.dK []):=d4;refine⟨_,rfl,_,rfl,h9,[(Sum.inr kZ,.int rb),(Sum.inr kQ,.int rc)],rfl,(by show 2<=15;decide),?_⟩;rw [jGV (ks:=[Sum.inr kZ,Sum.inr kQ]) rfl (by decide +kernel)];have s10:eC H8 (upd (upd H8 ip (.dK [])) ip (.dK ([]++[((Sum.inr kZ:Key),V.int rb),(Sum.inr kQ,V.int rc)]))):=w5 nip s9 _;have h10:upd (upd H8 ip (.dK [])) ip (.dK ([]++[((Sum.inr kZ:Key),V.int rb),(Sum.inr kQ,V.int rc)])) ip=some (.dK (dI (jW rb rc))):=d4;generalize upd (upd H8 ip (.dK [])) ip (.dK ([]++[((Sum.inr kZ:Key),V.int rb),(Sum.inr kQ,V.int rc)]))=H10 at s10 h10 ⊢;refine fun ik di nik ndi ndie=>?_;have kj:∀ b o,H10 b=some o->b≠ik/\upd (upd H10 di (.own ik)) ik (.ins cQ di []) b=some o:=fun b o e=>by
  have b1:b≠ik:=eJ e nik;exact⟨b1,by rw [dW b1,dW (eJ e ndi)];exact e⟩
 have ndk:((jW rb rc).map (·.1)).Nodup:=by
  show [kZ,kQ].Nodup;decide +kernel
 refine⟨ik,di,ip,jW rb rc,rfl,d4,(kj _ _ h10).2,ndk,by show 2<=1000;decide,fun ik1 ik2 H11 kp11 nr1 nm1 n12' hi11 hr11 hm11=>⟨rfl,?_⟩⟩;have s11:eC H10 H11:=fun b o e=>kp11 b o (kj b o e).1 (kj b o e).2;have nik1:H10 ik1=none:=by
  cases e:H10 ik1 with
  | none=>rfl
  | some o=>rw [(kj _ _ e).2] at nr1;cases nr1
 have nik2:H10 ik2=none:=by
  cases e:H10 ik2 with
  | none=>rfl
  | some o=>rw [(kj _ _ e).2] at nm1;cases nm1
 have s811:=s10.trans s11;refine⟨_,rfl,x,cZ,dx,_,rfl,s811 _ _ hx8,T.ad,T.bA,(by show 5<1000;decide),?_⟩;rw [rT (by show ¬ ("inks":Str)∈(["name","can","path","rooms","trays"]:List Str);decide +kernel)];have k12:∀ b o,b≠x->H11 b=some o->upd H11 x (.ins cZ dx (([("name",V.str nm),("can",V.ref cn),("path",V.int path),("rooms",V.ref rm),("trays",V.ref tr)]:List (Str×V))++([("inks",V.ref ik)]:List (Str×V)))) b=some o:=fun b o nb e=>by rw [dW nb];exact e
 have hx12:upd H11 x (.ins cZ dx (([("name",V.str nm),("can",V.ref cn),("path",V.int path),("rooms",V.ref rm),("trays",V.ref tr)]:List (Str×V))++([("inks",V.ref ik)]:List (Str×V)))) x=some (.ins cZ dx [("name",V.str nm),("can",V.ref cn),("path",V.int path),("rooms",V.ref rm),("trays",V.ref tr),("inks",V.ref ik)]):=d4;generalize upd H11 x (.ins cZ dx (([("name",V.str nm),("can",V.ref cn),("path",V.int path),("rooms",V.ref rm),("trays",V.ref tr)]:List (Str×V))++([("inks",V.ref ik)]:List (Str×V))))=H12 at k12 hx12 ⊢;have hx10:=s10 _ _ hx8;have nikx:ik≠x:=symm (eJ hx10 nik);have nik1x:ik1≠x:=symm (eJ hx10 nik1);have nik2x:ik2≠x:=symm (eJ hx10 nik2);refine fun st ds nst nds ndse=>⟨st,ds,rfl,d4,⟨rfl,?_⟩⟩
 have rK:eC H12 (upd (upd (upd H12 ds (.own st)) st (.ins yJ ds [])) st (.ins yJ ds (tG .rd))):=fun b o e=>by
  have b1:b≠st:=eJ e nst;rw [dW b1,dW b1,dW (eJ e nds)];exact e
 have h13:upd (upd (upd H12 ds (.own st)) st (.ins yJ ds [])) st (.ins yJ ds (tG .rd)) st=some (.ins yJ ds (tG .rd)):=d4;generalize upd (upd (upd H12 ds (.own st)) st (.ins yJ ds [])) st (.ins yJ ds (tG .rd))=H13 at rK h13 ⊢;refine⟨_,rfl,x,cZ,dx,_,rfl,rK _ _ hx12,T.ad,T.aq,(by show 6<1000;decide),?_⟩;rw [rT (by show ¬ ("state":Str)∈(["name","can","path","rooms","trays","inks"]:List Str);decide +kernel)];have k14:∀ b o,b≠x->H13 b=some o->upd H13 x (.ins cZ dx (([("name",V.str nm),("can",V.ref cn),("path",V.int path),("rooms",V.ref rm),("trays",V.ref tr),("inks",V.ref ik)]:List (Str×V))++([("state",V.ref st)]:List (Str×V)))) b=some o:=fun b o nb e=>by rw [dW nb];exact e
 have hx14:upd H13 x (.ins cZ dx (([("name",V.str nm),("can",V.ref cn),("path",V.int path),("rooms",V.ref rm),("trays",V.ref tr),("inks",V.ref ik)]:List (Str×V))++([("state",V.ref st)]:List (Str×V)))) x=some (.ins cZ dx [("name",V.str nm),("can",V.ref cn),("path",V.int path),("rooms",V.ref rm),("trays",V.ref tr),("inks",V.ref ik),("state",V.ref st)]):=d4;generalize upd H13 x (.ins cZ dx (([("name",V.str nm),("can",V.ref cn),("path",V.int path),("rooms",V.ref rm),("trays",V.ref tr),("inks",V.ref ik)]:List (Str×V))++([("state",V.ref st)]:List (Str×V))))=H14 at k14 hx14 ⊢;have wO:st≠x:=symm (eJ hx12 nst);refine⟨d5 _,fun il jA=>?_⟩;have s15:=gM jA (.lst []);have h15:upd H14 il (.lst []) il=some (.lst []):=d4;generalize upd H14 il (.lst [])=H15 at s15 h15 ⊢;have hx15:=s15 _ _ hx14;refine⟨_,rfl,x,cZ,dx,_,rfl,hx15,T.ad,T.al,(by show 7<1000;decide),?_⟩;rw [rT (by show ¬ ("inside":Str)∈(["name","can","path","rooms","trays","inks","state"]:List Str);decide +kernel)];have nilx:il≠x:=symm (eJ hx14 jA);have k16:∀ b o,b≠x->H15 b=some o->upd H15 x (.ins cZ dx (([("name",V.str nm),("can",V.ref cn),("path",V.int path),("rooms",V.ref rm),("trays",V.ref tr),("inks",V.ref ik),("state",V.ref st)]:List (Str×V))++([("inside",V.ref il)]:List (Str×V)))) b=some o:=fun b o nb e=>by rw [dW nb];exact e
 have hx16:upd H15 x (.ins cZ dx (([("name",V.str nm),("can",V.ref cn),("path",V.int path),("rooms",V.ref rm),("trays",V.ref tr),("inks",V.ref ik),("state",V.ref st)]:List (Str×V))++([("inside",V.ref il)]:List (Str×V)))) x=some (.ins cZ dx [("name",V.str nm),("can",V.ref cn),("path",V.int path),("rooms",V.ref rm),("trays",V.ref tr),("inks",V.ref ik),("state",V.ref st),("inside",V.ref il)]):=d4;generalize upd H15 x (.ins cZ dx (([("name",V.str nm),("can",V.ref cn),("path",V.int path),("rooms",V.ref rm),("trays",V.ref tr),("inks",V.ref ik),("state",V.ref st)]:List (Str×V))++([("inside",V.ref il)]:List (Str×V))))=H16 at k16 hx16 ⊢;have e12:∀ b o,b≠x->H12 b=some o->H16 b=some o:=fun b o nb e=>k16 b o nb (s15 _ _ (k14 b o nb (rK _ _ e)));have e8:∀ b o,b≠x->H8 b=some o->H16 b=some o:=fun b o nb e=>e12 b o nb (k12 b o nb (s811 _ _ e));have e6:∀ b o,b≠x->H6 b=some o->H16 b=some o:=fun b o nb e=>e8 b o nb (k8 b o nb (s7 _ _ e));have f10:∀ b,H10 b=none->H6 b=none:=fun b nb=>free8 b (s10.free nb);have f14:∀ b,H14 b=none->H6 b=none:=fun b nb=>by
  cases e:H6 b with
  | none=>rfl
  | some o =>
    by_cases c:b=x
    ·rw [c,hx14] at nb;cases nb
    ·rw [k14 b o c (rK _ _ (k12 b o c (s811 _ _ (k8 b o c (s7 _ _ e)))))] at nb;cases nb
 have hm10:=s10 _ _ hm8;have hr10:=s10 _ _ hr8;refine q ⟨dx,cn,rm,tr,tr1,tr2,ik,ik1,ik2,st,il,nm,path,rs,rs.map fun p=>(p.1,0),rb,rc,0,0,[],.rd⟩ H16 (fun b o nb e=>e6 b o nb (k06 b o nb e)) ?_ rfl rfl rfl rfl rfl rfl rfl rfl rfl rfl (r9 _ ntr1) (r9 _ ntr2) (r9 _ (f10 _ nik1)) (r9 _ (f10 _ nik2)) (r9 _ (f14 _ jA));exact { o:=hx16,T:=⟨⟨dt,e8 _ _ ntx ht8⟩,e8 _ _ nt1x hr8,e8 _ _ nt2x hm8,n12⟩,I:=⟨⟨di,e12 _ _ nikx (k12 _ _ nikx hi11)⟩,e12 _ _ nik1x (k12 _ _ nik1x hr11),e12 _ _ nik2x (k12 _ _ nik2x hm11),n12'⟩,s:=⟨ds,k16 _ _ wO (s15 _ _ (k14 _ _ wO h13))⟩,n:=k16 _ _ nilx h15,ka:=by rw [iF];rfl,la:=by rw [c6];exact lr,lt:=d5 _,n22:=eJ hm10 nik2,n21:=eJ hm10 nik1,n12:=eJ hr10 nik2 }
def LyC(cO cB cS:Addr):Ly->Addr
 | .one=>cO
 | .both=>cB
 | .up _=>cS
def LyAt(cO cB cS:Addr)(H:Hp)(a:Addr)(l:Ly):Prop:=∃ dx,H a=some (.ins (LyC cO cB cS l) dx [("cells",.int (l.cells:Int)),("backs",.bl l.backs)])
theorem LyAt.same(h:LyAt cO cB cS H a l)(k:eC H H'):LyAt cO cB cS H' a l:=let ⟨dx,e⟩:=h;⟨dx,k _ _ e⟩
def jFg(H:Hp)(y:V)(s:List Int×List Int):Prop:=∃ t f b,y=.ref t/\H t=some (.tup [.ref f,.ref b])/\H f=some (.lst (s.1.map V.int))/\H b=some (.lst (s.2.map V.int))
def jEE(H0 H:Hp)(y:V)(s:List Int×List Int):Prop:=∃ t f b,y=.ref t/\H t=some (.tup [.ref f,.ref b])/\H f=some (.lst (s.1.map V.int))/\H b=some (.lst (s.2.map V.int))/\H0 t=none/\H0 f=none/\H0 b=none
theorem jEE.at(h:jEE H0 H y s):jFg H y s:=let ⟨t,f,b,e,e1,e2,e3,_⟩:=h;⟨t,f,b,e,e1,e2,e3⟩
theorem jEE.old(h:jEE H1 H y s)(k:eC H0 H1):jEE H0 H y s:=let ⟨t,f,b,e,e1,e2,e3,n1,n2,n3⟩:=h;⟨t,f,b,e,e1,e2,e3,k.free n1,k.free n2,k.free n3⟩
def jNx(H0 H:Hp)(p:Addr)(L:List (List Int×List Int)):Prop:=∃ ys,H p=some (.lst ys)/\ys.length=L.length/\∀ (i:Nat) y s,ys[i]?=some y->L[i]?=some s->jEE H0 H y s
theorem jFg.same(h:jFg H y s)(k:eC H H'):jFg H' y s:=let ⟨t,f,b,e,e1,e2,e3⟩:=h;⟨t,f,b,e,k _ _ e1,k _ _ e2,k _ _ e3⟩
theorem jFV(nx:H x=none)(nd:H dx=none):eC H (upd (upd (upd H dx o) x o1) x o2):=by
 rw [uY];exact w5 nx (gM nd _) _
inductive jEX(K:PySem.W.Frag)(vs:List V)(H:Hp)(Q:VK)(E_:XK):Prop|mk (f n:Int) (m:Nat):vs=[.int f,.int (m:Int),.int n]->-(2^40)<=f->f<=2^40->m<=900->(∀ p H',eC H H'->H p=none->H' p=some (.lst ((jGA f m n).map V.int))->Q (.ref p) H')->jEX K vs H Q E_
inductive jBS(K:PySem.W.Frag)(vs:List V)(H:Hp)(Q:VK)(E_:XK):Prop|mk x dx C c b:vs=[.ref x,c,b]->H x=some (.ins C dx [])->Cls K C->jB K C "cells"->jB K C "backs"->Q .non (upd H x (.ins C dx [("cells",c),("backs",b)]))->jBS K vs H Q E_
def jHd(C:Addr)(fs:List (Str×V)):Sp:=fun vs H Q _=>∃ x dx,vs=[.ref x]/\H x=some (.ins C dx [])/\Q .non (upd H x (.ins C dx fs))
inductive jDO(C:Addr)(vs:List V)(H:Hp)(Q:VK)(E_:XK):Prop|mk x dx c:vs=[.ref x,c]->H x=some (.ins C dx [])->Q .non (upd H x (.ins C dx [("cells",c),("backs",.bl true)]))->jDO C vs H Q E_
inductive jGD(cO cB cS:Addr)(vs:List V)(H:Hp)(Q:VK)(E_:XK):Prop|mk a l:vs=[.ref a]->Ly.Ok l->LyAt cO cB cS H a l->Q (.int (l.per:Int)) H->jGD cO cB cS vs H Q E_
inductive jB9(cO cB cS:Addr)(vs:List V)(H:Hp)(Q:VK)(E_:XK):Prop|mk a l f n:vs=[.ref a,.int f,.int n]->Ly.Ok l->LyAt cO cB cS H a l->-(2^20)<=f->f<=2^20->(∀ y H',eC H H'->New H H' (fun H3=>jEE H H3 y (jEC l n f))->Q y H')->jB9 cO cB cS vs H Q E_
inductive jFh(cO cB cS:Addr)(vs:List V)(H:Hp)(Q:VK)(E_:XK):Prop|mk a l (n:Nat):vs=[.ref a,.int (n:Int)]->Ly.Ok l->LyAt cO cB cS H a l->1<=n->n<=999->(∀ p H',eC H H'->H p=none->jNx H H' p (wW l n)->Q (.ref p) H')->jFh cO cB cS vs H Q E_
inductive jFH(cO cB cS:Addr)(vs:List V)(H:Hp)(Q:VK)(E_:XK):Prop|mk l:vs=[.str (Ly.text l)]->Ly.Ok l->(∀ a H',eC H H'->H a=none->LyAt cO cB cS H' a l->Q (.ref a) H')->jFH cO cB cS vs H Q E_
theorem jLo:gF ["first","many","pages"] ["first","many","pages"] (fY jFt):=scM
include T in
theorem jLp(F:Fun K "cells_from" "cells_from" jFt fa fd)  :
 fJ P w K mg base CX0 1 fa fd ["first","many","pages"] (jEX K):=by
 refine F.ok jLo fun fE A outer s H vs Q E hr h=>?_;obtain⟨f,n,m,rfl,f0,f1,hm,q⟩:=h;exists _,(d7 (gY (jCx (frees:=[ ("pages",2) ]) ⟨by decide +kernel,rfl,rfl,by decide +kernel,⟨⟨rfl,rfl,rfl,by decide +kernel⟩,trivial⟩,by decide +kernel,uW rfl,rfl⟩ rfl (jN6 rfl T.ai (dJ (pv 0) (dJ (iO oE (pv 0) (pv 1)) dX))) (fun _ _ _ _=>jCn) (fun _ _ _ _=>by exact (jCE (tcA op_le (pv 0) (pv 1)) (pv 0) (jEt T.bc rfl))))))
 exists _,rfl,_,rfl,_,rfl,_,_,rfl,rfl,_,_,rfl,⟨by omega,by omega,by omega,by omega⟩
 rw [show (f+(m:Int)-f).toNat=m from by omega];refine jDv (jFP f m H) (fun _=>true) (fun v=>match v with|.int x=>.int (if x<=n then x else 0)|v=>v) ?_ (fun x hx H' R _ r=>r) (fun x hx H' R sm _ r=>?_) (fun D H' sm hD hH=>?_)
 ·rw [c6,dP];exact oN (by omega)
 ·obtain⟨i,_,rfl⟩:=eI.mp hx;exists _,rfl,_,rfl,_,_,rfl,rfl,_,rfl;refine oK (fun c=>⟨_,rfl,?_⟩) (fun c=>?_)
  ·have c':=of_decide_eq_true c;dsimp only at r;rw [if_pos c'] at r;exact r
  ·have c':¬ (f+((i:Nat):Int)<=n):=fun z=>c (decide_eq_true z);dsimp only at r;rw [if_neg c'] at r;exact r
 ·refine q D H' sm hD ?_;rw [hH,List.filter_eq_self.mpr (fun _ _=>rfl),iF];unfold jGA;rw [iF];rfl
theorem jKt:gF ["self","cells","backs"] ["self","cells","backs"] (fY jEI):=scM
include T in
theorem jGE(F:Fun K "__init__" "Layout.__init__" jEI fa fd)  :
 fJ P w K mg base CX0 1 fa fd ["self","cells","backs"] (jBS K):=by
 refine F.ok jKt fun fE A outer s H vs Q E hr h=>?_;obtain⟨x,dx,C,c,b,rfl,hx,cl,n1,n2,q⟩:=h;exists _,(d9 (kX (pv 0) (pv 1) rfl) (d7 (kX (pv 0) (pv 2) rfl)))
 exists _,rfl,_,rfl,x,C,dx,_,rfl,hx,cl,n1,(by decide)
 refine⟨_,rfl,_,rfl,x,C,dx,_,rfl,d4,cl,n2,(by show 1<1000;decide),?_⟩;rw [uY];exact q
theorem jMZ:gF ["self"] ["self"] (fY jGZ):=scM
include T in
theorem jM0(F:Fun K "__init__" "One.__init__" jGZ fa fd)(Dai:InD P w K mg base 1 "Layout" yQ ["self","cells","backs"] (jBS K)) :
 fJ P w K mg base CX0 2 fa fd ["self"] (jHd yZ [("cells",.int 1),("backs",.bl false)]):=by
 refine F.ok jMZ (fun fE A outer s H vs Q E hr h=>?_) (fun vs H Q E h=>?_);rotate_left
 ·obtain⟨x,dx,rfl,_⟩:=h;rfl
 obtain⟨x,dx,rfl,hx,q⟩:=h;exists _,(d7 (kE (jD1 Dai hr.m rfl (dJ (pv 0) (dJ eO (dJ nQ dX))))))
 exact⟨_,rfl,x,dx,_,_,_,rfl,hx,T.aH,T.bi,T.bj,q⟩
theorem jMg:gF ["self"] ["self"] (fY jGf):=scM
include T in
theorem jMh(F:Fun K "__init__" "Both.__init__" jGf fa fd)(Dai:InD P w K mg base 1 "Layout" yQ ["self","cells","backs"] (jBS K)) :
 fJ P w K mg base CX0 2 fa fd ["self"] (jHd yX [("cells",.int 1),("backs",.bl true)]):=by
 refine F.ok jMg (fun fE A outer s H vs Q E hr h=>?_) (fun vs H Q E h=>?_);rotate_left
 ·obtain⟨x,dx,rfl,_⟩:=h;rfl
 obtain⟨x,dx,rfl,hx,q⟩:=h;exists _,(d7 (kE (jD1 Dai hr.m rfl (dJ (pv 0) (dJ eO (dJ nQ dX))))))
 exact⟨_,rfl,x,dx,_,_,_,rfl,hx,T.aI,T.bo,T.bp,q⟩
theorem jJE:gF ["self","many"] ["self","many"] (fY jD6):=scM
include T in
theorem jJF(F:Fun K "__init__" "Several.__init__" jD6 fa fd)(Dai:InD P w K mg base 1 "Layout" yQ ["self","cells","backs"] (jBS K)) :
 fJ P w K mg base CX0 2 fa fd ["self","many"] (jDO yY):=by
 refine F.ok jJE fun fE A outer s H vs Q E hr h=>?_;obtain⟨x,dx,c,rfl,hx,q⟩:=h;exists _,(d7 (kE (jD1 Dai hr.m rfl (dJ (pv 0) (dJ (pv 1) (dJ nQ dX))))))
 exact⟨_,rfl,_,rfl,x,dx,_,_,_,rfl,hx,T.aJ,T.bq,T.bu,q⟩
theorem jHw:gF ["self"] ["self"] (fY jCK):=scM
include T in
theorem jCB(F:Fun K "per_sheet" "Layout.per_sheet" jCK fa fd)  :
 fJ P w K mg base CX0 1 fa fd ["self"] (jGD yZ yX yY):=by
 refine F.ok jHw fun fE A outer s H vs Q E hr h=>?_;obtain⟨a,l,rfl,ok,⟨dx,hx⟩,q⟩:=h;have hc:=Ly.cells_pos ok;exists _,(d7 (gY (jCE (mU (hV (pv 0) rfl) (fun _=>rfl)) (iO jFk eO (hV (pv 0) rfl)) (hV (pv 0) rfl))))
 have cl:Cls K (LyC yZ yX yY l)/\jB K (LyC yZ yX yY l) "cells"/\jB K (LyC yZ yX yY l) "backs":=by
  cases l with
  | one=>exact⟨T.aH,T.bi,T.bj⟩
  | both=>exact⟨T.aI,T.bo,T.bp⟩
  | up n=>exact⟨T.aJ,T.bq,T.bu⟩
 exists _,rfl,a,_,dx,_,_,rfl,hx,cl.1,cl.2.2,rfl,l.backs,rfl;unfold Ly.per at q;cases hb:l.backs with
 | true =>
   rw [hb,if_pos rfl] at q;refine kM ⟨_,rfl,a,_,dx,_,_,rfl,hx,cl.1,cl.2.1,rfl,_,_,rfl,rfl,.inl ⟨by decide,by decide⟩,?_⟩;have e:(2:Int)*(l.cells:Int)=((2*l.cells:Nat):Int):=by omega
   show Q (V.int ((2:Int)*(l.cells:Int))) H;rw [e];exact q
 | false =>
   rw [hb,if_neg (by decide)] at q;exact jJ ⟨_,rfl,a,_,dx,_,_,rfl,hx,cl.1,cl.2.1,rfl,q⟩
theorem jDP:gF ["self","first","pages","front"] ["self","first","pages"] (fY jCA):=scM
include T in
theorem jCr(F:Fun K "sheet_from" "Layout.sheet_from" jCA fa fd)(Day:Dfn P w K mg base 1 "cells_from" ["first","many","pages"] (jEX K)) :
 fJ P w K mg base CX0 2 fa fd ["self","first","pages"] (jB9 yZ yX yY):=by
 refine F.ok jDP fun fE A outer s H vs Q E hr h=>?_;obtain⟨a,l,f,n,rfl,ok,⟨dx,hx⟩,f0,f1,q⟩:=h;have hc:=Ly.cells_pos ok;exists _,(d9 (psA (i:=3) jDP.nd (lX Day hr.m rfl (dJ (pv 1) (dJ (hV (pv 0) rfl) (dJ (pv 2) dX))))) (d9 (jC (mU (hV (pv 0) rfl) (fun _=>rfl)) (d7 (gY (mT (dJ (pv 3) (dJ (lX Day hr.m rfl (dJ (iO oE (pv 1) (hV (pv 0) rfl)) (dJ (hV (pv 0) rfl) (dJ (pv 2) dX)))) dX))))) jK) (d7 (gY (mT (dJ (pv 3) (dJ (iO op_rep (lQ (dJ (jEt T.bc rfl) dX)) (hV (pv 0) rfl)) dX)))))))
 have cl:Cls K (LyC yZ yX yY l)/\jB K (LyC yZ yX yY l) "cells"/\jB K (LyC yZ yX yY l) "backs":=by
  cases l with
  | one=>exact⟨T.aH,T.bi,T.bj⟩
  | both=>exact⟨T.aI,T.bo,T.bp⟩
  | up n=>exact⟨T.aJ,T.bq,T.bu⟩
 refine⟨_,rfl,_,rfl,a,_,dx,_,_,rfl,hx,cl.1,cl.2.1,rfl,_,rfl,f,n,l.cells,rfl,by omega,by omega,by omega,fun p H1 s1 np hp=>?_⟩;have pO:=s1 _ _ hx;exists _,rfl,a,_,dx,_,_,rfl,pO,cl.1,cl.2.2,rfl,l.backs,rfl;have fin:∀ (b:Addr) (H2:Hp) (bs:List Int),eC H1 H2->H1 b=none->H2 b=some (.lst (bs.map V.int))->(jEC l n f).2=bs->∀ t,H2 t=none->Q (.ref t) (upd H2 t (.tup [.ref p,.ref b])):=fun b H2 bs s2 nb hb eb t nt=>by
  have hp2:=s2 _ _ hp;refine q _ _ ((s1.trans s2).trans (gM nt _)) ⟨fun z=>z=t\/z=p\/z=b,?_,fun H3 h3=>⟨t,p,b,rfl,?_,?_,?_,(s1.trans s2).free nt,np,s1.free nb⟩⟩
  ·rintro z (rfl|rfl|rfl)
   ·exact⟨(s1.trans s2).free nt,_,d4⟩
   ·exact⟨np,_,by rw [dW (eJ hp2 nt)];exact hp2⟩
   ·exact⟨s1.free nb,_,by rw [dW (eJ hb nt)];exact hb⟩
  ·rw [h3 t (.inl rfl)];exact d4
  ·rw [h3 p (.inr (.inl rfl)),dW (eJ hp2 nt)];exact hp2
  ·rw [h3 b (.inr (.inr rfl)),dW (eJ hb nt),eb];exact hb
 cases hb:l.backs with
 | true =>
   refine kM ⟨_,rfl,_,rfl,_,rfl,a,_,dx,_,_,rfl,pO,cl.1,cl.2.1,rfl,_,_,rfl,rfl,_,rfl,a,_,dx,_,_,rfl,pO,cl.1,cl.2.1,rfl,_,rfl,f+(l.cells:Int),n,l.cells,rfl,by omega,by omega,by omega,fun b H2 s2 nb qT=>⟨wq2,fun t nt=>?_⟩⟩;exact fin b H2 _ s2 nb qT (by unfold jEC;rw [hb,if_pos rfl]) t nt
 | false =>
   refine jJ ⟨_,rfl,wq1,fun z nz=>⟨_,rfl,a,_,dx,_,_,rfl,(gM nz _ _ _ pO),cl.1,cl.2.1,rfl,z,_,_,rfl,rfl,d4,by omega,by omega,?_,fun b nb=>⟨wq2,fun t nt=>?_⟩⟩⟩
   ·refine iG (oN ?_);show 1*((l.cells:Int).toNat)<=1000;omega
   ·refine fin b _ (eQ l.cells 0) ((gM nz _).trans (gM nb _)) ((gM nz _).free nb) ?_ (by unfold jEC;rw [hb,if_neg (by decide)]) t nt;rw [d4];congr 2;rw [fU];clear fin q;induction l.cells with
    | zero=>rfl
    | succ k ih=>rw [gZ,gZ,jX,dQ,ih];rfl
theorem jKu:gF ["self","pages"] ["self","pages"] (fY jEJ):=scM
include T in
theorem jEj(F:Fun K "laid" "Layout.laid" jEJ fa fd)(DaE:MtE P w K mg base 1 "per_sheet" yZ ["self"] (jGD yZ yX yY))(DaF:MtE P w K mg base 1 "per_sheet" yX ["self"] (jGD yZ yX yY))(DaG:MtE P w K mg base 1 "per_sheet" yY ["self"] (jGD yZ yX yY))(DaH:MtE P w K mg base 2 "sheet_from" yZ ["self","first","pages"] (jB9 yZ yX yY))(DaI:MtE P w K mg base 2 "sheet_from" yX ["self","first","pages"] (jB9 yZ yX yY))(DaJ:MtE P w K mg base 2 "sheet_from" yY ["self","first","pages"] (jB9 yZ yX yY)) :
 fJ P w K mg base CX0 3 fa fd ["self","pages"] (jFh yZ yX yY):=by
 refine F.ok jKu fun fE A outer s H vs Q E hr h=>?_;obtain⟨a,l,n,rfl,ok,hl,n0,n1,q⟩:=h;have hp:=Ly.per_pos ok;exists _,(d7 (gY (jCx (frees:=[ ("pages",1) ,("self",0) ]) ⟨by decide +kernel,rfl,rfl,by decide +kernel,⟨⟨rfl,rfl,rfl,by decide +kernel⟩,⟨⟨rfl,rfl,rfl,by decide +kernel⟩,trivial⟩⟩,by decide +kernel,uW rfl,rfl⟩ rfl (jOz rfl T.ai (dJ (jEt T.bL rfl) (dJ (iO oE (pv 1) eO) (dJ (jR 1 nR hr.m (pv 0)) dX)))) (fun _ _ _ _=>jCn) (fun _ _ _ _=>by exact (jOx (P:=P) (w:=w) (K:=K) (mg:=mg) (base:=base) ⟨rfl,rfl,rfl,rfl,rfl⟩ 2 nR hr.m (pv 2) (dJ (pv 0) (dJ (pv 1) dX)))))))
 obtain⟨dx,hx⟩:=id hl;have cl:Cls K (LyC yZ yX yY l):=by
  cases l with
  | one=>exact T.aH
  | both=>exact T.aI
  | up n=>exact T.aJ
 have D1:MtE P w K mg base 1 "per_sheet" (LyC yZ yX yY l) ["self"] (jGD yZ yX yY):=by
  cases l with
  | one=>exact DaE
  | both=>exact DaF
  | up n=>exact DaG
 have D2:MtE P w K mg base 2 "sheet_from" (LyC yZ yX yY l) ["self","first","pages"] (jB9 yZ yX yY):=by
  cases l with
  | one=>exact DaH
  | both=>exact DaI
  | up n=>exact DaJ
 exists _,rfl,_,_,rfl,rfl,_,rfl,a,_,dx,_,_,_,rfl,hx,rfl,cl,D1,a,l,rfl,ok,hl,_,_,_,rfl,⟨by decide,by decide,by omega,by omega,by omega,by omega⟩
 have hm:(n-1)/l.per*l.per<=n-1:=Nat.div_mul_le_self _ _;have u8:(n-1)/l.per<=n-1:=Nat.div_le_self _ _;have ec:(if (1:Int)<(n:Int)+1 then ((n:Int)+1-1-1)/(l.per:Int)+1 else 0).toNat=mO l n:=by
  rw [if_pos (by omega),show (n:Int)+1-1-1=((n-1:Nat):Int) from by omega,<- Int.natCast_ediv];unfold mO;generalize (n-1)/l.per=z;omega
 rw [ec];refine jFp (jNK 1 (l.per:Int) (mO l n) H) (fun x y H3=>∃ f:Int,x=.int f/\jEE H H3 y (jEC l n f)) ?_ (fun x wC H' R _ r=>r) (fun x wC H' R sm r=>?_) (fun D H' ys sm hD hH hl' hg=>?_)
 ·rw [c6,dP];unfold mO;exact oN (by omega)
 ·obtain⟨i,hi,rfl⟩:=eI.mp wC;have hi':i<(n-1)/l.per+1:=j8.mp hi;have hb:i*l.per<=(n-1)/l.per*l.per:=Nat.mul_le_mul_right _ (by omega);have qT:((i:Nat):Int)*(l.per:Int)=((i*l.per:Nat):Int):=by rw [Int.natCast_mul]
  refine⟨_,rfl,a,_,dx,_,_,_,rfl,sm _ _ hx,rfl,cl,D2,_,rfl,_,rfl,a,l,_,_,rfl,ok,hl.same sm,by omega,by omega,fun y H'' s2 nw=>r y H'' s2 ?_⟩;obtain⟨Z,z1,z2⟩:=nw;exact⟨Z,z1,fun H3 h3=>⟨_,rfl,(z2 H3 h3).old sm⟩⟩
 ·refine q D H' sm hD ⟨ys,hH,?_,fun i y s ey es=>?_⟩
  ·rw [hl'];unfold wW;simp only [dP,c6]
  ·have hi:i<mO l n:=by
    have:=(List.getElem?_eq_some_iff.mp ey).1;rw [hl',c6,dP] at this;exact this
   unfold wW at es;rw [getElem?_map,getElem?_range hi] at es;obtain rfl:=Option.some.inj es;obtain⟨f,ef,g⟩:=hg i _ y (by rw [getElem?_map,getElem?_range hi];rfl) ey;cases ef;exact g
theorem jMi:gF ["text"] ["text"] (fY jGg):=scM
include T in
theorem jMj(F:Fun K "layout_of" "layout_of" jGg fa fd)(Da9:MkD P w K mg base 2 "Several" yY ["self","many"] (jDO yY))(Dba:MkD P w K mg base 2 "One" yZ ["self"] (jHd yZ [("cells",.int 1),("backs",.bl false)]))(Dbb:MkD P w K mg base 2 "Both" yX ["self"] (jHd yX [("cells",.int 1),("backs",.bl true)])) :
 fJ P w K mg base CX0 4 fa fd ["text"] (jFH yZ yX yY):=by
 refine F.ok jMi fun fE A outer s H vs Q E hr h=>?_;obtain⟨l,rfl,ok,q⟩:=h;exists _,(d9 (jC (tcA nC (pv 0) hX) (d7 (gY (jCJ Dba hr.m rfl))) jK) (d9 (jC (tcA nC (pv 0) hX) (d7 (gY (jCJ Dbb hr.m rfl))) jK) (d7 (gY (jCI Da9 hr.m rfl (dJ (uC jDb rfl T.aF jHF (dJ (jCH jHG (pv 0) (jDt (rV jLJ rfl T.ao iT (dJ (uT T.UP rfl) dX))) jDs) dX)) dX))))))
 exists _,rfl,rfl,_,rfl;cases l with
 | one=>exact jHS rfl fun x dx nx nd ne=>⟨x,dx,rfl,d4,rfl,q x _ (jFV nx nd) nx ⟨dx,d4⟩⟩
 | both=>exact jE5 (by decide +kernel) ⟨_,rfl,rfl,_,rfl,jHS rfl fun x dx nx nd ne=>⟨x,dx,rfl,d4,rfl,q x _ (jFV nx nd) nx ⟨dx,d4⟩⟩⟩
 | up n =>
   obtain⟨u1,u2,u3,u4,u5⟩:=jOH ok.1 ok.2;have l3:(((c7 "up:").length:Nat):Int)=3:=by decide +kernel
   refine jE5 (by intro z;injection z with z;exact u3 z) ⟨_,rfl,rfl,_,rfl,jE5 (by intro z;injection z with z;exact u4 z) ?_⟩;exists _,rfl,_,rfl,(by decide +kernel),_,rfl,_,rfl,small (le_trans u5 (by decide));rw [l3];exact⟨_,_,rfl,u1,le_trans u2 (by decide),fun x dx nx nd ne=>⟨x,dx,_,rfl,d4,rfl,q x _ (jFV nx nd) nx ⟨dx,d4⟩⟩⟩
inductive jGt(C:Addr)(vs:List V)(H:Hp)(Q:VK)(E_:XK):Prop|mk (x dx:Addr) (a b c d e f g h i j:V):vs=[.ref x,a,b,c,d,e,f,g,h,i,j]->H x=some (.ins C dx [])->Q .non (upd H x (.ins C dx (tZ a b c d e f g h i j)))->jGt C vs H Q E_
theorem jF0(a b c d e f g h i j:V):(tZ a b c d e f g h i j).lookup ("name":Str)=some a:=rfl
theorem jF2(a b c d e f g h i j:V):(tZ a b c d e f g h i j).lookup ("pages":Str)=some c:=rfl
theorem jF3(a b c d e f g h i j:V):(tZ a b c d e f g h i j).lookup ("copies":Str)=some d:=rfl
theorem jF4(a b c d e f g h i j:V):(tZ a b c d e f g h i j).lookup ("layout":Str)=some e:=rfl
theorem jF5(a b c d e f g h i j:V):(tZ a b c d e f g h i j).lookup ("paper":Str)=some f:=rfl
theorem jF6(a b c d e f g h i j:V):(tZ a b c d e f g h i j).lookup ("cover":Str)=some g:=rfl
theorem jF7(a b c d e f g h i j:V):(tZ a b c d e f g h i j).lookup ("colour":Str)=some h:=rfl
theorem jM1:gF ["self","name","asker","pages","copies","layout","paper","cover","colour","staple","after"] ["self","name","asker","pages","copies","layout","paper","cover","colour","staple","after"] (fY jG7):=scM
include T in
theorem jM2(F:Fun K "__init__" "Job.__init__" jG7 fa fd)  :
 fJ P w K mg base CX0 1 fa fd ["self","name","asker","pages","copies","layout","paper","cover","colour","staple","after"] (jGt yG):=by
 refine F.ok jM1 fun fE A outer s H vs Q E hr h=>?_;obtain⟨x,dx,a,b,c,d,e,f,g,h,i,j,rfl,hx,q⟩:=h;exists _,(d9 (kX (pv 0) (pv 1) rfl) (d9 (kX (pv 0) (pv 2) rfl) (d9 (kX (pv 0) (pv 3) rfl) (d9 (kX (pv 0) (pv 4) rfl) (d9 (kX (pv 0) (pv 5) rfl) (d9 (kX (pv 0) (pv 6) rfl) (d9 (kX (pv 0) (pv 7) rfl) (d9 (kX (pv 0) (pv 8) rfl) (d9 (kX (pv 0) (pv 9) rfl) (d7 (kX (pv 0) (pv 10) rfl)))))))))))
 refine⟨_,rfl,_,rfl,x,yG,dx,_,rfl,hx,T.ae,T.aA,(by show 0<1000;decide),?_⟩;rw [w9 (by show ¬ ("name":Str)∈([]:List Str);decide +kernel)];refine⟨_,rfl,_,rfl,x,yG,dx,_,rfl,d4,T.ae,T.bQ,(by show 1<1000;decide),?_⟩;rw [uY,w9 (by show ¬ ("asker":Str)∈(["name"]:List Str);decide +kernel)];refine⟨_,rfl,_,rfl,x,yG,dx,_,rfl,d4,T.ae,T.bD,(by show 2<1000;decide),?_⟩;rw [uY,w9 (by show ¬ ("pages":Str)∈(["name","asker"]:List Str);decide +kernel)];refine⟨_,rfl,_,rfl,x,yG,dx,_,rfl,d4,T.ae,T.bE,(by show 3<1000;decide),?_⟩;rw [uY,w9 (by show ¬ ("copies":Str)∈(["name","asker","pages"]:List Str);decide +kernel)];refine⟨_,rfl,_,rfl,x,yG,dx,_,rfl,d4,T.ae,T.bF,(by show 4<1000;decide),?_⟩;rw [uY,w9 (by show ¬ ("layout":Str)∈(["name","asker","pages","copies"]:List Str);decide +kernel)];refine⟨_,rfl,_,rfl,x,yG,dx,_,rfl,d4,T.ae,T.aU,(by show 5<1000;decide),?_⟩;rw [uY,w9 (by show ¬ ("paper":Str)∈(["name","asker","pages","copies","layout"]:List Str);decide +kernel)];refine⟨_,rfl,_,rfl,x,yG,dx,_,rfl,d4,T.ae,T.bx,(by show 6<1000;decide),?_⟩;rw [uY,w9 (by show ¬ ("cover":Str)∈(["name","asker","pages","copies","layout","paper"]:List Str);decide +kernel)];refine⟨_,rfl,_,rfl,x,yG,dx,_,rfl,d4,T.ae,T.bG,(by show 7<1000;decide),?_⟩;rw [uY,w9 (by show ¬ ("colour":Str)∈(["name","asker","pages","copies","layout","paper","cover"]:List Str);decide +kernel)];refine⟨_,rfl,_,rfl,x,yG,dx,_,rfl,d4,T.ae,T.bR,(by show 8<1000;decide),?_⟩;rw [uY,w9 (by show ¬ ("staple":Str)∈(["name","asker","pages","copies","layout","paper","cover","colour"]:List Str);decide +kernel)];refine⟨_,rfl,_,rfl,x,yG,dx,_,rfl,d4,T.ae,T.bS,(by show 9<1000;decide),?_⟩;rw [uY,w9 (by show ¬ ("after":Str)∈(["name","asker","pages","copies","layout","paper","cover","colour","staple"]:List Str);decide +kernel)];exact q
structure Jv where
 n:Nat
 l:Ly
 paper:Str
 cover:Option Str
 colour:Option (Int×Int)
def Jv.Ok(j:Jv):Prop:=1<=j.n/\j.n<=999/\Ly.Ok j.l
def oV:Option Str->V
 | some z=>.str z
 | none=>.non
def jHe(H:Hp)(v:V):Option (Int×Int)->Prop
 | none=>v=.non
 | some c=>∃ t,v=.ref t/\H t=some (.tup [.int c.1,.int c.2])
theorem jHe.same(h:jHe H v c)(k:eC H H'):jHe H' v c:=by
 cases c with
 | none=>exact h
 | some c=>obtain⟨t,e,g⟩:=h;exact⟨t,e,k _ _ g⟩
def JO(C:Addr)(H:Hp)(x:Addr)(j:Jv):Prop:=∃ dx a b d i k cv,H x=some (.ins C dx (tZ a b (.int (j.n:Int)) d (.str (Ly.text j.l)) (.str j.paper) (oV j.cover) cv i k))/\jHe H cv j.colour
def jIj(c:Option (Int×Int))(x:Int):Bool:=match c with
 | none=>false
 | some c=>decide (c.1<=x)&&decide (x<=c.2)
def jCL(s:List Int×List Int):List Int:=(s.1++s.2).filter fun x=>decide (x≠0)
def tL(s:List Int×List Int)(c:Option (Int×Int)):Int×Int:=(((jCL s).length:Int)-(((jCL s).filter (jIj c)).length:Int),(((jCL s).filter (jIj c)).length:Int))
inductive jFI(cJ:Addr)(vs:List V)(H:Hp)(Q:VK)(E_:XK):Prop|mk x j:vs=[.ref x]->JO cJ H x j->j.Ok->(∀ p H',eC H H'->H p=none->jNx H H' p (wW j.l j.n)->Q (.ref p) H')->jFI cJ vs H Q E_
inductive jGu(cJ:Addr)(vs:List V)(H:Hp)(Q:VK)(E_:XK):Prop|mk x j (s:Int):vs=[.ref x,.int s]->JO cJ H x j->Q (.str (if s=0 then j.cover.getD j.paper else j.paper)) H->jGu cJ vs H Q E_
inductive jHY(K:PySem.W.Frag)(vs:List V)(H:Hp)(Q:VK)(E_:XK):Prop|mk (t:V) (cv:V) (s:List Int×List Int) (c:Option (Int×Int)):vs=[t,cv]->jFg H t s->s.1.length<=100->s.2.length<=100->jHe H cv c->(∀ p H',eC H H'->H p=none->H' p=some (.tup [.int (tL s c).1,.int (tL s c).2])->Q (.ref p) H')->jHY K vs H Q E_
inductive jEk(K:PySem.W.Frag)(vs:List V)(H:Hp)(Q:VK)(E_:XK):Prop|mk (x:Int) (cv:V) (c:Option (Int×Int)):vs=[.int x,cv]->jHe H cv c->Q (.bl (jIj c x)) H->jEk K vs H Q E_
theorem LyD{K:PySem.W.Frag}{cO cB cS:Addr}{M:Addr->Prop}(l:Ly)(h0:M cO)(h1:M cB)(h2:M cS):M (LyC cO cB cS l):=by
 cases l with
 | one=>exact h0
 | both=>exact h1
 | up n=>exact h2
theorem jMk:gF ["job"] ["job"] (fY jGh):=scM
include T in
theorem jMl(F:Fun K "sheets_of" "sheets_of" jGh fa fd)(Dbc:Dfn P w K mg base 4 "layout_of" ["text"] (jFH yZ yX yY))(Dbd:MtE P w K mg base 3 "laid" yZ ["self","pages"] (jFh yZ yX yY))(Dbe:MtE P w K mg base 3 "laid" yX ["self","pages"] (jFh yZ yX yY))(Dbf:MtE P w K mg base 3 "laid" yY ["self","pages"] (jFh yZ yX yY)) :
 fJ P w K mg base CX0 5 fa fd ["job"] (jFI yG):=by
 refine F.ok jMk fun fE A outer s H vs Q E hr h=>?_;obtain⟨x,j,rfl,⟨dx,a,b,d,i,k,cv,hx,_⟩,⟨n0,n1,ok⟩,q⟩:=h;exists _,(d7 (gY (oM 3 nR hr.m (lX Dbc hr.m rfl (dJ (hV (pv 0) rfl) dX)) (dJ (hV (pv 0) rfl) dX))))
 refine⟨_,rfl,x,yG,dx,_,_,rfl,hx,T.ae,T.bF,jF4 _ _ _ _ _ _ _ _ _ _,j.l,rfl,ok,fun y H1 s1 ny Y=>?_⟩;obtain⟨dy,hy⟩:=id Y;exists y,_,dy,_,_,_,rfl,hy,rfl,LyD (K:=K) (M:=fun C=>Cls K C) j.l T.aH T.aI T.aJ,LyD (K:=K) (M:=fun C=>MtE P w K mg base 3 "laid" C ["self","pages"] (jFh yZ yX yY)) j.l Dbd Dbe Dbf;exact⟨_,rfl,x,yG,dx,_,_,rfl,s1 _ _ hx,T.ae,T.bD,jF2 _ _ _ _ _ _ _ _ _ _,y,j.l,j.n,rfl,ok,Y,n0,n1,fun p H' s2 np SF=>q p H' (s1.trans s2) (s1.free np) (let ⟨ys,e1,e2,g⟩:=SF;⟨ys,e1,e2,fun i y s h1 h2=>(g i y s h1 h2).old s1⟩)⟩
theorem jM3:gF ["job","sheet"] ["job","sheet"] (fY jG0):=scM
include T in
theorem jM4(F:Fun K "paper_of" "paper_of" jG0 fa fd)  :
 fJ P w K mg base CX0 1 fa fd ["job","sheet"] (jGu yG):=by
 refine F.ok jM3 fun fE A outer s H vs Q E hr h=>?_;obtain⟨x,j,s,rfl,⟨dx,a,b,d,i,k,cv,hx,_⟩,q⟩:=h;exists _,(d9 (jC (PW.pt (rA (tcA nC (pv 1) (jEt T.bM rfl)) (sR (tcA jFe (hV (pv 0) rfl) nX)))) (d7 (gY (hV (pv 0) rfl))) jK) (d7 (gY (hV (pv 0) rfl))))
 exists _,rfl,rfl,_,rfl;by_cases hs:s=0
 ·subst hs;rw [if_pos rfl] at q;refine jHS rfl ?_;refine⟨_,rfl,x,yG,dx,_,_,rfl,hx,T.ae,T.bx,jF6 _ _ _ _ _ _ _ _ _ _,(by cases j.cover<;>rfl),_,rfl,?_⟩;cases e:j.cover with
  | none =>
    rw [e] at q;exact jJ ⟨_,rfl,x,yG,dx,_,_,rfl,hx,T.ae,T.aU,jF5 _ _ _ _ _ _ _ _ _ _,q⟩
  | some z =>
    rw [e] at q hx;exact kM ⟨_,rfl,x,yG,dx,_,_,rfl,hx,T.ae,T.bx,jF6 _ _ _ _ _ _ _ _ _ _,q⟩
 ·rw [if_neg hs] at q;exact jE5 (by intro z;injection z with z;exact hs z) (jJ ⟨_,rfl,x,yG,dx,_,_,rfl,hx,T.ae,T.aU,jF5 _ _ _ _ _ _ _ _ _ _,q⟩)
theorem jKv:gF ["page","colour"] ["page","colour"] (fY jEK):=scM
include T in
theorem jKw(F:Fun K "is_coloured" "is_coloured" jEK fa fd)  :
 fJ P w K mg base CX0 1 fa fd ["page","colour"] (jEk K):=by
 refine F.ok jKv fun fE A outer s H vs Q E hr h=>?_;obtain⟨x,cv,c,rfl,hc,q⟩:=h;exists _,(d7 (gY (jIX (ecA jFe (pv 1) nX) (jLC (jO7 op_le op_le (ixA j1 (pv 1) eO) (pv 0) (ixA j1 (pv 1) eO))))))
 cases c with
 | none =>
   have e:cv=.non:=hc;subst e;exact⟨_,rfl,rfl,false,rfl,jJ q⟩
 | some c =>
   obtain⟨t,rfl,ht⟩:=hc;refine⟨_,rfl,rfl,true,rfl,kM ?_⟩;exists _,rfl,t,_,_,_,rfl,rfl,SqT.of ht,kL (j:=0) rfl,_,rfl,_,_,rfl,rfl,decide (c.1<=x),rfl;have e:jIj (some c) x=(decide (c.1<=x)&&decide (x<=c.2)):=rfl;rw [e] at q;cases h1:decide (c.1<=x) with
   | false =>
     rw [h1] at q;exact jJ q
   | true =>
     rw [h1] at q;exact kM ⟨_,rfl,t,_,_,_,rfl,rfl,SqT.of ht,kL (j:=1) rfl,_,_,rfl,rfl,q⟩
theorem jMm(xs:List Int)(p:Int->Bool):(((xs.map V.int).filter fun v=>match v with|.int x=>p x|_=>false).map fun v=>v)=(xs.filter p).map V.int:=by
 rw [List.map_id'];induction xs with
 | nil=>rfl
 | cons x r ih =>
   rw [dQ,kH,kH];dsimp only;by_cases h:p x=true
   ·rw [if_pos h,if_pos h,dQ,ih]
   ·rw [if_neg h,if_neg h,ih]
theorem jHZ:gF ["sheet","colour","printed","coloured"] ["sheet","colour"] (fY jIL):=scM
include T in
theorem jOO(F:Fun K "ink_of" "ink_of" jIL fa fd)(Dbg:Dfn P w K mg base 1 "is_coloured" ["page","colour"] (jEk K)) :
 fJ P w K mg base CX0 2 fa fd ["sheet","colour"] (jHY K):=by
 refine F.ok jHZ fun fE A outer s H vs Q E hr h=>?_;obtain⟨t,cv,s,c,rfl,⟨ta,fa',ba,rfl,ht,hf,hb⟩,lf,lb,hc,q⟩:=h;exists _,(d9 (jJ4 (i:=2) (frees:=[]) ⟨by decide +kernel,rfl,rfl,by decide +kernel,trivial,by decide +kernel,uW rfl,rfl⟩ jHZ.nd rfl rfl rfl (q9 (iO op_cat (ixA j1 (pv 0) eO) (ixA j1 (pv 0) eO))) (fun _ _ _ _=>by exact (jGU (tcA jEr (pv 0) (jEt T.bc rfl)))) (fun _ _ _ _=>by exact (pv 0))) (d9 (psA (i:=3) jHZ.nd (rV jBr rfl T.ao iT (dJ (jCx (frees:=[ ("colour",1) ]) ⟨by decide +kernel,rfl,rfl,by decide +kernel,⟨⟨rfl,rfl,rfl,by decide +kernel⟩,trivial⟩,by decide +kernel,uW rfl,rfl⟩ rfl (q9 (pv 2)) (fun _ _ _ _=>by exact (jGU (jOq (K:=K) rfl (lX Dbg hr.m rfl (dJ (pv 0) (dJ (pv 1) dX))) (fun _=>rfl)))) (fun _ _ _ _=>by exact (pv 0))) dX))) (d7 (gY (mT (dJ (iO jHA (rV jBr rfl T.ao iT (dJ (pv 2) dX)) (pv 3)) (dJ (pv 3) dX)))))))
 refine⟨_,rfl,ta,_,_,_,rfl,rfl,SqT.of ht,kL (j:=0) rfl,_,rfl,ta,_,_,_,rfl,rfl,SqT.of ht,kL (j:=1) rfl,fa',ba,_,_,rfl,rfl,hf,hb,(by rw [c6,c6];exact small (by omega)),fun pc npc=>?_⟩;rw [<- dU];have s1:=gM npc (.lst ((s.1++s.2).map V.int));refine⟨pc,rfl,⟨_,SqL.of d4⟩,jDv (jFn (K:=K) (SqL.of d4)) (fun v=>match v with|.int x=>decide (x≠0)|_=>false) (fun v=>v) ?_ (fun x hx H' R _ r=>?_) (fun x hx H' R sm _ r=>⟨_,rfl,r⟩) (fun D H2 s2 hD hH=>?_)⟩
 ·rw [c6,dH];exact oN (by omega)
 ·obtain⟨y,_,rfl⟩:=eI.mp hx;exists _,rfl,rfl,_,rfl;have e:(!decide (V.int y=V.int 0))=decide (y≠0):=by
   by_cases h:y=0
   ·rw [decide_eq_true (by rw [h]),decide_eq_false (fun z=>z h)];rfl
   ·rw [decide_eq_false (by intro z;injection z with z;exact h z),decide_eq_true h];rfl
  rw [e];exact r
 rw [jMm] at hH;have hH':H2 D=some (.lst ((jCL s).map V.int)):=hH;have lp:(jCL s).length<=200:=by
  refine le_trans (iE _ _) ?_;rw [dH];omega
 have s12:=s1.trans s2;refine⟨_,rfl,D,rfl,⟨_,SqL.of hH'⟩,jDv (jFn (K:=K) (SqL.of hH')) (fun v=>match v with|.int x=>jIj c x|_=>false) (fun v=>v) ?_ (fun x hx H' R sm r=>?_) (fun x hx H' R sm _ r=>⟨_,rfl,r⟩) (fun D2 H3 s3 vB hH3=>?_)⟩
 ·rw [c6];exact oN (by omega)
 ·obtain⟨y,_,rfl⟩:=eI.mp hx;exact⟨_,rfl,_,rfl,y,cv,c,rfl,(hc.same s12).same sm,_,rfl,r⟩
 rw [jMm] at hH3;exists D2,_,rfl,.inl (SqL.of hH3);refine⟨_,rfl,D,_,rfl,.inl (SqL.of (s3 _ _ hH')),_,rfl,_,_,rfl,rfl,_,rfl,wq2,fun p np=>?_⟩;refine q p _ ((s12.trans s3).trans (gM np _)) ((s12.trans s3).free np) ?_;rw [d4];unfold tL;simp only [c6]
inductive jCC(K:PySem.W.Frag)(vs:List V)(H:Hp)(Q:VK)(E_:XK):Prop|mk (a:Addr) (k:Int) (ns:List Int):vs=[.ref a,.int k]->SqL K H a (ns.map V.int)->0<=k->Q (.int (ns.getD k.toNat 0)) H->jCC K vs H Q E_
theorem jJG:gF ["_law_script","_law_k"] ["_law_script","_law_k"] (fY jEh):=scM
include T in
theorem jJH(F:Fun K "_law_cell_at" "_law_cell_at" jEh fa fd)  :
 fJ P w K mg base CX0 1 fa fd ["_law_script","_law_k"] (jCC K):=by
 refine F.ok jJG fun fE A outer s H vs Q E hr h=>?_;obtain⟨a,k,ns,rfl,hS,k0,q⟩:=h;exists _,(d9 (jC (tcA jFN (pv 1) (rV jBr rfl T.ao iT (dJ (pv 0) dX))) (d7 (gY (ixA lE (pv 0) (pv 1)))) jK) (d7 (gY eO)))
 exists _,rfl,_,rfl,a,_,rfl,.inl hS,_,_,rfl,rfl,_,rfl;refine oK (fun c=>?_) (fun c=>?_)
 ·refine⟨_,rfl,_,rfl,a,_,_,rfl,rfl,hS,k0,of_decide_eq_true c,fun v hv=>?_⟩;rw [getElem?_map] at hv;obtain⟨z,ez,rfl⟩:=dY.mp hv;rw [getD_eq_getElem?_getD,ez] at q;exact q
 ·have c':¬ k<((ns.map V.int).length:Int):=fun z=>c (decide_eq_true z);rw [c6] at c';rw [getD_eq_getElem?_getD,getElem?_eq_none (by omega)] at q;exact q
def oJ(c k m:Int):Int:=((c%1000003+1)*(k*k+48271))%(([65537,64007,62003]:List Int).getD (k%3).toNat 1)%m
theorem jGF(h:0<m):0<=oJ c k m:=gU _ (by omega)
theorem jGG(h:0<m):oJ c k m<m:=fK _ h
inductive jC8(K:PySem.W.Frag)(vs:List V)(H:Hp)(Q:VK)(E_:XK):Prop|mk (c k m:Int):vs=[.int c,.int k,.int m]->0<=k->k<=10000->0<m->(∀ H',eC H H'->Q (.int (oJ c k m)) H')->jC8 K vs H Q E_
theorem jM5:gF ["_law_cell","_law_k","_law_many"] ["_law_cell","_law_k","_law_many"] (fY jG8):=scM
include T in
theorem jM6(F:Fun K "_law_mix" "_law_mix" jG8 fa fd)  :
 fJ P w K mg base CX0 1 fa fd ["_law_cell","_law_k","_law_many"] (jC8 K):=by
 refine F.ok jM5 fun fE A outer s H vs Q E hr h=>?_;obtain⟨c,k,m,rfl,k0,k1,m0,q⟩:=h;have z3:3<=c9:=small (by decide);exists _,(d7 (gY (iO t8 (iO t8 (iO jFk (iO oE (iO t8 (pv 0) eO) eO) (iO oE (iO jFk (pv 1) (pv 1)) eO)) (ixA lE (lQ (dJ eO (dJ eO (dJ eO dX)))) (iO t8 (pv 1) eO))) (pv 2))))
 have b0:=gU c (show (1000003:Int)≠0 by decide);have b1:=fK c (show (0:Int)<1000003 by decide);have d0:=gU k (show (3:Int)≠0 by decide);have d1:=fK k (show (0:Int)<3 by decide);refine⟨_,rfl,_,_,rfl,rfl,(by show (0:Int)<1000003;decide),_,_,rfl,rfl,_,rfl,_,rfl,_,_,rfl,rfl,.inr ⟨by omega,by omega⟩,_,_,rfl,rfl,_,_,rfl,rfl,.inl ⟨by omega,by omega⟩,z3,fun p np=>?_⟩;have s1:=gM np (.lst [V.int 65537,V.int 64007,V.int 62003]);have h1:upd H p (.lst [V.int 65537,V.int 64007,V.int 62003]) p=some (.lst (([65537,64007,62003]:List Int).map V.int)):=d4;generalize upd H p (.lst [V.int 65537,V.int 64007,V.int 62003])=H1 at s1 h1 ⊢;refine⟨_,rfl,_,_,rfl,rfl,(by show (0:Int)<3;decide),p,_,_,rfl,rfl,SqL.of h1,d0,(by show k%3<3;exact d1),fun v hv=>?_⟩;rw [getElem?_map] at hv;obtain⟨d,ed,rfl⟩:=dY.mp hv;have hd:0<d:=by
  have hm:=mem_of_getElem? ed;simp only [dZ,d6,or_false] at hm;rcases hm with rfl|rfl|rfl<;>decide
 have eg:([65537,64007,62003]:List Int).getD (k%3).toNat 1=d:=by rw [getD_eq_getElem?_getD,ed];rfl
 exists _,_,rfl,rfl,hd,_,rfl,_,_,rfl,rfl,m0;have:=q H1 s1;unfold oJ at this;rw [eg] at this;exact this
abbrev abc:Str:=c7 "abcdefghijklmnopqrstuvwxyz"
def tE(j:Nat):Nat:=abc.cps.toList.getD j 0
def vK(c t:Int)(k:Nat):Int:=c/12+(k:Int)*(k:Int)+(if (k:Int)=c/144%(1+c%12) then t else 0)
def wV(c t:Int)(n:Nat):List Nat:=(range n).map fun k=>tE (vK c t k%26).toNat
def jFW(c t:Int)(n:Nat):Str:=⟨(wV c t n).toArray⟩
theorem jK3(e:S=vK c t i)(h:abc.cps.toList[(S%26).toNat]?=some ch):jFW c t i++(⟨#[ch]⟩:Str)=jFW c t (i+1):=by
 refine Blk.sg_inj ?_;rw [Blk.sg_app];show wV c t i++[ch]=wV c t (i+1);unfold wV;rw [mQ,dU];have:tE (vK c t i%26).toNat=ch:=by
  unfold tE;rw [getD_eq_getElem?_getD,<- e,h];rfl
 rw [dQ,kU,this]
theorem jPB:(jFW c t n).length=n:=by
 show (wV c t n).toArray.size=n;unfold wV;rw [dL,c6,dP]
def wU(c:Int):Nat:=(1+c%12).toNat
theorem jPC:∀ a b:Nat,a<26->b<26->tE a=tE b->a=b:=by
 have h:∀ a:Fin 26,∀ b:Fin 26,tE a.1=tE b.1->a=b:=by decide +kernel
 intro a b ha hb e;exact congrArg Fin.val (h ⟨a,ha⟩ ⟨b,hb⟩ e)
theorem word_ne(t0:0<=t)(t1:t<26)(u0:0<=u)(u1:u<26)(e:jFW c t (wU c)=jFW c u (wU c)):t=u:=by
 have m0:=gU c (show (12:Int)≠0 by decide);have m1:=fK c (show (0:Int)<12 by decide);have ez:((wU c:Nat):Int)=1+c%12:=by unfold wU;omega
 have e2:wV c t (wU c)=wV c u (wU c):=congrArg Blk.sg e;have p0:=gU (c/144) (show (1+c%12:Int)≠0 by omega);have p1:=fK (c/144) (show (0:Int)<1+c%12 by omega);obtain⟨p,hp⟩:∃ p:Nat,(p:Int)=c/144%(1+c%12):=⟨(c/144%(1+c%12)).toNat,by omega⟩
 have hk:p<wU c:=by omega
 have e3:(wV c t (wU c))[p]?=(wV c u (wU c))[p]?:=by rw [e2]
 unfold wV at e3;rw [getElem?_map,getElem?_map,getElem?_range hk] at e3;have e4:=Option.some.inj e3;have a0:=gU (vK c t p) (show (26:Int)≠0 by decide);have a1:=fK (vK c t p) (show (0:Int)<26 by decide);have b0:=gU (vK c u p) (show (26:Int)≠0 by decide);have b1:=fK (vK c u p) (show (0:Int)<26 by decide);have h1:=jPC _ _ (by omega) (by omega) e4;have h2:vK c t p%26=vK c u p%26:=by omega
 unfold vK at h2;rw [if_pos hp,if_pos hp] at h2;generalize c/12+(p:Int)*(p:Int)=X at h2;omega
inductive jFJ(K:PySem.W.Frag)(vs:List V)(H:Hp)(Q:VK)(E_:XK):Prop|mk (c t:Int):vs=[.int c,.int t]->Q (.str (jFW c t (wU c))) H->jFJ K vs H Q E_
theorem jBJ:gF ["_law_cell","_law_turn","_law_letters","_law_size","_law_word_here","_law_k","_law_step"] ["_law_cell","_law_turn"] (fY jGp):=scM
include T in
theorem jMn(F:Fun K "_law_word" "_law_word" jGp fa fd)  :
 fJ P w K mg base CX0 1 fa fd ["_law_cell","_law_turn"] (jFJ K):=by
 refine F.ok jBJ fun fE A outer s H vs Q E hr h=>?_;obtain⟨c,t,rfl,q⟩:=h;exists _,(d9 (psA (i:=2) jBJ.nd hX) (d9 (psA (i:=3) jBJ.nd (iO oE eO (iO t8 (pv 0) eO))) (d9 (psA (i:=4) jBJ.nd hX) (d9 (pN PassesOwn.never rfl (xD rfl T.ai (dJ (pv 3) dX)) (pgA (i:=5) jBJ.nd) (d9 (psA (i:=6) jBJ.nd (iO oE (iO jGx (pv 0) eO) (iO jFk (pv 5) (pv 5)))) (d9 (jC (tcA nC (pv 5) (iO t8 (iO jGx (pv 0) eO) (pv 3))) (d7 (psA (i:=6) jBJ.nd (iO oE (pv 6) (pv 1)))) jK) (d7 (psA (i:=4) jBJ.nd (iO jCR (pv 4) (ixA ix_strA (pv 2) (iO t8 (pv 6) eO)))))))) (d7 (gY (pv 4)))))))
 have m0:=gU c (show (12:Int)≠0 by decide);have m1:=fK c (show (0:Int)<12 by decide);have l26:abc.length=26:=by decide +kernel
 refine⟨_,rfl,_,_,rfl,rfl,(by show (0:Int)<12;decide),_,_,rfl,rfl,?_⟩;refine⟨_,rfl,_,rfl,by omega,by omega,jDr (lo:=0) (n:=(1+c%12).toNat) (fun i σ H'=>H'=H/\∃ (v5 v6:Option V),σ=[some (.int c),some (.int t),some (.str abc),some (.int (1+c%12)),some (.str (jFW c t i)),v5,v6]) ⟨rfl,_,_,rfl⟩ (fun i σ H' hi z=>?_) (fun σ H' z=>?_)⟩
 ·obtain⟨rfl,v5,v6,rfl⟩:=z;rw [zero_add];exists _,rfl,_,_,rfl,rfl,⟨by decide,by decide⟩,_,rfl,_,rfl,_,_,rfl,rfl,.inl ⟨by omega,by omega⟩,_,_,rfl,rfl;refine⟨_,rfl,_,rfl,_,_,rfl,rfl,⟨by decide,by decide⟩,_,rfl,_,_,rfl,rfl,(by show (0:Int)<1+c%12;omega),rfl,_,rfl,?_⟩;have one:∀ ch:Nat,(⟨#[ch]⟩:Str).length=1:=fun _=>rfl;have un:∀ {a b:Int},decide (V.int a=V.int b)=true->a=b:=fun h=>by
   have:=of_decide_eq_true h;injection this
  have nu:∀ {a b:Int},¬ decide (V.int a=V.int b)=true->¬ a=b:=fun h e=>h (decide_eq_true (by rw [e]));refine oK (fun c1=>⟨_,rfl,_,rfl,_,_,rfl,rfl,?_⟩) (fun c1=>?_)
  all_goals
   refine⟨_,rfl,_,rfl,_,rfl,_,_,rfl,rfl,(by show (0:Int)<26;decide),_,_,rfl,rfl,(by rw [l26];exact small (by decide)),gU _ (by decide),(by rw [l26];exact fK _ (by decide)),fun ch rE=>?_⟩;refine⟨_,_,rfl,rfl,(by rw [one,jPB];exact small (by omega)),?_⟩
  ·rw [jK3 (i:=i) (by unfold vK;rw [if_pos (un c1)]) rE];exact⟨rfl,_,_,rfl⟩
  ·rw [jK3 (i:=i) (by unfold vK;rw [if_neg (nu c1),Int.add_zero]) rE];exact⟨rfl,_,_,rfl⟩
 ·obtain⟨rfl,v5,v6,rfl⟩:=z;exact⟨_,rfl,q⟩
theorem jMo:gF ["self","job"] ["self","job"] (fY jGe):=scM
include T in
theorem jMp(F:Fun K "__init__" "Over.__init__" jGe fa fd)  :
 fJ P w K mg base CX0 1 fa fd ["self","job"] (oZ vZ "job"):=by
 refine F.ok jMo fun fE A outer s H vs Q E hr h=>?_;obtain⟨x,y,rfl,hx,q⟩:=h;exists _,(d9 (kE (jDf T.az rfl T.ax (dJ (pv 0) (dJ (pv 1) dX)))) (d7 (jD0 (pv 0) (pv 1) rfl)))
 exists _,rfl,_,rfl,x,_,none,[y],rfl,(by simp),hx,T.aD.m;refine⟨_,rfl,_,rfl,.inl ⟨x,_,rfl,hx,T.aD.i.c,T.aD.n _ (.head _),fun dx nd ne=>?_⟩⟩;exact q _ (jDm nd) (jFC ne)
theorem jJI:gF ["self","job"] ["self","job"] (fY jD5):=scM
include T in
theorem jJJ(F:Fun K "__init__" "Nowhere.__init__" jD5 fa fd)  :
 fJ P w K mg base CX0 1 fa fd ["self","job"] (oZ vX "job"):=by
 refine F.ok jJI fun fE A outer s H vs Q E hr h=>?_;obtain⟨x,y,rfl,hx,q⟩:=h;exists _,(d9 (kE (jDf T.az rfl T.ax (dJ (pv 0) (dJ (pv 1) dX)))) (d7 (jD0 (pv 0) (pv 1) rfl)))
 exists _,rfl,_,rfl,x,_,none,[y],rfl,(by simp),hx,T.aN.m;refine⟨_,rfl,_,rfl,.inl ⟨x,_,rfl,hx,T.aN.i.c,T.aN.n _ (.head _),fun dx nd ne=>?_⟩⟩;exact q _ (jDm nd) (jFC ne)
def prV:Option Addr->V
 | none=>.non
 | some a=>.ref a
def jHf(cJ:Addr)(H:Hp)(x:Addr)(nm:Str)(cp:Nat)(j:Jv):Prop:=∃ dx b i k cv,H x=some (.ins cJ dx (tZ (.str nm) b (.int (j.n:Int)) (.int (cp:Int)) (.str (Ly.text j.l)) (.str j.paper) (oV j.cover) cv i k))/\jHe H cv j.colour
theorem jHf.jo{cJ:Addr}{H:Hp}{x:Addr}{nm:Str}{cp:Nat}{j:Jv}(h:jHf cJ H x nm cp j):JO cJ H x j:=let ⟨dx,b,i,k,cv,e,c⟩:=h;⟨dx,_,b,_,i,k,cv,e,c⟩
theorem jHf.fr{cJ:Addr}{H H':Hp}{x:Addr}{nm:Str}{cp:Nat}{j:Jv}(h:jHf cJ H x nm cp j)(kx:∀ o,H x=some o->H' x=some o)(kt:∀ b xs,H b=some (.tup xs)->H' b=some (.tup xs)):jHf cJ H' x nm cp j:=by
 obtain⟨dx,b,i,k,cv,e,c⟩:=h;exists dx,b,i,k,cv,kx _ e;cases hc:j.colour with
 | none=>rw [hc] at c;exact c
 | some z=>rw [hc] at c;obtain⟨t,e1,e2⟩:=c;exact⟨t,e1,kt _ _ e2⟩
def jH0(H:Hp)(p:Addr)(is:List (Int×Int)):Prop:=∃ ys,H p=some (.lst ys)/\ys.length=is.length/\∀ (i:Nat) y s,ys[i]?=some y->is[i]?=some s->∃ t,y=.ref t/\H t=some (.tup [.int s.1,.int s.2])
theorem jH0.fr(h:jH0 H p is)(kx:∀ o,H p=some o->H' p=some o)(kt:∀ b xs,H b=some (.tup xs)->H' b=some (.tup xs)):jH0 H' p is:=let ⟨ys,e,l,g⟩:=h;⟨ys,kx _ e,l,fun i y s a b=>let ⟨t,e1,e2⟩:=g i y s a b;⟨t,e1,kt _ _ e2⟩⟩
structure RD where
 dx:Addr
 jb:Addr
 il:Addr
 nm:Str
 cp:Nat
 j:Jv
 inks:List (Int×Int)
 ps:Nat
 pr:Option Addr
 sl:Bool
 br:Bool
def RD.fs(r:RD):List (Str×V):=[("job",.ref r.jb),("inks",.ref r.il),("passed",.int (r.ps:Int)),("printer",prV r.pr),("slipped",.bl r.sl),("broken",.bl r.br)]
structure jG(cR cJ:Addr)(H:Hp)(x:Addr)(r:RD):Prop where
 o:H x=some (.ins cR r.dx r.fs)
 j:jHf cJ H r.jb r.nm r.cp r.j
 i:jH0 H r.il r.inks
 n:r.jb≠x
 c1:1<=r.cp
 c2:r.cp<=99
 i1:1<=r.inks.length
 i2:r.inks.length<=999
theorem jG.fr(h:jG cR cJ H x r)(kx:∀ b C d fs,H b=some (.ins C d fs)->H' b=some (.ins C d fs))(kl:∀ o,H r.il=some o->H' r.il=some o)(kt:∀ b xs,H b=some (.tup xs)->H' b=some (.tup xs)):jG cR cJ H' x r:=by
 obtain⟨dx,b,i,k,cv,e,c⟩:=id h.j;exact { h with o:=kx _ _ _ _ h.o,j:=h.j.fr (fun o e'=>by rw [e] at e';cases e';exact kx _ _ _ _ e) kt,i:=h.i.fr kl kt }
theorem jG.same(h:jG cR cJ H x r)(k:eC H H'):jG cR cJ H' x r:=h.fr (fun b C d fs e=>k _ _ e) (fun o e=>k _ _ e) (fun b xs e=>k _ _ e)
theorem jG.set{cR cJ:Addr}{H:Hp}{x:Addr}{r:RD}(h:jG cR cJ H x r)(ps:Nat)(pr:Option Addr)(sl br:Bool):jG cR cJ (upd H x (.ins cR r.dx ({ r with ps:=ps,pr:=pr,sl:=sl,br:=br }:RD).fs)) x { r with ps:=ps,pr:=pr,sl:=sl,br:=br }:=by
 obtain⟨ys,hy,_⟩:=id h.i;exact { h with o:=d4,j:=h.j.fr (fun o e=>by rw [dW h.n];exact e) (fun b xs e=>by rw [dW (eW e h.o nofun)];exact e),i:=h.i.fr (fun o e=>by rw [dW (eW hy h.o nofun)];exact e) (fun b xs e=>by rw [dW (eW e h.o nofun)];exact e) }
def RD.tot(r:RD):Nat:=r.inks.length*r.cp
inductive jDS(cR cJ cP cS cY cM cW:Addr)(vs:List V)(H:Hp)(Q:VK)(E_:XK):Prop|mk x r:vs=[.ref x]->jG cR cJ H x r->Q (.int (r.inks.length:Int)) H->jDS cR cJ cP cS cY cM cW vs H Q E_
theorem jM7:gF ["self"] ["self"] (fY jG2):=scM
include T in
theorem jM8(F:Fun K "each" "Run.each" jG2 fa fd)  :
 fJ P w K mg base CX0 1 fa fd ["self"] (jDS yK yG cZ cQ yJ yW yU):=by
 refine F.ok jM7 fun fE A outer s H vs Q E hr h=>?_;obtain⟨x,r,rfl,R,q⟩:=h;exists _,(d7 (gY (rV jBr rfl T.ao iT (dJ (hV (pv 0) rfl) dX))))
 obtain⟨ys,hy,ly,_⟩:=id R.i;exists _,rfl,x,yK,r.dx,_,_,rfl,R.o,T.aa,T.bv,rfl,r.il,_,rfl,.inl (SqL.of hy);rw [ly];exact q
inductive jEw(cR cJ cP cS cY cM cW:Addr)(vs:List V)(H:Hp)(Q:VK)(E_:XK):Prop|mk x r:vs=[.ref x]->jG cR cJ H x r->Q (.int (r.tot:Int)) H->jEw cR cJ cP cS cY cM cW vs H Q E_
theorem jMq:gF ["self"] ["self"] (fY jGm):=scM
include T in
theorem jMr(F:Fun K "total" "Run.total" jGm fa fd)(Dae:MtE P w K mg base 1 "each" yK ["self"] (jDS yK yG cZ cQ yJ yW yU)) :
 fJ P w K mg base CX0 2 fa fd ["self"] (jEw yK yG cZ cQ yJ yW yU):=by
 refine F.ok jMq fun fE A outer s H vs Q E hr h=>?_;obtain⟨x,r,rfl,R,q⟩:=h;exists _,(d7 (gY (iO jFk (jR 1 nR hr.m (pv 0)) (hV (hV (pv 0) rfl) rfl))))
 obtain⟨dx,b,i,k,cv,e,c⟩:=id R.j;have:=R.i2;have:=R.c2;exists _,rfl,x,_,r.dx,_,_,_,rfl,R.o,rfl,T.aa,Dae,x,r,rfl,R,_,rfl,x,yK,r.dx,_,_,rfl,R.o,T.aa,T.av,rfl,r.jb,yG,dx,_,_,rfl,e,T.ae,T.bE,jF3 _ _ _ _ _ _ _ _ _ _,_,_,rfl,rfl,.inl ⟨by omega,by omega⟩;have e2:((r.tot:Nat):Int)=(r.inks.length:Int)*(r.cp:Int):=by unfold RD.tot;rw [Int.natCast_mul]
 rw [e2] at q;exact q
inductive jFX(cR cJ cP cS cY cM cW:Addr)(vs:List V)(H:Hp)(Q:VK)(E_:XK):Prop|mk x r:vs=[.ref x]->jG cR cJ H x r->Q (.int (r.ps:Int)) H->jFX cR cJ cP cS cY cM cW vs H Q E_
theorem jNR:gF ["self"] ["self"] (fY jHO):=scM
include T in
theorem jNS(F:Fun K "out" "Run.out" jHO fa fd)  :
 fJ P w K mg base CX0 1 fa fd ["self"] (jFX yK yG cZ cQ yJ yW yU):=by
 refine F.ok jNR fun fE A outer s H vs Q E hr h=>?_;obtain⟨x,r,rfl,R,q⟩:=h;exists _,(d7 (gY (hV (pv 0) rfl)))
 exact⟨_,rfl,x,yK,r.dx,_,_,rfl,R.o,T.aa,T.ay,rfl,q⟩
inductive jBx(cR cJ cP cS cY cM cW:Addr)(vs:List V)(H:Hp)(Q:VK)(E_:XK):Prop|mk x r:vs=[.ref x]->jG cR cJ H x r->Q (.bl (decide (r.ps=r.tot))) H->jBx cR cJ cP cS cY cM cW vs H Q E_
theorem jMs:gF ["self"] ["self"] (fY jGn):=scM
include T in
theorem jMt(F:Fun K "whole" "Run.whole" jGn fa fd)(Daz:MtE P w K mg base 2 "total" yK ["self"] (jEw yK yG cZ cQ yJ yW yU)) :
 fJ P w K mg base CX0 3 fa fd ["self"] (jBx yK yG cZ cQ yJ yW yU):=by
 refine F.ok jMs fun fE A outer s H vs Q E hr h=>?_;obtain⟨x,r,rfl,R,q⟩:=h;exists _,(d7 (gY (ecA nC (hV (pv 0) rfl) (jR 2 nR hr.m (pv 0)))))
 exists _,rfl,x,yK,r.dx,_,_,rfl,R.o,T.aa,T.ay,rfl,_,rfl,x,_,r.dx,_,_,_,rfl,R.o,rfl,T.aa,Daz,x,r,rfl,R,rfl;have e:decide (V.int (r.ps:Int)=V.int (r.tot:Int))=decide (r.ps=r.tot):=by
  rw [Bool.eq_iff_iff,decide_eq_true_iff,decide_eq_true_iff];exact⟨fun z=>by injection z with z;omega,fun z=>by rw [z]⟩
 rw [<- e] at q;exact q
inductive jHg(cR cJ cP cS cY cM cW:Addr)(vs:List V)(H:Hp)(Q:VK)(E_:XK):Prop|mk x r:vs=[.ref x]->jG cR cJ H x r->(r.br=false->Q .non H)->(r.br=true->∀ t H',eC H H'->H' t=some (.tup [.int ((r.ps:Int)/(r.inks.length:Int)+1),.int ((r.ps:Int)%(r.inks.length:Int)+1)])->Q (.ref t) H')->jHg cR cJ cP cS cY cM cW vs H Q E_
theorem jM9:gF ["self"] ["self"] (fY jG3):=scM
include T in
theorem jM_(F:Fun K "lack" "Run.lack" jG3 fa fd)(Dae:MtE P w K mg base 1 "each" yK ["self"] (jDS yK yG cZ cQ yJ yW yU)) :
 fJ P w K mg base CX0 2 fa fd ["self"] (jHg yK yG cZ cQ yJ yW yU):=by
 refine F.ok jM9 fun fE A outer s H vs Q E hr h=>?_;obtain⟨x,r,rfl,R,q1,q2⟩:=h;exists _,(d9 (jC (qP (mU (hV (pv 0) rfl) (fun _=>rfl))) (d7 (gY nX)) jK) (d7 (gY (mT (dJ (iO oE (iO jGx (hV (pv 0) rfl) (jR 1 nR hr.m (pv 0))) eO) (dJ (iO oE (iO t8 (hV (pv 0) rfl) (jR 1 nR hr.m (pv 0))) eO) dX))))))
 exists _,rfl,x,yK,r.dx,_,_,rfl,R.o,T.aa,T.aM,rfl,r.br,rfl;have i1:=R.i1;have i2:=R.i2;cases e:r.br with
 | false=>exact kM (q1 e)
 | true =>
   refine jJ ⟨_,rfl,x,yK,r.dx,_,_,rfl,R.o,T.aa,T.ay,rfl,_,rfl,x,_,r.dx,_,_,_,rfl,R.o,rfl,T.aa,Dae,x,r,rfl,R,_,_,rfl,rfl,⟨by omega,by omega⟩,_,_,rfl,rfl,?_⟩;refine⟨_,rfl,x,yK,r.dx,_,_,rfl,R.o,T.aa,T.ay,rfl,_,rfl,x,_,r.dx,_,_,_,rfl,R.o,rfl,T.aa,Dae,x,r,rfl,R,_,_,rfl,rfl,(by omega),_,_,rfl,rfl,wq2,fun t nt=>q2 e t _ (gM nt _) d4⟩
inductive jIP(cR cJ cP cS cY cM cW:Addr)(vs:List V)(H:Hp)(Q:VK)(E_:XK):Prop|mk x r:vs=[.ref x]->jG cR cJ H x r->(r.pr=none->Q .non H)->(∀ p,r.pr=some p->∃ d,iA cP cS cY cM cW H p d/\Q (.str d.name) H)->jIP cR cJ cP cS cY cM cW vs H Q E_
theorem jOP:gF ["self"] ["self"] (fY jIM):=scM
include T in
theorem jOQ(F:Fun K "at" "Run.at" jIM fa fd)  :
 fJ P w K mg base CX0 1 fa fd ["self"] (jIP yK yG cZ cQ yJ yW yU):=by
 refine F.ok jOP fun fE A outer s H vs Q E hr h=>?_;obtain⟨x,r,rfl,R,q1,q2⟩:=h;exists _,(d7 (gY (jCE (tcA jFl (hV (pv 0) rfl) nX) nX (hV (hV (pv 0) rfl) rfl))))
 exists _,rfl,x,yK,r.dx,_,_,rfl,R.o,T.aa,T.ag,rfl;cases hp:r.pr with
 | none=>exact⟨rfl,true,rfl,kM (q1 hp)⟩
 | some p =>
   obtain⟨d,P,q⟩:=q2 p hp;refine⟨rfl,false,rfl,jJ ⟨_,rfl,x,yK,r.dx,_,_,rfl,R.o,T.aa,T.ag,rfl,?_⟩⟩;rw [hp];exact⟨p,cZ,d.dx,_,_,rfl,P.o,T.ad,T.bH,rfl,q⟩
def iU(H:Hp)(nm:Str)(ts:List V)(ns:List Int):Prop:=ts.length=ns.length/\∀ (i:Nat) y n,ts[i]?=some y->ns[i]?=some n->∃ t,y=.ref t/\H t=some (.tup [.str nm,.int n])
theorem iU.fr{H H':Hp}{nm:Str}{ts:List V}{ns:List Int}(h:iU H nm ts ns)(kt:∀ b xs,H b=some (.tup xs)->H' b=some (.tup xs)):iU H' nm ts ns:=⟨h.1,fun i y n a b=>let ⟨t,e,e1⟩:=h.2 i y n a b;⟨t,e,kt _ _ e1⟩⟩
theorem iU.same{H H':Hp}{nm:Str}{ts:List V}{ns:List Int}(h:iU H nm ts ns)(s:eC H H'):iU H' nm ts ns:=h.fr fun b xs e=>s _ _ e
theorem iU.get{H:Hp}{nm:Str}{ts:List V}{ns:List Int}(h:iU H nm ts ns){i:Nat}{y:V}(e:ts[i]?=some y):∃ t n,y=.ref t/\ns[i]?=some n/\H t=some (.tup [.str nm,.int n]):=by
 obtain⟨n,en⟩:∃ n,ns[i]?=some n:=⟨_,getElem?_eq_getElem (by rw [<- h.1];exact (List.getElem?_eq_some_iff.mp e).1)⟩
 obtain⟨t,e1,e2⟩:=h.2 i y n e en;exact⟨t,n,e1,en,e2⟩
theorem iU.drop1{H:Hp}{nm:Str}{ts:List V}{ns:List Int}(h:iU H nm ts ns):iU H nm (ts.drop 1) (ns.drop 1):=⟨by rw [iS,iS,h.1],fun i y n a b=>by rw [List.getElem?_drop] at a b;exact h.2 _ y n a b⟩
theorem iU.take1{H:Hp}{nm:Str}{ts:List V}{ns:List Int}(h:iU H nm ts ns):iU H nm (ts.take 1) (ns.take 1):=⟨by rw [fI,fI,h.1],fun i y n a b=>by
 rw [List.getElem?_take] at a b;by_cases c:i<1
 ·rw [if_pos c] at a b;exact h.2 i y n a b
 ·rw [if_neg c] at a;cases a⟩
theorem iU.snoc{H:Hp}{nm:Str}{ts:List V}{ns:List Int}{t:Addr}{n:Int}(h:iU H nm ts ns)(e:H t=some (.tup [.str nm,.int n])):iU H nm (ts++[.ref t]) (ns++[n]):=⟨by rw [dH,dH,h.1];rfl,fun i y m a b=>by
 by_cases c:i<ts.length
 ·rw [getElem?_append_left c] at a;rw [getElem?_append_left (by rw [<- h.1];exact c)] at b;exact h.2 i y m a b
 ·rw [getElem?_append_right (by omega)] at a;rw [getElem?_append_right (by rw [<- h.1];omega),<- h.1] at b;have l:=(List.getElem?_eq_some_iff.mp a).1;have l':i-ts.length<1:=l;rw [show i-ts.length=0 by omega] at a b;obtain rfl:=Option.some.inj a;obtain rfl:=Option.some.inj b
  exact⟨t,rfl,e⟩⟩
theorem ifs_cut(P:Prop)(ht:∀ Q:Bool->Hp->Prop,(P->Q true H)->(¬ P->Q false H)->t σ H Q)(hA:P->A { D with nx:=C D } σ H)(hB:¬ P->B { D with nx:=C D } σ H):tSeq (tIfS t A B) C D σ H:=ht _ (fun p=>by rw [if_pos rfl];exact hA p) (fun p=>by rw [if_neg (by decide)];exact hB p)
def isSlip(H:Hp)(nm:Str)(v:V):Prop:=∃ a,v=.ref a/\H a=some (.tup [.str nm,.int (-1)])
noncomputable def jIk (H:Hp)(nm:Str)(v:V):Bool:=!@decide (isSlip H nm v) (l4 _)
theorem jMu{H:Hp}{nm:Str}{t:Addr}{n:Int}(h:H t=some (.tup [.str nm,.int n])):jIk H nm (.ref t)=!decide (V.int n=V.int (-1)):=by
 unfold jIk;refine congrArg (fun c=>!c) ?_;by_cases c:n=-1
 ·exact (@decide_eq_true _ (l4 _) ⟨t,rfl,by rw [<- c];exact h⟩).trans (decide_eq_true (by rw [c])).symm
 ·refine (@decide_eq_false _ (l4 _) (fun⟨a',z1,z2⟩=>?_)).trans (decide_eq_false (fun z=>c (by injection z))).symm;cases z1;rw [h] at z2;injection z2 with z2;injection z2 with z2;injection z2 with _ z2;injection z2 with z2 _;injection z2 with z2;exact c z2
def tK(ns:List Int):Nat:=ns.countP fun n=>decide (n≠-1)
def Liv(r:RD):Prop:=r.br=false/\r.ps≠r.tot
def OvR(cO:Addr)(r:RD)(H:Hp)(E:XK):Prop:=∀ ea H',eC H H'->H ea=none->XG H' ea cO [("job",.str r.nm)]->E (.ref cO) (some ea) H'
inductive jB0(cR cJ cO cP cS cY cM cW:Addr)(vs:List V)(H:Hp)(Q:VK)(E:XK):Prop|mk x r:vs=[.ref x]->jG cR cJ H x r->(Liv r->Q .non H)->(¬ Liv r->OvR cO r H E)->jB0 cR cJ cO cP cS cY cM cW vs H Q E
theorem jIw:gF ["self"] ["self"] (fY jDg):=scM
include T in
theorem jIx(F:Fun K "must_go_on" "Run.must_go_on" jDg fa fd)(Dbh:sN P w K mg base 1 "Over" vZ ["self","job"] (oZ vZ "job"))(Daa:MtE P w K mg base 3 "whole" yK ["self"] (jBx yK yG cZ cQ yJ yW yU)) :
 fJ P w K mg base (CXe P w) 4 fa fd ["self"] (jB0 yK yG vZ cZ cQ yJ yW yU):=by
 refine F.okE jIw fun fE A outer s H vs Q E hr h=>?_;obtain⟨x,r,rfl,R,q,q2⟩:=h;exists _,(d7 (jC (PW.pt (vT (mU (hV (pv 0) rfl) (fun _=>rfl)) (w6 (mU (jR 3 jQ hr.m (pv 0)) (fun _=>rfl))))) (d7 (uD uA rfl (uB Dbh hr.m rfl (dJ (hV (hV (pv 0) rfl) rfl) dX)))) jK))
 obtain⟨jx,jb,ji,jk,jc,je,_⟩:=id R.j;exists _,rfl,x,yK,r.dx,_,_,rfl,R.o,T.aa,T.aM,rfl,r.br,rfl;cases e:r.br with
 | true =>
   refine kM (kM ⟨_,rfl,x,yK,r.dx,_,_,rfl,R.o,T.aa,T.av,rfl,r.jb,yG,jx,_,_,rfl,je,T.ae,T.aA,jF0 _ _ _ _ _ _ _ _ _ _,?_⟩);exact rC T.aD.m fun ea H' sm ne g=>q2 (fun z=>by rw [z.1] at e;cases e) ea H' sm ne g
 | false =>
   refine jJ ⟨_,rfl,x,_,r.dx,_,_,_,rfl,R.o,rfl,T.aa,Daa,x,r,rfl,R,decide (r.ps=r.tot),rfl,oK (fun c=>?_) (fun c=>q ⟨e,fun z=>c (decide_eq_true z)⟩)⟩;exists _,rfl,x,yK,r.dx,_,_,rfl,R.o,T.aa,T.av,rfl,r.jb,yG,jx,_,_,rfl,je,T.ae,T.aA,jF0 _ _ _ _ _ _ _ _ _ _;exact rC T.aD.m fun ea H' sm ne g=>q2 (fun z=>z.2 (of_decide_eq_true c)) ea H' sm ne g
inductive jBQ(cR cJ cO cX cP cS cY cM cW:Addr)(vs:List V)(H:Hp)(Q:VK)(E:XK):Prop|mk x r:vs=[.ref x]->jG cR cJ H x r->(Liv r->∀ p,r.pr=some p->Q .non H)->(Liv r->r.pr=none->pL cX "job" (.str r.nm) H E)->(¬ Liv r->OvR cO r H E)->jBQ cR cJ cO cX cP cS cY cM cW vs H Q E
theorem jGH:gF ["self"] ["self"] (fY jCp):=scM
include T in
theorem jGI(F:Fun K "must_be_placed" "Run.must_be_placed" jCp fa fd)(Dbi:sN P w K mg base 1 "Nowhere" vX ["self","job"] (oZ vX "job"))(Daj:MtE P w K mg base 4 "must_go_on" yK ["self"] (jB0 yK yG vZ cZ cQ yJ yW yU)) :
 fJ P w K mg base (CXe P w) 5 fa fd ["self"] (jBQ yK yG vZ vX cZ cQ yJ yW yU):=by
 refine F.okE jGH fun fE A outer s H vs Q E hr h=>?_;obtain⟨x,r,rfl,R,q,qn,q2⟩:=h;exists _,(d9 (kE (jR 4 jQ hr.m (pv 0))) (d7 (jC (tcA jFl (hV (pv 0) rfl) nX) (d7 (uD uA rfl (uB Dbi hr.m rfl (dJ (hV (hV (pv 0) rfl) rfl) dX)))) jK)))
 refine⟨_,rfl,x,_,r.dx,_,_,_,rfl,R.o,rfl,T.aa,Daj,x,r,rfl,R,fun lv=>?_,q2⟩;obtain⟨jx,jb,ji,jk,jc,je,_⟩:=id R.j;exists _,rfl,x,yK,r.dx,_,_,rfl,R.o,T.aa,T.ag,rfl;cases hp:r.pr with
 | some p=>exact⟨rfl,false,rfl,jJ (q lv p hp)⟩
 | none =>
   refine⟨rfl,true,rfl,kM ⟨_,rfl,x,yK,r.dx,_,_,rfl,R.o,T.aa,T.av,rfl,r.jb,yG,jx,_,_,rfl,je,T.ae,T.aA,jF0 _ _ _ _ _ _ _ _ _ _,?_⟩⟩;exact rC T.aN.m fun ea H' sm ne g=>qn lv hp ea H' sm g
theorem jK4{H:Hp}{nm:Str}:∀ {ts:List V} {ns:List Int},iU H nm ts ns->(ts.filter (jIk H nm)).length=tK ns
 | [],[],_=>rfl
 | [],_::_,h=>by have:=h.1;cases this
 | _::_,[],h=>by have:=h.1;cases this
 | v::ts,n::ns,h=>by
   have ih:=jK4 (H:=H) (nm:=nm) (ts:=ts) (ns:=ns) h.drop1;obtain⟨t,rfl,ht⟩:=h.2 0 v n rfl rfl;unfold tK at ih ⊢;rw [List.countP_cons,<- ih,kH,jMu ht];by_cases c:n=-1
   ·rw [decide_eq_true (by rw [c]:V.int n=V.int (-1)),if_neg (by decide),decide_eq_false (by rw [c];decide),if_neg (by decide),add_zero]
   ·rw [decide_eq_false (fun z=>c (by injection z):¬ V.int n=V.int (-1)),if_pos (by decide),decide_eq_true c,if_pos rfl,eY]
def m9(r:RD)(ns:List Int):Int:=if r.sl=false/\ns=[] then -1 else ((r.ps+tK ns:Nat):Int)
inductive jEl(cR cJ cP cS cY cM cW:Addr)(vs:List V)(H:Hp)(Q:VK)(E_:XK):Prop|mk x r:vs=[.ref x]->jG cR cJ H x r->(r.pr=none->Q .non H)->(∀ p,r.pr=some p->∃ d ns,iA cP cS cY cM cW H p d/\iU H r.nm d.tags ns /\
 (m9 r ns<(r.tot:Int)->∀ t H',eC H H'->H t=none->H' t=some (.tup [.str r.nm,.int (m9 r ns)])->Q (.ref t) H')/\(¬ m9 r ns<(r.tot:Int)->∀ H',eC H H'->Q .non H'))->jEl cR cJ cP cS cY cM cW vs H Q E_
theorem jDT:gF ["self","within","number"] ["self"] (fY jD9):=scM
include T in
theorem jJK(F:Fun K "upcoming" "Run.upcoming" jD9 fa fd)(Dam:MtE P w K mg base 1 "within" cZ ["self"] (jDM cZ cQ yJ yW yU))(Daz:MtE P w K mg base 2 "total" yK ["self"] (jEw yK yG cZ cQ yJ yW yU)) :
 fJ P w K mg base CX0 3 fa fd ["self"] (jEl yK yG cZ cQ yJ yW yU):=by
 refine F.ok jDT fun fE A outer s H vs Q E hr h=>?_;obtain⟨x,r,rfl,R,q1,q2⟩:=h;have z2:2<=c9:=small (by decide);exists _,(d9 (jC (tcA jFl (hV (pv 0) rfl) nX) (d7 (gY nX)) jK) (d9 (psA (i:=1) jDT.nd (jR 1 nR hr.m (hV (pv 0) rfl))) (d9 (jC (PW.pt (rA (qP (mU (hV (pv 0) rfl) (fun _=>rfl))) (sR (qP (mU (pv 1) (fun _=>rfl)))))) (d7 (gY (mT (dJ (hV (hV (pv 0) rfl) rfl) (dJ (jEt T.aG rfl) dX))))) jK) (d9 (psA (i:=2) jDT.nd (iO oE (hV (pv 0) rfl) (rV jBr rfl T.ao iT (dJ (jCx (frees:=[]) ⟨by decide +kernel,rfl,rfl,by decide +kernel,trivial,by decide +kernel,uW rfl,rfl⟩ rfl (q9 (pv 1)) (fun _ _ _ _=>by exact (jGU (tcA jEr (jEB (K:=K) (r:=jGQ) rfl j1 (pv 0) eO (fun _ _=>rfl)) (jEt T.aG rfl)))) (fun _ _ _ _=>by exact (pv 0))) dX)))) (d7 (gY (jCE (tcA jFN (pv 2) (jR 2 nR hr.m (pv 0))) (mT (dJ (hV (hV (pv 0) rfl) rfl) (dJ (pv 2) dX))) nX)))))))
 exists _,rfl,x,yK,r.dx,_,_,rfl,R.o,T.aa,T.ag,rfl;cases hp:r.pr with
 | none=>exact⟨rfl,true,rfl,kM (q1 hp)⟩
 | some p =>
 obtain⟨d,ns,P,tg,k1,k2⟩:=q2 p hp;refine⟨rfl,false,rfl,jJ ?_⟩;exists _,rfl,x,yK,r.dx,_,_,rfl,R.o,T.aa,T.ag,rfl;rw [hp];refine⟨p,_,d.dx,_,_,_,rfl,P.o,rfl,T.ad,Dam,p,d,rfl,P,fun l H1 s1 nl hl=>?_⟩;have R1:=R.same s1;obtain⟨jx,jb,ji,jk,jc,je,_⟩:=id R1.j;have tg1:=tg.same s1;have lw:d.tags=[] ↔ ns=[]:=by
  rw [<- List.length_eq_zero_iff,<- List.length_eq_zero_iff,tg.1]
 dsimp only [wZ];refine ifs_cut (r.sl=false/\ns=[]) (fun W qt qf=>?_) (fun c=>?_) (fun c=>?_)
 ·exists _,rfl,x,yK,r.dx,_,_,rfl,R1.o,T.aa,T.aL,rfl,r.sl,rfl;cases hs:r.sl with
  | true=>exact jJ (qf (fun z=>by rw [hs] at z;cases z.1))
  | false =>
    refine kM ⟨_,rfl,!d.tags.isEmpty,.inl ⟨_,SqL.of hl,rfl⟩,?_⟩;by_cases c:ns=[]
    ·rw [lw.mpr c];exact qt ⟨hs,c⟩
    ·have:d.tags.isEmpty=false:=by rw [List.isEmpty_eq_false_iff];exact fun z=>c (lw.mp z)
     rw [this];exact qf (fun z=>c z.2)
 ·have en:m9 r ns=-1:=by unfold m9;rw [if_pos c]
  refine⟨_,rfl,x,yK,r.dx,_,_,rfl,R1.o,T.aa,T.av,rfl,r.jb,yG,jx,_,_,rfl,je,T.ae,T.aA,jF0 _ _ _ _ _ _ _ _ _ _,z2,fun t nt=>?_⟩;refine k1 (by rw [en];omega) t _ (s1.trans (gM nt _)) (s1.free nt) ?_;rw [en];exact d4
 have en:m9 r ns=((r.ps+tK ns:Nat):Int):=by unfold m9;rw [if_neg c]
 have lt9:=P.lt;exists _,rfl,x,yK,r.dx,_,_,rfl,R1.o,T.aa,T.ay,rfl,_,rfl,l,rfl,⟨_,SqL.of hl⟩
 refine jDv (jFn (K:=K) (SqL.of hl)) (jIk H1 r.nm) id (oN (by omega)) (fun y hy H' W sm rr=>?_) (fun y hy H' W sm py rr=>⟨_,rfl,rr⟩) (fun D H2 s2 nD hD=>?_)
 ·obtain⟨i,ei⟩:=mem_iff_getElem?.mp hy;obtain⟨t,n,rfl,_,ht⟩:=tg1.get ei;refine⟨_,rfl,t,_,_,_,rfl,rfl,SqT.of (sm _ _ ht),kL (j:=1) rfl,rfl,_,?_,rr⟩;rw [jMu ht]
 rw [zI] at hD;have R2:=R1.same s2;exists D,_,rfl,.inl (SqL.of hD),_,_,rfl,rfl;rw [jK4 tg1];dsimp only [wZ];rw [show (r.ps:Int)+((tK ns:Nat):Int)=m9 r ns by rw [en];omega];have s12:=s1.trans s2;obtain⟨jx2,jb2,ji2,jk2,jc2,je2,_⟩:=id R2.j;refine⟨_,rfl,_,rfl,x,_,r.dx,_,_,_,rfl,R2.o,rfl,T.aa,Daz,x,r,rfl,R2,_,_,rfl,rfl,_,rfl,oK (fun cc=>?_) (fun cc=>?_)⟩
 ·refine⟨_,rfl,x,yK,r.dx,_,_,rfl,R2.o,T.aa,T.av,rfl,r.jb,yG,jx2,_,_,rfl,je2,T.ae,T.aA,jF0 _ _ _ _ _ _ _ _ _ _,_,rfl,z2,fun t nt=>?_⟩;exact k1 (of_decide_eq_true cc) t _ (s12.trans (gM nt _)) (s12.free nt) d4
 ·exact k2 (fun z=>cc (decide_eq_true z)) _ s12
def sY(j:Jv)(i:Nat):Str:=if i=0 then j.cover.getD j.paper else j.paper
def mN(r:RD)(n:Int):Str×Int×Int:=if n=-1 then (r.j.paper,0,0) else (sY r.j (n.toNat%r.inks.length),r.inks.getD (n.toNat%r.inks.length) (0,0))
inductive jEY(cR cJ cP cS cY cM cW:Addr)(vs:List V)(H:Hp)(Q:VK)(E_:XK):Prop|mk x r tg n:vs=[.ref x,.ref tg]->jG cR cJ H x r->H tg=some (.tup [.str r.nm,.int n])->-1<=n->(∀ t H',eC H H'->H' t=some (.tup [.str (mN r n).1,.int (mN r n).2.1,.int (mN r n).2.2])->Q (.ref t) H')->jEY cR cJ cP cS cY cM cW vs H Q E_
theorem jEm:gF ["self","tag","sheet","ink"] ["self","tag"] (fY jEP):=scM
include T in
theorem jKx(F:Fun K "used_by" "Run.used_by" jEP fa fd)(Dbj:Dfn P w K mg base 1 "paper_of" ["job","sheet"] (jGu yG))(Dae:MtE P w K mg base 1 "each" yK ["self"] (jDS yK yG cZ cQ yJ yW yU)) :
 fJ P w K mg base CX0 2 fa fd ["self","tag"] (jEY yK yG cZ cQ yJ yW yU):=by
 refine F.ok jEm fun fE A outer s H vs Q E hr h=>?_;obtain⟨x,r,tg,n,rfl,R,ht,n1,q⟩:=h;have z3:3<=c9:=small (by decide);exists _,(d9 (jC (tcA nC (ixA j1 (pv 1) eO) (jEt T.aG rfl)) (d7 (gY (mT (dJ (hV (hV (pv 0) rfl) rfl) (dJ eO (dJ eO dX)))))) jK) (d9 (psA (i:=2) jEm.nd (iO t8 (ixA j1 (pv 1) eO) (jR 1 nR hr.m (pv 0)))) (d9 (psA (i:=3) jEm.nd (ixA lE (hV (pv 0) rfl) (pv 2))) (d7 (gY (mT (dJ (lX Dbj hr.m rfl (dJ (hV (pv 0) rfl) (dJ (pv 2) dX))) (dJ (ixA j1 (pv 3) eO) (dJ (ixA j1 (pv 3) eO) dX)))))))))
 obtain⟨jx,jb,ji,jk,jc,je,_⟩:=id R.j;have i1:=R.i1;exists _,rfl,tg,_,_,_,rfl,rfl,SqT.of ht,kL (j:=1) rfl,rfl;by_cases c:n=-1
 ·have eu:mN r n=(r.j.paper,0,0):=by unfold mN;rw [if_pos c]
  rw [eu] at q;exact⟨true,by rw [c];rfl,kM ⟨_,rfl,x,yK,r.dx,_,_,rfl,R.o,T.aa,T.av,rfl,r.jb,yG,jx,_,_,rfl,je,T.ae,T.aU,jF5 _ _ _ _ _ _ _ _ _ _,z3,fun t nt=>q t _ (gM nt _) d4⟩⟩
 have eu:mN r n=(sY r.j (n.toNat%r.inks.length),r.inks.getD (n.toNat%r.inks.length) (0,0)):=by unfold mN;rw [if_neg c]
 rw [eu] at q;refine⟨false,by rw [decide_eq_false (fun z=>c (by injection z))],jJ ?_⟩;exists _,rfl,tg,_,_,_,rfl,rfl,SqT.of ht,kL (j:=1) rfl,_,rfl,x,_,r.dx,_,_,_,rfl,R.o,rfl,T.aa,Dae,x,r,rfl,R,_,_,rfl,rfl,by omega
 have em:n%(r.inks.length:Int)=((n.toNat%r.inks.length:Nat):Int):=by
  rw [Int.natCast_emod,Int.toNat_of_nonneg (by omega)]
 have lm:n.toNat%r.inks.length<r.inks.length:=Nat.mod_lt _ (by omega);dsimp only [wZ];rw [em];generalize n.toNat%r.inks.length=i at lm q ⊢;obtain⟨ys,hy,ly,gy⟩:=id R.i;have ey:ys[i]?=some ys[i]:=getElem?_eq_getElem (by omega);have es:r.inks[i]?=some r.inks[i]:=getElem?_eq_getElem lm;obtain⟨t,et,ht2⟩:=gy i _ _ ey es;rw [et] at ey;rw [getD_eq_getElem?_getD,es,nZ] at q;generalize r.inks[i]=s at ht2 q;refine⟨_,rfl,x,yK,r.dx,_,_,rfl,R.o,T.aa,T.bv,rfl,_,rfl,r.il,_,_,rfl,rfl,SqL.of hy,by omega,by omega,fun v hv=>?_⟩;rw [fU,ey] at hv;obtain rfl:=Option.some.inj hv;exists _,rfl,x,yK,r.dx,_,_,rfl,R.o,T.aa,T.av,rfl,_,rfl,r.jb,r.j,(i:Int),rfl,R.j.jo;refine⟨_,rfl,t,_,_,_,rfl,rfl,SqT.of ht2,kL (j:=0) rfl,_,rfl,t,_,_,_,rfl,rfl,SqT.of ht2,kL (j:=1) rfl,z3,fun t' nt'=>q t' _ (gM nt' _) ?_⟩;have ep:(if (i:Int)=0 then r.j.cover.getD r.j.paper else r.j.paper)=sY r.j i:=by
  unfold sY;by_cases c0:i=0
  ·rw [if_pos c0,if_pos (by omega)]
  ·rw [if_neg c0,if_neg (by omega)]
 rw [ep];exact d4
def xP(d:PD)(n:Str)(A y z:Int)(qM:V):PD:={ xQ d n A y z qM with tags:=if d.path<((d.tags.length+1:Nat):Int) then (d.tags++[qM]).drop 1 else d.tags++[qM] }
inductive jH1(cR cJ cN cP cS cY cM cW:Addr)(vs:List V)(H:Hp)(Q:VK)(E:XK):Prop|mk x r tg n p d A:vs=[.ref x,.ref tg]->jG cR cJ H x r->H tg=some (.tup [.str r.nm,.int n])->-1<=n->r.pr=some p->iA cP cS cY cM cW H p d->(d.S≠.rd->pL cN "found" (.str (wd d.S)) H E)->d.am.lookup (mN r n).1=some A->1<=A->(mN r n).2.1<=d.b->(mN r n).2.2<=d.c->d.tags.length<=800->(d.S=.rd->∀ l H',(∀ b o,b≠d.ins->b≠d.tr2->b≠d.ik2->H b=some o->H' b=some o)->H l=none->H' l=some (.lst (if d.path<((d.tags.length+1:Nat):Int) then (d.tags++[V.ref tg]).take 1 else []))->iA cP cS cY cM cW H' p (xP d (mN r n).1 A (mN r n).2.1 (mN r n).2.2 (.ref tg))->Q (.ref l) H')->jH1 cR cJ cN cP cS cY cM cW vs H Q E
theorem jJL:gF ["self","tag","used"] ["self","tag"] (fY jHQ):=scM
include T in
theorem jNT(F:Fun K "fed" "Run.fed" jHQ fa fd)(Dbk:MtE P w K mg base 2 "used_by" yK ["self","tag"] (jEY yK yG cZ cQ yJ yW yU))(Dbl:MtE P w K mg base 6 "feed" cZ ["self","tag","kind","black","coloured"] (jHb cK cZ cQ yJ yW yU)) :
 fJ P w K mg base (CXe P w) 7 fa fd ["self","tag"] (jH1 yK yG cK cZ cQ yJ yW yU):=by
 refine F.okE jJL fun fE A outer s H vs Q E hr h=>?_;obtain⟨x,r,tg,n,p,d,A,rfl,R,ht,n1,hp,P,qn,la,a1,ub,uc,lt,q⟩:=h;exists _,(d9 (psA (i:=2) jJL.nd (oM 2 jQ hr.m (pv 0) (dJ (pv 1) dX))) (d7 (gY (oM 6 jQ hr.m (hV (pv 0) rfl) (dJ (pv 1) (dJ (ixA j1 (pv 2) eO) (dJ (ixA j1 (pv 2) eO) (dJ (ixA j1 (pv 2) eO) dX))))))))
 refine⟨_,rfl,x,_,r.dx,_,_,_,rfl,R.o,rfl,T.aa,Dbk,_,rfl,x,r,tg,n,rfl,R,ht,n1,fun t H1 s1 h1=>?_⟩;have R1:=R.same s1;have P1:=P.same s1;exists _,rfl,x,yK,r.dx,_,_,rfl,R1.o,T.aa,T.ag,rfl;rw [hp];refine⟨p,_,d.dx,_,_,_,rfl,P1.o,rfl,T.ad,Dbl,_,rfl,_,rfl,t,_,_,_,rfl,rfl,SqT.of h1,kL (j:=0) rfl,_,rfl,t,_,_,_,rfl,rfl,SqT.of h1,kL (j:=1) rfl,_,rfl,t,_,_,_,rfl,rfl,SqT.of h1,kL (j:=2) rfl,p,d,V.ref tg,_,_,_,A,rfl,P1,fun z=>(qn z).after s1,la,a1,ub,uc,lt,fun eS l H2 k2 nl hl P2=>?_⟩;exact q eS l H2 (fun b o e1 e2 e3 e=>k2 b o e1 e2 e3 (s1 _ _ e)) (s1.free nl) hl P2
theorem jKy(r:RD)(b:Bool):mH "slipped" (.bl b) r.fs=({ r with sl:=b }:RD).fs:=by first|rfl|decide +kernel
theorem putR_ps(r:RD)(n:Nat):mH "passed" (.int (n:Int)) r.fs=({ r with ps:=n }:RD).fs:=by first|rfl|decide +kernel
theorem jGJ(r:RD)(p:Option Addr):mH "printer" (prV p) r.fs=({ r with pr:=p }:RD).fs:=by first|rfl|decide +kernel
def jFY(sl:Bool)(ns:List Int):Bool:=sl||ns.any fun n=>decide (n=-1)
def lG(r:RD)(ns:List Int):RD:={ r with ps:=r.ps+tK ns,sl:=jFY r.sl ns }
def kO(r:RD)(ns:List Int):RD:=if (lG r ns).ps=r.tot then { lG r ns with pr:=none } else lG r ns
theorem jIQ(r:RD):lG r []=r:=by
 cases r;unfold lG tK jFY;simp
theorem jOR(r:RD)(ns:List Int)(n:Int):lG r (ns++[n])=if n=-1 then { lG r ns with sl:=true } else { lG r ns with ps:=(lG r ns).ps+1 }:=by
 unfold lG tK jFY;rw [List.countP_append,List.any_append];by_cases c:n=-1
 ·rw [if_pos c];simp [c]
 ·rw [if_neg c];simp [c];omega
inductive jCj(cR cJ cP cS cY cM cW:Addr)(vs:List V)(H:Hp)(Q:VK)(E_:XK):Prop|mk x r l ts ns:vs=[.ref x,.ref l]->jG cR cJ H x r->H l=some (.lst ts)->iU H r.nm ts ns->(∀ H',(∀ b o,b≠x->H b=some o->H' b=some o)->jG cR cJ H' x (kO r ns)->Q (.ref l) H')->jCj cR cJ cP cS cY cM cW vs H Q E_
theorem jFZ:gF ["self","tags","tag"] ["self","tags"] (fY jD_):=scM
include T in
theorem jJM(F:Fun K "note_out" "Run.note_out" jD_ fa fd)(Daa:MtE P w K mg base 3 "whole" yK ["self"] (jBx yK yG cZ cQ yJ yW yU)) :
 fJ P w K mg base CX0 4 fa fd ["self","tags"] (jCj yK yG cZ cQ yJ yW yU):=by
 refine F.ok jFZ fun fE A outer s H vs Q E hr h=>?_;obtain⟨x,r,l,ts,ns,rfl,R,hl,tg,q⟩:=h;exists _,(d9 (pN PassesOwn.never rfl (q9 (pv 1)) (pgA (i:=2) jFZ.nd) (d7 (jC (tcA nC (ixA j1 (pv 2) eO) (jEt T.aG rfl)) (d7 (kX (pv 0) nQ rfl)) (d7 (jOb (pv 0) eO ip_add))))) (d9 (jC (mU (jR 3 nR hr.m (pv 0)) (fun _=>rfl)) (d7 (kX (pv 0) nX rfl)) jK) (d7 (gY (pv 1)))))
 have tD:l≠x:=eW hl R.o nofun
 refine⟨_,rfl,l,rfl,⟨_,SqL.of hl⟩,uZ (K:=K) (a:=l) (xs:=ts) (fun i σ G=>∃ v2:Option V,σ=[some (.ref x),some (.ref l),v2]/\jG yK yG G x (lG r (ns.take i))/\∀ b o,b≠x->H b=some o->G b=some o) ⟨_,rfl,by rw [mJ,jIQ];exact R,fun b o _ e=>e⟩ (fun i σ G _ z=>by obtain⟨v2,_,_,k⟩:=z;exact SqL.of (k _ _ tD hl)) (fun i y σ G hy z=>?_) (fun σ G z=>?_)⟩
 ·obtain⟨v2,rfl,RG,k⟩:=z;obtain⟨t,n,rfl,en,ht⟩:=tg.get hy;have htG:=k _ _ (eW ht R.o nofun) ht;have et:ns.take (i+1)=ns.take i++[n]:=by rw [gR,en];rfl
  rw [et,jOR];exists _,rfl,t,_,_,_,rfl,rfl,SqT.of htG,kL (j:=1) rfl,rfl;by_cases c:n=-1
  ·rw [if_pos c];refine⟨true,by rw [c];rfl,kM ⟨_,rfl,x,yK,_,_,rfl,RG.o,T.aa,T.aL,(by show 6<1000;decide),?_⟩⟩;rw [jKy];exact⟨_,rfl,RG.set _ _ true _,fun b o nb e=>by rw [dW nb];exact k b o nb e⟩
  ·rw [if_neg c];refine⟨false,by rw [decide_eq_false (fun z=>c (by injection z))],jJ ?_⟩;refine⟨_,rfl,x,yK,_,_,_,rfl,RG.o,T.aa,T.ay,rfl,_,_,rfl,rfl,_,_,RG.o,(by show 6<1000;decide),?_⟩;have ep:mH "passed" (.int (((lG r (ns.take i)).ps:Int)+1)) (lG r (ns.take i)).fs=({ lG r (ns.take i) with ps:=(lG r (ns.take i)).ps+1 }:RD).fs:=by
    rw [show ((lG r (ns.take i)).ps:Int)+1=(((lG r (ns.take i)).ps+1:Nat):Int) by omega];exact putR_ps _ _
   rw [ep];exact⟨_,rfl,RG.set _ _ _ _,fun b o nb e=>by rw [dW nb];exact k b o nb e⟩
 ·obtain⟨v2,rfl,RG,k⟩:=z;rw [fG (by rw [tg.1];exact le_refl _)] at RG;exists _,rfl,x,_,r.dx,_,_,_,rfl,RG.o,rfl,T.aa,Daa,x,_,rfl,RG;by_cases c:(lG r ns).ps=r.tot
  ·refine⟨true,(by show true=decide ((lG r ns).ps=r.tot);rw [decide_eq_true c]),kM ⟨_,rfl,x,yK,_,_,rfl,RG.o,T.aa,T.ag,(by show 6<1000;decide),?_⟩⟩;rw [show (V.non)=prV none from rfl,jGJ];refine⟨_,rfl,q _ (fun b o nb e=>by rw [dW nb];exact k b o nb e) ?_⟩;have:=RG.set (lG r ns).ps none (lG r ns).sl (lG r ns).br;unfold kO;rw [if_pos c];exact this
  ·refine⟨false,(by show false=decide ((lG r ns).ps=r.tot);rw [decide_eq_false c]),jJ ⟨_,rfl,q _ k ?_⟩⟩;unfold kO;rw [if_neg c];exact RG
theorem iA.off(P:iA cP cS cY cM cW H p d)(hx:H x=some (.ins C dx fs))(k:∀ b o,b≠x->H b=some o->H' b=some o)(n1:p≠x)(n2:d.tr≠x)(n3:d.ik≠x)(n4:d.st≠x):iA cP cS cY cM cW H' p d:=by
 obtain⟨⟨dt,t1⟩,t2,t3,t4⟩:=P.T;obtain⟨⟨di,i1⟩,i2,i3,i4⟩:=P.I;exact { P with o:=k _ _ n1 P.o,T:=⟨⟨dt,k _ _ n2 t1⟩,k _ _ (eW t2 hx nofun) t2,k _ _ (eW t3 hx nofun) t3,t4⟩,I:=⟨⟨di,k _ _ n3 i1⟩,k _ _ (eW i2 hx nofun) i2,k _ _ (eW i3 hx nofun) i3,i4⟩,s:=(let ⟨ds,hs⟩:=P.s;⟨ds,k _ _ n4 hs⟩),n:=k _ _ (eW P.n hx nofun) P.n }
structure Wd(cR cJ cP cS cY cM cW:Addr)(H:Hp)(x:Addr)(r:RD)(p:Addr)(d:PD)(ns:List Int):Prop where
 R:jG cR cJ H x r
 P:iA cP cS cY cM cW H p d
 tg:iU H r.nm d.tags ns
 n1:p≠x
 n2:d.tr≠x
 n3:d.ik≠x
 n4:d.st≠x
 n5:r.il≠d.ins
theorem Wd.same(w:Wd cR cJ cP cS cY cM cW H x r p d ns)(s:eC H H'):Wd cR cJ cP cS cY cM cW H' x r p d ns:={ w with R:=w.R.same s,P:=w.P.same s,tg:=w.tg.same s }
theorem jG.prn(R:jG cR cJ H x r)(P:iA cP cS cY cM cW H p d)(n5:r.il≠d.ins)(k:∀ b o,b≠d.ins->b≠d.tr2->b≠d.ik2->H b=some o->H' b=some o):jG cR cJ H' x r:=by
 have h1:=P.n;have h2:=P.T.2.2.1;have h3:=P.I.2.2.1;obtain⟨ys,hy,_⟩:=id R.i;refine R.fr (fun b C dd fs e=>k _ _ (eW e h1 nofun) (eW e h2 nofun) (eW e h3 nofun) e) (fun o e=>k _ _ n5 (eW hy h2 nofun) (eW hy h3 nofun) e) (fun b xs e=>k _ _ (eW e h1 nofun) (eW e h2 nofun) (eW e h3 nofun) e)
theorem jKz(r:RD)(ns:List Int):(kO r ns).nm=r.nm:=by unfold kO;split<;>rfl
theorem jGK(r:RD)(ns:List Int):(kO r ns).il=r.il:=by unfold kO;split<;>rfl
theorem jJN(a b:List Int):tK (a++b)=tK a+tK b:=List.countP_append
theorem jPD(r:RD)(a b:List Int):lG (lG r a) b=lG r (a++b):=by
 unfold lG jFY;rw [jJN,List.any_append];dsimp only;rw [qI,Bool.or_assoc]
theorem jPE(r:RD)(a b:List Int):kO (lG r a) b=kO r (a++b):=by
 unfold kO;rw [jPD];rfl
theorem jOS(h:(lG r ns).ps≠r.tot):kO r ns=lG r ns:=by
 unfold kO;rw [if_neg h]
theorem iU.app{H:Hp}{nm:Str}{ts us:List V}{ns ms:List Int}(h:iU H nm ts ns)(g:iU H nm us ms):iU H nm (ts++us) (ns++ms):=⟨by rw [dH,dH,h.1,g.1],fun i y n a b=>by
 by_cases c:i<ts.length
 ·rw [getElem?_append_left c] at a;rw [getElem?_append_left (by rw [<- h.1];exact c)] at b;exact h.2 i y n a b
 ·rw [getElem?_append_right (by omega)] at a;rw [getElem?_append_right (by rw [<- h.1];omega),<- h.1] at b
  exact g.2 _ y n a b⟩
theorem Wd.list(w:Wd cR cJ cP cS cY cM cW H x r p d ns)(hl:H l=some (.lst ts))(n1:l≠d.ins)(n2:r.il≠l):Wd cR cJ cP cS cY cM cW (upd H l (.lst us)) x r p d ns:=by
 have off:∀ b o,H b=some o->(∀ zs,o≠.lst zs)->upd H l (.lst us) b=some o:=fun b o e n=>by
  rw [dW (fun z=>by rw [z,hl] at e;injection e with e;exact n _ e.symm)];exact e
 obtain⟨⟨dt,t1⟩,t2,t3,t4⟩:=w.P.T;obtain⟨⟨di,i1⟩,i2,i3,i4⟩:=w.P.I;refine { w with R:=w.R.fr (fun b C dd fs e=>off _ _ e (by intro zs z;cases z)) (fun o e=>by rw [dW n2];exact e) (fun b xs e=>off _ _ e (by intro zs z;cases z)),P:=?_,tg:=w.tg.fr fun b xs e=>off _ _ e (by intro zs z;cases z) };exact { w.P with o:=off _ _ w.P.o (by intro zs z;cases z),T:=⟨⟨dt,off _ _ t1 (by intro zs z;cases z)⟩,off _ _ t2 (by intro zs z;cases z),off _ _ t3 (by intro zs z;cases z),t4⟩,I:=⟨⟨di,off _ _ i1 (by intro zs z;cases z)⟩,off _ _ i2 (by intro zs z;cases z),off _ _ i3 (by intro zs z;cases z),i4⟩,s:=(let ⟨ds,hs⟩:=w.P.s;⟨ds,off _ _ hs (by intro zs z;cases z)⟩),n:=by rw [dW (symm n1)];exact w.P.n }
def NW(r:RD)(ns:List Int):Prop:=∀ i,i<ns.length->(lG r (ns.take i)).ps≠r.tot
structure Emp(cR cJ cP cS cY cM cW:Addr)(H H':Hp)(x:Addr)(r:RD)(p:Addr)(d:PD)(l:Addr)(ns:List Int):Prop where
 fr:∀ b o,b≠x->b≠d.ins->H b=some o->H' b=some o
 nl:H l=none
 l:∃ ts,H' l=some (.lst ts)/\iU H' r.nm ts ns
 w:Wd cR cJ cP cS cY cM cW H' x (kO r ns) p { d with tags:=[] } []
inductive jDd(cR cJ cP cS cY cM cW:Addr)(vs:List V)(H:Hp)(Q:VK)(E_:XK):Prop|mk x r:vs=[.ref x]->jG cR cJ H x r->(r.pr=none->∀ l H',eC H H'->H l=none->H' l=some (.lst [])->Q (.ref l) H')->(∀ p,r.pr=some p->∃ d ns,Wd cR cJ cP cS cY cM cW H x r p d ns/\(ns≠[]->d.S=.rd)/\NW r ns/\r.ps≠r.tot/\∀ l H',Emp cR cJ cP cS cY cM cW H H' x r p d l ns->Q (.ref l) H')->jDd cR cJ cP cS cY cM cW vs H Q E_
theorem jGL:gF ["self","came"] ["self"] (fY jEQ):=scM
include T in
theorem jKA(F:Fun K "emptied" "Run.emptied" jEQ fa fd)(Dam:MtE P w K mg base 1 "within" cZ ["self"] (jDM cZ cQ yJ yW yU))(DaA:MtE P w K mg base 4 "push" cZ ["self"] (jE9 cK cZ cQ yJ yW yU))(Daf:MtE P w K mg base 4 "note_out" yK ["self","tags"] (jCj yK yG cZ cQ yJ yW yU)) :
 fJ P w K mg base (CXe P w) 5 fa fd ["self"] (jDd yK yG cZ cQ yJ yW yU):=by
 refine F.okE jGL fun fE A outer s H vs Q E hr h=>?_;obtain⟨x,r,rfl,R,q1,q2⟩:=h;exists _,(d9 (psA (i:=1) jGL.nd (lQ dX)) (d9 (jO6 v0 (PW.pt (rA (tcA jFe (hV (pv 0) rfl) nX) (sR (mU (jR 1 jQ hr.m (hV (pv 0) rfl)) (fun _=>rfl))))) (d7 (kE (vR eD slot_list_extend iV jFO (pv 1) (dJ (oM 4 jQ hr.m (pv 0) (dJ (jR 4 jQ hr.m (hV (pv 0) rfl)) dX)) dX))))) (d7 (gY (pv 1)))))
 refine⟨small (d5 _),fun l nl=>?_⟩;have s1:=gM nl (.lst []);have hl:upd H l (.lst []) l=some (.lst []):=d4;generalize upd H l (.lst [])=H1 at s1 hl ⊢;cases hp:r.pr with
 | none =>
   exists fun m σ G=>m=0/\G=H1/\σ=[some (.ref x),some (.ref l)],⟨0,rfl,rfl,rfl⟩
   rintro m σ G ⟨rfl,rfl,rfl⟩;exists _,rfl,x,yK,r.dx,_,_,rfl,(R.same s1).o,T.aa,T.ag,rfl;rw [hp];exact⟨rfl,false,rfl,jJ (jJ ⟨_,rfl,q1 hp l _ s1 nl hl⟩)⟩
 | some p =>
 obtain⟨d,ns,W,hS,nw,n0,q⟩:=q2 p hp;have lt9:=W.P.lt;have ltn:=W.tg.1;exists fun m σ G=>∃ i ts,m+i=ns.length/\(∀ b o,b≠x->b≠d.ins->H b=some o->G b=some o)/\G l=some (.lst ts)/\iU G r.nm ts (ns.take i)/\Wd yK yG cZ cQ yJ yW yU G x (kO r (ns.take i)) p { d with tags:=d.tags.drop i } (ns.drop i)/\σ=[some (.ref x),some (.ref l)],⟨ns.length,0,[],rfl,fun b o _ _ e=>s1 _ _ e,hl,⟨rfl,fun i y n a=>by cases a⟩,?_,rfl⟩
 ·rw [mJ,jOS (by rw [jIQ];exact n0),jIQ,qH,qH];exact W.same s1
 rintro m σ G ⟨i,ts,mi,fr,hl,tg,WG,rfl⟩;have lts:=tg.1;rw [fI] at lts;have tD:l≠x:=eW hl WG.R.o nofun
 have done:∀ H',i=ns.length->eC G H'->Q (.ref l) H':=fun H' ei s'=>by
  subst ei;rw [jM] at tg WG;rw [kI] at WG;have W2:=WG.same s';rw [show d.tags.drop ns.length=[] by rw [<- ltn,kI]] at W2;exact q l H' ⟨fun b o b1 b2 e=>s' _ _ (fr b o b1 b2 e),nl,⟨ts,s' _ _ hl,tg.same s'⟩,W2⟩
 exists _,rfl,x,yK,_,_,_,rfl,WG.R.o,T.aa,T.ag,rfl;have hpi:i<ns.length->(kO r (ns.take i))=lG r (ns.take i):=fun z=>jOS (nw i z);by_cases ci:i<ns.length
 ·have er:=hpi ci;rw [er] at WG;rw [er,show (lG r (ns.take i)).pr=some p from hp];refine⟨rfl,true,rfl,kM ?_⟩;exists _,rfl,x,yK,_,_,_,rfl,WG.R.o,T.aa,T.ag,rfl;rw [show (lG r (ns.take i)).pr=some p from hp];refine⟨p,_,d.dx,_,_,_,rfl,WG.P.o,rfl,T.ad,Dam,p,_,rfl,WG.P,fun wl G1 sg nwl mL=>?_⟩;have lne:(d.tags.drop i).isEmpty=false:=by
   rw [List.isEmpty_eq_false_iff];intro z;have:=congrArg List.length z;rw [iS] at this;have:d.tags.length-i=0:=this;omega
  exists !(d.tags.drop i).isEmpty,.inl ⟨_,SqL.of mL,rfl⟩;rw [lne];refine kM ⟨fun σ' G'=>∃ ts,(∀ b o,b≠x->b≠d.ins->H b=some o->G' b=some o)/\G' l=some (.lst ts)/\iU G' r.nm ts (ns.take (i+1))/\Wd yK yG cZ cQ yJ yW yU G' x (kO r (ns.take (i+1))) p { d with tags:=d.tags.drop (i+1) } (ns.drop (i+1))/\σ'=[some (.ref x),some (.ref l)],fun σ' G' ⟨ts,h1,h2,h3,h4,h5⟩=>⟨m-1,by omega,i+1,ts,by omega,h1,h2,h3,h4,h5⟩,?_⟩;have W1:=WG.same sg;have hl1:=sg _ _ hl;exists _,rfl,.inl ⟨rfl,_,SqL.of hl1⟩,_,rfl,x,_,_,_,_,_,rfl,W1.R.o,rfl,T.aa,Daf,_,rfl,x,yK,_,_,_,rfl,W1.R.o,T.aa,T.ag,rfl;rw [show (lG r (ns.take i)).pr=some p from hp];refine⟨p,_,d.dx,_,_,_,rfl,W1.P.o,rfl,T.ad,DaA,p,_,rfl,W1.P,fun _ l1 G2 k2 nl1 xJ P2=>?_,fun z=>absurd (hS (fun z=>by rw [z] at ci;cases ci)) z⟩;have k2':∀ b o,b≠d.ins->b≠d.tr2->b≠d.ik2->G1 b=some o->G2 b=some o:=fun b o e1 _ _ e=>k2 b o e1 e;have uH:iU G2 r.nm (d.tags.drop i) (ns.drop i):=W1.tg.fr fun b xs e=>k2 _ _ (eW e W1.P.n nofun) e;have R2:=W1.R.prn W1.P W1.n5 k2';refine⟨x,_,l1,_,(ns.drop i).take 1,rfl,R2,xJ,uH.take1,fun G3 k3 R3=>?_⟩;have e1:ns.take i++(ns.drop i).take 1=ns.take (i+1):=by
   rw [List.take_add]
  rw [jPE,e1] at R3;have wR:∀ b xs,G2 b=some (.tup xs)->G3 b=some (.tup xs):=fun b xs e=>k3 _ _ (eW e R2.o nofun) e;have nli:l≠d.ins:=fun z=>by
   have h1:=W.P.n;rw [<- z] at h1;rw [nl] at h1;cases h1
  have hl3:G3 l=some (.lst ts):=k3 _ _ tD (k2 _ _ nli hl1);have nl1x:l1≠x:=fun z=>by rw [z,W1.R.o] at nl1;cases nl1
  have hl13:=k3 _ _ nl1x xJ;have tgt:iU G3 r.nm (ts++(d.tags.drop i).take 1) (ns.take (i+1)):=by
   have a1:=((tg.same sg).fr fun b xs e=>k2 _ _ (eW e W1.P.n nofun) e).fr wR;have a2:=uH.take1.fr wR;rw [<- e1];exact a1.app a2
  refine⟨l,l1,_,_,rfl,rfl,hl3,hl13,?_,_,?_,d4,tgt.fr ?_,?_,rfl⟩
  ·have:((d.tags.drop i).take 1).length<=1:=by rw [fI];exact Nat.min_le_left _ _
   show ts.length+((d.tags.drop i).take 1).length<=c9;exact small (by omega)
  ·intro b o b1 b2 e;have b3:b≠l:=fun z=>by rw [z,nl] at e;cases e
   rw [dW b3];exact k3 _ _ b1 (k2 _ _ b2 (sg _ _ (fr b o b1 b2 e)))
  ·intro b xs e;rw [dW (eW e hl3 nofun)];exact e
  ·have P3:=P2.off R2.o k3 W.n1 W.n2 W.n3 W.n4;have hl3':=hl3;rw [n8] at P3;have W3:Wd yK yG cZ cQ yJ yW yU G3 x (kO r (ns.take (i+1))) p { d with tags:=d.tags.drop (i+1) } (ns.drop (i+1)):=⟨R3,P3,by rw [jKz];have:=uH.drop1.fr wR;rw [n8,n8] at this;exact this,W.n1,W.n2,W.n3,W.n4,by rw [jGK];exact W.n5⟩
   have jA:r.il≠l:=fun z=>by
    obtain⟨ys,hy,_⟩:=id R.i;rw [z,nl] at hy;cases hy
   exact W3.list hl3 nli (by rw [jGK];exact jA)
 ·have ei:i=ns.length:=by omega
  cases hpe:(kO r (ns.take i)).pr with
  | none =>
    exact⟨rfl,false,rfl,jJ (jJ ⟨_,rfl,done G ei (eC.refl _)⟩)⟩
  | some p' =>
    have ep:p'=p:=by
     unfold kO at hpe;split at hpe
     ·cases hpe
     ·have:r.pr=some p':=hpe;rw [hp] at this;exact (Option.some.inj this).symm
    subst ep;refine⟨rfl,true,rfl,kM ?_⟩;exists _,rfl,x,yK,_,_,_,rfl,WG.R.o,T.aa,T.ag,rfl;rw [hpe];refine⟨p',_,d.dx,_,_,_,rfl,WG.P.o,rfl,T.ad,Dam,p',_,rfl,WG.P,fun wl G1 sg nwl mL=>?_⟩;exists !(d.tags.drop i).isEmpty,.inl ⟨_,SqL.of mL,rfl⟩;rw [show d.tags.drop i=[] by rw [ei,<- ltn,kI]];exact jJ ⟨_,rfl,done G1 ei sg⟩
theorem iU.takeN{H:Hp}{nm:Str}{ts:List V}{ns:List Int}(h:iU H nm ts ns)(k:Nat):iU H nm (ts.take k) (ns.take k):=⟨by rw [fI,fI,h.1],fun i y n a b=>by
 rw [List.getElem?_take] at a b;by_cases c:i<k
 ·rw [if_pos c] at a b;exact h.2 i y n a b
 ·rw [if_neg c] at a;cases a⟩
def jE_(r:RD)(p:Addr):RD:=if r.ps=r.tot then r else { r with pr:=some p,sl:=false }
theorem Wd.run(w:Wd cR cJ cP cS cY cM cW H x r p d ns)(k:∀ b o,b≠x->H b=some o->H' b=some o)(R:jG cR cJ H' x r')(en:r'.nm=r.nm)(ei:r'.il=r.il):Wd cR cJ cP cS cY cM cW H' x r' p d ns:=⟨R,w.P.off w.R.o k w.n1 w.n2 w.n3 w.n4,by rw [en];exact w.tg.fr fun b xs eo=>k _ _ (eW eo w.R.o nofun) eo,w.n1,w.n2,w.n3,w.n4,by rw [ei];exact w.n5⟩
inductive jFa(cR cJ cO cN cP cS cY cM cW:Addr)(vs:List V)(H:Hp)(Q:VK)(E:XK):Prop|mk x r p2 d2:vs=[.ref x,.ref p2]->jG cR cJ H x r->iA cP cS cY cM cW H p2 d2->(¬ Liv r->OvR cO r H E)->(Liv r->d2.S≠.rd->pL cN "found" (.str (wd d2.S)) H E)->(Liv r->d2.S=.rd->(r.pr=none->∀ l H',(∀ b o,b≠x->H b=some o->H' b=some o)->H l=none->H' l=some (.lst [])->jG cR cJ H' x (jE_ r p2)->Q (.ref l) H') /\
 ∀ p,r.pr=some p->∃ d ns,Wd cR cJ cP cS cY cM cW H x r p d ns/\(ns≠[]->d.S=.rd)/\NW r ns/\∀ l H',(∀ b o,b≠x->b≠d.ins->H b=some o->H' b=some o)->H l=none->(∃ ts,H' l=some (.lst ts)/\iU H' r.nm ts ns)->Wd cR cJ cP cS cY cM cW H' x (jE_ (kO r ns) p2) p { d with tags:=[] } []->Q (.ref l) H')->jFa cR cJ cO cN cP cS cY cM cW vs H Q E
theorem jID:gF ["self","printer","came"] ["self","printer"] (fY jG4):=scM
include T in
theorem jNa(F:Fun K "take" "Run.take" jG4 fa fd)(Dab:sN P w K mg base 1 "NotNow" cK ["self","found"] (oZ cK "found"))(Daj:MtE P w K mg base 4 "must_go_on" yK ["self"] (jB0 yK yG vZ cZ cQ yJ yW yU))(Dac:MtE P w K mg base 2 "stands" cZ ["self"] (jBZ cZ cQ yJ yW yU))(DaB:MtE P w K mg base 5 "emptied" yK ["self"] (jDd yK yG cZ cQ yJ yW yU))(Daa:MtE P w K mg base 3 "whole" yK ["self"] (jBx yK yG cZ cQ yJ yW yU)) :
 fJ P w K mg base (CXe P w) 6 fa fd ["self","printer"] (jFa yK yG vZ cK cZ cQ yJ yW yU):=by
 refine F.okE jID fun fE A outer s H vs Q E hr h=>?_;obtain⟨x,r,p2,d2,rfl,R,P,qo,qn,qg⟩:=h;exists _,(d9 (kE (jR 4 jQ hr.m (pv 0))) (d9 (jC (tcA jEr (jR 2 jQ hr.m (pv 1)) (uT T.be rfl)) (d7 (uD uA rfl (uB Dab hr.m rfl (dJ (jR 2 jQ hr.m (pv 1)) dX)))) jK) (d9 (psA (i:=2) jID.nd (jR 5 jQ hr.m (pv 0))) (d9 (jC (qP (mU (jR 3 jQ hr.m (pv 0)) (fun _=>rfl))) (d9 (kX (pv 0) (pv 1) rfl) (d7 (kX (pv 0) nQ rfl))) jK) (d7 (gY (pv 2)))))))
 refine⟨_,rfl,x,_,r.dx,_,_,_,rfl,R.o,rfl,T.aa,Daj,x,r,rfl,R,fun lv=>?_,qo⟩;exists _,rfl,p2,_,d2.dx,_,_,_,rfl,P.o,rfl,T.ad,Dac,p2,d2,rfl,P,rfl,_,rfl;by_cases eS:d2.S=.rd;rotate_left
 ·refine iteNN (fun z=>eS (wd_rd.mp (by injection z))) ?_;exact⟨_,rfl,p2,_,d2.dx,_,_,_,rfl,P.o,rfl,T.ad,Dac,p2,d2,rfl,P,rC T.aj.m fun ea H' sm _ g=>qn lv eS ea H' sm g⟩
 refine iteNS (by rw [eS];rfl) ?_;obtain⟨q1,q2⟩:=qg lv eS;refine⟨_,rfl,x,_,r.dx,_,_,_,rfl,R.o,rfl,T.aa,DaB,x,r,rfl,R,fun hp l H1 s1 nl hl=>?_,fun p hp=>?_⟩
 ·have R1:=R.same s1;refine⟨_,rfl,x,_,_,_,_,_,rfl,R1.o,rfl,T.aa,Daa,x,r,rfl,R1,false,(by show false=decide (r.ps=r.tot);rw [decide_eq_false lv.2]),kM ?_⟩;refine⟨_,rfl,_,rfl,x,yK,_,_,rfl,R1.o,T.aa,T.ag,(by show 6<1000;decide),?_⟩;rw [show V.ref p2=prV (some p2) from rfl,jGJ];have R2:=R1.set r.ps (some p2) r.sl r.br;refine⟨_,rfl,x,yK,_,_,rfl,R2.o,T.aa,T.aL,(by show 6<1000;decide),?_⟩;rw [jKy];have tD:l≠x:=fun z=>by rw [z,R.o] at nl;cases nl
  refine⟨_,rfl,q1 hp l _ (fun b o nb e=>by rw [dW nb,dW nb];exact s1 _ _ e) nl (by rw [dW tD,dW tD];exact hl) ?_⟩;unfold jE_;rw [if_neg lv.2];exact R2.set r.ps (some p2) false r.br
 ·obtain⟨d,ns,W,hS,nw,q⟩:=q2 p hp;refine⟨d,ns,W,hS,nw,lv.2,fun l H1 em=>?_⟩;have R1:=em.w.R;obtain⟨ts,hl,tl⟩:=em.l;exists _,rfl,x,_,_,_,_,_,rfl,R1.o,rfl,T.aa,Daa,x,_,rfl,R1,_,rfl;by_cases c:(kO r ns).ps=(kO r ns).tot
  ·rw [decide_eq_true c];refine jJ ⟨_,rfl,q l H1 em.fr em.nl ⟨ts,hl,tl⟩ ?_⟩;unfold jE_;rw [if_pos c];exact em.w
  ·rw [decide_eq_false c];refine kM ?_;refine⟨_,rfl,_,rfl,x,yK,_,_,rfl,R1.o,T.aa,T.ag,(by show 6<1000;decide),?_⟩;rw [show V.ref p2=prV (some p2) from rfl,jGJ];have R2:=R1.set (kO r ns).ps (some p2) (kO r ns).sl (kO r ns).br;refine⟨_,rfl,x,yK,_,_,rfl,R2.o,T.aa,T.aL,(by show 6<1000;decide),?_⟩;rw [jKy];have R3:=R2.set (kO r ns).ps (some p2) false (kO r ns).br;have k3:∀ b o,b≠x->H1 b=some o->upd (upd H1 x (.ins yK (kO r ns).dx ({ kO r ns with pr:=some p2 }:RD).fs)) x (.ins yK (kO r ns).dx ({ kO r ns with pr:=some p2,sl:=false }:RD).fs) b=some o:=fun b o nb e=>by rw [dW nb,dW nb];exact e
   refine⟨_,rfl,q l _ (fun b o b1 b2 e=>k3 _ _ b1 (em.fr b o b1 b2 e)) em.nl ⟨ts,k3 _ _ (eW hl R1.o nofun) hl,tl.fr fun b xs eo=>k3 _ _ (eW eo R1.o nofun) eo⟩ (em.w.run k3 ?_ ?_ ?_)⟩
   ·unfold jE_;rw [if_neg c];exact R3
   ·unfold jE_;rw [if_neg c]
   ·unfold jE_;rw [if_neg c]
theorem jOT(h:vO cY cM cW H st s)(R:jG cR cJ H x r):st≠x:=by
 obtain⟨ds,e⟩:=h;refine eW e R.o fun z=>?_;injection z with _ _ z;have:=congrArg List.length z;rw [show r.fs.length=6 from rfl] at this;cases s with
 | rd=>exact absurd (show 1=6 from this) (by decide)
 | jm=>exact absurd (show 1=6 from this) (by decide)
 | aw b=>exact absurd (show 2=6 from this) (by decide)
theorem jG.turn(R:jG cR cJ H x r)(P:iA cP cS cY cM cW H p d)(n1:p≠x)(kp:∀ b o,b≠p->H b=some o->H' b=some o):jG cR cJ H' x r:=by
 have kt:∀ b xs,H b=some (.tup xs)->H' b=some (.tup xs):=fun b xs e=>kp _ _ (eW e P.o nofun) e;obtain⟨ys,hy,_⟩:=id R.i;obtain⟨jx,jb,ji,jk,jc,je,_⟩:=id R.j;have fs8:∀ (C dx C' dx':Addr) (fs:List (Str×V)),fs.length≠8->HO.ins C dx fs≠.ins C' dx' d.fs:=fun C dx C' dx' fs n z=>by
  injection z with _ _ z;exact n (by rw [z];rfl)
 exact { R with o:=kp _ _ (symm n1) R.o,j:=R.j.fr (fun o e=>kp _ _ (eW je P.o (fs8 _ _ _ _ _ (by show 10≠8;decide))) e) kt,i:=R.i.fr (fun o e=>kp _ _ (eW hy P.o nofun) e) kt }
inductive jF1(cR cJ cO cX cN cT cP cS cY cM cW:Addr)(vs:List V)(H:Hp)(Q:VK)(E:XK):Prop|mk x r (k:Nat):vs=[.ref x,.int (k:Int)]->jG cR cJ H x r->(¬ Liv r->OvR cO r H E)->(Liv r->r.pr=none->pL cX "job" (.str r.nm) H E)->(Liv r->∀ p,r.pr=some p->∃ d ns,Wd cR cJ cP cS cY cM cW H x r p d ns/\(d.S≠.rd->pL cN "found" (.str (wd d.S)) H E)/\(d.S=.rd->ns.length<k->pL cT "name" (.str wiW) H E) /\
 (d.S=.rd->k<=ns.length->∀ t l1 l2 st il H',(∀ b o,b≠x->b≠p->H b=some o->H' b=some o)->H il=none->H' t=some (.tup [.ref l1,.ref l2])->(∃ ts,H' l1=some (.lst ts)/\iU H' r.nm ts (ns.take k))->(∃ ts,H' l2=some (.lst ts)/\iU H' r.nm ts (ns.drop k))->Wd cR cJ cP cS cY cM cW H' x (kO r (ns.take k)) p { d with st:=st,S:=.jm,ins:=il,tags:=[] } []->Q (.ref t) H'))->jF1 cR cJ cO cX cN cT cP cS cY cM cW vs H Q E
theorem iU.dropN{H:Hp}{nm:Str}{ts:List V}{ns:List Int}(h:iU H nm ts ns)(k:Nat):iU H nm (ts.drop k) (ns.drop k):=⟨by rw [iS,iS,h.1],fun i y n a b=>by rw [List.getElem?_drop] at a b;exact h.2 _ y n a b⟩
theorem jJO:gF ["self","saved","told"] ["self","saved"] (fY jHP):=scM
include T in
theorem jNU(F:Fun K "jam" "Run.jam" jHP fa fd)(DaC:MtE P w K mg base 5 "must_be_placed" yK ["self"] (jBQ yK yG vZ vX cZ cQ yJ yW yU))(Dbm:MtE P w K mg base 5 "jam" cZ ["self","saved"] (jHX cK cG cZ cQ yJ yW yU))(Daf:MtE P w K mg base 4 "note_out" yK ["self","tags"] (jCj yK yG cZ cQ yJ yW yU)) :
 fJ P w K mg base (CXe P w) 6 fa fd ["self","saved"] (jF1 yK yG vZ vX cK cG cZ cQ yJ yW yU):=by
 refine F.okE jJO fun fE A outer s H vs Q E hr h=>?_;obtain⟨x,r,k,rfl,R,qo,qx,qg⟩:=h;exists _,(d9 (kE (jR 5 jQ hr.m (pv 0))) (d9 (psA (i:=2) jJO.nd (oM 5 jQ hr.m (hV (pv 0) rfl) (dJ (pv 1) dX))) (d9 (kE (oM 4 jQ hr.m (pv 0) (dJ (ixA j1 (pv 2) eO) dX))) (d7 (gY (pv 2))))))
 refine⟨_,rfl,x,_,r.dx,_,_,_,rfl,R.o,rfl,T.aa,DaC,x,r,rfl,R,fun lv p hp=>?_,qx,qo⟩;obtain⟨d,ns,W,qn,qt,q⟩:=qg lv p hp;exists _,rfl,x,yK,r.dx,_,_,rfl,R.o,T.aa,T.ag,rfl;rw [hp];have ltn:=W.tg.1;refine⟨p,_,d.dx,_,_,_,rfl,W.P.o,rfl,T.ad,Dbm,_,rfl,p,d,k,rfl,W.P,qn,fun e1 e2=>qt e1 (by omega),fun eS kn t l1 l2 st il H1 kp jA nt ht hl1 xJ P1=>?_⟩;have kt:∀ b xs,H b=some (.tup xs)->H1 b=some (.tup xs):=fun b xs e=>kp _ _ (eW e W.P.o nofun) e;have R1:=R.turn W.P W.n1 kp;have tg1:iU H1 r.nm (d.tags.take k) (ns.take k):=(W.tg.fr kt).takeN k;have uH:iU H1 r.nm (d.tags.drop k) (ns.drop k):=(W.tg.fr kt).dropN k;refine⟨_,rfl,x,_,r.dx,_,_,_,rfl,R1.o,rfl,T.aa,Daf,_,rfl,t,_,_,_,rfl,rfl,SqT.of ht,kL (j:=0) rfl,x,r,l1,_,ns.take k,rfl,R1,hl1,tg1,fun H2 k2 R2=>?_⟩;have wO:st≠x:=jOT P1.s R1;have P2:=P1.off R1.o k2 W.n1 W.n2 W.n3 wO;have uL:∀ b xs,H1 b=some (.tup xs)->H2 b=some (.tup xs):=fun b xs e=>k2 _ _ (eW e R1.o nofun) e;refine⟨_,rfl,q eS (by omega) t l1 l2 st il H2 (fun b o b1 b2 e=>k2 _ _ b1 (kp _ _ b2 e)) jA (uL _ _ ht) ⟨_,k2 _ _ (eW hl1 R1.o nofun) hl1,tg1.fr uL⟩ ⟨_,k2 _ _ (eW xJ R1.o nofun) xJ,uH.fr uL⟩ ⟨R2,P2,⟨rfl,fun i y n a=>by cases a⟩,W.n1,W.n2,W.n3,wO,?_⟩⟩;rw [jGK];intro z;have z':r.il=il:=z;obtain⟨ys,hy,_⟩:=id R.i;rw [<- z',hy] at jA;cases jA
theorem jNy(r:RD)(b:Bool):mH "broken" (.bl b) r.fs=({ r with br:=b }:RD).fs:=by first|rfl|decide +kernel
def jLy(r:RD):RD:={ r with br:=!decide (r.ps=r.tot),pr:=none }
inductive jFb(cR cJ cO cP cS cY cM cW:Addr)(vs:List V)(H:Hp)(Q:VK)(E:XK):Prop|mk x r:vs=[.ref x]->jG cR cJ H x r->(¬ Liv r->OvR cO r H E)->(Liv r->(r.pr=none->∀ l H',(∀ b o,b≠x->H b=some o->H' b=some o)->l≠x->H' l=some (.lst [])->jG cR cJ H' x (jLy r)->Q (.ref l) H') /\
 ∀ p,r.pr=some p->∃ d ns,Wd cR cJ cP cS cY cM cW H x r p d ns/\(ns≠[]->d.S=.rd)/\NW r ns/\∀ l H1 H',Emp cR cJ cP cS cY cM cW H H1 x r p d l ns->(∀ b o,b≠x->H1 b=some o->H' b=some o)->jG cR cJ H' x (jLy (kO r ns))->Q (.ref l) H')->jFb cR cJ cO cP cS cY cM cW vs H Q E
theorem jIE:gF ["self","came"] ["self"] (fY jG5):=scM
include T in
theorem jNb(F:Fun K "drop" "Run.drop" jG5 fa fd)(Daj:MtE P w K mg base 4 "must_go_on" yK ["self"] (jB0 yK yG vZ cZ cQ yJ yW yU))(DaB:MtE P w K mg base 5 "emptied" yK ["self"] (jDd yK yG cZ cQ yJ yW yU))(Daa:MtE P w K mg base 3 "whole" yK ["self"] (jBx yK yG cZ cQ yJ yW yU)) :
 fJ P w K mg base (CXe P w) 6 fa fd ["self"] (jFb yK yG vZ cZ cQ yJ yW yU):=by
 refine F.okE jIE fun fE A outer s H vs Q E hr h=>?_;obtain⟨x,r,rfl,R,qo,qg⟩:=h;exists _,(d9 (kE (jR 4 jQ hr.m (pv 0))) (d9 (psA (i:=1) jIE.nd (jR 5 jQ hr.m (pv 0))) (d9 (kX (pv 0) (jN3 (jR 3 jQ hr.m (pv 0))) rfl) (d9 (kX (pv 0) nX rfl) (d7 (gY (pv 1)))))))
 refine⟨_,rfl,x,_,r.dx,_,_,_,rfl,R.o,rfl,T.aa,Daj,x,r,rfl,R,fun lv=>?_,qo⟩;obtain⟨q1,q2⟩:=qg lv;have fin:∀ {H1:Hp} {r1:RD},jG yK yG H1 x r1->jG yK yG (upd (upd H1 x (.ins yK r1.dx ({ r1 with br:=!decide (r1.ps=r1.tot) }:RD).fs)) x (.ins yK r1.dx (jLy r1).fs)) x (jLy r1):=fun {H1 r1} R1=>(R1.set r1.ps r1.pr r1.sl (!decide (r1.ps=r1.tot))).set r1.ps none r1.sl (!decide (r1.ps=r1.tot));refine⟨_,rfl,x,_,r.dx,_,_,_,rfl,R.o,rfl,T.aa,DaB,x,r,rfl,R,fun hp l H1 s1 nl hl=>?_,fun p hp=>?_⟩
 ·have R1:=R.same s1;exists _,rfl,x,_,_,_,_,_,rfl,R1.o,rfl,T.aa,Daa,x,r,rfl,R1,_,rfl;refine⟨_,rfl,x,yK,_,_,rfl,R1.o,T.aa,T.aM,(by show 6<1000;decide),?_⟩;rw [jNy];have R2:=R1.set r.ps r.pr r.sl (!decide (r.ps=r.tot));refine⟨_,rfl,x,yK,_,_,rfl,R2.o,T.aa,T.ag,(by show 6<1000;decide),?_⟩;rw [show (V.non)=prV none from rfl,jGJ];have tD:l≠x:=fun z=>by rw [z,R.o] at nl;cases nl
  exact⟨_,rfl,q1 hp l _ (fun b o nb e=>by rw [dW nb,dW nb];exact s1 _ _ e) tD (by rw [dW tD,dW tD];exact hl) (fin R1)⟩
 ·obtain⟨d,ns,W,hS,nw,q⟩:=q2 p hp;refine⟨d,ns,W,hS,nw,lv.2,fun l H1 em=>?_⟩;have R1:=em.w.R;exists _,rfl,x,_,_,_,_,_,rfl,R1.o,rfl,T.aa,Daa,x,_,rfl,R1,_,rfl;refine⟨_,rfl,x,yK,_,_,rfl,R1.o,T.aa,T.aM,(by show 6<1000;decide),?_⟩;rw [jNy];have R2:=R1.set (kO r ns).ps (kO r ns).pr (kO r ns).sl (!decide ((kO r ns).ps=(kO r ns).tot));refine⟨_,rfl,x,yK,_,_,rfl,R2.o,T.aa,T.ag,(by show 6<1000;decide),?_⟩;rw [show (V.non)=prV none from rfl,jGJ];exact⟨_,rfl,q l H1 _ em (fun b o nb e=>by rw [dW nb,dW nb];exact e) (fin R1)⟩
def jJP(iN:Bool)(ns:List Int):List Int:=if iN=true then ns.take 1 else []
def jLz(iN:Bool)(ns:List Int):List Int:=if iN=true then ns.drop 1 else ns
structure Stp(cR cJ cP cS cY cM cW:Addr)(H H':Hp)(x:Addr)(r:RD)(p:Addr)(d d':PD)(l:Addr)(outs ns:List Int):Prop where
 fr:∀ b o,b≠x->b≠d.ins->b≠d.tr2->b≠d.ik2->H b=some o->H' b=some o
 nl:H l=none
 l:∃ ts,H' l=some (.lst ts)/\iU H' r.nm ts outs
 w:Wd cR cJ cP cS cY cM cW H' x (kO r outs) p d' ns
theorem take_if[Decidable c](e:decide c=iN)(l:List α):(if c then l.take 1 else [])=if iN=true then l.take 1 else []:=by
 subst e;by_cases h:c
 ·rw [if_pos h,if_pos (decide_eq_true h)]
 ·rw [if_neg h,if_neg (fun z=>h (of_decide_eq_true z))]
theorem drop_if[Decidable c](e:decide c=iN)(l:List α):(if c then l.drop 1 else l)=if iN=true then l.drop 1 else l:=by
 subst e;by_cases h:c
 ·rw [if_pos h,if_pos (decide_eq_true h)]
 ·rw [if_neg h,if_neg (fun z=>h (of_decide_eq_true z))]
theorem iU.outs{H:Hp}{nm:Str}{ts:List V}{ns:List Int}(h:iU H nm ts ns)(iN:Bool):iU H nm (if iN=true then ts.take 1 else []) (jJP iN ns):=by
 unfold jJP;cases iN with
 | true=>rw [if_pos rfl,if_pos rfl];exact h.take1
 | false=>rw [if_neg (by decide),if_neg (by decide)];exact⟨rfl,fun i y n a=>by simp at a⟩
theorem iU.rest{H:Hp}{nm:Str}{ts:List V}{ns:List Int}(h:iU H nm ts ns)(iN:Bool):iU H nm (if iN=true then ts.drop 1 else ts) (jLz iN ns):=by
 unfold jLz;cases iN with
 | true=>rw [if_pos rfl,if_pos rfl];exact h.drop1
 | false=>rw [if_neg (by decide),if_neg (by decide)];exact h
theorem next_lo(r:RD)(ns:List Int):-1<=m9 r ns:=by
 unfold m9;split<;>omega
inductive jFc(cR cJ cO cX cN cP cS cY cM cW:Addr)(vs:List V)(H:Hp)(Q:VK)(E:XK):Prop|mk x r:vs=[.ref x]->jG cR cJ H x r->(¬ Liv r->OvR cO r H E)->(Liv r->r.pr=none->pL cX "job" (.str r.nm) H E)->(Liv r->∀ p,r.pr=some p->∃ d ns,Wd cR cJ cP cS cY cM cW H x r p d ns/\(d.S≠.rd->pL cN "found" (.str (wd d.S)) H E) /\
 (m9 r ns<(r.tot:Int)->d.tags.length<=800/\∃ A,d.am.lookup (mN r (m9 r ns)).1=some A/\1<=A/\(mN r (m9 r ns)).2.1<=d.b/\(mN r (m9 r ns)).2.2<=d.c/\(d.S=.rd->∀ l H' ts iN,iN=decide (d.path<((ns.length+1:Nat):Int)) ->
  Stp cR cJ cP cS cY cM cW H H' x r p d { d with am:=lS d.am (mN r (m9 r ns)).1 (A-1),b:=d.b-(mN r (m9 r ns)).2.1,c:=d.c-(mN r (m9 r ns)).2.2,tags:=ts } l (jJP iN (ns++[m9 r ns])) (jLz iN (ns++[m9 r ns]))->Q (.ref l) H')) /\
 (¬ m9 r ns<(r.tot:Int)->d.S=.rd->∀ l H' ts,Stp cR cJ cP cS cY cM cW H H' x r p d { d with tags:=ts } l (ns.take 1) (ns.drop 1)->Q (.ref l) H'))->jFc cR cJ cO cX cN cP cS cY cM cW vs H Q E
theorem jIF:gF ["self","tag"] ["self"] (fY jG6):=scM
include T in
theorem jNc(F:Fun K "step" "Run.step" jG6 fa fd)(DaC:MtE P w K mg base 5 "must_be_placed" yK ["self"] (jBQ yK yG vZ vX cZ cQ yJ yW yU))(Dbn:MtE P w K mg base 3 "upcoming" yK ["self"] (jEl yK yG cZ cQ yJ yW yU))(DaA:MtE P w K mg base 4 "push" cZ ["self"] (jE9 cK cZ cQ yJ yW yU))(Dbo:MtE P w K mg base 7 "fed" yK ["self","tag"] (jH1 yK yG cK cZ cQ yJ yW yU))(Daf:MtE P w K mg base 4 "note_out" yK ["self","tags"] (jCj yK yG cZ cQ yJ yW yU)) :
 fJ P w K mg base (CXe P w) 8 fa fd ["self"] (jFc yK yG vZ vX cK cZ cQ yJ yW yU):=by
 refine F.okE jIF fun fE A outer s H vs Q E hr h=>?_;obtain⟨x,r,rfl,R0,qo,qx,qg⟩:=h;exists _,(d9 (kE (jR 5 jQ hr.m (pv 0))) (d9 (psA (i:=1) jIF.nd (jR 3 jQ hr.m (pv 0))) (d7 (gY (oM 4 jQ hr.m (pv 0) (dJ (jCE (tcA jFl (pv 1) nX) (jR 4 jQ hr.m (hV (pv 0) rfl)) (oM 7 jQ hr.m (pv 0) (dJ (pv 1) dX))) dX))))))
 refine⟨_,rfl,x,_,r.dx,_,_,_,rfl,R0.o,rfl,T.aa,DaC,x,r,rfl,R0,fun lv p hp=>?_,qx,qo⟩;obtain⟨d,ns,W,qn,q1,q2⟩:=qg lv p hp;refine⟨_,rfl,x,_,r.dx,_,_,_,rfl,W.R.o,rfl,T.aa,Dbn,x,r,rfl,W.R,(fun z=>by rw [hp] at z;cases z),fun p' qS=>?_⟩;obtain rfl:p=p':=by rw [hp] at qS;exact Option.some.inj qS
 refine⟨d,ns,W.P,W.tg,fun cn t H1 s1 nt ht=>?_,fun cn H1 s1=>?_⟩
 ·obtain⟨lt8,A,la,a1,ub,uc,q⟩:=q1 cn;have W1:=W.same s1;refine⟨_,rfl,x,_,r.dx,_,_,_,rfl,W1.R.o,rfl,T.aa,Daf,_,rfl,rfl,false,rfl,jJ ?_⟩;refine⟨_,rfl,x,_,r.dx,_,_,_,rfl,W1.R.o,rfl,T.aa,Dbo,_,rfl,x,r,t,_,p,d,A,rfl,W1.R,ht,next_lo _ _,hp,W1.P,fun z=>(qn z).after s1,la,a1,ub,uc,lt8,fun eS l H2 k2 nl hl P2=>?_⟩;have elen:=W.tg.1;have tg1:=W1.tg.snoc ht;have h1:=W1.P.n;have h2:=W1.P.T.2.2.1;have h3:=W1.P.I.2.2.1;have uH:iU H2 r.nm (d.tags++[V.ref t]) (ns++[m9 r ns]):=tg1.fr fun b xs e=>k2 _ _ (eW e h1 nofun) (eW e h2 nofun) (eW e h3 nofun) e;have R2:=W1.R.prn W1.P W1.n5 k2;generalize hov:decide (d.path<((d.tags.length+1:Nat):Int))=iN at hl;rw [take_if hov] at hl;refine⟨x,r,l,_,jJP iN (ns++[m9 r ns]),rfl,R2,hl,uH.outs iN,fun H3 k3 R3=>?_⟩;have tD:l≠x:=fun z=>by rw [z,W1.R.o] at nl;cases nl
  have wR:∀ b xs,H2 b=some (.tup xs)->H3 b=some (.tup xs):=fun b xs e=>k3 _ _ (eW e R2.o nofun) e;refine q eS l H3 (if iN=true then (d.tags++[V.ref t]).drop 1 else d.tags++[V.ref t]) iN (by rw [<- hov,elen]) ⟨fun b o e1 e2 e3 e4 e=>k3 _ _ e1 (k2 _ _ e2 e3 e4 (s1 _ _ e)),s1.free nl,⟨_,k3 _ _ tD hl,(uH.outs iN).fr wR⟩,?_⟩;have P3:=P2.off R2.o k3 W.n1 W.n2 W.n3 W.n4;have ed:xP d (mN r (m9 r ns)).1 A (mN r (m9 r ns)).2.1 (mN r (m9 r ns)).2.2 (V.ref t)={ d with am:=lS d.am (mN r (m9 r ns)).1 (A-1),b:=d.b-(mN r (m9 r ns)).2.1,c:=d.c-(mN r (m9 r ns)).2.2,tags:=if iN=true then (d.tags++[V.ref t]).drop 1 else d.tags++[V.ref t] }:=by
   unfold xP xQ;rw [drop_if hov]
  rw [ed] at P3;exact⟨R3,P3,by rw [jKz];exact (uH.rest iN).fr wR,W.n1,W.n2,W.n3,W.n4,by rw [jGK];exact W.n5⟩
 ·have W1:=W.same s1;refine⟨_,rfl,x,_,r.dx,_,_,_,rfl,W1.R.o,rfl,T.aa,Daf,_,rfl,rfl,true,rfl,kM ?_⟩;exists _,rfl,x,yK,r.dx,_,_,rfl,W1.R.o,T.aa,T.ag,rfl;rw [hp];refine⟨p,_,d.dx,_,_,_,rfl,W1.P.o,rfl,T.ad,DaA,p,d,rfl,W1.P,fun eS l H2 k2 nl hl P2=>?_,fun z=>(qn z).after s1⟩;have k2':∀ b o,b≠d.ins->b≠d.tr2->b≠d.ik2->H1 b=some o->H2 b=some o:=fun b o e1 _ _ e=>k2 b o e1 e;have uH:iU H2 r.nm d.tags ns:=W1.tg.fr fun b xs e=>k2 _ _ (eW e W1.P.n nofun) e;have R2:=W1.R.prn W1.P W1.n5 k2';refine⟨x,r,l,_,ns.take 1,rfl,R2,hl,uH.take1,fun H3 k3 R3=>?_⟩;have tD:l≠x:=fun z=>by rw [z,W1.R.o] at nl;cases nl
  have wR:∀ b xs,H2 b=some (.tup xs)->H3 b=some (.tup xs):=fun b xs e=>k3 _ _ (eW e R2.o nofun) e;refine q2 cn eS l H3 (d.tags.drop 1) ⟨fun b o e1 e2 e3 e4 e=>k3 _ _ e1 (k2 _ _ e2 (s1 _ _ e)),s1.free nl,⟨_,k3 _ _ tD hl,uH.take1.fr wR⟩,?_⟩;exact⟨R3,P2.off R2.o k3 W.n1 W.n2 W.n3 W.n4,by rw [jKz];exact uH.drop1.fr wR,W.n1,W.n2,W.n3,W.n4,by rw [jGK];exact W.n5⟩
def wT(j:Jv):List (Int×Int):=(wW j.l j.n).map fun s=>tL s j.colour
def uK(dx jb il:Addr)(nm:Str)(cp:Nat)(j:Jv):RD:=⟨dx,jb,il,nm,cp,j,wT j,0,none,false,false⟩
theorem jNV{l:Ly}{n:Nat}(ok:Ly.Ok l){i:Nat}{s:List Int×List Int}(h:(wW l n)[i]?=some s):s.1.length<=100/\s.2.length<=100:=by
 have c:=Ly.cells_pos ok;unfold wW at h;rw [getElem?_map] at h;obtain⟨k,_,rfl⟩:=dY.mp h;unfold jEC jGA;refine⟨by rw [c6,dP];omega,?_⟩;dsimp only;split
 ·rw [c6,dP];omega
 ·rw [iD];omega
theorem jMv(l:Ly)(n:Nat):(wW l n).length=mO l n:=by unfold wW;rw [c6,dP]
theorem jOU(h:1<=n):mO l n<=n:=by
 unfold mO;have:=Nat.div_le_self (n-1) l.per;omega
inductive jHh(cR cJ:Addr)(vs:List V)(H:Hp)(Q:VK)(E_:XK):Prop|mk (x dx jb:Addr) (nm:Str) (cp:Nat) (j:Jv):vs=[.ref x,.ref jb]->H x=some (.ins cR dx [])->jHf cJ H jb nm cp j->j.Ok->1<=cp->cp<=99->jb≠x->(∀ il H',(∀ b o,b≠x->H b=some o->H' b=some o)->H il=none->jG cR cJ H' x (uK dx jb il nm cp j)->Q .non H')->jHh cR cJ vs H Q E_
theorem jNd:gF ["self","job"] ["self","job"] (fY jG1):=scM
include T in
theorem jNe(F:Fun K "__init__" "Run.__init__" jG1 fa fd)(Dbp:Dfn P w K mg base 2 "ink_of" ["sheet","colour"] (jHY K))(Dbq:Dfn P w K mg base 5 "sheets_of" ["job"] (jFI yG)) :
 fJ P w K mg base CX0 6 fa fd ["self","job"] (jHh yK yG):=by
 refine F.ok jNd fun fE A outer s H vs Q E hr h=>?_;obtain⟨x,dx,jb,nm,cp,j,rfl,hx,J,ok,c1,c2,njx,q⟩:=h;exists _,(d9 (kX (pv 0) (pv 1) rfl) (d9 (kX (pv 0) (jCx (frees:=[ ("job",1) ]) ⟨by decide +kernel,rfl,rfl,by decide +kernel,⟨⟨rfl,rfl,rfl,by decide +kernel⟩,trivial⟩,by decide +kernel,uW rfl,rfl⟩ rfl (q9 (lX Dbq hr.m rfl (dJ (pv 1) dX))) (fun _ _ _ _=>jCn) (fun _ _ _ _=>by exact (lX Dbp hr.m rfl (dJ (pv 0) (dJ (pe_fldK (K:=K) rfl (pv 1) rfl) dX))))) rfl) (d9 (kX (pv 0) eO rfl) (d9 (kX (pv 0) nX rfl) (d9 (kX (pv 0) nQ rfl) (d7 (kX (pv 0) nQ rfl)))))))
 refine⟨_,rfl,_,rfl,x,yK,dx,_,rfl,hx,T.aa,T.av,(by show 0<1000;decide),?_⟩;rw [rT (by show ¬ ("job":Str)∈([]:List Str);decide +kernel),j7];have pO:upd H x (.ins yK dx [("job",V.ref jb)]) x=some (.ins yK dx [("job",V.ref jb)]):=d4;have k1:∀ b o,b≠x->H b=some o->upd H x (.ins yK dx [("job",V.ref jb)]) b=some o:=fun b o nb e=>by rw [dW nb];exact e
 generalize upd H x (.ins yK dx [("job",V.ref jb)])=H1 at pO k1 ⊢;have J1:jHf yG H1 jb nm cp j:=J.fr (fun o e=>k1 _ _ njx e) (fun b xs e=>k1 _ _ (eW e hx nofun) e);obtain⟨jx,jb',ji,jk,jc,je,jcol⟩:=id J1;refine⟨_,rfl,jb,j,rfl,J1.jo,ok,fun pl H2 s2 npl SF=>?_⟩;obtain⟨ys,j4,ly,gy⟩:=SF;have lc:=jMv j.l j.n;have ch:=jOU (l:=j.l) ok.1;have n9:=ok.2.1;exists pl,rfl,⟨_,SqL.of j4⟩
 refine jFp (jFn (K:=K) (SqL.of j4)) (fun y z H3=>∀ s,jFg H2 y s->∃ t,z=.ref t/\H3 t=some (.tup [.int (tL s j.colour).1,.int (tL s j.colour).2])) (oN (by omega)) (fun y hy H' R _ rr=>rr) (fun y hy H' R sm rr=>?_) (fun il H3 zs s3 jA hil lz gz=>?_)
 ·obtain⟨i,ei⟩:=mem_iff_getElem?.mp hy;obtain⟨s,es⟩:∃ s,(wW j.l j.n)[i]?=some s:=⟨_,getElem?_eq_getElem (by rw [<- ly];exact (List.getElem?_eq_some_iff.mp ei).1)⟩
  have sa:=(gy i y s ei es).at
  obtain⟨l1,l2⟩:=jNV ok.2.2 es;refine⟨_,rfl,_,rfl,jb,yG,jx,_,_,rfl,(s2.trans sm) _ _ je,T.ae,T.bG,jF7 _ _ _ _ _ _ _ _ _ _,y,jc,s,j.colour,rfl,sa.same sm,l1,l2,jcol.same (s2.trans sm),fun t H'' s'' nt ht=>?_⟩;refine rr _ _ s'' ⟨fun b=>b=t,fun b hb=>by subst hb;exact⟨nt,_,ht⟩,fun H3 h3 s' sa'=>⟨t,rfl,?_⟩⟩;rw [h3 t rfl,ht];obtain⟨t1,f1,b1,e1,g1,g2,g3⟩:=sa;obtain⟨t2,f2,b2,e2,g4,g5,g6⟩:=sa';rw [e1] at e2;cases e2;rw [g1] at g4;cases g4;rw [g2] at g5;rw [g3] at g6;have q1:s.1=s'.1:=by injection g5 with g5;injection g5 with g5;exact (List.map_inj_right (fun a b z=>by injection z)).mp g5
  have q2:s.2=s'.2:=by injection g6 with g6;injection g6 with g6;exact (List.map_inj_right (fun a b z=>by injection z)).mp g6
  rw [show s=s' from Prod.ext q1 q2]
 have rK:=s2.trans s3;have hx3:=rK _ _ pO;have nilx:il≠x:=eW hil hx3 nofun
 have kk:∀ b o,b≠x->H b=some o->H3 b=some o:=fun b o nb e=>rK _ _ (k1 b o nb e);have I3:jH0 H3 il (wT j):=by
  refine⟨zs,hil,by unfold wT;rw [c6,lz,ly],fun i z s e1 e2=>?_⟩;unfold wT at e2;rw [getElem?_map] at e2;obtain⟨sh,es,rfl⟩:=dY.mp e2;obtain⟨y,ey⟩:∃ y,ys[i]?=some y:=⟨_,getElem?_eq_getElem (by rw [ly];exact (List.getElem?_eq_some_iff.mp es).1)⟩
  exact gz i y z ey e1 sh (gy i y sh ey es).at
 have J3:=J1.fr (fun o e=>rK _ _ e) (fun b xs e=>rK _ _ e);have k1':=k1;clear gz gy pO k1 J1;refine⟨_,rfl,x,yK,dx,_,rfl,hx3,T.aa,T.bv,(by show 1<1000;decide),?_⟩;rw [rT (by show ¬ ("inks":Str)∈(["job"]:List Str);decide +kernel)];have hx4:upd H3 x (.ins yK dx (([("job",V.ref jb)]:List (Str×V))++([("inks",V.ref il)]:List (Str×V)))) x=some (.ins yK dx [("job",V.ref jb),("inks",V.ref il)]):=d4;have e4:∀ b o,b≠x->H3 b=some o->upd H3 x (.ins yK dx (([("job",V.ref jb)]:List (Str×V))++([("inks",V.ref il)]:List (Str×V)))) b=some o:=fun b o nb e=>by rw [dW nb];exact e
 generalize upd H3 x (.ins yK dx (([("job",V.ref jb)]:List (Str×V))++([("inks",V.ref il)]:List (Str×V))))=H4 at hx4 e4 ⊢;refine⟨_,rfl,x,yK,dx,_,rfl,hx4,T.aa,T.ay,(by show 2<1000;decide),?_⟩;rw [rT (by show ¬ ("passed":Str)∈(["job","inks"]:List Str);decide +kernel)];have hx5:upd H4 x (.ins yK dx (([("job",V.ref jb),("inks",V.ref il)]:List (Str×V))++([("passed",V.int 0)]:List (Str×V)))) x=some (.ins yK dx [("job",V.ref jb),("inks",V.ref il),("passed",V.int 0)]):=d4;have e5:∀ b o,b≠x->H4 b=some o->upd H4 x (.ins yK dx (([("job",V.ref jb),("inks",V.ref il)]:List (Str×V))++([("passed",V.int 0)]:List (Str×V)))) b=some o:=fun b o nb e=>by rw [dW nb];exact e
 generalize upd H4 x (.ins yK dx (([("job",V.ref jb),("inks",V.ref il)]:List (Str×V))++([("passed",V.int 0)]:List (Str×V))))=H5 at hx5 e5 ⊢;refine⟨_,rfl,x,yK,dx,_,rfl,hx5,T.aa,T.ag,(by show 3<1000;decide),?_⟩;rw [rT (by show ¬ ("printer":Str)∈(["job","inks","passed"]:List Str);decide +kernel)];have hx6:upd H5 x (.ins yK dx (([("job",V.ref jb),("inks",V.ref il),("passed",V.int 0)]:List (Str×V))++([("printer",V.non)]:List (Str×V)))) x=some (.ins yK dx [("job",V.ref jb),("inks",V.ref il),("passed",V.int 0),("printer",V.non)]):=d4;have e6:∀ b o,b≠x->H5 b=some o->upd H5 x (.ins yK dx (([("job",V.ref jb),("inks",V.ref il),("passed",V.int 0)]:List (Str×V))++([("printer",V.non)]:List (Str×V)))) b=some o:=fun b o nb e=>by rw [dW nb];exact e
 generalize upd H5 x (.ins yK dx (([("job",V.ref jb),("inks",V.ref il),("passed",V.int 0)]:List (Str×V))++([("printer",V.non)]:List (Str×V))))=H6 at hx6 e6 ⊢;refine⟨_,rfl,x,yK,dx,_,rfl,hx6,T.aa,T.aL,(by show 4<1000;decide),?_⟩;rw [rT (by show ¬ ("slipped":Str)∈(["job","inks","passed","printer"]:List Str);decide +kernel)];have hx7:upd H6 x (.ins yK dx (([("job",V.ref jb),("inks",V.ref il),("passed",V.int 0),("printer",V.non)]:List (Str×V))++([("slipped",V.bl false)]:List (Str×V)))) x=some (.ins yK dx [("job",V.ref jb),("inks",V.ref il),("passed",V.int 0),("printer",V.non),("slipped",V.bl false)]):=d4;have e7:∀ b o,b≠x->H6 b=some o->upd H6 x (.ins yK dx (([("job",V.ref jb),("inks",V.ref il),("passed",V.int 0),("printer",V.non)]:List (Str×V))++([("slipped",V.bl false)]:List (Str×V)))) b=some o:=fun b o nb e=>by rw [dW nb];exact e
 generalize upd H6 x (.ins yK dx (([("job",V.ref jb),("inks",V.ref il),("passed",V.int 0),("printer",V.non)]:List (Str×V))++([("slipped",V.bl false)]:List (Str×V))))=H7 at hx7 e7 ⊢;refine⟨_,rfl,x,yK,dx,_,rfl,hx7,T.aa,T.aM,(by show 5<1000;decide),?_⟩;rw [rT (by show ¬ ("broken":Str)∈(["job","inks","passed","printer","slipped"]:List Str);decide +kernel)];have hx8:upd H7 x (.ins yK dx (([("job",V.ref jb),("inks",V.ref il),("passed",V.int 0),("printer",V.non),("slipped",V.bl false)]:List (Str×V))++([("broken",V.bl false)]:List (Str×V)))) x=some (.ins yK dx [("job",V.ref jb),("inks",V.ref il),("passed",V.int 0),("printer",V.non),("slipped",V.bl false),("broken",V.bl false)]):=d4;have e8:∀ b o,b≠x->H7 b=some o->upd H7 x (.ins yK dx (([("job",V.ref jb),("inks",V.ref il),("passed",V.int 0),("printer",V.non),("slipped",V.bl false)]:List (Str×V))++([("broken",V.bl false)]:List (Str×V)))) b=some o:=fun b o nb e=>by rw [dW nb];exact e
 generalize upd H7 x (.ins yK dx (([("job",V.ref jb),("inks",V.ref il),("passed",V.int 0),("printer",V.non),("slipped",V.bl false)]:List (Str×V))++([("broken",V.bl false)]:List (Str×V))))=H8 at hx8 e8 ⊢;have e38:∀ b o,b≠x->H3 b=some o->H8 b=some o:=fun b o nb e=>e8 b o nb (e7 b o nb (e6 b o nb (e5 b o nb (e4 b o nb e))));have kt:∀ b xs,H3 b=some (.tup xs)->H8 b=some (.tup xs):=fun b xs e=>e38 _ _ (eW e hx3 nofun) e;have il0:H il=none:=by
  cases e:H il with
  | none=>rfl
  | some u =>
    rw [s2 _ _ (k1' _ _ nilx e)] at jA;cases jA
 exact q il H8 (fun b o nb e=>e38 _ _ nb (kk b o nb e)) il0 { o:=hx8,j:=J3.fr (fun o e=>e38 _ _ njx e) kt,i:=I3.fr (fun o e=>e38 _ _ nilx e) kt,n:=njx,c1:=c1,c2:=c2,i1:=by unfold uK wT;rw [c6,lc];unfold mO;exact Nat.le_add_left 1 _,i2:=by unfold uK wT;rw [c6,lc];omega }
theorem kY{a rest:TS}{D:tH}{σ:St}{H:Hp}(P:St->Hp->Prop)(h1:∀ R:St->Hp->Prop,(∀ σ H,P σ H->R σ H)->a { D with nx:=R } σ H)(h2:∀ σ H,P σ H->rest D σ H):tSeq a rest D σ H:=h1 _ h2
inductive jFd(_K:PySem.W.Frag)(vs:List V)(H:Hp)(Q:VK)(E_:XK):Prop|mk (n:Int):vs=[.int n,.int n]->Q (.bl true) H->jFd _K vs H Q E_
theorem jNW:gF ["_law_num","_law_due"] ["_law_num","_law_due"] (fY jHR):=scM
include T in
theorem jNX(F:Fun K "_law_is" "_law_is" jHR fa fd)  :
 fJ P w K mg base CX0 1 fa fd ["_law_num","_law_due"] (jFd K):=by
 refine F.ok jNW fun fE A outer s H vs Q E hr h=>?_;obtain⟨n,rfl,q⟩:=h;exists _,(d7 (gY (jIX (rV jGS rfl T.aQ jI_ (dJ (pv 0) (dJ (jH5 rfl T.aF jHF (jJa _)) dX))) (jIX (jN3 (rV jGS rfl T.aQ jI_ (dJ (pv 0) (dJ (jH5 rfl T.bK bt_bool (jJa _)) dX)))) (jLC (ecA nC (pv 0) (pv 1)))))))
 refine⟨_,rfl,_,_,_,true,rfl,rS.int _,jIJ _,true,rfl,kM ?_⟩;refine⟨_,rfl,_,_,_,false,rfl,rS.int _,jLU _,false,rfl,true,rfl,kM ?_⟩;exists _,rfl,_,rfl,rfl;rw [decide_eq_true rfl];exact q
theorem up_head(h1:2<=n)(h2:n<=16):Txt.slice (Ly.text (.up n)) none (some 3)=c7 "up:"/\(Ly.text (.up n)).length<=20:=by
 have all:∀ n:Fin 17,2<=n.val->Txt.slice (Ly.text (.up n.val)) none (some 3)=c7 "up:"/\(Ly.text (.up n.val)).length<=20:=by decide +kernel
 exact all ⟨n,by omega⟩ h1
inductive jFK(_K:PySem.W.Frag)(vs:List V)(H:Hp)(Q:VK)(E_:XK):Prop|mk (n:Nat) (l:Ly):vs=[.int (n:Int),.str (Ly.text l)]->Ly.Ok l->1<=n->n<=999->Q (.int ((mO l n:Nat):Int)) H->jFK _K vs H Q E_
theorem jDV:gF ["_law_pages","_law_layout","_law_per"] ["_law_pages","_law_layout"] (fY jGq):=scM
include T in
theorem jMw(F:Fun K "_law_each" "_law_each" jGq fa fd)  :
 fJ P w K mg base CX0 1 fa fd ["_law_pages","_law_layout"] (jFK K):=by
 refine F.ok jDV fun fE A outer s H vs Q E hr h=>?_;obtain⟨n,l,rfl,ok,n1,n9,q⟩:=h;exists _,(d9 (psA (i:=2) jDV.nd eO) (d9 (jC (tcA nC (pv 1) hX) (d7 (psA (i:=2) jDV.nd eO)) jK) (d9 (jC (tcA nC (jCH jHG (pv 1) jDs (jDt eO)) hX) (d7 (psA (i:=2) jDV.nd (iO jFk eO (uC jDb rfl T.aF jHF (dJ (jCH jHG (pv 1) (jDt eO) jDs) dX))))) jK) (d7 (gY (iO jGx (iO jHA (iO oE (pv 0) (pv 2)) eO) (pv 2)))))))
 have hp:=Ly.per_pos ok;have fin:∀ k:Int,k=(l.per:Int)->Q (.int (((n:Int)+k-1)/k)) H:=fun k ek=>by
  have e:((n:Int)+(l.per:Int)-1)/(l.per:Int)=((mO l n:Nat):Int):=by
   rw [show (n:Int)+(l.per:Int)-1=((n-1+l.per:Nat):Int) from by omega,<- Int.natCast_ediv,Nat.add_div_right _ (by omega)];rfl
  rw [ek,e];exact q
 have tail:∀ k:Int,k=(l.per:Int)->k<1000->0<k->tRet (tOp (rI CDiv fun i j=>.int (i/j)) (tOp (rI0 fun i j=>.int (i-j)) (tOp (rI0 fun i j=>.int (i+j)) (tY 0) (tY 2)) (tC (.int 1))) (tY 2)) { nx:=fun _ H'=>Q .non H',rt:=Q } [some (.int (n:Int)),some (.str (Ly.text l)),some (.int k)] H:=fun k ek k1 k0=>⟨_,rfl,_,rfl,_,_,rfl,rfl,_,_,rfl,rfl,_,rfl,_,_,rfl,rfl,⟨k0,by omega⟩,fin k ek⟩
 exists _,rfl,rfl,_,rfl;cases l with
 | one =>
   refine jE5 (by decide +kernel) ⟨_,rfl,_,rfl,_,rfl,(by decide +kernel),rfl,_,rfl,jE5 (by decide +kernel) ?_⟩;exact tail 1 rfl (by decide) (by decide)
 | both =>
   refine jHS rfl ⟨_,rfl,_,rfl,_,rfl,(by decide +kernel),rfl,_,rfl,jE5 (by decide +kernel) ?_⟩;exact tail 2 rfl (by decide) (by decide)
 | up n' =>
   obtain⟨u1,u2,u3,u4,u5⟩:=jOH ok.1 ok.2;obtain⟨h1,h2⟩:=up_head ok.1 ok.2;have n6:n'<=16:=ok.2;have n2:2<=n':=ok.1;refine jE5 (by intro z;injection z with z;exact u4 z) ⟨_,rfl,_,rfl,_,rfl,small (by omega),rfl,_,rfl,?_⟩;rw [h1];refine jHS rfl ⟨_,rfl,_,rfl,_,rfl,small (by omega),_,_,rfl,u1,le_trans u2 (by decide),_,_,rfl,rfl,.inl ⟨by decide,by decide⟩,?_⟩;refine tail (2*(n':Int)) ?_ (by omega) (by omega);show _=((2*n':Nat):Int)
   omega
def oF(b j:Nat):Int:=if j=0 then -1 else ((b+j-1:Nat):Int)
def kB(b a f:Nat):List Int:=(range (f-a)).map fun i=>oF b (a+i)
theorem jCY(b a f:Nat):(kB b a f).length=f-a:=by unfold kB;rw [c6,dP]
theorem tJ(b a:Nat):kB b a a=[]:=by unfold kB;rw [sI];rfl
theorem jIR(h:a<=f):kB b a f++[oF b f]=kB b a (f+1):=by
 unfold kB;rw [show f+1-a=(f-a)+1 by omega,mQ,dU];show _=_++[oF b (a+(f-a))]
 rw [show a+(f-a)=f by omega]
theorem jHi(h:a+k<=f):(kB b a f).take k=kB b a (a+k):=by
 unfold kB;rw [<- xT,List.take_range,show min k (f-a)=a+k-a by omega]
theorem jMx(h:a<f):kB b a f=oF b a::kB b (a+1) f:=by
 unfold kB;rw [show f-a=(f-(a+1))+1 by omega,List.range_succ_eq_map,dQ,iF];congr 1;refine iR fun i _=>?_;show oF b (a+(i+1))=oF b (a+1+i);rw [show a+(i+1)=a+1+i by omega]
def shN(b a f:Nat):Nat:=if a=0 then f-1 else f-a
theorem itm_ne(h:j≠0):oF b j≠-1:=by
 unfold oF;rw [if_neg h];omega
theorem jHj(b a:Nat):∀ k,tK (kB b a (a+k))=shN b a (a+k)
 | 0=>by
   rw [add_zero,tJ];unfold shN;split
   ·next h=>rw [h];rfl
   ·rw [sI];rfl
 | k+1=>by
   have ih:=jHj b a k;rw [<- qI,<- jIR (by omega),jJN,ih];by_cases c:a+k=0
   ·have e1:oF b (a+k)=-1:=by unfold oF;rw [if_pos c]
    rw [e1];unfold shN;rw [if_pos (by omega),if_pos (by omega),c];rfl
   ·have e1:tK [oF b (a+k)]=1:=by
     unfold tK;rw [List.countP_cons,decide_eq_true (itm_ne c)];rfl
    rw [e1];unfold shN;split<;>omega
def R5(r:RD)(pr:Option Addr)(b a:Nat):RD:={ r with ps:=b+(a-1),sl:=decide (1<=a),pr:=pr }
theorem jMy(h:a<=f):m9 (R5 r p b a) (kB b a f)=oF b f:=by
 have es:=jHj b a (f-a);rw [show a+(f-a)=f by omega] at es;unfold m9;by_cases c:(R5 r p b a).sl=false/\kB b a f=[]
 ·rw [if_pos c];have h1:¬ 1<=a:=of_decide_eq_false c.1;have h2:=congrArg List.length c.2;rw [jCY] at h2;have h3:f-a=0:=h2;unfold oF;rw [if_pos (by omega)]
 ·rw [if_neg c,es];have h4:f≠0:=fun z=>c ⟨decide_eq_false (by omega),by rw [z,show a=0 by omega];exact tJ b 0⟩;unfold oF shN;rw [if_neg h4];show ((b+(a-1)+(if a=0 then f-1 else f-a):Nat):Int)=_;split<;>omega
theorem jPF(h:a<f)(e:sl=decide (1<=a)):jFY sl (kB b a f)=decide (1<=f):=by
 unfold jFY;rw [decide_eq_true (show 1<=f by omega),e];by_cases c:1<=a
 ·rw [decide_eq_true c];rfl
 ·rw [jMx h,mM,show oF b a=-1 by unfold oF;rw [if_pos (by omega)]];simp
theorem jMz(h:a<=f):(lG (R5 r p b a) (kB b a f)).ps=b+(f-1)/\(lG (R5 r p b a) (kB b a f)).sl=decide (1<=f):=by
 have es:=jHj b a (f-a);rw [show a+(f-a)=f by omega] at es;exists ?_
 ·show b+(a-1)+tK (kB b a f)=_;rw [es];unfold shN;split<;>omega
 ·show jFY (decide (1<=a)) (kB b a f)=_;by_cases c:a<f
  ·exact jPF c rfl
  ·rw [show f=a by omega,tJ];unfold jFY;simp
theorem jKB(hb:b<r.tot)(h:a<=f):kO (R5 r (some p) b a) (kB b a f)=R5 r (if b+f=r.tot+1 then none else some p) b f:=by
 obtain⟨e1,e2⟩:=jMz (r:=r) (p:=some p) (b:=b) h;have et:(R5 r (some p) b a).tot=r.tot:=rfl;have full:lG (R5 r (some p) b a) (kB b a f)={ R5 r (some p) b a with ps:=b+(f-1),sl:=decide (1<=f) }:=by
  have g:lG (R5 r (some p) b a) (kB b a f)={ R5 r (some p) b a with ps:=(lG (R5 r (some p) b a) (kB b a f)).ps,sl:=(lG (R5 r (some p) b a) (kB b a f)).sl }:=rfl;rw [g,e1,e2]
 unfold kO;rw [et,e1,full];unfold R5;by_cases c:b+f=r.tot+1
 ·rw [if_pos (by omega),if_pos c]
 ·rw [if_neg (by omega),if_neg c]
theorem liv_5(hb:r.br=false)(h2:b<r.tot)(h:b+a≠r.tot+1):Liv (R5 r p b a):=⟨hb,by show b+(a-1)≠r.tot;omega⟩
theorem jOV(h2:b<r.tot)(lv:Liv (R5 r p b a)):b+a≠r.tot+1:=by
 have:b+(a-1)≠r.tot:=lv.2;omega
theorem jIS:∀ k,a+k<=f->(kB b a f).drop k=kB b (a+k) f
 | 0,_=>rfl
 | k+1,h=>by
   rw [<- n8,jIS k (by omega),jMx (by omega)];rfl
theorem jOW(h2:b<r.tot)(hf:b+f<=r.tot+1):NW (R5 r p b a) (kB b a f):=fun i hi=>by
 rw [jCY] at hi;rw [jHi (by omega),(jMz (by omega)).1];show b+(a+i-1)≠r.tot;omega
theorem jPG:∀ u:Nat,u<17->((u:Int)).natAbs.log2<1920/\(c7 "up:").length+(c7 (toString (u:Int))).length<=1000:=by decide +kernel
theorem jPH(g:G):New H H' (fun _=>G):=⟨fun _=>False,fun _ z=>z.elim,fun _ _=>g⟩
abbrev kw(w:String):Key:=Sum.inr (c7 w)
def l3(g:Nat->V):List V:=[g 0,g 1,g 2]
theorem jH2(h:i<3)(e:(l3 g)[((i:Nat):Int).toNat]?=some v):v=g i:=by
 rw [fU] at e;have:i=0\/i=1\/i=2:=by omega
 rcases this with rfl|rfl|rfl<;>exact (Option.some.inj e).symm
theorem sW{H:Hp}{a:Addr}{kvs:List (Key×V)}{w:String}{v:V}(h:H a=some (.dK kvs))(l:m7 kvs (kw w)=some v):qE H a (.str (c7 w)) (some v):=by
 have:=qE.k (k:=kw w) h;rw [l] at this;exact this
theorem jCM{H:Hp}{b c C dx:Addr}{fs:List (Str×V)}{kv:List (Key×V)}(h:H b=some (.ins C dx fs))(g:H c=some (.dK kv)):b≠c:=eW h g nofun
theorem uX{H:Hp}{b c C dx:Addr}{fs:List (Str×V)}{ts:List V}(h:H b=some (.ins C dx fs))(g:H c=some (.lst ts)):b≠c:=eW h g nofun
def Stk(d:PD)(k0 k1:Str)(fe:Nat):Prop:=∃ A B:Int,d.am=[(k0,A),(k1,B)]/\2000<=A+(fe:Int)/\2000<=B+(fe:Int)/\9999<=d.b+32*(fe:Int)/\9999<=d.c+32*(fe:Int)
theorem Stk.mono(h:Stk d k0 k1 fe)(l:fe<=fe'):Stk d k0 k1 fe':=by
 obtain⟨A,B,e,h2,h3,h4,h5⟩:=h;exact⟨A,B,e,by omega,by omega,by omega,by omega⟩
structure Sp2(p q:Addr)(d e:PD):Prop where
 pq:p≠q
 ii:d.ins≠e.ins
 a1:d.tr2≠e.tr1
 a2:d.tr2≠e.tr2
 a3:d.tr2≠e.ik1
 a4:d.tr2≠e.ik2
 b1:d.ik2≠e.tr1
 b2:d.ik2≠e.tr2
 b3:d.ik2≠e.ik1
 b4:d.ik2≠e.ik2
def Kp(x p:Addr)(d:PD)(H H':Hp):Prop:=∀ b o,b≠x->b≠p->b≠d.ins->b≠d.tr2->b≠d.ik2->H b=some o->H' b=some o
structure Gp(d d':PD)(H:Hp):Prop where
 i:d'.ins=d.ins\/H d'.ins=none
 t:d'.tr2=d.tr2
 k:d'.ik2=d.ik2
 t1:d'.tr1=d.tr1
 k1:d'.ik1=d.ik1
theorem jLA{C C' dx dx':Addr}{fs:List (Str×V)}{d:PD}(h:fs.length≠8):HO.ins C dx fs≠.ins C' dx' d.fs:=fun z=>by
 injection z with _ _ z;exact h (by rw [z];rfl)
theorem jPI(s:S3):(tG s).length≠8:=by cases s with
 | rd=>show 1≠8;decide
 | jm=>show 1≠8;decide
 | aw b=>show 2≠8;decide
structure Zs where
 ap:Option Nat
 b:Nat
 a:Nat
 f:Nat
def jHk(S:Nat->S3)(i:Nat)(s:S3):Nat->S3:=fun j=>if j=i then s else S j
def pB(ds:Nat->PD)(i:Nat)(d:PD):Nat->PD:=fun j=>if j=i then d else ds j
def qB(T:Nat)(z:Zs)(c:Nat):Option Nat:=if z.b+c=T+1 then none else z.ap
def stK(T P b a f:Nat):Nat:=if b+f=T+1 then 1 else if P<f+1-a then 1 else 0
def tU(T b f:Nat):Nat:=if b+f=T+1 then f else f+1
def sK(z:Zs)(i:Nat):List Int:=if z.ap=some i then kB z.b z.a z.f else []
def pn(i:Nat):Str:=c7 "p" ++ c7 (toString (i:Int))
structure Cs where
 R:Addr
 J:Addr
 O:Addr
 X:Addr
 N:Addr
 T:Addr
 P:Addr
 S:Addr
 Y:Addr
 M:Addr
 W:Addr
structure Wg where
 x:Addr
 x':Addr
 ps:Nat->Addr
 r:RD
 r':RD
 ds:Nat->PD
 P:Nat->Nat
 z:Zs
 z':Zs
 S:Nat->S3
 fe:Nat
abbrev lV:Str:=c7 "plain"
abbrev m6:Str:=c7 "card"
structure Zo(T:Nat)(P:Nat->Nat)(S:Nat->S3)(z:Zs):Prop where
 bT:z.b<T
 af:z.a<=z.f
 fT:z.b+z.f<=T+1
 at3:∀ i,z.ap=some i->i<3/\z.b+z.a≠T+1/\z.f-z.a<=P i/\(z.a<z.f->S i=.rd)
 an:z.ap=none->z.a=z.f
structure Rk(r:RD):Prop where
 pp:r.j.paper=lV
 cv:r.j.cover=none\/r.j.cover=some m6
 ik:∀ s∈r.inks,s.1<=32/\s.2<=32
 T1:1<=r.tot
 T9:r.tot<=24
structure Nx(x p:Addr)(r:RD)(d:PD):Prop where
 n1:p≠x
 n2:d.tr≠x
 n3:d.ik≠x
 n4:d.st≠x
 n5:r.il≠d.ins
structure Px(k:Cs)(H:Hp)(p:Addr)(d:PD)(pth:Nat)(S0:S3)(fe:Nat)(nm0:Str):Prop where
 P:iA k.P k.S k.Y k.M k.W H p d
 S:d.S=S0
 pa:d.path=((pth:Nat):Int)
 nm:d.name=nm0
 st:Stk d lV m6 fe
structure Wo(k:Cs)(H:Hp)(w:Wg):Prop where
 R:jG k.R k.J H w.x (R5 w.r (w.z.ap.map w.ps) w.z.b w.z.a)
 R':jG k.R k.J H w.x' (R5 w.r' (w.z'.ap.map w.ps) w.z'.b w.z'.a)
 W:∀ i,i<3->Px k H (w.ps i) (w.ds i) (w.P i) (w.S i) w.fe (pn i)
 N:∀ i,i<3->Nx w.x (w.ps i) w.r (w.ds i)
 N':∀ i,i<3->Nx w.x' (w.ps i) w.r' (w.ds i)
 t:∀ i,i<3->w.z'.ap≠some i->iU H w.r.nm (w.ds i).tags (sK w.z i)
 t':∀ i,i<3->w.z.ap≠some i->iU H w.r'.nm (w.ds i).tags (sK w.z' i)
 A:∀ i j,i<3->j<3->i≠j->Sp2 (w.ps i) (w.ps j) (w.ds i) (w.ds j)
 ok:Zo w.r.tot w.P w.S w.z
 ok':Zo w.r'.tot w.P w.S w.z'
 dj:∀ i,w.z.ap=some i->w.z'.ap≠some i
 xx:w.x≠w.x'
 k:Rk w.r
 k':Rk w.r'
 bn:w.r.br=true->w.z.ap=none
 bn':w.r'.br=true->w.z'.ap=none
def Wg.sw(w:Wg):Wg:=⟨w.x',w.x,w.ps,w.r',w.r,w.ds,w.P,w.z',w.z,w.S,w.fe⟩
theorem Wo.sw{k:Cs}{H:Hp}{w:Wg}(h:Wo k H w):Wo k H w.sw:=⟨h.R',h.R,h.W,h.N',h.N,h.t',h.t,h.A,h.ok',h.ok,fun i a b=>h.dj i b a,h.xx.symm,h.k',h.k,h.bn',h.bn⟩
theorem Wo.same{k:Cs}{H H':Hp}{w:Wg}(h:Wo k H w)(s:eC H H'):Wo k H' w:={ h with R:=h.R.same s,R':=h.R'.same s,W:=fun i i3=>{ h.W i i3 with P:=(h.W i i3).P.same s },t:=fun i a b=>(h.t i a b).same s,t':=fun i a b=>(h.t' i a b).same s }
theorem use_k(h:Rk r)(n:Int):((mN r n).1=lV\/(mN r n).1=m6)/\(mN r n).2.1<=32/\(mN r n).2.2<=32:=by
 unfold mN;by_cases c:n=-1
 ·rw [if_pos c];exact⟨.inl h.pp,by show (0:Int)<=32;decide,by show (0:Int)<=32;decide⟩
 ·rw [if_neg c];exists ?_
  ·show sY r.j _=lV\/sY r.j _=m6;unfold sY;split
   ·rcases h.cv with e|e
    ·rw [e];exact .inl h.pp
    ·rw [e];exact .inr rfl
   ·exact .inl h.pp
  ·dsimp only;rw [getD_eq_getElem?_getD];cases e:r.inks[n.toNat%r.inks.length]? with
   | none=>exact⟨by show (0:Int)<=32;decide,by show (0:Int)<=32;decide⟩
   | some s=>exact h.ik s (mem_of_getElem? e)
theorem Stk.use(k:k0≠k1)(h:Stk d k0 k1 fe)(hn:n=k0\/n=k1)(f:fe<=305):∃ A,d.am.lookup n=some A/\1<=A/\32<=d.b/\32<=d.c/\∀ d':PD,∀ u v:Int,d'.am=lS d.am n (A-1)->u<=32->v<=32->d'.b=d.b-u->d'.c=d.c-v->Stk d' k0 k1 (fe+1):=by
 obtain⟨A,B,e,h2,h3,h4,h5⟩:=h;rcases hn with rfl|rfl
 ·refine⟨A,by rw [e,eX,beq_self_eq_true],by omega,by omega,by omega,fun d' u v ea hu hv eb ec=>⟨A-1,B,?_,by omega,by omega,by omega,by omega⟩⟩;rw [ea,e];unfold lS;simp only [dQ,kU];rw [if_pos trivial,if_neg (symm k)]
 ·refine⟨B,by rw [e,eX,show (n==k0)=false from jZ.mpr fun z=>k (eq_of_beq z).symm,eX,beq_self_eq_true],by omega,by omega,by omega,fun d' u v ea hu hv eb ec=>⟨A,B-1,?_,by omega,by omega,by omega,by omega⟩⟩;rw [ea,e];unfold lS;simp only [dQ,kU];rw [if_neg k,if_pos trivial]
section
variable {cR cJ cP cS cY cM cW:Addr}{H H':Hp}{x p q:Addr}{d d' e:PD}
theorem iA.kp(U:iA cP cS cY cM cW H q e){C dx:Addr}{fs:List (Str×V)}(hx:H x=some (.ins C dx fs))(hp:iA cP cS cY cM cW H p d)(s:Sp2 p q d e)(n1:q≠x)(n2:e.tr≠x)(n3:e.ik≠x)(n4:e.st≠x)(k:Kp x p d H H'):iA cP cS cY cM cW H' q e:=by
 obtain⟨⟨dt,t1⟩,t2,t3,t4⟩:=U.T;obtain⟨⟨di,i1⟩,i2,i3,i4⟩:=U.I;obtain⟨dst,hs⟩:=U.s;have hn:=hp.n;have h2:=hp.T.2.2.1;have h3:=hp.I.2.2.1;have ko:∀ {b C dx:Addr} {fs:List (Str×V)},H b=some (.ins C dx fs)->b≠x->b≠p->H' b=some (.ins C dx fs):=fun e c1 c2=>k _ _ c1 c2 (uX e hn) (jCM e h2) (jCM e h3) e;have kd:∀ {b:Addr} {kv:List (Key×V)},H b=some (.dK kv)->b≠d.tr2->b≠d.ik2->H' b=some (.dK kv):=fun e c1 c2=>k _ _ (jCM hx e).symm (jCM hp.o e).symm (eW e hn nofun) c1 c2 e;exact { U with o:=ko U.o n1 s.pq.symm,T:=⟨⟨dt,ko t1 n2 (eW t1 hp.o (jLA (by show 2≠8;decide)))⟩,kd t2 s.a1.symm s.b1.symm,kd t3 s.a2.symm s.b2.symm,t4⟩,I:=⟨⟨di,ko i1 n3 (eW i1 hp.o (jLA (by show 2≠8;decide)))⟩,kd i2 s.a3.symm s.b3.symm,kd i3 s.a4.symm s.b4.symm,i4⟩,s:=⟨dst,ko hs n4 (eW hs hp.o (jLA (jPI _)))⟩,n:=k _ _ (uX hx U.n).symm (uX hp.o U.n).symm s.ii.symm (eW U.n h2 nofun) (eW U.n h3 nofun) U.n }
theorem jFL(hx:H x=some (.ins C dx fs))(hp:iA cP cS cY cM cW H p d)(k:Kp x p d H H'):∀ b xs,H b=some (.tup xs)->H' b=some (.tup xs):=fun b xs e=>k _ _ (eW e hx nofun) (eW e hp.o nofun) (eW e hp.n nofun) (eW e hp.T.2.2.1 nofun) (eW e hp.I.2.2.1 nofun) e
theorem jOX(hx:H x=some (.ins C dx fs))(hp:iA cP cS cY cM cW H p d)(k:Kp x p d H H')(n:l≠d.ins)(e:H l=some (.lst ts)):H' l=some (.lst ts):=k _ _ (uX hx e).symm (uX hp.o e).symm n (eW e hp.T.2.2.1 nofun) (eW e hp.I.2.2.1 nofun) e
theorem Sp2.left(s:Sp2 p q d e)(g:Gp d d' H)(U:iA cP cS cY cM cW H q e):Sp2 p q d' e:=by
 refine⟨s.pq,?_,by rw [g.t];exact s.a1,by rw [g.t];exact s.a2,by rw [g.t];exact s.a3,by rw [g.t];exact s.a4,by rw [g.k];exact s.b1,by rw [g.k];exact s.b2,by rw [g.k];exact s.b3,by rw [g.k];exact s.b4⟩;rcases g.i with h|h
 ·rw [h];exact s.ii
 ·exact (eJ U.n h).symm
theorem Sp2.right(s:Sp2 q p e d)(g:Gp d d' H)(U:iA cP cS cY cM cW H q e):Sp2 q p e d':=by
 refine⟨s.pq,?_,by rw [g.t1];exact s.a1,by rw [g.t];exact s.a2,by rw [g.k1];exact s.a3,by rw [g.k];exact s.a4,by rw [g.t1];exact s.b1,by rw [g.t];exact s.b2,by rw [g.k1];exact s.b3,by rw [g.k];exact s.b4⟩;rcases g.i with h|h
 ·rw [h];exact s.ii
 ·exact eJ U.n h
theorem jG.kp{r:RD}{y:Addr}(R:jG cR cJ H y r){C dx:Addr}{fs:List (Str×V)}(hx:H x=some (.ins C dx fs))(hl:fs.length=6)(hp:iA cP cS cY cM cW H p d)(n0:y≠x)(n1:p≠y)(n5:r.il≠d.ins)(k:Kp x p d H H'):jG cR cJ H' y r:=by
 obtain⟨dx',b,i,m,cv,e,c⟩:=id R.j;obtain⟨ys,hy,_⟩:=id R.i;have kt:=jFL hx hp k;have ko:∀ {b C dx:Addr} {fs:List (Str×V)},H b=some (.ins C dx fs)->b≠x->b≠p->H' b=some (.ins C dx fs):=fun e c1 c2=>k _ _ c1 c2 (uX e hp.n) (jCM e hp.T.2.2.1) (jCM e hp.I.2.2.1) e
 exact { R with o:=ko R.o n0 (symm n1),j:=R.j.fr (fun o eo=>by
  rw [e] at eo;cases eo
  exact ko e (eW e hx (fun z=>by injection z with _ _ z;rw [<- z] at hl;cases hl)) (eW e hp.o (jLA (by show 10≠8;decide)))) kt,i:=R.i.fr (fun o eo=>by rw [hy] at eo;cases eo;exact jOX hx hp k n5 hy) kt }
end
section
variable {k:Cs}{H H':Hp}{Q:VK}{E:XK}{w:Wg}{z z1:Zs}{i j p c:Nat}{d1:PD}
theorem wP(h:z.ap=some i\/z.a=z.f):sK z i=kB z.b z.a z.f:=by
 unfold sK;split
 ·rfl
 ·next c=>rw [h.resolve_left c,tJ]
theorem jMA(h:z.a=z.f):sK z i=[]:=by rw [wP (.inr h),h,tJ]
theorem jEF(h:z.ap≠some i):sK z i=[]:=if_neg h
theorem jDW{G:Hp}{nm:Str}:iU G nm [] []:=⟨rfl,fun i y n a=>by cases a⟩
theorem tg_em{G:Hp}{nm pK:Str}{ts:List V}(h:iU G nm ts []):iU G pK ts []:=by
 rw [List.eq_nil_of_length_eq_zero h.1];exact jDW
structure Zt(z z1:Zs)(c:Nat):Prop where
 o:z1.b+(z1.a-1)=z.b+(c-1)
 l:∀ i,z1.ap=some i->1<=z1.a->z.ap=some i/\z1.b=z.b/\z1.a=c
 lo:z.a<=c
 n:z.ap=none->c=z.a
theorem Wo.deed(Z:Wo k H w)(i3:i<3)(kk:Kp w.x (w.ps i) (w.ds i) H H')(R1:jG k.R k.J H' w.x (R5 r1 (z1.ap.map w.ps) z1.b z1.a))(W1:Px k H' (w.ps i) d1 (w.P i) (S1 i) fe1 (pn i))(n4:d1.st≠w.x)(n4':d1.st≠w.x')(n5:w.r.il≠d1.ins) 
 (t1:w.z'.ap≠some i->iU H' w.r.nm d1.tags (sK z1 i)) (t1':z1.ap≠some i->iU H' w.r'.nm d1.tags (sK w.z' i)) (g:Gp (w.ds i) d1 H) (gt:d1.tr=(w.ds i).tr) (gi:d1.ik=(w.ds i).ik)
 (hj:∀ j,j≠i->S1 j=w.S j/\sK z1 j=sK w.z j/\(w.z.ap=some j->z1.ap=some j)) (hf:w.fe<=fe1) (ok1:Zo w.r.tot w.P S1 z1) (ok1':Zo w.r'.tot w.P S1 w.z') (dj1:∀ i,z1.ap=some i->w.z'.ap≠some i) (er:r1={ w.r with br:=r1.br }) (bn1:r1.br=true->z1.ap=none) :
 Wo k H' { w with r:=r1,ds:=pB w.ds i d1,z:=z1,S:=S1,fe:=fe1 }:=by
 have U:=Z.W i i3;have kt:=jFL Z.R.o U.P kk;have e1:r1.nm=w.r.nm:=by rw [er]
 have e2:r1.il=w.r.il:=by rw [er]
 have e3:r1.tot=w.r.tot:=by rw [er];rfl
 have k1:Rk r1:=by rw [er];exact⟨Z.k.pp,Z.k.cv,Z.k.ik,Z.k.T1,Z.k.T9⟩
 have hs:∀ j,j=i->pB w.ds i d1 j=d1:=fun j e=>if_pos e;have ho:∀ j,j≠i->pB w.ds i d1 j=w.ds j:=fun j e=>if_neg e;refine⟨R1,Z.R'.kp Z.R.o rfl U.P Z.xx.symm (Z.N' i i3).n1 (Z.N' i i3).n5 kk,fun j j3=>?_,fun j j3=>?_,fun j j3=>?_,fun j j3 a=>?_,fun j j3 a=>?_,fun a b a3 b3 ab=>?_,by show Zo r1.tot _ _ _;rw [e3];exact ok1,ok1',dj1,Z.xx,k1,Z.k',bn1,Z.bn'⟩
 ·show Px k H' (w.ps j) (pB w.ds i d1 j) _ _ _ _;by_cases c:j=i
  ·subst c;rw [hs j rfl];exact W1
  ·rw [ho j c];have V:=Z.W j j3;have N:=Z.N j j3;exact⟨V.P.kp Z.R.o U.P (Z.A i j i3 j3 (symm c)) N.n1 N.n2 N.n3 N.n4 kk,V.S.trans (hj j c).1.symm,V.pa,V.nm,V.st.mono hf⟩
 ·show Nx w.x (w.ps j) r1 (pB w.ds i d1 j);have N:=Z.N j j3;by_cases c:j=i
  ·subst c;rw [hs j rfl];exact⟨N.n1,by rw [gt];exact N.n2,by rw [gi];exact N.n3,n4,by rw [e2];exact n5⟩
  ·rw [ho j c];exact⟨N.n1,N.n2,N.n3,N.n4,by rw [e2];exact N.n5⟩
 ·show Nx w.x' (w.ps j) w.r' (pB w.ds i d1 j);have N:=Z.N' j j3;by_cases c:j=i
  ·subst c;rw [hs j rfl];refine⟨N.n1,by rw [gt];exact N.n2,by rw [gi];exact N.n3,n4',?_⟩;rcases g.i with e|e
   ·rw [e];exact N.n5
   ·obtain⟨ys,hy,_⟩:=id Z.R'.i;exact fun z=>by rw [<- z,show H w.r'.il=some (.lst ys) from hy] at e;cases e
  ·rw [ho j c];exact N
 ·show iU H' r1.nm (pB w.ds i d1 j).tags (sK z1 j);rw [e1];by_cases c:j=i
  ·subst c;rw [hs j rfl];exact t1 a
  ·rw [ho j c,(hj j c).2.1];exact (Z.t j j3 a).fr kt
 ·show iU H' w.r'.nm (pB w.ds i d1 j).tags _;by_cases c:j=i
  ·subst c;rw [hs j rfl];exact t1' a
  ·rw [ho j c];exact (Z.t' j j3 fun e=>a ((hj j c).2.2 e)).fr kt
 ·show Sp2 _ _ (pB w.ds i d1 a) (pB w.ds i d1 b);by_cases c:a=i
  ·subst c;rw [hs _ rfl,ho b (symm ab)];exact (Z.A a b a3 b3 ab).left g (Z.W b b3).P
  ·rw [ho a c];by_cases c2:b=i
   ·subst c2;rw [hs _ rfl];exact (Z.A a b a3 b3 ab).right g (Z.W a a3).P
   ·rw [ho b c2];exact Z.A a b a3 b3 ab
theorem Wo.wd(Z:Wo k H w)(hi:w.z.ap=some i):Wd k.R k.J k.P k.S k.Y k.M k.W H w.x (R5 w.r (some (w.ps i)) w.z.b w.z.a) (w.ps i) (w.ds i) (kB w.z.b w.z.a w.z.f):=by
 have i3:=(Z.ok.at3 i hi).1;have R:=Z.R;have N:=Z.N i i3;rw [hi] at R;have tg:=Z.t i i3 (Z.dj i hi);rw [wP (.inl hi)] at tg;exact⟨R,(Z.W i i3).P,tg,N.n1,N.n2,N.n3,N.n4,N.n5⟩
theorem jH3(h:o.map ps=some p):∃ i,o=some i/\p=ps i:=by
 cases o with
 | none=>cases h
 | some i=>exact⟨i,rfl,(Option.some.inj h).symm⟩
theorem jJQ(h:o.map ps=none):o=none:=by
 cases o with
 | none=>rfl
 | some i=>cases h
def Rf(k:Cs)(H:Hp)(E:XK)(C:Prop):Prop:=∀ c f y ea H',c=k.O\/c=k.X\/c=k.N\/c=k.T->eC H H'->XG H' ea c [(f,y)]->C->E (.ref c) (some ea) H'
section
variable {C:Prop}(h:Rf k H E C)(hc:C){f:Str}{y:V}
include h hc
theorem Rf.o:OvR k.O r H E:=fun ea H' s _ g=>h _ _ _ ea H' (.inl rfl) s g hc
theorem Rf.x:pL k.X f y H E:=fun ea H' s g=>h _ _ _ ea H' (.inr (.inl rfl)) s g hc
theorem Rf.n:pL k.N f y H E:=fun ea H' s g=>h _ _ _ ea H' (.inr (.inr (.inl rfl))) s g hc
theorem Rf.t:pL k.T f y H E:=fun ea H' s g=>h _ _ _ ea H' (.inr (.inr (.inr rfl))) s g hc
end
structure Dn(k:Cs)(H H':Hp)(w w1:Wg)(c i:Nat):Prop where
 W:Wo k H' w1
 i3:i<3
 kp:Kp w.x (w.ps i) (w.ds i) H H'
 g:Gp (w.ds i) (w1.ds i) H
 go:∀ j,j≠i->w1.ds j=w.ds j
 e:w1={ w with r:=w1.r,ds:=w1.ds,z:=w1.z,S:=w1.S,fe:=w.fe+1 }
 er:w1.r={ w.r with br:=w1.r.br }
 zt:Zt w.z w1.z c
 ln:(c-w.z.a)+(w1.z.f-w1.z.a)<=w.z.f-w.z.a+1
def LT(H:Hp)(nm:Str)(l:Addr)(ns:List Int):Prop:=∃ ts,H l=some (.lst ts)/\iU H nm ts ns
theorem jKC(ds:Nat->PD)(i:Nat)(d:PD):pB ds i d i=d:=if_pos rfl
theorem jFi(lv:Liv (R5 r pr b a)):r.br=false:=lv.1
end
section
variable {k:Cs}{H H':Hp}{Q:VK}{E:XK}{w:Wg}{z z1:Zs}{i j p c:Nat}{d1:PD}
theorem st_x(P':iA k.P k.S k.Y k.M k.W H p d)(R:jG k.R k.J H x r):d.st≠x:=jOT P'.s R
theorem Wo.here(Z:Wo k H w)(hi:w.z.ap=some i)(lv:w.r.br=false)(kk:Kp w.x (w.ps i) (w.ds i) H H')(ac:w.z.a<=c)(cf:c<=f1)(ff:f1<=w.z.f+1)(fT:w.z.b+f1<=w.r.tot+1)(fp:f1-c<=w.P i)(sr:c<f1->S1 i=.rd)(so:∀ j,j≠i->S1 j=w.S j) 
 (wd:Wd k.R k.J k.P k.S k.Y k.M k.W H' w.x (kO (R5 w.r (some (w.ps i)) w.z.b w.z.a) (kB w.z.b w.z.a c)) (w.ps i) d1 (kB w.z.b c f1)) (eS:d1.S=S1 i) (ep:d1.path=(w.ds i).path) (en:d1.name=(w.ds i).name) (st:Stk d1 lV m6 (w.fe+1)) (g:Gp (w.ds i) d1 H) (gt:d1.tr=(w.ds i).tr) (gi:d1.ik=(w.ds i).ik) :
 Dn k H H' w { w with ds:=pB w.ds i d1,z:=⟨qB w.r.tot w.z c,w.z.b,c,f1⟩,S:=S1,fe:=w.fe+1 } c i:=by
 obtain⟨i3,nov,_,_⟩:=Z.ok.at3 i hi;have bT:=Z.ok.bT;have W:=Z.W i i3;rw [jKB bT ac] at wd;have ea:(qB w.r.tot w.z c).map w.ps=if w.z.b+c=w.r.tot+1 then none else some (w.ps i):=by unfold qB;split;rfl;rw [hi];rfl
 have e2:qB w.r.tot w.z c=some i\/c=f1:=by unfold qB;split;exact .inr (by omega);exact .inl hi
 have e3:∀ j,qB w.r.tot w.z c=some j->j=i:=fun j e=>by unfold qB at e;split at e;cases e;rw [hi] at e;exact (Option.some.inj e).symm
 have dj:=Z.dj i hi;have tg:=wd.tg;refine⟨Z.deed (z1:=⟨qB w.r.tot w.z c,w.z.b,c,f1⟩) (S1:=S1) (r1:=w.r) (fe1:=w.fe+1) i3 kk (by dsimp only;rw [ea];exact wd.R) ⟨wd.P,eS,ep.trans W.pa,en.trans W.nm,st⟩ wd.n4 (st_x wd.P (Z.R'.kp Z.R.o rfl W.P Z.xx.symm (Z.N' i i3).n1 (Z.N' i i3).n5 kk)) wd.n5 (fun _=>?_) (fun a=>?_) g gt gi (fun j cj=>⟨so j cj,?_,fun e=>?_⟩) (fL _) ⟨bT,cf,fT,fun j hj=>?_,fun hn=>?_⟩ ?_ (fun j hj=>?_) rfl (fun e=>by rw [lv] at e;cases e),i3,kk,by rw [show ({ w with ds:=pB w.ds i d1,z:=⟨qB w.r.tot w.z c,w.z.b,c,f1⟩,S:=S1,fe:=w.fe+1 }:Wg).ds i=d1 from jKC _ _ _];exact g,fun j cj=>if_neg cj,rfl,rfl,⟨rfl,fun j hj _=>⟨by rw [e3 j hj];exact hi,rfl,rfl⟩,ac,fun e=>by rw [hi] at e;cases e⟩,by show c-w.z.a+(f1-c)<=_;omega⟩
 ·rw [wP (z:=⟨qB w.r.tot w.z c,w.z.b,c,f1⟩) e2];exact tg
 ·have e4:c=f1:=e2.resolve_left a;subst e4;rw [tJ] at tg;rw [jEF dj];exact tg_em tg
 ·rw [jEF (z:=w.z) (by rw [hi];exact fun e=>cj (Option.some.inj e).symm),jEF (z:=⟨qB w.r.tot w.z c,w.z.b,c,f1⟩) (fun e=>cj (e3 j e))]
 ·exact absurd (Option.some.inj (hi.symm.trans e)).symm cj
 ·have ej:=e3 j hj;subst ej;refine⟨i3,fun co=>?_,fp,sr⟩;have hj':qB w.r.tot w.z c=some j:=hj;unfold qB at hj';rw [if_pos co] at hj';cases hj'
 ·exact e2.resolve_left (fun e=>by rw [show qB w.r.tot w.z c=none from hn] at e;cases e)
 ·refine⟨Z.ok'.bT,Z.ok'.af,Z.ok'.fT,fun j hj=>?_,Z.ok'.an⟩;have cj:j≠i:=fun e=>dj (by rw [<- e];exact hj);rw [so j cj];exact Z.ok'.at3 j hj
 ·rw [e3 j hj];exact dj
structure Ds(w w1:Wg)(c i:Nat):Prop where
 ap:w.z.ap=some i
 S:w.S i=.rd
 s1:w1.S=w.S
 r1:w1.r=w.r
 z1:w1.z=⟨qB w.r.tot w.z c,w.z.b,c,tU w.r.tot w.z.b w.z.f⟩
 c:c=w.z.a+stK w.r.tot (w.P i) w.z.b w.z.a w.z.f
def CanS(w:Wg):Prop:=w.r.br=false/\∃ i,w.z.ap=some i/\w.S i=.rd
theorem Wo.liv(Z:Wo k H w)(hb:w.r.br=false)(hi:w.z.ap=some i):Liv (R5 w.r pr w.z.b w.z.a):=liv_5 hb Z.ok.bT (Z.ok.at3 i hi).2.1
theorem Wo.step(Z:Wo k H w)(f2:w.fe<=300)(rf:Rf k H E (¬ CanS w))(q:∀ l H' w1 c i,Dn k H H' w w1 c i->LT H' w.r.nm l (kB w.z.b w.z.a c)->Ds w w1 c i->Q (.ref l) H'):jFc k.R k.J k.O k.X k.N k.P k.S k.Y k.M k.W [.ref w.x] H Q E:=by
 have bT:=Z.ok.bT;have af:=Z.ok.af;have fT:=Z.ok.fT;have T9:=Z.k.T9;refine⟨w.x,_,rfl,Z.R,fun n=>rf.o fun⟨hb,i,hi,_⟩=>n (Z.liv hb hi),fun lv hp=>rf.x fun⟨hb,i,hi,_⟩=>(by rw [jJQ hp] at hi;cases hi),fun lv p hp=>?_⟩;have lv':=jFi lv;obtain⟨i,hi,rfl⟩:=jH3 hp;obtain⟨i3,nov,fp,rdf⟩:=Z.ok.at3 i hi;have W:=Z.W i i3;have Wd0:=Z.wd hi;have tl:=Wd0.tg.1;have wl:=jCY w.z.b w.z.a w.z.f;have er:R5 w.r (w.z.ap.map w.ps) w.z.b w.z.a=R5 w.r (some (w.ps i)) w.z.b w.z.a:=by rw [hi];rfl
 rw [er];have fin:∀ (d':PD) (l:Addr) (H':Hp) (ws:List Int),(∀ b o,b≠w.x->b≠(w.ds i).ins->b≠(w.ds i).tr2->b≠(w.ds i).ik2->H b=some o->H' b=some o)->ws=kB w.z.b w.z.a (w.z.a+stK w.r.tot (w.P i) w.z.b w.z.a w.z.f)->LT H' w.r.nm l ws->∀ us,us=kB w.z.b (w.z.a+stK w.r.tot (w.P i) w.z.b w.z.a w.z.f) (tU w.r.tot w.z.b w.z.f)->Wd k.R k.J k.P k.S k.Y k.M k.W H' w.x (kO (R5 w.r (some (w.ps i)) w.z.b w.z.a) ws) (w.ps i) d' us->d'.S=.rd->d'.path=(w.ds i).path->d'.name=(w.ds i).name->Stk d' lV m6 (w.fe+1)->Gp (w.ds i) d' H->d'.tr=(w.ds i).tr->d'.ik=(w.ds i).ik->(w.ds i).S=.rd->Q (.ref l) H':=by
  intro d' l H' ws fr ews hl us eus wd eS ep en st g gt gi eR;rw [W.S] at eR;subst ews;subst eus;have hK:tU w.r.tot w.z.b w.z.f<=w.z.f+1/\w.z.a+stK w.r.tot (w.P i) w.z.b w.z.a w.z.f<=tU w.r.tot w.z.b w.z.f/\w.z.b+tU w.r.tot w.z.b w.z.f<=w.r.tot+1/\tU w.r.tot w.z.b w.z.f-(w.z.a+stK w.r.tot (w.P i) w.z.b w.z.a w.z.f)<=w.P i:=by
   unfold stK tU;split
   ·exact⟨by omega,by omega,by omega,by omega⟩
   ·split
    ·exact⟨by omega,by omega,by omega,by omega⟩
    ·exact⟨by omega,by omega,by omega,by omega⟩
  have kp:Kp w.x (w.ps i) (w.ds i) H H':=fun b o n1 _ n3 n4 n5 e=>fr b o n1 n3 n4 n5 e;exact q l H' _ _ i (Z.here hi lv' (S1:=w.S) kp (jU _ _) hK.2.1 hK.1 hK.2.2.1 hK.2.2.2 (fun _=>eR) (fun _ _=>rfl) wd (eS.trans eR.symm) ep en st g gt gi) hl ⟨hi,eR,rfl,rfl,rfl,rfl⟩
 refine⟨w.ds i,_,Wd0,fun n=>rf.n fun⟨_,j,hj,sj⟩=>n (by rw [hi] at hj;cases hj;exact W.S.trans sj),fun cn=>?_,fun cn eR l H' ts st=>?_⟩
 ·rw [jMy af] at cn ⊢;have fl:w.z.b+w.z.f≠w.r.tot+1:=by
   have c':oF w.z.b w.z.f<((w.r.tot:Nat):Int):=cn;unfold oF at c';split at c'<;>omega
  obtain⟨u1,u2,u3⟩:=use_k (r:=R5 w.r (some (w.ps i)) w.z.b w.z.a) ⟨Z.k.pp,Z.k.cv,Z.k.ik,Z.k.T1,Z.k.T9⟩ (oF w.z.b w.z.f);obtain⟨A,la,a1,b8,c8,sk⟩:=W.st.use (by decide +kernel) u1 (by omega);refine⟨by rw [tl,wl];omega,A,la,a1,by omega,by omega,fun eR l H' ts iN eo st=>?_⟩;rw [wl,W.pa] at eo;rw [jIR af] at st;have eF:tU w.r.tot w.z.b w.z.f=w.z.f+1:=by unfold tU;rw [if_neg fl]
  obtain⟨d',ed⟩:∃ d':PD,d'={ w.ds i with am:=lS (w.ds i).am (mN (R5 w.r (some (w.ps i)) w.z.b w.z.a) (oF w.z.b w.z.f)).1 (A-1),b:=(w.ds i).b-(mN (R5 w.r (some (w.ps i)) w.z.b w.z.a) (oF w.z.b w.z.f)).2.1,c:=(w.ds i).c-(mN (R5 w.r (some (w.ps i)) w.z.b w.z.a) (oF w.z.b w.z.f)).2.2,tags:=ts }:=⟨_,rfl⟩
  rw [<- ed] at st;refine fin d' l H' _ st.fr ?_ st.l _ ?_ st.w (by rw [ed];exact eR) (by rw [ed]) (by rw [ed]) (sk d' _ _ (by rw [ed]) u2 u3 (by rw [ed]) (by rw [ed])) ⟨.inl (by rw [ed]),by rw [ed],by rw [ed],by rw [ed],by rw [ed]⟩ (by rw [ed]) (by rw [ed]) eR
  ·unfold jJP stK;rw [if_neg fl];by_cases co:w.P i<w.z.f+1-w.z.a
   ·rw [show iN=true by rw [eo];exact decide_eq_true (by omega),if_pos rfl,if_pos co,jHi (by omega)]
   ·rw [show iN=false by rw [eo];exact decide_eq_false (by omega),if_neg (by decide),if_neg co];exact (tJ _ _).symm
  ·unfold jLz stK;rw [if_neg fl,eF];by_cases co:w.P i<w.z.f+1-w.z.a
   ·rw [show iN=true by rw [eo];exact decide_eq_true (by omega),if_pos rfl,if_pos co,jIS 1 (by omega)]
   ·rw [show iN=false by rw [eo];exact decide_eq_false (by omega),if_neg (by decide),if_neg co];rfl
 ·rw [jMy af] at cn;have fl:w.z.b+w.z.f=w.r.tot+1:=by
   have c':¬ oF w.z.b w.z.f<((w.r.tot:Nat):Int):=cn;unfold oF at c';split at c'<;>omega
  have eK:stK w.r.tot (w.P i) w.z.b w.z.a w.z.f=1:=by unfold stK;rw [if_pos fl]
  have eF:tU w.r.tot w.z.b w.z.f=w.z.f:=by unfold tU;rw [if_pos fl]
  exact fin { w.ds i with tags:=ts } l H' _ st.fr (by rw [eK];exact jHi (by omega)) st.l _ (by rw [eK,eF];exact jIS 1 (by omega)) st.w eR rfl rfl (W.st.mono (fL _)) ⟨.inl rfl,rfl,rfl,rfl,rfl⟩ rfl rfl eR
end
section
variable {k:Cs}{H H':Hp}{Q:VK}{E:XK}{w:Wg}{z z1:Zs}{i j p c:Nat}{d1:PD}
structure Dj(w w1:Wg)(c:Nat):Prop where
 r1:w1.r=w.r
 z1:w1.z=⟨qB w.r.tot w.z c,w.z.b,c,c⟩
 ap:w.z.ap≠none
theorem Wo.jam(Z:Wo k H w)(rf:Rf k H E True)(q:∀ t l l2 H' w1 c i,Dn k H H' w w1 c i->H' t=some (.tup [.ref l,.ref l2])->LT H' w.r.nm l (kB w.z.b w.z.a c)->Dj w w1 c->Q (.ref t) H'):jF1 k.R k.J k.O k.X k.N k.T k.P k.S k.Y k.M k.W [.ref w.x,.int (j:Int)] H Q E:=by
 have bT:=Z.ok.bT;have af:=Z.ok.af;have fT:=Z.ok.fT;refine⟨w.x,_,j,rfl,Z.R,fun n=>rf.o trivial,fun lv hp=>rf.x trivial,fun lv p hp=>?_⟩;obtain⟨i,hi,rfl⟩:=jH3 hp;obtain⟨i3,_,fp,rdf⟩:=Z.ok.at3 i hi;have W:=Z.W i i3;have wl:=jCY w.z.b w.z.a w.z.f;have er:R5 w.r (w.z.ap.map w.ps) w.z.b w.z.a=R5 w.r (some (w.ps i)) w.z.b w.z.a:=by rw [hi];rfl
 rw [er];refine⟨w.ds i,_,Z.wd hi,fun n=>rf.n trivial,fun eR g=>rf.t trivial,fun eR g t l1 l2 st il H' kk jA ht tl1 tl2 wd=>?_⟩;rw [wl] at g;rw [jHi (by omega)] at tl1 wd;have kp:Kp w.x (w.ps i) (w.ds i) H H':=fun b o n1 n2 _ _ _ e=>kk b o n1 n2 e;exact q t l1 l2 H' _ (w.z.a+j) i (Z.here hi (jFi lv) (d1:={ w.ds i with st:=st,S:=.jm,ins:=il,tags:=[] }) (S1:=jHk w.S i .jm) (f1:=w.z.a+j) kp (jU _ _) (le_refl _) (by omega) (by omega) (by omega) (fun e=>absurd e (gG _)) (fun j cj=>if_neg cj) (by rw [tJ];exact wd) (if_pos rfl).symm rfl rfl (W.st.mono (fL _)) ⟨.inr jA,rfl,rfl,rfl,rfl⟩ rfl rfl) ht tl1 ⟨rfl,rfl,by rw [hi];exact fun e=>nomatch e⟩
def pH(T:Nat)(z:Zs)(p:Nat):Zs:=if z.b+z.f=T+1 then ⟨none,z.b,z.f,z.f⟩ else ⟨some p,z.b+(z.f-1),0,0⟩
theorem tk_ns(T:Nat):sK (pH T z p) i=[]:=by
 unfold pH;split<;>exact jMA rfl
theorem tk_ok{T:Nat}{P:Nat->Nat}{S:Nat->S3}(h:Zo T P S z)(p3:p<3)(eR:S p=.rd):Zo T P S (pH T z p):=by
 have bT:=h.bT;have fT:=h.fT;unfold pH;split
 ·exact⟨bT,le_refl _,fT,(fun i hi=>nomatch hi),fun _=>rfl⟩
 ·next c =>
  refine⟨by show z.b+(z.f-1)<T;omega,le_refl _,by show z.b+(z.f-1)+0<=T+1;omega,fun i hi=>?_,(fun e=>nomatch e)⟩;cases hi;exact⟨p3,by show z.b+(z.f-1)+0≠T+1;omega,d5 _,fun _=>eR⟩
theorem tk_zt{T:Nat}(h:z.a<=z.f)(n:z.ap=none->z.a=z.f):Zt z (pH T z p) z.f:=by
 unfold pH;split
 ·exact⟨rfl,(fun i e=>nomatch e),h,fun e=>(n e).symm⟩
 ·exact⟨rfl,fun i _ e=>absurd (show 1<=0 from e) (by decide),h,fun e=>(n e).symm⟩
theorem jOY(bT:z.b<r.tot)(hp:z.b+z.f=r.tot+1->pr=none):jE_ (R5 r pr z.b z.f) (ps p)=R5 r ((pH r.tot z p).ap.map ps) (pH r.tot z p).b (pH r.tot z p).a:=by
 unfold jE_ pH;by_cases c:z.b+z.f=r.tot+1
 ·rw [if_pos c,if_pos (by show z.b+(z.f-1)=r.tot;omega),hp c];rfl
 ·rw [if_neg c,if_neg (by show z.b+(z.f-1)≠r.tot;omega)];rfl
theorem Wo.gone(Z:Wo k H w)(i3:i<3)(kk:Kp w.x (w.ps i) (w.ds i) H H')(R1:jG k.R k.J H' w.x (R5 r1 (z1.ap.map w.ps) z1.b z1.a))(P1:iA k.P k.S k.Y k.M k.W H' (w.ps i) { w.ds i with tags:=ts })(ht:w.z.ap=some i/\ts=[]\/w.z.ap=none/\ts=(w.ds i).tags) 
 (n1:∀ j,sK z1 j=[]) (hz:∀ j,z1.ap=some j->w.z'.ap≠some j) (ok1:Zo w.r.tot w.P w.S z1) (er:r1={ w.r with br:=r1.br }) (bn1:r1.br=true->z1.ap=none) (zt:Zt w.z z1 c) (ln:(c-w.z.a)+(z1.f-z1.a)<=w.z.f-w.z.a+1) :
 Dn k H H' w { w with r:=r1,ds:=pB w.ds i { w.ds i with tags:=ts },z:=z1,fe:=w.fe+1 } c i:=by
 have W:=Z.W i i3;have N:=Z.N i i3;have kt:=jFL Z.R.o W.P kk;have g:Gp (w.ds i) { w.ds i with tags:=ts } H:=⟨.inl rfl,rfl,rfl,rfl,rfl⟩
 have o:∀ j,w.z.ap=some j->j=i:=fun j e=>by
  rcases ht with⟨h,_⟩|⟨h,_⟩
  ·exact (Option.some.inj (h.symm.trans e)).symm
  ·rw [h] at e;cases e
 refine⟨Z.deed (z1:=z1) (S1:=w.S) i3 kk R1 ⟨P1,W.S,W.pa,W.nm,W.st.mono (fL _)⟩ N.n4 (Z.N' i i3).n4 N.n5 (fun a=>?_) (fun a=>?_) g rfl rfl (fun j cj=>⟨rfl,?_,fun e=>absurd (o j e) cj⟩) (fL _) ok1 Z.ok' hz er bn1,i3,kk,by rw [show ({ w with r:=r1,ds:=pB w.ds i { w.ds i with tags:=ts },z:=z1,fe:=w.fe+1 }:Wg).ds i={ w.ds i with tags:=ts } from jKC _ _ _];exact g,fun j cj=>if_neg cj,rfl,er,zt,ln⟩
 ·rw [n1];rcases ht with⟨_,h⟩|⟨h,h'⟩
  ·subst h;exact jDW
  ·subst h';have:=Z.t i i3 a;rw [jEF (by rw [h];exact fun e=>nomatch e)] at this;exact this.fr kt
 ·rcases ht with⟨e,h⟩|⟨h,h'⟩
  ·subst h;rw [jEF (Z.dj i e)];exact jDW
  ·subst h';exact (Z.t' i i3 (by rw [h];exact fun e=>nomatch e)).fr kt
 ·rw [n1,jEF fun e=>cj (o j e)]
structure Dt(w w1:Wg)(c p:Nat):Prop where
 S:w.S p=.rd
 s1:w1.S=w.S
 r1:w1.r=w.r
 z1:w1.z=pH w.r.tot w.z p
 lv:w.r.br=false/\w.z.b+w.z.a≠w.r.tot+1
def CanT(w:Wg)(p:Nat):Prop:=w.r.br=false/\w.z.b+w.z.a≠w.r.tot+1/\w.S p=.rd
theorem Wo.take(Z:Wo k H w)(p3:p<3)(hz:w.z'.ap≠some p)(rf:Rf k H E (¬ CanT w p))(q:∀ l H' w1 c i,Dn k H H' w w1 c i->LT H' w.r.nm l (kB w.z.b w.z.a c)->Dt w w1 c p->Q (.ref l) H'):jFa k.R k.J k.O k.N k.P k.S k.Y k.M k.W [.ref w.x,.ref (w.ps p)] H Q E:=by
 have bT:=Z.ok.bT;have af:=Z.ok.af;have W:=Z.W p p3;have dj:∀ j,(pH w.r.tot w.z p).ap=some j->w.z'.ap≠some j:=fun j e=>by
  unfold pH at e;split at e
  ·cases e
  ·cases e;exact hz
 have tkl:(w.z.f-w.z.a)+((pH w.r.tot w.z p).f-(pH w.r.tot w.z p).a)<=w.z.f-w.z.a+1:=by unfold pH;split<;>dsimp only<;>omega
 refine⟨w.x,_,w.ps p,w.ds p,rfl,Z.R,W.P,fun n=>rf.o fun⟨hb,h1,_⟩=>n (liv_5 hb bT h1),fun lv n=>rf.n fun⟨_,_,h⟩=>n (W.S.trans h),fun lv eR=>⟨fun hp l H' kx nl hl R'=>?_,fun p' hp=>?_⟩⟩
 ·rw [W.S] at eR;have qS:=jJQ hp;have ha:=Z.ok.an qS;have kp:Kp w.x (w.ps p) (w.ds p) H H':=fun b o n1 _ _ _ _ e=>kx b o n1 e;have N:=Z.N p p3;rw [qS] at R';refine q l H' _ w.z.f p (Z.gone (z1:=pH w.r.tot w.z p) (r1:=w.r) p3 kp ?_ (W.P.off Z.R.o kx N.n1 N.n2 N.n3 N.n4) (.inr ⟨qS,rfl⟩) (fun j=>tk_ns _) dj (tk_ok Z.ok p3 eR) rfl (fun e=>by rw [jFi lv] at e;cases e) (tk_zt af Z.ok.an) tkl) ⟨[],hl,by rw [ha,tJ];exact jDW⟩ ⟨eR,rfl,rfl,rfl,jFi lv,jOV bT lv⟩;rw [<- jOY (pr:=none) bT (fun _=>rfl),<- ha];exact R'
 ·obtain⟨i,hi,rfl⟩:=jH3 hp;obtain⟨i3,_,fp,rdf⟩:=Z.ok.at3 i hi;have U:=Z.W i i3;have er:R5 w.r (w.z.ap.map w.ps) w.z.b w.z.a=R5 w.r (some (w.ps i)) w.z.b w.z.a:=by rw [hi];rfl
  rw [er];refine⟨w.ds i,_,Z.wd hi,fun n=>?_,jOW bT Z.ok.fT,fun l H' fr nl hl wd=>?_⟩
  ·rw [U.S];exact rdf (Nat.lt_of_not_le fun e=>n (by rw [show w.z.f=w.z.a by omega,tJ]))
  rw [W.S] at eR;have kp:Kp w.x (w.ps i) (w.ds i) H H':=fun b o n1 _ n3 _ _ e=>fr b o n1 n3 e;rw [jKB bT af,jOY bT (fun c=>if_pos c)] at wd;exact q l H' _ w.z.f i (Z.gone (z1:=pH w.r.tot w.z p) (r1:=w.r) i3 kp wd.R wd.P (.inl ⟨hi,rfl⟩) (fun j=>tk_ns _) dj (tk_ok Z.ok p3 eR) rfl (fun e=>by rw [jFi lv] at e;cases e) (tk_zt af Z.ok.an) tkl) hl ⟨eR,rfl,rfl,rfl,jFi lv,jOV bT lv⟩
theorem Wo.drop(Z:Wo k H w)(rf:Rf k H E True)(q:∀ l H' w1 c i,Dn k H H' w w1 c i->LT H' w.r.nm l (kB w.z.b w.z.a c)->w1.z=⟨none,w.z.b,w.z.f,w.z.f⟩->w1.r.br=!decide (w.z.b+(w.z.f-1)=w.r.tot)->Q (.ref l) H'):jFb k.R k.J k.O k.P k.S k.Y k.M k.W [.ref w.x] H Q E:=by
 have bT:=Z.ok.bT;have af:=Z.ok.af;have zo:Zo w.r.tot w.P w.S ⟨none,w.z.b,w.z.f,w.z.f⟩:=⟨bT,le_refl _,Z.ok.fT,(fun i hi=>nomatch hi),fun _=>rfl⟩
 have zt:Zt w.z ⟨none,w.z.b,w.z.f,w.z.f⟩ w.z.f:=⟨rfl,(fun i e=>nomatch e),af,fun e=>(Z.ok.an e).symm⟩
 refine⟨w.x,_,rfl,Z.R,fun n=>rf.o trivial,fun lv=>⟨fun hp l H' kx tD hl R'=>?_,fun p' hp=>?_⟩⟩
 ·have qS:=jJQ hp;have ha:=Z.ok.an qS;have W:=Z.W 0 (by decide);have N:=Z.N 0 (by decide);have kp:Kp w.x (w.ps 0) (w.ds 0) H H':=fun b o n1 _ _ _ _ e=>kx b o n1 e;rw [ha] at R';exact q l H' _ w.z.f 0 (Z.gone (z1:=⟨none,w.z.b,w.z.f,w.z.f⟩) (r1:={ w.r with br:=!decide (w.z.b+(w.z.f-1)=w.r.tot) }) (by decide) kp R' (W.P.off Z.R.o kx N.n1 N.n2 N.n3 N.n4) (.inr ⟨qS,rfl⟩) (fun j=>jMA rfl) (fun j e=>nomatch e) zo rfl (fun _=>rfl) zt (by dsimp only;omega)) ⟨[],hl,by rw [ha,tJ];exact jDW⟩ rfl rfl
 ·obtain⟨i,hi,rfl⟩:=jH3 hp;obtain⟨i3,_,fp,rdf⟩:=Z.ok.at3 i hi;have U:=Z.W i i3;have er:R5 w.r (w.z.ap.map w.ps) w.z.b w.z.a=R5 w.r (some (w.ps i)) w.z.b w.z.a:=by rw [hi];rfl
  rw [er];refine⟨w.ds i,_,Z.wd hi,fun n=>?_,jOW bT Z.ok.fT,fun l H1 H' em kx R'=>?_⟩
  ·rw [U.S];exact rdf (Nat.lt_of_not_le fun e=>n (by rw [show w.z.f=w.z.a by omega,tJ]))
  have wd:=em.w;have kp:Kp w.x (w.ps i) (w.ds i) H H':=fun b o n1 _ n3 _ _ e=>kx b o n1 (em.fr b o n1 n3 e);obtain⟨ts,h1,h2⟩:=em.l;rw [jKB bT af] at R';exact q l H' _ w.z.f i (Z.gone (z1:=⟨none,w.z.b,w.z.f,w.z.f⟩) (r1:={ w.r with br:=!decide (w.z.b+(w.z.f-1)=w.r.tot) }) i3 kp R' (wd.P.off wd.R.o kx wd.n1 wd.n2 wd.n3 wd.n4) (.inl ⟨hi,rfl⟩) (fun j=>jMA rfl) (fun j e=>nomatch e) zo rfl (fun _=>rfl) zt (by dsimp only;omega)) ⟨ts,kx _ _ (uX wd.R.o h1).symm h1,h2.fr fun b xs e=>kx _ _ (eW e wd.R.o nofun) e⟩ rfl rfl
structure Dr(w w1:Wg)(p m:Nat):Prop where
 s:∃ s',lN m (w.S p)=some s'/\w1.S=jHk w.S p s'
 r1:w1.r=w.r
 ap:w1.z.ap=w.z.ap
 ba:w1.z.b=w.z.b/\w1.z.a=w.z.a
theorem Wo.turn(Z:Wo k H w)(p3:p<3)(hz:w.z'.ap≠some p)(hs:lN m (w.S p)=some s')(kk:∀ b o,b≠w.ps p->H b=some o->H' b=some o)(P1:iA k.P k.S k.Y k.M k.W H' (w.ps p) { w.ds p with st:=st,S:=s',ins:=il,tags:=ts })(hi:il=(w.ds p).ins\/H il=none) 
 (ht:iU H' w.r.nm ts (sK { w.z with f:=f1 } p)) (h1:w.z.a<=f1) (h2:w.z.ap≠some p->f1=w.z.f) (h3:f1<=w.z.f) (h4:w.z.ap=some p->w.z.a<f1->s'=.rd) :
 Dn k H H' w { w with ds:=pB w.ds p { w.ds p with st:=st,S:=s',ins:=il,tags:=ts },z:={ w.z with f:=f1 },S:=jHk w.S p s',fe:=w.fe+1 } w.z.a p/\Dr w { w with ds:=pB w.ds p { w.ds p with st:=st,S:=s',ins:=il,tags:=ts },z:={ w.z with f:=f1 },S:=jHk w.S p s',fe:=w.fe+1 } p m:=by
 have W:=Z.W p p3;have N:=Z.N p p3;have R':=Z.R.turn W.P N.n1 kk;have R2:=Z.R'.turn W.P (Z.N' p p3).n1 kk;have kp:Kp w.x (w.ps p) (w.ds p) H H':=fun b o _ n _ _ _ e=>kk b o n e;have g:Gp (w.ds p) { w.ds p with st:=st,S:=s',ins:=il,tags:=ts } H:=⟨hi,rfl,rfl,rfl,rfl⟩
 have fT:=Z.ok.fT;have an:w.z.ap=none->w.z.a=f1:=fun e=>(Z.ok.an e).trans (h2 (by rw [e];exact fun z=>nomatch z)).symm;refine⟨⟨Z.deed (z1:={ w.z with f:=f1 }) (S1:=jHk w.S p s') (r1:=w.r) p3 kp R' ⟨P1,(if_pos rfl).symm,W.pa,W.nm,W.st.mono (fL _)⟩ (st_x P1 R') (st_x P1 R2) ?_ (fun _=>ht) (fun a=>?_) g rfl rfl (fun j c=>⟨if_neg c,?_,fun e=>e⟩) (fL _) ⟨Z.ok.bT,h1,by show w.z.b+f1<=_;omega,fun i hi=>?_,an⟩ ⟨Z.ok'.bT,Z.ok'.af,Z.ok'.fT,fun i hi=>?_,Z.ok'.an⟩ Z.dj rfl Z.bn,p3,kp,by rw [show ({ w with ds:=pB w.ds p { w.ds p with st:=st,S:=s',ins:=il,tags:=ts },z:={ w.z with f:=f1 },S:=jHk w.S p s',fe:=w.fe+1 }:Wg).ds p={ w.ds p with st:=st,S:=s',ins:=il,tags:=ts } from jKC _ _ _];exact g,fun j cj=>if_neg cj,rfl,rfl,⟨rfl,fun i e _=>⟨e,rfl,rfl⟩,le_refl _,fun _=>rfl⟩,by dsimp only;omega⟩,⟨s',hs,rfl⟩,rfl,rfl,rfl,rfl⟩
 ·rcases hi with e|e
  ·show w.r.il≠il;rw [e];exact N.n5
  ·intro z;obtain⟨ys,hy,_⟩:=id Z.R.i;rw [show il=w.r.il from z.symm,show H w.r.il=some (.lst ys) from hy] at e;cases e
 ·rw [jEF hz];rw [jEF (z:={ w.z with f:=f1 }) a] at ht;exact tg_em ht
 ·unfold sK;dsimp only;split
  ·next e=>rw [h2 (by rw [e];exact fun z=>c (Option.some.inj z))]
  ·rfl
 ·have hi':w.z.ap=some i:=hi;obtain⟨a1,a2,a3,a4⟩:=Z.ok.at3 i hi';refine⟨a1,a2,by show f1-w.z.a<=w.P i;omega,fun lt=>?_⟩;show jHk w.S p s' i=.rd;unfold jHk;split
  ·next e=>exact h4 (by rw [hi',e]) lt
  ·exact a4 (dO lt h3)
 ·rw [show jHk w.S p s' i=w.S i from if_neg fun e=>hz (by rw [<- e];exact hi)];exact Z.ok'.at3 i hi
end
inductive Dd where
 | take (p:Nat)|step|jam (k:Nat)|drop|leave (p:Nat)|come (p:Nat)|mend (p:Nat)
def wN:Nat->Str
 | 0=>c7 "take"
 | 1=>c7 "step"
 | 2=>c7 "jam"
 | 3=>c7 "drop"
 | 4=>c7 "leave"
 | 5=>c7 "come"
 | _=>c7 "mend"
theorem wN_inj:∀ i j:Fin 7,wN i.val=wN j.val->i=j:=by decide +kernel
def dN:Dd->Nat
 | .take _=>0
 | .step=>1
 | .jam _=>2
 | .drop=>3
 | .leave _=>4
 | .come _=>5
 | .mend _=>6
def pQ(s:Nat)(D:Dd):List V:=match D with
 | .take p=>[.str (wN 0),.int (s:Int),.int (p:Int)]
 | .step=>[.str (wN 1),.int (s:Int)]
 | .jam p=>[.str (wN 2),.int (s:Int),.int (p:Int)]
 | .drop=>[.str (wN 3),.int (s:Int)]
 | .leave p=>[.str (wN 4),.int (s:Int),.int (p:Int)]
 | .come p=>[.str (wN 5),.int (s:Int),.int (p:Int)]
 | .mend p=>[.str (wN 6),.int (s:Int),.int (p:Int)]
def Dd.Ok:Dd->Prop
 | .take p=>p<3
 | .leave p=>p<3
 | .come p=>p<3
 | .mend p=>p<3
 | _=>True
theorem xR(D:Dd):dN D<7:=by cases D<;>simp [dN]
theorem dd0(s:Nat)(D:Dd):(pQ s D)[0]?=some (.str (wN (dN D))):=by cases D<;>rfl
theorem dd1(s:Nat)(D:Dd):(pQ s D)[1]?=some (.int (s:Int)):=by cases D<;>rfl
theorem dec_dd(D:Dd)(h:k<7):decide (V.str (wN (dN D))=V.str (wN k))=decide (dN D=k):=by
 by_cases c:dN D=k
 ·rw [decide_eq_true c,c,decide_eq_true rfl]
 ·rw [decide_eq_false c,decide_eq_false fun z=>c (by injection z with z;exact congrArg Fin.val (wN_inj ⟨_,xR D⟩ ⟨k,h⟩ z))]
theorem vU(j:Nat)(hj:j<7)(ht:H t=some (.tup (pQ s D)))(hs:σ[n]?=some (some (.ref t)))(h1:dN D=j->A { DD with nx:=C DD } σ H)(h2:dN D≠j->B { DD with nx:=C DD } σ H):tSeq (tIfS (jIY (tOp rEq (tOp (jGQ K) (tY n) (tC (V.int 0))) (tC (V.str (wN j))))) A B) C DD σ H :=
 ⟨_,hs,t,_,_,_,rfl,rfl,SqT.of ht,kL (j:=0) (dd0 s D),rfl,decide (dN D=j),congrArg V.bl (dec_dd D hj),oK (fun c=>h1 (of_decide_eq_true c)) (fun c=>h2 (of_decide_eq_false (jZ.mpr c)))⟩
def Wg.at(w:Wg)(s:Nat):Wg:=if s=0 then w else w.sw
section
variable {k:Cs}{H H' H2:Hp}{w w1:Wg}{s c i p:Nat}
theorem Wo.at(Z:Wo k H w)(s:Nat):Wo k H (w.at s):=by
 unfold Wg.at
 split
 ·exact Z
 ·exact Z.sw
theorem xS:(w.at s).ps=w.ps:=by unfold Wg.at;split<;>rfl
theorem at_fe:(w.at s).fe=w.fe:=by unfold Wg.at;split<;>rfl
theorem jHl:(w.at s).S=w.S:=by unfold Wg.at;split<;>rfl
theorem jDX(s2:s<2)(e:([V.ref w.x,.ref w.x']:List V)[((s:Nat):Int).toNat]?=some v):v=.ref (w.at s).x:=by
 rw [fU] at e;have:s=0\/s=1:=by omega
 rcases this with rfl|rfl<;>exact (Option.some.inj e).symm
theorem Dn.same(h:Dn k H H' w w1 c i)(g:eC H' H2):Dn k H H2 w w1 c i:={ h with W:=h.W.same g,kp:=fun b o a1 a2 a3 a4 a5 e=>g _ _ (h.kp b o a1 a2 a3 a4 a5 e) }
theorem Wo.side(Z:Wo k H w)(p:Nat):∃ s,(w.at s).z'.ap≠some p:=by
 by_cases c:w.z'.ap=some p
 ·exact⟨1,fun e=>Z.dj p e c⟩
 ·exact⟨0,c⟩
theorem LT.same{nm:Str}{l:Addr}{ns:List Int}(h:LT H nm l ns)(g:eC H H'):LT H' nm l ns:=let ⟨ts,a,b⟩:=h;⟨ts,g _ _ a,b.same g⟩
theorem Wo.turns(Z:Wo k H w)(hm:m=1\/m=3)(p3:p<3)(rf:Rf k H E (lN m (w.S p)=none))(q:∀ v H' w1 s,Dn k H H' (w.at s) w1 (w.at s).z.a p->Dr (w.at s) w1 p m->Q v H'):jCW m k.N k.P k.S k.Y k.M k.W [.ref (w.ps p)] H Q E:=by
 obtain⟨a,ha⟩:=Z.side p;have Z2:=Z.at a;have W:=Z2.W p p3;have e1:(w.at a).S=w.S:=jHl;rw [<- xS (s:=a)];rw [<- e1] at rf;refine⟨_,_,rfl,W.P,fun s1 e st H' kk P1=>?_,fun e=>rf.n (by rw [<- W.S];exact e)⟩;rw [W.S] at e;have tg:=(Z2.t p p3 ha).fr fun b xs e=>kk _ _ (eW e W.P.o nofun) e
 obtain⟨d,r⟩:=Z2.turn (f1:=(w.at a).z.f) (ts:=((w.at a).ds p).tags) (il:=((w.at a).ds p).ins) p3 ha e kk P1 (.inl rfl) tg Z2.ok.af (fun _=>rfl) (le_refl _) (fun ea lt=>by
  rw [(Z2.ok.at3 _ ea).2.2.2 lt] at e
  rcases hm with rfl|rfl<;>cases e)
 exact q _ H' _ a d r
theorem Wo.leave(Z:Wo k H w)(p3:p<3)(rf:Rf k H E (lN 2 (w.S p)=none))(q:∀ v H' w1 s,Dn k H H' (w.at s) w1 (w.at s).z.a p->Dr (w.at s) w1 p 2->Q v H'):jEv k.N k.P k.S k.Y k.M k.W [.ref (w.ps p)] H Q E:=by
 obtain⟨a,ha⟩:=Z.side p;have Z2:=Z.at a;have W:=Z2.W p p3;have e1:(w.at a).S=w.S:=jHl;have af:=Z2.ok.af;rw [<- xS (s:=a)];rw [<- e1] at rf;refine⟨_,_,rfl,W.P,fun s1 e st il H' kk jA P1=>?_,fun e=>rf.n (by rw [<- W.S];exact e)⟩;rw [W.S] at e;obtain⟨d,r⟩:=Z2.turn (f1:=if (w.at a).z.ap=some p then (w.at a).z.a else (w.at a).z.f) (ts:=[]) (il:=il) p3 ha e kk P1 (.inr jA) (by unfold sK;dsimp only;split;(rw [tJ];exact jDW);exact jDW) (by split<;>omega) (fun e=>if_neg e) (by split<;>omega) (fun e lt=>by rw [if_pos e] at lt;omega);exact q _ H' _ a d r
end
def dM:Dd->Nat
 | .leave _=>2
 | .come _=>3
 | _=>1
def CanD(w:Wg)(s:Nat):Dd->Prop
 | .step=>CanS (w.at s)
 | .take p=>CanT (w.at s) p
 | .leave p=>lN 2 (w.S p)≠none
 | .come p=>lN 3 (w.S p)≠none
 | .mend p=>lN 1 (w.S p)≠none
 | _=>False
def Dx(w w1:Wg)(c i:Nat):Dd->Prop
 | .step=>Ds w w1 c i
 | .take p=>Dt w w1 c p
 | .drop=>w1.z=⟨none,w.z.b,w.z.f,w.z.f⟩/\w1.r.br=!decide (w.z.b+(w.z.f-1)=w.r.tot)
 | .jam _=>Dj w w1 c
 | _=>True
structure CalQ(k:Cs)(H:Hp)(w:Wg)(s:Nat)(D:Dd)(Q:VK):Prop where
 r:dN D<4->∀ l H' w1 c i,Dn k H H' (w.at s) w1 c i->LT H' (w.at s).r.nm l (kB (w.at s).z.b (w.at s).z.a c)->Dx (w.at s) w1 c i D->Q (.ref l) H'
 p:¬ dN D<4->∀ l H' w1 s' p,Dn k H H' (w.at s') w1 (w.at s').z.a p->D=.leave p\/D=.come p\/D=.mend p->Dr (w.at s') w1 p (dM D)->H' l=some (.lst [])->Q (.ref l) H'
inductive jEn(k:Cs)(vs:List V)(H:Hp)(Q:VK)(E:XK):Prop|mk (rl pl t:Addr) (w:Wg) (s:Nat) (D:Dd):vs=[.ref rl,.ref pl,.ref t]->H rl=some (.lst [.ref w.x,.ref w.x'])->H pl=some (.lst (l3 fun i=>.ref (w.ps i)))->H t=some (.tup (pQ s D))->s<2->D.Ok->(∀ p,D=.take p->(w.at s).z'.ap≠some p)->Wo k H w->w.fe<=300->Rf k H E (¬ CanD w s D)->CalQ k H w s D Q->jEn k vs H Q E
theorem jKD:gF ["_law_runs","_law_printers","_law_deed"] ["_law_runs","_law_printers","_law_deed"] (fY jES):=scM
include T in
theorem jKE(F:Fun K "_law_called" "_law_called" jES fa fd)(Dbr:MtE P w K mg base 6 "take" yK ["self","printer"] (jFa yK yG vZ cK cZ cQ yJ yW yU))(Dbs:MtE P w K mg base 8 "step" yK ["self"] (jFc yK yG vZ vX cK cZ cQ yJ yW yU))(Dbt:MtE P w K mg base 6 "jam" yK ["self","saved"] (jF1 yK yG vZ vX cK cG cZ cQ yJ yW yU))(Dbu:MtE P w K mg base 6 "drop" yK ["self"] (jFb yK yG vZ cZ cQ yJ yW yU))(Dbv:MtE P w K mg base 5 "leave" cZ ["self"] (jEv cK cZ cQ yJ yW yU))(Dbw:MtE P w K mg base 5 "come" cZ ["self"] (jCW 3 cK cZ cQ yJ yW yU))(Dbx:MtE P w K mg base 5 "mend" cZ ["self"] (jCW 1 cK cZ cQ yJ yW yU)) :
 fJ P w K mg base (CXe P w) 9 fa fd ["_law_runs","_law_printers","_law_deed"] (jEn ⟨yK,yG,vZ,vX,cK,cG,cZ,cQ,yJ,yW,yU⟩):=by
 refine F.okE jKD fun fE A outer s H vs Q E hr h=>?_;obtain⟨rl,pl,t,g,s',D,rfl,rX,j4,ht,s2,dok,htk,Z,f2,rf,q⟩:=h;have hu:=uQ hr 0 (by decide);exists _,(d9 (jC (tcA nC (ixA j1 (pv 2) eO) hX) (d7 (gY (oM 6 jQ hr.m (ixA lE (pv 0) (ixA j1 (pv 2) eO)) (dJ (ixA lE (pv 1) (ixA j1 (pv 2) eO)) dX)))) jK) (d9 (jC (tcA nC (ixA j1 (pv 2) eO) hX) (d7 (gY (jR 8 jQ hr.m (ixA lE (pv 0) (ixA j1 (pv 2) eO))))) jK) (d9 (jC (tcA nC (ixA j1 (pv 2) eO) hX) (d7 (gY (ixA j1 (oM 6 jQ hr.m (ixA lE (pv 0) (ixA j1 (pv 2) eO)) (dJ (ixA j1 (pv 2) eO) dX)) eO))) jK) (d9 (jC (tcA nC (ixA j1 (pv 2) eO) hX) (d7 (gY (jR 6 jQ hr.m (ixA lE (pv 0) (ixA j1 (pv 2) eO))))) jK) (d9 (jC (tcA nC (ixA j1 (pv 2) eO) hX) (d7 (kE (jR 5 jQ hr.m (ixA lE (pv 1) (ixA j1 (pv 2) eO))))) jK) (d9 (jC (tcA nC (ixA j1 (pv 2) eO) hX) (d7 (kE (jR 5 jQ hr.m (ixA lE (pv 1) (ixA j1 (pv 2) eO))))) jK) (d9 (jC (tcA nC (ixA j1 (pv 2) eO) hX) (d7 (kE (jR 5 jQ hr.m (ixA lE (pv 1) (ixA j1 (pv 2) eO))))) jK) (d7 (gY (lQ dX))))))))))
 have Z1:=Z.at s';have i0:(0:Int)<=(s':Int):=by omega
 have i2:(s':Int)<2:=by omega
 have ep:(g.at s').ps=g.ps:=xS;have ef:(g.at s').fe<=300:=by rw [at_fe];exact f2
 have go:∀ {G:Hp} {Q':VK} {t':Addr},G=H->(∀ G,G=H->Q' (.ref (g.at s').x) G)->wY K (.ref rl) (.int (s':Int)) G Q':=fun e h=>by subst e;exact⟨rl,_,_,rfl,rfl,SqL.of rX,i0,i2,fun v hv=>by rw [jDX s2 hv];exact h _ rfl⟩
 refine vU 0 (by decide) ht rfl (fun e=>?_) fun n0=>?_
 ·cases D with
  | take p =>
    have p3:p<3:=dok;refine⟨_,rfl,_,rfl,t,_,_,_,rfl,rfl,SqT.of ht,kL (j:=1) rfl,rl,_,_,rfl,rfl,SqL.of rX,i0,i2,fun v hv=>?_⟩;obtain rfl:=jDX s2 hv;refine⟨_,_,_,_,_,_,rfl,Z1.R.o,rfl,T.aa,Dbr,_,rfl,_,rfl,t,_,_,_,rfl,rfl,SqT.of ht,kL (j:=2) rfl,pl,_,_,rfl,rfl,SqL.of j4,by omega,(by show ((p:Nat):Int)<3;omega),fun v hv=>?_⟩;obtain rfl:=jH2 p3 hv;rw [<- ep];exact Z1.take p3 (htk p rfl) rf fun l H' w1 c i d lt dt=>q.r (show 0<4 by decide) l H' w1 c i d lt dt
  | _=>cases e
 refine vU 1 (by decide) ht rfl (fun e=>?_) fun n1=>?_
 ·cases D with
  | step =>
    refine⟨_,rfl,_,rfl,t,_,_,_,rfl,rfl,SqT.of ht,kL (j:=1) rfl,rl,_,_,rfl,rfl,SqL.of rX,i0,i2,fun v hv=>?_⟩;obtain rfl:=jDX s2 hv;exists _,_,_,_,_,_,rfl,Z1.R.o,rfl,T.aa,Dbs;exact Z1.step ef rf fun l H' w1 c i d lt dt=>q.r (by decide) l H' w1 c i d lt dt
  | _=>cases e
 refine vU 2 (by decide) ht rfl (fun e=>?_) fun n2=>?_
 ·cases D with
  | jam j =>
    refine⟨_,rfl,_,rfl,t,_,_,_,rfl,rfl,SqT.of ht,kL (j:=1) rfl,rl,_,_,rfl,rfl,SqL.of rX,i0,i2,fun v hv=>?_⟩;obtain rfl:=jDX s2 hv;exists _,_,_,_,_,_,rfl,Z1.R.o,rfl,T.aa,Dbt,_,rfl,t,_,_,_,rfl,rfl,SqT.of ht,kL (j:=2) rfl;exact Z1.jam (fun c f y ea H' a b d _=>rf c f y ea H' a b d id) fun t' l l2 H' w1 c i d rW lt dt=>⟨t',_,_,_,rfl,rfl,SqT.of rW,kL (j:=0) rfl,q.r (show 2<4 by decide) l H' w1 c i d lt dt⟩
  | _=>cases e
 refine vU 3 (by decide) ht rfl (fun e=>?_) fun n3=>?_
 ·cases D with
  | drop =>
    refine⟨_,rfl,_,rfl,t,_,_,_,rfl,rfl,SqT.of ht,kL (j:=1) rfl,rl,_,_,rfl,rfl,SqL.of rX,i0,i2,fun v hv=>?_⟩;obtain rfl:=jDX s2 hv;exists _,_,_,_,_,_,rfl,Z1.R.o,rfl,T.aa,Dbu;exact Z1.drop (fun c f y ea H' a b d _=>rf c f y ea H' a b d id) fun l H' w1 c i d lt dt dt2=>q.r (by decide) l H' w1 c i d lt ⟨dt,dt2⟩
  | _=>cases e
 -- the printers' deeds
 have qp:=q.p (by have:=xR D;omega);clear q go;have fin:∀ {H':Hp} {w1:Wg} {a p:Nat},Dn ⟨yK,yG,vZ,vX,cK,cG,cZ,cQ,yJ,yW,yU⟩ H H' (g.at a) w1 (g.at a).z.a p->D=.leave p\/D=.come p\/D=.mend p->Dr (g.at a) w1 p (dM D)->tRet (tLst jGP) { nx:=fun _ H'=>Q .non H',rt:=Q } [some (.ref rl),some (.ref pl),some (.ref t)] H':=fun {H' w1 a p} d e r=>⟨small (d5 _),fun l nl=>qp l _ w1 a p (d.same (gM nl (.lst []))) e r d4⟩
 have kt:∀ {H':Hp} {w1:Wg} {a p c:Nat},Dn ⟨yK,yG,vZ,vX,cK,cG,cZ,cQ,yJ,yW,yU⟩ H H' (g.at a) w1 c p->H' t=some (.tup (pQ s' D)):=fun {H' w1 a p c} d=>jFL (Z.at a).R.o ((Z.at a).W p d.i3).P d.kp _ _ ht;have lk:∀ {p:Nat} {Q':VK},p<3->(D=.leave p\/D=.come p\/D=.mend p)->Q' (.ref (g.ps p)) H->tOp (wY K) (tY 1) (tOp (jGQ K) (tY 2) (tC (.int 2))) [some (.ref rl),some (.ref pl),some (.ref t)] H Q':=fun {p Q'} p3 e h=>⟨_,rfl,_,rfl,t,_,_,_,rfl,rfl,SqT.of ht,kL (j:=2) (show (pQ s' D)[2]?=some (.int (p:Int)) by rcases e with rfl|rfl|rfl<;>rfl),pl,_,_,rfl,rfl,SqL.of j4,by omega,(by show ((p:Nat):Int)<3;omega),fun v hv=>by rw [jH2 p3 hv];exact h⟩
 refine vU 4 (by decide) ht rfl (fun e=>?_) fun n4=>?_
 ·cases D with
  | leave p =>
    have p3:p<3:=dok;refine lk p3 (.inl rfl) ⟨g.ps p,_,_,_,_,_,rfl,(Z.W p p3).P.o,rfl,T.ad,Dbv,Z.leave p3 (fun c f y ea H' a b d e=>rf c f y ea H' a b d fun z=>z e) fun v H' w1 a d r=>?_⟩;exact vU 5 (by decide) (kt d) rfl (fun e=>nomatch e) fun _=>vU 6 (by decide) (kt d) rfl (fun e=>nomatch e) fun _=>fin d (.inl rfl) r
  | _=>cases e
 refine vU 5 (by decide) ht rfl (fun e=>?_) fun n5=>?_
 ·cases D with
  | come p =>
    have p3:p<3:=dok;refine lk p3 (.inr (.inl rfl)) ⟨g.ps p,_,_,_,_,_,rfl,(Z.W p p3).P.o,rfl,T.ad,Dbw,Z.turns (.inr rfl) p3 (fun c f y ea H' a b d e=>rf c f y ea H' a b d fun z=>z e) fun v H' w1 a d r=>?_⟩;exact vU 6 (by decide) (kt d) rfl (fun e=>nomatch e) fun _=>fin d (.inr (.inl rfl)) r
  | _=>cases e
 refine vU 6 (by decide) ht rfl (fun e=>?_) fun n6=>?_
 ·cases D with
  | mend p =>
    have p3:p<3:=dok;refine lk p3 (.inr (.inr rfl)) ⟨g.ps p,_,_,_,_,_,rfl,(Z.W p p3).P.o,rfl,T.ad,Dbx,Z.turns (.inl rfl) p3 (fun c f y ea H' a b d e=>rf c f y ea H' a b d fun z=>z e) fun v H' w1 a d r=>?_⟩;exact fin d (.inr (.inr rfl)) r
  | _=>cases e
 ·exact absurd (xR D) (by omega)
def jF8(p:Pc):List Tag:=(p.1,-1)::p.2.map fun n=>(p.1,n)
def jF(P:List Pc):List Tag:=P.flatMap jF8
theorem jNz:∀ (a b:List Tag) (iL:List Pc) (i:Nat) {t:List Pc},mY iL a i=.ok t->mY iL (a++b) i=mY t b (i+a.length)
 | [],b,iL,i,t,e=>by cases e;rfl
 | g::a,b,iL,i,t,e=>by
   unfold mY at e;rw [nS];show (match rB iL g with|some t=>mY t (a++b) (i+1)|none=>.error i)=_;cases q:rB iL g with
   | none=>rw [q] at e;cases e
   | some t' =>
     rw [q] at e;show mY t' (a++b) (i+1)=_;rw [jNz a b t' (i+1) e,eY,show i+1+a.length=i+(a.length+1) by omega]
theorem jMB(nm:Str):∀ (ns ms:List Int) (iL:List Pc) (i:Nat),(∀ n∈ns,n≠-1)->mY (iL++[(nm,ms)]) (ns.map fun n=>(nm,n)) i=.ok (iL++[(nm,ms++ns)])
 | [],ms,iL,i,_=>by rw [eZ];rfl
 | n::ns,ms,iL,i,h=>by
   have st:rB (iL++[(nm,ms)]) (nm,n)=some (iL++[(nm,ms++[n])]):=by
    unfold rB;rw [if_neg (h n (.head _)),jL1];dsimp only;rw [if_pos rfl,List.dropLast_concat]
   show (match rB (iL++[(nm,ms)]) (nm,n) with|some t=>mY t (ns.map fun n=>(nm,n)) (i+1)|none=>.error i)=_;rw [st];show mY (iL++[(nm,ms++[n])]) _ _=_;rw [jMB nm ns (ms++[n]) iL (i+1) (fun x hx=>h x (.tail _ hx)),append_assoc];rfl
theorem jOZ(p:Pc)(iL:List Pc)(i:Nat)(h:∀ n∈p.2,n≠-1):mY iL (jF8 p) i=.ok (iL++[p]):=by
 show (match rB iL (p.1,-1) with|some t=>mY t (p.2.map fun n=>(p.1,n)) (i+1)|none=>.error i)=_;have st:rB iL (p.1,-1)=some (iL++[(p.1,[])]):=if_pos rfl;rw [st];show mY (iL++[(p.1,[])]) _ _=_;rw [jMB p.1 p.2 [] iL (i+1) h];rfl
theorem jMC:∀ (P iL:List Pc) (i:Nat),(∀ p∈P,∀ n∈p.2,n≠-1)->mY iL (jF P) i=.ok (iL++P)
 | [],iL,i,_=>by rw [eZ];rfl
 | p::P,iL,i,h=>by
   show mY iL (jF8 p++jF P) i=_;rw [jNz _ _ _ _ (jOZ p iL i (h p (.head _))),jMC P _ _ (fun x hx=>h x (.tail _ hx)),append_assoc];rfl
def nE(b n:Nat):List Int:=(range n).map fun j=>((b+j:Nat):Int)
theorem jMD(b n:Nat):nE b (n+1)=nE b n++[((b+n:Nat):Int)]:=by
 unfold nE;rw [mQ,dU];rfl
theorem jGM(b n:Nat):(nE b n).length=n:=by unfold nE;rw [c6,dP]
theorem jFj:x∈nE b n ↔ (b:Int)<=x/\x<((b+n:Nat):Int):=by
 unfold nE;rw [eI];refine⟨fun⟨j,hj,e⟩=>?_,fun⟨h1,h2⟩=>⟨(x-(b:Int)).toNat,j8.mpr (by omega),by omega⟩⟩;have:=j8.mp hj;omega
theorem jJR(b n:Nat):(nE b n).Pairwise (· < ·):=Pairwise.map _ (fun x y h=>by omega) List.pairwise_lt_range
def m8(nm:Str)(P:List Pc):List Int:=(P.filter fun p=>decide (p.1=nm)).flatMap (·.2)
theorem jEo(nm:Str)(P Q:List Pc):m8 nm (P++Q)=m8 nm P++m8 nm Q:=by
 unfold m8;rw [jH,g9]
theorem jIl(nm:Str)(l:List Int):m8 nm [(nm,l)]=l:=by
 unfold m8;rw [gA (by simp)];simp
theorem jJS{nm pK:Str}(h:pK≠nm)(l:List Int):m8 nm [(pK,l)]=[]:=by
 unfold m8;rw [fO (by simpa using h)];rfl
def jGv(f:Nat->List Int):List Int:=f 0++(f 1++f 2)
theorem jME(i3:i<3)(hi:g i=f i++x)(ho:∀ j,j≠i->g j=f j):(jGv g).Perm (jGv f++x):=by
 rw [List.perm_iff_count];intro a;unfold jGv;have:i=0\/i=1\/i=2:=by omega
 rcases this with rfl|rfl|rfl
 ·rw [hi,ho 1 (by decide),ho 2 (by decide)];simp only [mW];omega
 ·rw [hi,ho 0 (by decide),ho 2 (by decide)];simp only [mW];omega
 ·rw [hi,ho 0 (by decide),ho 1 (by decide)];simp only [mW];omega
def jHm(pc:Nat->List Pc):Prop:=∀ i p,p∈pc i->∃ b n,p.2=nE b n
structure Hv(pc:Nat->List Pc)(nm:Str)(z:Zs):Prop where
 pm:(jGv fun i=>m8 nm (pc i)).Perm (nE 0 (z.b+(z.a-1)))
 la:∀ i,z.ap=some i->1<=z.a->∃ pre,pc i=pre++[(nm,nE z.b (z.a-1))]
theorem jIT(P Q:List Pc):jF (P++Q)=jF P++jF Q:=g9
theorem jIU(p:Pc):jF [p]=jF8 p:=by unfold jF;simp
theorem Hv.move{pc:Nat->List Pc}{nm:Str}{z z1:Zs}{c f:Nat}(h:Hv pc nm ⟨z.ap,z.b,c,f⟩)(zt:Zt z z1 c):Hv pc nm z1:=by
 refine⟨by rw [zt.o];exact h.pm,fun i hi ha=>?_⟩;obtain⟨e1,e2,e3⟩:=zt.l i hi ha;rw [e2,e3];exact h.la i e1 (by rw [<- e3];exact ha)
theorem Hv.out1{pc:Nat->List Pc}{nm:Str}{z:Zs}{i:Nat}(i3:i<3)(hc:jHm pc)(h:Hv pc nm z)(hi:z.ap=some i) :
 ∃ hJ,jF (hJ i)=jF (pc i)++[(nm,oF z.b z.a)]/\(∀ j,j≠i->hJ j=pc j)/\jHm hJ/\Hv hJ nm { z with a:=z.a+1 }/\∀ pK,pK≠nm->∀ j,m8 pK (hJ j)=m8 pK (pc j):=by
 by_cases c:z.a=0
 ·refine⟨fun j=>if j=i then pc i++[(nm,[])] else pc j,?_,fun j e=>if_neg e,fun j p hp=>?_,⟨?_,fun j hj _=>?_⟩,fun pK hn j=>?_⟩
  ·dsimp only;rw [if_pos rfl,jIT,jIU,c];rfl
  ·dsimp only at hp;split at hp
   ·rcases eV.mp hp with hp|hp
    ·exact hc i p hp
    ·rw [mem_singleton.mp hp];exact⟨0,0,rfl⟩
   ·exact hc j p hp
  ·refine (jME (f:=fun i=>m8 nm (pc i)) (x:=[]) i3 ?_ fun j e=>?_).trans ?_
   ·rw [if_pos rfl,jEo,jIl]
   ·rw [if_neg e]
   ·rw [eZ];have:=h.pm;rw [c] at this ⊢;exact this
  ·have:j=i:=(Option.some.inj (hi.symm.trans hj)).symm;subst this;exists pc j;dsimp only;rw [if_pos rfl,c];rfl
  ·dsimp only;split
   ·next e=>rw [jEo,jJS (symm hn),eZ,e]
   ·rfl
 ·obtain⟨pre,ep⟩:=h.la i hi (by omega);have er:nE z.b z.a=nE z.b (z.a-1)++[((z.b+(z.a-1):Nat):Int)]:=by rw [<- jMD,show z.a-1+1=z.a by omega]
  refine⟨fun j=>if j=i then pre++[(nm,nE z.b z.a)] else pc j,?_,fun j e=>if_neg e,fun j p hp=>?_,⟨?_,fun j hj _=>?_⟩,fun pK hn j=>?_⟩
  ·dsimp only;rw [if_pos rfl,ep,jIT,jIT,jIU,jIU,append_assoc];congr 1;unfold jF8;rw [er,dU,nS];unfold oF;rw [if_neg c,show z.b+z.a-1=z.b+(z.a-1) by omega];rfl
  ·dsimp only at hp;split at hp
   ·rcases eV.mp hp with hp|hp
    ·exact hc i p (by rw [ep];exact fX _ hp)
    ·rw [mem_singleton.mp hp];exact⟨_,_,rfl⟩
   ·exact hc j p hp
  ·refine (jME (f:=fun i=>m8 nm (pc i)) (x:=[((z.b+(z.a-1):Nat):Int)]) i3 ?_ fun j e=>?_).trans ?_
   ·rw [if_pos rfl,ep,jEo,jEo,jIl,jIl,er,append_assoc]
   ·rw [if_neg e]
   ·refine (h.pm.append_right _).trans ?_;dsimp only;rw [show z.b+(z.a+1-1)=z.b+(z.a-1)+1 by omega,jMD,Nat.zero_add]
  ·have:j=i:=(Option.some.inj (hi.symm.trans hj)).symm;subst this;exists pre;dsimp only;rw [if_pos rfl];rfl
  ·dsimp only;split
   ·next e=>rw [e,ep,jEo,jEo,jJS (symm hn),jJS (symm hn)]
   ·rfl
theorem Hv.outs{pc:Nat->List Pc}{nm:Str}{z:Zs}{i:Nat}(i3:i<3)(hc:jHm pc)(h:Hv pc nm z)(hi:z.ap=some i):∀ n,
 ∃ hJ,jF (hJ i)=jF (pc i)++(kB z.b z.a (z.a+n)).map (fun m=>(nm,m))/\(∀ j,j≠i->hJ j=pc j)/\jHm hJ/\Hv hJ nm { z with a:=z.a+n }/\∀ pK,pK≠nm->∀ j,m8 pK (hJ j)=m8 pK (pc j)
 | 0=>⟨pc,by rw [add_zero,tJ];simp,fun _ _=>rfl,hc,h,fun _ _ _=>rfl⟩
 | n+1=>by
   obtain⟨p1,t1,o1,c1,h1,m1⟩:=Hv.outs i3 hc h hi n;obtain⟨p2,t2,o2,c2,h2,m2⟩:=Hv.out1 i3 c1 h1 hi;refine⟨p2,?_,fun j e=>(o2 j e).trans (o1 j e),c2,h2,fun pK hn j=>(m2 pK hn j).trans (m1 pK hn j)⟩;rw [t2,t1,append_assoc,<- qI,<- jIR (jU _ _),dU];rfl
theorem Hv.other{pc hJ:Nat->List Pc}{nm:Str}{z:Zs}{i:Nat}(h:Hv pc nm z)(m:∀ j,m8 nm (hJ j)=m8 nm (pc j))(o:∀ j,j≠i->hJ j=pc j)(n:z.ap≠some i):Hv hJ nm z :=
 ⟨by rw [show (fun i=>m8 nm (hJ i))=fun i=>m8 nm (pc i) from funext m];exact h.pm,fun j hj ha=>by rw [o j fun e=>n (by rw [<- e];exact hj)];exact h.la j hj ha⟩
theorem gath3{nm:Str}{pc:Nat->List Pc}(hc:jHm pc)(h:Nat->Addr):rR nm [] [(pn 0,h 0,jF (pc 0)),(pn 1,h 1,jF (pc 1)),(pn 2,h 2,jF (pc 2))]=.ok (oA nm (pn 0) (pc 0)++(oA nm (pn 1) (pc 1)++oA nm (pn 2) (pc 2))):=by
 have r:∀ i,mY [] (jF (pc i)) 0=.ok (pc i):=fun i=>jMC (pc i) [] 0 fun p hp n hn=>by
  obtain⟨b,m,e⟩:=hc i p hp;rw [e] at hn;have:=(jFj.mp hn).1;omega
 unfold rR;dsimp only;rw [r 0];dsimp only;unfold rR;dsimp only;rw [r 1];dsimp only;unfold rR;dsimp only;rw [r 2];dsimp only;unfold rR;rw [j7,append_assoc]
theorem jF9(nm pr:Str):∀ P:List Pc,kF (oA nm pr P)=m8 nm P
 | []=>rfl
 | p::P=>by
   have ih:=jF9 nm pr P;unfold kF oA m8 at *;by_cases c:p.1=nm
   ·by_cases c2:p.2=[]
    ·rw [fO (by simp [c2]),gA (by simpa using c),mV,c2,j7];exact ih
    ·rw [gA (by simp [c,c2]),gA (by simpa using c),mV,dQ,mV,ih]
   ·rw [fO (by simp [c]),fO (by simpa using c)];exact ih
theorem pick_ne{nm pr:Str}{P:List Pc}{q:Pc}(h:q∈oA nm pr P):∃ p∈P,q.2=p.2/\q.2≠[]:=by
 unfold oA at h;obtain⟨p,hp,rfl⟩:=eI.mp h;obtain⟨h1,h2⟩:=mS.mp hp;refine⟨p,h1,rfl,fun e=>?_⟩;have e':p.2=[]:=e;rw [e'] at h2;simp at h2
theorem jK5:∀ {L:List Pc},(∀ p∈L,∃ b n,p.2=nE b n/\n≠0)->L.Pairwise (fun a b=>rD a<=rD b)->(kF L).Nodup->(kF L).Pairwise (· < ·)
 | [],_,_,_=>.nil
 | p::L,h,s,d=>by
   obtain⟨b,n,e,n0⟩:=h p (.head _);have s':=List.pairwise_cons.mp s;have d':(p.2++kF L).Nodup:=d;have dd:=jT.mp d';show (p.2++kF L).Pairwise (· < ·);refine List.pairwise_append.mpr ⟨by rw [e];exact jJR b n,jK5 (fun q hq=>h q (.tail _ hq)) s'.2 dd.2.1,fun x hx y hy=>?_⟩;obtain⟨q,hq,hy'⟩:=nN.mp hy;obtain⟨b2,n2,e2,m0⟩:=h q (.tail _ hq);have hh:=s'.1 q hq;have head:∀ {r:Pc} {b n:Nat},r.2=nE b n->n≠0->rD r=(b:Int):=fun {r b n} e n0=>by
    unfold rD;rw [e];obtain⟨m,rfl⟩:∃ m,n=m+1:=⟨n-1,by omega⟩
    unfold nE;rw [List.range_succ_eq_map];rfl
   rw [head e n0,head e2 m0] at hh;rw [e] at hx;rw [e2] at hy';have wC:=jFj.mp hx;have xE:=jFj.mp hy'
   -- y is not among the numbers of p
   refine Int.lt_of_not_ge fun ge=>?_;have:y∈p.2:=by rw [e];exact jFj.mpr ⟨by omega,by omega⟩
   exact dd.2.2 y this y hy rfl
theorem jO0(h:L.Perm M):(kF L).Perm (kF M):=h.flatMap_right _
structure Da(dm:Addr)(d:PD):Prop where
 t1:dm≠d.tr1
 t2:dm≠d.tr2
 k1:dm≠d.ik1
 k2:dm≠d.ik2
structure Mb where
 dm:Addr
 jl:Addr
 wl:Addr
 dl:Addr
 hd:Addr
 h:Nat->Addr
 d:Nat->Bool
def Mb.kv(b:Mb):List (Key×V):=[(kw "jobs",.ref b.jl),(kw "where",.ref b.wl),(kw "dropped",.ref b.dl),(kw "heaps",.ref b.hd)]
def Mb.own(b:Mb):List Addr:=[b.wl,b.dl,b.h 0,b.h 1,b.h 2]
def l2(f:Nat->V):List V:=[f 0,f 1]
def atS:Option Nat->V
 | none=>.non
 | some i=>.str (pn i)
def tI(b:Mb)(tg:Nat->List Tag):List HRow:=[(pn 0,b.h 0,tg 0),(pn 1,b.h 1,tg 1),(pn 2,b.h 2,tg 2)]
structure tF(w:Wg)(l:Addr):Prop where
 i:∀ i,i<3->l≠(w.ds i).ins
 r:w.r.il≠l
 r':w.r'.il≠l
structure Bm(H:Hp)(b:Mb)(J:Nat->List V)(wv:Nat->V)(tg:Nat->List Tag)(ex:List (Addr×List V)):Prop where
 m:H b.dm=some (.dK b.kv)
 j:∃ t:Nat->Addr,H b.jl=some (.lst (l2 fun i=>.ref (t i)))/\∀ i,i<2->H (t i)=some (.tup (J i))
 wh:H b.wl=some (.lst (l2 wv))
 dr:H b.dl=some (.lst (l2 fun i=>.bl (b.d i)))
 hp:jId H b.hd (tI b tg)
 own:b.own.Nodup
 jo:b.jl ∉ b.own
 ex:∀ q∈ex,H q.1=some (.lst q.2)/\q.1 ∉ b.own
structure Bo(w:Wg)(b:Mb)(ex:List (Addr×List V)):Prop where
 j:tF w b.jl
 o:∀ l∈b.own,tF w l
 e:∀ q∈ex,tF w q.1
 a1:∀ i,i<3->Da b.dm (w.ds i)
 a2:∀ i,i<3->Da b.hd (w.ds i)
def Kg(H H':Hp):Prop:=∀ b o,(∀ x,o≠.tbl x)->H b=some o->H' b=some o
section
variable {k:Cs}{H H':Hp}{w w1:Wg}{b:Mb}{J:Nat->List V}{wv:Nat->V}{tg:Nat->List Tag}{ex:List (Addr×List V)}{i j s c:Nat}{l:Addr}{ts us:List V}
theorem Kg.of(h:eC H H'):Kg H H':=fun b o _ e=>h _ _ e
theorem tF.sw(h:tF w l):tF w.sw l:=⟨h.i,h.r',h.r⟩
theorem tF.at(h:tF w l):tF (w.at s) l:=by unfold Wg.at;split;exact h;exact h.sw
theorem Bo.at(h:Bo w b ex):Bo (w.at s) b ex:=by
 have e:(w.at s).ds=w.ds:=by unfold Wg.at;split<;>rfl
 exact⟨h.j.at,fun l a=>(h.o l a).at,fun q a=>(h.e q a).at,fun i a=>by rw [e];exact h.a1 i a,fun i a=>by rw [e];exact h.a2 i a⟩
theorem jE6.gen(x:jE6 H a h)(kl:∀ us,H a=some (.lst us)->H' a=some (.lst us))(kt:∀ b xs,H b=some (.tup xs)->H' b=some (.tup xs)):jE6 H' a h:=let ⟨ts,e,e1,g⟩:=x;⟨ts,e,kl _ e1,fun r hr=>kt _ _ (g r hr)⟩
theorem jJT(i3:i<3):b.h i∈b.own:=by
 have:i=0\/i=1\/i=2:=by omega
 unfold Mb.own;rcases this with rfl|rfl|rfl<;>simp
theorem jJU(h:r∈tI b tg):∃ i,i<3/\r=(pn i,b.h i,tg i):=by
 unfold tI at h;simp only [dZ,d6,or_false] at h;rcases h with h|h|h
 ·exact⟨0,by decide,h⟩
 ·exact⟨1,by decide,h⟩
 ·exact⟨2,by decide,h⟩
theorem Bm.gen(M:Bm H b J wv tg ex)(kd:∀ a kv,a=b.dm\/a=b.hd->H a=some (.dK kv)->H' a=some (.dK kv))(kl:∀ a us,a=b.jl\/a∈b.own\/(∃ q∈ex,q.1=a)->H a=some (.lst us)->H' a=some (.lst us))(kt:∀ b xs,H b=some (.tup xs)->H' b=some (.tup xs)):Bm H' b J wv tg ex:=by
 obtain⟨t,h1,h2⟩:=M.j
 exact { M with m:=kd _ _ (.inl rfl) M.m,j:=⟨t,kl _ _ (.inl rfl) h1,fun i a=>kt _ _ (h2 i a)⟩,wh:=kl _ _ (.inr (.inl (by unfold Mb.own;simp))) M.wh,dr:=kl _ _ (.inr (.inl (by unfold Mb.own;simp))) M.dr,hp:=⟨kd _ _ (.inr rfl) M.hp.o,fun r hr=>(M.hp.t r hr).gen (fun us e=>by
  obtain⟨i,i3,rfl⟩:=jJU hr
  exact kl _ _ (.inr (.inl (jJT i3))) e) kt,M.hp.l⟩,ex:=fun q hq=>⟨kl _ _ (.inr (.inr ⟨q,hq,rfl⟩)) (M.ex q hq).1,(M.ex q hq).2⟩ }
theorem Bm.kg(M:Bm H b J wv tg ex)(g:Kg H H'):Bm H' b J wv tg ex:=M.gen (fun _ _ _ e=>g _ _ (fun x z=>nomatch z) e) (fun _ _ _ e=>g _ _ (fun x z=>nomatch z) e) fun _ _ e=>g _ _ (fun x z=>nomatch z) e
theorem Bo.off(B:Bo w b ex)(h:a=b.jl\/a∈b.own\/∃ q∈ex,q.1=a):tF w a:=by
 rcases h with rfl|h|⟨q,hq,rfl⟩
 ·exact B.j
 ·exact B.o _ h
 ·exact B.e q hq
theorem Bm.dn(M:Bm H b J wv tg ex)(B:Bo w b ex)(Z:Wo k H w)(d:Dn k H H' w w1 c i):Bm H' b J wv tg ex:=by
 have W:=Z.W i d.i3;refine M.gen (fun a kv h e=>?_) (fun a us h e=>jOX Z.R.o W.P d.kp ((B.off h).i i d.i3) e) (jFL Z.R.o W.P d.kp);have D:Da a (w.ds i):=by
  rcases h with rfl|rfl
  ·exact B.a1 i d.i3
  ·exact B.a2 i d.i3
 exact d.kp _ _ (jCM Z.R.o e).symm (jCM W.P.o e).symm (eW e W.P.n nofun) D.t2 D.k2 e
theorem tF.dn(h:tF w l)(e:H l=some o)(d:Dn k H H' w w1 c i):tF w1 l:=by
 have e1:w1.r.il=w.r.il:=by rw [d.er]
 have e2:w1.r'.il=w.r'.il:=by rw [d.e]
 refine⟨fun j j3=>?_,by rw [e1];exact h.r,by rw [e2];exact h.r'⟩;by_cases cj:j=i
 ·subst cj;rcases d.g.i with g|g
  ·rw [g];exact h.i j j3
  ·exact fun z=>by rw [<- z,e] at g;cases g
 ·rw [d.go j cj];exact h.i j j3
theorem Da.gp(h:Da dm d)(g:Gp d d' H):Da dm d':=⟨by rw [g.t1];exact h.t1,by rw [g.t];exact h.t2,by rw [g.k1];exact h.k1,by rw [g.k];exact h.k2⟩
theorem Bo.dn(B:Bo w b ex)(M:Bm H b J wv tg ex)(d:Dn k H H' w w1 c i):Bo w1 b ex:=by
 have da:∀ {a:Addr},(∀ i,i<3->Da a (w.ds i))->∀ j,j<3->Da a (w1.ds j):=fun h j j3=>by
  by_cases cj:j=i
  ·subst cj;exact (h j j3).gp d.g
  ·rw [d.go j cj];exact h j j3
 obtain⟨t,h1,h2⟩:=M.j;refine⟨B.j.dn h1 d,fun l hl=>?_,fun q hq=>(B.e q hq).dn (M.ex q hq).1 d,da B.a1,da B.a2⟩;have ht:∀ i,i<3->∃ ts,H (b.h i)=some (.lst ts):=fun i i3=>by
  obtain⟨ts,_,e,_⟩:=M.hp.t (pn i,b.h i,tg i) (by
   have:i=0\/i=1\/i=2:=by omega
   unfold tI
   rcases this with rfl|rfl|rfl<;>simp)
  exact⟨_,e⟩
 have lW:∃ ts,H l=some (.lst ts):=by
  unfold Mb.own at hl;simp only [dZ,d6,or_false] at hl;rcases hl with rfl|rfl|rfl|rfl|rfl
  ·exact⟨_,M.wh⟩
  ·exact⟨_,M.dr⟩
  ·exact ht 0 (by decide)
  ·exact ht 1 (by decide)
  ·exact ht 2 (by decide)
 obtain⟨ts,e⟩:=lW;exact (B.o l hl).dn e d
theorem iA.gen(U:iA cP cS cY cM cW H q e)(ki:∀ b C d fs,H b=some (.ins C d fs)->H' b=some (.ins C d fs))(kd:∀ b kv,H b=some (.dK kv)->H' b=some (.dK kv))(kn:H' e.ins=some (.lst e.tags)):iA cP cS cY cM cW H' q e:=by
 obtain⟨⟨dt,t1⟩,t2,t3,t4⟩:=U.T;obtain⟨⟨di,i1⟩,i2,i3,i4⟩:=U.I;obtain⟨dst,hs⟩:=U.s;exact { U with o:=ki _ _ _ _ U.o,T:=⟨⟨dt,ki _ _ _ _ t1⟩,kd _ _ t2,kd _ _ t3,t4⟩,I:=⟨⟨di,ki _ _ _ _ i1⟩,kd _ _ i2,kd _ _ i3,i4⟩,s:=⟨dst,ki _ _ _ _ hs⟩,n:=kn }
theorem Wo.gen(Z:Wo k H w)(ki:∀ b C d fs,H b=some (.ins C d fs)->H' b=some (.ins C d fs))(kd:∀ b kv,H b=some (.dK kv)->H' b=some (.dK kv))(kt:∀ b xs,H b=some (.tup xs)->H' b=some (.tup xs))(kn:∀ i,i<3->∀ us,H (w.ds i).ins=some (.lst us)->H' (w.ds i).ins=some (.lst us))(kr:∀ us,H w.r.il=some (.lst us)->H' w.r.il=some (.lst us))(kr':∀ us,H w.r'.il=some (.lst us)->H' w.r'.il=some (.lst us)):Wo k H' w:=by
 have rn:∀ {x:Addr} {r:RD},jG k.R k.J H x r->(∀ us,H r.il=some (.lst us)->H' r.il=some (.lst us))->jG k.R k.J H' x r:=fun R kl=>R.fr ki (fun o e=>by
  obtain⟨ys,hy,_⟩:=R.i;rw [hy] at e;cases e
  exact kl _ hy) kt
 exact { Z with R:=rn Z.R kr,R':=rn Z.R' kr',W:=fun i i3=>{ Z.W i i3 with P:=(Z.W i i3).P.gen ki kd (kn i i3 _ (Z.W i i3).P.n) },t:=fun i a b=>(Z.t i a b).fr kt,t':=fun i a b=>(Z.t' i a b).fr kt }
theorem Wo.kg(Z:Wo k H w)(g:Kg H H'):Wo k H' w:=Z.gen (fun _ _ _ _ e=>g _ _ (fun x z=>nomatch z) e) (fun _ _ e=>g _ _ (fun x z=>nomatch z) e) (fun _ _ e=>g _ _ (fun x z=>nomatch z) e) (fun _ _ _ e=>g _ _ (fun x z=>nomatch z) e) (fun _ e=>g _ _ (fun x z=>nomatch z) e) fun _ e=>g _ _ (fun x z=>nomatch z) e
theorem Wo.upl(Z:Wo k H w)(hl:H l=some (.lst ts))(o:tF w l):Wo k (upd H l (.lst us)) w:=Z.gen (fun b C d fs e=>by rw [dW (uX e hl)];exact e) (fun b kv e=>by rw [dW (eW e hl nofun)];exact e) (fun b xs e=>by rw [dW (eW e hl nofun)];exact e) (fun i i3 us e=>by rw [dW (symm (o.i i i3))];exact e) (fun us e=>by rw [dW o.r];exact e) fun us e=>by rw [dW o.r'];exact e
end
def jHn(w:Wg)(j:Nat):List V:=[.str (w.at j).r.nm,.int (((w.at j).r.inks.length:Nat):Int),.int (((w.at j).r.tot:Nat):Int)]
def i5(w:Wg)(j:Nat):Nat:=(w.at j).z.b+((w.at j).z.a-1)
structure Lw(k:Cs)(tP:Addr)(H:Hp)(b:Mb)(w:Wg)(pc:Nat->List Pc)(ex:List (Addr×List V)):Prop where
 Z:Wo k H w
 M:Bm H b (jHn w) (fun j=>atS (w.at j).z.ap) (fun i=>jF (pc i)) ex
 B:Bo w b ex
 nm:w.r.nm≠w.r'.nm
 co:jHm pc
 v:∀ j,j<2->Hv pc (w.at j).r.nm (w.at j).z
 br:∀ j,j<2->(w.at j).r.br=(b.d j && !decide (i5 w j=(w.at j).r.tot))
 dn:∀ j,j<2->b.d j=true->(w.at j).z.ap=none
 hl:(jF (pc 0)).length+(jF (pc 1)).length+(jF (pc 2)).length+(w.z.f-w.z.a)+(w.z'.f-w.z'.a)<=w.fe
 gt:mG H tP
section
variable {k:Cs}{tP:Addr}{H H':Hp}{w w1:Wg}{b:Mb}{J:Nat->List V}{wv:Nat->V}{tg:Nat->List Tag}{ex:List (Addr×List V)}{i j s c:Nat}{l:Addr}{ts us:List V}{pc:Nat->List Pc}
theorem jDY{L:List Addr}{a:Addr}(n:a ∉ L)(h:l∈L):a≠l:=fun z=>n (by rw [z];exact h)
theorem Lw.same(h:Lw k tP H b w pc ex)(g:eC H H'):Lw k tP H' b w pc ex:={ h with Z:=h.Z.same g,M:=h.M.kg (Kg.of g),gt:=h.gt.same g }
theorem Lw.kg(h:Lw k tP H b w pc ex)(g:Kg H H')(t:mG H' tP):Lw k tP H' b w pc ex:={ h with Z:=h.Z.kg g,M:=h.M.kg g,gt:=t }
theorem vS(h:s<2)(e:(l2 f)[((s:Nat):Int).toNat]?=some v):v=f s:=by
 rw [fU] at e;have:s=0\/s=1:=by omega
 rcases this with rfl|rfl<;>exact (Option.some.inj e).symm
theorem jMF(h:s<2):(l2 f).set s v=l2 fun j=>if j=s then v else f j:=by
 have:s=0\/s=1:=by omega
 rcases this with rfl|rfl<;>rfl
theorem ix2(h:s<2):ixN 2 (s:Int)=some s:=by
 unfold ixN;rw [if_pos (by omega),if_pos (by omega),fU]
section
variable (M:Bm H b J wv tg ex)
include M
theorem gJ:qE H b.dm (.str (c7 "jobs")) (some (.ref b.jl)):=sW M.m (by kernel_rfl)
theorem gW:qE H b.dm (.str (c7 "where")) (some (.ref b.wl)):=sW M.m (by kernel_rfl)
theorem gD:qE H b.dm (.str (c7 "dropped")) (some (.ref b.dl)):=sW M.m (by kernel_rfl)
theorem gH:qE H b.dm (.str (c7 "heaps")) (some (.ref b.hd)):=sW M.m (by kernel_rfl)
theorem gP(i3:i<3):qE H b.hd (.str (pn i)) (some (.ref (b.h i))):=by
 have e:m7 (rY (tI b tg)) (Sum.inr (pn i))=some (.ref (b.h i)):=by
  have:i=0\/i=1\/i=2:=by omega
  rcases this with rfl|rfl|rfl<;>kernel_rfl
 have:=qE.k (k:=(Sum.inr (pn i):Key)) M.hp.o;rw [e] at this;exact this
end
theorem jJV(h:b.own.Nodup):b.wl≠b.dl/\(∀ i,i<3->b.h i≠b.wl/\b.h i≠b.dl)/\∀ i j,i<3->j<3->i≠j->b.h i≠b.h j:=by
 unfold Mb.own at h;simp only [fN,dZ,d6,or_false,not_or,not_false_eq_true,jN,and_true] at h;obtain⟨⟨a1,a2,a3,a4⟩,⟨b1,b2,b3⟩,⟨c1,c2⟩,d1⟩:=h;refine⟨a1,fun i i3=>?_,fun i j i3 j3 n=>?_⟩
 ·have:i=0\/i=1\/i=2:=by omega
  rcases this with rfl|rfl|rfl
  ·exact⟨symm a2,symm b1⟩
  ·exact⟨symm a3,symm b2⟩
  ·exact⟨symm a4,symm b3⟩
 ·have hi:i=0\/i=1\/i=2:=by omega
  have hj:j=0\/j=1\/j=2:=by omega
  rcases hi with rfl|rfl|rfl<;>rcases hj with rfl|rfl|rfl<;>first|exact absurd rfl n|exact c1|exact symm c1|exact c2|exact symm c2|exact d1|exact symm d1
theorem jIm(i3:i<3):(pn i,b.h i,tg i)∈tI b tg:=by
 have:i=0\/i=1\/i=2:=by omega
 unfold tI;rcases this with rfl|rfl|rfl<;>simp
theorem uS(hl:H l=some (.lst ts))(n:a≠l)(e:H a=some o):upd H l (.lst us) a=some o:=by rw [dW n];exact e
theorem jHo(hl:H l=some (.lst ts)):∀ b xs,H b=some (.tup xs)->upd H l (.lst us) b=some (.tup xs):=fun b xs e=>by rw [dW (eW e hl nofun)];exact e
theorem jK6{nm:Str}:∀ {ts:List V} {ns:List Int},iU H nm ts ns->∃ us:List (Addr×Tag),ts=us.map (fun r=>V.ref r.1)/\us.map (·.2)=ns.map (fun n=>(nm,n))/\∀ r∈us,H r.1=some (.tup [.str r.2.1,.int r.2.2])
 | [],[],_=>⟨[],rfl,rfl,fun r hr=>absurd hr d6⟩
 | y::ts,n::ns,h=>by
   obtain⟨t,e,ht⟩:=h.2 0 y n rfl rfl;obtain⟨us,e1,e2,e3⟩:=jK6 (ts:=ts) (ns:=ns) ⟨by have:=h.1;simp at this;exact this,fun i y n a b=>h.2 (i+1) y n a b⟩;refine⟨(t,nm,n)::us,by rw [dQ,e,<- e1],by rw [dQ,dQ,e2],fun r hr=>?_⟩;rcases dZ.mp hr with rfl|hr
   ·exact ht
   ·exact e3 r hr
 | [],n::ns,h=>absurd h.1 (by simp)
 | y::ts,[],h=>absurd h.1 (by simp)
theorem Bm.heap{nm:Str}{ns:List Int}(M:Bm H b J wv tg ex)(i3:i<3)(hl:H l=some (.lst ts))(ht:iU H nm ts ns)(le:(tg 0).length+(tg 1).length+(tg 2).length+ns.length<=300):∃ xs,H (b.h i)=some (.lst xs)/\xs.length=(tg i).length/\Bm (upd H (b.h i) (.lst (xs++ts))) b J wv (fun j=>if j=i then tg i++ns.map (fun n=>(nm,n)) else tg j) ex:=by
 obtain⟨o1,o2,o3⟩:=jJV M.own;obtain⟨hs,e,e1,g⟩:=M.hp.t _ (jIm (b:=b) (tg:=tg) i3);obtain⟨us,u1,u2,u3⟩:=jK6 ht;dsimp only at e1 e;exists _,e1,by rw [e,c6,c6]
 obtain⟨t,h1,h2⟩:=M.j;have kt:=jHo (us:=(hs.map fun r=>V.ref r.1)++ts) e1;refine { M with m:=by rw [dW (eW M.m e1 nofun)];exact M.m,j:=⟨t,uS e1 (jDY M.jo (jJT i3)) h1,fun i a=>kt _ _ (h2 i a)⟩,wh:=uS e1 (symm (o2 i i3).1) M.wh,dr:=uS e1 (symm (o2 i i3).2) M.dr,hp:=⟨by rw [dW (eW M.hp.o e1 nofun)];exact M.hp.o,fun r hr=>?_,?_⟩,ex:=fun q hq=>⟨uS e1 (jDY (M.ex q hq).2 (jJT i3)) (M.ex q hq).1,(M.ex q hq).2⟩ }
 ·obtain⟨j,j3,rfl⟩:=jJU hr;dsimp only;by_cases cj:j=i
  ·subst cj;rw [if_pos rfl];refine⟨hs++us,by rw [dU,<- e,u2],by rw [d4,dU,u1],fun r hr=>?_⟩;rcases eV.mp hr with hr|hr
   ·exact kt _ _ (g r hr)
   ·exact kt _ _ (u3 r hr)
  ·rw [if_neg cj];exact (M.hp.t _ (jIm (b:=b) (tg:=tg) j3)).gen (fun us e=>uS e1 (o3 j i j3 i3 cj) e) kt
 ·have:i=0\/i=1\/i=2:=by omega
  unfold tI;rcases this with rfl|rfl|rfl<;>simp<;>omega
theorem Bm.wher(M:Bm H b J wv tg ex):Bm (upd H b.wl (.lst (l2 fun j=>if j=s then v else wv j))) b J (fun j=>if j=s then v else wv j) tg ex:=by
 obtain⟨o1,o2,o3⟩:=jJV M.own;obtain⟨t,h1,h2⟩:=M.j;have kt:=jHo (us:=l2 fun j=>if j=s then v else wv j) M.wh;have wo:b.wl∈b.own:=by unfold Mb.own;simp
 refine { M with m:=by rw [dW (eW M.m M.wh nofun)];exact M.m,j:=⟨t,uS M.wh (jDY M.jo wo) h1,fun i a=>kt _ _ (h2 i a)⟩,wh:=d4,dr:=uS M.wh (symm o1) M.dr,hp:=⟨by rw [dW (eW M.hp.o M.wh nofun)];exact M.hp.o,fun r hr=>?_,M.hp.l⟩,ex:=fun q hq=>⟨uS M.wh (jDY (M.ex q hq).2 wo) (M.ex q hq).1,(M.ex q hq).2⟩ };obtain⟨j,j3,rfl⟩:=jJU hr;exact (M.hp.t _ hr).gen (fun us e=>uS M.wh (o2 j j3).1 e) kt
def Mb.dro(b:Mb)(s:Nat):Mb:={ b with d:=fun j=>if j=s then true else b.d j }
theorem dro_l(s:Nat):(l2 fun j=>if j=s then V.bl true else .bl (b.d j))=l2 fun j=>.bl ((b.dro s).d j):=by
 unfold l2 Mb.dro;dsimp only;congr 1
 ·split<;>rfl
 ·congr 1;split<;>rfl
theorem Bm.dropd(M:Bm H b J wv tg ex):Bm (upd H b.dl (.lst (l2 fun j=>if j=s then V.bl true else .bl (b.d j)))) (b.dro s) J wv tg ex:=by
 obtain⟨o1,o2,o3⟩:=jJV M.own;obtain⟨t,h1,h2⟩:=M.j;rw [dro_l];have kt:=jHo (us:=l2 fun j=>V.bl ((b.dro s).d j)) M.dr;have wo:b.dl∈b.own:=by unfold Mb.own;simp
 refine⟨by rw [show (b.dro s).dm=b.dm from rfl,dW (eW M.m M.dr nofun)];exact M.m,⟨t,uS M.dr (jDY M.jo wo) h1,fun i a=>kt _ _ (h2 i a)⟩,uS M.dr o1 M.wh,d4,⟨by rw [show (b.dro s).hd=b.hd from rfl,dW (eW M.hp.o M.dr nofun)];exact M.hp.o,fun r hr=>?_,M.hp.l⟩,M.own,M.jo,fun q hq=>⟨uS M.dr (jDY (M.ex q hq).2 wo) (M.ex q hq).1,(M.ex q hq).2⟩⟩;obtain⟨j,j3,rfl⟩:=jJU (b:=b) hr;exact (M.hp.t _ hr).gen (fun us e=>uS M.dr (o2 j j3).2 e) kt
end
def Tst(tt:TT)(σ:St)(H:Hp)(b:Bool):Prop:=∀ H1,eC H H1->∀ Q:Bool->Hp->Prop,(∀ H',eC H1 H'->Q b H')->tt σ H1 Q
theorem Tst.and(h:Tst t σ H b)(g:b=true->Tst u σ H c):Tst (tAnd t u) σ H (b&&c):=fun H1 s1 Q q=>h H1 s1 _ fun H2 s2=>by
 cases b with
 | true=>exact kM (g rfl H2 (s1.trans s2) Q fun H3 s3=>q H3 (s2.trans s3))
 | false=>exact jJ (q H2 s2)
theorem Tst.or(h:Tst t σ H b)(g:b=false->Tst u σ H c):Tst (tOr t u) σ H (b||c):=fun H1 s1 Q q=>h H1 s1 _ fun H2 s2=>by
 cases b with
 | true=>exact kM (q H2 s2)
 | false=>exact jJ (g rfl H2 (s1.trans s2) Q fun H3 s3=>q H3 (s2.trans s3))
theorem Tst.not(h:Tst t σ H b):Tst (tNot t) σ H (!b):=fun H1 s1 Q q=>h H1 s1 _ fun H2 s2=>q H2 s2
theorem Tst.seq(h:Tst tt σ H b)(h1:b=true->∀ H',eC H H'->A { D with nx:=C D } σ H')(h2:b=false->∀ H',eC H H'->B { D with nx:=C D } σ H'):tSeq (tIfS tt A B) C D σ H:=h H (eC.refl _) _ fun H' s=>by
 cases b with
 | true=>exact kM (h1 rfl H' s)
 | false=>exact jJ (h2 rfl H' s)
theorem in_turn(D:Dd):inV (.str (wN (dN D))) [.str (wN 4),.str (wN 5),.str (wN 6)]=!decide (dN D<4):=by
 cases D with
 | take p=>show inV (.str (wN 0)) _=false;decide +kernel
 | step=>show inV (.str (wN 1)) _=false;decide +kernel
 | jam p=>show inV (.str (wN 2)) _=false;decide +kernel
 | drop=>show inV (.str (wN 3)) _=false;decide +kernel
 | leave p=>show inV (.str (wN 4)) _=true;decide +kernel
 | come p=>show inV (.str (wN 5)) _=true;decide +kernel
 | mend p=>show inV (.str (wN 6)) _=true;decide +kernel
structure Dq(w w':Wg)(b b':Mb)(s:Nat)(D:Dd):Prop where
 fe:w'.fe<=w.fe+1
 e:w'.x=w.x/\w'.x'=w.x'/\w'.ps=w.ps/\w'.P=w.P
 rt:∀ j,j<2->(w'.at j).r.tot=(w.at j).r.tot
 o:dN D<4->∀ j,j<2->j≠s->(w'.at j).z=(w.at j).z
 x:dN D<4->CanD w s D->∃ c i,Dx (w.at s) (w'.at s) c i D
 t:∀ p,D=.leave p\/D=.come p\/D=.mend p->w'.S p=(lN (dM D) (w.S p)).getD (w.S p)/\∀ j,j<2->(w'.at j).z.ap=(w.at j).z.ap/\(w'.at j).z.b=(w.at j).z.b/\(w'.at j).z.a=(w.at j).z.a
 bd:b'=b\/D=.drop/\b'=b.dro s
section
variable {k:Cs}{tP:Addr}{H H' G:Hp}{w w1:Wg}{b b':Mb}{ex:List (Addr×List V)}{i j s c:Nat}{l:Addr}{ts us:List V}{pc:Nat->List Pc}{D:Dd}
theorem jC0(s2:s<2):(w1.at s).at s=w1:=by
 have:s=0\/s=1:=by omega
 rcases this with rfl|rfl<;>rfl
theorem at_oth(s2:s<2)(j2:j<2)(n:j≠s):(w1.at s).at j=w1.sw:=by
 have:s=0/\j=1\/s=1/\j=0:=by omega
 rcases this with⟨rfl,rfl⟩|⟨rfl,rfl⟩<;>rfl
theorem jO1(s2:s<2)(j2:j<2)(n:j≠s):(w.at s).sw=w.at j:=by
 have:s=0/\j=1\/s=1/\j=0:=by omega
 rcases this with⟨rfl,rfl⟩|⟨rfl,rfl⟩<;>rfl
theorem Dn.oth(d:Dn k H H' (w.at s) w1 c i)(s2:s<2)(j2:j<2)(n:j≠s):((w1.at s).at j).z=(w.at j).z/\((w1.at s).at j).r=(w.at j).r:=by
 rw [at_oth s2 j2 n,<- jO1 (w:=w) s2 j2 n,d.e];exact⟨rfl,rfl⟩
theorem Dn.nm(d:Dn k H H' (w.at s) w1 c i)(s2:s<2)(j2:j<2):((w1.at s).at j).r={ (w.at j).r with br:=((w1.at s).at j).r.br }:=by
 by_cases n:j=s
 ·subst n;rw [jC0 j2];exact d.er
 ·rw [(d.oth s2 j2 n).2]
theorem jobT_dn(d:Dn k H H' (w.at s) w1 c i)(s2:s<2)(j2:j<2):jHn (w1.at s) j=jHn w j:=by
 unfold jHn;rw [d.nm s2 j2];rfl
theorem Bm.jt(M:Bm H b J wv tg ex)(e:∀ j,j<2->J' j=J j):Bm H b J' wv tg ex:={ M with j:=let ⟨t,h1,h2⟩:=M.j;⟨t,h1,fun i a=>by rw [e i a];exact h2 i a⟩ }
theorem Dn.basic(d:Dn k H H' (w.at s) w1 c i)(s2:s<2):(w1.at s).fe=w.fe+1/\(w1.at s).x=w.x/\(w1.at s).x'=w.x'/\(w1.at s).ps=w.ps/\(w1.at s).P=w.P/\(w1.at s).S=w1.S/\∀ j,j<2->((w1.at s).at j).r.tot=(w.at j).r.tot:=by
 have rt:∀ j,j<2->((w1.at s).at j).r.tot=(w.at j).r.tot:=fun j j2=>by rw [d.nm s2 j2];rfl
 have:s=0\/s=1:=by omega
 rcases this with rfl|rfl
 ·refine⟨?_,?_,?_,?_,?_,rfl,rt⟩<;>(show _=_;rw [show w1.at 0=w1 from rfl,d.e];rfl)
 ·refine⟨?_,?_,?_,?_,?_,rfl,rt⟩<;>(rw [show w1.at 1=w1.sw from rfl,d.e];rfl)
end
section
variable {k:Cs}{tP:Addr}{H H' G:Hp}{w w1:Wg}{b b':Mb}{ex:List (Addr×List V)}{i j s c:Nat}{l:Addr}{ts us:List V}{pc:Nat->List Pc}{D:Dd}
theorem mG.gen(t:mG H tP)(kk:∀ b o,(∀ C d fs,o≠.ins C d fs)->(∀ l,o≠.lst l)->(∀ d,o≠.dK d)->H b=some o->G b=some o):mG G tP:=by
 rcases t with t|⟨c,t,u⟩
 ·exact .inl (kk _ _ (fun _ _ _ z=>nomatch z) (fun _ z=>nomatch z) (fun _ z=>nomatch z) t)
 ·exact .inr ⟨c,kk _ _ (fun _ _ _ z=>nomatch z) (fun _ z=>nomatch z) (fun _ z=>nomatch z) t,kk _ _ (fun _ _ _ z=>nomatch z) (fun _ z=>nomatch z) (fun _ z=>nomatch z) u⟩
theorem mG.dn(t:mG H tP)(Z:Wo k H w)(d:Dn k H H' w w1 c i):mG H' tP:=t.gen fun a o n1 n2 n3 e=>by
 have W:=(Z.W i d.i3).P;have ne:∀ {q:Addr} {o':HO},H q=some o'->o≠o'->a≠q:=fun h n z=>by rw [z,h] at e;exact n (Option.some.inj e).symm
 exact d.kp _ _ (ne Z.R.o (n1 _ _ _)) (ne W.o (n1 _ _ _)) (ne W.n (n2 _)) (ne W.T.2.2.1 (n3 _)) (ne W.I.2.2.1 (n3 _)) e
theorem mG.upl(t:mG H tP)(hl:H l=some (.lst ts)):mG (upd H l (.lst us)) tP:=t.gen fun a o _ n2 _ e=>by
 rw [dW fun z=>by rw [z,hl] at e;exact n2 _ (Option.some.inj e).symm];exact e
def inN(w:Wg):Nat:=(w.z.f-w.z.a)+(w.z'.f-w.z'.a)
theorem jO2:inN (w.at s)=inN w:=by
 unfold Wg.at
 split
 ·rfl
 ·exact Nat.add_comm _ _
theorem at_nm(L:Lw k tP H b w pc ex)(s2:s<2)(j2:j<2)(n:j≠s):(w.at j).r.nm≠(w.at s).r.nm:=by
 have:s=0/\j=1\/s=1/\j=0:=by omega
 rcases this with⟨rfl,rfl⟩|⟨rfl,rfl⟩
 ·exact L.nm.symm
 ·exact L.nm
theorem Lw.ghost(L:Lw k tP H b w pc ex)(s2:s<2)(d:Dn k H H' (w.at s) w1 c i):∃ hJ,(∀ j,j<3->jF (hJ j)=if (w.at s).z.ap=some j then jF (pc j)++(kB (w.at s).z.b (w.at s).z.a c).map (fun n=>((w.at s).r.nm,n)) else jF (pc j))/\jHm hJ/\(∀ j,j<2->Hv hJ ((w1.at s).at j).r.nm ((w1.at s).at j).z)/\(jF (hJ 0)).length+(jF (hJ 1)).length+(jF (hJ 2)).length+((w1.at s).z.f-(w1.at s).z.a)+((w1.at s).z'.f-(w1.at s).z'.a)<=(w1.at s).fe/\(jF (pc 0)).length+(jF (pc 1)).length+(jF (pc 2)).length+(kB (w.at s).z.b (w.at s).z.a c).length<=w.fe+1:=by
 have e1:((w1.at s).at s).r.nm=(w.at s).r.nm:=by rw [d.nm s2 s2]
 have hl:(jF (pc 0)).length+(jF (pc 1)).length+(jF (pc 2)).length+inN (w.at s)<=w.fe:=by rw [jO2];have:=L.hl;unfold inN;omega
 have e2:(w1.at s).z.f-(w1.at s).z.a+((w1.at s).z'.f-(w1.at s).z'.a)=(w1.z.f-w1.z.a)+((w.at s).z'.f-(w.at s).z'.a):=by
  have h:inN (w1.at s)=inN w1:=jO2;unfold inN at h;rw [h,show w1.z'=(w.at s).z' by rw [d.e]]
 have e3:=(d.basic s2).1;have ln:=d.ln;have lo:=d.zt.lo;have wl:=jCY (w.at s).z.b (w.at s).z.a c;unfold inN at hl;have v:=L.v s s2;cases ea:(w.at s).z.ap with
 | none =>
   have ec:=d.zt.n ea;subst ec;refine⟨pc,fun j _=>(if_neg nofun).symm,L.co,fun j j2=>?_,by omega,by omega⟩;by_cases n:j=s
   ·subst n;rw [e1,jC0 j2];exact v.move d.zt
   ·rw [(d.oth s2 j2 n).1,(d.oth s2 j2 n).2];exact L.v j j2
 | some i0 =>
   have i3:=((L.Z.at s).ok.at3 i0 ea).1;obtain⟨p',t1,o1,c1,h1,m1⟩:=Hv.outs i3 L.co v ea (c-(w.at s).z.a);rw [show (w.at s).z.a+(c-(w.at s).z.a)=c by omega] at t1 h1;have tt:∀ j,j<3->jF (p' j)=if some i0=some j then jF (pc j)++(kB (w.at s).z.b (w.at s).z.a c).map (fun n=>((w.at s).r.nm,n)) else jF (pc j):=fun j _=>by
    by_cases n:j=i0
    ·subst n;rw [if_pos rfl,t1]
    ·rw [if_neg fun e=>n (Option.some.inj e).symm,o1 j n]
   have tl:(jF (p' 0)).length+(jF (p' 1)).length+(jF (p' 2)).length=(jF (pc 0)).length+(jF (pc 1)).length+(jF (pc 2)).length+(c-(w.at s).z.a):=by
    have l0:=congrArg List.length t1;rw [dH,c6,wl] at l0;have:i0=0\/i0=1\/i0=2:=by omega
    rcases this with rfl|rfl|rfl
    ·rw [o1 1 (by decide),o1 2 (by decide)];omega
    ·rw [o1 0 (by decide),o1 2 (by decide)];omega
    ·rw [o1 0 (by decide),o1 1 (by decide)];omega
   refine⟨p',tt,c1,fun j j2=>?_,by omega,by omega⟩;by_cases n:j=s
   ·subst n;rw [e1,jC0 j2];exact h1.move d.zt
   ·rw [(d.oth s2 j2 n).1,(d.oth s2 j2 n).2];refine (L.v j j2).other (m1 _ (at_nm L s2 j2 n)) o1 ?_;have:=(L.Z.at s).dj i0 ea;rw [<- jO1 (w:=w) s2 j2 n];exact this
theorem Bm.cg(M:Bm H b J wv tg ex)(e:∀ j,j<2->wv' j=wv j)(g:∀ j,j<3->tg' j=tg j):Bm H b J wv' tg' ex:=by
 refine { M with wh:=?_,hp:=?_ }
 ·rw [M.wh];unfold l2;rw [e 0 (by decide),e 1 (by decide)]
 ·have:tI b tg'=tI b tg:=by unfold tI;rw [g 0 (by decide),g 1 (by decide),g 2 (by decide)]
  rw [this];exact M.hp
theorem Lw.fin(L:Lw k tP H b w pc ex)(s2:s<2)(d:Dn k H H' (w.at s) w1 c i)(c1:jHm hJ)(v1:∀ j,j<2->Hv hJ ((w1.at s).at j).r.nm ((w1.at s).at j).z)(hl:(jF (hJ 0)).length+(jF (hJ 1)).length+(jF (hJ 2)).length+((w1.at s).z.f-(w1.at s).z.a)+((w1.at s).z'.f-(w1.at s).z'.a)<=(w1.at s).fe) 
 (Z:Wo k G (w1.at s)) (M:Bm G b' (jHn w) wv tg ex) (eb:b'=b\/b'=b.dro s) (ew:∀ j,j<2->atS ((w1.at s).at j).z.ap=wv j) (et:∀ j,j<3->jF (hJ j)=tg j) (gt:mG G tP) (es:w1.r.br=(b'.d s && !decide (w1.z.b+(w1.z.a-1)=w1.r.tot))) (en:b'.d s=true->w1.z.ap=none):Lw k tP G b' (w1.at s) hJ ex:=by
 have B1:Bo (w1.at s) b ex:=(Bo.dn L.B.at L.M d).at
 have bd:∀ j,j≠s->b'.d j=b.d j:=fun j n=>by
  rcases eb with rfl|rfl
  ·rfl
  ·exact if_neg n
 refine⟨Z,(M.jt fun j j2=>jobT_dn d s2 j2).cg ew et,by rcases eb with rfl|rfl;exact B1;exact⟨B1.j,B1.o,B1.e,B1.a1,B1.a2⟩,?_,c1,v1,fun j j2=>?_,fun j j2 hj=>?_,hl,gt⟩
 ·have h0:((w1.at s).at 0).r.nm=(w.at 0).r.nm:=by rw [d.nm s2 (by decide)]
  have h1:((w1.at s).at 1).r.nm=(w.at 1).r.nm:=by rw [d.nm s2 (by decide)]
  show ((w1.at s).at 0).r.nm≠((w1.at s).at 1).r.nm;rw [h0,h1];exact L.nm
 ·by_cases n:j=s
  ·subst n;unfold i5;rw [jC0 j2];exact es
  ·unfold i5;rw [(d.oth s2 j2 n).1,(d.oth s2 j2 n).2,bd j n];exact L.br j j2
 ·by_cases n:j=s
  ·subst n;rw [jC0 j2];exact en hj
  ·rw [(d.oth s2 j2 n).1];exact L.dn j j2 (by rw [<- bd j n];exact hj)
end
def tkp:Dd->Nat
 | .take p=>p
 | _=>0
def MidD(k:Cs)(H G:Hp)(w:Wg)(s:Nat)(D:Dd)(v:V):Prop:=(v=.non/\eC H G/\¬ CanD w s D)\/(∃ l w1 c i,v=.ref l/\dN D<4/\Dn k H G (w.at s) w1 c i/\LT G (w.at s).r.nm l (kB (w.at s).z.b (w.at s).z.a c)/\Dx (w.at s) w1 c i D)\/∃ l w1 a p,v=.ref l/\¬ dN D<4/\Dn k H G (w.at a) w1 (w.at a).z.a p/\(D=.leave p\/D=.come p\/D=.mend p)/\Dr (w.at a) w1 p (dM D)
inductive jCN(k:Cs)(tP:Addr)(vs:List V)(H:Hp)(Q:VK)(E_:XK):Prop|mk (rl pl t:Addr) (b:Mb) (w:Wg) (pc:Nat->List Pc) (ex:List (Addr×List V)) (s:Nat) (D:Dd):vs=[.ref rl,.ref pl,.ref b.dm,.ref t]->Lw k tP H b w pc ex->(rl,[V.ref w.x,.ref w.x'])∈ex->(pl,l3 fun i=>.ref (w.ps i))∈ex->H t=some (.tup (pQ s D))->s<2->D.Ok->(∀ p,D=.take p->(w.at s).z'.ap≠some p)->w.fe<=290->(∀ H' b' w' hJ,Lw k tP H' b' w' hJ ex->Dq w w' b b' s D->(∀ a xs,H a=some (.tup xs)->H' a=some (.tup xs))->Q (.bl true) H')->jCN k tP vs H Q E_
section
variable {k:Cs}{tP:Addr}{H H' G:Hp}{w w1:Wg}{b b':Mb}{ex:List (Addr×List V)}{i j s c p a:Nat}{l:Addr}{ts us:List V}{pc:Nat->List Pc}{D:Dd}
theorem dq_refl(n:¬ CanD w s D):Dq w w b b s D:=by
 refine⟨fL _,⟨rfl,rfl,rfl,rfl⟩,fun _ _=>rfl,fun _ _ _ _=>rfl,fun _ h=>absurd h n,fun p hp=>⟨?_,fun _ _=>⟨rfl,rfl,rfl⟩⟩,.inl rfl⟩;have e:lN (dM D) (w.S p)=none:=by
  rcases hp with rfl|rfl|rfl
  ·exact iH fun z=>n z
  ·exact iH fun z=>n z
  ·exact iH fun z=>n z
 rw [e];rfl
theorem Lw.turn(L:Lw k tP H b w pc ex)(s2:s<2)(d:Dn k H G (w.at s) w1 (w.at s).z.a p)(r:Dr (w.at s) w1 p (dM D))(hd:¬ dN D<4)(hp:D=.leave p\/D=.come p\/D=.mend p):∃ hJ,Lw k tP G b (w1.at s) hJ ex/\∀ s',Dq w (w1.at s) b b s' D:=by
 obtain⟨hJ,tt,c1,v1,hl,_⟩:=L.ghost s2 d;have tt':∀ j,j<3->jF (hJ j)=jF (pc j):=fun j j3=>by
  rw [tt j j3];split
  ·rw [tJ];simp
  ·rfl
 have ap:∀ j,j<2->((w1.at s).at j).z.ap=(w.at j).z.ap/\((w1.at s).at j).z.b=(w.at j).z.b/\((w1.at s).at j).z.a=(w.at j).z.a:=fun j j2=>by
  by_cases n:j=s
  ·subst n;rw [jC0 j2];exact⟨r.ap,r.ba⟩
  ·rw [(d.oth s2 j2 n).1];exact⟨rfl,rfl,rfl⟩
 have B:=d.basic s2;refine⟨hJ,L.fin s2 d c1 v1 hl (d.W.at s) (L.M.dn L.B.at (L.Z.at s) d) (.inl rfl) (fun j j2=>by rw [(ap j j2).1]) tt' (L.gt.dn (L.Z.at s) d) ?_ (fun h=>?_),fun s'=>⟨mK B.1,⟨B.2.1,B.2.2.1,B.2.2.2.1,B.2.2.2.2.1⟩,B.2.2.2.2.2.2,fun h=>absurd h hd,fun h=>absurd h hd,fun p' qS=>⟨?_,ap⟩,.inl rfl⟩⟩
 ·have:=L.br s s2;unfold i5 at this;rw [r.r1,r.ba.1,r.ba.2];exact this
 ·rw [r.ap];exact L.dn s s2 h
 ·have ep:p'=p:=by
   rcases hp with rfl|rfl|rfl<;>rcases qS with e|e|e<;>first|cases e;rfl|cases e
  subst ep;obtain⟨s1,e1,e2⟩:=r.s;rw [jHl] at e1 e2;rw [B.2.2.2.2.2.1,e2,e1];exact if_pos rfl
theorem wh_fin(Z:Wo k H w)(dx:Dx w w1 c i D)(h4:dN D<4)(e:w1.r={ w.r with br:=w1.r.br })(d0:Bool)(hd:d0=true->w.z.ap=none)(hb:w.r.br=(d0 && !decide (w.z.b+(w.z.a-1)=w.r.tot)))(d1:Bool)(h1:d1=if dN D=3 then true else d0) :
 (if (decide (w1.z.b+(w1.z.a-1)=w1.r.tot)||d1)=true then V.non else if dN D=0 then .str (pn (tkp D)) else atS w.z.ap)=atS w1.z.ap/\w1.r.br=(d1 && !decide (w1.z.b+(w1.z.a-1)=w1.r.tot))/\(d1=true->w1.z.ap=none):=by
 have bT:=Z.ok.bT;have et:w1.r.tot=w.r.tot:=by rw [e];rfl
 rw [et];have nd:w.z.ap≠none->d0=false:=fun h=>by
  cases d0 with
  | true=>exact absurd (hd rfl) h
  | false=>rfl
 have here:∀ {f1:Nat},w1.r=w.r->w1.z=⟨qB w.r.tot w.z c,w.z.b,c,f1⟩->d1=d0->dN D≠0->w.z.ap≠none->(if (decide (w1.z.b+(w1.z.a-1)=w.r.tot)||d1)=true then V.non else if dN D=0 then .str (pn (tkp D)) else atS w.z.ap)=atS w1.z.ap/\w1.r.br=(d1 && !decide (w1.z.b+(w1.z.a-1)=w.r.tot))/\(d1=true->w1.z.ap=none):=fun {f1} r1 z1 ed n0 na=>by
  rw [ed,nd na,r1,z1,if_neg n0,hb,nd na];refine⟨?_,rfl,fun h=>nomatch h⟩;dsimp only;rw [Bool.or_false];unfold qB;by_cases q:w.z.b+c=w.r.tot+1
  ·rw [if_pos q,decide_eq_true (by omega),if_pos rfl];rfl
  ·rw [if_neg q,decide_eq_false (by omega),if_neg (by decide)]
 cases D with
 | step =>
   have h:Ds w w1 c i:=dx;exact here h.r1 h.z1 h1 (by decide) (by rw [h.ap];exact fun z=>nomatch z)
 | jam j =>
   have h:Dj w w1 c:=dx;exact here h.r1 h.z1 h1 (show 2≠0 by decide) h.ap
 | take p =>
   have h:Dt w w1 c p:=dx;have e0:d0=false:=by
    cases d0 with
    | false=>rfl
    | true =>
      have lv:=h.lv;rw [hb,Bool.true_and] at lv;have:=of_decide_eq_true (by simpa using lv.1);exact absurd (show w.z.b+w.z.a=w.r.tot+1 by omega) lv.2
   have e1:d1=false:=by rw [h1,e0];rfl
   rw [e1,h.r1,h.z1,Bool.or_false,h.lv.1];refine⟨?_,rfl,fun h=>nomatch h⟩;unfold pH;by_cases q:w.z.b+w.z.f=w.r.tot+1
   ·rw [if_pos q];dsimp only;rw [decide_eq_true (by omega),if_pos rfl];rfl
   ·rw [if_neg q];dsimp only;rw [decide_eq_false (by omega),if_neg (by decide)];rfl
 | drop =>
   have h:w1.z=⟨none,w.z.b,w.z.f,w.z.f⟩/\w1.r.br=!decide (w.z.b+(w.z.f-1)=w.r.tot):=dx;have e1:d1=true:=h1;rw [e1,h.2,h.1,Bool.or_true,if_pos rfl];exact⟨rfl,rfl,fun _=>rfl⟩
 | leave p=>exact absurd (show 4<4 from h4) (by decide)
 | come p=>exact absurd (show 5<4 from h4) (by decide)
 | mend p=>exact absurd (show 6<4 from h4) (by decide)
theorem jO3(hl:H l=some (.lst ts))(hs:σ[n]?=some (some (.ref l))):Tst (jIY (tOp (rDb K 0 true) (tY n) (tLst jGP))) σ H (decide (ts≠[])):=fun H1 s1 Q q=>by
 refine⟨_,hs,small (d5 _),fun u nu=>⟨l,u,ts,[],rfl,rfl,?_⟩⟩;have s2:=gM nu (.lst []);have h1:=s2 _ _ (s1 _ _ hl);by_cases c:ts=[]
 ·refine .inr ⟨.inl ⟨SqL.of h1,SqL.of d4⟩,by rw [c],fun _=>true,fun j hj=>absurd hj (by rw [c];exact gC _),false,by rw [c];rfl,?_⟩;rw [<- decide_eq_false (p:=ts≠[]) fun z=>z c];exact q _ s2
 ·refine .inl ⟨SqL.of h1,SqL.of d4,fun z=>c (List.eq_nil_of_length_eq_zero z),true,rfl,?_⟩;rw [<- decide_eq_true (p:=ts≠[]) c];exact q _ s2
theorem wK:∀ i:Nat,i<3->((i:Int).natAbs.log2<1920/\(c7 "p").length+(c7 (toString (i:Int))).length<=1000):=by decide +kernel
end
theorem jCO:gF ["_law_runs","_law_printers","_law_m","_law_deed","_law_tags","_law_r"] ["_law_runs","_law_printers","_law_m","_law_deed"] (fY jGr):=scM
include T in
theorem jMG(F:Fun K "_law_done" "_law_done" jGr fa fd)(Dby:DfE P w K mg base 9 "_law_called" ["_law_runs","_law_printers","_law_deed"] (jEn ⟨yK,yG,vZ,vX,cK,cG,cZ,cQ,yJ,yW,yU⟩))(Daa:MtE P w K mg base 3 "whole" yK ["self"] (jBx yK yG cZ cQ yJ yW yU)) :
 fJ P w K mg base CX0 10 fa fd ["_law_runs","_law_printers","_law_m","_law_deed"] (jCN ⟨yK,yG,vZ,vX,cK,cG,cZ,cQ,yJ,yW,yU⟩ dB):=by
 refine F.ok jCO fun fE A outer s H vs Q E hr h=>?_;obtain⟨rl,pl,t,b,g,pc,ex,s',D,rfl,L,rX,j4,ht,s2,dok,htk,f2,q⟩:=h;have hu:=uQ hr 0 (by decide);exists _,(d9 (psA (i:=4) jCO.nd nX) (d9 (ps_try top_nox (fun _ _ _ hP hO=>by exact (d7 (psA (i:=4) jCO.nd (jFo Dby hP (hr.mono (show 9<=9 by decide)) rfl (dJ (pv 0) (dJ (pv 1) (dJ (pv 3) dX))))))) (jPo rfl T.ax (fun _=>by exact (d7 (psA (i:=4) jCO.nd nX))) ph_nil)) (d9 (jC (PW.pt (vT (tcA jFl (pv 4) nX) (w6 (jNl jOg (ixA j1 (pv 3) eO) (lQ (dJ hX (dJ hX (dJ hX dX)))) rfl)))) (d7 (gY nQ)) jK) (d9 (psA (i:=5) jCO.nd (ixA j1 (pv 3) eO)) (d9 (jC (PW.pt (vT (qP (mU (rV jGS rfl T.aQ jI_ (dJ (pv 4) (dJ (jH5 rfl T.aP jNq (jJa _)) dX))) (fun _=>rfl))) (w6 (PW.pt (rA (tcA jFl (ixA lE (dgA hu (pv 2) hX) (pv 5)) nX) (sR (tcA (jLY (n:=0) hu) (pv 4) (lQ dX)))))))) (d7 (gY nQ)) jK) (d9 (jC (tcA (jLY (n:=0) hu) (pv 4) (lQ dX)) (d7 (kE (vR eD slot_list_extend iV jFO (dgA hu (dgA hu (pv 2) hX) (ixA lE (dgA hu (pv 2) hX) (pv 5))) (dJ (pv 4) dX)))) jK) (d9 (jC (tcA nC (ixA j1 (pv 3) eO) hX) (d7 (jHx (iO jCR hX (uC jCF rfl T.aE jHE (dJ (ixA j1 (pv 3) eO) dX))) (jLD (dgA hu (pv 2) hX) (pv 5) jIH))) jK) (d9 (jC (tcA nC (ixA j1 (pv 3) eO) hX) (d7 (jHx nQ (jLD (dgA hu (pv 2) hX) (pv 5) jIH))) jK) (d9 (jC (PW.pt (vT (mU (jR 3 nR hr.m (ixA lE (pv 0) (pv 5))) (fun _=>rfl)) (w6 (mU (ixA lE (dgA hu (pv 2) hX) (pv 5)) (fun _=>rfl))))) (d7 (jHx nX (jLD (dgA hu (pv 2) hX) (pv 5) jIH))) jK) (d7 (gY nQ)))))))))))
 have i0:(0:Int)<=(s':Int):=by omega
 have i2:(s':Int)<2:=by omega
 refine kY (fun σ G=>G=H/\σ=[some (.ref rl),some (.ref pl),some (.ref b.dm),some (.ref t),some .non,none]) (fun R hR=>hR _ _ ⟨rfl,rfl⟩) ?_;rintro σ G ⟨rfl,rfl⟩;refine kY (fun σ G'=>∃ v,σ=[some (.ref rl),some (.ref pl),some (.ref b.dm),some (.ref t),some v,none]/\MidD ⟨yK,yG,vZ,vX,cK,cG,cZ,cQ,yJ,yW,yU⟩ G G' g s' D v) (fun R hR=>?_) ?_
 ·refine⟨_,rfl,_,rfl,_,rfl,rl,pl,t,g,s',D,rfl,(L.M.ex _ rX).1,(L.M.ex _ j4).1,ht,s2,dok,htk,L.Z,by omega,fun C f y ea H' hC sm xg nc=>?_,⟨fun h4 l H' w1 c i d lt dx=>hR _ _ ⟨_,rfl,.inr (.inl ⟨l,w1,c,i,rfl,h4,d,lt,dx⟩)⟩,fun h4 l H' w1 a p d hp r _=>hR _ _ ⟨_,rfl,.inr (.inr ⟨l,w1,a,p,rfl,h4,d,hp,r⟩)⟩⟩⟩;have hm:PySem.W.excMk K C=true/\PySem.W.mroHas K C (.ref vV)=true:=by
   rcases hC with rfl|rfl|rfl|rfl
   ·exact⟨T.aD.m,T.bX⟩
   ·exact⟨T.aN.m,T.bY⟩
   ·exact⟨T.aj.m,T.bZ⟩
   ·exact⟨T.aC.m,T.cb⟩
  exact⟨C,ea,rfl,rfl,hm.1,T.bW,true,hm.2,kM (hR _ _ ⟨_,rfl,.inl ⟨rfl,sm,nc⟩⟩)⟩
 rintro σ G' ⟨v,rfl,mid⟩;have kt:∀ {v:V} {G':Hp},MidD ⟨yK,yG,vZ,vX,cK,cG,cZ,cQ,yJ,yW,yU⟩ G G' g s' D v->∀ a xs,G a=some (.tup xs)->G' a=some (.tup xs):=fun mid a xs e=>by
  rcases mid with⟨_,sm,_⟩|⟨l,w1,c,i,_,_,d,_⟩|⟨l,w1,a',p,_,_,d,_⟩
  ·exact sm _ _ e
  ·exact jFL (L.Z.at s').R.o ((L.Z.at s').W i d.i3).P d.kp _ _ e
  ·exact jFL (L.Z.at a').R.o ((L.Z.at a').W p d.i3).P d.kp _ _ e
 have rW:=kt mid _ _ ht
 -- nothing iL, or a printer's deed
 refine Tst.seq (b:=decide (v=.non) || !decide (dN D<4)) (Tst.or (fun H1 s1 Q q=>⟨_,rfl,rfl,_,rfl,q _ (eC.refl _)⟩) fun _=>fun H1 s1 Q q=>?_) (fun e G1 s1=>?_) (fun e G1 s1=>?_)
 ·refine⟨_,rfl,t,_,_,_,rfl,rfl,SqT.of (s1 _ _ rW),kL (j:=0) (dd0 s' D),wq3,fun u nu=>⟨u,_,rfl,.inl (SqL.of d4),rfl,rfl,_,congrArg V.bl (in_turn D),q _ (gM nu _)⟩⟩
 ·show Q (.bl true) G1;rcases mid with⟨rfl,sm,nc⟩|⟨l,w1,c,i,rfl,h4,d,lt,dx⟩|⟨l,w1,a,p,rfl,h4,d,hp,r⟩
  ·exact q G1 b g pc (L.same (sm.trans s1)) (dq_refl nc) fun a xs e=>s1 _ _ (sm _ _ e)
  ·rw [decide_eq_true h4] at e;cases e
  ·have a2:∃ a',a'<2/\g.at a=g.at a':=by
    by_cases z:a=0
    ·exact⟨0,by decide,by rw [z]⟩
    ·exact⟨1,by decide,by unfold Wg.at;rw [if_neg z,if_neg (by decide)]⟩
   obtain⟨a',h2,ea⟩:=a2;rw [ea] at d r;obtain⟨hJ,L1,dq⟩:=L.turn h2 d r h4 hp;exact q G1 b _ hJ (L1.same s1) (dq s') fun a xs e=>s1 _ _ (kt (.inr (.inr ⟨l,w1,a',p,rfl,h4,d,hp,r⟩)) _ _ e)
 rcases mid with⟨rfl,sm,nc⟩|⟨l,w1,c,i,rfl,h4,d,lt,dx⟩|⟨l,w1,a,p,rfl,h4,d,hp,r⟩
 ·cases e
 rotate_left
 ·rw [decide_eq_false h4] at e;cases e
 clear e;have uL:∀ a xs,G a=some (.tup xs)->G1 a=some (.tup xs):=fun a xs e=>s1 _ _ (kt (.inr (.inl ⟨l,w1,c,i,rfl,h4,d,lt,dx⟩)) _ _ e);replace d:=d.same s1;replace lt:=lt.same s1;replace rW:=s1 _ _ rW;clear kt;have M1:=L.M.dn L.B.at (L.Z.at s') d;have B1:Bo (w1.at s') b ex:=(Bo.dn L.B.at L.M d).at
 obtain⟨hJ,tt,c1,v1,hl,kK⟩:=L.ghost s2 d;have Zw:=d.W.at s';have gt1:=L.gt.dn (L.Z.at s') d;dsimp only [jE1];refine kY (fun σ G'=>G'=G1/\σ=[some (.ref rl),some (.ref pl),some (.ref b.dm),some (.ref t),some (.ref l),some (.int (s':Int))]) (fun R hR=>⟨_,rfl,t,_,_,_,rfl,rfl,SqT.of rW,kL (j:=1) (dd1 s' D),hR _ _ ⟨rfl,rfl⟩⟩) ?_;rintro σ G2 ⟨rfl,rfl⟩;obtain⟨ts,kP,tg⟩:=lt;have lts:=tg.1;rw [jCY] at lts
 -- a list, and of a run at a printer, or without things
 refine Tst.seq (b:=false) (Tst.or (b:=false) (c:=false) (fun H1 s3 Q q=>⟨_,rfl,_,_,_,true,rfl,rS.lst (s3 _ _ kP),jIJ _,true,rfl,q _ (eC.refl _)⟩) fun _=>?_) (fun e=>nomatch e) (fun _ G3 s3=>?_)
 ·have:=Tst.and (b:=decide (atS (g.at s').z.ap=.non)) (c:=decide (ts≠[])) (t:=jIY (tOp (fun x y H Q=>y=.non/\Q (.bl (decide (x=.non))) H) (tOp (wY K) (jLv (tY 2) (tC (.str (c7 "where")))) (tY 5)) (tC .non))) (σ:=[some (.ref rl),some (.ref pl),some (.ref b.dm),some (.ref t),some (.ref l),some (.int (s':Int))]) (H:=G2) (fun H1 s3 Q q=>⟨_,rfl,b.dm,_,rfl,gW (M1.kg (Kg.of s3)),_,rfl,b.wl,_,_,rfl,rfl,SqL.of (s3 _ _ M1.wh),i0,i2,fun v hv=>⟨rfl,_,rfl,by rw [vS s2 hv];exact q _ (eC.refl _)⟩⟩) (fun _=>jO3 (K:=K) (n:=4) kP rfl)
  rw [show (decide (atS (g.at s').z.ap=.non)&&decide (ts≠[]))=false by
   cases ea:(g.at s').z.ap with
   | some i=>rfl
   | none =>
     have:=d.zt.n ea
     rw [decide_eq_false (p:=ts≠[]) fun z=>z (List.eq_nil_of_length_eq_zero (by omega)),Bool.and_false]] at this
  exact this
 replace M1:=M1.kg (Kg.of s3);replace Zw:=Zw.same s3;replace gt1:=gt1.same s3;replace kP:=s3 _ _ kP;replace tg:=tg.same s3;replace rW:=s3 _ _ rW;replace uL:∀ a xs,G a=some (.tup xs)->G3 a=some (.tup xs):=fun a xs e=>s3 _ _ (uL a xs e);dsimp only [jE1]
 -- the things are laid on the heap
 refine kY (fun σ G'=>Bm G' b (jHn g) (fun j=>atS (g.at j).z.ap) (fun j=>jF (hJ j)) ex/\Wo ⟨yK,yG,vZ,vX,cK,cG,cZ,cQ,yJ,yW,yU⟩ G' (w1.at s')/\mG G' dB/\(∀ a xs,G3 a=some (.tup xs)->G' a=some (.tup xs))/\σ=[some (.ref rl),some (.ref pl),some (.ref b.dm),some (.ref t),some (.ref l),some (.int (s':Int))]) (fun R hR=>?_) ?_
 ·refine jO3 (K:=K) (n:=4) kP rfl G3 (eC.refl _) _ fun G4 s4=>oK (fun cc=>?_) (fun cc=>?_)
  ·have c':=of_decide_eq_true cc;cases ea:(g.at s').z.ap with
   | none =>
     have:=d.zt.n ea;exact absurd (List.eq_nil_of_length_eq_zero (by omega)) c'
   | some j0 =>
   have i3:=((L.Z.at s').ok.at3 j0 ea).1;have M4:=M1.kg (Kg.of s4);rw [jCY] at kK;obtain⟨xs,hx,lx,M5⟩:=M4.heap i3 (s4 _ _ kP) (tg.same s4) (by rw [jCY];omega)
   have z9:xs.length+ts.length<=c9:=small (by
    have:j0=0\/j0=1\/j0=2:=by omega
    rcases this with rfl|rfl|rfl<;>omega)
   have Bh:=B1.o _ (jJT (b:=b) i3);refine⟨_,rfl,b.dm,_,rfl,gH M4,_,rfl,b.dm,_,rfl,gW M4,_,rfl,b.wl,_,_,rfl,rfl,SqL.of M4.wh,i0,i2,fun v hv=>?_⟩;have hv':=vS s2 hv;rw [ea] at hv';subst hv';refine⟨b.hd,_,rfl,gP M4 i3,.inl ⟨rfl,_,SqL.of hx⟩,_,rfl,b.h j0,l,xs,ts,rfl,rfl,hx,s4 _ _ kP,z9,hR _ _ ⟨M5.cg (fun _ _=>rfl) (fun j j3=>?_),(Zw.same s4).upl hx Bh,mG.upl (gt1.same s4) hx,fun a xs e=>jHo hx _ _ (s4 _ _ e),rfl⟩⟩;rw [tt j j3,ea];by_cases n:j=j0
   ·subst n;rw [if_pos rfl,if_pos rfl]
   ·rw [if_neg n,if_neg fun e=>n (Option.some.inj e).symm]
  ·have e0:ts=[]:=iH fun z=>cc (decide_eq_true z);refine hR _ _ ⟨(M1.kg (Kg.of s4)).cg (fun _ _=>rfl) (fun j j3=>?_),Zw.same s4,gt1.same s4,fun a xs e=>s4 _ _ e,rfl⟩;rw [tt j j3];split
   ·have:(kB (g.at s').z.b (g.at s').z.a c)=[]:=List.eq_nil_of_length_eq_zero (by rw [jCY,<- lts,e0];rfl);rw [this];simp
   ·rfl
 rintro σ G4 ⟨M4,Z4,gt4,kt4,rfl⟩;replace uL:∀ a xs,G a=some (.tup xs)->G4 a=some (.tup xs):=fun a xs e=>kt4 _ _ (uL a xs e);replace rW:=kt4 _ _ rW;clear M1 Zw gt1 kt4 kP tg;have bw:=B1.o b.wl (by unfold Mb.own;simp);have bd:=B1.o b.dl (by unfold Mb.own;simp)
 -- taken
 obtain⟨wv1,ew1⟩:∃ wv1:Nat->V,wv1=if dN D=0 then (fun j=>if j=s' then .str (pn (tkp D)) else atS (g.at j).z.ap) else fun j=>atS (g.at j).z.ap:=⟨_,rfl⟩
 refine kY (fun σ G'=>Bm G' b (jHn g) wv1 (fun j=>jF (hJ j)) ex/\Wo ⟨yK,yG,vZ,vX,cK,cG,cZ,cQ,yJ,yW,yU⟩ G' (w1.at s')/\mG G' dB/\(∀ a xs,G4 a=some (.tup xs)->G' a=some (.tup xs))/\σ=[some (.ref rl),some (.ref pl),some (.ref b.dm),some (.ref t),some (.ref l),some (.int (s':Int))]) (fun R hR=>vU (C:=jE1) (DD:={ nx:=R,rt:=Q }) 0 (by decide) rW rfl (fun e=>?_) (fun n0=>hR _ _ ⟨by rw [ew1,if_neg n0];exact M4,Z4,gt4,fun _ _ e=>e,rfl⟩)) ?_
 ·cases D with
  | take p =>
    have p3:p<3:=dok;obtain⟨q1,q2⟩:=wK p p3;exists _,rfl,t,_,_,_,rfl,rfl,SqT.of rW,kL (j:=2) rfl,_,rfl,q1,_,_,rfl,rfl,small q2,_,rfl,b.dm,_,rfl,gW M4,_,rfl,b.wl,_,_,s',rfl,rfl,M4.wh,ix2 s2;rw [jMF s2];exact hR _ _ ⟨by rw [ew1,if_pos (show dN (Dd.take p)=0 from rfl)];exact M4.wher,Z4.upl M4.wh bw,mG.upl gt4 M4.wh,jHo M4.wh,rfl⟩
  | _=>cases e
 rintro σ G5 ⟨M5,Z5,gt5,kt5,rfl⟩;replace uL:∀ a xs,G a=some (.tup xs)->G5 a=some (.tup xs):=fun a xs e=>kt5 _ _ (uL a xs e);replace rW:=kt5 _ _ rW;clear M4 Z4 gt4 kt5
 -- dropped
 obtain⟨b1,eb1⟩:∃ b1:Mb,b1=if dN D=3 then b.dro s' else b:=⟨_,rfl⟩
 refine kY (fun σ G'=>Bm G' b1 (jHn g) wv1 (fun j=>jF (hJ j)) ex/\Wo ⟨yK,yG,vZ,vX,cK,cG,cZ,cQ,yJ,yW,yU⟩ G' (w1.at s')/\mG G' dB/\(∀ a xs,G5 a=some (.tup xs)->G' a=some (.tup xs))/\σ=[some (.ref rl),some (.ref pl),some (.ref b.dm),some (.ref t),some (.ref l),some (.int (s':Int))]) (fun R hR=>vU (C:=jE1) (DD:={ nx:=R,rt:=Q }) 3 (by decide) rW rfl (fun e=>?_) (fun n0=>hR _ _ ⟨by rw [eb1,if_neg n0];exact M5,Z5,gt5,fun _ _ e=>e,rfl⟩)) ?_
 ·exists _,rfl,b.dm,_,rfl,gD M5,_,rfl,b.dl,_,_,s',rfl,rfl,M5.dr,ix2 s2;rw [jMF s2];exact hR _ _ ⟨by rw [eb1,if_pos e];exact M5.dropd,Z5.upl M5.dr bd,mG.upl gt5 M5.dr,jHo M5.dr,rfl⟩
 rintro σ G6 ⟨M6,Z6,gt6,kt6,rfl⟩;replace uL:∀ a xs,G a=some (.tup xs)->G6 a=some (.tup xs):=fun a xs e=>kt6 _ _ (uL a xs e);clear M5 Z5 gt5 kt6;have edm:b1.dm=b.dm:=by rw [eb1];split<;>rfl
 have ewl:b1.wl=b.wl:=by rw [eb1];split<;>rfl
 have ed1:b1.d s'=if dN D=3 then true else b.d s':=by
  rw [eb1];split
  ·exact if_pos rfl
  ·rfl
 have hbr:=L.br s' s2;unfold i5 at hbr;obtain⟨f1,f3,f4⟩:=wh_fin (L.Z.at s') dx h4 d.er (b.d s') (L.dn s' s2) hbr (b1.d s') ed1;have fin:∀ {G':Hp} {wv2:Nat->V},Bm G' b1 (jHn g) wv2 (fun j=>jF (hJ j)) ex->Wo ⟨yK,yG,vZ,vX,cK,cG,cZ,cQ,yJ,yW,yU⟩ G' (w1.at s')->mG G' dB->(∀ a xs,G6 a=some (.tup xs)->G' a=some (.tup xs))->wv2 s'=atS w1.z.ap->(∀ j,j≠s'->wv2 j=wv1 j)->Q (.bl true) G':=fun {G' wv2} M7 Z7 gt7 kt7 e1 e2=>by
  have B:=d.basic s2;refine q G' b1 _ hJ (L.fin s2 d c1 v1 hl Z7 M7 (by rw [eb1];split;exact .inr rfl;exact .inl rfl) (fun j j2=>?_) (fun _ _=>rfl) gt7 f3 f4) ⟨mK B.1,⟨B.2.1,B.2.2.1,B.2.2.2.1,B.2.2.2.2.1⟩,B.2.2.2.2.2.2,fun _ j j2 n=>(d.oth s2 j2 n).1,fun _ _=>⟨c,i,by rw [jC0 s2];exact dx⟩,fun p hp=>?_,?_⟩ fun a xs e=>kt7 _ _ (uL a xs e)
  ·by_cases n:j=s'
   ·subst n;rw [jC0 j2,e1]
   ·rw [(d.oth s2 j2 n).1,e2 j n,ew1];split
    ·exact (if_neg n).symm
    ·rfl
  ·rcases hp with rfl|rfl|rfl
   ·exact absurd (show 4<4 from h4) (by decide)
   ·exact absurd (show 5<4 from h4) (by decide)
   ·exact absurd (show 6<4 from h4) (by decide)
  ·rw [eb1];split
   ·next e =>
    refine .inr ⟨?_,rfl⟩;cases D<;>first|rfl|cases e
   ·exact .inl rfl
 have R6:=Z6.at s';rw [jC0 s2] at R6;have e1s:wv1 s'=if dN D=0 then .str (pn (tkp D)) else atS (g.at s').z.ap:=by
  rw [ew1];split
  ·exact if_pos rfl
  ·rfl
 -- nA or dropped: nowhere
 refine Tst.seq (b:=decide (w1.z.b+(w1.z.a-1)=w1.r.tot)||b1.d s') (Tst.or (fun H1 s7 Q q=>?_) fun _=>fun H1 s7 Q q=>?_) (fun e G7 s7=>?_) (fun e G7 s7=>?_)
 ·refine⟨_,rfl,_,rfl,rl,_,_,rfl,rfl,SqL.of (s7 _ _ (M6.ex _ rX).1),i0,i2,fun v hv=>?_⟩;obtain rfl:=jDX s2 hv;have ex1:(g.at s').x=w1.x:=by rw [d.e]
  rw [ex1];exact⟨_,_,_,_,_,_,rfl,(R6.R.same s7).o,rfl,T.aa,Daa,_,_,rfl,R6.R.same s7,_,rfl,q _ (eC.refl _)⟩
 ·refine⟨_,rfl,b.dm,_,rfl,?_,_,rfl,b1.dl,_,_,rfl,rfl,SqL.of (s7 _ _ M6.dr),i0,i2,fun v hv=>?_⟩
  ·rw [<- edm];exact gD (M6.kg (Kg.of s7))
  ·obtain rfl:=vS s2 hv;exact⟨_,rfl,q _ (eC.refl _)⟩
 ·have M7:=M6.kg (Kg.of s7);refine⟨_,rfl,b.dm,_,rfl,by rw [<- edm];exact gW M7,_,rfl,b1.wl,_,_,s',rfl,rfl,M7.wh,ix2 s2,?_⟩;rw [jMF s2];refine fin M7.wher ((Z6.same s7).upl M7.wh (by rw [ewl];exact bw)) (mG.upl (gt6.same s7) M7.wh) (fun a xs e=>jHo M7.wh _ _ (s7 _ _ e)) ?_ (fun j n=>if_neg n);rw [if_pos rfl,<- f1,if_pos e]
 ·refine fin (M6.kg (Kg.of s7)) (Z6.same s7) (gt6.same s7) (fun a xs e=>s7 _ _ e) ?_ (fun _ _=>rfl);rw [<- f1];exact e1s.trans (if_neg (by rw [e];decide)).symm
end
end My
namespace L2
open PySem PySem.Calls PyProof.Rows PyProof.V PySem.Spec PySem.W
theorem jMH:∀ {ss:List Int} {us:List Value},gX (ss.map V.int) us->IntsAre us ss
 | [],_,h=>by cases h;exact .nil
 | s::ss,_,h=>by
   cases h with
   | cons a b =>
     obtain⟨t,rfl⟩:=a;exact .cons s t (jMH b)
theorem jMI:∀ {us:List Value} {ss:List Int},IntsAre us ss->gX (ss.map V.int) us
 | _,_,.nil=>.nil
 | _,_,.cons y t h=>.cons ⟨t,rfl⟩ (jMI h)
inductive jMJ(K:PySem.W.Frag)(xs:List V)(H:Hp)(Q:VK):Prop|mk p ss:xs=[.ref p]->SqL K H p (ss.map V.int)->ss.length<64->(∀ l sV,H l=none->List.Perm sV ss->sV.Pairwise (·<=·)->Q (.ref l) (upd H l (.lst (sV.map V.int))))->jMJ K xs H Q
theorem jLq:CallR X (.builtin "sorted") (jMJ X.K):=by
 unfold CallR;intro b9 s σ H xs us Q I r h;obtain⟨p,ss,rfl,hq,h64,q⟩:=h;obtain⟨u,rfl,rx⟩:=uU r;cases rx;obtain⟨its,rv,pl,hz⟩:=I.list hq;have hl:=rv.length;rw [c6] at hl;refine sorted_ints pl.isList (jMH rv) (by omega) fun out sV a1 a2 a3=>?_;obtain⟨c,he⟩:=sortedAll_at s.heap its out;have rv':=jMI a1;refine⟨.ref (s.heap.objs.size+1),_,I.laid (t':=s.toks) (fun b o e=>sortedAll_old e) (fL _) (show lO X.prog X.w _ _ _ (.lst (sV.map V.int)) from ⟨by rw [c6,a2.length_eq];have:=jEx;exact oN (by omega) |> iG,out.toList,c,rv',he⟩),rfl,q _ sV (I.hok.fresh (fL _)) a2 a3⟩
end L2
namespace My
open PySem L2
open Blk (sg sg_inj sg_app)
section
variable {P:Program}{w:World}{K:PySem.W.Frag}{mg:Str->Option Value}{base:Heap}{fa yQ yZ yX yY yV yJ yW yU yK yG cQ cZ cV cK cG vQ vZ vX vY vV dB:Addr}{fd:FuncData}(T:Txt K mg yQ yZ yX yY yV yJ yW yU yK yG cQ cZ cV cK cG vQ vZ vX vY vV dB)
inductive jFM(k:Cs)(tP:Addr)(vs:List V)(H:Hp)(Q:VK)(E_:XK):Prop|mk (b:Mb) (w:Wg) (pc:Nat->List Pc) (ex:List (Addr×List V)) (s:Nat):vs=[.ref (w.at s).x,.ref b.dm,.int (s:Int),.int ((i5 w s:Nat):Int)]->s<2->Lw k tP H b w pc ex->(∀ H',eC H H'->Q (.bl true) H')->jFM k tP vs H Q E_
theorem jCP:gF ["_law_run_here","_law_m","_law_r","_law_out","_law_name","_law_each_here","_law_total","_law_told"] ["_law_run_here","_law_m","_law_r","_law_out"] (fY jGs):=scM
include T in
theorem jMK(F:Fun K "_law_lack" "_law_lack" jGs fa fd)(Dak:Dfn P w K mg base 1 "_law_is" ["_law_num","_law_due"] (jFd K))(Dbz:MtE P w K mg base 2 "lack" yK ["self"] (jHg yK yG cZ cQ yJ yW yU)) :
 fJ P w K mg base CX0 3 fa fd ["_law_run_here","_law_m","_law_r","_law_out"] (jFM ⟨yK,yG,vZ,vX,cK,cG,cZ,cQ,yJ,yW,yU⟩ dB):=by
 refine F.ok jCP fun fE A outer s H vs Q E hr h=>?_;obtain⟨b,g,pc,ex,s',rfl,s2,L,q⟩:=h;have hu:=uQ hr 0 (by decide);exists _,(d9 (jHx (ixA lE (dgA hu (pv 1) hX) (pv 2)) (jC4 rfl (pE (pgA (i:=4) jCP.nd) (pE (pgA (i:=5) jCP.nd) (pE (pgA (i:=6) jCP.nd) jCv))))) (d9 (psA (i:=7) jCP.nd (jR 2 nR hr.m (pv 0))) (d9 (jC (PW.pt (vT (qP (mU (ixA lE (dgA hu (pv 1) hX) (pv 2)) (fun _=>rfl))) (w6 (tcA nC (pv 3) (pv 6))))) (d7 (gY (ecA jFl (pv 7) nX))) jK) (d9 (jC (PW.pt (vT (qP (mU (rV jGS rfl T.aQ jI_ (dJ (pv 7) (dJ (jH5 rfl T.bB jLR (jJa _)) dX))) (fun _=>rfl))) (w6 (tcA jEr (rV jBr rfl T.ao iT (dJ (pv 7) dX)) eO)))) (d7 (gY nQ)) jK) (d7 (gY (jIX (lX Dak hr.m rfl (dJ (ixA j1 (pv 7) eO) (dJ (iO oE (iO jGx (pv 3) (pv 5)) eO) dX))) (jLC (lX Dak hr.m rfl (dJ (ixA j1 (pv 7) eO) (dJ (iO oE (iO t8 (pv 3) (pv 5)) eO) dX)))))))))))
 have i0:(0:Int)<=(s':Int):=by omega
 have i2:(s':Int)<2:=by omega
 have M:=L.M;obtain⟨tj,hj,htj⟩:=M.j;have Z:=L.Z.at s';have R:=Z.R;have hbr:=L.br s' s2;refine⟨_,rfl,b.dm,_,rfl,gJ M,_,rfl,b.jl,_,_,rfl,rfl,SqL.of hj,i0,i2,fun v hv=>?_⟩;obtain rfl:=vS s2 hv;exists tj s',_,rfl,SqT.of (htj s' s2),rfl,_,_,rfl,_,_,rfl,_,_,rfl,rfl;dsimp only [wZ];refine kY (fun σ G=>eC H G/\∃ v,σ=[some (.ref (g.at s').x),some (.ref b.dm),some (.int (s':Int)),some (.int ((i5 g s':Nat):Int)),some (.str (g.at s').r.nm),some (.int (((g.at s').r.inks.length:Nat):Int)),some (.int (((g.at s').r.tot:Nat):Int)),some v]/\((b.d s'=false\/i5 g s'=(g.at s').r.tot)/\v=.non\/b.d s'=true/\i5 g s'≠(g.at s').r.tot/\∃ t,v=.ref t/\G t=some (.tup [.int ((i5 g s':Int)/((g.at s').r.inks.length:Int)+1),.int ((i5 g s':Int)%((g.at s').r.inks.length:Int)+1)]))) (fun R' hR=>?_) ?_
 ·refine⟨_,rfl,_,_,_,_,_,_,rfl,R.o,rfl,T.aa,Dbz,_,_,rfl,R,fun hb=>?_,fun hb t H' sm ht=>?_⟩
  ·have vA:(g.at s').r.br=false:=hb;rw [hbr] at vA;refine hR _ _ ⟨eC.refl _,_,rfl,.inl ⟨?_,rfl⟩⟩;cases e:b.d s' with
   | false=>exact .inl rfl
   | true =>
     rw [e,Bool.true_and] at vA;exact .inr (of_decide_eq_true (by simpa using vA))
  ·have vA:(g.at s').r.br=true:=hb;rw [hbr,fA] at vA;exact hR _ _ ⟨sm,_,rfl,.inr ⟨vA.1,of_decide_eq_false (by simpa using vA.2),t,rfl,ht⟩⟩
 rintro σ G ⟨sm,v,rfl,hv⟩;have M1:=M.kg (Kg.of sm);refine Tst.seq (b:=!b.d s'||decide (i5 g s'=(g.at s').r.tot)) (Tst.or (Tst.not fun H1 s1 Q q=>⟨_,rfl,b.dm,_,rfl,gD (M1.kg (Kg.of s1)),_,rfl,b.dl,_,_,rfl,rfl,SqL.of (s1 _ _ M1.dr),i0,i2,fun v hv=>by obtain rfl:=vS s2 hv;exact⟨_,rfl,q _ (eC.refl _)⟩⟩) fun _=>fun H1 s1 Q q=>⟨_,rfl,_,rfl,rfl,_,rfl,?_⟩) (fun e G1 s1=>?_) (fun e G1 s1=>?_)
 ·rw [show decide (V.int ((i5 g s':Nat):Int)=V.int (((g.at s').r.tot:Nat):Int))=decide (i5 g s'=(g.at s').r.tot) by
   by_cases c:i5 g s'=(g.at s').r.tot
   ·rw [c,decide_eq_true rfl,decide_eq_true rfl]
   ·rw [decide_eq_false c,decide_eq_false fun z=>c (by injection z with z;omega)]]
  exact q _ (eC.refl _)
 ·rcases hv with⟨_,rfl⟩|⟨h1,h2,_⟩
  ·exact⟨_,rfl,rfl,q _ (sm.trans s1)⟩
  ·rw [h1,decide_eq_false h2] at e;cases e
 rcases hv with⟨h1,_⟩|⟨h1,h2,t,rfl,ht⟩
 ·rcases h1 with h1|h1
  ·rw [h1] at e;cases e
  ·rw [decide_eq_true h1,Bool.or_true] at e;cases e
 have ht1:=s1 _ _ ht;dsimp only [jE1];refine Tst.seq (b:=false) (Tst.or (b:=false) (c:=false) (fun H1 s3 Q q=>⟨_,rfl,_,_,_,true,rfl,rS.tup (s3 _ _ ht1),jIJ _,true,rfl,q _ (eC.refl _)⟩) fun _=>fun H1 s3 Q q=>⟨_,rfl,t,_,rfl,.inr (SqT.of (s3 _ _ ht1)),rfl,false,rfl,q _ (eC.refl _)⟩) (fun e=>nomatch e) (fun _ G3 s3=>?_);have ht3:=s3 _ _ ht1;have e9:=R.i2;have e1:=R.i1;have i1:1<=(g.at s').r.inks.length:=e1;have i9:(g.at s').r.inks.length<=999:=e9;exact⟨_,rfl,t,_,_,_,rfl,rfl,SqT.of ht3,kL (j:=0) rfl,_,rfl,_,rfl,_,_,rfl,rfl,⟨by omega,by omega⟩,_,_,rfl,rfl,_,rfl,true,rfl,kM ⟨_,rfl,t,_,_,_,rfl,rfl,SqT.of ht3,kL (j:=1) rfl,_,rfl,_,rfl,_,_,rfl,rfl,by show (0:Int)<_;omega,_,_,rfl,rfl,_,rfl,q _ (sm.trans (s1.trans s3))⟩⟩
def tgO(H:Hp):V->Option Tag
 | .ref t=>match H t with
   | some (.tup [.str a,.int n])=>some (a,n)
   | _=>none
 | _=>none
theorem jML(h:H t=some (.tup [.str a,.int n])):tgO H (.ref t)=some (a,n):=by
 show (match H t with
  | some (.tup [.str a,.int n])=>some (a,n)
  | _=>none)=_
 rw [h]
def tgP(H:Hp)(nm:Str)(v:V):Bool:=match tgO H v with
 | some g=>decide (g.1=nm)&&decide (0<=g.2)
 | none=>false
def tgV(H:Hp)(v:V):V:=match tgO H v with
 | some g=>.int g.2
 | none=>.non
theorem jNA{H:Hp}{nm:Str}:∀ {hs:List (Addr×Tag)},(∀ r∈hs,H r.1=some (.tup [.str r.2.1,.int r.2.2]))->((hs.map fun r=>V.ref r.1).filter (tgP H nm)).map (tgV H)=(((hs.map (·.2)).filter fun g=>decide (g.1=nm)&&decide (0<=g.2)).map (·.2)).map V.int
 | [],_=>rfl
 | r::hs,h=>by
   have ih:=jNA (nm:=nm) (hs:=hs) fun x hx=>h x (.tail _ hx);have e:=jML (h r (.head _));have e1:tgP H nm (.ref r.1)=(decide (r.2.1=nm)&&decide (0<=r.2.2)):=by unfold tgP;rw [e]
   have e2:tgV H (.ref r.1)=.int r.2.2:=by unfold tgV;rw [e]
   rw [dQ,dQ,kH,kH,e1];split
   ·rw [dQ,dQ,dQ,ih,e2]
   ·exact ih
theorem jK7(nm:Str):∀ P:List Pc,(∀ p∈P,∃ b n,p.2=nE b n)->((jF P).filter fun g=>decide (g.1=nm)&&decide (0<=g.2)).map (·.2)=m8 nm P
 | [],_=>rfl
 | p::P,h=>by
   have ih:=jK7 nm P fun x hx=>h x (.tail _ hx);obtain⟨b,n,e⟩:=h p (.head _);have e1:(((jF8 p).filter fun g=>decide (g.1=nm)&&decide (0<=g.2)).map (·.2))=m8 nm [p]:=by
    unfold jF8;rw [fO (by simp)];by_cases c:p.1=nm
    ·rw [show m8 nm [p]=p.2 by rw [show p=(nm,p.2) by rw [<- c]];exact jIl nm p.2,List.filter_eq_self.mpr,iF]
     ·exact zI _
     ·intro g hg;obtain⟨m,hm,rfl⟩:=eI.mp hg;rw [e] at hm;have:=(jFj.mp hm).1;simp only [fA,decide_eq_true_eq];exact⟨c,by omega⟩
    ·rw [show m8 nm [p]=[] by rw [show p=(p.1,p.2) from rfl];exact jJS c p.2,List.filter_eq_nil_iff.mpr]
     ·rfl
     ·intro g hg;obtain⟨m,hm,rfl⟩:=eI.mp hg;simp [c]
   show ((jF8 p++jF P).filter _).map (·.2)=m8 nm ([p]++P);rw [jH,dU,jEo,e1,ih]
def c3(f:Nat->List Int):Nat->List Int
 | 0=>[]
 | 1=>f 0
 | 2=>f 0++f 1
 | _=>jGv f
theorem c3_succ(f:Nat->List Int)(h:j<3):c3 f (j+1)=c3 f j++f j:=by
 have:j=0\/j=1\/j=2:=by omega
 rcases this with rfl|rfl|rfl
 ·rfl
 ·rfl
 ·exact (append_assoc _ _ _).symm
theorem c3_len(f:Nat->List Int)(h:j<3):(c3 f j).length+(f j).length<=(jGv f).length:=by
 have:j=0\/j=1\/j=2:=by omega
 unfold jGv;rcases this with rfl|rfl|rfl<;>simp [c3]<;>omega
theorem sort_pn:PyProof.Rows.sortedS [pn 0,pn 1,pn 2]=true:=by decide +kernel
theorem keys_h:(rY (tI b tg)).map (fun q=>kV q.1)=[pn 0,pn 1,pn 2].map V.str:=rfl
theorem jPJ(p:l.Perm (nE 0 n)):l.length=n/\∀ {m:List Int},m.Perm l->m.Pairwise (·<=·)->m=nE 0 n:=by
 refine⟨by rw [p.length_eq,jGM],fun {m} q s=>?_⟩;exact (q.trans p).eq_of_pairwise (le:=(·<=·)) (fun a b _ _ h1 h2=>by omega) s ((jJR 0 n).imp fun h=>by omega)
theorem jIn(n:Nat):jGW 0 ((n:Nat):Int).toNat=(nE 0 n).map V.int:=by
 rw [fU];unfold jGW nE;rw [iF];refine iR fun j _=>?_;show V.int _=V.int _;congr 1
theorem jDy(l:List Int):(l.map V.int).all qF=true:=by simp [qF]
structure Snd(pc:Nat->List Pc)(nm:Str)(o:Nat)(L:List Pc):Prop where
 g:∀ h:Nat->Addr,rR nm [] [(pn 0,h 0,jF (pc 0)),(pn 1,h 1,jF (pc 1)),(pn 2,h 2,jF (pc 2))]=.ok L
 l:L.length<=o
 n:(kF L).Perm (nE 0 o)
 j:∀ L',L'.Perm L->L'.Pairwise (fun a b=>rD a<=rD b)->kF L'=nE 0 o
theorem snd_of{pc:Nat->List Pc}{nm:Str}{z:Zs}(hc:jHm pc)(h:Hv pc nm z):∃ L,Snd pc nm (z.b+(z.a-1)) L:=by
 have e:kF (oA nm (pn 0) (pc 0)++(oA nm (pn 1) (pc 1)++oA nm (pn 2) (pc 2)))=jGv fun i=>m8 nm (pc i):=by
  unfold jGv;dsimp only;rw [<- jF9 nm (pn 0),<- jF9 nm (pn 1),<- jF9 nm (pn 2)];unfold kF;rw [g9,g9]
 have ne:∀ p∈oA nm (pn 0) (pc 0)++(oA nm (pn 1) (pc 1)++oA nm (pn 2) (pc 2)),∃ b n,p.2=nE b n/\n≠0:=fun p hp=>by
  have lW:∀ i,p∈oA nm (pn i) (pc i)->∃ b n,p.2=nE b n/\n≠0:=fun i hp=>by
   obtain⟨p',h1,h2,h3⟩:=pick_ne hp;obtain⟨b,n,e⟩:=hc i p' h1;exact⟨b,n,h2.trans e,fun z=>h3 (by rw [h2,e,z];rfl)⟩
  rcases eV.mp hp with hp|hp
  ·exact lW 0 hp
  ·rcases eV.mp hp with hp|hp
   ·exact lW 1 hp
   ·exact lW 2 hp
 have pm:=h.pm;rw [<- e] at pm;refine⟨_,fun a=>gath3 hc a,?_,pm,fun L' p s=>?_⟩
 ·have:∀ L:List Pc,(∀ p∈L,∃ b n,p.2=nE b n/\n≠0)->L.length<=(kF L).length:=by
   intro L;induction L with
   | nil=>intro _;exact le_refl _
   | cons p L ih =>
     intro h;obtain⟨b,n,e,n0⟩:=h p (.head _);have:=ih fun q hq=>h q (.tail _ hq);show L.length+1<=(p.2++kF L).length;rw [dH,e,jGM];omega
  have l:=this _ ne;rw [pm.length_eq,jGM] at l;exact l
 ·have pp:=(jO0 p).trans pm;have nd:(kF L').Nodup:=pp.nodup_iff.mpr ((jJR 0 _).imp fun h=>by omega);have lt:=jK5 (fun q hq=>ne q (p.mem_iff.mp hq)) s nd;exact pp.eq_of_pairwise (le:=(·<=·)) (fun a b _ _ h1 h2=>by omega) (lt.imp fun h=>by omega) ((jJR 0 _).imp fun h=>by omega)
theorem jPK(p:l.Perm (nE 0 o))(h:o<=t):jIe l t=if o=t then none else some o:=by
 have m:∀ n:Nat,((n:Int)∈l) ↔ n<o:=fun n=>by rw [p.mem_iff,jFj];omega
 split
 ·next e=>exact jK0 fun j hj=>(m j).mpr (by omega)
 ·next e=>exact jL5 (by omega) (fun j hj=>(m j).mpr hj) fun z=>by have:=(m o).mp z;omega
inductive jEZ(k:Cs)(tP:Addr)(vs:List V)(H:Hp)(Q:VK)(E_:XK):Prop|mk (rl:Addr) (b:Mb) (w:Wg) (pc:Nat->List Pc) (ex:List (Addr×List V)):vs=[.ref rl,.ref b.dm]->Lw k tP H b w pc ex->(rl,[V.ref w.x,.ref w.x'])∈ex->(∀ H',Kg H H'->mG H' tP->Q (.bl true) H')->jEZ k tP vs H Q E_
theorem Kg.trans(h:Kg H H1)(g:Kg H1 H2):Kg H H2:=fun b o n e=>g _ _ n (h _ _ n e)
theorem Kg.ofP(h:sM tP H H')(g:mG H tP):Kg H H':=fun b o n e=>h _ _ (fun z=>by
 obtain⟨ps,hp⟩:=g.is;rw [z,hp] at e
 exact n _ (Option.some.inj e).symm) e
theorem wB:gF ["_law_runs","_law_m","_law_r","_law_name","_law_each_here","_law_total","_law_mine","_law_printer_here","_law_out","_law_joined","_law_numbers","_law_lack_here"] ["_law_runs","_law_m"] (fY jFB):=scM
include T in
theorem jLr(F:Fun K "_law_sound" "_law_sound" jFB fa fd)(Dao:DfE P w K mg base 4 "gathered" ["heaps","name"] (jC6 vY dB))(DbA:DfE P w K mg base 5 "first_lack" ["heaps","name","total"] (jEU vY dB))(Dak:Dfn P w K mg base 1 "_law_is" ["_law_num","_law_due"] (jFd K))(DbB:Dfn P w K mg base 3 "_law_lack" ["_law_run_here","_law_m","_law_r","_law_out"] (jFM ⟨yK,yG,vZ,vX,cK,cG,cZ,cQ,yJ,yW,yU⟩ dB))(DaD:MtE P w K mg base 1 "out" yK ["self"] (jFX yK yG cZ cQ yJ yW yU))(DbC:MtE P w K mg base 1 "at" yK ["self"] (jIP yK yG cZ cQ yJ yW yU))(Daa:MtE P w K mg base 3 "whole" yK ["self"] (jBx yK yG cZ cQ yJ yW yU)) :
 fJ P w K mg base CX0 6 fa fd ["_law_runs","_law_m"] (jEZ ⟨yK,yG,vZ,vX,cK,cG,cZ,cQ,yJ,yW,yU⟩ dB):=by
 refine F.ok wB fun fE A outer s H vs Q E hr h=>?_;obtain⟨rl,b,g,pc,ex,rfl,L,rX,q⟩:=h;have hu:=uQ hr 0 (by decide);have hu0:=hr.units0;exists _,(d9 (pN PassesOwn.never rfl (xD rfl T.ai (dJ eO dX)) (pgA (i:=2) wB.nd) (d9 (jHx (ixA lE (dgA hu (pv 1) hX) (pv 2)) (jC4 rfl (pE (pgA (i:=3) wB.nd) (pE (pgA (i:=4) wB.nd) (pE (pgA (i:=5) wB.nd) jCv))))) (d9 (psA (i:=6) wB.nd (lQ dX)) (d9 (pN PassesOwn.never rfl (q9 (rV (jLa rfl) rfl T.aZ bt_sorted (dJ (dgA hu (pv 1) hX) dX))) (pgA (i:=7) wB.nd) (d7 (kE (vR eD slot_list_extend iV jFO (pv 6) (dJ (jCx (frees:=[ ("_law_name",3) ]) ⟨by decide +kernel,rfl,rfl,by decide +kernel,⟨⟨rfl,rfl,rfl,by decide +kernel⟩,trivial⟩,by decide +kernel,uW rfl,rfl⟩ rfl (q9 (dgA hu (dgA hu (pv 1) hX) (pv 7))) (fun _ _ _ _=>by exact (jGU (PW.pt (rA (tcA nC (jEB (K:=K) (r:=jGQ) rfl j1 (pv 0) eO (fun _ _=>rfl)) (pv 1)) (sR (tcA op_ge (jEB (K:=K) (r:=jGQ) rfl j1 (pv 0) eO (fun _ _=>rfl)) eO)))))) (fun _ _ _ _=>by exact (jEB (K:=K) (r:=jGQ) rfl j1 (pv 0) eO (fun _ _=>rfl)))) dX))))) (d9 (psA (i:=8) wB.nd (rV jBr rfl T.ao iT (dJ (pv 6) dX))) (d9 (jC (PW.pt (vT (qP (mU (lX Dak hr.m rfl (dJ (jR 1 nR hr.m (ixA lE (pv 0) (pv 2))) (dJ (pv 8) dX))) (fun _=>rfl))) (vT (tcA (jJb hu0) (rV jLq rfl T.aZ bt_sorted (dJ (pv 6) dX)) (jHs rfl rfl T.aP rfl T.ai (dJ (pv 8) dX))) (w6 (tcA jH6 (pv 8) (pv 5)))))) (d7 (gY nQ)) jK) (d9 (psA (i:=9) wB.nd (lQ dX)) (d9 (pN PassesOwn.never rfl (q9 (jFo Dao nR hr.m rfl (dJ (dgA hu (pv 1) hX) (dJ (pv 3) dX)))) (jC4 rfl (pE (pgA (i:=7) wB.nd) (pE (pgA (i:=10) wB.nd) jCv))) (d7 (kE (vR eD slot_list_extend iV jFO (pv 9) (dJ (pv 10) dX))))) (d9 (jC (PW.pt (vT (tcA (jJb hu0) (pv 9) (jHs rfl rfl T.aP rfl T.ai (dJ (pv 8) dX))) (w6 (tcA jEr (jR 1 nR hr.m (ixA lE (pv 0) (pv 2))) (ixA lE (dgA hu (pv 1) hX) (pv 2)))))) (d7 (gY nQ)) jK) (d9 (psA (i:=11) wB.nd (jFo DbA nR hr.m rfl (dJ (dgA hu (pv 1) hX) (dJ (pv 3) (dJ (pv 5) dX))))) (d9 (jC (PW.pt (vT (PW.pt (rA (tcA nC (pv 8) (pv 5)) (sR (tcA jFe (pv 11) nX)))) (w6 (PW.pt (rA (tcA jFN (pv 8) (pv 5)) (sR (qP (mU (lX Dak hr.m rfl (dJ (pv 11) (dJ (pv 8) dX))) (fun _=>rfl))))))))) (d7 (gY nQ)) jK) (d7 (jC (PW.pt (vT (tcA jEr (jR 3 nR hr.m (ixA lE (pv 0) (pv 2))) (ecA nC (pv 8) (pv 5))) (w6 (qP (mU (lX DbB hr.m rfl (dJ (ixA lE (pv 0) (pv 2)) (dJ (pv 1) (dJ (pv 2) (dJ (pv 8) dX))))) (fun _=>rfl)))))) (d7 (gY nQ)) jK))))))))))))) (d7 (gY nQ)))
 refine⟨2,rfl,by decide,by decide,jDr (lo:=0) (n:=2) (fun i σ G=>Kg H G/\mG G dB/\∃ v2 v3 v4 v5 v6 v7 v8 v9 wG v11:Option V,σ=[some (.ref rl),some (.ref b.dm),v2,v3,v4,v5,v6,v7,v8,v9,wG,v11]) ⟨fun _ _ _ e=>e,L.gt,none,none,none,none,none,none,none,none,none,none,rfl⟩ (fun s' σ G s2 zz=>?_) (fun σ G zz=>?_)⟩;rotate_left
 ·obtain⟨kg,gt,_⟩:=zz;exact q G kg gt
 obtain⟨kg,gt,v2,v3,v4,v5,v6,v7,v8,v9,wG,v11,rfl⟩:=zz;rw [zero_add];replace L:=L.kg kg gt;have M:=L.M;have i0:(0:Int)<=(s':Int):=by omega
 have i2:(s':Int)<2:=by omega
 obtain⟨tj,hj,htj⟩:=M.j;have Z:=L.Z.at s';have R:=Z.R;have T9:=Z.k.T9;have sm:=snd_of L.co (L.v s' s2);obtain⟨LL,sd⟩:=sm;have pm:=(L.v s' s2).pm;obtain⟨pl1,pl2⟩:=jPJ pm;have fT:=Z.ok.fT;have bT:=Z.ok.bT;have af:=Z.ok.af;have ole:i5 g s'<=(g.at s').r.tot:=by unfold i5;omega
 have eo:(g.at s').z.b+((g.at s').z.a-1)=i5 g s':=rfl;rw [eo] at pm pl1 sd;generalize hmi:(jGv fun i=>m8 (g.at s').r.nm (pc i))=mi at pm pl1 pl2;refine⟨_,rfl,b.dm,_,rfl,gJ M,_,rfl,b.jl,_,_,rfl,rfl,SqL.of hj,i0,i2,fun v hv=>?_⟩;obtain rfl:=vS s2 hv;exists tj s',_,rfl,SqT.of (htj s' s2),rfl,_,_,rfl,_,_,rfl,_,_,rfl,rfl;dsimp only [wZ];refine kY (fun σ G'=>eC G G'/\∃ ml,G ml=none/\G' ml=some (.lst [])/\σ=[some (.ref rl),some (.ref b.dm),some (.int (s':Int)),some (.str (g.at s').r.nm),some (.int (((g.at s').r.inks.length:Nat):Int)),some (.int (((g.at s').r.tot:Nat):Int)),some (.ref ml),v7,v8,v9,wG,v11]) (fun R' hR=>⟨small (d5 _),fun ml nml=>hR _ _ ⟨gM nml _,ml,nml,d4,rfl⟩⟩) ?_;rintro σ G0 ⟨s0,ml,nml,hml,rfl⟩;refine kY (fun σ G'=>eC G G'/\G' ml=some (.lst (mi.map V.int))/\∃ v7,σ=[some (.ref rl),some (.ref b.dm),some (.int (s':Int)),some (.str (g.at s').r.nm),some (.int (((g.at s').r.inks.length:Nat):Int)),some (.int (((g.at s').r.tot:Nat):Int)),some (.ref ml),v7,v8,v9,wG,v11]) (fun R' hR=>?_) ?_
 ·have M0:=M.kg (Kg.of s0);refine⟨_,rfl,b.dm,_,rfl,gH M0,b.hd,_,_,rfl,M0.hp.o,keys_h,by decide,fun sl sV nsl pss sss=>?_⟩;obtain rfl:sV=[pn 0,pn 1,pn 2]:=jIz pss sss sort_pn;have s1:=gM nsl (.lst ([pn 0,pn 1,pn 2].map V.str));have hsl:upd G0 sl (.lst ([pn 0,pn 1,pn 2].map V.str)) sl=some (.lst ([pn 0,pn 1,pn 2].map V.str)):=d4;generalize upd G0 sl (.lst ([pn 0,pn 1,pn 2].map V.str))=G1 at s1 hsl ⊢;have nsm:sl≠ml:=fun z=>by rw [z,hml] at nsl;cases nsl
  refine⟨sl,rfl,⟨_,SqL.of hsl⟩,uZ (K:=K) (a:=sl) (xs:=[pn 0,pn 1,pn 2].map V.str) (fun j σ G'=>eC G G'/\G' sl=some (.lst ([pn 0,pn 1,pn 2].map V.str))/\G' ml=some (.lst ((c3 (fun i=>m8 (g.at s').r.nm (pc i)) j).map V.int))/\∃ v7,σ=[some (.ref rl),some (.ref b.dm),some (.int (s':Int)),some (.str (g.at s').r.nm),some (.int (((g.at s').r.inks.length:Nat):Int)),some (.int (((g.at s').r.tot:Nat):Int)),some (.ref ml),v7,v8,v9,wG,v11]) ⟨s0.trans s1,hsl,s1 _ _ hml,_,rfl⟩ (fun j σ G' _ zz=>SqL.of zz.2.1) (fun j y σ G' hy zz=>?_) (fun σ G' zz=>?_)⟩;rotate_left
  ·obtain⟨a1,a2,a3,v7',rfl⟩:=zz;exact hR _ _ ⟨a1,by rw [<- hmi];exact a3,_,rfl⟩
  obtain⟨a1,a2,a3,v7',rfl⟩:=zz;have j3:j<3:=(List.getElem?_eq_some_iff.mp hy).1;have ey:y=.str (pn j):=by
   have:j=0\/j=1\/j=2:=by omega
   rcases this with rfl|rfl|rfl<;>exact (Option.some.inj hy).symm
  subst ey;have M2:=M.kg (Kg.of a1);obtain⟨hs,e,e1,gg⟩:=M2.hp.t _ (jIm (b:=b) (tg:=fun i=>jF (pc i)) j3);dsimp only at e e1 gg;have l9:=L.hl;have hle:hs.length<=300:=by
   have h9:=M.hp.l;unfold tI at h9;simp only [dQ,kU,sF,List.sum_nil] at h9;have:=congrArg List.length e;rw [c6] at this;have hj':j=0\/j=1\/j=2:=by omega
   rcases hj' with rfl|rfl|rfl<;>omega
  refine⟨_,rfl,.inl ⟨rfl,_,SqL.of a3⟩,_,rfl,b.dm,_,rfl,gH M2,_,rfl,b.hd,_,rfl,gP M2 j3,b.h j,rfl,⟨_,SqL.of e1⟩,jDv (jFn (K:=K) (SqL.of e1)) (tgP G' (g.at s').r.nm) (tgV G') (by rw [c6];exact oN (by omega)) (fun x hx H' R2 sx rr=>?_) (fun x hx H' R2 sx px rr=>?_) (fun D G3 t3 nD hD=>?_)⟩
  ·obtain⟨r,oW,rfl⟩:=eI.mp hx;have ht:=sx _ _ (gg r oW);have ep:tgP G' (g.at s').r.nm (.ref r.1)=(decide (r.2.1=(g.at s').r.nm)&&decide (0<=r.2.2)):=by unfold tgP;rw [jML (gg r oW)]
   rw [ep] at rr;by_cases c1:r.2.1=(g.at s').r.nm
   ·rw [decide_eq_true c1,Bool.true_and] at rr;exact⟨_,rfl,r.1,_,_,_,rfl,rfl,SqT.of ht,kL (j:=0) rfl,_,rfl,rfl,true,congrArg V.bl (decide_eq_true (by rw [c1])),kM ⟨_,rfl,r.1,_,_,_,rfl,rfl,SqT.of ht,kL (j:=1) rfl,_,_,rfl,rfl,_,rfl,rr⟩⟩
   ·rw [decide_eq_false c1,Bool.false_and] at rr;exact⟨_,rfl,r.1,_,_,_,rfl,rfl,SqT.of ht,kL (j:=0) rfl,_,rfl,rfl,false,congrArg V.bl (decide_eq_false fun z=>c1 (by injection z)),jJ rr⟩
  ·obtain⟨r,oW,rfl⟩:=eI.mp hx;have ht:=sx _ _ (gg r oW);have ev:tgV G' (.ref r.1)=.int r.2.2:=by unfold tgV;rw [jML (gg r oW)]
   rw [ev] at rr;exact⟨_,rfl,r.1,_,_,_,rfl,rfl,SqT.of ht,kL (j:=1) rfl,rr⟩
  ·rw [jNA gg,<- e,jK7 _ _ (fun p hp=>L.co j p hp)] at hD;have ln:=c3_len (fun i=>m8 (g.at s').r.nm (pc i)) j3;rw [hmi,pl1] at ln;refine⟨ml,D,_,_,rfl,rfl,t3 _ _ a3,hD,small (by rw [c6,c6];omega),w5 nml (a1.trans t3) _,by rw [dW nsm];exact t3 _ _ a2,?_,_,rfl⟩;rw [d4,c3_succ _ j3,dU]
 rintro σ G1 ⟨s1,hml1,v7',rfl⟩
 -- how many
 refine kY (fun σ G'=>G'=G1/\σ=[some (.ref rl),some (.ref b.dm),some (.int (s':Int)),some (.str (g.at s').r.nm),some (.int (((g.at s').r.inks.length:Nat):Int)),some (.int (((g.at s').r.tot:Nat):Int)),some (.ref ml),v7',some (.int ((i5 g s':Nat):Int)),v9,wG,v11]) (fun R' hR=>⟨_,rfl,ml,_,rfl,.inl (SqL.of hml1),hR _ _ ⟨rfl,by rw [c6,pl1];rfl⟩⟩) ?_;rintro σ G1' ⟨rfl,rfl⟩;have gx:∀ {H1:Hp},Kg G H1->∀ {Q':VK},Q' (.ref (g.at s').x) H1->wY K (.ref rl) (.int (s':Int)) H1 Q':=fun {H1} sx {Q'} h=>⟨rl,_,_,rfl,rfl,SqL.of (sx _ _ (fun x z=>nomatch z) (M.ex _ rX).1),i0,i2,fun v hv=>by rw [jDX s2 hv];exact h⟩
 have rg:∀ {H1:Hp},Kg G H1->jG yK yG H1 (g.at s').x (R5 (g.at s').r ((g.at s').z.ap.map (g.at s').ps) (g.at s').z.b (g.at s').z.a):=fun sx=>(Z.kg sx).R;have o62:((i5 g s':Nat):Int)<2^62:=by omega
 have o63:-(2^62:Int)<=((i5 g s':Nat):Int):=by omega
 have o24:((i5 g s':Nat):Int).toNat<=2^24:=by omega
 have oz:((i5 g s':Nat):Int).toNat<=c9:=small (by omega);refine Tst.seq (b:=false) (Tst.or (b:=false) (c:=false) (Tst.not (b:=true) fun H1 sx Q q=>?_) fun _=>Tst.or (b:=false) (c:=false) (fun H1 sx Q q=>?_) fun _=>fun H1 sx Q q=>?_) (fun e=>nomatch e) (fun _ G2 s2'=>?_)
 ·have kx:Kg G H1:=Kg.of (s1.trans sx);refine⟨_,rfl,_,rfl,gx kx ⟨_,_,_,_,_,_,rfl,(rg kx).o,rfl,T.aa,DaD,_,_,rfl,rg kx,_,rfl,((i5 g s':Nat):Int),rfl,_,rfl,q _ (eC.refl _)⟩⟩
 ·refine⟨_,rfl,ml,mi,rfl,SqL.of (sx _ _ hml1),by rw [pl1];omega,fun l1 m1 n1 p1 q1=>?_⟩;have t1:=gM n1 (.lst (m1.map V.int));refine⟨_,rfl,_,rfl,⟨o63,o62⟩,oz,o24,fun l2 n2=>?_⟩;have t2:=gM n2 (.lst (jGW 0 ((i5 g s':Nat):Int).toNat));refine⟨l1,l2,_,_,rfl,rfl,SqL.of (t2 _ _ d4),SqL.of d4,jDy _,by rw [jIn];exact jDy _,false,?_,q _ (t1.trans t2)⟩;rw [jIn,pl2 p1 q1,eo,jKS (jDy _)];rfl
 ·exact⟨_,rfl,_,rfl,_,_,rfl,rfl,false,congrArg V.bl (decide_eq_false (by omega)),q _ (eC.refl _)⟩
 dsimp only [jE1]
 -- the pieces, put together
 have kg2:Kg G G2:=Kg.of (s1.trans s2');have gt2:mG G2 dB:=gt.same (s1.trans s2');refine kY (fun σ G'=>eC G2 G'/\∃ jl,G2 jl=none/\G' jl=some (.lst [])/\σ=[some (.ref rl),some (.ref b.dm),some (.int (s':Int)),some (.str (g.at s').r.nm),some (.int (((g.at s').r.inks.length:Nat):Int)),some (.int (((g.at s').r.tot:Nat):Int)),some (.ref ml),v7',some (.int ((i5 g s':Nat):Int)),some (.ref jl),wG,v11]) (fun R' hR=>⟨small (d5 _),fun jl njl=>hR _ _ ⟨gM njl _,jl,njl,d4,rfl⟩⟩) ?_;rintro σ G3 ⟨s3,jl,njl,mD,rfl⟩;have kg3:Kg G G3:=kg2.trans (Kg.of s3);refine kY (fun σ G'=>Kg G G'/\mG G' dB/\G' jl=some (.lst ((nE 0 (i5 g s')).map V.int))/\∃ v7 wG,σ=[some (.ref rl),some (.ref b.dm),some (.int (s':Int)),some (.str (g.at s').r.nm),some (.int (((g.at s').r.inks.length:Nat):Int)),some (.int (((g.at s').r.tot:Nat):Int)),some (.ref ml),v7,some (.int ((i5 g s':Nat):Int)),some (.ref jl),wG,v11]) (fun R' hR=>?_) ?_
 ·have M3:=M.kg kg3;refine⟨_,rfl,b.dm,_,rfl,gH M3,_,rfl,b.hd,_,_,rfl,M3.hp,gt2.same s3,fun L1 e1=>?_,fun i e=>?_⟩;rotate_left
  ·have:=sd.g b.h;rw [show rR (g.at s').r.nm [] (tI b fun i=>jF (pc i))=.ok LL from this] at e;cases e
  obtain rfl:LL=L1:=by
   have:=(sd.g b.h).symm.trans e1;injection this
  refine⟨iC sd.l (by omega),fun D G4 L' sp gt4 pm' pw pcA=>?_⟩;have jn:=sd.j L' pm' pw;obtain⟨nD,eE,eL,hD,nd,gr⟩:=pcA;have kg4:Kg G3 G4:=Kg.ofP sp (gt2.same s3);have xK:G4 jl=some (.lst []):=kg4 _ _ (fun x z=>nomatch z) mD;have nDj:D≠jl:=fun z=>by rw [z,mD] at nD;cases nD
  have lL:L'.length=eE.length:=by rw [eL,c6]
  have keep:∀ {G5:Hp},(∀ b,b≠jl->G5 b=G4 b)->Kg G G5/\mG G5 dB:=fun {G5} h=>by
   refine⟨fun a o n e=>?_,mG.gen gt4 fun a o _ n2 _ e=>?_⟩
   ·have na:a≠jl:=fun z=>by
     have:=(s1.trans s2') _ _ e;rw [z,njl] at this;cases this
    rw [h a na];exact kg4 _ _ n (kg3 _ _ n e)
   ·rw [h a fun z=>by rw [z,xK] at e;exact n2 _ (Option.some.inj e).symm];exact e
  refine⟨D,rfl,⟨_,SqL.of hD⟩,uZ (K:=K) (a:=D) (xs:=eE.map fun r=>V.ref r.1) (fun j σ G'=>(∀ b,b≠jl->G' b=G4 b)/\G' jl=some (.lst ((kF (L'.take j)).map V.int))/\∃ v7 wG,σ=[some (.ref rl),some (.ref b.dm),some (.int (s':Int)),some (.str (g.at s').r.nm),some (.int (((g.at s').r.inks.length:Nat):Int)),some (.int (((g.at s').r.tot:Nat):Int)),some (.ref ml),v7,some (.int ((i5 g s':Nat):Int)),some (.ref jl),wG,v11]) ⟨fun _ _=>rfl,xK,_,_,rfl⟩ (fun j σ G' _ zz=>SqL.of (by rw [zz.1 D nDj];exact hD)) (fun j y σ G' hy zz=>?_) (fun σ G' zz=>?_)⟩;rotate_left
  ·obtain⟨a1,a2,v7x,v10x,rfl⟩:=zz;rw [c6,<- lL,jM,jn] at a2;exact hR _ _ ⟨(keep a1).1,(keep a1).2,a2,_,_,rfl⟩
  obtain⟨a1,a2,v7x,v10x,rfl⟩:=zz;rw [getElem?_map] at hy;obtain⟨r,oW,rfl⟩:=dY.mp hy;obtain⟨g1,g2,g3,g4⟩:=gr r (mem_of_getElem? oW);have nr:r.2.1≠jl:=fun z=>by rw [z,mD] at g3;cases g3
  have eLj:L'[j]?=some r.2.2:=by rw [eL,getElem?_map,oW];rfl
  have n1:r.1≠jl:=fun z=>by rw [z,xK] at g1;cases g1
  have ln:(kF (L'.take (j+1))).length<=60:=by
   have h1:(kF (L'.take (j+1))).length<=(kF L').length:=by
    have:=congrArg (fun l=>(kF l).length) (iW (j+1) L');unfold kF at this ⊢;rw [g9,dH] at this;omega
   rw [jn,jGM] at h1;omega
  have nt:=jK1 eLj;rw [nt,dH] at ln;refine⟨r.1,_,rfl,SqT.of (by rw [a1 _ n1];exact g1),rfl,_,_,rfl,_,_,rfl,rfl,_,rfl,.inl ⟨rfl,_,SqL.of a2⟩,_,rfl,jl,r.2.1,_,_,rfl,rfl,a2,by rw [a1 _ nr];exact g2,small (by rw [c6,c6];omega),fun b hb=>by rw [dW hb];exact a1 b hb,?_,_,_,rfl⟩;rw [d4,nt,dU]
 rintro σ G4 ⟨kg4,gt4,xK,v7x,v10x,rfl⟩;have kx4:∀ {H1:Hp},eC G4 H1->Kg G H1:=fun sx=>kg4.trans (Kg.of sx);have M4:=M.kg kg4;refine Tst.seq (b:=false) (Tst.or (b:=false) (c:=false) (fun H1 sx Q q=>?_) fun _=>fun H1 sx Q q=>?_) (fun e=>nomatch e) (fun _ G5 s5=>?_)
 ·refine⟨_,rfl,_,rfl,_,rfl,⟨o63,o62⟩,oz,o24,fun l2 n2=>?_⟩;have t2:=gM n2 (.lst (jGW 0 ((i5 g s':Nat):Int).toNat));refine⟨jl,l2,_,_,rfl,rfl,SqL.of (t2 _ _ (sx _ _ xK)),SqL.of d4,jDy _,by rw [jIn];exact jDy _,false,?_,q _ t2⟩;rw [jIn,jKS (jDy _)];rfl
 ·have M5:=M.kg (kx4 sx);have fin:∀ v,v=atS (g.at s').z.ap->tOp rNe (tC v) (tOp (wY K) (jLv (tY 1) (tC (.str (c7 "where")))) (tY 2)) [some (.ref rl),some (.ref b.dm),some (.int (s':Int)),some (.str (g.at s').r.nm),some (.int (((g.at s').r.inks.length:Nat):Int)),some (.int (((g.at s').r.tot:Nat):Int)),some (.ref ml),v7x,some (.int ((i5 g s':Nat):Int)),some (.ref jl),v10x,v11] H1 (fun x H'=>∃ k,x=.bl k/\Q k H'):=fun v ev=>by
   refine⟨_,rfl,b.dm,_,rfl,gW M5,_,rfl,b.wl,_,_,rfl,rfl,SqL.of M5.wh,i0,i2,fun u hu'=>?_⟩;rw [vS s2 hu',ev];refine⟨by cases (g.at s').z.ap<;>rfl,false,?_,q _ (eC.refl _)⟩;rw [decide_eq_true rfl];rfl
  refine⟨_,rfl,_,rfl,gx (kx4 sx) ⟨_,_,_,_,_,_,rfl,(rg (kx4 sx)).o,rfl,T.aa,DbC,_,_,rfl,rg (kx4 sx),fun hp=>?_,fun p hp=>?_⟩⟩
  ·exact fin _ (by rw [jJQ hp];rfl)
  ·obtain⟨i,hi,rfl⟩:=jH3 hp;have i3:=(Z.ok.at3 i hi).1;have W:=(Z.kg (kx4 sx)).W i i3;exact⟨_,W.P,fin _ (by rw [hi,W.nm];rfl)⟩
 dsimp only [jE1]
 -- the first that lacks
 have kg5:=kx4 s5;refine kY (fun σ G'=>Kg G G'/\mG G' dB/\σ=[some (.ref rl),some (.ref b.dm),some (.int (s':Int)),some (.str (g.at s').r.nm),some (.int (((g.at s').r.inks.length:Nat):Int)),some (.int (((g.at s').r.tot:Nat):Int)),some (.ref ml),v7x,some (.int ((i5 g s':Nat):Int)),some (.ref jl),v10x,some (lackV (if i5 g s'=(g.at s').r.tot then none else some (i5 g s')))]) (fun R' hR=>?_) ?_
 ·have M5:=M.kg kg5;refine⟨_,rfl,b.dm,_,rfl,gH M5,_,rfl,_,rfl,b.hd,_,_,_,LL,rfl,M5.hp,gt4.same s5,by omega,sd.g b.h,iC sd.l (by omega),by rw [sd.n.length_eq,jGM];omega,fun H' sp gt'=>?_⟩;rw [jPK sd.n ole];exact hR _ _ ⟨kg5.trans (Kg.ofP sp (gt4.same s5)),gt',rfl⟩
 rintro σ G6 ⟨kg6,gt6,rfl⟩;have kx6:∀ {H1:Hp},eC G6 H1->Kg G H1:=fun sx=>kg6.trans (Kg.of sx);have eT:decide (V.int ((i5 g s':Nat):Int)=V.int (((g.at s').r.tot:Nat):Int))=decide (i5 g s'=(g.at s').r.tot):=by
  by_cases c:i5 g s'=(g.at s').r.tot
  ·rw [c,decide_eq_true rfl,decide_eq_true rfl]
  ·rw [decide_eq_false c,decide_eq_false fun z=>c (by injection z with z;omega)]
 refine Tst.seq (b:=false) ?_ (fun e=>nomatch e) (fun _ G7 s7=>?_)
 ·by_cases c:i5 g s'=(g.at s').r.tot
  ·rw [if_pos c];refine Tst.or (b:=false) (c:=false) (Tst.and (b:=true) (c:=false) (fun H1 sx Q q=>⟨_,rfl,_,rfl,rfl,true,congrArg V.bl (eT.trans (decide_eq_true c)),q _ (eC.refl _)⟩) fun _=>fun H1 sx Q q=>⟨_,rfl,rfl,false,rfl,q _ (eC.refl _)⟩) fun _=>Tst.and (b:=false) (c:=false) (fun H1 sx Q q=>⟨_,rfl,_,rfl,_,_,rfl,rfl,false,congrArg V.bl (decide_eq_false (by omega)),q _ (eC.refl _)⟩) fun e=>nomatch e
  ·rw [if_neg c];refine Tst.or (b:=false) (c:=false) (Tst.and (b:=false) (c:=false) (fun H1 sx Q q=>⟨_,rfl,_,rfl,rfl,false,congrArg V.bl (eT.trans (decide_eq_false c)),q _ (eC.refl _)⟩) fun e=>nomatch e) fun _=>Tst.and (b:=true) (c:=false) (fun H1 sx Q q=>⟨_,rfl,_,rfl,_,_,rfl,rfl,true,congrArg V.bl (decide_eq_true (by omega)),q _ (eC.refl _)⟩) fun _=>Tst.not (b:=true) fun H1 sx Q q=>⟨_,rfl,_,rfl,((i5 g s':Nat):Int),rfl,_,rfl,q _ (eC.refl _)⟩
 dsimp only [jE1];have kg7:=kx6 s7;have gt7:=gt6.same s7;refine (Tst.or (b:=false) (c:=false) (H:=G7) (fun H1 sx Q q=>?_) fun _=>Tst.not (b:=true) fun H1 sx Q q=>?_) G7 (eC.refl _) _ fun G8 s8=>jJ ⟨kg.trans (kg7.trans (Kg.of s8)),gt7.same s8,_,_,_,_,_,_,_,_,_,_,rfl⟩
 ·have kx:=kg7.trans (Kg.of sx);refine⟨_,rfl,_,rfl,gx kx ⟨_,_,_,_,_,_,rfl,(rg kx).o,rfl,T.aa,Daa,_,_,rfl,rg kx,_,rfl,_,rfl,rfl,rfl,false,?_,q _ (eC.refl _)⟩⟩;rw [eT];show V.bl (!decide (V.bl (decide (i5 g s'=(g.at s').r.tot))=V.bl (decide (i5 g s'=(g.at s').r.tot))))=_;rw [decide_eq_true rfl];rfl
 ·have kx:=kg7.trans (Kg.of sx);exact⟨_,rfl,_,rfl,gx kx ⟨_,rfl,_,rfl,_,rfl,b,g,pc,ex,s',rfl,s2,L.kg kx (gt7.same sx),fun H' s9=>⟨_,rfl,q _ s9⟩⟩⟩
structure DL(w:Wg)(H:Hp)(l:Addr)(s:Nat)(us:List V):Prop where
 l:H l=some (.lst us)
 u:∀ (i:Nat) y,us[i]?=some y->∃ t D,y=.ref t/\H t=some (.tup (pQ s D))/\D.Ok/\∀ p,D=.take p->us.length=1/\(w.at s).z'.ap≠some p
 n:us.length<=5
theorem jMM{w:Wg}{H:Hp}{l t:Addr}{s:Nat}{D:Dd}(ok:D.Ok)(tk:∀ p,D=.take p->(w.at s).z'.ap≠some p)(ht:H t=some (.tup (pQ s D)))(hl:H l=some (.lst [V.ref t])):DL w H l s [V.ref t]:=by
 refine⟨hl,fun i y e=>?_,by show 1<=5;decide⟩;obtain rfl:V.ref t=y:=mem_singleton.mp (mem_of_getElem? e) |>.symm;exact⟨t,D,rfl,ht,ok,fun p e=>⟨rfl,tk p e⟩⟩
theorem DL.same{w:Wg}{H H':Hp}{l:Addr}{s:Nat}{us:List V}(d:DL w H l s us)(s':eC H H'):DL w H' l s us:=⟨s' _ _ d.l,fun i y e=>let ⟨t,D,e1,e2,e3⟩:=d.u i y e;⟨t,D,e1,s' _ _ e2,e3⟩,d.n⟩
theorem wQ(c k:Int){m:Nat}(h:0<m):∃ v:Nat,oJ c k (m:Int)=(v:Int)/\v<m:=by
 have h1:=jGF (c:=c) (k:=k) (show (0:Int)<(m:Int) by omega);have h2:=jGG (c:=c) (k:=k) (show (0:Int)<(m:Int) by omega);exact⟨(oJ c k (m:Int)).toNat,by omega,by omega⟩
theorem pn_int:∀ i:Nat,i<3->PySem.intText? (Txt.slice (pn i) (some 1) none)=some (i:Int)/\(Txt.slice (pn i) (some 1) none).length<=640/\(pn i).length<=1000:=by decide +kernel
theorem pn_inj:∀ i j:Fin 3,pn i.val=pn j.val->i=j:=by decide +kernel
theorem jJW{w:Wg}{s:Nat}(s2:s<2):(w.at (1-s)).z=(w.at s).z':=by
 have:s=0\/s=1:=by omega
 rcases this with rfl|rfl<;>rfl
inductive jDq(k:Cs)(tP:Addr)(vs:List V)(H:Hp)(Q:VK)(E_:XK):Prop|mk (c:Int) (kk:Nat) (pl:Addr) (b:Mb) (w:Wg) (pc:Nat->List Pc) (ex:List (Addr×List V)):vs=[.int c,.int (kk:Int),.ref b.dm,.ref pl]->kk<=100->Lw k tP H b w pc ex->(pl,l3 fun i=>.ref (w.ps i))∈ex->(∀ l s us H',eC H H'->H l=none->s<2->DL w H' l s us->Q (.ref l) H')->jDq k tP vs H Q E_
theorem jBH:gF ["_law_cell","_law_k","_law_m","_law_printers","_law_r","_law_p","_law_way","_law_at"] ["_law_cell","_law_k","_law_m","_law_printers"] (fY jDI):=scM
include T in
theorem jIV(F:Fun K "_law_deeds_by" "_law_deeds_by" jDI fa fd)(Dad:Dfn P w K mg base 1 "_law_mix" ["_law_cell","_law_k","_law_many"] (jC8 K))(Dac:MtE P w K mg base 2 "stands" cZ ["self"] (jBZ cZ cQ yJ yW yU)) :
 fJ P w K mg base CX0 3 fa fd ["_law_cell","_law_k","_law_m","_law_printers"] (jDq ⟨yK,yG,vZ,vX,cK,cG,cZ,cQ,yJ,yW,yU⟩ dB):=by
 refine F.ok jBH fun fE A outer s H vs Q E hr h=>?_;obtain⟨c,kk,pl,b,g,pc,ex,rfl,k9,L,j4,q⟩:=h;have hu:=uQ hr 0 (by decide);exists _,(d9 (psA (i:=4) jBH.nd (lX Dad hr.m rfl (dJ (pv 0) (dJ (iO oE (pv 1) eO) (dJ eO dX))))) (d9 (psA (i:=5) jBH.nd (lX Dad hr.m rfl (dJ (pv 0) (dJ (iO oE (pv 1) eO) (dJ eO dX))))) (d9 (psA (i:=6) jBH.nd (lX Dad hr.m rfl (dJ (pv 0) (dJ (pv 1) (dJ eO dX))))) (d9 (psA (i:=7) jBH.nd (ixA lE (dgA hu (pv 2) hX) (pv 4))) (d9 (jC (PW.pt (rA (tcA jFe (pv 7) nX) (rA (tcA jEr (jR 2 nR hr.m (ixA lE (pv 3) (uC jDb rfl T.aF jHF (dJ (jCH jHG (pv 7) (jDt eO) jDs) dX)))) hX) (sR (tcA nC (iO t8 (pv 6) eO) eO))))) (d7 (psA (i:=5) jBH.nd (uC jDb rfl T.aF jHF (dJ (jCH jHG (pv 7) (jDt eO) jDs) dX)))) jK) (d9 (jC (PW.pt (rA (tcA jEr (jR 2 nR hr.m (ixA lE (pv 3) (pv 5))) hX) (sR (tcA jH6 (iO t8 (pv 6) eO) eO)))) (d7 (gY (lQ (dJ (mT (dJ hX (dJ (pv 4) (dJ (pv 5) dX)))) (dJ (mT (dJ hX (dJ (pv 4) (dJ (pv 5) dX)))) (dJ (mT (dJ hX (dJ (pv 4) (dJ (pv 5) dX)))) dX)))))) jK) (d9 (jC (PW.pt (rA (tcA jFN (pv 6) eO) (sR (tcA jFe (pv 7) nX)))) (d7 (gY (jCx (frees:=[ ("_law_r",4) ]) ⟨by decide +kernel,rfl,rfl,by decide +kernel,⟨⟨rfl,rfl,rfl,by decide +kernel⟩,trivial⟩,by decide +kernel,uW rfl,rfl⟩ rfl (xD rfl T.ai (dJ (iO oE eO (lX Dad hr.m rfl (dJ (pv 0) (dJ (iO oE (pv 1) eO) (dJ eO dX))))) dX)) (fun _ _ _ _=>jCn) (fun _ _ _ _=>by exact (mT (dJ hX (dJ (pv 1) dX))))))) jK) (d9 (jC (PW.pt (rA (tcA jFN (pv 6) eO) (sR (tcA jEr (ixA lE (dgA hu (pv 2) hX) (iO jHA eO (pv 4))) (iO jCR hX (uC jCF rfl T.aE jHE (dJ (pv 5) dX))))))) (d7 (gY (lQ (dJ (mT (dJ hX (dJ (pv 4) (dJ (pv 5) dX)))) dX)))) jK) (d9 (jC (tcA jFN (pv 6) eO) (d7 (gY (lQ (dJ (mT (dJ hX (dJ (pv 4) (dJ (lX Dad hr.m rfl (dJ (pv 0) (dJ (iO oE (pv 1) eO) (dJ eO dX)))) dX)))) dX)))) jK) (d9 (jC (PW.pt (rA (tcA nC (pv 6) eO) (sR (tcA jH6 (pv 1) eO)))) (d7 (gY (lQ (dJ (mT (dJ hX (dJ (pv 4) dX))) dX)))) jK) (d7 (gY (ixA lE (lQ (dJ (lQ (dJ (mT (dJ hX (dJ (pv 4) (dJ (pv 5) dX)))) dX)) (dJ (lQ (dJ (mT (dJ hX (dJ (pv 4) (dJ (pv 5) dX)))) dX)) dX))) (iO t8 (pv 6) eO))))))))))))))
 have z1:1<=c9:=small (by decide);have z2:2<=c9:=small (by decide);have z3:3<=c9:=small (by decide);obtain⟨s',es,s2⟩:=wQ c ((kk:Int)+10) (m:=2) (by decide);obtain⟨p0,ep,p03⟩:=wQ c ((kk:Int)+20) (m:=3) (by decide);obtain⟨wy,ew,w20⟩:=wQ c (kk:Int) (m:=20) (by decide);have i0:(0:Int)<=(s':Int):=by omega
 have i2:(s':Int)<2:=by omega
 refine kY (fun σ G=>eC H G/\σ=[some (.int c),some (.int (kk:Int)),some (.ref b.dm),some (.ref pl),some (.int (s':Int)),none,none,none]) (fun R hR=>⟨_,rfl,_,rfl,_,_,rfl,rfl,c,_,2,rfl,by omega,by omega,by decide,fun G s1=>by rw [show oJ c ((kk:Int)+10) 2=(s':Int) from es];exact hR _ _ ⟨s1,rfl⟩⟩) ?_;rintro σ G0 ⟨s0,rfl⟩;refine kY (fun σ G=>eC H G/\σ=[some (.int c),some (.int (kk:Int)),some (.ref b.dm),some (.ref pl),some (.int (s':Int)),some (.int (p0:Int)),none,none]) (fun R hR=>⟨_,rfl,_,rfl,_,_,rfl,rfl,c,_,3,rfl,by omega,by omega,by decide,fun G s1=>by rw [show oJ c ((kk:Int)+20) 3=(p0:Int) from ep];exact hR _ _ ⟨s0.trans s1,rfl⟩⟩) ?_;rintro σ G1 ⟨s1,rfl⟩;refine kY (fun σ G=>eC H G/\σ=[some (.int c),some (.int (kk:Int)),some (.ref b.dm),some (.ref pl),some (.int (s':Int)),some (.int (p0:Int)),some (.int (wy:Int)),none]) (fun R hR=>⟨_,rfl,_,rfl,c,_,20,rfl,by omega,by omega,by decide,fun G s2=>by rw [show oJ c (kk:Int) 20=(wy:Int) from ew];exact hR _ _ ⟨s1.trans s2,rfl⟩⟩) ?_;rintro σ G2 ⟨sG,rfl⟩;clear s0 s1;replace L:=L.same sG;have M:=L.M;have Z:=L.Z
 -- where it is
 refine kY (fun σ G=>G=G2/\σ=[some (.int c),some (.int (kk:Int)),some (.ref b.dm),some (.ref pl),some (.int (s':Int)),some (.int (p0:Int)),some (.int (wy:Int)),some (atS (g.at s').z.ap)]) (fun R hR=>⟨_,rfl,b.dm,_,rfl,gW M,_,rfl,b.wl,_,_,rfl,rfl,SqL.of M.wh,i0,i2,fun v hv=>by rw [vS s2 hv];exact hR _ _ ⟨rfl,rfl⟩⟩) ?_;rintro σ G3 ⟨rfl,rfl⟩;have hpl':G3 pl=some (.lst (l3 fun i=>.ref (g.ps i))):=(M.ex _ j4).1;have st:∀ {H1:Hp} {i:Nat},eC G3 H1->i<3->∀ {Q':VK} {σ:St},Q' (.str (wd (g.S i))) H1->wY K (.ref pl) (.int (i:Int)) H1 (fun x H2=>jIb P w K mg base 2 "stands" (fun _=>E0) jGP σ Q' x H2):=fun {H1 i} sx i3 {Q' σ} h=>by
  have W:=(Z.W i i3).P.same sx;refine⟨pl,_,_,rfl,rfl,SqL.of (sx _ _ hpl'),by omega,(by show (i:Int)<3;omega),fun v hv=>?_⟩;obtain rfl:=jH2 i3 hv;exact⟨_,_,_,_,_,_,rfl,W.o,rfl,T.ad,Dac,_,_,rfl,W,by rw [(Z.W i i3).S];exact h⟩
 refine kY (fun σ G=>eC G3 G/\∃ p:Nat,p<3/\σ=[some (.int c),some (.int (kk:Int)),some (.ref b.dm),some (.ref pl),some (.int (s':Int)),some (.int (p:Int)),some (.int (wy:Int)),some (atS (g.at s').z.ap)]) (fun R hR=>?_) ?_
 ·have keep:=hR _ _ ⟨eC.refl G3,p0,p03,rfl⟩;cases ea:(g.at s').z.ap with
  | none =>
    rw [ea] at keep;exact⟨_,rfl,rfl,false,rfl,jJ (jJ keep)⟩
  | some i =>
    have i3:=((Z.at s').ok.at3 i ea).1;obtain⟨u1,u2,u3⟩:=pn_int i i3;rw [ea] at keep hR;refine⟨_,rfl,rfl,true,rfl,kM ⟨_,rfl,_,rfl,_,rfl,_,rfl,small u3,_,_,rfl,u1,u2,st (eC.refl _) i3 ⟨rfl,_,rfl,oK (fun _=>⟨_,rfl,_,_,rfl,rfl,(by show (0:Int)<2;decide),rfl,_,rfl,oK (fun _=>?_) (fun _=>keep)⟩) (fun _=>jJ keep)⟩⟩⟩;exact⟨_,rfl,_,rfl,_,rfl,small u3,_,_,rfl,u1,u2,hR _ _ ⟨eC.refl _,i,i3,rfl⟩⟩
 rintro σ G4 ⟨s4,p,p3,rfl⟩;replace sG:=sG.trans s4;replace L:=L.same s4;replace M:=L.M;replace Z:=L.Z
 -- a list of one deed
 have one:∀ (D:Dd) (G:Hp),D.Ok->(∀ p,D=.take p->(g.at s').z'.ap≠some p)->eC H G->∀ t,G t=none->∀ l,upd G t (.tup (pQ s' D)) l=none->Q (.ref l) (upd (upd G t (.tup (pQ s' D))) l (.lst [V.ref t])):=fun D G ok tk sg t nt l nl=>by
  have a1:=gM nt (.tup (pQ s' D));have a2:=gM nl (.lst [V.ref t]);exact q l s' _ _ ((sg.trans a1).trans a2) (sg.free (a1.free nl)) s2 (jMM ok tk (a2 _ _ d4) d4)
 have no:∀ {D:Dd},dN D≠0->∀ p,D=.take p->(g.at s').z'.ap≠some p:=fun h p e=>absurd (by rw [e];rfl) h;refine kY (fun σ G=>G=G4/\σ=[some (.int c),some (.int (kk:Int)),some (.ref b.dm),some (.ref pl),some (.int (s':Int)),some (.int (p:Int)),some (.int (wy:Int)),some (atS (g.at s').z.ap)]) (fun R hR=>⟨_,rfl,_,rfl,st s4 p3 ⟨rfl,_,rfl,oK (fun _=>⟨_,rfl,_,_,rfl,rfl,(by show (0:Int)<3;decide),_,_,rfl,rfl,_,rfl,oK (fun _=>?_) (fun _=>hR _ _ ⟨rfl,rfl⟩)⟩) (fun _=>jJ (hR _ _ ⟨rfl,rfl⟩))⟩⟩) ?_
 ·refine⟨_,rfl,_,rfl,z3,fun t1 n1=>⟨_,rfl,_,rfl,z3,fun t2 n2=>⟨_,rfl,_,rfl,z3,fun t3 n3=>⟨z3,fun l nl=>?_⟩⟩⟩⟩;have a1:=gM n1 (.tup (pQ s' (.mend p)));have a2:=gM n2 (.tup (pQ s' (.come p)));have a3:=gM n3 (.tup (pQ s' (.mend p)));have a4:=gM nl (.lst [V.ref t1,.ref t2,.ref t3]);refine q l s' _ _ ((((sG.trans a1).trans a2).trans a3).trans a4) (sG.free (a1.free (a2.free (a3.free nl)))) s2 ⟨d4,fun i y e=>?_,by show 3<=5;decide⟩;rcases i with _|_|_|i<;>cases e
  ·exact⟨t1,.mend p,rfl,a4 _ _ (a3 _ _ (a2 _ _ d4)),p3,fun _ e=>nomatch e⟩
  ·exact⟨t2,.come p,rfl,a4 _ _ (a3 _ _ d4),p3,fun _ e=>nomatch e⟩
  ·exact⟨t3,.mend p,rfl,a4 _ _ d4,p3,fun _ e=>nomatch e⟩
 rintro σ G5 ⟨rfl,rfl⟩
 -- steps
 refine kY (fun σ G=>G=G5/\σ=[some (.int c),some (.int (kk:Int)),some (.ref b.dm),some (.ref pl),some (.int (s':Int)),some (.int (p:Int)),some (.int (wy:Int)),some (atS (g.at s').z.ap)]) (fun R hR=>⟨_,rfl,_,_,rfl,rfl,_,rfl,oK (fun _=>⟨_,rfl,rfl,_,rfl,oK (fun _=>?_) (fun _=>hR _ _ ⟨rfl,rfl⟩)⟩) (fun _=>jJ (hR _ _ ⟨rfl,rfl⟩))⟩) ?_
 ·obtain⟨j,ej,j5⟩:=wQ c ((kk:Int)+30) (m:=5) (by decide);have ej':oJ c ((kk:Int)+30) 5=(j:Int):=ej;refine⟨_,rfl,_,rfl,_,_,rfl,rfl,c,_,5,rfl,by omega,by omega,by decide,fun G6 s6=>⟨_,_,rfl,rfl,?_⟩⟩;refine⟨_,rfl,by show -2^62<=1+oJ c ((kk:Int)+30) 5;rw [ej'];omega,by show 1+oJ c ((kk:Int)+30) 5<2^62;rw [ej'];omega,?_⟩;have jl:(1+oJ c ((kk:Int)+30) 5).toNat=j+1:=by rw [ej'];omega
  refine jFp (jFP 0 (1+oJ c ((kk:Int)+30) 5).toNat G6) (fun _ y H3=>∃ t,y=.ref t/\H3 t=some (.tup (pQ s' .step))) (by rw [c6,dP,jl];exact oN (by omega)) (fun x wC H' R _ r=>r) (fun x wC H' R sm rr=>⟨_,rfl,z2,fun t nt=>rr _ _ (gM nt _) ⟨fun b=>b=t,fun b e=>by rw [e];exact⟨nt,_,d4⟩,fun H3 g=>⟨t,rfl,by rw [g t rfl];exact d4⟩⟩⟩) (fun l H5 us s5 nl hl l5 hg=>?_);rw [c6,dP,jl] at l5;have s35:=s6.trans s5;refine q l s' us H5 (sG.trans s35) (sG.free (s6.free nl)) s2 ⟨hl,fun i y e=>?_,by omega⟩;obtain⟨x,ex⟩:∃ x,((range (1+oJ c ((kk:Int)+30) 5).toNat).map fun i=>V.int (0+(i:Nat)))[i]?=some x:=⟨_,getElem?_eq_getElem (by rw [c6,dP,jl,<- l5];exact (List.getElem?_eq_some_iff.mp e).1)⟩
  obtain⟨t,e1,e2⟩:=hg i x y ex e;exact⟨t,.step,e1,e2,trivial,fun _ e=>nomatch e⟩
 rintro σ G6 ⟨rfl,rfl⟩
 -- a taking
 obtain⟨q1,q2⟩:=wK p p3;refine kY (fun σ G=>G=G6/\σ=[some (.int c),some (.int (kk:Int)),some (.ref b.dm),some (.ref pl),some (.int (s':Int)),some (.int (p:Int)),some (.int (wy:Int)),some (atS (g.at s').z.ap)]) (fun R hR=>⟨_,rfl,_,_,rfl,rfl,_,rfl,oK (fun _=>⟨_,rfl,b.dm,_,rfl,gW M,_,rfl,_,_,rfl,rfl,b.wl,_,_,rfl,rfl,SqL.of M.wh,by show (0:Int)<=1-(s':Int);omega,by show (1:Int)-(s':Int)<2;omega,fun v hv=>?_⟩) (fun _=>jJ (hR _ _ ⟨rfl,rfl⟩))⟩) ?_
 ·have hv':(l2 fun j=>atS (g.at j).z.ap)[(((1-s':Nat):Nat):Int).toNat]?=some v:=by rw [<- hv];congr 1;omega
  have ev:=vS (by omega) hv';rw [jJW s2] at ev;subst ev;refine⟨_,rfl,_,rfl,q1,_,_,rfl,rfl,small q2,by cases (g.at s').z'.ap<;>rfl,_,rfl,oK (fun e=>⟨_,rfl,_,rfl,z3,fun t nt=>⟨z1,fun l nl=>one (.take p) G6 p3 (fun p' e'=>?_) sG t nt l nl⟩⟩) (fun _=>hR _ _ ⟨rfl,rfl⟩)⟩;cases e';intro ea;rw [ea] at e;exact absurd e (by rw [show decide (atS (some p)=V.str (c7 "p" ++ c7 (toString (p:Int))))=true from decide_eq_true rfl];decide)
 rintro σ G7 ⟨rfl,rfl⟩
 -- a jam
 refine kY (fun σ G=>G=G7/\σ=[some (.int c),some (.int (kk:Int)),some (.ref b.dm),some (.ref pl),some (.int (s':Int)),some (.int (p:Int)),some (.int (wy:Int)),some (atS (g.at s').z.ap)]) (fun R hR=>⟨_,rfl,_,_,rfl,rfl,_,rfl,oK (fun _=>?_) (fun _=>hR _ _ ⟨rfl,rfl⟩)⟩) ?_
 ·obtain⟨v,ev,_⟩:=wQ c ((kk:Int)+40) (m:=4) (by decide);refine⟨_,rfl,_,rfl,_,rfl,_,_,rfl,rfl,c,_,4,rfl,by omega,by omega,by decide,fun G8 s8=>?_⟩;rw [show oJ c ((kk:Int)+40) 4=(v:Int) from ev];exact⟨z3,fun t nt=>⟨z1,fun l nl=>one (.jam v) G8 trivial (no (show 2≠0 by decide)) (sG.trans s8) t nt l nl⟩⟩
 rintro σ G8 ⟨rfl,rfl⟩;refine kY (fun σ G=>G=G8/\σ=[some (.int c),some (.int (kk:Int)),some (.ref b.dm),some (.ref pl),some (.int (s':Int)),some (.int (p:Int)),some (.int (wy:Int)),some (atS (g.at s').z.ap)]) (fun R hR=>⟨_,rfl,rfl,_,rfl,oK (fun _=>⟨_,rfl,_,_,rfl,rfl,_,rfl,oK (fun _=>⟨_,rfl,z2,fun t nt=>⟨z1,fun l nl=>one .drop G8 trivial (no (by decide)) sG t nt l nl⟩⟩) (fun _=>hR _ _ ⟨rfl,rfl⟩)⟩) (fun _=>jJ (hR _ _ ⟨rfl,rfl⟩))⟩) ?_;rintro σ G9 ⟨rfl,rfl⟩;refine⟨_,rfl,_,rfl,z3,fun t1 n1=>⟨z1,fun l1 m1=>⟨_,rfl,_,rfl,z3,fun t2 n2=>⟨z1,fun l2' m2=>⟨z2,fun l n=>?_⟩⟩⟩⟩⟩;have a1:=gM n1 (.tup (pQ s' (.leave p)));have a2:=gM m1 (.lst [V.ref t1]);have a3:=gM n2 (.tup (pQ s' (.come p)));have a4:=gM m2 (.lst [V.ref t2]);have a5:=gM n (.lst [V.ref l1,.ref l2']);have s15:=(((a1.trans a2).trans a3).trans a4).trans a5;refine⟨_,rfl,_,_,rfl,rfl,(by show (0:Int)<2;decide),l,_,_,rfl,rfl,SqL.of d4,by show (0:Int)<=(wy:Int)%2;omega,by show (wy:Int)%2<2;omega,fun v hv=>?_⟩;have:((wy:Int)%2).toNat=0\/((wy:Int)%2).toNat=1:=by omega
 rcases this with e|e
 ·have ev:v=.ref l1:=by rw [e] at hv;exact (Option.some.inj hv).symm
  subst ev;exact q l1 s' _ _ (sG.trans s15) (sG.free (a1.free m1)) s2 ((jMM (D:=.leave p) p3 (no (show 4≠0 by decide)) (a2 _ _ d4) d4).same ((a3.trans a4).trans a5))
 ·have ev:v=.ref l2':=by rw [e] at hv;exact (Option.some.inj hv).symm
  subst ev;exact q l2' s' _ _ (sG.trans s15) (sG.free (a1.free (a2.free (a3.free m2)))) s2 ((jMM (D:=.come p) p3 (no (show 5≠0 by decide)) (a4 _ _ d4) d4).same a5)
structure Cw(k:Cs)(tP:Addr)(H0 H:Hp)(b:Mb)(w0 w:Wg)(pc:Nat->List Pc)(ex:List (Addr×List V)):Prop where
 L:Lw k tP H b w pc ex
 e:w.x=w0.x/\w.x'=w0.x'/\w.ps=w0.ps/\w.P=w0.P
 rt:∀ j,j<2->(w.at j).r.tot=(w0.at j).r.tot
 kt:∀ a xs,H0 a=some (.tup xs)->H a=some (.tup xs)
section
variable {k:Cs}{tP:Addr}{H0 H H':Hp}{b:Mb}{w0 w:Wg}{pc:Nat->List Pc}{ex:List (Addr×List V)}{rl pl t l:Addr}{s:Nat}{D:Dd}{us:List V}
theorem Cw.start(L:Lw k tP H b w pc ex):Cw k tP H H b w w pc ex:=⟨L,⟨rfl,rfl,rfl,rfl⟩,fun _ _=>rfl,fun _ _ e=>e⟩
theorem Cw.mrl(C:Cw k tP H0 H b w0 w pc ex)(h:(rl,[V.ref w0.x,.ref w0.x'])∈ex):(rl,[V.ref w.x,.ref w.x'])∈ex:=by rw [C.e.1,C.e.2.1];exact h
theorem Cw.mpl(C:Cw k tP H0 H b w0 w pc ex)(h:(pl,l3 fun i=>.ref (w0.ps i))∈ex):(pl,l3 fun i=>.ref (w.ps i))∈ex:=by rw [C.e.2.2.1];exact h
theorem Cw.done(C:Cw k tP H0 H b w0 w pc ex)(rX:(rl,[V.ref w0.x,.ref w0.x'])∈ex)(j4:(pl,l3 fun i=>.ref (w0.ps i))∈ex)(nt:H t=none)(s2:s<2)(ok:D.Ok)(nd:D≠.drop)(tk:∀ p,D=.take p->(w.at s).z'.ap≠some p)(fe:w.fe<=290)(q:∀ H' w' hJ,Cw k tP H0 H' b w0 w' hJ ex->Dq w w' b b s D->Q (.bl true) H'):jCN k tP [.ref rl,.ref pl,.ref b.dm,.ref t] (upd H t (.tup (pQ s D))) Q E:=by
 have s1:=gM nt (.tup (pQ s D));refine⟨rl,pl,t,b,w,pc,ex,s,D,rfl,C.L.same s1,C.mrl rX,C.mpl j4,d4,s2,ok,tk,fe,fun H' b' w' hJ L' dq kt=>?_⟩;have eb:b'=b:=by
  rcases dq.bd with e|⟨e,_⟩
  ·exact e
  ·exact absurd e nd
 subst eb;exact q H' w' hJ ⟨L',⟨dq.e.1.trans C.e.1,dq.e.2.1.trans C.e.2.1,dq.e.2.2.1.trans C.e.2.2.1,dq.e.2.2.2.trans C.e.2.2.2⟩,fun j j2=>(dq.rt j j2).trans (C.rt j j2),fun a xs e=>kt _ _ (s1 _ _ (C.kt a xs e))⟩ dq
theorem Lw.there(L:Lw k tP H b w pc ex)(h:a∈b.own):∃ ts,H a=some (.lst ts):=by
 have ht:∀ i,i<3->∃ ts,H (b.h i)=some (.lst ts):=fun i i3=>by
  obtain⟨ts,_,e,_⟩:=L.M.hp.t _ (jIm (b:=b) (tg:=fun i=>jF (pc i)) i3);exact⟨_,e⟩
 unfold Mb.own at h;simp only [dZ,d6,or_false] at h;rcases h with rfl|rfl|rfl|rfl|rfl
 ·exact⟨_,L.M.wh⟩
 ·exact⟨_,L.M.dr⟩
 ·exact ht 0 (by decide)
 ·exact ht 1 (by decide)
 ·exact ht 2 (by decide)
theorem Lw.add(L:Lw k tP H b w pc ex)(n:H l=none):Lw k tP (upd H l (.lst us)) b w pc ((l,us)::ex):=by
 have L1:=L.same (gM n (.lst us));obtain⟨y1,h1,_⟩:=id L.Z.R.i;obtain⟨y2,h2,_⟩:=id L.Z.R'.i;have ne:∀ {a:Addr} {o:HO},H a=some o->l≠a:=fun e z=>by rw [z,e] at n;cases n
 refine { L1 with M:={ L1.M with ex:=fun q hq=>?_ },B:={ L1.B with e:=fun q hq=>?_ } }
 ·rcases dZ.mp hq with rfl|hq
  ·exact⟨d4,fun z=>by obtain⟨ts,e⟩:=L.there z;exact ne e rfl⟩
  ·exact L1.M.ex q hq
 ·rcases dZ.mp hq with rfl|hq
  ·exact⟨fun i i3=>ne (L.Z.W i i3).P.n,symm (ne h1),symm (ne h2)⟩
  ·exact L1.B.e q hq
theorem Lw.sub(L:Lw k tP H b w pc ex)(h:∀ q∈ex',q∈ex):Lw k tP H b w pc ex':={ L with M:={ L.M with ex:=fun q hq=>L.M.ex q (h q hq) },B:={ L.B with e:=fun q hq=>L.B.e q (h q hq) } }
theorem Cw.add(C:Cw k tP H0 H b w0 w pc ex)(n:H l=none):Cw k tP H0 (upd H l (.lst us)) b w0 w pc ((l,us)::ex):=⟨C.L.add n,C.e,C.rt,fun a xs e=>gM n _ _ _ (C.kt a xs e)⟩
theorem Cw.sub(C:Cw k tP H0 H b w0 w pc ex)(h:∀ q∈ex',q∈ex):Cw k tP H0 H b w0 w pc ex':=⟨C.L.sub h,C.e,C.rt,C.kt⟩
end
def uV(p:Nat):Nat->Dd
 | 1=>.come p
 | _=>.mend p
def stJ:Nat->S3->S3
 | 0,s=>s
 | 1,s=>(lN 1 s).getD s
 | 2,s=>(lN 3 ((lN 1 s).getD s)).getD ((lN 1 s).getD s)
 | _,s=>(lN 1 ((lN 3 ((lN 1 s).getD s)).getD ((lN 1 s).getD s))).getD ((lN 3 ((lN 1 s).getD s)).getD ((lN 1 s).getD s))
theorem stJ_3(s:S3):stJ 3 s=.rd:=by
 cases s with
 | rd=>rfl
 | jm=>rfl
 | aw b=>cases b<;>rfl
theorem jPL(h:j<3)(s:S3):stJ (j+1) s=(lN (dM (uV p j)) (stJ j s)).getD (stJ j s):=by
 have:j=0\/j=1\/j=2:=by omega
 rcases this with rfl|rfl|rfl<;>rfl
theorem jPM(s p j:Nat):pQ s (uV p j)=[.str (wN (dN (uV p j))),.int (s:Int),.int (p:Int)]:=by
 unfold uV;split<;>rfl
theorem jNB(p j:Nat):uV p j=.leave p\/uV p j=.come p\/uV p j=.mend p:=by
 unfold uV;split
 ·exact .inr (.inl rfl)
 ·exact .inr (.inr rfl)
def muZ(F P:Nat)(z:Zs):Nat:=(F-z.f)+if z.f=F then F-z.a else P
theorem mu_step{T P b a f:Nat}{ap:Option Nat}(bT:b<T)(af:a<=f)(fT:b+f<=T+1)(fp:f-a<=P)(nw:b+a≠T+1)(n:b+(a+stK T P b a f)≠T+1):muZ (T+1-b) P ⟨ap,b,a+stK T P b a f,tU T b f⟩+1<=muZ (T+1-b) P ⟨ap,b,a,f⟩:=by
 unfold muZ stK tU at *;dsimp only at *;by_cases c:b+f=T+1
 ·rw [if_pos c] at n ⊢;rw [if_pos c,if_pos (by omega),if_pos (by omega)];omega
 ·rw [if_neg c] at n ⊢;rw [if_neg c,if_neg (show ¬ f=T+1-b by omega)];by_cases c2:f+1=T+1-b
  ·rw [if_pos c2];split
   ·omega
   ·omega
  ·rw [if_neg c2];omega
inductive jEp(k:Cs)(tP:Addr)(vs:List V)(H:Hp)(Q:VK)(E_:XK):Prop|mk (rl pl pa:Addr) (b:Mb) (w:Wg) (pc:Nat->List Pc) (ex:List (Addr×List V)) (s:Nat):vs=[.ref rl,.ref pl,.ref b.dm,.int (s:Int),.ref pa]->s<2->Lw k tP H b w pc ex->(rl,[V.ref w.x,.ref w.x'])∈ex->(pl,l3 fun i=>.ref (w.ps i))∈ex->(pa,l3 fun i=>.int ((w.P i:Nat):Int))∈ex->(∀ i,i<3->w.P i<=4)->w.fe<=250->b.d s=false->i5 w s≠(w.at s).r.tot->(∀ H' w' hJ,Cw k tP H H' b w w' hJ ex->i5 w' s=(w'.at s).r.tot->w'.fe<=w.fe+33->Q (.bl true) H')->jEp k tP vs H Q E_
theorem jCl:gF ["_law_runs","_law_printers","_law_m","_law_r","_law_paths","_law_p","_law_word_here","_law_turn"] ["_law_runs","_law_printers","_law_m","_law_r","_law_paths"] (fY jET):=scM
include T in
theorem jKF(F:Fun K "_law_finish" "_law_finish" jET fa fd)(Dal:Dfn P w K mg base 10 "_law_done" ["_law_runs","_law_printers","_law_m","_law_deed"] (jCN ⟨yK,yG,vZ,vX,cK,cG,cZ,cQ,yJ,yW,yU⟩ dB))(DaD:MtE P w K mg base 1 "out" yK ["self"] (jFX yK yG cZ cQ yJ yW yU))(Daa:MtE P w K mg base 3 "whole" yK ["self"] (jBx yK yG cZ cQ yJ yW yU)) :
 fJ P w K mg base CX0 11 fa fd ["_law_runs","_law_printers","_law_m","_law_r","_law_paths"] (jEp ⟨yK,yG,vZ,vX,cK,cG,cZ,cQ,yJ,yW,yU⟩ dB):=by
 refine F.ok jCl fun fE A outer s H vs Q E hr h=>?_;obtain⟨rl,pl,pa,b,g,pc,ex,s',rfl,s2,L,rX,j4,hpa,p4,fe,nd,nw,q⟩:=h;have hu:=uQ hr 0 (by decide);exists _,(d9 (psA (i:=5) jCl.nd (pv 3)) (d9 (jC (tcA nC (ixA lE (dgA hu (pv 2) hX) (iO jHA eO (pv 3))) (iO jCR hX (uC jCF rfl T.aE jHE (dJ (pv 5) dX)))) (d7 (psA (i:=5) jCl.nd eO)) jK) (d9 (pN PassesOwn.never rfl (q9 (lQ (dJ hX (dJ hX (dJ hX dX))))) (pgA (i:=6) jCl.nd) (d7 (jC (qP (mU (lX Dal hr.m rfl (dJ (pv 0) (dJ (pv 1) (dJ (pv 2) (dJ (mT (dJ (pv 6) (dJ (pv 3) (dJ (pv 5) dX)))) dX))))) (fun _=>rfl))) (d7 (gY nQ)) jK))) (d9 (jC (qP (mU (lX Dal hr.m rfl (dJ (pv 0) (dJ (pv 1) (dJ (pv 2) (dJ (mT (dJ hX (dJ (pv 3) (dJ (pv 5) dX)))) dX))))) (fun _=>rfl))) (d7 (gY nQ)) jK) (d9 (pN PassesOwn.never rfl (xD rfl T.ai (dJ (iO oE (iO jHA (iO oE eO (ixA j1 (ixA lE (dgA hu (pv 2) hX) (pv 3)) eO)) (jR 1 nR hr.m (ixA lE (pv 0) (pv 3)))) (ixA lE (pv 4) (pv 5))) dX)) (pgA (i:=7) jCl.nd) (d7 (jC (PW.pt (rA (qP (mU (jR 3 nR hr.m (ixA lE (pv 0) (pv 3))) (fun _=>rfl))) (sR (qP (mU (lX Dal hr.m rfl (dJ (pv 0) (dJ (pv 1) (dJ (pv 2) (dJ (mT (dJ hX (dJ (pv 3) dX))) dX))))) (fun _=>rfl)))))) (d7 (gY nQ)) jK))) (d7 (gY (ecA op_isB (jR 3 nR hr.m (ixA lE (pv 0) (pv 3))) nQ))))))))
 have i0:(0:Int)<=(s':Int):=by omega
 have i2:(s':Int)<2:=by omega
 have z3:3<=c9:=small (by decide);have z2:2<=c9:=small (by decide);have M:=L.M
 -- the printer
 refine kY (fun σ G=>G=H/\σ=[some (.ref rl),some (.ref pl),some (.ref b.dm),some (.int (s':Int)),some (.ref pa),some (.int (s':Int)),none,none]) (fun R hR=>⟨_,rfl,hR _ _ ⟨rfl,rfl⟩⟩) ?_;rintro σ G ⟨rfl,rfl⟩;refine kY (fun σ G'=>G'=G/\∃ p:Nat,p<3/\(g.at s').z'.ap≠some p/\σ=[some (.ref rl),some (.ref pl),some (.ref b.dm),some (.int (s':Int)),some (.ref pa),some (.int (p:Int)),none,none]) (fun R hR=>⟨_,rfl,b.dm,_,rfl,gW M,_,rfl,_,_,rfl,rfl,b.wl,_,_,rfl,rfl,SqL.of M.wh,by show (0:Int)<=1-(s':Int);omega,by show (1:Int)-(s':Int)<2;omega,fun v hv=>?_⟩) ?_
 ·have hv':(l2 fun j=>atS (g.at j).z.ap)[(((1-s':Nat):Nat):Int).toNat]?=some v:=by rw [<- hv];congr 1;omega
  have ev:=vS (by omega) hv';rw [jJW s2] at ev;subst ev;obtain⟨q1,q2⟩:=wK s' (by omega);refine⟨_,rfl,_,rfl,q1,_,_,rfl,rfl,small q2,by cases (g.at s').z'.ap<;>rfl,_,rfl,oK (fun e=>hR _ _ ⟨rfl,2,by decide,fun z=>?_,rfl⟩) (fun e=>hR _ _ ⟨rfl,s',by omega,fun z=>?_,rfl⟩)⟩
  ·have:=of_decide_eq_true e;rw [z] at this;have h2:pn 2=pn s':=by injection this
   have:=congrArg Fin.val (pn_inj ⟨2,by decide⟩ ⟨s',by omega⟩ h2);have:2=s':=this;omega
  ·rw [z] at e;exact e (decide_eq_true rfl)
 rintro σ G' ⟨rfl,p,p3,hp,rfl⟩;have turn:∀ j,dN (uV p j)≠0/\uV p j≠.drop/\(uV p j).Ok:=fun j=>by
  unfold uV;split
  ·exact⟨show 5≠0 by decide,(fun e=>nomatch e),p3⟩
  ·exact⟨show 6≠0 by decide,(fun e=>nomatch e),p3⟩
 -- it is made ready
 refine kY (fun σ G=>∃ w' hJ,Cw ⟨yK,yG,vZ,vX,cK,cG,cZ,cQ,yJ,yW,yU⟩ dB G' G b g w' hJ ex/\w'.fe<=g.fe+3/\w'.S p=.rd/\(∀ j,j<2->(w'.at j).z.ap=(g.at j).z.ap/\(w'.at j).z.b=(g.at j).z.b/\(w'.at j).z.a=(g.at j).z.a)/\∃ v6,σ=[some (.ref rl),some (.ref pl),some (.ref b.dm),some (.int (s':Int)),some (.ref pa),some (.int (p:Int)),v6,none]) (fun R hR=>⟨z3,fun wl nwl=>?_⟩) ?_
 ·refine⟨wl,rfl,⟨_,SqL.of d4⟩,uZ (K:=K) (a:=wl) (xs:=[.str (wN 6),.str (wN 5),.str (wN 6)]) (fun j σ G=>∃ w' hJ,Cw ⟨yK,yG,vZ,vX,cK,cG,cZ,cQ,yJ,yW,yU⟩ dB G' G b g w' hJ ((wl,[.str (wN 6),.str (wN 5),.str (wN 6)])::ex)/\w'.fe<=g.fe+j/\w'.S p=stJ j (g.S p)/\(∀ j,j<2->(w'.at j).z.ap=(g.at j).z.ap/\(w'.at j).z.b=(g.at j).z.b/\(w'.at j).z.a=(g.at j).z.a)/\∃ v6,σ=[some (.ref rl),some (.ref pl),some (.ref b.dm),some (.int (s':Int)),some (.ref pa),some (.int (p:Int)),v6,none]) ⟨g,pc,(Cw.start L).add nwl,jU _ _,rfl,fun _ _=>⟨rfl,rfl,rfl⟩,_,rfl⟩ (fun j σ G _ zz=>?_) (fun j y σ G hy zz=>?_) (fun σ G zz=>?_)⟩
  ·obtain⟨w',hJ,C,_⟩:=zz;exact SqL.of (C.L.M.ex _ (.head _)).1
  ·obtain⟨w',hJ,C,f1,eS,ez,v6,rfl⟩:=zz;have j3:j<3:=(List.getElem?_eq_some_iff.mp hy).1;have ey:y=.str (wN (dN (uV p j))):=by
    have:j=0\/j=1\/j=2:=by omega
    rcases this with rfl|rfl|rfl<;>exact (Option.some.inj hy).symm
   subst ey;refine⟨_,rfl,_,rfl,_,rfl,_,rfl,_,rfl,_,rfl,z3,fun t nt=>?_⟩;rw [<- jPM];refine C.done (.tail _ rX) (.tail _ j4) nt s2 (turn j).2.2 (turn j).2.1 (fun p' e=>absurd (by rw [e];rfl) (turn j).1) (by omega) fun G1 w2 rL C2 dq=>⟨_,rfl,jJ ⟨w2,rL,C2,by have:=dq.fe;omega,?_,fun i i2'=>?_,_,rfl⟩⟩
   ·rw [(dq.t p (jNB p j)).1,jPL (p:=p) j3,eS]
   ·obtain⟨a1,a2,a3⟩:=(dq.t p (jNB p j)).2 i i2';obtain⟨b1,b2,b3⟩:=ez i i2';exact⟨a1.trans b1,a2.trans b2,a3.trans b3⟩
  ·obtain⟨w',hJ,C,f1,eS,ez,v6,rfl⟩:=zz;exact hR _ _ ⟨w',hJ,C.sub fun q hq=>.tail _ hq,f1,by rw [eS];exact stJ_3 _,ez,_,rfl⟩
 rintro σ G1 ⟨w1,pc1,C1,f1,rd1,ez,v6,rfl⟩
 -- it takes the run
 have ezs:=ez s' s2;have L1:=C1.L;have bT:=(L1.Z.at s').ok.bT;have rt1:=C1.rt s' s2;have can:CanD w1 s' (.take p):=by
  refine⟨?_,?_,by rw [jHl];exact rd1⟩
  ·rw [L1.br s' s2,nd];rfl
  ·intro z;apply nw;unfold i5;rw [<- ezs.2.1,<- ezs.2.2,<- rt1];omega
 have tk:∀ p',Dd.take p=.take p'->(w1.at s').z'.ap≠some p':=fun p' e=>by
  cases e;rw [<- jJW s2,(ez (1-s') (by omega)).1,jJW s2];exact hp
 refine kY (fun σ G=>∃ w2 rL,Cw ⟨yK,yG,vZ,vX,cK,cG,cZ,cQ,yJ,yW,yU⟩ dB G' G b g w2 rL ex/\w2.fe<=g.fe+4/\w2.S p=.rd/\(w2.at s').z=pH (g.at s').r.tot (w1.at s').z p/\σ=[some (.ref rl),some (.ref pl),some (.ref b.dm),some (.int (s':Int)),some (.ref pa),some (.int (p:Int)),v6,none]) (fun R hR=>⟨_,rfl,_,rfl,_,rfl,_,rfl,_,rfl,z3,fun t nt=>C1.done rX j4 nt s2 (D:=.take p) p3 (fun e=>nomatch e) tk (by omega) fun G2 w2 rL C2 dq=>⟨_,rfl,jJ (hR _ _ ⟨w2,rL,C2,by have:=dq.fe;omega,?_,?_,rfl⟩)⟩⟩) ?_
 ·obtain⟨c,i,dt⟩:=dq.x (by show 0<4;decide) can;have dt':Dt (w1.at s') (w2.at s') c p:=dt;have:=dt'.s1;rw [jHl,jHl] at this;rw [this];exact rd1
 ·obtain⟨c,i,dt⟩:=dq.x (by show 0<4;decide) can;have dt':Dt (w1.at s') (w2.at s') c p:=dt;rw [dt'.z1,rt1]
 rintro σ G2 ⟨w2,rL,C2,f2,rd2,z2e,rfl⟩
 -- the steps
 obtain⟨tt,ett⟩:∃ n,n=(g.at s').r.tot:=⟨_,rfl⟩
 obtain⟨F,eF⟩:∃ n,n=tt+1-i5 w2 s':=⟨_,rfl⟩
 have T9:=(L1.Z.at s').k.T9;rw [rt1,<- ett] at T9 bT;have M2:=C2.L.M;have Z2:=C2.L.Z.at s';have af2:=Z2.ok.af;have fT2:=Z2.ok.fT;have bT2:=Z2.ok.bT;have rt2:=C2.rt s' s2;rw [rt2,<- ett] at fT2 bT2;obtain⟨tj,hj,htj⟩:=M2.j;have o2:i5 w2 s'<=tt:=by unfold i5;omega
 have pp:=p4 p p3;have xe:∀ {w':Wg} {hJ:Nat->List Pc} {G:Hp},Cw ⟨yK,yG,vZ,vX,cK,cG,cZ,cQ,yJ,yW,yU⟩ dB G' G b g w' hJ ex->∀ {Q':VK},Q' (.ref (w'.at s').x) G->wY K (.ref rl) (.int (s':Int)) G Q':=fun {w' hJ G} C {Q'} h=>⟨rl,_,_,rfl,rfl,SqL.of (C.L.M.ex _ (C.mrl rX)).1,i0,i2,fun v hv=>by rw [jDX s2 hv];exact h⟩
 have hpa2:G2 pa=some (.lst (l3 fun i=>.int ((g.P i:Nat):Int))):=(M2.ex _ hpa).1;refine kY (fun σ G=>∃ w' hJ,Cw ⟨yK,yG,vZ,vX,cK,cG,cZ,cQ,yJ,yW,yU⟩ dB G' G b g w' hJ ex/\w'.fe<=g.fe+33/\i5 w' s'=tt/\∃ v7,σ=[some (.ref rl),some (.ref pl),some (.ref b.dm),some (.int (s':Int)),some (.ref pa),some (.int (p:Int)),v6,v7]) (fun R hR=>?_) ?_
 ·refine⟨_,rfl,b.dm,_,rfl,gJ M2,_,rfl,b.jl,_,_,rfl,rfl,SqL.of hj,i0,i2,fun v hv=>?_⟩;obtain rfl:=vS s2 hv;refine⟨tj s',_,_,_,rfl,rfl,SqT.of (htj s' s2),kL (j:=2) rfl,_,_,rfl,rfl,_,rfl,_,rfl,xe C2 ⟨_,_,_,_,_,_,rfl,Z2.R.o,rfl,T.aa,DaD,_,_,rfl,Z2.R,_,_,rfl,rfl,_,rfl,_,rfl,pa,_,_,rfl,rfl,SqL.of hpa2,by omega,(by show ((p:Nat):Int)<3;omega),fun v hv=>?_⟩⟩;obtain rfl:=jH2 p3 hv;exists _,_,rfl,rfl;have eN:(1+(((w2.at s').r.tot:Nat):Int)-(((w2.at s').z.b+((w2.at s').z.a-1):Nat):Int)+((g.P p:Nat):Int))=((F+g.P p:Nat):Int):=by
   have:(w2.at s').z.b+((w2.at s').z.a-1)=i5 w2 s':=rfl;rw [this,rt2,<- ett];omega
  exists ((F+g.P p:Nat):Int),congrArg (fun z=>[V.int z]) eN,by omega,by omega
  rw [fU];refine jDr (lo:=0) (n:=F+g.P p) (fun i σ G=>∃ w' hJ,Cw ⟨yK,yG,vZ,vX,cK,cG,cZ,cQ,yJ,yW,yU⟩ dB G' G b g w' hJ ex/\w'.fe<=g.fe+4+i/\(i5 w' s'=tt\/w'.S p=.rd/\(w'.at s').z.ap=some p/\(w'.at s').z.b=i5 w2 s'/\muZ F (g.P p) (w'.at s').z+i<=F+g.P p)/\∃ v7,σ=[some (.ref rl),some (.ref pl),some (.ref b.dm),some (.int (s':Int)),some (.ref pa),some (.int (p:Int)),v6,v7]) ⟨w2,rL,C2,by omega,?_,_,rfl⟩ (fun i σ G hi zz=>?_) (fun σ G zz=>?_)
  ·-- the first
   rw [<- ett] at z2e;unfold pH at z2e;split at z2e
   ·next c =>
    left;unfold i5;rw [z2e];show (w1.at s').z.b+((w1.at s').z.f-1)=tt;omega
   ·right;have eo:i5 w2 s'=(w2.at s').z.b:=by unfold i5;rw [z2e];rfl
    exists rd2,by rw [z2e],eo.symm
    unfold muZ;rw [z2e];dsimp only;rw [if_neg (by omega)];omega
  ·-- one step
   obtain⟨w',hJ,C,f',hw,v7,rfl⟩:=zz;have Z':=C.L.Z.at s';have rt':=C.rt s' s2;rw [<- ett] at rt';have ewh:decide ((R5 (w'.at s').r ((w'.at s').z.ap.map (w'.at s').ps) (w'.at s').z.b (w'.at s').z.a).ps=(R5 (w'.at s').r ((w'.at s').z.ap.map (w'.at s').ps) (w'.at s').z.b (w'.at s').z.a).tot)=decide (i5 w' s'=tt):=by
    show decide (i5 w' s'=(w'.at s').r.tot)=_;rw [rt']
   refine⟨_,rfl,_,rfl,xe C ⟨_,_,_,_,_,_,rfl,Z'.R.o,rfl,T.aa,Daa,_,_,rfl,Z'.R,_,rfl,?_⟩⟩;rw [ewh];by_cases c:i5 w' s'=tt
   ·rw [decide_eq_true c];exact jJ (jJ ⟨w',hJ,C,by omega,.inl c,_,rfl⟩)
   ·rw [decide_eq_false c];obtain⟨rd',ap',eb',mu'⟩:=hw.resolve_left c;obtain⟨_,nw',fp',_⟩:=Z'.ok.at3 p ap';have can':CanD w' s' .step:=⟨by rw [C.L.br s' s2,nd];rfl,p,ap',by rw [jHl];exact rd'⟩
    refine kM ⟨_,rfl,_,rfl,_,rfl,_,rfl,z2,fun t nt=>C.done rX j4 nt s2 (D:=.step) trivial (fun e=>nomatch e) (fun p' e=>nomatch e) (by omega) fun G3 w3 pc3 C3 dq=>⟨_,rfl,jJ ⟨w3,pc3,C3,by have:=dq.fe;omega,?_,_,rfl⟩⟩⟩;obtain⟨c',i',dx⟩:=dq.x (by decide) can';have ds:Ds (w'.at s') (w3.at s') c' i':=dx;have ei:i'=p:=Option.some.inj (ds.ap.symm.trans ap');subst ei;have hP:(w'.at s').P i'=g.P i':=by
     have:(w'.at s').P=w'.P:=by unfold Wg.at;split<;>rfl
     rw [this,C.e.2.2.2]
    have af':=Z'.ok.af;have fT':=Z'.ok.fT;have bT':=Z'.ok.bT;have dc:=ds.c;rw [rt',hP] at dc;rw [rt'] at fT' bT' nw';rw [hP] at fp';by_cases cw:(w'.at s').z.b+c'=tt+1
    ·left;unfold i5;rw [ds.z1];show (w'.at s').z.b+(c'-1)=tt;omega
    ·right;have es:=ds.s1;rw [jHl,jHl] at es;have ez3:=ds.z1;rw [rt'] at ez3;have eoa:qB tt (w'.at s').z c'=some i':=by unfold qB;rw [if_neg cw];exact ap'
     rw [eoa] at ez3;refine⟨by rw [es];exact rd',by rw [ez3],by rw [ez3];exact eb',?_⟩;have st:=mu_step (T:=tt) (P:=g.P i') (b:=(w'.at s').z.b) (a:=(w'.at s').z.a) (f:=(w'.at s').z.f) (ap:=some i') bT' af' fT' fp' nw' (by rw [<- dc];exact cw);rw [<- dc] at st;have eFb:tt+1-(w'.at s').z.b=F:=by rw [eb',eF]
     rw [eFb] at st;have e1:muZ F (g.P i') (w3.at s').z=muZ F (g.P i') ⟨some i',(w'.at s').z.b,c',tU tt (w'.at s').z.b (w'.at s').z.f⟩:=by rw [ez3]
     have e2:muZ F (g.P i') (w'.at s').z=muZ F (g.P i') ⟨some i',(w'.at s').z.b,(w'.at s').z.a,(w'.at s').z.f⟩:=rfl;rw [e1];rw [e2] at mu';omega
  ·-- the end
   obtain⟨w',hJ,C,f',hw,v7,rfl⟩:=zz;have Z':=C.L.Z.at s';have rt':=C.rt s' s2;rw [<- ett] at rt';have fF:F<=25:=by omega
   refine hR _ _ ⟨w',hJ,C,by omega,?_,_,rfl⟩;rcases hw with hw|⟨_,ap',eb',mu'⟩
   ·exact hw
   ·obtain⟨_,nw',_,_⟩:=Z'.ok.at3 p ap';have af':=Z'.ok.af;have fT':=Z'.ok.fT;rw [rt'] at nw' fT';unfold muZ at mu';exfalso;by_cases c:(w'.at s').z.f=F
    ·rw [if_pos c] at mu';omega
    ·rw [if_neg c] at mu';omega
 rintro σ G3 ⟨w3,pc3,C3,f3,o3,v7,rfl⟩;have Z3:=C3.L.Z.at s';have rt3:=C3.rt s' s2;refine⟨_,rfl,_,rfl,xe C3 ⟨_,_,_,_,_,_,rfl,Z3.R.o,rfl,T.aa,Daa,_,_,rfl,Z3.R,_,_,rfl,rfl,?_⟩⟩
 have e9:(decide ((R5 (w3.at s').r ((w3.at s').z.ap.map (w3.at s').ps) (w3.at s').z.b (w3.at s').z.a).ps=(R5 (w3.at s').r ((w3.at s').z.ap.map (w3.at s').ps) (w3.at s').z.b (w3.at s').z.a).tot))=true:=decide_eq_true (by
  show i5 w3 s'=(w3.at s').r.tot
  rw [o3,rt3,ett])
 rw [e9];exact q G3 w3 pc3 C3 (by rw [o3,rt3,ett]) f3
section
variable {cP cS cY cM cW:Addr}{H0 H H' G:Hp}{x p q D:Addr}{ps:Nat->Addr}{d e:PD}{ds:Nat->PD}{P:Nat->Nat}{i n:Nat}{ts us:List V}
structure Pn(cP cS cY cM cW:Addr)(H0 H:Hp)(p:Addr)(d:PD)(nm0:Str)(P0:Nat):Prop where
 P:iA cP cS cY cM cW H p d
 nm:d.name=nm0
 pa:d.path=(P0:Int)
 tg:d.tags=[]
 S:d.S=.rd
 st:Stk d lV m6 0
 np:H0 p=none
 ni:H0 d.ins=none
 n1:H0 d.tr1=none
 n2:H0 d.tr2=none
 n3:H0 d.ik1=none
 n4:H0 d.ik2=none
structure P3(cP cS cY cM cW:Addr)(H0 H:Hp)(D:Addr)(ps:Nat->Addr)(ds:Nat->PD)(n:Nat)(P:Nat->Nat):Prop where
 a:∀ i,i<n->Pn cP cS cY cM cW H0 H (ps i) (ds i) (pn i) (P i)/\D≠(ds i).ins
 s:∀ i j,i<n->j<n->i≠j->Sp2 (ps i) (ps j) (ds i) (ds j)
theorem jNC(U:iA cP cS cY cM cW H p d)(N:Pn cP cS cY cM cW H H' q e nm0 P0):Sp2 p q d e/\Sp2 q p e d:=by
 obtain⟨⟨dt,t1⟩,t2,t3,_⟩:=U.T;obtain⟨⟨di,i1⟩,i2,i3,_⟩:=U.I;exact⟨⟨eJ U.o N.np,eJ U.n N.ni,eJ t3 N.n1,eJ t3 N.n2,eJ t3 N.n3,eJ t3 N.n4,eJ i3 N.n1,eJ i3 N.n2,eJ i3 N.n3,eJ i3 N.n4⟩,⟨(eJ U.o N.np).symm,(eJ U.n N.ni).symm,(eJ t2 N.n2).symm,(eJ t3 N.n2).symm,(eJ i2 N.n2).symm,(eJ i3 N.n2).symm,(eJ t2 N.n4).symm,(eJ t3 N.n4).symm,(eJ i2 N.n4).symm,(eJ i3 N.n4).symm⟩⟩
def uP(ps:Nat->Addr)(i:Nat)(x:Addr):Nat->Addr:=fun j=>if j=i then x else ps j
def qZ(n:Nat)(ps:Nat->Addr):List V:=(range n).map fun j=>V.ref (ps j)
theorem jHp(n:Nat)(ps:Nat->Addr)(x:Addr):qZ n ps++[.ref x]=qZ (n+1) (uP ps n x):=by
 unfold qZ;rw [mQ,dU];congr 1
 ·refine iR fun j hj=>?_;have:=j8.mp hj;unfold uP;rw [if_neg (by omega)]
 ·show _=[V.ref (uP ps n x n)]
  unfold uP;rw [if_pos rfl]
theorem iA.upl(U:iA cP cS cY cM cW H q e)(hl:H x=some (.lst ts))(n1:x≠e.ins):iA cP cS cY cM cW (upd H x (.lst us)) q e:=U.gen (fun b C d fs e=>by rw [dW (uX e hl)];exact e) (fun b kv e=>by rw [dW (eW e hl nofun)];exact e) (by rw [dW (symm n1)];exact U.n)
theorem P3.add(h:P3 cP cS cY cM cW H0 H D ps ds n P)(sm:eC H0 H)(s:eC H G)(N:Pn cP cS cY cM cW H G x d (pn n) (P n))(hD:H D=some (.lst ts)):P3 cP cS cY cM cW H0 (upd G D (.lst us)) D (uP ps n x) (pB ds n d) (n+1) P:=by
 have hDG:=s _ _ hD;have nD:D≠d.ins:=eJ hD N.ni;have e0:uP ps n x n=x/\pB ds n d n=d:=⟨if_pos rfl,if_pos rfl⟩
 have e1:∀ i,i≠n->uP ps n x i=ps i/\pB ds n d i=ds i:=fun i c=>⟨if_neg c,if_neg c⟩
 refine⟨fun i hi=>?_,fun i j hi hj ij=>?_⟩
 ·by_cases c:i=n
  ·subst c;rw [e0.1,e0.2];exact⟨{ N with P:=N.P.upl hDG nD,np:=sm.free N.np,ni:=sm.free N.ni,n1:=sm.free N.n1,n2:=sm.free N.n2,n3:=sm.free N.n3,n4:=sm.free N.n4 },nD⟩
  ·rw [(e1 i c).1,(e1 i c).2];obtain⟨a,b⟩:=h.a i (by omega);exact⟨{ a with P:=(a.P.same s).upl hDG b },b⟩
 ·by_cases c:i=n
  ·subst c;rw [e0.1,e0.2,(e1 j (symm ij)).1,(e1 j (symm ij)).2];exact (jNC (h.a j (by omega)).1.P N).2
  ·rw [(e1 i c).1,(e1 i c).2];by_cases c2:j=n
   ·subst c2;rw [e0.1,e0.2];exact (jNC (h.a i (by omega)).1.P N).1
   ·rw [(e1 j c2).1,(e1 j c2).2];exact h.s i j (by omega) (by omega) ij
end
theorem jIW:lV≠m6:=by decide +kernel
inductive jDZ(cP cS cY cM cW:Addr)(vs:List V)(H:Hp)(Q:VK)(E_:XK):Prop|mk (nm:Str) (P0:Nat):vs=[.str nm,.int (P0:Int)]->(∀ x d H',eC H H'->Pn cP cS cY cM cW H H' x d nm P0->Q (.ref x) H')->jDZ cP cS cY cM cW vs H Q E_
theorem jF_:gF ["_law_name","_law_path","_law_printer_here"] ["_law_name","_law_path"] (fY jEi):=scM
include T in
theorem jJX(F:Fun K "_law_printer" "_law_printer" jEi fa fd)(DbD:MkD P w K mg base 4 "Printer" cZ ["self","name","can","path","papers","black","colour"] (jHc cZ cQ yJ yW yU))(DaM:MtE P w K mg base 7 "load" cZ ["self","kind","many"] (jG_ cZ cQ yJ yW yU))(DbE:MtE P w K mg base 6 "fill" cZ ["self","black","coloured"] (jHa cZ cQ yJ yW yU)) :
 fJ P w K mg base CX0 8 fa fd ["_law_name","_law_path"] (jDZ cZ cQ yJ yW yU):=by
 refine F.ok jF_ fun fE A outer s H vs Q E hr h=>?_;obtain⟨nm,P0,rfl,q⟩:=h;exists _,(d9 (psA (i:=2) jF_.nd (jCI DbD hr.m rfl (dJ (pv 0) (dJ (lQ (dJ hX dX)) (dJ (pv 1) (dJ (jIa (xA hX eO (xA hX eO jH_)) rfl rfl (by decide) (by decide)) (dJ eO (dJ eO dX)))))))) (d9 (kE (oM 7 nR hr.m (pv 2) (dJ hX (dJ eO dX)))) (d9 (kE (oM 7 nR hr.m (pv 2) (dJ hX (dJ eO dX)))) (d9 (kE (oM 6 nR hr.m (pv 2) (dJ eO (dJ eO dX)))) (d7 (gY (pv 2)))))))
 refine kY (fun σ G=>eC H G/\∃ x d,iA cZ cQ yJ yW yU G x d/\d.name=nm/\d.path=(P0:Int)/\d.rs=[(lV,2000),(m6,2000)]/\d.am=[(lV,0),(m6,0)]/\d.rb=9999/\d.rc=9999/\d.b=0/\d.c=0/\d.tags=[]/\d.S=.rd/\H x=none/\H d.ins=none/\H d.tr1=none/\H d.tr2=none/\H d.ik1=none/\H d.ik2=none/\σ=[some (.str nm),some (.int (P0:Int)),some (.ref x)]) (fun R hR=>⟨_,rfl,wq1,fun cl ncl=>?_⟩) ?_
 ·have s1:=gM ncl (.lst [V.str (c7 "both")]);have rZ:upd H cl (.lst [V.str (c7 "both")]) cl=some (.lst [V.str (c7 "both")]):=d4;generalize upd H cl (.lst [V.str (c7 "both")])=G1 at s1 rZ ⊢;refine⟨_,rfl,fun rd nrd=>?_⟩;have s2:=gM nrd (.dK []);have hrd1:upd G1 rd (.dK []) rd=some (.dK []):=d4;refine⟨hrd1,[(Sum.inr lV,.int 2000),(Sum.inr m6,.int 2000)],rfl,(by show 2<=15;decide),?_⟩;have ndk:[(Sum.inr lV:Key),Sum.inr m6].Nodup:=by
   rw [fN];exact⟨fun hm=>jIW (Sum.inr.inj (mem_singleton.mp hm)),fN.mpr ⟨d6,jN⟩⟩
  rw [jGV (ks:=[Sum.inr lV,Sum.inr m6]) rfl ndk];have s3:eC G1 (upd (upd G1 rd (.dK [])) rd (.dK ([]++[((Sum.inr lV:Key),V.int 2000),(Sum.inr m6,V.int 2000)]))):=w5 nrd s2 _;have hrd:upd (upd G1 rd (.dK [])) rd (.dK ([]++[((Sum.inr lV:Key),V.int 2000),(Sum.inr m6,V.int 2000)])) rd=some (.dK (dI [(lV,2000),(m6,2000)])):=d4;generalize upd (upd G1 rd (.dK [])) rd (.dK ([]++[((Sum.inr lV:Key),V.int 2000),(Sum.inr m6,V.int 2000)]))=G3 at s3 hrd ⊢;refine fun x dx nx' ndx nxd=>?_;have ki:∀ b o,G3 b=some o->b≠x/\upd (upd G3 dx (.own x)) x (.ins cZ dx []) b=some o:=fun b o e=>by
   have b1:b≠x:=eJ e nx';exact⟨b1,by rw [dW b1,dW (eJ e ndx)];exact e⟩
  have fk:∀ b,upd (upd G3 dx (.own x)) x (.ins cZ dx []) b=none->G3 b=none:=fun b nb=>by
   cases e:G3 b with
   | none=>rfl
   | some o=>rw [(ki b o e).2] at nb;cases nb
  have ndr:(([(lV,2000),(m6,2000)]:List (Str×Int)).map (·.1)).Nodup:=by
   show [lV,m6].Nodup;rw [fN];exact⟨fun hm=>jIW (mem_singleton.mp hm),fN.mpr ⟨d6,jN⟩⟩
  refine⟨x,dx,cl,rd,nm,(P0:Int),9999,9999,_,[(lV,2000),(m6,2000)],rfl,d4,(ki _ _ (s3 _ _ rZ)).2,(ki _ _ hrd).2,ndr,by show 2<=900;decide,fun d G4 kp4 P4' enm ep ers eam erb erc eb ec etg eS n1' n2' n3' n4' n5'=>⟨rfl,?_⟩⟩;have s4:eC G3 G4:=fun b o e=>kp4 b o (ki b o e).1 (ki b o e).2;have rK:=s1.trans s3;exact hR _ _ ⟨rK.trans s4,x,d,P4',enm,ep,ers,eam,erb,erc,eb,ec,etg,eS,rK.free nx',rK.free (fk _ n5'),rK.free (fk _ n1'),rK.free (fk _ n2'),rK.free (fk _ n3'),rK.free (fk _ n4'),rfl⟩
 rintro σ G ⟨sG,x,d,Pp,enm,ep,ers,eam,erb,erc,eb,ec,etg,eS,n0,n5,n1,n2,n3,n4,rfl⟩;have k01:=jIW;have l0:∀ v w':Int,([(lV,v),(m6,w')]:List (Str×Int)).lookup lV=some v:=fun v w'=>by rw [eX,beq_self_eq_true]
 have l1:∀ v w':Int,([(lV,v),(m6,w')]:List (Str×Int)).lookup m6=some w':=fun v w'=>by rw [eX,show (m6==lV)=false from jZ.mpr fun z=>k01 (eq_of_beq z).symm,eX,beq_self_eq_true]
 refine⟨_,rfl,x,_,_,_,_,_,rfl,Pp.o,rfl,T.ad,DaM,x,d,lV,2000,2000,0,rfl,Pp,by rw [ers];exact l0 _ _,by rw [eam];exact l0 _ _,by decide,fun G1 kp1 P1=>?_⟩;have ea1:lS d.am lV (0+2000)=[(lV,2000),(m6,0)]:=by
  rw [eam];unfold lS;simp only [dQ,kU];rw [if_pos trivial,if_neg (symm k01)];rfl
 refine⟨_,rfl,x,_,_,_,_,_,rfl,P1.o,rfl,T.ad,DaM,x,_,m6,2000,2000,0,rfl,P1,by rw [show ({ d with am:=lS d.am lV (0+2000) }:PD).rs=d.rs from rfl,ers];exact l1 _ _,by rw [show ({ d with am:=lS d.am lV (0+2000) }:PD).am=lS d.am lV (0+2000) from rfl,ea1];exact l1 _ _,by decide,fun G2 kp2 P2=>?_⟩;have ea2:lS (lS d.am lV (0+2000)) m6 (0+2000)=[(lV,2000),(m6,2000)]:=by
  rw [ea1];unfold lS;simp only [dQ,kU];rw [if_neg k01,if_pos trivial];rfl
 refine⟨_,rfl,x,_,_,_,_,_,rfl,P2.o,rfl,T.ad,DbE,x,_,9999,9999,rfl,P2,by show d.b+9999<=d.rb;rw [eb,erb];decide,by show d.c+9999<=d.rc;rw [ec,erc];decide,fun G3' kp3 P3'=>?_⟩;have kk:∀ b o,b≠d.tr2->b≠d.ik2->G b=some o->G3' b=some o:=fun b o b1 b2 e=>kp3 _ _ b2 (kp2 _ _ b1 (kp1 _ _ b1 e));exact⟨_,rfl,q x _ G3' (fun b o e=>kk b o (eJ e n2) (eJ e n4) (sG _ _ e)) ⟨P3',enm,ep,etg,eS,⟨2000,2000,ea2,by decide,by decide,by show (9999:Int)<=d.b+9999+32*0;rw [eb];decide,by show (9999:Int)<=d.c+9999+32*0;rw [ec];decide⟩,n0,n5,n1,n2,n3,n4⟩⟩
theorem ink_32(ok:j.Ok):∀ s∈wT j,s.1<=32/\s.2<=32:=fun s hs=>by
 unfold wT at hs;obtain⟨t,ht,rfl⟩:=eI.mp hs;obtain⟨i,hi⟩:=mem_iff_getElem?.mp ht;obtain⟨l1,l2⟩:t.1.length<=16/\t.2.length<=16:=by
  have c:=Ly.cells_pos ok.2.2;unfold wW at hi;rw [getElem?_map] at hi;obtain⟨k,_,rfl⟩:=dY.mp hi;unfold jEC jGA;refine⟨by rw [c6,dP];omega,?_⟩;dsimp only;split
  ·rw [c6,dP];omega
  ·rw [iD];omega
 have h1:(jCL t).length<=32:=by
  unfold jCL;have:=iE (fun x=>decide (x≠0)) (t.1++t.2);rw [dH] at this;omega
 have h2:=iE (jIj j.colour) (jCL t);unfold tL;dsimp only;constructor<;>omega
structure Nr(cR cJ:Addr)(H H':Hp)(jl wl dl:Addr)(us vs ws:List V)(x:Addr)(r:RD)(nm:Str):Prop where
 kp:∀ b o,b≠jl->b≠wl->b≠dl->H b=some o->H' b=some o
 j:∃ t,H t=none/\H' jl=some (.lst (us++[.ref t]))/\H' t=some (.tup [.str nm,.int ((r.inks.length:Nat):Int),.int ((r.tot:Nat):Int)])
 w:H' wl=some (.lst (vs++[.non]))
 d:H' dl=some (.lst (ws++[.bl false]))
 R:jG cR cJ H' x r
 k:Rk r
 nm:r.nm=nm
 br:r.br=false
 e:R5 r none 0 0=r
 nx:H x=none
 ni:H r.il=none
inductive jGw(K:PySem.W.Frag)(cR cJ:Addr)(vs:List V)(H:Hp)(Q:VK)(E_:XK):Prop|mk (a dm jl wl dl:Addr) (n:Nat) (nm:Str) (ns:List Int) (us ws xs:List V):vs=[.ref a,.int (n:Int),.str nm,.ref dm]->SqL K H a (ns.map V.int)->(∃ kv,H dm=some (.dK kv)/\m7 kv (kw "jobs")=some (.ref jl)/\m7 kv (kw "where")=some (.ref wl)/\m7 kv (kw "dropped")=some (.ref dl))->H jl=some (.lst us)->H wl=some (.lst ws)->H dl=some (.lst xs)->us.length<=2->ws.length<=2->xs.length<=2->jl≠wl->jl≠dl->wl≠dl->(∀ x r H',Nr cR cJ H H' jl wl dl us ws xs x r nm->Q (.ref x) H')->jGw K cR cJ vs H Q E_
theorem jCz:gF ["_law_script","_law_r","_law_name","_law_m","_law_cell","_law_pages","_law_layout","_law_copies","_law_each_here"] ["_law_script","_law_r","_law_name","_law_m"] (fY jG9):=scM
include T in
theorem jNf(F:Fun K "_law_run" "_law_run" jG9 fa fd)(Dan:Dfn P w K mg base 1 "_law_cell_at" ["_law_script","_law_k"] (jCC K))(DbF:Dfn P w K mg base 1 "_law_each" ["_law_pages","_law_layout"] (jFK K))(DbG:MkD P w K mg base 6 "Run" yK ["self","job"] (jHh yK yG))(Dad:Dfn P w K mg base 1 "_law_mix" ["_law_cell","_law_k","_law_many"] (jC8 K))(DbH:MkD P w K mg base 1 "Job" yG ["self","name","asker","pages","copies","layout","paper","cover","colour","staple","after"] (jGt yG)) :
 fJ P w K mg base CX0 8 fa fd ["_law_script","_law_r","_law_name","_law_m"] (jGw K yK yG):=by
 refine F.ok jCz fun fE A outer s H vs Q E hr h=>?_;obtain⟨a,dm,jl,wl,dl,rN,nm,ns,us,ws,xs,rfl,hS,⟨kv,hdm,gj,gw,gd⟩,mD,mL,pP,n1,n2,n3,jw,jd,wd',q⟩:=h;have hu:=uQ hr 0 (by decide);exists _,(d9 (psA (i:=4) jCz.nd (lX Dan hr.m rfl (dJ (pv 0) (dJ (pv 1) dX)))) (d9 (psA (i:=5) jCz.nd (iO oE eO (iO t8 (pv 4) eO))) (d9 (psA (i:=6) jCz.nd (ixA lE (lQ (dJ hX (dJ hX (dJ hX (dJ (iO jCR hX (uC jCF rfl T.aE jHE (dJ (iO oE eO (lX Dad hr.m rfl (dJ (pv 4) (dJ eO (dJ eO dX))))) dX))) dX))))) (lX Dad hr.m rfl (dJ (pv 4) (dJ eO (dJ eO dX)))))) (d9 (psA (i:=7) jCz.nd (iO oE eO (lX Dad hr.m rfl (dJ (pv 4) (dJ eO (dJ eO dX)))))) (d9 (psA (i:=8) jCz.nd (lX DbF hr.m rfl (dJ (pv 5) (dJ (pv 6) dX)))) (d9 (kE (vR eD PySem.F.slot_list_append PySem.F.type_list_append jCm (dgA hu (pv 3) hX) (dJ (mT (dJ (pv 2) (dJ (pv 8) (dJ (iO jFk (pv 8) (pv 7)) dX)))) dX))) (d9 (kE (vR eD PySem.F.slot_list_append PySem.F.type_list_append jCm (dgA hu (pv 3) hX) (dJ nX dX))) (d9 (kE (vR eD PySem.F.slot_list_append PySem.F.type_list_append jCm (dgA hu (pv 3) hX) (dJ nQ dX))) (d7 (gY (jCI DbG hr.m rfl (dJ (jCI DbH hr.m rfl (dJ (pv 2) (dJ hX (dJ (pv 5) (dJ (pv 7) (dJ (pv 6) (dJ hX (dJ (ixA lE (lQ (dJ nX (dJ hX dX))) (lX Dad hr.m rfl (dJ (pv 4) (dJ eO (dJ eO dX))))) (dJ nX (dJ nQ (dJ (mT dX) dX))))))))))) dX))))))))))))
 have z4:4<=c9:=small (by decide);refine kY (fun σ G=>H=G/\σ=[some (.ref a),some (.int (rN:Int)),some (.str nm),some (.ref dm),some (.int (ns.getD (rN:Int).toNat 0)),none,none,none,none]) (fun R hR=>⟨_,rfl,_,rfl,a,_,ns,rfl,hS,Int.natCast_nonneg _,hR _ _ ⟨rfl,rfl⟩⟩) ?_;generalize ns.getD (rN:Int).toNat 0=c;rintro σ G ⟨rfl,rfl⟩;obtain⟨n,en,p1,p9⟩:∃ n:Nat,1+c%8=(n:Int)/\1<=n/\n<=8:=by
  have:=gU c (show (8:Int)≠0 by decide);have:=fK c (show (0:Int)<8 by decide);exact⟨(1+c%8).toNat,by omega,by omega,by omega⟩
 refine kY (fun σ G=>H=G/\σ=[some (.ref a),some (.int (rN:Int)),some (.str nm),some (.ref dm),some (.int c),some (.int (n:Int)),none,none,none]) (fun R hR=>⟨_,rfl,_,_,rfl,rfl,(by show (0:Int)<8;decide),_,_,rfl,rfl,hR _ _ ⟨rfl,by rw [<- en];rfl⟩⟩) ?_;rintro σ G ⟨rfl,rfl⟩;obtain⟨u,eu,u1,u2⟩:∃ u:Nat,2+oJ c 2 15=(u:Int)/\2<=u/\u<=16:=by
  have:=jGF (c:=c) (k:=2) (show (0:Int)<15 by decide);have:=jGG (c:=c) (k:=2) (show (0:Int)<15 by decide);exact⟨(2+oJ c 2 15).toNat,by omega,by omega,by omega⟩
 have us':=jPG u (by omega);refine kY (fun σ G=>eC H G/\∃ ly:Ly,ly.Ok/\σ=[some (.ref a),some (.int (rN:Int)),some (.str nm),some (.ref dm),some (.int c),some (.int (n:Int)),some (.str (Ly.text ly)),none,none]) (fun R hR=>?_) ?_
 ·refine⟨_,rfl,c,2,15,rfl,by decide,by decide,by decide,fun H1 s1=>⟨_,_,rfl,rfl,_,rfl,(by show (2+oJ c 2 15).natAbs.log2<1920;rw [eu];exact us'.1),_,_,rfl,rfl,(by show (c7 "up:").length+(c7 (toString (2+oJ c 2 15))).length<=c9;rw [eu];exact small us'.2),z4,fun ll nll=>?_⟩⟩;rw [show c7 (toString (2+oJ c 2 15))=c7 (toString (u:Int)) by rw [eu]];refine⟨_,rfl,c,1,4,rfl,by decide,by decide,by decide,fun H3 s3=>⟨ll,_,_,rfl,rfl,SqL.of (s3 _ _ d4),jGF (by decide),jGG (by decide),fun v hv=>?_⟩⟩;obtain⟨ly,rfl,okl⟩:∃ ly:Ly,v=.str (Ly.text ly)/\ly.Ok:=by
   have hm:=mem_of_getElem? hv;simp only [dZ,d6,or_false] at hm;rcases hm with rfl|rfl|rfl|rfl
   ·exact⟨.one,rfl,trivial⟩
   ·exact⟨.one,rfl,trivial⟩
   ·exact⟨.both,rfl,trivial⟩
   ·exact⟨.up u,rfl,u1,u2⟩
  exact hR _ _ ⟨(s1.trans (gM nll _)).trans s3,ly,okl,rfl⟩
 rintro σ H3 ⟨t3,ly,okl,rfl⟩;obtain⟨cp,ec,c1,c3⟩:∃ cp:Nat,1+oJ c 3 3=(cp:Int)/\1<=cp/\cp<=3:=by
  have:=jGF (c:=c) (k:=3) (show (0:Int)<3 by decide);have:=jGG (c:=c) (k:=3) (show (0:Int)<3 by decide);exact⟨(1+oJ c 3 3).toNat,by omega,by omega,by omega⟩
 refine kY (fun σ G=>eC H G/\σ=[some (.ref a),some (.int (rN:Int)),some (.str nm),some (.ref dm),some (.int c),some (.int (n:Int)),some (.str (Ly.text ly)),some (.int (cp:Int)),none]) (fun R hR=>⟨_,rfl,c,3,3,rfl,by decide,by decide,by decide,fun H4 s4=>⟨_,_,rfl,rfl,hR _ _ ⟨t3.trans s4,by rw [<- ec];rfl⟩⟩⟩) ?_;clear t3 us' eu;rintro σ H3 ⟨t3,rfl⟩;have cn1:1<=mO ly n:=by unfold mO;exact Nat.le_add_left 1 _
 have cn9:mO ly n<=n:=jOU p1;refine kY (fun σ G=>H3=G/\σ=[some (.ref a),some (.int (rN:Int)),some (.str nm),some (.ref dm),some (.int c),some (.int (n:Int)),some (.str (Ly.text ly)),some (.int (cp:Int)),some (.int ((mO ly n:Nat):Int))]) (fun R hR=>⟨_,rfl,_,rfl,n,ly,rfl,okl,p1,by omega,hR _ _ ⟨rfl,rfl⟩⟩) ?_;rintro σ G ⟨rfl,rfl⟩
 -- the book
 have hd3:=t3 _ _ hdm;have hj3:=t3 _ _ mD;refine⟨_,rfl,dm,_,rfl,sW hd3 gj,.inl ⟨rfl,_,SqL.of hj3⟩,_,rfl,_,rfl,_,rfl,_,rfl,_,_,rfl,rfl,.inl ⟨by omega,by omega⟩,wq3,fun t nt=>?_⟩;have a1:=gM nt (.tup [.str nm,.int ((mO ly n:Nat):Int),.int (((mO ly n:Nat):Int)*(cp:Int))]);have ht1:upd H3 t (.tup [.str nm,.int ((mO ly n:Nat):Int),.int (((mO ly n:Nat):Int)*(cp:Int))]) t=some (.tup [.str nm,.int ((mO ly n:Nat):Int),.int (((mO ly n:Nat):Int)*(cp:Int))]):=d4;generalize upd H3 t (.tup [.str nm,.int ((mO ly n:Nat):Int),.int (((mO ly n:Nat):Int)*(cp:Int))])=G1 at a1 ht1 ⊢;have t4:=t3.trans a1;have nl:∀ {us:List V},us.length<=2->us.length<c9:=fun h=>dO (show _<4 by omega) z4;exists jl,us,_,rfl,rfl,t4 _ _ mD,nl n1;have k1:∀ b o,b≠jl->H b=some o->upd G1 jl (.lst (us++[.ref t])) b=some o:=fun b o h e=>by rw [dW h];exact t4 _ _ e
 have hd4:=k1 _ _ (eW hdm mD nofun) hdm;have hw4:=k1 _ _ jw.symm mL;have ht4:upd G1 jl (.lst (us++[.ref t])) t=some (.tup [.str nm,.int ((mO ly n:Nat):Int),.int (((mO ly n:Nat):Int)*(cp:Int))]):=by rw [dW (eJ (t3 _ _ mD) nt).symm];exact ht1
 have hj4:upd G1 jl (.lst (us++[.ref t])) jl=some (.lst (us++[.ref t])):=d4;have kd1:∀ b o,b≠jl->G1 b=some o->upd G1 jl (.lst (us++[.ref t])) b=some o:=fun b o h e=>by rw [dW h];exact e
 generalize upd G1 jl (.lst (us++[.ref t]))=G2 at k1 hd4 hw4 ht4 hj4 kd1 ⊢;exists _,rfl,dm,_,rfl,sW hd4 gw,.inl ⟨rfl,_,SqL.of hw4⟩,wl,ws,_,rfl,rfl,hw4,nl n2;have k2:∀ b o,b≠jl->b≠wl->H b=some o->upd G2 wl (.lst (ws++[.non])) b=some o:=fun b o h h2 e=>by rw [dW h2];exact k1 _ _ h e
 have hd5:=k2 _ _ (eW hdm mD nofun) (eW hdm mL nofun) hdm;have hl5:=k2 _ _ jd.symm wd'.symm pP;have ht5:upd G2 wl (.lst (ws++[.non])) t=some (.tup [.str nm,.int ((mO ly n:Nat):Int),.int (((mO ly n:Nat):Int)*(cp:Int))]):=by rw [dW (eJ (t3 _ _ mL) nt).symm];exact ht4
 have hj5:upd G2 wl (.lst (ws++[.non])) jl=some (.lst (us++[.ref t])):=by rw [dW jw];exact hj4
 have hw5:upd G2 wl (.lst (ws++[.non])) wl=some (.lst (ws++[.non])):=d4;generalize upd G2 wl (.lst (ws++[.non]))=G3 at k2 hd5 hl5 ht5 hj5 hw5 ⊢;exists _,rfl,dm,_,rfl,sW hd5 gd,.inl ⟨rfl,_,SqL.of hl5⟩,dl,xs,_,rfl,rfl,hl5,nl n3;have k3:∀ b o,b≠jl->b≠wl->b≠dl->H b=some o->upd G3 dl (.lst (xs++[.bl false])) b=some o:=fun b o h h2 h3 e=>by rw [dW h3];exact k2 _ _ h h2 e
 have ht6:upd G3 dl (.lst (xs++[.bl false])) t=some (.tup [.str nm,.int ((mO ly n:Nat):Int),.int (((mO ly n:Nat):Int)*(cp:Int))]):=by rw [dW (eJ (t3 _ _ pP) nt).symm];exact ht5
 have hj6:upd G3 dl (.lst (xs++[.bl false])) jl=some (.lst (us++[.ref t])):=by rw [dW jd];exact hj5
 have hw6:upd G3 dl (.lst (xs++[.bl false])) wl=some (.lst (ws++[.non])):=by rw [dW wd'];exact hw5
 have hd6:upd G3 dl (.lst (xs++[.bl false])) dl=some (.lst (xs++[.bl false])):=d4;generalize upd G3 dl (.lst (xs++[.bl false]))=H10 at k3 ht6 hj6 hw6 hd6 ⊢;have fr:∀ b,H10 b=none->H b=none:=fun b nb=>by
  cases e:H b with
  | none=>rfl
  | some o =>
    have:b≠jl/\b≠wl/\b≠dl:=⟨(fun z=>by rw [z,hj6] at nb;cases nb),(fun z=>by rw [z,hw6] at nb;cases nb),(fun z=>by rw [z,hd6] at nb;cases nb)⟩
    rw [k3 b o this.1 this.2.1 this.2.2 e] at nb;cases nb
 clear hd4 hw4 ht4 hj4 hd5 hl5 ht5 hj5 hw5 k1 k2 kd1 ht1 a1 t4 hd3 hj3
 -- the run
 refine⟨_,rfl,_,rfl,_,rfl,_,rfl,wq2,fun cl ncl=>⟨_,rfl,c,4,2,rfl,by decide,by decide,by decide,fun H1 s1=>⟨cl,_,_,rfl,rfl,SqL.of (s1 _ _ d4),jGF (by decide),jGG (by decide),fun cv hcv=>⟨d5 _,fun tp ntp=>?_⟩⟩⟩⟩;replace hcv:=mem_of_getElem? hcv;simp only [dZ,d6,or_false] at hcv;obtain⟨cvo,rfl,hco⟩:∃ cvo:Option Str,cv=oV cvo/\(cvo=none\/cvo=some m6):=by
  rcases hcv with rfl|rfl
  ·exact⟨none,rfl,.inl rfl⟩
  ·exact⟨some m6,rfl,.inr rfl⟩
 have l5:=((gM ncl (.lst [V.non,.str m6])).trans s1).trans (gM ntp (.tup []));generalize upd H1 tp (.tup [])=G11 at l5 ⊢;refine fun jx vN njx njdx njxd=>⟨jx,vN,_,_,_,_,_,_,_,_,_,_,rfl,d4,⟨rfl,?_⟩⟩
 dsimp only;have l6:eC G11 (upd (upd (upd G11 vN (.own jx)) jx (.ins yG vN [])) jx (.ins yG vN (tZ (.str nm) (.str (c7 "ann")) (.int (n:Int)) (.int (cp:Int)) (.str (Ly.text ly)) (.str lV) (oV cvo) .non (.bl false) (.ref tp)))):=jFV njx njdx;have hj:upd (upd (upd G11 vN (.own jx)) jx (.ins yG vN [])) jx (.ins yG vN (tZ (.str nm) (.str (c7 "ann")) (.int (n:Int)) (.int (cp:Int)) (.str (Ly.text ly)) (.str lV) (oV cvo) .non (.bl false) (.ref tp))) jx=some (.ins yG vN (tZ (.str nm) (.str (c7 "ann")) (.int (n:Int)) (.int (cp:Int)) (.str (Ly.text ly)) (.str lV) (oV cvo) .non (.bl false) (.ref tp))):=d4;generalize upd (upd (upd G11 vN (.own jx)) jx (.ins yG vN [])) jx (.ins yG vN (tZ (.str nm) (.str (c7 "ann")) (.int (n:Int)) (.int (cp:Int)) (.str (Ly.text ly)) (.str lV) (oV cvo) .non (.bl false) (.ref tp)))=G12 at l6 hj ⊢;have l46:=l5.trans l6;obtain⟨j,ej⟩:∃ j:Jv,j=⟨n,ly,lV,cvo,none⟩:=⟨_,rfl⟩
 have jok:j.Ok:=by rw [ej];exact⟨p1,by show n<=999;omega,okl⟩
 have J12:jHf yG G12 jx nm cp j:=⟨vN,_,_,_,.non,by rw [ej];exact hj,by rw [ej];rfl⟩
 refine fun rx rdx nrx nrdx nrxd=>?_;have kr:∀ b o,G12 b=some o->b≠rx/\upd (upd G12 rdx (.own rx)) rx (.ins yK rdx []) b=some o:=fun b o e=>by
  have b1:b≠rx:=eJ e nrx;exact⟨b1,by rw [dW b1,dW (eJ e nrdx)];exact e⟩
 refine⟨rx,rdx,jx,nm,cp,j,rfl,d4,J12.fr (fun o e=>(kr _ _ e).2) (fun b xs e=>(kr _ _ e).2),jok,c1,by omega,(kr _ _ hj).1,fun il G13 k13 jA R13=>⟨rfl,?_⟩⟩;have l7:eC G12 G13:=fun b o e=>k13 b o (kr b o e).1 (kr b o e).2;have nil12:H10 il=none:=by
  cases e:H10 il with
  | none=>rfl
  | some o=>rw [(kr il o (l46 _ _ e)).2] at jA;cases jA
 have elen:(wT j).length=mO ly n:=by unfold wT;rw [c6,jMv,ej]
 have tot:(uK rdx jx il nm cp j).tot=mO ly n*cp:=by show (wT j).length*cp=_;rw [elen]
 have l8:=l46.trans l7;refine q rx (uK rdx jx il nm cp j) G13 ⟨fun b o h1 h2 h3 e=>l8 _ _ (k3 b o h1 h2 h3 e),⟨t,t3.free nt,l8 _ _ hj6,?_⟩,l8 _ _ hw6,l8 _ _ hd6,R13,⟨by show j.paper=_;rw [ej],by show j.cover=_\/_;rw [ej];exact hco,ink_32 jok,?_,?_⟩,rfl,rfl,rfl,fr _ (l46.free nrx),fr _ nil12⟩
 ·rw [tot,show (uK rdx jx il nm cp j).inks.length=mO ly n from elen,Int.natCast_mul];exact l8 _ _ ht6
 ·rw [tot];exact Nat.mul_le_mul cn1 c1
 ·rw [tot];exact le_trans (Nat.mul_le_mul (le_trans cn9 p9) c3) (by decide)
theorem jPN(h:us.length=3)(g:∀ (i:Nat) y,us[i]?=some y->∃ P:Nat,y=.int (P:Int)/\1<=P/\P<=4):∃ P:Nat->Nat,us=l3 (fun i=>.int (P i:Int))/\∀ i,P i<=4:=by
 match us,h,g with
 | [u0,u1,u2],_,g =>
   obtain⟨a,rfl,a1,a2⟩:=g 0 u0 rfl;obtain⟨b,rfl,b1,b2⟩:=g 1 u1 rfl;obtain⟨c,rfl,c1,c2⟩:=g 2 u2 rfl;refine⟨fun i=>if i=0 then a else if i=1 then b else c,rfl,fun i=>?_⟩;dsimp only;split
   ·exact a2
   ·split
    ·exact b2
    ·exact c2
structure Bs(H:Hp)(b:Mb)(n:Nat)(J:List V):Prop where
 m:H b.dm=some (.dK b.kv)
 hd:H b.hd=some (.dK (rY (tI b fun _=>[])))
 h:∀ i,i<3->H (b.h i)=some (.lst [])
 j:H b.jl=some (.lst J)
 w:H b.wl=some (.lst (eQ n .non))
 d:H b.dl=some (.lst (eQ n (.bl false)))
 nd:(b.jl::b.own).Nodup
def setR(rs:Nat->RD)(i:Nat)(r:RD):Nat->RD:=fun j=>if j=i then r else rs j
structure R2(cR cJ:Addr)(H0 H:Hp)(b:Mb)(D:Addr)(nf:Nat->Str)(xs ts:Nat->Addr)(rs:Nat->RD)(n:Nat):Prop where
 B:Bs H b n (qZ n ts)
 kp:∀ l o,l≠b.jl->l≠b.wl->l≠b.dl->H0 l=some o->H l=some o
 l:H D=some (.lst (qZ n xs))
 a:∀ i,i<n->jG cR cJ H (xs i) (rs i)/\D≠(rs i).il
 i:∀ i,i<n->Rk (rs i)/\(rs i).nm=nf i/\(rs i).br=false/\R5 (rs i) none 0 0=rs i/\H0 (rs i).il=none
 t:∀ i,i<n->H (ts i)=some (.tup [.str (nf i),.int (((rs i).inks.length:Nat):Int),.int (((rs i).tot:Nat):Int)])
 s:∀ i j,i<j->j<n->xs i≠xs j
section
variable {cR cJ:Addr}{H0 H G:Hp}{b:Mb}{D x:Addr}{nf:Nat->Str}{xs ts:Nat->Addr}{rs:Nat->RD}{r:RD}{n:Nat}{J:List V}
theorem Bs.ne(h:Bs H b n J):b.jl≠b.wl/\b.jl≠b.dl/\b.wl≠b.dl/\∀ i,i<3->b.h i≠b.jl/\b.h i≠b.wl/\b.h i≠b.dl:=by
 have h1:=fN.mp h.nd;obtain⟨o1,o2,_⟩:=jJV h1.2;exact⟨jDY h1.1 (by unfold Mb.own;simp),jDY h1.1 (by unfold Mb.own;simp),o1,fun i i3=>⟨(jDY h1.1 (jJT i3)).symm,(o2 i i3).1,(o2 i i3).2⟩⟩
theorem R2.free(q:R2 cR cJ H0 H b D nf xs ts rs n){l:Addr}(nl:H l=none):H0 l=none:=by
 cases e:H0 l with
 | none=>rfl
 | some o =>
   rw [q.kp l o (fun z=>by rw [z,q.B.j] at nl;cases nl) (fun z=>by rw [z,q.B.w] at nl;cases nl) (fun z=>by rw [z,q.B.d] at nl;cases nl) e] at nl;cases nl
theorem R2.add(q:R2 cR cJ H0 H b D nf xs ts rs n)(h0:Bs H0 b 0 [])(nD:H0 D=none)(N:Nr cR cJ H G b.jl b.wl b.dl (qZ n ts) (eQ n .non) (eQ n (.bl false)) x r (nf n)):G D=some (.lst (qZ n xs))/\∃ ts',R2 cR cJ H0 (upd G D (.lst (qZ n xs++[.ref x]))) b D nf (uP xs n x) ts' (setR rs n r) (n+1):=by
 have Dj:D≠b.jl:=(eJ h0.j nD).symm;have Dw:D≠b.wl:=(eJ h0.w nD).symm;have Dd':D≠b.dl:=(eJ h0.d nD).symm;have hD:=N.kp _ _ Dj Dw Dd' q.l;obtain⟨t,nt,hj,ht⟩:=N.j;obtain⟨jw,jd,wd',hh⟩:=h0.ne;have up:∀ {l o},l≠D->G l=some o->upd G D (.lst (qZ n xs++[.ref x])) l=some o:=fun h e=>by rw [dW h];exact e
 have ki:∀ l C d fs,H l=some (.ins C d fs)->G l=some (.ins C d fs):=fun l C d fs e=>N.kp _ _ (uX e q.B.j) (uX e q.B.w) (uX e q.B.d) e;have kt:∀ l us,H l=some (.tup us)->G l=some (.tup us):=fun l us e=>N.kp _ _ (eW e q.B.j nofun) (eW e q.B.w nofun) (eW e q.B.d nofun) e;have ui:∀ l C d fs,G l=some (.ins C d fs)->upd G D (.lst (qZ n xs++[.ref x])) l=some (.ins C d fs):=fun l C d fs e=>up (uX e hD) e;have ut:∀ l us,G l=some (.tup us)->upd G D (.lst (qZ n xs++[.ref x])) l=some (.tup us):=fun l us e=>up (eW e hD nofun) e;have Dm:∀ {l o},H0 l=some o->l≠D:=fun e=>eJ e nD;have kk:∀ {l o},l≠b.jl->l≠b.wl->l≠b.dl->H0 l=some o->upd G D (.lst (qZ n xs++[.ref x])) l=some o:=fun a1 a2 a3 e=>up (Dm e) (N.kp _ _ a1 a2 a3 (q.kp _ _ a1 a2 a3 e));refine⟨hD,uP ts n t,⟨⟨?_,?_,fun i i3=>kk (hh i i3).1 (hh i i3).2.1 (hh i i3).2.2 (h0.h i i3),?_,?_,?_,h0.nd⟩,fun l o a1 a2 a3 e=>kk a1 a2 a3 e,?_,fun i hi=>?_,fun i hi=>?_,fun i hi=>?_,fun i j ij hj=>?_⟩⟩
 ·exact kk (eW h0.m h0.j nofun) (eW h0.m h0.w nofun) (eW h0.m h0.d nofun) h0.m
 ·exact kk (eW h0.hd h0.j nofun) (eW h0.hd h0.w nofun) (eW h0.hd h0.d nofun) h0.hd
 ·rw [<- jHp];exact up Dj.symm hj
 ·rw [List.replicate_succ'];exact up Dw.symm N.w
 ·rw [List.replicate_succ'];exact up Dd'.symm N.d
 ·rw [d4,jHp]
 ·unfold uP setR;by_cases c:i=n
  ·rw [if_pos c,if_pos c];have nd:D≠r.il:=eJ q.l N.ni;exact⟨N.R.fr ui (fun o e=>up nd.symm e) ut,nd⟩
  ·rw [if_neg c,if_neg c];obtain⟨R,d⟩:=q.a i (by omega);have il0:=(q.i i (by omega)).2.2.2.2;exact⟨R.fr (fun l C d fs e=>ui _ _ _ _ (ki _ _ _ _ e)) (fun o e=>up d.symm (N.kp _ _ (eJ h0.j il0).symm (eJ h0.w il0).symm (eJ h0.d il0).symm e)) (fun l us e=>ut _ _ (kt _ _ e)),d⟩
 ·unfold setR;by_cases c:i=n
  ·rw [if_pos c,c];exact⟨N.k,N.nm,N.br,N.e,q.free N.ni⟩
  ·rw [if_neg c];exact q.i i (by omega)
 ·unfold uP setR;by_cases c:i=n
  ·rw [if_pos c,if_pos c,c];exact ut _ _ ht
  ·rw [if_neg c,if_neg c];exact ut _ _ (kt _ _ (q.t i (by omega)))
 ·unfold uP;by_cases c:j=n
  ·rw [if_pos c,if_neg (by omega)];exact eJ (q.a i (by omega)).1.o N.nx
  ·rw [if_neg c,if_neg (by omega)];exact q.s i j ij (by omega)
theorem jMN(h:H x=some (.ins C d fs))(h':H y=some (.ins C' d' fs'))(n:fs.length≠fs'.length):x≠y:=eW h h' fun z=>by
 injection z with _ _ z;exact n (by rw [z])
end
theorem jPO 
 (h0:Bs H2 b 0 []) (nD:H2 rl=none) (q:R2 k.R k.J H2 H3 b rl nf xs ts rs 2) (s4:eC H3 H4) (nph:H3 ph=none) (hph:H4 ph=some (.lst (l3 fun i=>.int (Pf i:Int)))) (s5:eC H4 H5) (npl:H4 pl=none) (j4:H5 pl=some (.lst (l3 fun i=>.ref (ps i)))) (P:P3 k.P k.S k.Y k.M k.W H4 H5 pl ps ds 3 Pf) (s6:eC H5 H6) (nsm:H5 sm=none) (hsm:H6 sm=some (.lst us)) (ne:nf 0≠nf 1) (gt:mG H6 tP) (eb:b.d=fun _=>false) :
 Lw k tP H6 b ⟨xs 0,xs 1,ps,rs 0,rs 1,ds,Pf,⟨none,0,0,0⟩,⟨none,0,0,0⟩,fun _=>.rd,0⟩ (fun _=>[]) [(rl,[V.ref (xs 0),.ref (xs 1)]),(pl,l3 fun i=>.ref (ps i)),(ph,l3 fun i=>.int ((Pf i:Nat):Int)),(sm,us)]:=by
 have s35:=s4.trans s5;have s36:=s35.trans s6;have s46:=s5.trans s6;obtain⟨jw,jd,wd',hh⟩:=h0.ne;have nd:=fN.mp h0.nd;have rn:∀ i,i<2->jG k.R k.J H3 (xs i) (rs i):=fun i hi=>(q.a i hi).1;have hil:∀ i,i<2->∃ ys,H3 (rs i).il=some (.lst ys):=fun i hi=>let ⟨ys,e,_⟩:=(rn i hi).i;⟨_,e⟩
 -- the book's lists
 have old:∀ l∈b.jl::b.own,∃ u v,H2 l=some (.lst u)/\H3 l=some (.lst v):=fun l hl=>by
  unfold Mb.own at hl;simp only [dZ,d6,or_false] at hl;rcases hl with rfl|rfl|rfl|rfl|rfl|rfl
  ·exact⟨_,_,h0.j,q.B.j⟩
  ·exact⟨_,_,h0.w,q.B.w⟩
  ·exact⟨_,_,h0.d,q.B.d⟩
  ·exact⟨_,_,h0.h 0 (by decide),q.B.h 0 (by decide)⟩
  ·exact⟨_,_,h0.h 1 (by decide),q.B.h 1 (by decide)⟩
  ·exact⟨_,_,h0.h 2 (by decide),q.B.h 2 (by decide)⟩
 have offo:∀ l∈b.jl::b.own,(∀ i,i<3->l≠(ds i).ins)/\∀ i,i<2->(rs i).il≠l:=fun l hl=>by
  obtain⟨u,v,e2,e3⟩:=old l hl;exact⟨fun i i3=>eJ (s4 _ _ e3) (P.a i i3).1.ni,fun i i2=>(eJ e2 (q.i i i2).2.2.2.2).symm⟩
 have off:∀ {l:Addr},((∀ i,i<3->l≠(ds i).ins)/\∀ i,i<2->(rs i).il≠l)->tF ⟨xs 0,xs 1,ps,rs 0,rs 1,ds,Pf,⟨none,0,0,0⟩,⟨none,0,0,0⟩,fun _=>.rd,0⟩ l:=fun h=>⟨h.1,h.2 0 (by decide),h.2 1 (by decide)⟩
 have orl:(∀ i,i<3->rl≠(ds i).ins)/\∀ i,i<2->(rs i).il≠rl:=⟨fun i i3=>eJ (s4 _ _ q.l) (P.a i i3).1.ni,fun i i2=>(q.a i i2).2.symm⟩
 have oph:(∀ i,i<3->ph≠(ds i).ins)/\∀ i,i<2->(rs i).il≠ph:=⟨fun i i3=>eJ hph (P.a i i3).1.ni,fun i i2=>let ⟨_,e⟩:=hil i i2;eJ e nph⟩
 have opl:(∀ i,i<3->pl≠(ds i).ins)/\∀ i,i<2->(rs i).il≠pl:=⟨fun i i3=>(P.a i i3).2,fun i i2=>let ⟨_,e⟩:=hil i i2;eJ (s4 _ _ e) npl⟩
 have osm:(∀ i,i<3->sm≠(ds i).ins)/\∀ i,i<2->(rs i).il≠sm:=⟨fun i i3=>(eJ (P.a i i3).1.P.n nsm).symm,fun i i2=>let ⟨_,e⟩:=hil i i2;eJ (s35 _ _ e) nsm⟩
 have noo:∀ {l:Addr},(∀ a∈b.own,a≠l)->l ∉ b.own:=fun h z=>h _ z rfl;have xn:∀ i j,i<2->j<3->Nx (xs i) (ps j) (rs i) (ds j):=fun i j i2 j3=>by
  obtain⟨N,_⟩:=P.a j j3;have ho:=s35 _ _ (rn i i2).o;obtain⟨⟨dt,t1⟩,_⟩:=id N.P.T;obtain⟨⟨di,i1⟩,_⟩:=id N.P.I;obtain⟨dst,hs⟩:=id N.P.s;refine⟨(eJ (s4 _ _ (rn i i2).o) N.np).symm,jMN t1 ho (by show 2≠6;decide),jMN i1 ho (by show 2≠6;decide),jMN hs ho (by cases (ds j).S<;>first|(show 1≠6;decide)|(show 2≠6;decide)),?_⟩;obtain⟨_,e⟩:=hil i i2;exact eJ (s4 _ _ e) N.ni
 have hz:∀ i,i<2->Zo (rs i).tot Pf (fun _=>.rd) ⟨none,0,0,0⟩:=fun i i2=>⟨(q.i i i2).1.T1,le_refl _,d5 _,(fun i hi=>by cases hi),fun _=>rfl⟩
 have hv:∀ nm,Hv (fun _=>[]) nm ⟨none,0,0,0⟩:=fun nm=>⟨.nil,fun i hi=>by cases hi⟩
 have rr:∀ i,i<2->jG k.R k.J H6 (xs i) (R5 (rs i) none 0 0):=fun i i2=>by rw [(q.i i i2).2.2.2.1];exact (rn i i2).same s36
 have c2:∀ {j:Nat},j<2->j=0\/j=1:=fun h=>by omega
 refine⟨⟨rr 0 (by decide),rr 1 (by decide),fun i i3=>?_,fun i i3=>xn 0 i (by decide) i3,fun i i3=>xn 1 i (by decide) i3,fun i i3 _=>?_,fun i i3 _=>?_,P.s,hz 0 (by decide),hz 1 (by decide),(fun i hi=>by cases hi),q.s 0 1 (by decide) (by decide),(q.i 0 (by decide)).1,(q.i 1 (by decide)).1,fun _=>rfl,fun _=>rfl⟩,⟨s36 _ _ q.B.m,⟨ts,s36 _ _ q.B.j,fun j hj=>?_⟩,s36 _ _ q.B.w,?_,⟨s36 _ _ q.B.hd,fun r hr=>?_,by show 0<=300;decide⟩,nd.2,nd.1,fun p hp=>?_⟩,⟨off (offo _ (.head _)),fun l hl=>off (offo l (.tail _ hl)),fun p hp=>?_,fun i i3=>?_,fun i i3=>?_⟩,?_,(fun i p hp=>by cases hp),fun j hj=>?_,fun j hj=>?_,(fun j _ h=>by rw [eb] at h;cases h),le_refl _,gt⟩
 ·obtain⟨N,_⟩:=P.a i i3;exact⟨N.P.same s6,N.S,N.pa,N.nm,N.st⟩
 ·rw [(P.a i i3).1.tg];exact jDW
 ·rw [(P.a i i3).1.tg];exact jDW
 ·have:=s36 _ _ (q.t j hj);rw [<- (q.i j hj).2.1] at this;rcases c2 hj with rfl|rfl<;>exact this
 ·rw [eb];exact s36 _ _ q.B.d
 ·obtain⟨i,i3,rfl⟩:=jJU hr;exact⟨[],rfl,s36 _ _ (q.B.h i i3),fun r hr=>absurd hr d6⟩
 ·simp only [dZ,d6,or_false] at hp;have oldn:∀ {a:Addr},a∈b.own->∃ u v,H2 a=some (.lst u)/\H3 a=some (.lst v):=fun h=>old _ (.tail _ h);rcases hp with rfl|rfl|rfl|rfl
  ·exact⟨s36 _ _ q.l,noo fun a ha=>let ⟨_,_,e,_⟩:=oldn ha;eJ e nD⟩
  ·exact⟨s6 _ _ j4,noo fun a ha=>let ⟨_,_,_,e⟩:=oldn ha;eJ (s4 _ _ e) npl⟩
  ·exact⟨s46 _ _ hph,noo fun a ha=>let ⟨_,_,_,e⟩:=oldn ha;eJ e nph⟩
  ·exact⟨hsm,noo fun a ha=>let ⟨_,_,_,e⟩:=oldn ha;eJ (s35 _ _ e) nsm⟩
 ·simp only [dZ,d6,or_false] at hp;rcases hp with rfl|rfl|rfl|rfl
  ·exact off orl
  ·exact off opl
  ·exact off oph
  ·exact off osm
 ·obtain⟨N,_⟩:=P.a i i3;have e:=s4 _ _ q.B.m;exact⟨eJ e N.n1,eJ e N.n2,eJ e N.n3,eJ e N.n4⟩
 ·obtain⟨N,_⟩:=P.a i i3;have e:=s4 _ _ q.B.hd;exact⟨eJ e N.n1,eJ e N.n2,eJ e N.n3,eJ e N.n4⟩
 ·show (rs 0).nm≠(rs 1).nm;rw [(q.i 0 (by decide)).2.1,(q.i 1 (by decide)).2.1];exact ne
 ·rcases c2 hj with rfl|rfl<;>exact hv _
 ·have:=(q.i j hj).2.2.1;rw [eb];rcases c2 hj with rfl|rfl<;>exact this
section
variable {k:Cs}{tP:Addr}{H H':Hp}{b:Mb}{w:Wg}{pc:Nat->List Pc}{ex:List (Addr×List V)}{l:Addr}{us:List V}
theorem Lw.put(L:Lw k tP H b w pc ex)(s:eC H H')(n:H l=none)(hl:H' l=some (.lst us)):Lw k tP H' b w pc ((l,us)::ex):=by
 have L1:=L.same s;obtain⟨y1,h1,_⟩:=id L.Z.R.i;obtain⟨y2,h2,_⟩:=id L.Z.R'.i;have ne:∀ {a:Addr} {o:HO},H a=some o->l≠a:=fun e z=>by rw [z,e] at n;cases n
 refine { L1 with M:={ L1.M with ex:=fun q hq=>?_ },B:={ L1.B with e:=fun q hq=>?_ } }
 ·rcases dZ.mp hq with rfl|hq
  ·exact⟨hl,fun z=>by obtain⟨ts,e⟩:=L.there z;exact ne e rfl⟩
  ·exact L1.M.ex q hq
 ·rcases dZ.mp hq with rfl|hq
  ·exact⟨fun i i3=>ne (L.Z.W i i3).P.n,symm (ne h1),symm (ne h2)⟩
  ·exact L1.B.e q hq
end
structure Ow(k:Cs)(tP:Addr)(H:Hp)(b0 b:Mb)(w0 w:Wg)(pc:Nat->List Pc)(ex:List (Addr×List V))(m:Nat):Prop where
 L:Lw k tP H b w pc ex
 d:b.dm=b0.dm
 e:w.x=w0.x/\w.x'=w0.x'/\w.ps=w0.ps/\w.P=w0.P
 f:w.fe<=m
inductive jH4(K:PySem.W.Frag)(tP:Addr)(vs:List V)(H:Hp)(Q:VK)(E_:XK):Prop|mk a:vs=[.ref a]->Scr K H a->mG H tP->(∀ H',Q (.bl true) H')->jH4 K tP vs H Q E_
theorem jC9:gF ["_law_script","_law_names","_law_m","_law_runs","_law_paths","_law_printers","_law_some","_law_k","_law_deed","_law_r"] ["_law_script"] (fY jIc):=scM
include T in
theorem ok_law(F:Fun K "law" "law" jIc fa fd)(DaN:Dfn P w K mg base 6 "_law_sound" ["_law_runs","_law_m"] (jEZ ⟨yK,yG,vZ,vX,cK,cG,cZ,cQ,yJ,yW,yU⟩ dB))(DbI:Dfn P w K mg base 1 "_law_word" ["_law_cell","_law_turn"] (jFJ K))(DbJ:Dfn P w K mg base 8 "_law_run" ["_law_script","_law_r","_law_name","_law_m"] (jGw K yK yG))(DbK:Dfn P w K mg base 8 "_law_printer" ["_law_name","_law_path"] (jDZ cZ cQ yJ yW yU))(DbL:Dfn P w K mg base 3 "_law_deeds_by" ["_law_cell","_law_k","_law_m","_law_printers"] (jDq ⟨yK,yG,vZ,vX,cK,cG,cZ,cQ,yJ,yW,yU⟩ dB))(Dan:Dfn P w K mg base 1 "_law_cell_at" ["_law_script","_law_k"] (jCC K))(Dad:Dfn P w K mg base 1 "_law_mix" ["_law_cell","_law_k","_law_many"] (jC8 K))(DbM:Dfn P w K mg base 11 "_law_finish" ["_law_runs","_law_printers","_law_m","_law_r","_law_paths"] (jEp ⟨yK,yG,vZ,vX,cK,cG,cZ,cQ,yJ,yW,yU⟩ dB))(Dal:Dfn P w K mg base 10 "_law_done" ["_law_runs","_law_printers","_law_m","_law_deed"] (jCN ⟨yK,yG,vZ,vX,cK,cG,cZ,cQ,yJ,yW,yU⟩ dB))(Daa:MtE P w K mg base 3 "whole" yK ["self"] (jBx yK yG cZ cQ yJ yW yU)) :
 fJ P w K mg base CX0 12 fa fd ["_law_script"] (jH4 K dB):=by
 refine F.ok jC9 fun fE A outer s H vs Q E hr h=>?_;obtain⟨a,rfl,sc,ht,q⟩:=h;obtain⟨ns,hS,lns⟩:=sc.ex;have hu:=uQ hr 0 (by decide);exists _,(d9 (psA (i:=1) jC9.nd (jCx (frees:=[ ("_law_script",0) ]) ⟨by decide +kernel,rfl,rfl,by decide +kernel,⟨⟨rfl,rfl,rfl,by decide +kernel⟩,trivial⟩,by decide +kernel,uW rfl,rfl⟩ rfl (xD rfl T.ai (dJ eO dX)) (fun _ _ _ _=>jCn) (fun _ _ _ _=>by exact (lX DbI hr.m rfl (dJ (lX Dan hr.m rfl (dJ (pv 1) (dJ eO dX))) (dJ (pv 0) dX)))))) (d9 (psA (i:=2) jC9.nd (jIa (xA hX (lQ dX) (xA hX (lQ dX) (xA hX (lQ dX) (xA hX (jIa (xA hX (lQ dX) (xA hX (lQ dX) (xA hX (lQ dX) jH_))) rfl rfl (by decide) (by decide)) jH_)))) rfl rfl (by decide) (by decide))) (d9 (jJ4 (i:=3) (frees:=[ ("_law_script",0) ,("_law_m",2) ,("_law_names",1) ]) ⟨by decide +kernel,rfl,rfl,by decide +kernel,⟨⟨rfl,rfl,rfl,by decide +kernel⟩,⟨⟨rfl,rfl,rfl,by decide +kernel⟩,⟨⟨rfl,rfl,rfl,by decide +kernel⟩,trivial⟩⟩⟩,by decide +kernel,uW rfl,rfl⟩ jC9.nd rfl rfl rfl (xD rfl T.ai (dJ eO dX)) (fun _ _ _ _=>jCn) (fun _ _ _ _=>by exact (lX DbJ hr.m rfl (dJ (pv 1) (dJ (pv 0) (dJ (jEB (K:=K) (r:=wY) rfl lE (pv 3) (pv 0) (fun _ _=>rfl)) (dJ (pv 2) dX))))))) (d9 (psA (i:=4) jC9.nd (jCx (frees:=[ ("_law_script",0) ]) ⟨by decide +kernel,rfl,rfl,by decide +kernel,⟨⟨rfl,rfl,rfl,by decide +kernel⟩,trivial⟩,by decide +kernel,uW rfl,rfl⟩ rfl (xD rfl T.ai (dJ eO dX)) (fun _ _ _ _=>jCn) (fun _ _ _ _=>by exact (iO oE eO (lX Dad hr.m rfl (dJ (lX Dan hr.m rfl (dJ (pv 1) (dJ eO dX))) (dJ (pv 0) (dJ eO dX)))))))) (d9 (jJ4 (i:=5) (frees:=[ ("_law_paths",4) ]) ⟨by decide +kernel,rfl,rfl,by decide +kernel,⟨⟨rfl,rfl,rfl,by decide +kernel⟩,trivial⟩,by decide +kernel,uW rfl,rfl⟩ jC9.nd rfl rfl rfl (xD rfl T.ai (dJ eO dX)) (fun _ _ _ _=>jCn) (fun _ _ _ _=>by exact (lX DbK hr.m rfl (dJ (iO jCR hX (uC jCF rfl T.aE jHE (dJ (pv 0) dX))) (dJ (jEB (K:=K) (r:=wY) rfl lE (pv 1) (pv 0) (fun _ _=>rfl)) dX))))) (d9 (psA (i:=6) jC9.nd (jCH jJ0 (pv 0) jDs (jDt eO))) (d9 (pN PassesOwn.never rfl (xD rfl T.ai (dJ (rV jBr rfl T.ao iT (dJ (pv 6) dX)) dX)) (pgA (i:=7) jC9.nd) (d7 (pN PassesOwn.never rfl (q9 (lX DbL hr.m rfl (dJ (ixA lE (pv 6) (pv 7)) (dJ (pv 7) (dJ (pv 2) (dJ (pv 5) dX)))))) (pgA (i:=8) jC9.nd) (d7 (jC (PW.pt (vT (qP (mU (lX Dal hr.m rfl (dJ (pv 3) (dJ (pv 5) (dJ (pv 2) (dJ (pv 8) dX))))) (fun _=>rfl))) (w6 (qP (mU (lX DaN hr.m rfl (dJ (pv 3) (dJ (pv 2) dX))) (fun _=>rfl)))))) (d7 (gY nQ)) jK))))) (d9 (pN PassesOwn.never rfl (xD rfl T.ai (dJ eO dX)) (pgA (i:=9) jC9.nd) (d7 (jC (PW.pt (rA (qP (mU (jR 3 nR hr.m (ixA lE (pv 3) (pv 9))) (fun _=>rfl))) (rA (qP (mU (ixA lE (dgA hu (pv 2) hX) (pv 9)) (fun _=>rfl))) (sR (qP (mU (lX DbM hr.m rfl (dJ (pv 3) (dJ (pv 5) (dJ (pv 2) (dJ (pv 9) (dJ (pv 4) dX)))))) (fun _=>rfl))))))) (d7 (gY nQ)) jK))) (d7 (gY (lX DaN hr.m rfl (dJ (pv 3) (dJ (pv 2) dX)))))))))))))
 -- the names
 refine kY (fun σ G=>eC H G/\∃ nl k0 k1,G nl=some (.lst [.str k0,.str k1])/\k0≠k1/\σ=[some (.ref a),some (.ref nl),none,none,none,none,none,none,none,none]) (fun R hR=>⟨_,rfl,by decide,by decide,?_⟩) ?_
 ·generalize hc1:ns.getD (2:Int).toNat 0=c1';refine jDv (jFP 0 2 H) (fun _=>true) (fun v=>match v with|.int t=>.str (jFW c1' t (wU c1'))|_=>.non) (by rw [c6,dP];exact oN (by decide)) (fun x _ H' R _ rr=>rr) (fun x hx H' R sG _ rr=>?_) (fun kl H1 s1 nkl hkl0=>?_)
  ·obtain⟨t,ht,rfl⟩:=eI.mp hx;rw [<- hc1] at rr;exact⟨_,rfl,a,2,ns,rfl,sG.seq hS,by decide,_,rfl,_,_,rfl,rr⟩
  exact hR _ _ ⟨s1,kl,_,_,hkl0,fun z=>absurd (word_ne (by decide) (by decide) (by decide) (by decide) z) (by decide),rfl⟩
 rintro σ H1 ⟨t1,nl,k0,k1,hnl,k01,rfl⟩
 -- the book
 have z0:0<=c9:=d5 _;refine kY (fun σ G=>eC H1 G/\∃ b:Mb,b.d=(fun _=>false)/\(H1 b.jl=none/\H1 b.wl=none/\H1 b.dl=none)/\Bs G b 0 []/\σ=[some (.ref a),some (.ref nl),some (.ref b.dm),none,none,none,none,none,none,none]) (fun R hR=>?_) ?_
 ·refine fun dm ndm=>?_;have a0:=gM ndm (.dK []);have hm:upd H1 dm (.dK []) dm=some (.dK []):=d4;generalize upd H1 dm (.dK [])=G0 at a0 hm ⊢;refine⟨z0,fun jl njl=>?_⟩;have a1:=gM njl (.lst []);have e1dm:dm≠jl:=eJ hm njl;replace hm:=a1 _ _ hm;have mD:upd G0 jl (.lst []) jl=some (.lst []):=d4;generalize upd G0 jl (.lst [])=G1 at a1 hm mD ⊢;refine⟨z0,fun wl nwl=>?_⟩;have a2:=gM nwl (.lst []);have e2dm:dm≠wl:=eJ hm nwl;have e2jl:jl≠wl:=eJ mD nwl;replace hm:=a2 _ _ hm;replace mD:=a2 _ _ mD;have mL:upd G1 wl (.lst []) wl=some (.lst []):=d4;generalize upd G1 wl (.lst [])=G2 at a2 hm mD mL ⊢;refine⟨z0,fun dl ndl=>?_⟩;have a3:=gM ndl (.lst []);have e3dm:dm≠dl:=eJ hm ndl;have e3jl:jl≠dl:=eJ mD ndl;have e3wl:wl≠dl:=eJ mL ndl;replace hm:=a3 _ _ hm;replace mD:=a3 _ _ mD;replace mL:=a3 _ _ mL;have pP:upd G2 dl (.lst []) dl=some (.lst []):=d4;generalize upd G2 dl (.lst [])=G3 at a3 hm mD mL pP ⊢;refine fun hd nhd=>?_;have a4:=gM nhd (.dK []);have e4dm:dm≠hd:=eJ hm nhd;have e4jl:jl≠hd:=eJ mD nhd;have e4wl:wl≠hd:=eJ mL nhd;have e4dl:dl≠hd:=eJ pP nhd;replace hm:=a4 _ _ hm;replace mD:=a4 _ _ mD;replace mL:=a4 _ _ mL;replace pP:=a4 _ _ pP;have tS:upd G3 hd (.dK []) hd=some (.dK []):=d4;generalize upd G3 hd (.dK [])=G4 at a4 hm mD mL pP tS ⊢;refine⟨z0,fun h0 nh0=>?_⟩;have a5:=gM nh0 (.lst []);have e5dm:dm≠h0:=eJ hm nh0;have e5jl:jl≠h0:=eJ mD nh0;have e5wl:wl≠h0:=eJ mL nh0;have e5dl:dl≠h0:=eJ pP nh0;have e5hd:hd≠h0:=eJ tS nh0;replace hm:=a5 _ _ hm;replace mD:=a5 _ _ mD;replace mL:=a5 _ _ mL;replace pP:=a5 _ _ pP;replace tS:=a5 _ _ tS;have hh0:upd G4 h0 (.lst []) h0=some (.lst []):=d4;generalize upd G4 h0 (.lst [])=G5 at a5 hm mD mL pP tS hh0 ⊢;refine⟨z0,fun h1 nh1=>?_⟩;have a6:=gM nh1 (.lst []);have e6dm:dm≠h1:=eJ hm nh1;have e6jl:jl≠h1:=eJ mD nh1;have e6wl:wl≠h1:=eJ mL nh1;have e6dl:dl≠h1:=eJ pP nh1;have e6hd:hd≠h1:=eJ tS nh1;have e6h0:h0≠h1:=eJ hh0 nh1;replace hm:=a6 _ _ hm;replace mD:=a6 _ _ mD;replace mL:=a6 _ _ mL;replace pP:=a6 _ _ pP;replace tS:=a6 _ _ tS;replace hh0:=a6 _ _ hh0;have hh1:upd G5 h1 (.lst []) h1=some (.lst []):=d4;generalize upd G5 h1 (.lst [])=G6 at a6 hm mD mL pP tS hh0 hh1 ⊢;refine⟨z0,fun h2 nh2=>?_⟩;have a7:=gM nh2 (.lst []);have e7dm:dm≠h2:=eJ hm nh2;have e7jl:jl≠h2:=eJ mD nh2;have e7wl:wl≠h2:=eJ mL nh2;have e7dl:dl≠h2:=eJ pP nh2;have e7hd:hd≠h2:=eJ tS nh2;have e7h0:h0≠h2:=eJ hh0 nh2;have e7h1:h1≠h2:=eJ hh1 nh2;replace hm:=a7 _ _ hm;replace mD:=a7 _ _ mD;replace mL:=a7 _ _ mL;replace pP:=a7 _ _ pP;replace tS:=a7 _ _ tS;replace hh0:=a7 _ _ hh0;replace hh1:=a7 _ _ hh1;have hh2:upd G6 h2 (.lst []) h2=some (.lst []):=d4;generalize upd G6 h2 (.lst [])=G7 at a7 hm mD mL pP tS hh0 hh1 hh2 ⊢;refine⟨tS,[((Sum.inr (c7 "p0"):Key),V.ref h0),(Sum.inr (c7 "p1"),.ref h1),(Sum.inr (c7 "p2"),.ref h2)],rfl,(by show 3<=15;decide),?_⟩;rw [show jDB [] ([((Sum.inr (c7 "p0"):Key),V.ref h0),(Sum.inr (c7 "p1"),.ref h1),(Sum.inr (c7 "p2"),.ref h2)])=[((Sum.inr (c7 "p0"):Key),V.ref h0),(Sum.inr (c7 "p1"),.ref h1),(Sum.inr (c7 "p2"),.ref h2)] by kernel_rfl];have c1:∀ l o,l≠hd->G7 l=some o->upd G7 hd (.dK [((Sum.inr (c7 "p0"):Key),V.ref h0),(Sum.inr (c7 "p1"),.ref h1),(Sum.inr (c7 "p2"),.ref h2)]) l=some o:=fun l o h e=>by rw [dW h];exact e
  have hhd':upd G7 hd (.dK [((Sum.inr (c7 "p0"):Key),V.ref h0),(Sum.inr (c7 "p1"),.ref h1),(Sum.inr (c7 "p2"),.ref h2)]) hd=_:=d4;generalize upd G7 hd (.dK [((Sum.inr (c7 "p0"):Key),V.ref h0),(Sum.inr (c7 "p1"),.ref h1),(Sum.inr (c7 "p2"),.ref h2)])=G8 at c1 hhd' ⊢;refine⟨c1 _ _ e4dm hm,[(kw "jobs",V.ref jl),(kw "where",.ref wl),(kw "dropped",.ref dl),(kw "heaps",.ref hd)],rfl,(by show 4<=15;decide),?_⟩;rw [show jDB [] ([(kw "jobs",V.ref jl),(kw "where",.ref wl),(kw "dropped",.ref dl),(kw "heaps",.ref hd)])=[(kw "jobs",V.ref jl),(kw "where",.ref wl),(kw "dropped",.ref dl),(kw "heaps",.ref hd)] by kernel_rfl];have ld:∀ {l us},G7 l=some (.lst us)->upd G8 dm (.dK [(kw "jobs",V.ref jl),(kw "where",.ref wl),(kw "dropped",.ref dl),(kw "heaps",.ref hd)]) l=some (.lst us):=fun {l us} e=>by
   rw [dW (eW e hm nofun)];exact c1 _ _ (eW e tS nofun) e
  have s07:=(((((a1.trans a2).trans a3).trans a4).trans a5).trans a6).trans a7;refine hR _ _ ⟨fun l o e=>?_,⟨dm,jl,wl,dl,hd,fun i=>if i=0 then h0 else if i=1 then h1 else h2,fun _=>false⟩,rfl,⟨a0.free njl,a0.free (a1.free nwl),a0.free (a1.free (a2.free ndl))⟩,⟨d4,?_,fun i i3=>?_,ld mD,ld mL,ld pP,?_⟩,rfl⟩
  ·have l1:l≠dm:=eJ e ndm;have l2:l≠hd:=fun z=>by
    have:=a3 _ _ (a2 _ _ (a1 _ _ (a0 _ _ e)));rw [z,nhd] at this;cases this
   rw [dW l1];exact c1 _ _ l2 (s07 _ _ (a0 _ _ e))
  ·show upd G8 dm _ hd=_;rw [dW e4dm.symm];exact hhd'
  ·have:i=0\/i=1\/i=2:=by omega
   rcases this with rfl|rfl|rfl
   ·exact ld hh0
   ·exact ld hh1
   ·exact ld hh2
  ·show [jl,wl,dl,h0,h1,h2].Nodup;simp only [fN,dZ,d6,or_false,not_or,not_false_eq_true,jN,and_true];exact⟨⟨e2jl,e3jl,e5jl,e6jl,e7jl⟩,⟨e3wl,e5wl,e6wl,e7wl⟩,⟨e5dl,e6dl,e7dl⟩,⟨e6h0,e7h0⟩,e7h1⟩
 rintro σ H2 ⟨s2,b,eb,⟨nj,nw,nd⟩,B0,rfl⟩;have k1':∀ {G:Hp},(∀ l o,l≠b.jl->l≠b.wl->l≠b.dl->H2 l=some o->G l=some o)->eC H1 G:=fun h l o e=>h _ _ (eJ e nj) (eJ e nw) (eJ e nd) (s2 _ _ e)
 -- the runs
 obtain⟨nf,enf⟩:∃ nf:Nat->Str,nf=fun i=>if i=0 then k0 else k1:=⟨_,rfl⟩
 refine kY (fun σ G=>∃ rl xs ts rs,H2 rl=none/\R2 yK yG H2 G b rl nf xs ts rs 2/\σ=[some (.ref a),some (.ref nl),some (.ref b.dm),some (.ref rl),none,none,none,none,none,none]) (fun R hR=>⟨_,rfl,by decide,by decide,?_⟩) ?_
 ·obtain⟨jw,jd,wd',hh⟩:=B0.ne;refine jKZ (fun D i ys G=>∃ xs ts rs,ys=qZ i xs/\R2 yK yG H2 G b D nf xs ts rs i) (oN (by decide)) (fun D nD=>?_) (fun D i ys G z=>?_) (fun D i ys G N hi nD z nx=>?_) (fun D ys G nD z=>?_)
  ·have sD:=gM nD (.lst []);exact⟨fun _=>0,fun _=>0,fun _=>⟨0,0,0,xV,0,⟨0,.one,xV,none,none⟩,[],0,none,false,false⟩,rfl,⟨⟨sD _ _ B0.m,sD _ _ B0.hd,fun i i3=>sD _ _ (B0.h i i3),sD _ _ B0.j,sD _ _ B0.w,sD _ _ B0.d,B0.nd⟩,fun l o _ _ _ e=>sD _ _ e,d4,(fun i hi=>absurd hi (gC _)),(fun i hi=>absurd hi (gC _)),(fun i hi=>absurd hi (gC _)),fun i j _ hj=>absurd hj (gC _)⟩⟩
  ·obtain⟨xs,ts,rs,rfl,q2⟩:=z;exact⟨q2.l,by unfold qZ;rw [c6,dP];exact le_refl _⟩
  ·obtain⟨xs,ts,rs,rfl,q2⟩:=z;have sG:=k1' q2.kp;have hi2:i<2:=hi;have lt:(qZ i ts).length<=2:=by unfold qZ;rw [c6,dP];omega
   refine kM ⟨_,rfl,_,rfl,_,rfl,_,rfl,nl,_,_,rfl,rfl,SqL.of (sG _ _ hnl),by omega,(by show 0+(i:Int)<2;omega),fun v hv=>?_⟩;obtain rfl:v=.str (nf i):=by
    rw [show (0+(i:Int)).toNat=i by omega] at hv;have:i=0\/i=1:=by omega
    rw [enf];rcases this with rfl|rfl<;>exact (Option.some.inj hv).symm
   refine⟨_,rfl,a,b.dm,b.jl,b.wl,b.dl,i,nf i,ns,_,_,_,by rw [zero_add];rfl,(t1.trans sG).seq hS,⟨b.kv,q2.B.m,by kernel_rfl,by kernel_rfl,by kernel_rfl⟩,q2.B.j,q2.B.w,q2.B.d,lt,by rw [iD];omega,by rw [iD];omega,jw,jd,wd',fun x r G1 Nn=>?_⟩;obtain⟨hD,ts',q3⟩:=q2.add B0 nD Nn;exact⟨hD,nx _ _ ⟨_,ts',_,jHp i xs x,q3⟩⟩
  ·obtain⟨xs,ts,rs,rfl,q2⟩:=z;exact hR _ _ ⟨D,xs,ts,rs,nD,q2,rfl⟩
 rintro σ H3 ⟨rl,xs,ts,rs,nrl,Q2,rfl⟩;have t3:=t1.trans (k1' Q2.kp)
 -- the paths
 refine kY (fun σ G=>eC H3 G/\∃ (ph:Addr) (Pf:Nat->Nat),G ph=some (.lst (l3 fun i=>.int (Pf i:Int)))/\(∀ i,Pf i<=4)/\H3 ph=none/\σ=[some (.ref a),some (.ref nl),some (.ref b.dm),some (.ref rl),some (.ref ph),none,none,none,none,none]) (fun R hR=>⟨_,rfl,by decide,by decide,?_⟩) ?_
 ·refine jFp (jFP 0 (3:Int).toNat H3) (fun x y H3=>∃ P:Nat,y=.int (P:Int)/\1<=P/\P<=4) (by rw [c6,dP];exact oN (by decide)) (fun x wC H' R _ r=>r) (fun x wC H' R sm rr=>?_) (fun ph H7 us s7 nph hph hl hg=>?_)
  ·obtain⟨j,hj,rfl⟩:=eI.mp wC;have j3:j<3:=j8.mp hj;obtain⟨P,eP,P1,P4⟩:∃ P:Nat,1+oJ (ns.getD (3:Int).toNat 0) (0+(j:Int)) 4=(P:Int)/\1<=P/\P<=4:=by
    have:=jGF (c:=ns.getD (3:Int).toNat 0) (k:=0+(j:Int)) (show (0:Int)<4 by decide);have:=jGG (c:=ns.getD (3:Int).toNat 0) (k:=0+(j:Int)) (show (0:Int)<4 by decide);exact⟨(1+oJ (ns.getD (3:Int).toNat 0) (0+(j:Int)) 4).toNat,by omega,by omega,by omega⟩
   refine⟨_,rfl,a,3,ns,rfl,(t3.trans sm).seq hS,by decide,_,rfl,_,_,4,rfl,by omega,by omega,by decide,fun H8 s8=>⟨_,_,rfl,rfl,?_⟩⟩;exact rr _ _ s8 (jPH ⟨P,congrArg V.int eP,P1,P4⟩)
  rw [c6,dP] at hl
  obtain⟨Pf,rfl,hPf⟩:=jPN hl (fun i y e=>by
   obtain⟨x,ex⟩:∃ x,((range (3:Int).toNat).map fun i=>V.int (0+(i:Nat)))[i]?=some x:=⟨_,getElem?_eq_getElem (by rw [c6,dP,<- hl];exact (List.getElem?_eq_some_iff.mp e).1)⟩
   exact hg i x y ex e)
  exact hR _ _ ⟨s7,ph,Pf,hph,hPf,nph,rfl⟩
 rintro σ H4 ⟨s4,ph,Pf,hph,hPf,nph,rfl⟩;have t4:=t3.trans s4
 -- the printers
 refine kY (fun σ G=>eC H4 G/\∃ (pl:Addr) (ps:Nat->Addr) (ds:Nat->PD),H4 pl=none/\G pl=some (.lst (l3 fun i=>.ref (ps i)))/\P3 cZ cQ yJ yW yU H4 G pl ps ds 3 Pf/\σ=[some (.ref a),some (.ref nl),some (.ref b.dm),some (.ref rl),some (.ref ph),some (.ref pl),none,none,none,none]) (fun R hR=>⟨_,rfl,by decide,by decide,?_⟩) ?_
 ·have nm3:∀ i:Nat,i<3->((0+(i:Int)).natAbs.log2<1920/\(c7 "p").length+(c7 (toString (0+(i:Int)))).length<=1000/\c7 "p" ++ c7 (toString (0+(i:Int)))=pn i):=by decide +kernel
  refine jKZ (fun D i ys G=>eC H4 G/\H4 D=none/\G D=some (.lst ys)/\∃ ps ds,ys=qZ i ps/\P3 cZ cQ yJ yW yU H4 G D ps ds i Pf) (oN (by decide)) (fun D nD=>⟨gM nD _,nD,d4,fun _=>0,fun _=>⟨0,0,0,0,0,0,0,0,0,0,0,xV,0,[],[],0,0,0,0,[],.rd⟩,rfl,(fun i hi=>absurd hi (gC _)),(fun i j hi=>absurd hi (gC _))⟩) (fun D i ys G z=>⟨z.2.2.1,by obtain⟨_,_,_,ps,ds,rfl,_⟩:=z;unfold qZ;rw [c6,dP];exact le_refl _⟩) (fun D i ys G N hi nD z nx=>?_) (fun pl ys G npl z=>?_)
  ·obtain⟨sm,_,hD,ps,ds,rfl,Q3⟩:=z;have i3:i<3:=hi;obtain⟨g1,g2,g3⟩:=nm3 i i3;refine kM ⟨_,rfl,_,rfl,g1,_,_,rfl,rfl,small g2,?_⟩;rw [g3];refine⟨_,rfl,_,rfl,ph,_,_,rfl,rfl,SqL.of (sm _ _ hph),by omega,by show 0+(i:Int)<3;omega,fun v hv=>?_⟩;rw [show (0+(i:Int)).toNat=((i:Nat):Int).toNat by omega] at hv;obtain rfl:=jH2 i3 hv;refine⟨pn i,Pf i,rfl,fun x d G4 s14 Np=>?_⟩;exact⟨s14 _ _ hD,nx _ _ ⟨w5 nD (sm.trans s14) _,nD,d4,uP ps i x,pB ds i d,jHp i ps x,Q3.add sm s14 Np hD⟩⟩
  ·obtain⟨sm,_,hD,ps,ds,rfl,Q3⟩:=z;exact hR _ _ ⟨sm,pl,ps,ds,npl,hD,Q3,rfl⟩
 rintro σ H5 ⟨s5,pl,ps,ds,npl,j4,Q3,rfl⟩;have t5:=t4.trans s5
 -- the cells
 refine kY (fun σ G=>∃ (sm:Addr) (cs:List Int),eC H5 G/\H5 sm=none/\G sm=some (.lst (cs.map V.int))/\cs.length<=40/\σ=[some (.ref a),some (.ref nl),some (.ref b.dm),some (.ref rl),some (.ref ph),some (.ref pl),some (.ref sm),none,none,none]) (fun R' hR=>⟨_,rfl,_,rfl,a,_,rfl,t5.seq hS,fun sm nsm=>?_⟩) ?_
 ·rw [show (some (40:Int))=some ((40:Nat):Int) from rfl,jOG,<- xT];exact hR _ _ ⟨sm,ns.take 40,gM nsm _,nsm,d4,by rw [fI];omega,rfl⟩
 rintro σ H6 ⟨sm,cs,s6,nsm,hsm,hcs,rfl⟩;have L0:=jPO (k:=⟨yK,yG,vZ,vX,cK,cG,cZ,cQ,yJ,yW,yU⟩) B0 nrl Q2 s4 nph hph s5 npl j4 Q3 s6 nsm hsm (by rw [enf];exact k01) (ht.same (t5.trans s6)) eb;generalize hex:([(rl,[V.ref (xs 0),.ref (xs 1)]),(pl,l3 fun i=>.ref (ps i)),(ph,l3 fun i=>.int ((Pf i:Nat):Int)),(sm,cs.map V.int)]:List (Addr×List V))=ex at L0;generalize hw0:(⟨xs 0,xs 1,ps,rs 0,rs 1,ds,Pf,⟨none,0,0,0⟩,⟨none,0,0,0⟩,fun _=>.rd,0⟩:Wg)=w0 at L0;have mrl:(rl,[V.ref w0.x,.ref w0.x'])∈ex:=by rw [<- hex,<- hw0];simp
 have mpl:(pl,l3 fun i=>.ref (w0.ps i))∈ex:=by rw [<- hex,<- hw0];simp
 have mpa:(ph,l3 fun i=>.int ((w0.P i:Nat):Int))∈ex:=by rw [<- hex,<- hw0];simp
 have msm:(sm,cs.map V.int)∈ex:=by rw [<- hex];simp
 have p4:∀ i,w0.P i<=4:=by rw [<- hw0];exact hPf
 have f0:w0.fe=0:=by rw [<- hw0]
 clear hex hw0 Q3 Q2 j4 hph hsm B0 k1' hnl;have rlm:∀ {w':Wg},(w'.x=w0.x/\w'.x'=w0.x'/\w'.ps=w0.ps/\w'.P=w0.P)->(rl,[V.ref w'.x,.ref w'.x'])∈ex/\(pl,l3 fun i=>.ref (w'.ps i))∈ex/\(ph,l3 fun i=>.int ((w'.P i:Nat):Int))∈ex:=fun e=>by rw [e.1,e.2.1,e.2.2.1,e.2.2.2];exact⟨mrl,mpl,mpa⟩
 -- the deeds
 refine kY (fun σ G=>∃ b' w' hJ o7 o8,Ow ⟨yK,yG,vZ,vX,cK,cG,cZ,cQ,yJ,yW,yU⟩ dB G b b' w0 w' hJ ex 200/\σ=[some (.ref a),some (.ref nl),some (.ref b.dm),some (.ref rl),some (.ref ph),some (.ref pl),some (.ref sm),o7,o8,none]) (fun R hR=>⟨_,rfl,sm,_,rfl,.inl (SqL.of (L0.M.ex _ msm).1),_,rfl,by rw [c6];omega,by rw [c6];omega,?_⟩) ?_
 ·rw [c6,fU];refine jDr (lo:=0) (n:=cs.length) (fun i σ G=>∃ b' w' hJ o7 o8,Ow ⟨yK,yG,vZ,vX,cK,cG,cZ,cQ,yJ,yW,yU⟩ dB G b b' w0 w' hJ ex (5*i)/\σ=[some (.ref a),some (.ref nl),some (.ref b.dm),some (.ref rl),some (.ref ph),some (.ref pl),some (.ref sm),o7,o8,none]) ⟨b,w0,_,none,none,⟨L0,rfl,⟨rfl,rfl,rfl,rfl⟩,by rw [f0];exact d5 _⟩,rfl⟩ (fun i σ G hi zz=>?_) (fun σ G zz=>?_)
  ·obtain⟨b1,w1,pc1,o7,o8,O1,rfl⟩:=zz;rw [zero_add];have hsG:=(O1.L.M.ex _ msm).1;refine⟨_,rfl,_,rfl,sm,_,_,rfl,rfl,SqL.of hsG,by omega,by rw [c6];omega,fun v hv=>?_⟩;obtain⟨c,rfl⟩:∃ c:Int,v=.int c:=by
    obtain⟨c,_,e⟩:=eI.mp (mem_of_getElem? hv);exact⟨c,e.symm⟩
   refine⟨_,rfl,_,rfl,_,rfl,c,i,pl,b1,w1,pc1,ex,by rw [O1.d];rfl,by omega,O1.L,(rlm O1.e).2.1,fun l s' us G1 s1 nl' s2' dl=>?_⟩;have dn:=dl.n;refine⟨l,rfl,⟨_,SqL.of dl.l⟩,uZ (K:=K) (a:=l) (xs:=us) (fun j σ G'=>∃ b' w' hJ o8,Ow ⟨yK,yG,vZ,vX,cK,cG,cZ,cQ,yJ,yW,yU⟩ dB G' b b' w0 w' hJ ((l,us)::ex) (5*i+j)/\(∀ a xs,G1 a=some (.tup xs)->G' a=some (.tup xs))/\(j=0->w'=w1)/\σ=[some (.ref a),some (.ref nl),some (.ref b.dm),some (.ref rl),some (.ref ph),some (.ref pl),some (.ref sm),some (.int (i:Int)),o8,none]) ⟨b1,w1,pc1,_,⟨O1.L.put s1 nl' dl.l,O1.d,O1.e,O1.f⟩,fun _ _ e=>e,fun _=>rfl,rfl⟩ (fun j σ G _ zz=>?_) (fun j y σ G' hy zz=>?_) (fun σ G' zz=>?_)⟩
   ·obtain⟨b',w',hJ,o8,O',_⟩:=zz;exact SqL.of (O'.L.M.ex _ (.head _)).1
   ·obtain⟨b2,w2,rL,o8,O2,kt,j0,rfl⟩:=zz;have jn:j<us.length:=(List.getElem?_eq_some_iff.mp hy).1;obtain⟨t,D,rfl,rW,ok,tk⟩:=dl.u j y hy;have f2:=O2.f;obtain⟨m1,m2,m3⟩:=rlm O2.e;refine⟨_,rfl,_,rfl,_,rfl,_,rfl,rl,pl,t,b2,w2,rL,_,s',D,by rw [O2.d];rfl,O2.L,.tail _ m1,.tail _ m2,kt _ _ rW,s2',ok,fun p e=>?_,by omega,fun G3 b3 w3 pc3 L3 dq wR=>?_⟩
    ·obtain⟨e1,e2⟩:=tk p e;rw [j0 (by omega)];exact e2
    have d3:b3.dm=b.dm:=by
     rcases dq.bd with e|⟨_,e⟩
     ·rw [e];exact O2.d
     ·rw [e];exact O2.d
    have e3:w3.x=w0.x/\w3.x'=w0.x'/\w3.ps=w0.ps/\w3.P=w0.P:=⟨dq.e.1.trans O2.e.1,dq.e.2.1.trans O2.e.2.1,dq.e.2.2.1.trans O2.e.2.2.1,dq.e.2.2.2.trans O2.e.2.2.2⟩
    have f3:=dq.fe;refine⟨_,rfl,jJ ⟨_,rfl,_,rfl,rl,b3,w3,pc3,_,by rw [d3];rfl,L3,.tail _ (rlm e3).1,fun G4 kg gt=>⟨_,rfl,jJ ⟨b3,w3,pc3,_,⟨L3.kg kg gt,d3,e3,by omega⟩,fun a xs e=>kg _ _ (fun x z=>nomatch z) (wR _ _ (kt _ _ e)),fun z=>absurd z (by omega),rfl⟩⟩⟩⟩
   ·obtain⟨b2,w2,rL,o8,O2,_,_,rfl⟩:=zz;have f2:=O2.f;exact⟨b2,w2,rL,_,o8,⟨O2.L.sub fun q hq=>.tail _ hq,O2.d,O2.e,by omega⟩,rfl⟩
  ·obtain⟨b',w',hJ,o7,o8,O',rfl⟩:=zz;have f':=O'.f;exact hR _ _ ⟨b',w',hJ,o7,o8,⟨O'.L,O'.d,O'.e,by omega⟩,rfl⟩
 clear L0;rintro σ H7 ⟨b1,w1,pc1,o7,o8,O1,rfl⟩
 -- the end
 refine kY (fun σ G=>∃ b' w' hJ o9,Ow ⟨yK,yG,vZ,vX,cK,cG,cZ,cQ,yJ,yW,yU⟩ dB G b b' w0 w' hJ ex 266/\σ=[some (.ref a),some (.ref nl),some (.ref b.dm),some (.ref rl),some (.ref ph),some (.ref pl),some (.ref sm),o7,o8,o9]) (fun R hR=>?_) ?_
 ·refine⟨2,rfl,by decide,by decide,jDr (lo:=0) (n:=2) (fun i σ G=>∃ b' w' hJ o9,Ow ⟨yK,yG,vZ,vX,cK,cG,cZ,cQ,yJ,yW,yU⟩ dB G b b' w0 w' hJ ex (200+33*i)/\σ=[some (.ref a),some (.ref nl),some (.ref b.dm),some (.ref rl),some (.ref ph),some (.ref pl),some (.ref sm),o7,o8,o9]) ⟨b1,w1,pc1,_,O1,rfl⟩ (fun i σ G hi zz=>?_) (fun σ G zz=>?_)⟩
  ·obtain⟨b2,w2,rL,o9,O2,rfl⟩:=zz;rw [zero_add];have f2:=O2.f;have Z':=O2.L.Z.at i;obtain⟨m1,m2,m3⟩:=rlm O2.e;have ewh:decide ((R5 (w2.at i).r ((w2.at i).z.ap.map (w2.at i).ps) (w2.at i).z.b (w2.at i).z.a).ps=(R5 (w2.at i).r ((w2.at i).z.ap.map (w2.at i).ps) (w2.at i).z.b (w2.at i).z.a).tot)=decide (i5 w2 i=(w2.at i).r.tot):=rfl;refine⟨_,rfl,_,rfl,rl,_,_,rfl,rfl,SqL.of (O2.L.M.ex _ m1).1,by omega,(by show (i:Int)<2;omega),fun v hv=>?_⟩;rw [jDX hi hv];exists _,_,_,_,_,_,rfl,Z'.R.o,rfl,T.aa,Daa,_,_,rfl,Z'.R,_,rfl;rw [ewh];by_cases c:i5 w2 i=(w2.at i).r.tot
   ·rw [decide_eq_true c];exact jJ (jJ ⟨b2,w2,rL,_,{ O2 with f:=by omega },rfl⟩)
   rw [decide_eq_false c];have gd:=gD O2.L.M;rw [O2.d] at gd;refine kM ⟨_,rfl,b.dm,_,rfl,gd,_,rfl,b2.dl,_,_,rfl,rfl,SqL.of O2.L.M.dr,by omega,(by show (i:Int)<2;omega),fun v hv=>?_⟩;obtain rfl:=vS hi hv;exists _,rfl;cases hd:b2.d i with
   | true=>exact jJ (jJ ⟨b2,w2,rL,_,{ O2 with f:=by omega },rfl⟩)
   | false =>
     refine kM ⟨_,rfl,_,rfl,_,rfl,_,rfl,_,rfl,rl,pl,ph,b2,w2,rL,ex,i,by rw [O2.d];rfl,hi,O2.L,m1,m2,m3,fun j _=>by rw [O2.e.2.2.2];exact p4 j,by omega,hd,c,fun G3 w3 pc3 C3 _ f3=>⟨_,rfl,jJ ⟨b2,w3,pc3,_,⟨C3.L,O2.d,⟨C3.e.1.trans O2.e.1,C3.e.2.1.trans O2.e.2.1,C3.e.2.2.1.trans O2.e.2.2.1,C3.e.2.2.2.trans O2.e.2.2.2⟩,by omega⟩,rfl⟩⟩⟩
  ·obtain⟨b',w',hJ,o9,O',rfl⟩:=zz;exact hR _ _ ⟨b',w',hJ,o9,O',rfl⟩
 rintro σ H8 ⟨b2,w2,rL,o9,O2,rfl⟩;exact⟨_,rfl,_,rfl,rl,b2,w2,rL,ex,by rw [O2.d];rfl,O2.L,(rlm O2.e).1,fun H' _ _=>q H'⟩
end
end My
namespace PySem.W.Fast
noncomputable def tw13869065290018831348:PySem.Program:=PySem.Challenge.pw_spoolhall_k38_whole_run_in_heaps
theorem te13869065290018831348:PySem.Challenge.pw_spoolhall_k38_whole_run_in_heaps=tw13869065290018831348:=rfl
def tw8198388020989244139:=0
def tw16334269603608236009:=0
def tw8256756001248730238:=0
def tw7000230605656102937:=0
def tw416896333296413498:=0
def tw14279548642978016194:=0
def tw3636485946552096843:=0
def tw10250128416164979797:=0
def tw9037822578814167693:=0
def tw5639162907861038502:=0
def tw7804612467483081227:=0
def tw2786145393726296909:=0
def tw14349457511333076950:=0
def tw17061398067407011694:=0
def tw788186472523216686:=0
def tw13565382224871407197:=0
def tw5028407243327927432:=0
def tw4395270643912486819:=0
def tw4277680426121349549:=0
def tw4109329577169846106:=0
def tw6160421272536188686:=0
def tw5472056769562337061:=0
def tw10622014337692724483:=0
def tw2473027702374444741:=0
def tw15353861075801108427:=0
def tw8377659071839656765:=0
def tw892280801872692567:=0
def tw4159423588246581155:=0
def tw3670677943940228766:=0
def tw5952953517529432786:=0
def tw15323178412907804404:=0
def tw1166075416828985551:=0
def tw11756030163736583052:=0
def tw4671196231228426070:=0
def tw12958476787024725127:=0
def tw16077406348237882359:=0
def tw1225538761755669474:=0
def tw6985918456887844924:=0
def tw10026178636922703266:=0
def tw15242975224516063698:=0
def tw8676666160719102015:=0
def tw16411191911370272675:=0
def tw5098879792871030823:=0
def tw13064029910356594280:=0
def tw6721503100470328955:=0
def tw5657882584800402747:=0
def tw1453109574499576923:=0
def tw15667467090465707886:=0
def tw5247409817274920907:=0
def tw14514443204393608213:=0
def tw11518921574025726151:=0
def tw12950756508514895715:=0
def tw11287131140152029429:=0
def tw12440430704334328654:=0
def tw17611058468577611801:=0
def tw5900432751992694675:=0
def tw14167929748903346468:=0
def tw10584971777938527694:=0
def tw12270689426128010220:=0
def tw9873963968133540503:=0
def tw6658844447578350508:=0
def tw2306288495119241884:=0
def tw13352785943292519859:=0
def tw103454179312458972:=0
def tw1206029217718877949:=0
def tw1935037713496268067:=0
def tw5322289855179569295:=0
def tw10559354187709611759:=0
def tw11917962537909721079:=0
def tw18007071183444190495:=0
def tw17789535998356622717:=0
def tw8790383142778302553:=0
def tw12466576932454079317:=0
def tw3638870295188661086:=0
def tw11128024299023227954:=0
def tw9656722306481507085:=0
def tw10684384378802677381:=0
def tw17625824404564950072:=0
def tw4695511477434116434:=0
def tw3404422319793997018:=0
def tw12789833535295490007:=0
def tw1625103155197484957:=0
def tw4792129454565116536:=0
def tw431393667553279909:=0
def tw10437325656932360277:=0
def tw9664441770566140622:=0
def tw7041458576931664450:=0
def tw3306521606271900593:=0
def tw17019500082066597257:=0
def tw4545520052336046146:=0
def tw12113384121275059502:=0
def tw17049024809293941377:=0
def tw16717942544790047914:=0
def tw1301147669868811327:=0
def tw8420639432598351509:=0
def tw4946945235315280453:=0
def tw7520775796076094473:=0
def tw8095648312489590042:=0
def tw17763100757765123499:=0
def tw7104010840515339943:=0
def tw12125642571943624737:=0
def tw6488148498243425281:=0
def tw14431096671420209656:=0
def tw5946202348143239567:=0
def tw12024514501584462396:=0
def tw11286971183332737432:=0
def tw11930610322612913463:=0
def tw13343377443103947671:=0
def tw15260208594927111514:=0
def tw12099569227850889097:=0
def tw8658796471057194521:=0
def tw3576000316647046559:=0
def tw17299149428036327239:=0
def tw13856489884845898357:=0
def tw7011664542571560167:=0
def tw16647101943138243562:=0
def tw10551273310518915128:=0
def tw11446500917666005491:=0
def tw6064415399239591068:=0
def tw17445422256559356123:=0
def tw673606529934265392:=0
def tw13603093842620565953:=0
def tw12284103284052749350:=0
def tw11777562704692988051:=0
def tw11960584594300934032:=0
def tw9010885421152453776:=0
def tw14810579333562225983:=0
def tw5214157429961358192:=0
def tw13592737478074579671:=0
def tw10470979562423184009:=0
def tw3896553668457609191:=0
def tw14145097124225045056:=0
def tw15662619288787701135:=0
def tw8773102042857799990:=0
def tw9853942653922860591:=0
def tw7301528539566131156:=0
def tw1959421325526414599:=0
def tw508892747875954763:=0
def tw16367642825255465059:=0
def tw4097868296715187412:=0
def tw10431560397435552603:=0
def tw17833328169358925033:=0
def tw15049418613661420021:=0
def tw2723324217528315342:=0
def tw13306458831946384912:=0
def tw10738926471342834294:=0
def tw6768593890029606961:=0
def tw12328154864558210665:=0
def tw9752202446273483217:=0
def tw9989323939748395636:=0
def tw17790071240609367234:=0
def tw5558936667302322943:=0
def tw17575797604762352179:=0
def tw18034357036093518245:=0
def tw12699136222760258411:=0
def tw9017569020551032598:=0
def tw1865457482759994184:=0
def tw4352665945920837815:=0
def tw10298410285574458301:=0
def tw8552603238883390939:=0
def tw2442613242001207997:=0
def tw150469528394766534:=0
def tw9269275468377950661:=0
def tw1084812369357307232:=0
def tw12335426349365751355:=0
def tw15564438047688051379:=0
def tw10351905587335593325:=0
def tw11141736034570679288:=0
def tw11277250358522781480:=0
def tw8192956379051043957:=0
def tw15833907868922320750:=0
def tw13790037683829961826:=0
def tw4797730356107840743:=0
def tw1377525073401595276:=0
def tw5016945617828162022:=0
def tw9723342795088393516:=0
def tw11515520722774933209:=0
def tw4124580885680734463:=0
def tw9417538203618193373:=0
def tw17798554677258367778:=0
def tw10656437623669243409:=0
def tw15442708811445857501:=0
def tw11482771554241571932:=0
def tw9877022475602118585:=0
def tw4088769894612231148:=0
def tw11414340947887269763:=0
def tw2032759489788372166:=0
def tw4494658622445264801:=0
def tw11101222062174180055:=0
def tw72235163114315263:=0
def tw3891199713105430262:=0
def tw200118998206391916:=0
def tw9675780516964142929:=0
def tw9013735526081767223:=0
def tw2626809974213643827:=0
def tw4787625596987002767:=0
def tw2094502312986432928:=0
def tw5140539311252116650:=0
def tw4586392444529037023:=0
def tw1171255225287874918:=0
def tw10251432675929515408:=0
def tw3315964824496183740:=0
def tw18186859061401190508:=0
def tw6223022432440760849:=0
def tw17727731289820538819:=0
def tw1640555069653543386:=0
def tw2520559854808029376:=0
def tw6226626589235720361:=0
def tw4364085587313796439:=0
def tw17456941715689467417:=0
def tw13572526795742106971:=0
def tw2855516879604075704:=0
def tw16704971501909247916:=0
def tw17507143222066345053:=0
def tw9309194922658969453:=0
def tw1751571312695805079:=0
def tw4214204506911093878:=0
def tw8866072625068966910:=0
def tw16241374548883239329:=0
def tw11655134041318096954:=0
def tw15514276366094807824:=0
def tw348919194331576946:=0
def tw2619723434434572876:=0
def tw6142614508352058653:=0
def tw542721469230070819:=0
def tw12158780559661310321:=0
def tw4341324413367545363:=0
def tw15939423728934799602:=0
def tw2140657535861938873:=0
def tw10575246943984481642:=0
def tw5648682192917065076:=0
def tw10247831455517285409:=0
def tw9861560833876419482:=0
def tw18399730734664064167:=0
def tw9085787292793855006:=0
def tw2564199842083637397:=0
def tw7009934000949726400:=0
def tw1109456584864150806:=0
def tw16137565334896597822:=0
def tw6878170330144952258:=0
def tw9595586660339020061:=0
def tw13145640819586124997:=0
def tw7016734974742330236:=0
def tw6854579669069948578:=0
def tw16522029932547318644:=0
def tw5548979014930123639:=0
def tw80960166144118341:=0
def tw14727794000037756606:=0
def tw2161904786497338727:=0
def tw5888768073811968238:=0
def tw12987986095726918696:=0
def tw2360757565749311379:=0
def tw1939130690468581062:=0
def tw2367935643404430314:=0
def tw12719942703481446465:=0
def tw8859615532587156517:=0
def tw11652196740893939910:=0
def tw2468251922738306775:=0
def tw6848651335924958452:=0
def tw999752446412702788:=0
def tw11693331498570810217:=0
def tw15704352121664292898:=0
def tw4350819812891782851:=0
def tw9015383707612926359:=0
def tw6703299121223075300:=0
def tw9955714581988905893:=0
def tw12642922591663570010:=0
def tw15539357041769930450:=0
def tw13130002830698718392:=0
def tw1955098735104363730:=0
def tw3880773119601645740:=0
def tw15207388062310872843:=0
def tw8524119083336083773:=0
def tw6479930030654357227:=0
def tw6277158871856717076:=0
def tw7460627034194250576:=0
def tw16324984011307960738:=0
def tw1310304557820393252:=0
def tw10659533055373464655:=0
def tw13623773623966694690:=0
def tw16169500517676847699:=0
def tw11331839006454534350:=0
def tw12183826347971269244:=0
def tw12641019778879396893:=0
def tw9650226631764988034:=0
def tw9131772003558210075:=0
def tw13264406599066815430:=0
def tw1860011064813819629:=0
def tw8689901094067929795:=0
def tw4701013175831979319:=0
def tw274692696507228491:=0
def tw15092689229632396900:=0
def tw5484233805527525901:=0
def tw2375991079814574229:=0
def tw7899110200698631590:=0
def tw16959447776727149553:=0
def tw9256873548843969326:=0
def tw8005234145548777391:=0
def tw2697453942676997509:=0
def tw10087876895838786326:=0
def tw3352238525009261924:=0
def tw6720773954193430197:=0
def tw14650515377568114580:=0
def tw16819690357940184859:=0
def tw5784343402110067227:=0
def tw7290194647081681365:=0
def tw6761810314558768987:=0
def tw13211824269184815514:=0
def tw18116359886154778827:=0
def tw10283869834355289198:=0
def tw8597010202687763199:=0
def tw16795734480978113386:=0
def tw2666821179337536329:=0
def tw17804863386876152842:=0
def tw7941556500009038557:=0
def tw9271895143506027913:=0
def tw13788199335697627710:=0
def tw3090023540309168785:=0
def tw17198694111195787890:=0
def tw1817843101000397329:=0
def tw1394595189187353498:=0
def tw16245966570094900449:=0
def tw17189029993712461364:=0
def tw7726722605724190066:=0
def tw2610621540808173356:=0
def tw2723896790847902892:=0
def tw15189791852440120207:=0
def tw5099118415702804892:=0
def tw12588446430518376153:=0
def tw13014550902467495503:=0
def tw17153322771879166909:=0
def tw15791791102525511143:=0
def tw421452318665937505:=0
def tw10446545304739931164:=0
def tw12175359143248506881:=0
def tw12890801724958016760:=0
def tw4150735221534278517:=0
def tw13309159569636226423:=0
def tw7763828628131181957:=0
def tw5852296364988320082:=0
def tw10362089507087648890:=0
def tw324336276086027418:=0
def tw2461813452984229046:=0
def tw6023205553446263568:=0
def tw8195096954670353013:=0
def tw4584094688715858018:=0
def tw861064746486975271:=0
def tw10663512868440349349:=0
def tw9956467942442326387:=0
def tw12327538063219136787:=0
def tw4574222316386782323:=0
def tw18008925579298117834:=0
def tw12480261781315788123:=0
def tw1991489773605555612:=0
def tw9435492824546013561:=0
def tw11205634189561607765:=0
def tw6032752099163873845:=0
def tw10301717211160690576:=0
def tw18419519934741179937:=0
def tw8040455205707856497:=0
def tw7691453715744193574:=0
def tw1176193087349866201:=0
def tw4073981212999024579:=0
def tw9353115295111495659:=0
def tw7078566942626985233:=0
def tw3015117234311169132:=0
def tw7172958966486521893:=0
def tw469512268573415822:=0
def tw593283227068934210:=0
def tw2027628229127161337:=0
def tw2587026926980498844:=0
def tw4879916774192214880:=0
def tw645564795304030564:=0
def tw15566964952603573642:=0
def tw9315044288577071045:=0
def tw7260346365838712474:=0
def tw7397873871051570137:=0
def tw11874045433714242124:=0
def tw7205672445191769142:=0
def tw12268857001832261011:=0
def tw7525087171514846010:=0
def tw14440810160893890264:=0
def tw11975980309058996300:=0
def tw6158437005479289965:=0
def tw6821900764610190082:=0
def tw13600422249532671875:=0
def tw6603459074455822861:=0
def tw7964607439326044994:=0
def tw2531229343838353563:=0
def tw1143134608130131657:=0
def tw8963375971422457291:=0
def tw5753749001371963358:=0
def tw11860806283074139981:=0
def tw7041306767237749844:=0
def tw7139786222545305963:=0
def tw15861009868395967714:=0
def tw6592395778543837330:=0
def tw7123188814019287300:=0
def tw18444214056252266493:=0
def tw1639746309770752866:=0
def tw16666488863717174626:=0
def tw7557702978832208649:=0
def tw3966996655628961393:=0
def tw9791225652961353210:=0
def tw8508774350222147645:=0
def tw1350924290313469161:=0
def tw11808646890667615956:=0
def tw9322376612125894857:=0
def tw9067807383371890082:=0
def tw9731247298985153815:=0
def tw2051250916436242496:=0
def tw3865997526494484013:=0
def tw15964336990056495095:=0
def tw9083447037270363496:=0
def tw4577374518914102738:=0
def tw18194605034431112499:=0
def tw15614997368867546955:=0
def tw3845555953924747272:=0
def tw9002628302516145745:=0
def tw2533508399157948030:=0
def tw16622371277244433240:=0
def tw255749534101526228:=0
def tw10035420515591982232:=0
def tw14279591621608278826:=0
def tw12285858785403159476:=0
def tw12282879532709500912:=0
def tw17740938877069513108:=0
def tw13040796898435867338:=0
def tw3037245344003751562:=0
def tw17698182344711032440:=0
def tw13262174905902762368:=0
def tw2744361907279687518:=0
def tw12640879041232213633:=0
def tw6256535018375310356:=0
def tw17617542174577244190:=0
def tw15557004272069599775:=0
def tw5260659779451155381:=0
def tw12965659602802522369:=0
def tw4884767462061019830:=0
def tw6501609186357493125:=0
def tw5882613307235906419:=0
def tw17050470748767624770:=0
def tw3392634561766378609:=0
def tw14667695139184306122:=0
def tw1533344668770572738:=0
def tw18188819774661670028:=0
def tw8547627353014923975:=0
def tw16325547855233221278:=0
def tw15349150311752839817:=0
def tw14684296728870453054:=0
def tw9393308683573331593:=0
def tw9831398746186981156:=0
def tw5449403869230990825:=0
def tw16584198444386579836:=0
def tw5624791426383256674:=0
def tw355199170877867268:=0
def tw14840521692281619344:=0
def tw2474975113556573516:=0
def tw1727613017491263581:=0
def tw1363666576169927744:=0
def tw15351430939743981874:=0
def tw10229160746991932208:=0
def tw17073994950522288656:=0
def tw9471595853119203565:=0
def tw11673506961136306487:=0
def tw7211319338643626651:=0
def tw6983075078809924030:=0
def tw4496707799073146269:=0
def tw4854359512527117442:=0
def tw8250560309927202473:=0
def tw10541610858733177141:=0
def tw3962690131665680273:=0
def tw1810688140742060802:=0
def tw11978341597039524320:=0
def tw7488907187895730281:=0
def tw15720746562684036383:=0
def tw6136586945523519522:=0
def tw8606355623147038979:=0
def tw4853571203287753083:=0
def tw13818196895305210047:=0
def tw3645726564547010303:=0
def tw2974487589230007229:=0
def tw2061986175676745611:=0
def tw5975730940986717894:=0
def tw7937302510838458512:=0
def tw16409610799008302546:=0
def tw7192942491217612237:=0
def tw12071185111997591728:=0
def tw17415472495127642970:=0
def tw11392665899036511115:=0
def tw11190542619202669267:=0
def tw8135632518432121282:=0
def tw16752394244535237075:=0
def tw11255703759004711053:=0
def tw32919878964610442:=0
def tw16331439912417620703:=0
def tw365275895459935806:=0
def tw4406633001342254055:=0
def tw2160176322910243219:=0
def tw4824454483591856360:=0
def tw2111631503094561116:=0
def tw12851109374355700352:=0
def tw10319026881571226561:=0
def tw12225077665204802252:=0
def tw11236356383692411616:=0
def tw13810987104842905216:=0
def tw354444062705677981:=0
def tw10976267005123759324:=0
def tw10806790359531825887:=0
def tw7659396553544567101:=0
def tw13747412887526675385:=0
def tw16952017463483387020:=0
def tw15906199210582595255:=0
def tw9940244587659414297:=0
def tw1843680829596273464:=0
def tw4803300505512068740:=0
def tw12536255671756750274:=0
def tw14733464295701956167:=0
def tw4727393921931406372:=0
def tw8769407900949310914:=0
def tw13626558166197665034:=0
def tw16153293892590087002:=0
def tw14008952710300320735:=0
def tw15215301356115976440:=0
def tw8170791112499345489:=0
def tw7375011337262667276:=0
def tw9330961122727880679:=0
def tw9725104823412357871:=0
def tw3988837034525447067:=0
def tw12830706552020871815:=0
def tw9484003221785476555:=0
def tw693382482226424348:=0
def tw6225298254121330362:=0
def tw15915338989818545588:=0
def tw14147449094698687684:=0
def tw1149421474305607547:=0
def tw9875100523656502344:=0
def tw3698145833423298700:=0
def tw9301726666549614088:=0
def tw17737951433730967672:=0
def tw6108898418120786471:=0
def tw10361140727851383875:=0
def tw14209794386911815530:=0
def tw17349701917719111187:=0
def tw15900539581873035829:=0
def tw14028894941394436474:=0
def tw3860599799083131094:=0
def tw5046827820015637523:=0
def tw1522325073182711832:=0
def tw17875109948478295988:=0
def tw15850376374759017963:=0
def tw9935026999271598497:=0
def tw4677625037474929370:=0
def tw7161935222514525566:=0
def tw415803925491084051:=0
def tw14686318982597155281:=0
def tw4241559584407448653:=0
def tw13438740290591820090:=0
def tw1701057974418195243:=0
def tw2666546177638574751:=0
def tw14728957920907515515:=0
def tw2604692075192518699:=0
def tw2303802478241198985:=0
def tw5767166714554706697:=0
def tw16089922573230866545:=0
def tw10575739030462763049:=0
def tw14876260686775280308:=0
def tw1291039886307206750:=0
def tw7803008662954190814:=0
def tw17511709529536121910:=0
def tw5961123494174725458:=0
def tw16302373010461842649:=0
def tw4888643413851287234:=0
def tw13946182023635311525:=0
def tw11525561608273406550:=0
def tw8122231605995294504:=0
def tw3815443509496750615:=0
def tw3678976391947826762:=0
def tw13866231989372938270:=0
def tw5863868107364347083:=0
def tw10738061395484360856:=0
def tw5409176264474128913:=0
def tw534110297638597212:=0
def tw9633812248839845603:=0
def tw12734598037141114307:=0
def tw8001350927772211800:=0
def tw7128205505428866178:=0
def tw14661283710548746725:=0
def tw2788514149060764318:=0
def tw1840870640148963530:=0
def tw6715424889703132382:=0
def tw9895446980132971023:=0
def tw15341434713972076978:=0
def tw4415629982092277352:=0
def tw2951771518619112916:=0
def tw7428031298726653014:=0
def tw1812071261362990540:=0
def tw3750301689678992833:=0
def tw15289624069340999965:=0
def tw17414237985491274020:=0
def tw9922635365190179230:=0
def tw16989861471911964677:=0
def tw6494565780647430166:=0
def tw14003151698461461276:=0
def tw2102504145889009320:=0
def tw16304127209668178324:=0
def tw10436594756916353067:=0
def tw126784428961665234:=0
def tw15979397987643232962:=0
def tw15683664841048244825:=0
def tw6770420641202246790:=0
def tw17807319732877126708:=0
def tw18167829694455137463:=0
def tw1763015519689407317:=0
def tw7577662953990685910:=0
def tw8289825780953710005:=0
def tw11989490697112462595:=0
def tw12653384981775036331:=0
def tw8015534942932505631:=0
def tw5927239403397542911:=0
def tw12635006354451413566:=0
def tw9055782296312982084:=0
def tw16503449934242460352:=0
def tw7381471912875739034:=0
def tw13915555922383476058:=0
def tw9336015663034368564:=0
def tw4054453979736451921:=0
def tw4248226589806732462:=0
def tw12085992390442382956:=0
def tw17838226929551091076:=0
def tw1124592710234453356:=0
def tw7825822816716172155:=0
def tw9673593020325926198:=0
def tw6242703119722138455:=0
def tw7290940556858920969:=0
def tw1572939726375809248:=0
def tw17823333464815455731:=0
def tw1082158705834199186:=0
def tw12730369021681315815:=0
def tw1447713228672546850:=0
def tw12898260005360952261:=0
def tw12783440437330695667:=0
def tw16198772139088688977:=0
def tw18259748877623536783:=0
def tw14897844557137562227:=0
def tw7652436431324103081:=0
def tw11043799002821583079:=0
def tw10174063917195442109:=0
def tw268482035919286:=0
def tw18420659474100651345:=0
def tw4395485501442429002:=0
def tw7872780531866437684:=0
def tw11267191335625837495:=0
def tw10141675219105764043:=0
def tw961199943847984777:=0
def tw58825615097326584:=0
def tw10608643063791425131:=0
def tw7831156646697827209:=0
def tw12121591264360313277:=0
def tw15142262052449237873:=0
def tw5185871429013422093:=0
def tw11381246540231829472:=0
def tw15998683921915630714:=0
def tw9678908229629635765:=0
def tw5720852722113662435:=0
def tw9113207805705323796:=0
def tw11718586187244870597:=0
def tw11952442793046057583:=0
def tw3915895983356982398:=0
def tw6894999051802505218:=0
def tw12859667701437603913:=0
def tw205458872781479112:=0
def tw7052843009018302851:=0
def tw2333627074473050887:=0
def tw242099340921543414:=0
def tw16070298713766274139:=0
def tw16438852015335520132:=0
def tw13034387272801922177:=0
def tw8600594481874925653:=0
def tw11154735344495221242:=0
def tw10643455849930432048:=0
def tw6178732938316402759:=0
def tw18302284789043424709:=0
def tw15236731371607473891:=0
def tw5553031668191431438:=0
def tw3887927673062765217:=0
def tw15592680861747369222:=0
def tw3623225008665560285:=0
def tw9678901108388877556:=0
def tw9172861078816342315:=0
def tw11210442368804485177:=0
def tw8988893069464126739:=0
def tw9315989211955429305:=0
def tw7434594345418982753:=0
def tw2625956360589071175:=0
def tw3684548050002152032:=0
def tw8190366956957467204:=0
def tw3172642340861398394:=0
def tw2461848074427077942:=0
def tw17408577122113591123:=0
def tw16279326216267509755:=0
def tw14901767722508253509:=0
def tw2112930475527753802:=0
def tw9157965379057088992:=0
def tw15159864426469905674:=0
def tw3611416851339264015:=0
def tw12047993063141274184:=0
def tw3009004348958574130:=0
def tw5241712885551207388:=0
def tw4507114860632857050:=0
def tw941758235779339761:=0
def tw11025651152135468182:=0
def tw13995163536990642290:=0
def tw16693826298433850225:=0
def tw382482950428393606:=0
def tw15401154850810013009:=0
def tw8177679596053605067:=0
def tw527851876887687047:=0
def tw13918339053905538167:=0
def tw6282390870797257705:=0
def tw5483536610389242939:=0
def tw12451856849936697521:=0
def tw15041268779498240620:=0
def tw11872330767679163702:=0
def tw4746391239738885427:=0
def tw10854117265786752555:=0
def tw7334695709084136891:=0
def tw11000149736775631529:=0
def tw13987626085051069601:=0
def tw16791384639337340757:=0
def tw14395008938003106431:=0
def tw13457815696865799986:=0
def tw399586742314870114:=0
def tw7297349550862846167:=0
def tw443634875399714636:=0
def tw11858225370021359509:=0
def tw13148749746925506198:=0
def tw486275293239533114:=0
def tw15849007649428188399:=0
def tw10973372521982278520:=0
def tw3385557610243362239:=0
def tw5729218441065438190:=0
def tw7583285108663862634:=0
def tw9348273817821036758:=0
def tw17593032286780307423:=0
def tw3902414009596594006:=0
def tw1889996955393650329:=0
def tw12857584166754968174:=0
def tw1488628867955669436:=0
def tw226001949339966101:=0
def tw449909043590492879:=0
def tw11919304217552628638:=0
def tw18109419346602401383:=0
def tw6101286435021911691:=0
def tw3488186118118347179:=0
def tw14274615857423161765:=0
def tw8239811982836314230:=0
def tw4735628323816214729:=0
def tw1781908521121785565:=0
def tw8776071787711046090:=0
def tw4361177055217259827:=0
def tw630649525487433207:=0
def tw1888636142600337140:=0
def tw902042381158359235:=0
def tw16748705115121184130:=0
def tw12266462569927592128:=0
def tw4849287340472159597:=0
def tw17221591554912428030:=0
def tw16941867418289981336:=0
def tw9426580480598724544:=0
def tw6189209737984980184:=0
def tw15804357519261488775:=0
def tw3199809050054735809:=0
def tw12999237039896238026:=0
def tw7859372031886396479:=0
def tw18279308702330804641:=0
def tw6349198238205455983:=0
def tw4810058110386923237:=0
def tw2132315638099434848:=0
def tw9511531013285869473:=0
def tw14264185652642405616:=0
def tw7492666223480950892:=0
def tw4636422864383892516:=0
def tw7814974363371753349:=0
def tw2148593213628670193:=0
def tw13780873874617471127:=0
def tw7383585126209134238:=0
def tw8392662390438687464:=0
def tw10104694668886310082:=0
def tw17788841809476587068:=0
def tw17375794618254674191:=0
def tw4337672109499123356:=0
def tw3052965381097583495:=0
def tw4878546960125649189:=0
def tw5386558170891805428:=0
def tw12204928656935051745:=0
def tw9596664900114787035:=0
def tw5950417527295616940:=0
def tw8577434731236557645:=0
def tw8520244001904001218:=0
def tw14800523009983012646:=0
def tw12416082332116211084:=0
def tw10093229611893480472:=0
def tw7042548821175618408:=0
def tw6474542498456672664:=0
def tw677323407730837485:=0
def tw1159695466399244098:=0
def tw6532904267205760562:=0
def tw4186993169481543046:=0
def tw9133339514523279953:=0
def tw18163148761002544726:=0
end PySem.W.Fast
namespace My
open PySem L2
theorem bn1{p:List Value->Prop}(h:∀ a0:Value,p [a0])(us:List Value)(l:us.length=1):p us:=match us,l with|[a0],_=>h a0
theorem bn2{p:List Value->Prop}(h:∀ a0 a1:Value,p [a0,a1])(us:List Value)(l:us.length=2):p us:=match us,l with|[a0,a1],_=>h a0 a1
theorem bn3{p:List Value->Prop}(h:∀ a0 a1 a2:Value,p [a0,a1,a2])(us:List Value)(l:us.length=3):p us:=match us,l with|[a0,a1,a2],_=>h a0 a1 a2
theorem bn4{p:List Value->Prop}(h:∀ a0 a1 a2 a3:Value,p [a0,a1,a2,a3])(us:List Value)(l:us.length=4):p us:=match us,l with|[a0,a1,a2,a3],_=>h a0 a1 a2 a3
theorem bn5{p:List Value->Prop}(h:∀ a0 a1 a2 a3 a4:Value,p [a0,a1,a2,a3,a4])(us:List Value)(l:us.length=5):p us:=match us,l with|[a0,a1,a2,a3,a4],_=>h a0 a1 a2 a3 a4
theorem bn7{p:List Value->Prop}(h:∀ a0 a1 a2 a3 a4 a5 a6:Value,p [a0,a1,a2,a3,a4,a5,a6])(us:List Value)(l:us.length=7):p us:=match us,l with|[a0,a1,a2,a3,a4,a5,a6],_=>h a0 a1 a2 a3 a4 a5 a6
theorem vI{p:List Value->Prop}(h:∀ a0 a1 a2 a3 a4 a5 a6 a7 a8 a9 a10:Value,p [a0,a1,a2,a3,a4,a5,a6,a7,a8,a9,a10])(us:List Value)(l:us.length=11):p us:=match us,l with|[a0,a1,a2,a3,a4,a5,a6,a7,a8,a9,a10],_=>h a0 a1 a2 a3 a4 a5 a6 a7 a8 a9 a10
def Fi(K:PySem.W.Frag)(C:Addr)(n:Str)(f:Addr):Prop:=PySem.W.findIn K (.ref C) n=some (some (.ref f))
def Ng(K:PySem.W.Frag)(n:Str)(v:Option Value):Prop:=PySem.W.nsIn K dS n=some v
structure MP(K:PySem.W.Frag)(C:Addr)(n q:Str)(st:Stmt)(f:Addr):Prop where
 a:Fi K C n f
 i:yP K (.ref f)=true
 F:∃ fd,Fun K n q st f fd
structure GP(K:PySem.W.Frag)(n:Str)(st:Stmt)(f:Addr):Prop where
 a:Ng K n (some (.ref f))
 F:∃ fd,Fun K n n st f fd
def cpB(K:PySem.W.Frag)(C:Addr)(fs:List Str):Bool:=nL K C xV&&PySem.W.hasDictIn K C&&pX K C&&PySem.W.findIn K (.ref C) "__setattr__" == some (some (.builtin "object.__setattr__"))&&rQ K C&&i8 K (.ref C)&&fs.all fun f=>PySem.W.findIn K (.ref C) f==some none
structure CP(K:PySem.W.Frag)(n:Str)(C:Addr)(fs:List Str):Prop where
 a:Ng K n (some (.ref C))
 c:Cls K C
 m:rQ K C=true
 k:i8 K (.ref C)=true
 n:∀ (i:Nat) {f:Str},fs[i]?=some f->jB K C f
structure XP(K:PySem.W.Frag)(n:Str)(C:Addr)(fs:List Str):Prop where
 a:Ng K n (some (.ref C))
 x:xcls K C fs=true
 m:PySem.W.excMk K C=true
 k:i8 K (.ref C)=true
def GsP(K:PySem.W.Frag)(n z:Str):Prop:=∃ t,Ng K n (some (.str z t))
def GiP(K:PySem.W.Frag)(n:Str)(z:Int):Prop:=∃ t,Ng K n (some (.int z t))
section
variable {K:PySem.W.Frag}{C f:Addr}{n q:Str}{st:Stmt}{oc kV oG pm fE ct:Value}{od an:Option Addr}{sZ:Array (Option Value)}{fs:List Str}
theorem MP.of(a:PySem.W.findIn K (.ref C) n=some (some (.ref f)))(i:yP K (.ref f)=true)(l:K.lookup f=some ⟨oc,od,.func (PySem.W.fnOf n q (jDu st) (wA st) (fY st) .none kV oG pm an fE ct),sZ⟩)(c:PySem.W.codeIn K fE q=true)(k:i8 K (.ref f)=true):MP K C n q st f:=⟨a,i,_,jLM l c k⟩
theorem GP.of(a:PySem.W.nsIn K dS n=some (some (.ref f)))(l:K.lookup f=some ⟨oc,od,.func (PySem.W.fnOf n n (jDu st) (wA st) (fY st) .none kV oG pm an fE ct),sZ⟩)(c:PySem.W.codeIn K fE n=true)(k:i8 K (.ref f)=true):GP K n st f:=⟨a,_,jLM l c k⟩
structure GL(K:PySem.W.Frag)(n:Str)(st:Stmt)(f tP:Addr):Prop where
 a:Ng K n (some (.ref f))
 F:∃ fd cL,Fun K n n st f fd/\fd.code=.ref cL/\jI K cL tP=true
theorem GL.of{cL tP:Addr}(a:PySem.W.nsIn K dS n=some (some (.ref f)))(l:K.lookup f=some ⟨oc,od,.func (PySem.W.fnOf n n (jDu st) (wA st) (fY st) .none kV oG pm an (.ref cL) ct),sZ⟩)(c:PySem.W.codeIn K (.ref cL) n=true)(k:i8 K (.ref f)=true)(h:jI K cL tP=true):GL K n st f tP:=⟨a,_,cL,jLM l c k,rfl,h⟩
theorem CP.of(a:PySem.W.nsIn K dS n=some (some (.ref C)))(b:cpB K C fs=true):CP K n C fs:=by
 unfold cpB at b;simp only [fA,beq_iff_eq,jP] at b;obtain⟨⟨⟨⟨⟨⟨h1,h2⟩,h3⟩,h4⟩,h5⟩,h6⟩,h7⟩:=b;exact⟨a,⟨h1,h2,h3,h4⟩,h5,h6,fun i f e=>h7 f (mem_of_getElem? e)⟩
theorem XP.of(a:PySem.W.nsIn K dS n=some (some (.ref C)))(x:xcls K C fs=true)(m:PySem.W.excMk K C=true)(k:i8 K (.ref C)=true):XP K n C fs:=⟨a,x,m,k⟩
theorem GsP.of{x z:Str}{t:Tok}(g:PySem.W.nsIn K dS n=some (some (.str x t)))(e:x=z):GsP K n z:=⟨t,e ▸ g⟩
theorem GiP.of{x z:Int}{t:Tok}(g:PySem.W.nsIn K dS n=some (some (.int x t)))(e:x=z):GiP K n z:=⟨t,e ▸ g⟩
variable {P:Program}{w:World}{mg:Str->Option Value}{base h:Heap}{k:Nat}{fd:FuncData}{ps:List Str}{sp:Sp}{x:Str}
structure En(P:Program)(w:World)(K:PySem.W.Frag)(mg:Str->Option Value)(base h:Heap):Prop where
 X:K.In h
 G:h.Ns dS mg
theorem lC(e:En P w K mg base h)(p:MP K C n q st f)(o:∀ fd,Fun K n q st f fd->fJ P w K mg base (CXe P w) k f fd ps sp)(b:∀ fd,Fun K n q st f fd->oY K fd ps []:=by first|exact fun _ F=>F.binds fun _ _ _ _ _ _=>bn1 fun _=>rfl|exact fun _ F=>F.binds fun _ _ _ _ _ _=>bn2 fun _ _=>rfl|exact fun _ F=>F.binds fun _ _ _ _ _ _=>bn3 fun _ _ _=>rfl|exact fun _ F=>F.binds fun _ _ _ _ _ _=>bn4 fun _ _ _ _=>rfl|exact fun _ F=>F.binds fun _ _ _ _ _ _=>bn5 fun _ _ _ _ _=>rfl|exact fun _ F=>F.binds fun _ _ _ _ _ _=>bn7 fun _ _ _ _ _ _ _=>rfl|exact fun _ F=>F.binds fun _ _ _ _ _ _=>vI fun _ _ _ _ _ _ _ _ _ _ _=>rfl):MtE P w K mg base k n C ps sp:=let ⟨fd,F⟩:=p.F;⟨_,_,⟨p.a,p.i,F.kp⟩,o fd F,b fd F⟩
theorem qO{D:Addr}(e:En P w K mg base h)(a:Fi K D n f)(p:MP K C n q st f)(o:∀ fd,Fun K n q st f fd->fJ P w K mg base (CXe P w) k f fd ps sp)(b:∀ fd,Fun K n q st f fd->oY K fd ps []:=by first|exact fun _ F=>F.binds fun _ _ _ _ _ _=>bn1 fun _=>rfl|exact fun _ F=>F.binds fun _ _ _ _ _ _=>bn2 fun _ _=>rfl|exact fun _ F=>F.binds fun _ _ _ _ _ _=>bn3 fun _ _ _=>rfl|exact fun _ F=>F.binds fun _ _ _ _ _ _=>bn4 fun _ _ _ _=>rfl|exact fun _ F=>F.binds fun _ _ _ _ _ _=>bn5 fun _ _ _ _ _=>rfl|exact fun _ F=>F.binds fun _ _ _ _ _ _=>bn7 fun _ _ _ _ _ _ _=>rfl|exact fun _ F=>F.binds fun _ _ _ _ _ _=>vI fun _ _ _ _ _ _ _ _ _ _ _=>rfl):MtE P w K mg base k n D ps sp:=let ⟨fd,F⟩:=p.F;⟨_,_,⟨a,p.i,F.kp⟩,o fd F,b fd F⟩
theorem rF(e:En P w K mg base h)(p:GP K n st f)(o:∀ fd,Fun K n n st f fd->fJ P w K mg base CX0 k f fd ps sp)(b:∀ fd,Fun K n n st f fd->oY K fd ps []:=by first|exact fun _ F=>F.binds fun _ _ _ _ _ _=>bn1 fun _=>rfl|exact fun _ F=>F.binds fun _ _ _ _ _ _=>bn2 fun _ _=>rfl|exact fun _ F=>F.binds fun _ _ _ _ _ _=>bn3 fun _ _ _=>rfl|exact fun _ F=>F.binds fun _ _ _ _ _ _=>bn4 fun _ _ _ _=>rfl|exact fun _ F=>F.binds fun _ _ _ _ _ _=>bn5 fun _ _ _ _ _=>rfl|exact fun _ F=>F.binds fun _ _ _ _ _ _=>bn7 fun _ _ _ _ _ _ _=>rfl|exact fun _ F=>F.binds fun _ _ _ _ _ _=>vI fun _ _ _ _ _ _ _ _ _ _ _=>rfl):Dfn P w K mg base k n ps sp:=let ⟨fd,F⟩:=p.F;⟨_,_,o fd F,b fd F,F.kp,fV e.X e.G p.a⟩
theorem dfX(e:En P w K mg base h)(p:GP K n st f)(o:∀ fd,Fun K n n st f fd->fJ P w K mg base (CXe P w) k f fd ps sp)(b:∀ fd,Fun K n n st f fd->oY K fd ps []:=by first|exact fun _ F=>F.binds fun _ _ _ _ _ _=>bn1 fun _=>rfl|exact fun _ F=>F.binds fun _ _ _ _ _ _=>bn2 fun _ _=>rfl|exact fun _ F=>F.binds fun _ _ _ _ _ _=>bn3 fun _ _ _=>rfl|exact fun _ F=>F.binds fun _ _ _ _ _ _=>bn4 fun _ _ _ _=>rfl|exact fun _ F=>F.binds fun _ _ _ _ _ _=>bn5 fun _ _ _ _ _=>rfl|exact fun _ F=>F.binds fun _ _ _ _ _ _=>bn7 fun _ _ _ _ _ _ _=>rfl|exact fun _ F=>F.binds fun _ _ _ _ _ _=>vI fun _ _ _ _ _ _ _ _ _ _ _=>rfl):DfE P w K mg base k n ps sp:=let ⟨fd,F⟩:=p.F;⟨_,_,o fd F,b fd F,F.kp,fV e.X e.G p.a⟩
theorem vL(e:En P w K mg base h)(c:CP K n C fs)(p:MP K C "__init__" q st f)(o:∀ fd,Fun K "__init__" q st f fd->fJ P w K mg base CX0 k f fd ps sp)(b:∀ fd,Fun K "__init__" q st f fd->oY K fd ps []:=by first|exact fun _ F=>F.binds fun _ _ _ _ _ _=>bn1 fun _=>rfl|exact fun _ F=>F.binds fun _ _ _ _ _ _=>bn2 fun _ _=>rfl|exact fun _ F=>F.binds fun _ _ _ _ _ _=>bn3 fun _ _ _=>rfl|exact fun _ F=>F.binds fun _ _ _ _ _ _=>bn4 fun _ _ _ _=>rfl|exact fun _ F=>F.binds fun _ _ _ _ _ _=>bn5 fun _ _ _ _ _=>rfl|exact fun _ F=>F.binds fun _ _ _ _ _ _=>bn7 fun _ _ _ _ _ _ _=>rfl|exact fun _ F=>F.binds fun _ _ _ _ _ _=>vI fun _ _ _ _ _ _ _ _ _ _ _=>rfl):MkD P w K mg base k n C ps sp:=let ⟨fd,F⟩:=p.F;⟨_,_,⟨c.m,p.a,p.i,c.k⟩,o fd F,b fd F,fV e.X e.G c.a⟩
theorem mkX(e:En P w K mg base h)(c:XP K n C fs)(p:MP K C "__init__" q st f)(o:∀ fd,Fun K "__init__" q st f fd->fJ P w K mg base CX0 k f fd ps sp)(b:∀ fd,Fun K "__init__" q st f fd->oY K fd ps []:=by first|exact fun _ F=>F.binds fun _ _ _ _ _ _=>bn1 fun _=>rfl|exact fun _ F=>F.binds fun _ _ _ _ _ _=>bn2 fun _ _=>rfl|exact fun _ F=>F.binds fun _ _ _ _ _ _=>bn3 fun _ _ _=>rfl|exact fun _ F=>F.binds fun _ _ _ _ _ _=>bn4 fun _ _ _ _=>rfl|exact fun _ F=>F.binds fun _ _ _ _ _ _=>bn5 fun _ _ _ _ _=>rfl|exact fun _ F=>F.binds fun _ _ _ _ _ _=>bn7 fun _ _ _ _ _ _ _=>rfl|exact fun _ F=>F.binds fun _ _ _ _ _ _=>vI fun _ _ _ _ _ _ _ _ _ _ _=>rfl)(l:ps.length<=1000:=by decide):sN P w K mg base k n C ps sp:=let ⟨fd,F⟩:=p.F;⟨⟨_,_,⟨c.m,p.a,p.i,c.k⟩,o fd F,b fd F,fV e.X e.G c.a⟩,l⟩
end
theorem all_mk{l:PySem.W.OpenLaw}{w:World}{K:PySem.W.Frag}{h:Heap}{mg:Str->Option Value}{fa yQ yZ yX yY yV yJ yW yU yK yG cQ cZ cV cK cG vQ vZ vX vY vV dB f0 f1 f2 f3 f4 f5 f6 f7 f8 f9 f10 f11 f12 f13 f14 f15 f16 f17 f18 f19 f20 f21 f22 f23 f24 f25 f26 f27 f28 f29 f30 f31 f32 f33 f34 f35 f36 f37 f38 f39 f40 f41 f42 f43 f44 f45 f46 f47 f48 f49 f50 f51 f52 f53 f54 f55 f56 f57 f58 f59 f60 f61 f62 f63 f64 f65 f66 f67 f68 f69 f70 f71 f72 f73 f74 f75 f76 f77 f78 f79 f80 f81 f82 f83 f84 f85 f86 f87 f88 f89 f90 f91:Addr}(X:K.In h)(G:h.Ns dS mg)(hfa:mg "law"=some (.ref fa))
 (qaa:CP K "Layout" yQ ["cells","backs"])
 (qab:CP K "One" yZ ["cells","backs"])
 (qac:CP K "Both" yX ["cells","backs"])
 (qad:CP K "Several" yY ["cells","backs"])
 (qae:CP K "State" yV ["word"])
 (qaf:CP K "Ready" yJ ["word"])
 (qag:CP K "Jammed" yW ["word"])
 (qah:CP K "Away" yU ["word","jammed"])
 (qai:CP K "Run" yK ["job","inks","passed","printer","slipped","broken"])
 (qaj:CP K "Job" yG ["name","asker","pages","copies","layout","paper","cover","colour","staple","after"])
 (qak:CP K "Stock" cQ ["rooms","amounts"])
 (qal:CP K "Printer" cZ ["name","can","path","rooms","trays","inks","state","inside"])
 (qam:XP K "Unknown" cV ["name"])
 (qan:XP K "NotNow" cK ["found"])
 (qao:XP K "TooMuch" cG ["name"])
 (qap:XP K "Dry" vQ ["name"])
 (qaq:XP K "Over" vZ ["job"])
 (qar:XP K "Nowhere" vX ["job"])
 (qas:XP K "NoHeap" vY ["place"])
 (qat:PySem.W.nsIn K dS "HallError"=some (some (.ref vV)))
 (p0:MP K cV "__init__" "Unknown.__init__" jD3 f0)
 (p1:MP K cK "__init__" "NotNow.__init__" jEG f1)
 (p2:MP K cG "__init__" "TooMuch.__init__" jD4 f2)
 (p3:MP K vQ "__init__" "Dry.__init__" jGY f3)
 (p4:MP K vZ "__init__" "Over.__init__" jGe f4)
 (p5:MP K vX "__init__" "Nowhere.__init__" jD5 f5)
 (p6:MP K vY "__init__" "NoHeap.__init__" jEH f6)
 (p7:GP K "pieces" jIK f7)
 (p8:GL K "gathered" jE4 f8 dB)
 (p9:GP K "first_lack" jFs f9)
 (p10:GP K "cells_from" jFt f10)
 (p11:MP K yQ "__init__" "Layout.__init__" jEI f11)
 (p12:MP K yQ "per_sheet" "Layout.per_sheet" jCK f12)
 (p13:MP K yQ "laid" "Layout.laid" jEJ f13)
 (p14:MP K yQ "sheet_from" "Layout.sheet_from" jCA f14)
 (p15:MP K yZ "__init__" "One.__init__" jGZ f15)
 (p16:MP K yX "__init__" "Both.__init__" jGf f16)
 (p17:MP K yY "__init__" "Several.__init__" jD6 f17)
 (p18:GP K "layout_of" jGg f18)
 (p19:GP K "sheets_of" jGh f19)
 (p20:GP K "paper_of" jG0 f20)
 (p21:GP K "ink_of" jIL f21)
 (p22:GP K "is_coloured" jEK f22)
 (p23:MP K yV "__init__" "State.__init__" jFu f23)
 (p24:MP K yV "called" "State.called" jD7 f24)
 (p25:MP K yV "jam" "State.jam" jGi f25)
 (p26:MP K yV "mend" "State.mend" jFv f26)
 (p27:MP K yV "leave" "State.leave" jEL f27)
 (p28:MP K yV "come" "State.come" jFw f28)
 (p29:MP K yJ "__init__" "Ready.__init__" jFx f29)
 (p30:MP K yJ "jam" "Ready.jam" jGj f30)
 (p31:MP K yJ "leave" "Ready.leave" jEM f31)
 (p32:MP K yW "__init__" "Jammed.__init__" jEN f32)
 (p33:MP K yW "mend" "Jammed.mend" jEO f33)
 (p34:MP K yW "leave" "Jammed.leave" jD8 f34)
 (p35:MP K yU "__init__" "Away.__init__" jGk f35)
 (p36:MP K yU "come" "Away.come" jGl f36)
 (p37:MP K yK "__init__" "Run.__init__" jG1 f37)
 (p38:MP K yK "each" "Run.each" jG2 f38)
 (p39:MP K yK "total" "Run.total" jGm f39)
 (p40:MP K yK "out" "Run.out" jHO f40)
 (p41:MP K yK "at" "Run.at" jIM f41)
 (p42:MP K yK "whole" "Run.whole" jGn f42)
 (p43:MP K yK "lack" "Run.lack" jG3 f43)
 (p44:MP K yK "upcoming" "Run.upcoming" jD9 f44)
 (p45:MP K yK "take" "Run.take" jG4 f45)
 (p46:MP K yK "drop" "Run.drop" jG5 f46)
 (p47:MP K yK "step" "Run.step" jG6 f47)
 (p48:MP K yK "jam" "Run.jam" jHP f48)
 (p49:MP K yK "must_go_on" "Run.must_go_on" jDg f49)
 (p50:MP K yK "must_be_placed" "Run.must_be_placed" jCp f50)
 (p51:MP K yK "used_by" "Run.used_by" jEP f51)
 (p52:MP K yK "fed" "Run.fed" jHQ f52)
 (p53:MP K yK "emptied" "Run.emptied" jEQ f53)
 (p54:MP K yK "note_out" "Run.note_out" jD_ f54)
 (p55:MP K yG "__init__" "Job.__init__" jG7 f55)
 (p56:MP K cQ "__init__" "Stock.__init__" jFy f56)
 (p57:MP K cQ "held" "Stock.held" jFz f57)
 (p58:MP K cQ "room" "Stock.room" jL2 f58)
 (p59:MP K cQ "know" "Stock.know" jFA f59)
 (p60:MP K cQ "know_all" "Stock.know_all" jDh f60)
 (p61:MP K cQ "put" "Stock.put" jGo f61)
 (p62:MP K cQ "put_all" "Stock.put_all" jDG f62)
 (p63:MP K cQ "draw_all" "Stock.draw_all" jDi f63)
 (p64:MP K cZ "__init__" "Printer.__init__" jEa f64)
 (p65:MP K cZ "stands" "Printer.stands" jDj f65)
 (p66:MP K cZ "paper_left" "Printer.paper_left" jCq f66)
 (p67:MP K cZ "within" "Printer.within" jDk f67)
 (p68:MP K cZ "load" "Printer.load" jEb f68)
 (p69:MP K cZ "fill" "Printer.fill" jEc f69)
 (p70:MP K cZ "must_be_ready" "Printer.must_be_ready" jB3 f70)
 (p71:MP K cZ "feed" "Printer.feed" jEd f71)
 (p72:MP K cZ "push" "Printer.push" jEe f72)
 (p73:MP K cZ "oldest" "Printer.oldest" jDl f73)
 (p74:MP K cZ "jam" "Printer.jam" jER f74)
 (p75:MP K cZ "leave" "Printer.leave" jDH f75)
 (p76:MP K cZ "mend" "Printer.mend" jEf f76)
 (p77:MP K cZ "come" "Printer.come" jEg f77)
 (p78:GP K "_law_cell_at" jEh f78)
 (p79:GP K "_law_mix" jG8 f79)
 (p80:GP K "_law_word" jGp f80)
 (p81:GP K "_law_each" jGq f81)
 (p82:GP K "_law_run" jG9 f82)
 (p83:GP K "_law_printer" jEi f83)
 (p84:GP K "_law_called" jES f84)
 (p85:GP K "_law_done" jGr f85)
 (p86:GP K "_law_is" jHR f86)
 (p87:GP K "_law_lack" jGs f87)
 (p88:GP K "_law_sound" jFB f88)
 (p89:GP K "_law_deeds_by" jDI f89)
 (p90:GP K "_law_finish" jET f90)
 (p91:GP K "law" jIc f91)
 (qau:PySem.W.findIn K (.ref yZ) "per_sheet"=some (some (.ref f12)))
 (qav:PySem.W.findIn K (.ref yX) "per_sheet"=some (some (.ref f12)))
 (qaw:PySem.W.findIn K (.ref yY) "per_sheet"=some (some (.ref f12)))
 (qax:PySem.W.findIn K (.ref yZ) "sheet_from"=some (some (.ref f14)))
 (qay:PySem.W.findIn K (.ref yX) "sheet_from"=some (some (.ref f14)))
 (qaz:PySem.W.findIn K (.ref yY) "sheet_from"=some (some (.ref f14)))
 (qaA:PySem.W.findIn K (.ref yZ) "laid"=some (some (.ref f13)))
 (qaB:PySem.W.findIn K (.ref yX) "laid"=some (some (.ref f13)))
 (qaC:PySem.W.findIn K (.ref yY) "laid"=some (some (.ref f13)))
 (qaD:PySem.W.findIn K (.ref yJ) "called"=some (some (.ref f24)))
 (qaE:PySem.W.findIn K (.ref yW) "called"=some (some (.ref f24)))
 (qaF:PySem.W.findIn K (.ref yU) "called"=some (some (.ref f24)))
 (qaG:PySem.W.findIn K (.ref yW) "jam"=some (some (.ref f25)))
 (qaH:PySem.W.findIn K (.ref yU) "jam"=some (some (.ref f25)))
 (qaI:PySem.W.findIn K (.ref yU) "leave"=some (some (.ref f27)))
 (qaJ:PySem.W.findIn K (.ref yJ) "mend"=some (some (.ref f26)))
 (qaK:PySem.W.findIn K (.ref yU) "mend"=some (some (.ref f26)))
 (qaL:PySem.W.findIn K (.ref yJ) "come"=some (some (.ref f28)))
 (qaM:PySem.W.findIn K (.ref yW) "come"=some (some (.ref f28)))
 (qaN:iX K (.ref yQ) "__getattribute__"=some (some (.builtin "type.__getattribute__")))
 (qaO:o4 K yQ (.type "type")=true)
 (qaP:pF K (.ref yQ) (.type "type") "__init__"=some (.val (.ref f11)))
 (qaQ:iX K (.ref yV) "__getattribute__"=some (some (.builtin "type.__getattribute__")))
 (qaR:o4 K yV (.type "type")=true)
 (qaS:pF K (.ref yV) (.type "type") "__init__"=some (.val (.ref f23)))
 (qaT:PySem.W.excMk K vV=true)
 (qaU:PySem.W.mroHas K vZ (.ref vV)=true)
 (qaV:PySem.W.mroHas K vX (.ref vV)=true)
 (qaW:PySem.W.mroHas K cK (.ref vV)=true)
 (qaX:PySem.W.mroHas K cG (.ref vV)=true)
 (xcn:iX K (.builtin "object.__class__") "__get__"=some (some (.builtin "getset_descriptor.__get__")))
 (xct:rJ K (.builtin "object.__class__")=some true)
 (xb1:iX K (.ref vV) "__getattribute__"=some (some (.builtin "type.__getattribute__")))
 (xb2:o4 K vV (.type "type")=true)
 (xb3:pF K (.ref vV) (.type "type") "__init__"=some (.val (.builtin "ValueError.__init__")))
 (xkt:jOv K [cV,cK,cG,vQ,vZ,vX,vY] vV=true)
 (qaY:GiP K "SLIP" (-1))
 (gUP:GsP K "UP" (c7 "up:"))
 (qaZ:GiP K "NOTHING" (0))
 (qa0:GiP K "FIRST_PAGE" (1))
 (qa1:GiP K "COVER_SHEET" (0))
 (qa2:GsP K "READY" (c7 "ready"))
 (qa3:GsP K "JAMMED" (c7 "jammed"))
 (qa4:GsP K "OFF" (c7 "off"))
 (qa5:GsP K "BLACK" (c7 "black"))
 (qa6:GsP K "COLOUR" (c7 "colour"))
 (qa7:GsP K "WITHIN" (c7 "within"))
 (qa8:PySem.W.nsIn K dS "len"=some none)
 (qa9:PySem.W.nsIn K dS "range"=some none)
 (qba:PySem.W.nsIn K dS "enumerate"=some none)
 (qbb:PySem.W.nsIn K dS "str"=some none)
 (qbc:PySem.W.nsIn K dS "int"=some none)
 (qbd:PySem.W.nsIn K dS "bool"=some none)
 (qbe:PySem.W.nsIn K dS "tuple"=some none)
 (qbf:PySem.W.nsIn K dS "list"=some none)
 (qbg:PySem.W.nsIn K dS "isinstance"=some none)
 (qbh:PySem.W.nsIn K dS "dict"=some none)
 (qbi:PySem.W.nsIn K dS "sorted"=some none)
 (qbj:PySem.W.nsIn K dS "ValueError"=some none)
 : ∃ fd:FuncData,(∀ (s:Shared) (v:Value),BindsTo s fd ⟨[v],[]⟩ [("_law_script",v)])/\(∃ c,jI K c dB=true)/\∀ base:Heap,K.In base->base.Ns dS mg->wX base mg->fJ l.prog w K mg base CX0 12 fa fd ["_law_script"] (jH4 K dB):=by
 have e:=hfa.symm.trans (fV X G p91.a);cases e;obtain⟨d8,cL_gathered,F8,hl_gathered,hc_gathered⟩:=p8.F;obtain⟨d11,F11⟩:=p11.F;obtain⟨d23,F23⟩:=p23.F;obtain⟨d91,F91⟩:=p91.F;have T:Txt K mg yQ yZ yX yY yV yJ yW yU yK yG cQ cZ cV cK cG vQ vZ vX vY vV dB:=⟨gL X G qa8,gL X G qa9,gL X G qba,gL X G qbb,gL X G qbc,gL X G qbd,gL X G qbe,gL X G qbf,gL X G qbg,gL X G qbh,gL X G qbi,gL X G qbj,(let ⟨t,e⟩:=qaY;⟨⟨t,fV X G e⟩⟩),(let ⟨t,e⟩:=gUP;⟨⟨t,fV X G e⟩⟩),(let ⟨t,e⟩:=qaZ;⟨⟨t,fV X G e⟩⟩),(let ⟨t,e⟩:=qa0;⟨⟨t,fV X G e⟩⟩),(let ⟨t,e⟩:=qa1;⟨⟨t,fV X G e⟩⟩),(let ⟨t,e⟩:=qa2;⟨⟨t,fV X G e⟩⟩),(let ⟨t,e⟩:=qa3;⟨⟨t,fV X G e⟩⟩),(let ⟨t,e⟩:=qa4;⟨⟨t,fV X G e⟩⟩),(let ⟨t,e⟩:=qa5;⟨⟨t,fV X G e⟩⟩),(let ⟨t,e⟩:=qa6;⟨⟨t,fV X G e⟩⟩),(let ⟨t,e⟩:=qa7;⟨⟨t,fV X G e⟩⟩),qaa.c,fV X G qaa.a,qaa.n 0 rfl,qaa.n 1 rfl,qab.c,fV X G qab.a,qab.n 0 rfl,qab.n 1 rfl,qac.c,fV X G qac.a,qac.n 0 rfl,qac.n 1 rfl,qad.c,fV X G qad.a,qad.n 0 rfl,qad.n 1 rfl,qae.c,fV X G qae.a,qae.n 0 rfl,qaf.c,fV X G qaf.a,qaf.n 0 rfl,qag.c,fV X G qag.a,qag.n 0 rfl,qah.c,fV X G qah.a,qah.n 0 rfl,qah.n 1 rfl,qai.c,fV X G qai.a,qai.n 0 rfl,qai.n 1 rfl,qai.n 2 rfl,qai.n 3 rfl,qai.n 4 rfl,qai.n 5 rfl,qaj.c,fV X G qaj.a,qaj.n 0 rfl,qaj.n 1 rfl,qaj.n 2 rfl,qaj.n 3 rfl,qaj.n 4 rfl,qaj.n 5 rfl,qaj.n 6 rfl,qaj.n 7 rfl,qaj.n 8 rfl,qaj.n 9 rfl,qak.c,fV X G qak.a,qak.n 0 rfl,qak.n 1 rfl,qal.c,fV X G qal.a,qal.n 0 rfl,qal.n 1 rfl,qal.n 2 rfl,qal.n 3 rfl,qal.n 4 rfl,qal.n 5 rfl,qal.n 6 rfl,qal.n 7 rfl,qaT,qaU,qaV,qaW,qaX,XCl.of qam.x qam.m xcn xct,fV X G qam.a,XCl.of qan.x qan.m xcn xct,fV X G qan.a,XCl.of qao.x qao.m xcn xct,fV X G qao.a,XCl.of qap.x qap.m xcn xct,fV X G qap.a,XCl.of qaq.x qaq.m xcn xct,fV X G qaq.a,XCl.of qar.x qar.m xcn xct,fV X G qar.a,XCl.of qas.x qas.m xcn xct,fV X G qas.a,⟨xb1,xb2,xb3⟩,fV X G qat,xkt⟩
 obtain⟨oc,od,kV,oG,pm,an,fE,ct,sZ,rfl,lk,nY⟩:=id F91.ex;refine⟨PySem.W.fnOf "law" "law" (jDu jIc) (wA jIc) (fY jIc) .none kV oG pm an fE ct,fun s v=>.of_eq rfl,⟨cL_gathered,hc_gathered⟩,fun base _ _ BM=>?_⟩;have e:En l.prog w K mg base h:=⟨X,G⟩
 have DaO:=mkX e qas p6 fun _ F=>jKe T F;have DaP:=dfX e p7 fun _ F=>jOJ T F DaO;have Dao:DfE l.prog w K mg base 4 "gathered" ["heaps","name"] (jC6 vY dB):=⟨_,_,jMW F8 T hl_gathered hc_gathered BM DaP,(F8.binds fun _ _ _ _ _ _=>bn2 fun _ _=>rfl),F8.kp,fV X G p8.a⟩
 have DbA:=dfX e p9 fun _ F=>jLb T F Dao;have Dak:=rF e p86 fun _ F=>jNX T F;have Dae:=lC e p38 fun _ F=>(jM8 T F).lift;have Dbz:=lC e p43 fun _ F=>(jM_ T F Dae).lift;have DbB:=rF e p87 fun _ F=>jMK T F Dak Dbz;have Daz:=lC e p39 fun _ F=>(jMr T F Dae).lift;have DaD:=lC e p40 fun _ F=>(jNS T F).lift;have DbC:=lC e p41 fun _ F=>(jOQ T F).lift;have Daa:=lC e p42 fun _ F=>(jMt T F Daz).lift;have DaN:=rF e p88 fun _ F=>jLr T F Dao DbA Dak DbB DaD DbC Daa;have DbI:=rF e p80 fun _ F=>jMn T F;have Dan:=rF e p78 fun _ F=>jJH T F;have DbF:=rF e p81 fun _ F=>jMw T F;have Dbg:=rF e p22 fun _ F=>jKw T F;have Dbp:=rF e p21 fun _ F=>jOO T F Dbg;have DbN:=vL e qaa p11 fun _ F=>jGE T F;have Dai:InD l.prog w K mg base 1 "Layout" yQ ["self","cells","backs"] (jBS K):=⟨_,_,⟨qaN,qaO,qaP⟩,jGE T F11,(F11.binds fun _ _ _ _ _ _=>bn3 fun _ _ _=>rfl),F11.kp,fV X G qaa.a⟩
 have Da9:=vL e qad p17 fun _ F=>jJF T F Dai;have Dba:=vL e qab p15 fun _ F=>jM0 T F Dai;have Dbb:=vL e qac p16 fun _ F=>jMh T F Dai;have Dbc:=rF e p18 fun _ F=>jMj T F Da9 Dba Dbb;have Day:=rF e p10 fun _ F=>jLp T F;have DaE:=qO e qau p12 fun _ F=>(jCB T F).lift;have DaF:=qO e qav p12 fun _ F=>(jCB T F).lift;have DaG:=qO e qaw p12 fun _ F=>(jCB T F).lift;have DaH:=qO e qax p14 fun _ F=>(jCr T F Day).lift;have DaI:=qO e qay p14 fun _ F=>(jCr T F Day).lift;have DaJ:=qO e qaz p14 fun _ F=>(jCr T F Day).lift;have Dbd:=qO e qaA p13 fun _ F=>(jEj T F DaE DaF DaG DaH DaI DaJ).lift;have Dbe:=qO e qaB p13 fun _ F=>(jEj T F DaE DaF DaG DaH DaI DaJ).lift;have Dbf:=qO e qaC p13 fun _ F=>(jEj T F DaE DaF DaG DaH DaI DaJ).lift;have Dbq:=rF e p19 fun _ F=>jMl T F Dbc Dbd Dbe Dbf;have DbG:=vL e qai p37 fun _ F=>jNe T F Dbp Dbq;have Dad:=rF e p79 fun _ F=>jM6 T F;have DbH:=vL e qaj p55 fun _ F=>jM2 T F;have DbJ:=rF e p82 fun _ F=>jNf T F Dan DbF DbG Dad DbH;have DaL:=vL e qak p56 fun _ F=>jLe T F;have DbO:=vL e qae p23 fun _ F=>jHt T F;have Dag:InD l.prog w K mg base 1 "State" yV ["self","word"] (jB8 K):=⟨_,_,⟨qaQ,qaR,qaS⟩,jHt T F23,(F23.binds fun _ _ _ _ _ _=>bn2 fun _ _=>rfl),F23.kp,fV X G qae.a⟩
 have Dah:=vL e qaf p29 fun _ F=>jLn T F Dag;have DbD:=vL e qal p64 fun _ F=>jJD T F DaL Dah;have Daq:=mkX e qao p2 fun _ F=>jJi T F;have DaQ:=mkX e qam p0 fun _ F=>jJg T F;have Dap:=lC e p59 fun _ F=>jLg T F DaQ;have Dar:=lC e p60 fun _ F=>jIo T F Dap;have Dat:=lC e p62 fun _ F=>jIN T F Daq Dar;have DaV:=lC e p61 fun _ F=>jL8 T F Dat
 have DaM:=lC e p68 fun _ F=>jJp T F DaV;have DbE:=lC e p69 fun _ F=>jJr T F Dat
 have DbK:=rF e p83 fun _ F=>jJX T F DbD DaM DbE;have DaR:=qO e qaD p24 fun _ F=>(jDL T F).lift;have DaS:=qO e qaE p24 fun _ F=>(jDL T F).lift;have DaT:=qO e qaF p24 fun _ F=>(jDL T F).lift;have Dac:=lC e p65 fun _ F=>(jIr T F DaR DaS DaT).lift;have DbL:=rF e p89 fun _ F=>jIV T F Dad Dac;have Dab:=mkX e qan p1 fun _ F=>jKj T F;have Dbh:=mkX e qaq p4 fun _ F=>jMp T F;have Daw:=lC e p70 fun _ F=>jFF T F Dab Dac;have Dax:=lC e p73 fun _ F=>(jIv T F).lift;have Dam:=lC e p67 fun _ F=>(jIt T F).lift;have DaA:=lC e p72 fun _ F=>jJt T F Daw Dax;have Daf:=lC e p54 fun _ F=>(jJM T F Daa).lift;have Daj:=lC e p49 fun _ F=>jIx T F Dbh Daa;have DaB:=lC e p53 fun _ F=>jKA T F Dam DaA Daf;have Dbi:=mkX e qar p5 fun _ F=>jJJ T F;have Dbj:=rF e p20 fun _ F=>jM4 T F;have Das:=mkX e qap p3 fun _ F=>jMY T F;have DaU:=lC e p57 fun _ F=>jLi T F Dap;have DaW:=lC e p66 fun _ F=>jGC T F DaU;have DaK:=lC e p63 fun _ F=>jIp T F Das Dar;have Dbk:=lC e p51 fun _ F=>(jKx T F Dbj Dae).lift;have Dbl:=lC e p71 fun _ F=>jJv T F Das Daw DaW DaK Dax;have DaC:=lC e p50 fun _ F=>jGI T F Dbi Daj;have Dbn:=lC e p44 fun _ F=>(jJK T F Dam Daz).lift;have Dbo:=lC e p52 fun _ F=>jNT T F Dbk Dbl;have Dau:=vL e qag p32 fun _ F=>jKn T F Dag;have Da6:=lC e p30 fun _ F=>(jMc T F Dau).lift;have Da7:=qO e qaG p25 fun _ F=>jHW T F Dab;have Da8:=qO e qaH p25 fun _ F=>jHW T F Dab;have Dbm:=lC e p74 fun _ F=>jKs T F Daq Da6 Da7 Da8;have Dav:=vL e qah p35 fun _ F=>jMa T F Dag;have Da3:=lC e p31 fun _ F=>(jKp T F Dav).lift;have Da4:=lC e p34 fun _ F=>(jJl T F Dav).lift;have Da5:=qO e qaI p27 fun _ F=>jKl T F Dab;have Da0:=qO e qaL p28 fun _ F=>jHv T F Dab;have Da1:=qO e qaM p28 fun _ F=>jHv T F Dab;have Da2:=lC e p36 fun _ F=>(jMe T F Dau Dah).lift;have DaX:=qO e qaJ p26 fun _ F=>jHu T F Dab;have DaY:=lC e p33 fun _ F=>(jKr T F Dah).lift;have DaZ:=qO e qaK p26 fun _ F=>jHu T F Dab;have Dbr:=lC e p45 fun _ F=>jNa T F Dab Daj Dac DaB Daa;have Dbs:=lC e p47 fun _ F=>jNc T F DaC Dbn DaA Dbo Daf;have Dbt:=lC e p48 fun _ F=>jNU T F DaC Dbm Daf;have Dbu:=lC e p46 fun _ F=>jNb T F Daj DaB Daa;have Dbv:=lC e p75 fun _ F=>jIO T F Da3 Da4 Da5;have Dbw:=lC e p77 fun _ F=>jJB T F Da0 Da1 Da2 Dac;have Dbx:=lC e p76 fun _ F=>jJz T F DaX DaY DaZ Dac;have Dby:=dfX e p84 fun _ F=>jKE T F Dbr Dbs Dbt Dbu Dbv Dbw Dbx;have Dal:=rF e p85 fun _ F=>jMG T F Dby Daa;have DbM:=rF e p90 fun _ F=>jKF T F Dal DaD Daa;exact ok_law T F91 DaN DbI DbJ DbK DbL Dan Dad DbM Dal Daa
theorem walk{l:PySem.W.OpenLaw}{q:Program}{qA:List Str}{XP:(Str->Option Value)->Heap->Prop}{YP:World->Heap->Prop}{d:DefRec}{K:Params->PySem.W.Frag}{dB:Addr}(hn:l.most=some 63)(hdf:d.params.defaults=[])
 (hY:∀ (w:World) (h:Heap),YP w h->(K w.params).In h) (hT:∀ (w:World) (h:Heap),YP w h->h.get? dB=some (nJ #[])) (hKt:∀ (w:World),(K w.params).lookup dB=none)
 (F:∀ (w:World) (mg:Str->Option Value) (fa:Addr) (h:Heap),(K w.params).In h->h.Ns dS mg->mg d.name=some (.ref fa) ->
  ∃ fd:FuncData,(∀ (s:Shared) (u:Value),BindsTo s fd ⟨[u],[]⟩ [("_law_script",u)])/\(∃ c,jI (K w.params) c dB=true)/\∀ base:Heap,(K w.params).In base->base.Ns dS mg->wX base mg->fJ l.prog w (K w.params) mg base CX0 12 fa fd ["_law_script"] (jH4 (K w.params) dB)) :
 PySem.W.WalkO q qA XP YP l.row.toRowW d [] (fun f vs=>PySem.call f vs) :=
 L2.walk_of1 (n:=63) (k:=12) (x:="_law_script") (tP:=dB) (CX:=fun _=>CX0) (sp:=fun w=>jH4 (K w.params) dB) hn (by decide) hdf ⟨rfl,by decide,by decide⟩ hY hT hKt F (fun _ _ a ns hl hP hS=>⟨a,rfl,⟨⟨ns,hS,hl⟩⟩,.inl hP,fun _=>rfl⟩) fun _ _ _ _ _ z=>z
end My
open PySem PySem.W PyProof.Rows
set_option maxRecDepth 100000 in
set_option maxHeartbeats 0 in
theorem PySem.Challenge.cw_spoolhall_k38_whole_run_in_heaps_holds : PySem.Challenge.rw_spoolhall_k38_whole_run_in_heaps.Holds := by
 w_on;o_law;k_head;(case hw=>w_witness2)
 k_fill
 refine My.walk (l:=PySem.Challenge.rw_spoolhall_k38_whole_run_in_heaps) rfl rfl (fun w h Y=>PySem.W.km_in_of Y) (fun w h Y=>PySem.W.km_tabs_of Y _ (List.mem_singleton.mpr rfl)) (fun w=>by kernel_rfl) ?F
 case F =>
  intro w mg fa h KX G hmg
  refine' My.all_mk KX G hmg ?qaa ?qab ?qac ?qad ?qae ?qaf ?qag ?qah ?qai ?qaj ?qak ?qal ?qam ?qan ?qao ?qap ?qaq ?qar ?qas ?qat ?p0 ?p1 ?p2 ?p3 ?p4 ?p5 ?p6 ?p7 ?p8 ?p9 ?p10 ?p11 ?p12 ?p13 ?p14 ?p15 ?p16 ?p17 ?p18 ?p19 ?p20 ?p21 ?p22 ?p23 ?p24 ?p25 ?p26 ?p27 ?p28 ?p29 ?p30 ?p31 ?p32 ?p33 ?p34 ?p35 ?p36 ?p37 ?p38 ?p39 ?p40 ?p41 ?p42 ?p43 ?p44 ?p45 ?p46 ?p47 ?p48 ?p49 ?p50 ?p51 ?p52 ?p53 ?p54 ?p55 ?p56 ?p57 ?p58 ?p59 ?p60 ?p61 ?p62 ?p63 ?p64 ?p65 ?p66 ?p67 ?p68 ?p69 ?p70 ?p71 ?p72 ?p73 ?p74 ?p75 ?p76 ?p77 ?p78 ?p79 ?p80 ?p81 ?p82 ?p83 ?p84 ?p85 ?p86 ?p87 ?p88 ?p89 ?p90 ?p91 ?qau ?qav ?qaw ?qax ?qay ?qaz ?qaA ?qaB ?qaC ?qaD ?qaE ?qaF ?qaG ?qaH ?qaI ?qaJ ?qaK ?qaL ?qaM ?qaN ?qaO ?qaP ?qaQ ?qaR ?qaS ?qaT ?qaU ?qaV ?qaW ?qaX ?xcn ?xct ?xb1 ?xb2 ?xb3 ?xkt ?qaY ?gUP ?qaZ ?qa0 ?qa1 ?qa2 ?qa3 ?qa4 ?qa5 ?qa6 ?qa7 ?qa8 ?qa9 ?qba ?qbb ?qbc ?qbd ?qbe ?qbf ?qbg ?qbh ?qbi ?qbj
  (case qaa|qab|qac|qad|qae|qaf|qag|qah|qai|qaj|qak|qal=>(refine' My.CP.of ?a ?b;(case a=>k_is);(case b=>kernel_rfl)))
  (case qam|qan|qao|qap|qaq|qar|qas=>(refine' My.XP.of ?a ?x ?m ?k;(case a=>k_is);(case x|m=>kernel_rfl);(case k=>k_is)))
  (case qat=>k_is)
  (case p0|p1|p2|p3|p4|p5|p6=>(refine' My.MP.of ?a ?i ?l ?c ?k;(case a|i|l|c|k=>k_is)))
  (case p7=>(refine' My.GP.of ?a ?l ?c ?k;(case a|l|c|k=>k_is)))
  (case p8=>(refine' My.GL.of ?a ?l ?c ?k ?h;(case a|l|c|k=>k_is);(case h=>kernel_rfl)))
  (case p9|p10=>(refine' My.GP.of ?a ?l ?c ?k;(case a|l|c|k=>k_is)))
  (case p11|p12|p13|p14|p15|p16|p17=>(refine' My.MP.of ?a ?i ?l ?c ?k;(case a|i|l|c|k=>k_is)))
  (case p18|p19|p20|p21|p22=>(refine' My.GP.of ?a ?l ?c ?k;(case a|l|c|k=>k_is)))
  (case p23|p24|p25|p26|p27|p28|p29|p30|p31|p32|p33|p34|p35|p36|p37|p38|p39|p40|p41|p42|p43|p44|p45|p46|p47|p48|p49|p50|p51|p52|p53|p54|p55|p56|p57|p58|p59|p60|p61|p62|p63|p64|p65|p66|p67|p68|p69|p70|p71|p72|p73|p74|p75|p76|p77=>(refine' My.MP.of ?a ?i ?l ?c ?k;(case a|i|l|c|k=>k_is)))
  (case p78|p79|p80|p81|p82|p83|p84|p85|p86|p87|p88|p89|p90|p91=>(refine' My.GP.of ?a ?l ?c ?k;(case a|l|c|k=>k_is)))
  (case qau|qav|qaw|qax|qay|qaz|qaA|qaB|qaC|qaD|qaE|qaF|qaG|qaH|qaI|qaJ|qaK|qaL|qaM|qaN|qaO|qaP|qaQ|qaR|qaS=>k_is)
  (case qaT|qaU|qaV|qaW|qaX=>kernel_rfl)
  (case xcn|xct|xb1|xb2|xb3=>k_is)
  (case xkt=>kernel_rfl)
  (case qaY=>(refine' My.GiP.of ?a ?b;(case a=>k_is);(case b=>rfl)))
  (case gUP=>(refine' My.GsP.of ?a ?b;(case a=>k_is);(case b=>first|rfl|decide +kernel)))
  (case qaZ|qa0|qa1=>(refine' My.GiP.of ?a ?b;(case a=>k_is);(case b=>rfl)))
  (case qa2|qa3|qa4|qa5|qa6|qa7=>(refine' My.GsP.of ?a ?b;(case a=>k_is);(case b=>first|rfl|decide +kernel)))
  (case qa8|qa9|qba|qbb|qbc|qbd|qbe|qbf|qbg|qbh|qbi|qbj=>k_is)
#print axioms PySem.Challenge.cw_spoolhall_k38_whole_run_in_heaps_holds
