import PyProof.Rows.All
import Wide.FinOn
import Lean
import PyProof.EqAt
import PyProof.EqKinds
import PyProof.TupleCall
import PyProof.EnumMake
import PyProof.Draws
import PyProof.InstStoreFacts
import PyProof.ExcArgs
import PyProof.ExcBaseAll.ValueError
import KE.KDictLaws
import OpenK.KOwn
import PyProof.ListRange
import PyProof.AttrMissHeap
import PyProof.MinMaxWalk
import PyProof.WalksMore
import PyProof.NeKinds
import KE.KDictList
import KE.KDictSum
import KE.KEqDict
import PyProof.DictItems
import KE.KPairComp
import PyProof.MeetsSeq3
import KE.KLam
import KE.KMinKey
import KE.KNestM
import PyProof.Rows.CallKw2
import PyProof.MeetsSeq
import PyProof.DictWalks
import KE.KIsAll
import KE.KDictOf
import KE.KIntText
import KE.IntTextText
import Open.Tops
import PySem.Challenge.RW_spoolhall_k76_never
namespace PySem.W.Fast
local macro_rules|`(command|example:Nat:=0)=>do
 let mut a:=#[]
 for (s,l) in [("o_",List.range 2111),("tree_",[6,35,61,87,113,139,165,191,217,243,269,307,341,396,445,507,518,667,753,818,858,932,937,1069,1155,1169,1222,1248,1274,1326,1339,1481,1568,1603,1876,1960,2049,2111]),("sts_",[7,38,64,90,116,142,168,194,220,246,272,310,344,399,448,510,521,759,821,861,935,940,1161,1172,1225,1251,1277,1329,1342,1574,1606,2055])] do
  for i in l do a:=a.push (←`(command|theorem $(Lean.mkIdent (.mkSimple s!"tw{(`tpK++.mkSimple s!"{s}{i}").hash}")):ident:True:=trivial))
 return Lean.mkNullNode a
example:Nat:=0
theorem tw4100258042322537376:True:=trivial
theorem tw16296565160983543013:True:=trivial
theorem tw3961355130636274350:True:=trivial
noncomputable def tw4847309262567426276:PySem.Program:=PySem.Challenge.pw_spoolhall_k76_never
theorem te4847309262567426276:PySem.Challenge.pw_spoolhall_k76_never=tw4847309262567426276:=rfl
end PySem.W.Fast
section
set_option maxRecDepth 100000
set_option maxHeartbeats 0
open_shared tpK for PySem.Challenge.pw_spoolhall_k76_never leaving 0
end
set_option Elab.async false
namespace My
open PySem PySem.W
def gtK (o:Option Obj):Option Obj:=match o with
  | some ⟨_,_,.freed,_⟩=>none
  | o=>o
def selK:List Nat→Nat→List Obj→List (Option Obj)
  | [],_,_=>[]
  | a::r,k,l=>(if Nat.ble k a=true then gtK (l.drop (a-k)).head? else none)::selK r a (l.drop (a-k))
theorem selK_ok {h:Heap}:∀ (r:List Nat) (k:Nat) (vs:List Obj),selK r k (h.objs.toList.drop k)=vs.map some→r.map h.get?=vs.map some
  | [],_,vs,e=>by
    cases vs with
    | nil=>rfl
    | cons=>cases e
  | a::r,k,vs,e=>by
    cases vs with
    | nil=>cases e
    | cons v vs =>
      rw [selK,List.map_cons,List.cons.injEq] at e
      obtain ⟨e1,e2⟩:=e
      by_cases c:Nat.ble k a=true
      · rw [if_pos c] at e1
        have c':=Nat.le_of_ble_eq_true c
        rw [List.drop_drop,show k+(a-k)=a by omega] at e1 e2
        rw [List.map_cons,List.map_cons,selK_ok r a vs e2,← e1,List.head?_drop,Array.getElem?_toList]
        rfl
      · rw [if_neg c] at e1
        cases e1
def hookS (C:Params→Frag) (z:List Addr) (u:∀ P,z=(C P).map (·.1)) (t:List Addr):Hook:=
  { kmHook C z u t with
    obs:=fun s=>(selK z 0 s.heap.objs.toList,t.map s.heap.get?)
    of:=fun w s x=>(kmHook C z u t).of w s (Prod.ext (by
      have:=selK_ok (h:=s.heap) z 0 ((C w.params).map (·.2)) (by rw [List.map_map];exact (Prod.mk.inj x).1)
      rw [List.map_map] at this
      exact this) (Prod.mk.inj x).2) }
theorem hs_in {C:Params→Frag} {z:List Addr} {u:∀ P,z=(C P).map (·.1)} {t:List Addr} {w:World} {h:Heap} (Y:(hookS C z u t).says w h):(C w.params).In h:=km_in_of (K:=C) (as:=z) (e:=u) (ts:=t) Y
theorem hs_tabs {C:Params→Frag} {z:List Addr} {u:∀ P,z=(C P).map (·.1)} {t:List Addr} {w:World} {h:Heap} (Y:(hookS C z u t).says w h):∀ P∈t,h.get? P=some (tabObj #[]):=km_tabs_of (K:=C) (as:=z) (e:=u) (ts:=t) Y
end My
local macro_rules | `(tactic| o_head (kmHook $k $a $e $t))=>`(tactic| o_head (My.hookS $k $a $e $t))
section
open PySem PySem.W PyProof.Rows
theorem keepIt{P Q:Prop}(_:P)(q:Q):Q:=q
set_option maxRecDepth 100000 in
set_option maxHeartbeats 0 in
noncomputable def hdK:PSigma fun P:Prop=>P->PySem.Challenge.rw_spoolhall_k76_never.Holds:=by
 refine' ⟨_,fun h=>_⟩
 rotate_left
 w_on;o_law
 refine' keepIt ?hc ?body
 case body=>
  k_head;(case hw=>w_witness2)
 exact h
end
set_option genSizeOf false
set_option linter.all false
set_option compiler.extract_closed false
set_option maxRecDepth 100000
local macro_rules | `(tactic| exists $es,*) => `(tactic| refine ⟨$es,*, ?_⟩)
set_option hygiene false
local macro_rules | `(tactic| nomatch $e,$n)=>`(tactic| (refine $e fun fa fd F=>F.ok (N:=$n) scM fun lC A outer s H vs Q E hr h=>?_;have hu:=hu_n hr 0 (by decide);have nZ:List.Nodup ($n : List Str):=by decide +kernel))
local macro_rules|`(command| example $n:ident : $f:ident $as* := by $t:tacticSeq)=>`(command| include T in theorem $n : $f P w K mg base $as* := by $t)
local macro_rules|`(command| example $n:ident $bs* : $t := 0)=>do
 let u←t.raw.replaceM fun|`($g:ident $as*)=>do if g.getId==n.getId then return some (←`($g $as* vs H Q E_)) else return none|_=>return none
 `(command| inductive $n:ident $bs* (vs : List V) (H : Hp) (Q : VK) (E_ : XK) : Prop | mk : $(⟨u⟩))
set_option hygiene true
open List (Pairwise Sublist all_map any_map append_assoc find?_cons find?_eq_none foldl getD_eq_getElem?_getD getElem?_append_left getElem?_append_right getElem?_eq_getElem getElem?_eq_none getElem?_map getElem?_set_self length_append map map_id map_set mem_iff_getElem? mem_of_getElem? mem_singleton range range')
open Nat (le_of_lt lt_of_lt_of_le not_lt)
open Ne (symm)
open Prod (fst snd)
open PyProof.Rows (isub_int split_pos)
open PySem (IsL)
open PySem.Heap (DictOf IsList Ns1 SameBut get?_push_of_some get?_push_size get?_update_other get?_update_self)
open PySem.Str (empty join)
open PySem.Value (bytes float type)
open PySem.W (envX isFn keq_ne kla_fn)
open Array renaming length_toList→jY,toList_inj→uF
open Bool renaming and_eq_true→eK,not_eq_true'→lH,eq_false_iff→nH,or_eq_true→pV
open Classical renaming propDecidable→pQ
open Function renaming comp_def→zU
open Int renaming emod_lt_of_pos→kI,emod_nonneg→mH,ediv_nonneg→mI,zero_add→qS,one_pos→tS
open List renaming length_map→c7,mem_append_right→dH,mem_map→dR,size_toArray→dS,map_map→dU,mem_cons→dX,length_filter_le→eA,map_append→eB,mem_cons_self→eD,mem_cons_of_mem→eG,mem_append→eN,mem_append_left→eS,map_congr_left→eT,map_cons→eW,take_of_length_le→eX,filter_append→eZ,length_cons→fC,length_range→fD,nodup_cons→fF,not_mem_nil→fU,filter_eq_self→fW,take_add_one→fZ,replicate→gC,length_take→gD,filter_cons→gE,filter_congr→gO,append_nil→gQ,nodup_nil→gR,lookup_cons→gY,all_eq_true→gZ,filter_sublist→hU,filter_nil→hX,take_length→h9,nodup_append→iI,mem_filter→iL,mem_range→iW,filter_map→i0,length_take_le'→i7,filter_eq_nil_iff→jD,replicate_succ→jH,mem_map_of_mem→jI,length_drop→jJ,length_nil→j6,any_eq_true→j9,filterMap_cons→kF,any_eq_false→kJ,foldl_append→lJ,flatten_cons→lK,getElem_mem→mG,contains_cons→mN,any_cons→mX,map_nil→m5,length_set→m7,foldl_cons→nG,drop_length→o0,of_mem_zip→pW,nil_append→pX,all_cons→uP,map_id'→xO
open Nat renaming zero_le→d9,le_trans→eM,ne_of_lt→eV,lt_of_le_of_lt→gK,lt_irrefl→gU,le_succ→iF,ne_of_gt→iJ,lt_succ_self→jP,sub_self→lR,le_of_eq→oP
open Option renaming map_eq_some_iff→dW,isSome_iff_exists→gN,getD_some→pB,isSome_map→qB,getD_none→w9
open PyProof renaming noPylong_small→oN
open PyProof.Rows renaming seqObj→nW,envOfC→oF,boot_range→xF,subscriptTail→yD,subscriptTail_builtinR→z5
open PySem renaming wpAny_bind→c8,sizeLine→dL,wpAny→dM,starEach→dO,wpAny_pure→dP,model→dQ,mainGlobals→dY,wpAny_mono→e8,eval→fA,compareOp→fB,bootBuiltins→fJ,boot_len→fK,keywordEach→fM,wpAny_truthy_bool→fO,wpAny_Call_Name_kw→gF,backTo→gH,wpAny_holding→gW,backToKw→iA,codeAny_mono→iB,behindInMarks→iD,attributeBase→iE,wpAny_pyIter_list→iN,wpAny_field→iO,sizeLine_eq→iP,lookup_relabel_local→iQ,codeAny→iR,wpAny_standAt→iT,tupleKind_room_in1→i8,sysModules→i9,call_meetsIn→jB,wpAny_passesOwn→jC,rawInt→jE,wpAny_loadPart_at→jG,call_meets→jS,holding→jW,wpAny_setField_rec→kB,callWith→kN,wpAny_call→kW,standAt→kY,strIterType→k9,sliceBounds→lA,codeAny_call_builtin→lB,binaryOp→lD,wpAny_execs_nil→lM,codeAny_builtin→lP,wpAny_isSubtype_exc→lQ,swapsWith→lY,getMethod→l4,wpAny_setField→l5,assign→mK,wpAny_newObj_type→mS,valueAt→mT,foldedSetIterable→mW,wpAny_comprehension_free→mY,wpAny_Call_method0_late→nI,tupleKind→nJ,typeIs_str→nU,assignEach→oG,letOwnedTupleGo→oO,wpAny_tryCatch→pG,wpAny_newFunctionEnv→pH,recursionLimit→pP,setFlight→pU,plainId_quiet→qT,stored→rC,pyNext→rE,closureFor→rL,builtinsNs→rN,wpAny_assign_Name→sI,wpAny_Call_method→sJ,relabel→sL,callerA→sX,plainObj_wpAny_Assign_Attribute→tE,wpAny_lookBehind→tM,pastItsLine_dict→tR,noteFrame→tT,subscripted→uH,seqIndex_of→uI,setAttr→vE,getItem→wB,wpAny_seqItems→wF,wpAny_loadPart→wG,atKey→xG,strValues→zR,bindL→zV,bindC→zW,wpAny_pyNext_range_end→zX,wpAny_pyNext_list_item→zY,wpAny_pyIter_rangeiter→zZ,wpAny_nsSet1→z0,isTrue→z6,codeAny_compStart_list→z7,wpAny_pyNext_list_end→z8
open PySem.Around renaming under_plainId→kQ
open PySem.F renaming plainAttrs_list→fE,type_str_startswith→fR,slot_str_startswith→fT,plainAttrs_str→fV,plainAttrs_dict→gX,slot_dict_values→iV,slot_dict_get→jA,plain_min_loop→kC,entry_dict_get→kH,type_dict_values→kO,entry_min_loop→oZ,type_str_join→pJ,type_dict_get→pK,slot_str_join→pM,slot_dict_pop→pN
open PySem.Heap renaming lt_size→d0,size_push→jO
open PySem.Obj renaming mapSeq→m6,mapFields→rS
open PySem.Str renaming ofString→c9
open PySem.W renaming mg_of→eY,mg_none_of→gJ,specialIn→jN,emptyDict→jR,keepIn→jT,codeHdIn→j0,kia_one→kD,methodCall_KW→kR,callWith_K→lW,nsIn→lZ,instObj→mF,tabObj→oH,plainGet_of→oJ,plainGet→oK,cellsFrom_some→o5,kitOne→pY,codeIn→qF,kla_obj→qU,plainOver→rQ,methodObj→rR,codeHd_of_K→sW,callWith_K0→sY,takesIn→tN,readsIn→tQ,makesIn→tU,findCls→uC,method_cls→uL,fnOf→uO,kitx_list→wK,kitx_dict→wL,cls_value→xD,lookIn→xP,kdl_call→zS,handedIn→zT
namespace L2
open PySem PySem.Spec PyProof.Rows
noncomputable abbrev Key:=Sum Int Str
noncomputable def jFk:Key->Value->Bool
 | .inl k,v=>Value.isInt k v
 | .inr x,v=>Value.isStrOf x v
noncomputable def keyH(w:World):Key->Int
 | .inl k=>hashInt k
 | .inr x=>hashStr w x
theorem jBu:∀ {k:Key} {v:Value},jFk k v=true->(∃ i t,k=Sum.inl i/\v=Value.int i t)\/(∃ x t,k=Sum.inr x/\v=Value.str x t)
 | .inl i,v,h=>by
   obtain⟨t,e⟩:=Value.isInt_shape (k:=i) (v:=v) h;exact .inl ⟨i,t,rfl,e⟩
 | .inr x,v,h=>by
   obtain⟨t,e⟩:=Value.isStrOf_shape (x:=x) (v:=v) h;exact .inr ⟨x,t,rfl,e⟩
theorem jN3(i:Int)(t:Tok):jFk (.inl i) (.int i t)=true:=by simp [jFk,Value.isInt]
theorem jN4(x:Str)(t:Tok):jFk (.inr x) (.str x t)=true:=by simp [jFk,Value.isStrOf]
theorem key_ll(a b:Int):decide ((Sum.inl a:Key)=Sum.inl b)=(a==b):=by
 by_cases e:a=b
 ·subst e;simp
 ·have h:¬ (Sum.inl a:Key)=Sum.inl b:=fun q=>e (Sum.inl.inj q);rw [decide_eq_false h];exact (beq_eq_false_iff_ne.mpr e).symm
theorem key_rr(a b:Str):decide ((Sum.inr a:Key)=Sum.inr b)=decide (a=b):=by
 by_cases e:a=b
 ·subst e;simp
 ·have h:¬ (Sum.inr a:Key)=Sum.inr b:=fun q=>e (Sum.inr.inj q);rw [decide_eq_false h,decide_eq_false e]
theorem key_lr(a:Int)(b:Str):decide ((Sum.inl a:Key)=Sum.inr b)=false:=decide_eq_false (fun q=>nomatch q)
theorem key_rl(a:Str)(b:Int):decide ((Sum.inr a:Key)=Sum.inl b)=false:=decide_eq_false (fun q=>nomatch q)
noncomputable def lV(prog:Program)(w:World):PySem.KeyKind prog w Key where
 is:=jFk
 hash:=keyH w
 inj:=fun v a b ha hb=>by
  rcases jBu ha with⟨i,t,rfl,rfl⟩|⟨x,t,rfl,rfl⟩
  ·rcases jBu hb with⟨j,u,rfl,e⟩|⟨y,u,rfl,e⟩
   ·injection e with e1 _;rw [e1]
   ·exact nomatch e
  ·rcases jBu hb with⟨j,u,rfl,e⟩|⟨y,u,rfl,e⟩
   ·exact nomatch e
   ·injection e with e1 _;rw [e1]
 byValue:=fun k v h=>by
  rcases jBu h with⟨i,t,rfl,rfl⟩|⟨x,t,rfl,rfl⟩<;>rfl
 pyHash:=fun hv h=>by
  rcases jBu hv with⟨i,t,rfl,rfl⟩|⟨x,t,rfl,rfl⟩
  ·exact wpAny_pyHash_int h
  ·exact wpAny_pyHash_str h
 eqBool:=fun hu hv h=>by
  rcases jBu hu with⟨i,t,rfl,rfl⟩|⟨x,t,rfl,rfl⟩
  ·rcases jBu hv with⟨j,u,rfl,rfl⟩|⟨y,u,rfl,rfl⟩
   ·rw [key_ll] at h;exact wpAny_eqBool_int h
   ·rw [key_lr] at h;exact SeqAt.EqAt.int_str i t y u _ _ _ _ h
  ·rcases jBu hv with⟨j,u,rfl,rfl⟩|⟨y,u,rfl,rfl⟩
   ·rw [key_rl] at h;exact SeqAt.EqAt.str_int x t j u _ _ _ _ h
   ·rw [key_rr] at h;exact wpAny_eqBool_str h
 «strs»:=fun k x t v h=>by
  rcases jBu h with⟨i,u,rfl,e⟩|⟨y,u,rfl,e⟩
  ·exact nomatch e
  ·injection e with e1 _;subst e1;cases v<;>rfl
theorem jLQ(prog:Program)(w:World)(i:Int)(t:Tok):(lV prog w).is (.inl i) (.int i t)=true:=jN3 i t
theorem jLR(prog:Program)(w:World)(x:Str)(t:Tok):(lV prog w).is (.inr x) (.str x t)=true:=jN4 x t
inductive V where
 | non|bl (b:Bool)|int (i:Int)|str (x:Str)|byt (b:Array UInt8)|flt (b:UInt64)|ref (a:Addr)|ty (n:String)
 deriving DecidableEq
noncomputable def g9:V->Value->Prop
 | .non,u=>u=Value.none
 | .bl b,u=>u=Value.bool b
 | .int i,u=>∃ t,u=Value.int i t
 | .str x,u=>∃ t,u=Value.str x t
 | .byt b,u=>∃ t,u=bytes b t
 | .flt b,u=>∃ t,u=float b t
 | .ref a,u=>u=Value.ref a
 | .ty n,u=>u=type n
noncomputable abbrev iH:List V->List Value->Prop:=Paired g9
theorem iH.length(r:iH xs us):xs.length=us.length:=Paired.length r
theorem iH.get:∀ {xs:List V} {us:List Value} {i:Nat} {x:V},iH xs us->xs[i]?=some x->∃ u,us[i]?=some u/\g9 x u
 | _,_,_,_,.nil,e=>by simp at e
 | _,_,0,_,.cons r _,e=>by simp at e;subst e;exact⟨_,rfl,r⟩
 | _,_,i+1,x,.cons _ t,e=>by
   obtain⟨u,h1,h2⟩:=iH.get (i:=i) (x:=x) t (by simpa using e);exact⟨u,by simpa using h1,h2⟩
theorem iH.set(r:g9 x u):∀ {xs:List V} {us:List Value} (i:Nat),iH xs us->iH (xs.set i x) (us.set i u)
 | _,_,_,.nil=>.nil
 | _,_,0,.cons _ t=>.cons r t
 | _,_,i+1,.cons q t=>.cons q (iH.set r i t)
theorem iH.append:∀ {xs ys:List V} {us ws:List Value},iH xs us->iH ys ws->iH (xs++ys) (us++ws)
 | _,_,_,_,.nil,s=>s
 | _,_,_,_,.cons r t,s=>.cons r (iH.append t s)
theorem iH.take:∀ {xs:List V} {us:List Value} (n:Nat),iH xs us->iH (xs.take n) (us.take n)
 | _,_,0,_=>.nil
 | _,_,_+1,.nil=>.nil
 | _,_,n+1,.cons r t=>.cons r (iH.take n t)
theorem iH.drop:∀ {xs:List V} {us:List Value} (n:Nat),iH xs us->iH (xs.drop n) (us.drop n)
 | _,_,0,r=>r
 | _,_,_+1,.nil=>.nil
 | _,_,n+1,.cons _ t=>iH.drop n t
noncomputable def qA:Option V->Option Value->Prop
 | some v,some u=>g9 v u
 | none,none=>True
 | _,_=>False
noncomputable def KV{κ:Type}:List (κ×V)->List (κ×Value)->Prop:=Paired fun (p:κ×V) (q:κ×Value)=>p.1=q.1/\g9 p.2 q.2
noncomputable def kV:Key->V
 | .inl i=>.int i
 | .inr x=>.str x
inductive HO where
 | lst (xs:List V)
 | tup (xs:List V)
 | dK (kvs:List (Key×V))|dT (kvs:List (List Key×V))
 | set (S:Int->Bool) (n:Nat)
 | ins (C dx:Addr) (fs:List (Str×V))
 | own (x:Addr)
 | xd (fs:List (Str×V))
 | met (f x:Addr)
 | rng (lo hi:Int)
 | frz (o:Obj) (u:HO)
 | tbl (ps:Array Value)
 | ext (φ:Heap->Prop)
noncomputable abbrev Hp:=Addr->Option HO
noncomputable def upd(H:Hp)(a:Addr)(o:HO):Hp:=fun b=>if b=a then some o else H b
theorem eO:upd H a o a=some o:=by unfold upd;rw [if_pos rfl]
theorem eJ(h:b≠a):upd H a o b=H b:=by unfold upd;rw [if_neg h]
theorem tI:upd (upd H a o) a u=upd H a u:=by
 funext b;unfold upd;split<;>rfl
theorem fN{H:Hp}{a b:Addr}{o u:HO}(h:H a=some o)(h':H b=some u)(d:o≠u):a≠b:=by
 intro e;subst e;rw [h] at h';exact d (Option.some.inj h')
theorem gM{H:Hp}{a b:Addr}{o:HO}(h:H a=some o)(h':H b=none):a≠b:=by
 intro e;subst e;rw [h] at h';cases h'
section
variable (P:Program)(w:World)
noncomputable def lU(H:Hp)(h:Heap)(a:Addr):HO->Prop
 | .lst xs=>xs.length<=dL/\∃ (its:List Value) (n:Nat),iH xs its/\h.get? a=some { cls:=.type "list",data:=.seq its.toArray n }
 | .tup xs=>xs.length<=dL/\∃ its:List Value,iH xs its/\IsTup h a its.toArray
 | .dK kvs=>kvs.length<=dL/\(a==i9)=false/\∃ vs,KV kvs vs/\h.DictOf (lV P w) a vs
 | .dT kvs=>kvs.length<=dL/\(a==i9)=false/\∃ xs:List (List Key×Addr×Value),
  Paired (fun (p:List Key×V) (q:List Key×Addr×Value)=>p.1=q.1/\H q.2.1=some (.tup (p.1.map kV))/\g9 p.2 q.2.2) kvs xs /\
  ∃ o es ep,h.get? a=some o/\o.ExactDict/\o.data=.dict es ep/\es.toList=xs.map (entryOfKey (nJ (lV P w)))/\(xs.map (·.1)).Nodup
 | .set S n=>h.SetOf (intKind P w) a S n
 | .ins C dx fs=>H dx=some (.own a)/\fs.length<=1000/\dx≠a/\h.get? a=some (mF C dx) /\
  ∃ mA,h.Ns1 dx mA/\(∀ f,qA (fs.lookup f) (mA f))/\PySem.Within mA (fs.map (·.1))
 | .own _=>∃ o,h.get? a=some o
 | .xd fs=>∃ mA,h.Ns1 a mA/\∀ f,qA (fs.lookup f) (mA f)
 | .rng lo hi=>∃ t u v,h.get? a=some { cls:=.type "range",data:=.fields #[.int lo t,.int hi u,.int 1 v] }
 | .frz o u=>h.get? a=some o/\lU H h a u
 | .tbl ps=>h.get? a=some { cls:=.none,data:=.fields ps }
 | .met f x=>h.get? a=some (rR (.ref f) (.ref x))
 | .ext φ=>φ h/\(∃ o,h.get? a=some o)/\∀ h1 h2:Heap,φ h1->(∀ o,h1.get? a=some o->h2.get? a=some o)->φ h2
noncomputable def HOk(H:Hp)(h:Heap):Prop:=∀ a o,H a=some o->lU P w H h a o
end
section
variable {P:Program}{w:World}{H H':Hp}{h h':Heap}{a:Addr}{o:HO}
theorem lU.lt(x:lU P w H h a o):a<h.objs.size:=by
 cases o with
 | lst xs=>obtain⟨_,_,_,_,e⟩:=x;exact d0 e
 | tup xs=>obtain⟨_,_,_,p⟩:=x;exact p.lt
 | dK kvs=>obtain⟨_,_,_,_,o,_,_,e,_⟩:=x;exact d0 e
 | dT kvs=>obtain⟨_,_,_,_,o,_,_,e,_⟩:=x;exact d0 e
 | set S n=>obtain⟨o,_,_,_,e,_⟩:=x;exact d0 e
 | ins C dx fs=>obtain⟨_,_,_,e,_⟩:=x;exact d0 e
 | own y=>obtain⟨_,e⟩:=x;exact d0 e
 | xd fs=>obtain⟨_,⟨_,_,_,e,_⟩,_⟩:=x;exact d0 e
 | rng lo hi=>obtain⟨_,_,_,e⟩:=x;exact d0 e
 | frz ob u=>obtain⟨e,_⟩:=x;exact d0 e
 | tbl ps=>exact d0 (show h.get? a=some _ from x)
 | met f y=>exact d0 (show h.get? a=some _ from x)
 | ext φ=>obtain⟨_,⟨_,e⟩,_⟩:=x;exact d0 e
theorem Paired.mapP:∀ {l₁:List α} {l₂:List β},Paired F l₁ l₂->(∀ a b,F a b->G a b)->Paired G l₁ l₂
 | _,_,.nil,_=>.nil
 | _,_,.cons r t,f=>.cons (f _ _ r) (Paired.mapP t f)
theorem lU.stay(x:lU P w H h a o)(k:∀ b u,(b=a\/H b=some (.own a))->h.get? b=some u->h'.get? b=some u) 
 (ho:∀ b,H b=some (.own a)->H' b=some (.own a)) (ht:∀ b xs,H b=some (.tup xs)->H' b=some (.tup xs)):lU P w H' h' a o:=by
 induction o with
 | lst xs=>obtain⟨z,its,n,r,e⟩:=x;exact⟨z,its,n,r,k _ _ (.inl rfl) e⟩
 | tup xs=>obtain⟨z,its,r,ob,e,c⟩:=x;exact⟨z,its,r,ob,k _ _ (.inl rfl) e,c⟩
 | dK kvs=>obtain⟨z,y,vs,r,ob,es,ep,e,c⟩:=x;exact⟨z,y,vs,r,ob,es,ep,k _ _ (.inl rfl) e,c⟩
 | dT kvs =>
   obtain⟨z,y,xs,r,ob,es,ep,e,c⟩:=x;exact⟨z,y,xs,Paired.mapP r fun p q z=>⟨z.1,ht _ _ z.2.1,z.2.2⟩,ob,es,ep,k _ _ (.inl rfl) e,c⟩
 | set S n=>obtain⟨ob,es,ep,t,e,c⟩:=x;exact⟨ob,es,ep,t,k _ _ (.inl rfl) e,c⟩
 | ins C dx fs =>
   obtain⟨d,z,ne,e,mA,⟨od,es,ep,e2,c⟩,r⟩:=x;exact⟨ho _ d,z,ne,k _ _ (.inl rfl) e,mA,⟨od,es,ep,k _ _ (.inr d) e2,c⟩,r⟩
 | own y=>obtain⟨ob,e⟩:=x;exact⟨ob,k _ _ (.inl rfl) e⟩
 | xd fs=>obtain⟨mA,⟨od,es,ep,e,c⟩,r⟩:=x;exact⟨mA,⟨od,es,ep,k _ _ (.inl rfl) e,c⟩,r⟩
 | rng lo hi=>obtain⟨t,u,v,e⟩:=x;exact⟨t,u,v,k _ _ (.inl rfl) e⟩
 | frz ob u ih=>obtain⟨e,q⟩:=x;exact⟨k _ _ (.inl rfl) e,ih q⟩
 | tbl ps =>
   have e:h.get? a=some { cls:=.none,data:=.fields ps }:=x;show h'.get? a=some { cls:=.none,data:=.fields ps };exact k a _ (.inl rfl) e
 | met f y =>
   have e:h.get? a=some (rR (.ref f) (.ref y)):=x;show h'.get? a=some (rR (.ref f) (.ref y));exact k a _ (.inl rfl) e
 | ext φ=>obtain⟨p,⟨o,e⟩,st⟩:=x;exact⟨st _ _ p fun o q=>k _ _ (.inl rfl) q,⟨o,k _ _ (.inl rfl) e⟩,st⟩
theorem HOk.lt(x:HOk P w H h)(e:H a=some o):a<h.objs.size:=(x a o e).lt
theorem HOk.fresh(x:HOk P w H h)(e:h.objs.size<=a):H a=none:=by
 cases q:H a with
 | none=>rfl
 | some u=>exact absurd (lt_of_lt_of_le (x.lt q) e) (gU _)
theorem HOk.kept(x:HOk P w H h)(k:∀ b u,h.get? b=some u->h'.get? b=some u):HOk P w H h':=fun a o e =>
 (x a o e).stay (fun b u _ q=>k b u q) (fun _ q=>q) fun _ _ q=>q
theorem HOk.laid(x:HOk P w H h)(k:∀ b u,h.get? b=some u->h'.get? b=some u)(hp:h.objs.size<=a)(new:lU P w (upd H a o) h' a o):HOk P w (upd H a o) h':=fun b u e=>by
 have hn:=x.fresh hp;by_cases hb:b=a
 ·subst hb;rw [eO] at e;cases e;exact new
 ·rw [eJ hb] at e;exact (x b u e).stay (fun c v _ q=>k c v q) (fun c q=>by rw [eJ (gM q hn)];exact q) fun c xs q=>by rw [eJ (gM q hn)];exact q
end
noncomputable def Rd(H:Hp)(a:Addr)(u:HO):Prop:=H a=some u\/∃ o,H a=some (.frz o u)
theorem Rd.ok(r:Rd H a u)(x:HOk P w H h):lU P w H h a u:=by
 rcases r with r|⟨o,r⟩
 ·exact x a u r
 ·obtain⟨_,q⟩:=x a _ r;exact q
noncomputable def Mut:Option HO->Prop
 | some (.lst _)=>True
 | some (.dK _)=>True
 | some (.dT _)=>True
 | some (.set _ _)=>True
 | some (.ins _ _ _)=>True
 | some (.ext _)=>True
 | _=>False
section
variable {P:Program}{w:World}{H:Hp}{h h':Heap}{x e:Addr}{o':HO}
theorem HOk.write(ok:HOk P w H h)(mu:Mut (H x))(he:e=x\/H e=some (.own x))(k:∀ b u,b≠e->h.get? b=some u->h'.get? b=some u)(heo:∃ u,h'.get? e=some u) 
 (new:lU P w (upd H x o') h' x o'):HOk P w (upd H x o') h':=fun b u q=>by
 have nown:∀ c y,H c=some (.own y)->c≠x:=fun c y r z=>by subst z;rw [r] at mu;exact mu
 have ntup:∀ c xs,H c=some (.tup xs)->c≠x:=fun c xs r z=>by subst z;rw [r] at mu;exact mu
 by_cases hb:b=x
 ·subst hb;rw [eO] at q;cases q;exact new
 ·rw [eJ hb] at q;by_cases hbe:b=e
  ·have q':H b=some (.own x):=by
    rcases he with z|z
    ·exact absurd (hbe.trans z) hb
    ·rw [hbe];exact z
   rw [q] at q';cases q';obtain⟨v,hv⟩:=heo;exact⟨v,by rw [hbe];exact hv⟩
  ·refine (ok b u q).stay (fun c v hc r=>k c v ?_ r) (fun c r=>by rw [eJ (nown c b r)];exact r) fun c xs r=>by rw [eJ (ntup c xs r)];exact r
   rcases hc with rfl|hc
   ·exact hbe
   ·rintro rfl;rcases he with z|z
    ·exact nown c b hc z
    ·rw [hc] at z;cases z;exact hb rfl
end
structure Un(fs ex:List Addr)(H H':Hp)(h h':Heap):Prop where
 keep:∀ b o,h.get? b=some o->H b=none->b ∉ fs->b ∉ ex->h'.get? b=some o
 slot:∀ b o,h.get? b=some o->H b=none->b∈fs->b ∉ ex->∃ sl,h'.get? b=some { o with slots:=sl }
 free:∀ b o,h.get? b=some o->H b=none->b ∉ ex->H' b=none
 there:∀ b o,h.get? b=some o->b ∉ ex->∃ o',h'.get? b=some o'
 tups:∀ b xs,H b=some (.tup xs)->H' b=some (.tup xs)
 frzs:∀ b o u,H b=some (.frz o u)->H' b=some (.frz o u)
 tbls:∀ b ps,H b=some (.tbl ps)->∃ more,H' b=some (.tbl (ps++more))
section
variable {fs fs' ex ex':List Addr}{H H1 H2:Hp}{h h1 h2 h':Heap}{a x e:Addr}{o:HO}
theorem Un.any(u:Un fs ex H H1 h h1)(q:h.get? b=some ob)(n:H b=none)(hx:b ∉ ex):∃ sl,h1.get? b=some { ob with slots:=sl }:=by
 by_cases hb:b∈fs
 ·exact u.slot b ob q n hb hx
 ·exact⟨ob.slots,u.keep b ob q n hb hx⟩
theorem Un.kept(k:∀ b u,h.get? b=some u->h'.get? b=some u):Un fs ex H H h h' :=
 ⟨fun b ob q _ _ _=>k b ob q,fun b ob q _ _ _=>⟨ob.slots,k b ob q⟩,fun _ _ _ n _=>n,fun b ob q _=>⟨ob,k b ob q⟩,fun _ _ q=>q,fun _ _ _ q=>q,fun _ ps q=>⟨#[],by rw [q];simp⟩⟩
theorem Un.refl:Un fs ex H H h h:=Un.kept fun _ _ q=>q
theorem Un.laid(k:∀ b u,h.get? b=some u->h'.get? b=some u)(hp:h.objs.size<=a)(hn:H a=none):Un fs ex H (upd H a o) h h' where
 keep:=fun b u q _ _ _=>k b u q
 slot:=fun b u q _ _ _=>⟨u.slots,k b u q⟩
 free:=fun b u q n _=>by rw [eJ (eV (lt_of_lt_of_le (d0 q) hp))];exact n
 there:=fun b u q _=>⟨u,k b u q⟩
 tups:=fun b xs q=>by rw [eJ (gM q hn)];exact q
 frzs:=fun b u xs q=>by rw [eJ (gM q hn)];exact q
 tbls:=fun b ps q=>⟨#[],by rw [eJ (gM q hn),q];simp⟩
theorem Un.write(mu:Mut (H x))(he:e=x\/H e=some (.own x))(k:∀ b u,b≠e->h.get? b=some u->h'.get? b=some u)(heo:∃ u,h'.get? e=some u):Un fs ex H (upd H x o) h h':=by
 have hx:∀ b,H b=none->b≠x:=fun b n z=>by subst z;rw [n] at mu;exact mu
 have hb:∀ b,H b=none->b≠e:=fun b n z=>by
  subst z;rcases he with r|r
  ·exact hx b n r
  ·rw [n] at r;cases r
 have hm:∀ b u,H b=some u->¬ Mut (some u)->b≠x:=fun b u q nm z=>by subst z;rw [q] at mu;exact nm mu
 refine⟨fun b u q n _ _=>k b u (hb b n) q,fun b u q n _ _=>⟨u.slots,k b u (hb b n) q⟩,fun b u q n _=>by rw [eJ (hx b n)];exact n,fun b u q _=>?_,
  fun b xs q=>by rw [eJ (hm b _ q fun z=>z)];exact q,fun b u xs q=>by rw [eJ (hm b _ q fun z=>z)];exact q,fun b ps q=>⟨#[],by rw [eJ (hm b _ q fun z=>z),q];simp⟩⟩
 by_cases hbe:b=e
 ·subst hbe;exact heo
 ·exact⟨u,k b u hbe q⟩
end
noncomputable def trk(h:Heap)(H:Hp):List Addr:=(range h.objs.size).filter fun a=>(H a).isSome
noncomputable def jEV(h:Heap)(H:Hp):Heap:=PySem.W.hideAll h (trk h H)
theorem jN5(h:Heap)(H:Hp):(jEV h H).objs.size=h.objs.size:=PySem.W.hideAll_size _ _
theorem jPs(e:h.get? b=some o)(n:H b=none):(jEV h H).get? b=some o :=
 PySem.W.hideAll_get _ e fun hm=>by
  have q:(H b).isSome=true:=(iL.mp hm).2;rw [n] at q;simp at q
theorem of_hidT(e:(jEV h H).get? b=some o):h.get? b=some o/\H b=none:=by
 have e':h.get? b=some o:=PySem.W.of_hideAll (trk h H) e;exists e';cases q:H b with
 | none=>rfl
 | some x =>
   have hm:b∈trk h H:=iL.mpr ⟨iW.mpr (d0 e'),by simp [q]⟩;have z:(jEV h H).get? b=none:=PySem.W.hideAll_none (trk h H) hm;rw [z] at e;cases e
noncomputable def allNews(g h:Heap)(L:Addr):List (Addr×Obj):=(range h.objs.size).filterMap fun a=>if a=L\/(g.get? a).isSome=true then none else (h.get? a).map fun o=>(a,o)
noncomputable def uV(g h:Heap)(L d:Addr):List (Addr×Obj):=(allNews g h L).filter fun p=>decide (p.1≠d)
structure Mod(K:PySem.W.Frag)(mg:Str->Option Value)(base:Heap):Prop where
 kin:K.In base
 glob:base.Ns dY mg
 blt:∃ mb,base.Ns rN mb/\∀ x:Str,x≠"__name__"->mb x=fJ x
 nolimit:base.NoLimit
/-- the context: a def's body (or a comprehension's block) running. base: fixed through the pD law; s₀, H₀: the entry; outer: the frames whose slots others may change (a def's callers); stack: all frames that run;
 ex: iterators that were made ahead of the entry and are walked here (a comprehension's);fn: the names whose cells were made at the entry (a def: all;a comprehension's block: its own);calm: not within an except yC;pn: b9 that every state bears;xe: what is wanted of an exception that leaves the code -/
structure Cx where
 prog:Program
 w:World
 K:PySem.W.Frag
 mg:Str->Option Value
 base:Heap
 A:Around
 N:List Str
 s₀:Shared
 H₀:Hp
 env:Env
 outer:List Env
 stack:List Env
 ex:List Addr
 fn:Str->Bool
 calm:Bool
 pn:List (Addr×Obj)
 xe:Value->Shared->Prop
noncomputable def frs(l:List Env):List Addr:=l.filterMap (·.frame)
noncomputable abbrev Cx.fs(X:Cx):List Addr:=frs X.outer
noncomputable def Vis(sc:Scope)(x:Str):Prop:=sc.names.lookup x=some .local\/sc.names.lookup x=some .cell\/sc.names.lookup x=some .free
noncomputable def Loc(sc:Scope)(x:Str):Prop:=sc.names.lookup x=some .local\/sc.names.lookup x=some .cell
noncomputable def Look(env:Env)(h:Heap)(m:Str->Option Value)(x:Str)(u:Value):Prop :=
 (env.kindOf x=some .local/\m x=some u)\/((env.kindOf x=some .cell\/env.kindOf x=some .free)/\∃ c,env.cells.lookup x=some c/\h.IsCell c (some u))
structure Cx.Ok(X:Cx):Prop where
 mod:Mod X.K X.mg X.base
 kind:X.env.scope.kind=.function
 glob:X.env.globals=dY
 blt:X.env.builtins=rN
 above:X.s₀.heap.objs.size<=X.env.locals
 inj:∀ x y c,X.env.cells.lookup x=some c->X.env.cells.lookup y=some c->x=y
 has:∀ x,(X.env.kindOf x=some .cell\/X.env.kindOf x=some .free)->∃ c,X.env.cells.lookup x=some c
 cab:∀ x c,X.fn x=true->X.env.cells.lookup x=some c->X.s₀.heap.objs.size<=c
 hd:X.calm=true->X.A.handled=none
 frames:X.A.frames=some X.stack
 stk:X.stack=X.outer\/(X.stack=X.env::X.outer/\X.env.frame=some X.env.locals)
 exf:∀ b∈X.ex,b≠X.env.locals/\∀ x c,X.env.cells.lookup x=some c->c≠b
 bs:∀ b o,X.base.get? b=some o->X.s₀.heap.get? b=some o/\X.H₀ b=none
 bsz:X.base.objs.size<=X.s₀.heap.objs.size
 noex:∀ b o,X.base.get? b=some o->b ∉ X.ex
 exfs:∀ b∈X.ex,b ∉ X.fs
 funs:X.s₀.heap.FunFrames X.base X.outer
 frf:∀ b∈X.fs,X.H₀ b=none
structure Inv(X:Cx)(b9:List (Addr×Obj))(σ:List (Option V))(H:Hp)(s:Shared):Prop where
 ok:X.Ok
 os:s.os=X.s₀.os
 bare:AllBare s.gens
 base:Un X.fs X.ex X.H₀ H X.s₀.heap s.heap
 loc:∃ m,s.heap.Ns X.env.locals m/\∀ (i:Nat) (x:Str) (v:V),X.N[i]?=some x->σ[i]?=some (some v)->Vis X.env.scope x->∃ u,g9 v u/\Look X.env s.heap m x u
 cell:∀ x c,X.env.cells.lookup x=some c->∃ v,s.heap.IsCell c v
 free:H X.env.locals=none
 freeC:∀ x c,X.env.cells.lookup x=some c->H c=none
 pin:∀ p∈X.pn++b9,s.heap.get? p.1=some p.2/\H p.1=none/\p.1≠X.env.locals/\p.1 ∉ X.fs/\∀ v,p.2.data≠.cell v
 hok:HOk X.prog X.w H s.heap
 len:σ.length=X.N.length
section
variable {X:Cx}{b9:List (Addr×Obj)}{σ:List (Option V)}{H H':Hp}{s:Shared}{h':Heap}
theorem Cx.Ok.nofr(ok:X.Ok)(e:X.base.get? b=some o):b ∉ X.fs:=fun hb=>by
 have:=(ok.funs.mem hb).1;rw [e] at this;cases this
theorem Inv.bs(I:Inv X b9 σ H s):∀ b o,X.base.get? b=some o->s.heap.get? b=some o/\H b=none:=fun b o e =>
 ⟨I.base.keep b o (I.ok.bs b o e).1 (I.ok.bs b o e).2 (I.ok.nofr e) (I.ok.noex b o e),I.base.free b o (I.ok.bs b o e).1 (I.ok.bs b o e).2 (I.ok.noex b o e)⟩
theorem Inv.bk(I:Inv X b9 σ H s):∀ b o,X.base.get? b=some o->s.heap.get? b=some o:=fun b o e=>(I.bs b o e).1
theorem Inv.mod(I:Inv X b9 σ H s):Mod X.K X.mg X.base:=I.ok.mod
theorem Inv.kIn(I:Inv X b9 σ H s):X.K.In s.heap:=I.ok.mod.kin.keeps I.bk
theorem Inv.lt(I:Inv X b9 σ H s):X.env.locals<s.heap.objs.size:=let ⟨_,hn,_⟩:=I.loc;hn.lt
theorem Inv.sz(I:Inv X b9 σ H s):X.s₀.heap.objs.size<=s.heap.objs.size:=eM I.ok.above (le_of_lt I.lt)
theorem Inv.nofs(I:Inv X b9 σ H s)(h:s.heap.objs.size<=a):a ∉ X.fs:=fun hb=>by
 obtain⟨_,o,ho,_⟩:=I.ok.funs.mem hb;exact absurd (lt_of_lt_of_le (d0 ho) (eM I.sz h)) (gU _)
theorem Inv.cne(I:Inv X b9 σ H s):∀ x c,X.env.cells.lookup x=some c->c≠X.env.locals:=fun x c e z=>by
 obtain⟨v,o,ho,hd⟩:=I.cell x c e;obtain⟨m,⟨o',es,ep,zF,hd',_⟩,_⟩:=I.loc;rw [z,zF] at ho;cases ho;rw [hd'] at hd;cases hd
theorem Inv.funs(I:Inv X b9 σ H s):s.heap.FunFrames X.base X.outer:=by
 have all:∀ (l:List Env),(∀ b∈frs l,b∈X.fs)->X.s₀.heap.FunFrames X.base l->s.heap.FunFrames X.base l:=by
  intro l;induction l with
  | nil=>intro _ _;trivial
  | cons env r ih =>
    intro hs hl;obtain⟨hk,⟨L,o,hf,hn,ho,hd⟩,hr⟩:=hl;have hL:L∈X.fs:=hs L (by unfold frs;rw [kF,hf];exact eD);obtain⟨sl,e⟩:=I.base.slot L o ho (I.ok.frf L hL) hL fun z=>I.ok.exfs L z hL;exact⟨hk,⟨L,_,hf,hn,e,hd⟩,ih (fun b hb=>hs b (by unfold frs;rw [kF,hf];exact eG _ hb)) hr⟩
 exact all X.outer (fun _ hb=>hb) I.ok.funs
theorem Inv.stack(I:Inv X b9 σ H s):s.heap.FunFrames X.base X.stack:=by
 rcases I.ok.stk with e|⟨e,hf⟩
 ·rw [e];exact I.funs
 ·rw [e];obtain⟨m,hn,_⟩:=I.loc;refine .cons (by rw [I.ok.kind];decide) hf hn ?_ I.funs;exact Heap.get?_none_of_le (eM I.ok.bsz I.ok.above)
theorem Inv.stkSub(I:Inv X b9 σ H s):∀ b∈frs X.stack,b∈X.env.locals::X.fs:=fun b hb=>by
 rcases I.ok.stk with e|⟨e,hf⟩
 ·rw [e] at hb;exact eG _ hb
 ·rw [e] at hb;unfold frs at hb;rw [kF,hf] at hb;exact hb
theorem Inv.stkFree(I:Inv X b9 σ H s):∀ b∈frs X.stack,H b=none:=fun b hb=>by
 rcases dX.mp (I.stkSub b hb) with e|hb
 ·rw [e];exact I.free
 ·obtain⟨_,o,ho,_⟩:=I.ok.funs.mem hb;exact I.base.free b o ho (I.ok.frf b hb) fun z=>I.ok.exfs b z hb
theorem Inv.step{g':Array GenState}{t':Nat}{d':Drawn}{ch:List Addr}(I:Inv X b9 σ H s)
 (u5:∀ b∈ch,(b∈X.ex\/X.s₀.heap.objs.size<=b)/\b≠X.env.locals/\(∀ x c,X.env.cells.lookup x=some c->c≠b)/\∀ p∈X.pn++b9,p.1≠b)
 (keep:∀ b o,b≠X.env.locals->b ∉ X.fs->b ∉ ch->s.heap.get? b=some o->H b=none->h'.get? b=some o)
 (slot:∀ b o,b≠X.env.locals->b∈X.fs->b ∉ ch->s.heap.get? b=some o->H b=none->∃ sl,h'.get? b=some { o with slots:=sl }) (free:∀ b o,b ∉ ch->s.heap.get? b=some o->H b=none->H' b=none)
 (there:∀ b o,b ∉ ch->s.heap.get? b=some o->∃ o',h'.get? b=some o')
 (tups:∀ b xs,H b=some (.tup xs)->H' b=some (.tup xs)) (frzs:∀ b o u,H b=some (.frz o u)->H' b=some (.frz o u)) (tbls:∀ b ps,H b=some (.tbl ps)->∃ more,H' b=some (.tbl (ps++more)))
 (ns:∀ m,s.heap.Ns X.env.locals m->h'.Ns X.env.locals m) (hok:HOk X.prog X.w H' h') (hg:AllBare g') :
 Inv X b9 σ H' { s with heap:=h',gens:=g',drawn:=d',toks:=t' }:=by
 have neL:∀ b o,X.s₀.heap.get? b=some o->b≠X.env.locals:=fun b o e=>eV (lt_of_lt_of_le (d0 e) I.ok.above);have neC:∀ b o,X.s₀.heap.get? b=some o->b ∉ X.ex->b ∉ ch:=fun b o e hx hb=>by
  rcases (u5 b hb).1 with z|z
  ·exact hx z
  ·exact absurd (lt_of_lt_of_le (d0 e) z) (gU _)
 have cellK:∀ x c,X.env.cells.lookup x=some c->∀ v,s.heap.IsCell c v->h'.IsCell c v:=fun x c e v ⟨o,ho,hd⟩=>by
  have yH:c ∉ ch:=fun z=>(u5 c z).2.2.1 x c e rfl;by_cases hc:c∈X.fs
  ·obtain⟨sl,q⟩:=slot c o (I.cne x c e) hc yH ho (I.freeC x c e);exact⟨_,q,hd⟩
  ·exact⟨o,keep c o (I.cne x c e) hc yH ho (I.freeC x c e),hd⟩
 refine⟨I.ok,I.os,hg,⟨fun b o e n hb hx=>?_,fun b o e n hb hx=>?_,fun b o e n hx=>?_,fun b o e hx=>?_,fun b xs e=>tups b xs (I.base.tups b xs e),fun b o xs e=>frzs b o xs (I.base.frzs b o xs e),fun b ps e=>?_⟩,?_,fun x c e=>?_,?_,fun x c e=>?_,fun p hp=>?_,hok,I.len⟩
 ·exact keep b o (neL b o e) hb (neC b o e hx) (I.base.keep b o e n hb hx) (I.base.free b o e n hx)
 ·obtain⟨sl,e1⟩:=I.base.slot b o e n hb hx;obtain⟨sl',e2⟩:=slot b _ (neL b o e) hb (neC b o e hx) e1 (I.base.free b o e n hx);exact⟨sl',e2⟩
 ·obtain⟨o',e1⟩:=I.base.there b o e hx;exact free b o' (neC b o e hx) e1 (I.base.free b o e n hx)
 ·obtain⟨o',e1⟩:=I.base.there b o e hx;exact there b o' (neC b o e hx) e1
 ·obtain⟨m1,e1⟩:=I.base.tbls b ps e;obtain⟨m2,e2⟩:=tbls b _ e1;exact⟨m1++m2,by rw [e2,Array.append_assoc]⟩
 ·obtain⟨m,hn,hl⟩:=I.loc;refine⟨m,ns m hn,fun i x v e1 e2 e3=>?_⟩;obtain⟨u,r,l⟩:=hl i x v e1 e2 e3;exists u,r;rcases l with l|⟨k,c,e,z⟩
  ·exact .inl l
  ·exact .inr ⟨k,c,e,cellK x c e _ z⟩
 ·obtain⟨v,z⟩:=I.cell x c e;exact⟨v,cellK x c e v z⟩
 ·obtain⟨m,⟨o,_,_,ho,_⟩,_⟩:=I.loc;exact free _ o (fun z=>(u5 _ z).2.1 rfl) ho I.free
 ·obtain⟨v,o,ho,hd⟩:=I.cell x c e;exact free c o (fun z=>(u5 c z).2.2.1 x c e rfl) ho (I.freeC x c e)
 ·obtain⟨e,n,ne,nf,d⟩:=I.pin p hp;have yH:p.1 ∉ ch:=fun z=>(u5 p.1 z).2.2.2 p hp rfl;exact⟨keep p.1 p.2 ne nf yH e n,free p.1 p.2 yH e n,ne,nf,d⟩
theorem Inv.un{t':Nat}(I:Inv X b9 σ H s)(u:Un X.fs [] H H' s.heap h')(hok:HOk X.prog X.w H' h'):Inv X b9 σ H' { s with heap:=h',toks:=t' }:=by
 obtain⟨m,⟨o,es,ep,ho,r⟩,_⟩:=id I.loc;obtain⟨sl,hL⟩:=u.any ho I.free (by simp)
 exact I.step (g':=s.gens) (d':=s.drawn) (ch:=[]) (fun _ z=>nomatch z) (fun b o _ hb _ e n=>u.keep b o e n hb (by simp)) (fun b o _ hb _ e n=>u.slot b o e n hb (by simp)) (fun b o _ e n=>u.free b o e n (by simp)) (fun b o _ e=>u.there b o e (by simp)) u.tups u.frzs u.tbls (fun m' hm=>by
  obtain⟨o',es',ep',zF,r'⟩:=hm;rw [ho] at zF;cases zF
  exact⟨_,es',ep',hL,r'⟩) hok I.bare
theorem Inv.call{g':Array GenState}{t':Nat}{d':Drawn}{ch:List Addr}(I:Inv X b9 σ H s)(u:Un (frs X.stack) ch H H' s.heap h')(hok:HOk X.prog X.w H' h')(hg:AllBare g')
 (u5:∀ b∈ch,(b∈X.ex\/X.s₀.heap.objs.size<=b)/\b≠X.env.locals/\(∀ x c,X.env.cells.lookup x=some c->c≠b)/\∀ p∈X.pn++b9,p.1≠b) :
 Inv X b9 σ H' { s with heap:=h',gens:=g',drawn:=d',toks:=t' }:=by
 obtain⟨m,⟨o,es,ep,ho,r⟩,_⟩:=id I.loc;obtain⟨sl,hL⟩:=u.any ho I.free fun z=>(u5 _ z).2.1 rfl
 exact I.step (ch:=ch) u5 (fun b o hL hb hc e n=>u.keep b o e n (fun z=>(dX.mp (I.stkSub b z)).elim hL hb) hc) (fun b o _ _ hc e n=>u.any e n hc) (fun b o hc e n=>u.free b o e n hc) (fun b o hc e=>u.there b o e hc) u.tups u.frzs u.tbls (fun m' hm=>by
  obtain⟨o',es',ep',zF,r'⟩:=hm;rw [ho] at zF;cases zF
  exact⟨_,es',ep',hL,r'⟩) hok hg
theorem Inv.turned{t':Nat}{it:Addr}(I:Inv X b9 σ H s)(k:∀ b o,b≠it->s.heap.get? b=some o->h'.get? b=some o)(hn:H it=none)(hL:it≠X.env.locals)
 (h1:it∈X.ex\/X.s₀.heap.objs.size<=it) (h2:∀ x c,X.env.cells.lookup x=some c->c≠it) (h3:∀ p∈X.pn++b9,p.1≠it):Inv X b9 σ H { s with heap:=h',toks:=t' }:=by
 have nit:∀ b u,H b=some u->b≠it:=fun b u e z=>by rw [z,hn] at e;cases e
 refine I.step (g':=s.gens) (d':=s.drawn) (ch:=[it]) (fun b hb=>?_) (fun b o _ _ hc e _=>k b o (fun z=>hc (by simp [z])) e) (fun b o _ _ hc e _=>⟨o.slots,k b o (fun z=>hc (by simp [z])) e⟩) (fun _ _ _ _ n=>n)
  (fun b o hc e=>⟨o,k b o (fun z=>hc (by simp [z])) e⟩) (fun _ _ e=>e) (fun _ _ _ e=>e) (fun b ps e=>⟨#[],by rw [e];simp⟩) (fun m hm=>?_) (fun b u e=>?_) I.bare
 ·have e:b=it:=by simpa using hb
  subst e;exact⟨h1,hL,h2,h3⟩
 ·obtain⟨o,es,ep,ho,r⟩:=hm;exact⟨o,es,ep,k _ o (symm hL) ho,r⟩
 ·refine (I.hok b u e).stay (fun c v hc q=>k c v ?_ q) (fun _ q=>q) fun _ _ q=>q;rcases hc with z|z
  ·rw [z];exact nit b u e
  ·exact nit c _ z
theorem Inv.tok(I:Inv X b9 σ H s)(t:Nat):Inv X b9 σ H { s with toks:=t }:=I.un (h':=s.heap) (t':=t) Un.refl I.hok
theorem Inv.kept(I:Inv X b9 σ H s)(k:∀ b u,s.heap.get? b=some u->h'.get? b=some u):Inv X b9 σ H { s with heap:=h',toks:=t' }:=I.un (Un.kept k) (I.hok.kept k)
theorem Inv.laid(I:Inv X b9 σ H s)(k:∀ b u,s.heap.get? b=some u->h'.get? b=some u)(hp:s.heap.objs.size<=a)(new:lU X.prog X.w (upd H a o) h' a o) :
 Inv X b9 σ (upd H a o) { s with heap:=h',toks:=t' }:=I.un (Un.laid k hp (I.hok.fresh hp)) (I.hok.laid k hp new)
theorem Inv.write(I:Inv X b9 σ H s)(mu:Mut (H x))(he:e=x\/H e=some (.own x))(k:∀ b u,b≠e->s.heap.get? b=some u->h'.get? b=some u)(heo:∃ u,h'.get? e=some u) 
 (new:lU X.prog X.w (upd H x o) h' x o):Inv X b9 σ (upd H x o) { s with heap:=h',toks:=t' }:=I.un (Un.write mu he k heo) (I.hok.write mu he k heo new)
theorem Inv.pins_of(I:Inv X b9 σ H s)(h:∀ p∈pins',s.heap.get? p.1=some p.2/\H p.1=none/\p.1≠X.env.locals/\p.1 ∉ X.fs/\∀ v,p.2.data≠.cell v):Inv X pins' σ H s :=
 ⟨I.ok,I.os,I.bare,I.base,I.loc,I.cell,I.free,I.freeC,fun p hp=>(eN.mp hp).elim (fun z=>I.pin p (eS _ z)) (h p),I.hok,I.len⟩
theorem jKD{N:List Str}(hN:N.Nodup){i j:Nat}{x:Str}(a:N[i]?=some x)(b:N[j]?=some x):i=j:=by
 obtain⟨h1,e1⟩:=List.getElem?_eq_some_iff.mp a;obtain⟨h2,e2⟩:=List.getElem?_eq_some_iff.mp b;exact (List.getElem_inj hN).mp (e1.trans e2.symm)
theorem jN6(I:Inv X b9 σ H s)(hN:X.N.Nodup)(hi:X.N[i]?=some x)(hx:Loc X.env.scope x)(r:g9 v u) 
 (h:∀ s',Inv X b9 (σ.set i (some v)) H s'->(∃ a,SameBut a s.heap s'.heap/\(a=X.env.locals\/X.env.cells.lookup x=some a))->Q () s') (hf:X.fn x=true\/X.env.scope.names.lookup x=some .local:=by first|exact .inl rfl|exact .inr rfl|assumption):dM M A (storeName X.env x u) Q E s:=by
 obtain⟨m,hn,hl⟩:=id I.loc;have hcls:(X.env.scope.kind==.class||(X.env.scope.kind==.module&&X.env.locals != X.env.globals))=false:=by rw [I.ok.kind];rfl
 have hiσ:i<σ.length:=by rw [I.len];exact (List.getElem?_eq_some_iff.mp hi).1
 have cne:=I.cne;have vD:∀ {a:Addr} {h':Heap},(∃ o,s.heap.get? a=some o/\H a=none)->SameBut a s.heap h'->HOk X.prog X.w H h':=fun {a h'} ha hs b ob e=>by
  obtain⟨_,_,hfree⟩:=ha;refine (I.hok b ob e).stay (fun c w' hc q=>(hs.2 c ?_).trans q) (fun _ q=>q) fun _ _ q=>q;rintro rfl;rcases hc with rfl|hc
  ·rw [hfree] at e;cases e
  ·rw [hfree] at hc;cases hc
 rcases hx with hk|hk
 ·refine wpAny_storeName_local hk hn (fun h' hn' hs=>?_) hcls;obtain⟨oL,_,_,hoL,_⟩:=id hn;refine h _ ⟨I.ok,I.os,I.bare,⟨fun b o e n hb hx=>?_,fun b o e n hb hx=>?_,I.base.free,fun b o e hx=>?_,I.base.tups,I.base.frzs,I.base.tbls⟩,⟨_,hn',fun j y v' e1 e2 e3=>?_⟩,fun y c e=>?_,I.free,I.freeC,fun p hp=>?_,vD ⟨oL,hoL,I.free⟩ hs,by simpa using I.len⟩ ⟨_,hs,.inl rfl⟩
  ·exact (hs.2 b (eV (lt_of_lt_of_le (d0 e) I.ok.above))).trans (I.base.keep b o e n hb hx)
  ·obtain⟨sl,e1⟩:=I.base.slot b o e n hb hx;exact⟨sl,(hs.2 b (eV (lt_of_lt_of_le (d0 e) I.ok.above))).trans e1⟩
  ·obtain⟨o',e1⟩:=I.base.there b o e hx;exact⟨o',(hs.2 b (eV (lt_of_lt_of_le (d0 e) I.ok.above))).trans e1⟩
  ·by_cases hj:j=i
   ·subst hj;rw [hi] at e1;cases e1;rw [getElem?_set_self hiσ] at e2;cases e2;exact⟨u,r,.inl ⟨hk,by simp⟩⟩
   ·rw [List.getElem?_set_ne (symm hj)] at e2;obtain⟨u',r',q⟩:=hl j y v' e1 e2 e3;exists u',r';rcases q with⟨k,e⟩|⟨k,c,e,z⟩
    ·refine .inl ⟨k,?_⟩;have:y≠x:=fun e=>hj (jKD hN e1 (e ▸ hi));simp [this,e]
    ·exact .inr ⟨k,c,e,z.sameBut hs (cne y c e)⟩
  ·obtain⟨w',z⟩:=I.cell y c e;exact⟨w',z.sameBut hs (cne y c e)⟩
  ·obtain⟨e,n,ne,nf,d⟩:=I.pin p hp;exact⟨(hs.2 p.1 ne).trans e,n,ne,nf,d⟩
 ·have hfn:X.fn x=true:=by
   rcases hf with z|z
   ·exact z
   ·rw [z] at hk;cases hk
  obtain⟨c,hc⟩:=I.ok.has x (.inl hk);obtain⟨w',z⟩:=I.cell x c hc;refine wpAny_storeName_cell I.ok.kind hk hc z (fun h' zK hs=>?_);obtain⟨oc,hoc,hocd⟩:=id z;refine h { s with heap:=h' } ⟨I.ok,I.os,I.bare,⟨fun b o e n hb hx=>?_,fun b o e n hb hx=>?_,I.base.free,fun b o e hx=>?_,I.base.tups,I.base.frzs,I.base.tbls⟩,⟨m,hn.sameBut hs (symm (cne x c hc)),fun j y v' e1 e2 e3=>?_⟩,fun y c' e=>?_,I.free,I.freeC,fun p hp=>?_,vD ⟨oc,hoc,I.freeC x c hc⟩ hs,by simpa using I.len⟩ ⟨c,hs,.inr hc⟩
  ·exact (hs.2 b (eV (lt_of_lt_of_le (d0 e) (I.ok.cab x c hfn hc)))).trans (I.base.keep b o e n hb hx)
  ·obtain⟨sl,e1⟩:=I.base.slot b o e n hb hx;exact⟨sl,(hs.2 b (eV (lt_of_lt_of_le (d0 e) (I.ok.cab x c hfn hc)))).trans e1⟩
  ·obtain⟨o',e1⟩:=I.base.there b o e hx;exact⟨o',(hs.2 b (eV (lt_of_lt_of_le (d0 e) (I.ok.cab x c hfn hc)))).trans e1⟩
  ·by_cases hj:j=i
   ·subst hj;rw [hi] at e1;cases e1;rw [getElem?_set_self hiσ] at e2;cases e2;exact⟨u,r,.inr ⟨.inl hk,c,hc,zK⟩⟩
   ·rw [List.getElem?_set_ne (symm hj)] at e2;obtain⟨u',r',q⟩:=hl j y v' e1 e2 e3;exists u',r';rcases q with q|⟨k,c',e,z'⟩
    ·exact .inl q
    ·refine .inr ⟨k,c',e,z'.sameBut hs ?_⟩;rintro rfl;exact hj (jKD hN e1 (I.ok.inj _ _ _ e hc ▸ hi))
  ·by_cases hcc:c'=c
   ·subst hcc;exact⟨_,zK⟩
   ·obtain⟨w2,z2⟩:=I.cell y c' e;exact⟨w2,z2.sameBut hs hcc⟩
  ·obtain⟨e,n,ne,nf,d⟩:=I.pin p hp;refine⟨(hs.2 p.1 ?_).trans e,n,ne,nf,d⟩;intro q;rw [q,hoc] at e;have q':oc=p.2:=Option.some.inj e;exact d w' (by rw [<- q'];exact hocd)
theorem jFl(I:Inv X b9 σ H s)(hN:X.N.Nodup)(hi:X.N[i]?=some x)(hx:Loc X.env.scope x)(r:g9 v u) 
 (h:∀ s',Inv X b9 (σ.set i (some v)) H s'->Q () s') (hf:X.fn x=true\/X.env.scope.names.lookup x=some .local:=by first|exact .inl rfl|exact .inr rfl|assumption):dM M A (storeName X.env x u) Q E s :=
 jN6 I hN hi hx r (fun s' I' _=>h s' I') hf
theorem Inv.call'(I:Inv X b9 σ H s)(ho:s'.os=s.os)(u:Un (frs X.stack) ch H H' s.heap s'.heap)(hok:HOk X.prog X.w H' s'.heap)(hg:AllBare s'.gens) 
 (u5:∀ b∈ch,(b∈X.ex\/X.s₀.heap.objs.size<=b)/\b≠X.env.locals/\(∀ x c,X.env.cells.lookup x=some c->c≠b)/\∀ p∈X.pn++b9,p.1≠b):Inv X b9 σ H' s':=by
 obtain⟨h',g',d',t',o'⟩:=s';have e:o'=s.os:=ho;subst e;exact I.call (g':=g') (t':=t') (d':=d') u hok hg u5
end
noncomputable abbrev XK:=Value->Option Addr->Hp->Prop
noncomputable abbrev St:=List (Option V)
noncomputable abbrev VK:=V->Hp->Prop
noncomputable abbrev TE:=St->Hp->VK->Prop
noncomputable abbrev TT:=St->Hp->(Bool->Hp->Prop)->Prop
noncomputable abbrev TA:=St->Hp->(List V->Hp->Prop)->Prop
structure sQ where
 nx:St->Hp->Prop
 rt:VK
 bk:St->Hp->Prop:=fun _ _=>False
 ct:St->Hp->Prop:=fun _ _=>False
noncomputable abbrev TS:=sQ->St->Hp->Prop
noncomputable def EP(X:Cx)(b9:List (Addr×Obj))(σ:St)(Q:VK)(u:Value)(s':Shared):Prop:=∃ v H',Inv X b9 σ H' s'/\g9 v u/\Q v H'
noncomputable def TP(X:Cx)(b9:List (Addr×Obj))(σ:St)(Q:Bool->Hp->Prop)(b:Bool)(s':Shared):Prop:=∃ H',Inv X b9 σ H' s'/\Q b H'
noncomputable def AP(X:Cx)(b9:List (Addr×Obj))(σ:St)(Q:List V->Hp->Prop)(us:List Value)(s':Shared):Prop:=∃ vs H',Inv X b9 σ H' s'/\iH vs us/\Q vs H'
noncomputable def SP(X:Cx)(b9:List (Addr×Obj))(D:sQ)(f:Flow)(s':Shared):Prop :=
 match f with
 | .next=>∃ σ' H',Inv X b9 σ' H' s'/\D.nx σ' H'
 | .brk=>∃ σ' H',Inv X b9 σ' H' s'/\D.bk σ' H'
 | .cont=>∃ σ' H',Inv X b9 σ' H' s'/\D.ct σ' H'
 | .ret u=>∃ v σ' H',Inv X b9 σ' H' s'/\g9 v u/\D.rt v H'
noncomputable def PE(X:Cx)(e:Expr)(t:TE):Prop :=
 ∀ (b9:List (Addr×Obj)) (s:Shared) (σ:St) (H:Hp) (Q:VK),Inv X b9 σ H s->t σ H Q->dM (dQ X.prog X.w) X.A (fA e X.env) (EP X b9 σ Q) X.xe s
noncomputable def PT(X:Cx)(e:Expr)(t:TT):Prop :=
 ∀ (b9:List (Addr×Obj)) (s:Shared) (σ:St) (H:Hp) (Q:Bool->Hp->Prop),Inv X b9 σ H s->t σ H Q->dM (dQ X.prog X.w) X.A (z6 e X.env (fA e X.env)) (TP X b9 σ Q) X.xe s
noncomputable def PW(X:Cx)(e:Expr)(t:TT):Prop :=
 ∀ (pD:Sem Value) (b9:List (Addr×Obj)) (s:Shared) (σ:St) (H:Hp) (Q:Bool->Hp->Prop),Inv X b9 σ H s->t σ H Q->dM (dQ X.prog X.w) X.A (z6 e X.env pD) (TP X b9 σ Q) X.xe s
theorem PW.pt(h:PW X e t):PT X e t:=h _
noncomputable def PA(X:Cx)(es:List Expr)(t:TA):Prop :=
 ∀ (pos:Pos) (b9:List (Addr×Obj)) (s:Shared) (σ:St) (H:Hp) (Q:List V->Hp->Prop),Inv X b9 σ H s->t σ H Q->dM (dQ X.prog X.w) X.A (spliced (gH pos (dO es X.env))) (AP X b9 σ Q) X.xe s
noncomputable def PS(X:Cx)(st:Stmt)(t:TS):Prop :=
 ∀ (b9:List (Addr×Obj)) (s:Shared) (σ:St) (H:Hp) (D:sQ),Inv X b9 σ H s->t D σ H->dM (dQ X.prog X.w) X.A (exec st X.env) (SP X b9 D) X.xe s
noncomputable def PSs(X:Cx)(st:List Stmt)(t:TS):Prop :=
 ∀ (b9:List (Addr×Obj)) (s:Shared) (σ:St) (H:Hp) (D:sQ),Inv X b9 σ H s->t D σ H->dM (dQ X.prog X.w) X.A (execs st X.env) (SP X b9 D) X.xe s
theorem thn(h:dM M A t Q E s)(hQ:∀ a s,Q a s->Q' a s):dM M A t Q' E s:=e8 h hQ fun _ _ x=>x
section
variable {X:Cx}
inductive tVar(i:Nat)(σ:St)(H:Hp)(Q:VK):Prop|mk v:σ[i]?=some (some v)->Q v H->tVar i σ H Q
noncomputable def tC(v:V):TE:=fun _ H Q=>Q v H
theorem pe_var(hN:X.N[i]?=some x)(hv:Vis X.env.scope x)(hd:(x==("__debug__":Str))=false:=by decide)(pA:(x==("__classdict__":Str))=false:=by decide):PE X (.Name x pos) (tVar i):=by
 intro b9 s σ H Q I h;obtain⟨v,e,h⟩:=h;obtain⟨m,hn,hl⟩:=I.loc;obtain⟨u,r,l⟩:=hl i x v hN e hv;have fin:EP X b9 σ Q u s:=⟨v,H,I,r,h⟩
 rcases l with⟨hk,hm⟩|⟨hk,c,hc,hcell⟩
 ·exact wpAny_Name (wpAny_loadName_local I.ok.kind hk hn hm fin) hd
 ·rcases hk with hk|hk
  ·exact wpAny_Name (wpAny_loadName_cell I.ok.kind hk hc hcell fin) hd
  ·exact wpAny_Name (wpAny_loadName_free I.ok.kind hk hc hcell fin pA) hd
theorem fY:PE X (.Constant (.int i) j pos) (tC (.int i)):=fun _ _ _ H _ I h=>wpAny_Constant_int ⟨.int i,H,I.tok _,⟨_,rfl⟩,h⟩
theorem o8:PE X (.Constant (.bool b) j pos) (tC (.bl b)):=fun _ _ _ H _ I h=>Constant_bool ⟨.bl b,H,I,rfl,h⟩
theorem m3:PE X (.Constant .none j pos) (tC .non):=fun _ _ _ H _ I h=>Constant_none ⟨.non,H,I,rfl,h⟩
theorem kU:PE X (.Constant (.str x) j pos) (tC (.str x)):=fun _ _ _ H _ I h=>Calls.Constant_str ⟨.str x,H,I.tok _,⟨_,rfl⟩,h⟩
noncomputable def Gl(X:Cx)(x:Str):Prop:=X.env.kindOf x=some .globalImplicit
theorem jC0(I:Inv X b9 σ H s)(hg:Gl X x)(hm:X.mg x=some u)(h:Q u s) 
 (hd:(x==("__debug__":Str))=false:=by decide):dM (dQ X.prog X.w) X.A (fA (.Name x pos) X.env) Q E s :=
 Calls.Name_function_global I.ok.kind hg (Calls.loadGlobal_global (by rw [I.ok.glob];exact I.mod.glob.keeps I.bk) hm h) hd
theorem y7(I:Inv X b9 σ H s)(hg:Gl X x)(hm:X.mg x=none)(hv:fJ x=some u)(h:Q u s) 
 (hn:x≠"__name__":=by decide) (hd:(x==("__debug__":Str))=false:=by decide):dM (dQ X.prog X.w) X.A (fA (.Name x pos) X.env) Q E s:=by
 obtain⟨mb,h1,h2⟩:=I.mod.blt;exact Calls.Name_function_global I.ok.kind hg (Calls.loadGlobal_builtin (by rw [I.ok.glob];exact I.mod.glob.keeps I.bk) hm (by rw [I.ok.blt];exact h1.keeps I.bk) ((h2 x hn).trans hv) h) hd
theorem jMy(hg:Gl X x)(hm:X.mg x=some u)(r:g9 v u)(hd:(x==("__debug__":Str))=false:=by decide):PE X (.Name x pos) (tC v) :=
 fun _ _ _ H _ I h=>jC0 I hg hm ⟨v,H,I,r,h⟩ hd
theorem jI5(hg:Gl X x)(hm:X.mg x=none)(hv:fJ x=some u)(r:g9 v u)(hn:x≠"__name__":=by decide)(hd:(x==("__debug__":Str))=false:=by decide):PE X (.Name x pos) (tC v) :=
 fun _ _ _ H _ I h=>y7 I hg hm hv ⟨v,H,I,r,h⟩ hn hd
variable {a b:Expr}{ta tb:TE}{pos:Pos}
noncomputable def PC(X:Cx)(op:CmpOp)(a b:Expr)(t:TE):Prop :=
 ∀ (b9:List (Addr×Obj)) (s:Shared) (σ:St) (H:Hp) (Q:VK),Inv X b9 σ H s->t σ H Q ->
  dM (dQ X.prog X.w) X.A (fA a X.env) (fun v fQ=>dM (dQ X.prog X.w) X.A (fA b X.env) (fun u eU=>dM (dQ X.prog X.w) X.A (fB op v u) (EP X b9 σ Q) X.xe eU) X.xe fQ) X.xe s
theorem jKE(b:Expr)(h:op≠.In)(h2:op≠.NotIn):iD op b=false:=by
 have e1:(op==CmpOp.In)=false:=by cases op<;>first|rfl|exact absurd rfl h
 have e2:(op==CmpOp.NotIn)=false:=by cases op<;>first|rfl|exact absurd rfl h2
 cases b<;>simp [iD,e1,e2]
inductive ItB(Q:Bool->Hp->Prop)(x:V)(H1:Hp):Prop|mk c:x=.bl c->Q c H1->ItB Q x H1
noncomputable def tB(t:TE):TT:=fun σ H Q=>t σ H fun x H1=>ItB Q x H1
theorem jKF(h:PC X op a b t)(h1:iD op b=false:=by first|exact jKE _ (by decide) (by decide)|rfl):PE X (.Compare a [op] [b] pos) t:=fun b9 s σ H Q I hw=>wpAny_Compare1 (h b9 s σ H Q I hw) h1
theorem sR(h:PC X op a b t)(h1:iD op b=false:=by first|exact jKE _ (by decide) (by decide)|rfl):PT X (.Compare a [op] [b] pos) (tB t):=by
 intro b9 s σ H Q I hw;refine wpAny_isTrue_Compare1 (thn (h b9 s σ H _ I hw) fun v s1 h1=>thn h1 fun u s2 h2=>thn h2 fun c s3 ⟨x,H1,I1,r1,q1⟩=>?_) h1;obtain⟨d,rfl,q⟩:=q1;cases r1;exact fO ⟨H1,I1,q⟩
variable {tA tB':TT}{uV:List Expr}
noncomputable def tAnd(t u:TT):TT:=fun σ H Q=>t σ H fun c H1=>if c=true then u σ H1 Q else Q false H1
noncomputable def tOr(t u:TT):TT:=fun σ H Q=>t σ H fun c H1=>if c=true then Q true H1 else u σ H1 Q
noncomputable def tNot(t:TT):TT:=fun σ H Q=>t σ H fun c H1=>Q (!c) H1
theorem jDk(ha:PT X a tA):PW X (.BoolOp .And [a] pos) tA:=by
 intro wh b9 s σ H Q I h;refine isTrue_and (thn (ha b9 s σ H Q I h) fun c s1 e=>?_);cases c with
 | true=>exact isTrue_and_nil e
 | false=>exact e
theorem y6(ha:PT X a tA):PW X (.BoolOp .Or [a] pos) tA:=by
 intro wh b9 s σ H Q I h;refine isTrue_or (thn (ha b9 s σ H Q I h) fun c s1 e=>?_);cases c with
 | false=>exact isTrue_or_nil e
 | true=>exact e
theorem jD6(ha:PT X a tA)(hb:PW X (.BoolOp .And (b::uV) pos) tB'):PW X (.BoolOp .And (a::b::uV) pos) (tAnd tA tB'):=by
 intro wh b9 s σ H Q I h;refine isTrue_and (thn (ha b9 s σ H _ I h) fun c s1 ⟨H1,I1,q1⟩=>?_);cases c with
 | true=>exact hb wh b9 s1 σ H1 Q I1 q1
 | false=>exact⟨H1,I1,q1⟩
theorem wP(ha:PT X a tA)(hb:PW X (.BoolOp .Or (b::uV) pos) tB'):PW X (.BoolOp .Or (a::b::uV) pos) (tOr tA tB'):=by
 intro wh b9 s σ H Q I h;refine isTrue_or (thn (ha b9 s σ H _ I h) fun c s1 ⟨H1,I1,q1⟩=>?_);cases c with
 | true=>exact⟨H1,I1,q1⟩
 | false=>exact hb wh b9 s1 σ H1 Q I1 q1
theorem qM(ha:PT X a tA):PT X (.UnaryOp .Not a pos) (tNot tA):=by
 intro b9 s σ H Q I h;exact isTrue_not (ha b9 s σ H (fun c H1=>Q (!c) H1) I h)
noncomputable def tAndV(ta tb:TE):TE:=fun σ H Q=>ta σ H fun x H1=>∃ c,x=.bl c/\if c=true then tb σ H1 Q else Q (.bl false) H1
noncomputable def tOrV(ta tb:TE):TE:=fun σ H Q=>ta σ H fun x H1=>∃ c,x=.bl c/\if c=true then Q (.bl true) H1 else tb σ H1 Q
noncomputable def tNotV(ta:TE):TE:=fun σ H Q=>ta σ H fun x H1=>∃ c,x=.bl c/\Q (.bl (!c)) H1
theorem jCT(h:PE X a t):PE X (.BoolOp op [a] pos) t:=fun b9 s σ H Q I hw=>BoolOp_one (h b9 s σ H Q I hw)
theorem jD7(ha:PE X a ta)(hb:PE X (.BoolOp .And (b::uV) pos) tb):PE X (.BoolOp .And (a::b::uV) pos) (tAndV ta tb):=by
 intro b9 s σ H Q I h;refine BoolOp_and (thn (ha b9 s σ H _ I h) fun v s1 ⟨x,H1,I1,r1,q1⟩=>?_);obtain⟨c,rfl,q1⟩:=q1;cases r1;refine fO ?_;cases c with
 | true=>exact hb b9 s1 σ H1 Q I1 q1
 | false=>exact⟨.bl false,H1,I1,rfl,q1⟩
theorem pe_or(ha:PE X a ta)(hb:PE X (.BoolOp .Or (b::uV) pos) tb):PE X (.BoolOp .Or (a::b::uV) pos) (tOrV ta tb):=by
 intro b9 s σ H Q I h;refine BoolOp_or (thn (ha b9 s σ H _ I h) fun v s1 ⟨x,H1,I1,r1,q1⟩=>?_);obtain⟨c,rfl,q1⟩:=q1;cases r1;refine fO ?_;cases c with
 | false=>exact hb b9 s1 σ H1 Q I1 q1
 | true=>exact⟨.bl true,H1,I1,rfl,q1⟩
theorem pe_not(ha:PE X a ta):PE X (.UnaryOp .Not a pos) (tNotV ta):=by
 intro b9 s σ H Q I h;refine UnaryOp_ (thn (ha b9 s σ H _ I h) fun v s1 ⟨x,H1,I1,r1,q1⟩=>?_);obtain⟨c,rfl,q1⟩:=q1;cases r1;exact not_of (fO ⟨.bl (!c),H1,I1,rfl,q1⟩)
noncomputable def tIf(t:TT)(ta tb:TE):TE:=fun σ H Q=>t σ H fun c H1=>if c=true then ta σ H1 Q else tb σ H1 Q
theorem zB(hc:PT X c tA)(ha:PE X a ta)(hb:PE X b tb):PE X (.IfExp c a b pos) (tIf tA ta tb):=by
 intro b9 s σ H Q I h;refine wpAny_IfExp (thn (hc b9 s σ H _ I h) fun d s1 ⟨H1,I1,q1⟩=>?_);cases d with
 | true=>exact ha b9 s1 σ H1 Q I1 q1
 | false=>exact hb b9 s1 σ H1 Q I1 q1
end
noncomputable def SqL(K:PySem.W.Frag)(H:Hp)(a:Addr)(xs:List V):Prop :=
 Rd H a (.lst xs) \/
  ∃ (o:Obj) (its:Array Value) (n:Nat),K.lookup a=some o/\o.cls=.type "list"/\o.dict=none/\o.data=.seq its n/\its.size<=dL/\iH xs its.toList
noncomputable def SqT(K:PySem.W.Frag)(H:Hp)(a:Addr)(xs:List V):Prop :=
 Rd H a (.tup xs) \/
  ∃ (o:Obj) (its:Array Value) (n:Nat),K.lookup a=some o/\o.cls=.type "tuple"/\o.data=.seq its n/\its.size<=dL/\iH xs its.toList
noncomputable def absV:Value->Option V
 | .none=>some .non
 | .bool b=>some (.bl b)
 | .int i _=>some (.int i)
 | .str x _=>some (.str x)
 | .bytes b _=>some (.byt b)
 | .float b _=>some (.flt b)
 | .ref a=>some (.ref a)
 | .type n=>some (.ty n)
 | _=>none
theorem g9.abs(r:g9 x u):absV u=some x:=by
 cases x with
 | non=>cases r;rfl
 | bl _=>cases r;rfl
 | int _=>obtain⟨t,rfl⟩:=r;rfl
 | str _=>obtain⟨t,rfl⟩:=r;rfl
 | byt _=>obtain⟨t,rfl⟩:=r;rfl
 | flt _=>obtain⟨t,rfl⟩:=r;rfl
 | ref _=>cases r;rfl
 | ty _=>cases r;rfl
theorem g9.inj(r:g9 x u)(q:g9 y u):x=y:=Option.some.inj (r.abs.symm.trans q.abs)
theorem iH.inj:∀ {xs ys:List V} {us:List Value},iH xs us->iH ys us->xs=ys
 | _,_,_,.nil,.nil=>rfl
 | _,_,_,.cons r t,.cons r' t'=>by rw [r.inj r',iH.inj t t']
section
variable {X:Cx}{b9:List (Addr×Obj)}{σ:St}{H:Hp}{s:Shared}{a:Addr}{xs ys:List V}
theorem SqL.of{K:PySem.W.Frag}(h:H a=some (.lst xs)):SqL K H a xs:=.inl (.inl h)
theorem SqT.of{K:PySem.W.Frag}(h:H a=some (.tup xs)):SqT K H a xs:=.inl (.inl h)
theorem Inv.list(I:Inv X b9 σ H s)(h:SqL X.K H a xs):∃ its:List Value,iH xs its/\PlainL s.heap a its.toArray/\xs.length<=dL:=by
 rcases h with h|⟨o,its,n,hk,hc,hd,hs,hz,r⟩
 ·obtain⟨z,its,n,r,e⟩:=h.ok I.hok;exact⟨its,r,⟨_,n,e,rfl,rfl,rfl⟩,z⟩
 ·exists its.toList,r,⟨o,n,I.kIn a o hk,hc,hd,by simpa using hs⟩
  have e:=r.length;simp only [jY] at e;omega
theorem Inv.tuple(I:Inv X b9 σ H s)(h:SqT X.K H a xs):∃ its:List Value,iH xs its/\IsTup s.heap a its.toArray/\xs.length<=dL:=by
 rcases h with h|⟨o,its,n,hk,hc,hs,hz,r⟩
 ·obtain⟨z,its,r,p⟩:=h.ok I.hok;exact⟨its,r,p,z⟩
 ·exists its.toList,r,⟨o,I.kIn a o hk,hc,n,by simpa using hs⟩
  have e:=r.length;simp only [jY] at e;omega
theorem Inv.list_inj(I:Inv X b9 σ H s)(h:SqL X.K H a xs)(h':SqL X.K H a ys):xs=ys:=by
 obtain⟨its,r,⟨o,n,e,_,_,d⟩,_⟩:=I.list h;obtain⟨its',r',⟨o',n',e',_,_,d'⟩,_⟩:=I.list h';rw [e] at e';cases e';rw [d] at d';injection d' with d1 _;have:its=its':=by simpa using congrArg Array.toList d1
 subst this;exact r.inj r'
theorem Inv.tuple_inj(I:Inv X b9 σ H s)(h:SqT X.K H a xs)(h':SqT X.K H a ys):xs=ys:=by
 obtain⟨its,r,⟨o,e,_,n,d⟩,_⟩:=I.tuple h;obtain⟨its',r',⟨o',e',_,n',d'⟩,_⟩:=I.tuple h';rw [e] at e';cases e';rw [d] at d';injection d' with d1 _;have:its=its':=by simpa using congrArg Array.toList d1
 subst this;exact r.inj r'
end
noncomputable abbrev Cx.wish(X:Cx)(E:Value->Shared->Prop):Cx:={ X with xe:=E }
noncomputable abbrev Cx.nox(X:Cx):Cx:=X.wish fun _ _=>False
theorem Cx.Ok.wish{X:Cx}(ok:X.Ok)(E:Value->Shared->Prop):(X.wish E).Ok :=
 ⟨ok.mod,ok.kind,ok.glob,ok.blt,ok.above,ok.inj,ok.has,ok.cab,ok.hd,ok.frames,ok.stk,ok.exf,ok.bs,ok.bsz,ok.noex,ok.exfs,ok.funs,ok.frf⟩
theorem Cx.Ok.unwish{X:Cx}{E:Value->Shared->Prop}(ok:(X.wish E).Ok):X.Ok :=
 ⟨ok.mod,ok.kind,ok.glob,ok.blt,ok.above,ok.inj,ok.has,ok.cab,ok.hd,ok.frames,ok.stk,ok.exf,ok.bs,ok.bsz,ok.noex,ok.exfs,ok.funs,ok.frf⟩
section
variable {X:Cx}{b9:List (Addr×Obj)}{σ:St}{H:Hp}{s:Shared}{E:Value->Shared->Prop}
theorem Inv.wish(I:Inv X b9 σ H s)(E:Value->Shared->Prop):Inv (X.wish E) b9 σ H s:=⟨I.ok.wish E,I.os,I.bare,I.base,I.loc,I.cell,I.free,I.freeC,I.pin,I.hok,I.len⟩
theorem Inv.unwish(I:Inv (X.wish E) b9 σ H s):Inv X b9 σ H s:=⟨I.ok.unwish,I.os,I.bare,I.base,I.loc,I.cell,I.free,I.freeC,I.pin,I.hok,I.len⟩
theorem SP.unwish(h:SP (X.wish E) b9 D f s'):SP X b9 D f s':=by
 cases f with
 | next=>obtain⟨σ',H',I,q⟩:=h;exact⟨σ',H',I.unwish,q⟩
 | brk=>obtain⟨σ',H',I,q⟩:=h;exact⟨σ',H',I.unwish,q⟩
 | cont=>obtain⟨σ',H',I,q⟩:=h;exact⟨σ',H',I.unwish,q⟩
 | ret u=>obtain⟨v,σ',H',I,r,q⟩:=h;exact⟨v,σ',H',I.unwish,r,q⟩
theorem PSs.nox{st:List Stmt}{t:TS}(h:PSs X.nox st t):PSs X st t:=fun b9 s σ H D I hw =>
 e8 (h b9 s σ H D (I.wish _) hw) (fun _ _ q=>q.unwish) fun _ _ z=>False.elim z
end
section
variable {X:Cx}{st:Stmt}{uV:List Stmt}{t u:TS}{e:Expr}{te:TE}{pos:Pos}
noncomputable def tNext:TS:=fun D σ H=>D.nx σ H
noncomputable def tSeq(t u:TS):TS:=fun D σ H=>t { D with nx:=u D } σ H
theorem iM:PSs X [] tNext:=fun _ _ σ H _ I h=>lM ⟨σ,H,I,h⟩
theorem eE(h1:PS X st t)(h2:PSs X uV u):PSs X (st::uV) (tSeq t u):=by
 intro b9 s σ H D I h;refine wpAny_execs_cons (thn (h1 b9 s σ H { D with nx:=u D } I h) fun f s1 q=>?_);cases f with
 | next =>
   obtain⟨σ',H',I',q⟩:=q;exact h2 b9 s1 σ' H' D I' q
 | ret v=>exact q
 | brk=>exact q
 | cont=>exact q
theorem eI(h1:PS X st t):PSs X [st] t:=by
 intro b9 s σ H D I h;refine wpAny_execs_cons (thn (h1 b9 s σ H D I h) fun f s1 q=>?_);cases f with
 | next=>exact lM q
 | ret v=>exact q
 | brk=>exact q
 | cont=>exact q
theorem Inv.quiet(I:Inv X b9 σ H s):interactive X.env=false:=by simp [interactive,I.ok.kind]
noncomputable def tDrop(te:TE):TS:=fun D σ H=>te σ H fun _ H1=>D.nx σ H1
theorem jU(he:PE X e te)(hs:lY e none pos.line X.env=pure false:=by rfl):PS X (.Expr e pos) (tDrop te):=by
 intro b9 s σ H D I h;exact wpAny_Expr_any (thn (he b9 s σ H _ I h) fun v s1 ⟨x,H1,I1,r1,q1⟩=>⟨σ,H1,I1,q1⟩) I.quiet hs
noncomputable def tRet(te:TE):TS:=fun D σ H=>te σ H D.rt
theorem gB(he:PE X e te):PS X (.Return (some e) pos) (tRet te):=by
 intro b9 s σ H D I h;exact wpAny_Return_some (thn (he b9 s σ H _ I h) fun v s1 ⟨x,H1,I1,r1,q1⟩=>⟨x,σ,H1,I1,r1,q1⟩)
noncomputable def tIfS(c:TT)(t u:TS):TS:=fun D σ H=>c σ H fun b H1=>if b=true then t D σ H1 else u D σ H1
theorem iK(hc:PT X c tc)(ha:PSs X a t)(hb:PSs X b u):PS X (.If c a b pos) (tIfS tc t u):=by
 intro b9 s σ H D I h;refine wpAny_If (thn (hc b9 s σ H _ I h) fun d s1 ⟨H1,I1,q1⟩=>?_);cases d with
 | true=>exact ha b9 s1 σ H1 D I1 q1
 | false=>exact hb b9 s1 σ H1 D I1 q1
noncomputable def tNever:TS:=fun _ _ _=>False
theorem mV:PS X st tNever:=fun _ _ _ _ _ _ h=>h.elim
end
noncomputable abbrev TG:=V->St->Hp->(St->Hp->Prop)->Prop
noncomputable abbrev TGs:=List V->St->Hp->(St->Hp->Prop)->Prop
noncomputable def PG(X:Cx)(qG:Expr)(t:TG):Prop :=
 ∀ (b9:List (Addr×Obj)) (s:Shared) (σ:St) (H:Hp) (v:V) (u:Value) (Q:St->Hp->Prop),Inv X b9 σ H s->g9 v u->t v σ H Q ->
  dM (dQ X.prog X.w) X.A (mK qG X.env u) (fun _ s'=>∃ σ' H',Inv X b9 σ' H' s'/\Q σ' H') X.xe s
noncomputable def PGs(X:Cx)(ts:List Expr)(t:TGs):Prop :=
 ∀ (b9:List (Addr×Obj)) (s:Shared) (σ:St) (H:Hp) (vs:List V) (us:List Value) (Q:St->Hp->Prop),Inv X b9 σ H s->iH vs us->t vs σ H Q ->
  dM (dQ X.prog X.w) X.A (assignInOrder ((oG ts X.env).map (·.2)) us) (fun _ s'=>∃ σ' H',Inv X b9 σ' H' s'/\Q σ' H') X.xe s
noncomputable abbrev TSet:=V->V->V->Hp->(Hp->Prop)->Prop
noncomputable def PSet(X:Cx)(t:TSet):Prop :=
 ∀ (b9:List (Addr×Obj)) (s:Shared) (σ:St) (H:Hp) (o i v:V) (ov iv u:Value) (Q:Hp->Prop),Inv X b9 σ H s->g9 o ov->g9 i iv->g9 v u->t o i v H Q ->
  dM (dQ X.prog X.w) X.A (setItem ov iv u) (fun _ s'=>∃ H',Inv X b9 σ H' s'/\Q H') X.xe s
noncomputable abbrev TIp:=V->V->Hp->VK->Prop
noncomputable def PIp(X:Cx)(op:Operator)(t:TIp):Prop :=
 ∀ (b9:List (Addr×Obj)) (s:Shared) (σ:St) (H:Hp) (x y:V) (v u:Value) (Q:VK),Inv X b9 σ H s->g9 x v->g9 y u->t x y H Q ->
  dM (dQ X.prog X.w) X.A (inplaceOp op v u) (EP X b9 σ Q) X.xe s
section
variable {X:Cx}{pos:Pos}
noncomputable def vK(i:Nat):TG:=fun v σ H Q=>Q (σ.set i (some v)) H
theorem jGO(hN:X.N.Nodup)(hi:X.N[i]?=some x)(hx:Loc X.env.scope x)(hf:X.fn x=true\/X.env.scope.names.lookup x=some .local:=by first|exact .inl rfl|exact .inr rfl|assumption):PG X (.Name x pos) (vK i):=by
 intro b9 s σ H v u Q I r h;exact sI (jFl I hN hi hx r (fun s' I'=>⟨_,H,I',h⟩) hf)
noncomputable def gNil:TGs:=fun vs σ H Q=>vs=[]/\Q σ H
inductive jKu(t:TG)(u:TGs)(vs:List V)(σ:St)(H:Hp)(Q:St->Hp->Prop):Prop|mk v r:vs=v::r->(t v σ H fun σ' H'=>u r σ' H' Q)->jKu t u vs σ H Q
theorem jDl:PGs X [] gNil:=by
 intro b9 s σ H vs us Q I r h;obtain⟨e,h⟩:=h;subst e;cases r;exact assignInOrder_nil ⟨σ,H,I,h⟩
theorem vN(h1:PG X e t)(h2:PGs X es u) 
 (hs:(oG (e::es) X.env).map (·.2)=mK e X.env::(oG es X.env).map (·.2):=by rfl):PGs X (e::es) (jKu t u):=by
 intro b9 s σ H vs us Q I r h;obtain⟨v,vr,e1,h⟩:=h;subst e1;cases r with
 | cons r rr =>
   rw [hs];refine assignInOrder_cons (thn (h1 b9 s σ H _ _ _ I r h) fun _ s1 ⟨σ1,H1,I1,q1⟩=>?_);exact h2 b9 s1 σ1 H1 _ _ Q I1 rr q1
inductive gTup(K:PySem.W.Frag)(n:Nat)(t:TGs)(v:V)(σ:St)(H:Hp)(Q:St->Hp->Prop):Prop|mk a xs:v=.ref a->SqT K H a xs->xs.length=n->t xs σ H Q->gTup K n t v σ H Q
theorem jD8(hc:X.calm=true)(h:PGs X es t) 
 (hn:(oG es X.env).length=n:=by rfl) (uW:(oG es X.env).findIdx? (·.1)=none:=by rfl):PG X (.Tuple es k pos) (gTup X.K n t):=by
 intro b9 s σ H v u Q I r hw;obtain⟨a,xs,e1,hq,hl,hw⟩:=hw;subst e1;cases r;obtain⟨its,rv,ht,hz⟩:=I.tuple hq;refine assign_Tuple_tuple (I.ok.hd hc) ht (by simp [hn,<- hl,rv.length]) uW fun h' hx=>?_;have I1:Inv X b9 σ H { s with heap:=h' }:=I.kept (t':=s.toks) fun b o e=>hx b o (eV (d0 e)) e;exact h b9 _ σ H xs _ Q I1 (by simpa using rv) hw
noncomputable def gSub(to ti:TE)(t:TSet):TG:=fun v σ H Q=>to σ H fun o H1=>ti σ H1 fun i H2=>t o i v H2 fun H3=>Q σ H3
theorem pg_sub(ho:PE X o to)(hi:PE X i ti)(hs:PSet X t) 
 (ha:∀ v,mK (.Subscript o i pos) X.env v=(do
  let ov <- jW [v] (fA o X.env);let iv <- jW [v,ov] (fA i X.env)
  kY pos
  jW [v,ov,iv] (setItem ov iv v)
  release [v,ov,iv] []):=by intro _;rfl):PG X (.Subscript o i pos) (gSub to ti t):=by
 intro b9 s σ H v u Q I r h;rw [ha];refine c8 (gW (thn (ho b9 s σ H _ I h) fun ov s1 ⟨x,H1,I1,r1,q1⟩=>?_));refine c8 (gW (thn (hi b9 s1 σ H1 _ I1 q1) fun iv s2 ⟨y,H2,I2,r2,q2⟩=>?_));refine c8 (iT (c8 (gW (thn (hs b9 s2 σ H2 x y v ov iv u _ I2 r1 r2 r q2) fun _ s3 ⟨H3,I3,q3⟩=>?_))));exact wpAny_release ⟨σ,H3,I3,q3⟩
noncomputable def tAsg(te:TE)(g:TG):TS:=fun D σ H=>te σ H fun x H1=>g x σ H1 D.nx
theorem ps_asg(he:PE X e te)(hg:PG X tg g)(hs:swapsWithSole [tg] e pos.line X.env=pure false:=by rfl)(hw:swappedStores [tg] e X.env=pure none:=by rfl) 
 (h1:(oG [tg] X.env).map (·.2)=[mK tg X.env]:=by rfl):PS X (.Assign [tg] e pos) (tAsg te g):=by
 intro b9 s σ H D I h;refine wpAny_Assign_stores (thn (he b9 s σ H _ I h) fun v s1 ⟨x,H1,I1,r1,q1⟩=>?_) hs hw;rw [h1];exact thn (hg b9 s1 σ H1 x v _ I1 r1 q1) fun _ s2 q=>q
theorem ps_set(hN:X.N.Nodup)(hi:X.N[i]?=some x)(hx:Loc X.env.scope x)(he:PE X e te)(hs:lY e (some (.Name x o6)) pos.line X.env=pure false:=by rfl)(hf:X.fn x=true\/X.env.scope.names.lookup x=some .local:=by first|exact .inl rfl|exact .inr rfl|assumption) :
 PS X (.Assign [.Name x o6] e pos) (tAsg te (vK i)):=by
 intro b9 s σ H D I h;refine wpAny_Assign_Name (thn (he b9 s σ H _ I h) fun v s1 ⟨y,H1,I1,r1,q1⟩=>?_) hs;exact jFl I1 hN hi hx r1 (fun s2 I2=>⟨_,H1,I2,q1⟩) hf
noncomputable def ipI(f:Int->Int->Int):TIp:=fun x y H Q=>∃ i j,x=.int i/\y=.int j/\Q (.int (f i j)) H
theorem ip_add:PIp X .Add (ipI fun i j=>i+j):=by
 intro b9 s σ H x y v u Q I r1 r2 h;obtain⟨i,j,e1,e2,q⟩:=h;subst e1;subst e2;obtain⟨t,rfl⟩:=r1;obtain⟨t',rfl⟩:=r2;exact iadd_int ⟨.int _,H,I.tok _,⟨_,rfl⟩,q⟩
noncomputable def tWhile(c:TT)(tb:TS):TS:=fun D σ H=>∃ W:Nat->St->Hp->Prop,(∃ m,W m σ H)/\∀ m σ H,W m σ H ->
 c σ H fun b H1=>if b=true then ∃ N:St->Hp->Prop,(∀ σ' H',N σ' H'->∃ m',m'<m/\W m' σ' H')/\tb { D with nx:=N,ct:=N,bk:=D.nx } σ H1 else D.nx σ H1
theorem jFm(hp:PassesOwn (dQ X.prog X.w) X.A X.env X.xe)(hc:PT X c tc)(hb:PSs X body tb):PS X (.While c body [] pos) (tWhile tc tb):=by
 intro b9 s σ H D I h;obtain⟨W,⟨m0,w0⟩,uQ⟩:=h;refine wpAny_While (codeAny_whileLoop (fun n s'=>∃ σ' H',Inv X b9 σ' H' s'/\W n σ' H') ?_ m0 ⟨σ,H,I,w0⟩);rintro n s1 ⟨σ1,H1,I1,w1⟩;refine jC hp (thn (hc b9 s1 σ1 H1 _ I1 (uQ n σ1 H1 w1)) fun b s2 ⟨H2,I2,q2⟩=>?_);cases b with
 | true =>
   obtain⟨N,hN,q2⟩:=q2;rw [if_pos rfl];refine jC hp (thn (hb b9 s2 σ1 H2 _ I2 q2) fun f s3 q3=>?_);cases f with
   | next =>
     obtain⟨σ3,H3,I3,n3⟩:=q3;obtain⟨m',hm,w3⟩:=hN σ3 H3 n3;exact⟨m',hm,σ3,H3,I3,w3⟩
   | cont =>
     obtain⟨σ3,H3,I3,n3⟩:=q3;obtain⟨m',hm,w3⟩:=hN σ3 H3 n3;exact⟨m',hm,σ3,H3,I3,w3⟩
   | brk=>exact q3
   | ret v=>exact q3
 | false =>
   rw [if_neg Bool.false_ne_true];exact lM ⟨σ1,H2,I2,q2⟩
end
structure It where
 go:Nat->Hp->Prop
 yld:Nat->Hp->V->Hp->Prop
 stop:Nat->Hp->Prop
noncomputable def xU(X:Cx)(b9:List (Addr×Obj))(H:Hp)(b:Addr):Prop :=
 H b=none/\b≠X.env.locals/\b ∉ X.fs/\(b∈X.ex\/X.s₀.heap.objs.size<=b)/\(∀ x c,X.env.cells.lookup x=some c->c≠b)/\∀ p∈X.pn++b9,p.1≠b
theorem Inv.fpOk(I:Inv X b9 σ H s)(hb:s.heap.objs.size<=b)(hn:H' b=none):xU X b9 H' b:=by
 refine⟨hn,iJ (lt_of_lt_of_le I.lt hb),I.nofs hb,.inr (eM I.sz hb),fun x c e z=>?_,fun p hp z=>?_⟩
 ·obtain⟨v,q⟩:=I.cell x c e;exact absurd (lt_of_lt_of_le q.lt (by rw [z];exact hb)) (gU _)
 ·exact absurd (lt_of_lt_of_le (d0 (I.pin p hp).1) (by rw [z];exact hb)) (gU _)
structure xT(P:Program)(w:World)(K:PySem.W.Frag)(tg:Expr)(J:It)(fp:List Addr)(it:Addr)(tn:Nat->Heap->Prop):Prop where
 mem:it∈fp
 obj:∀ i h,tn i h->∀ b∈fp,∃ o,h.get? b=some o/\∀ v,o.data≠.cell v
 keep:∀ i h h',tn i h->(∀ b∈fp,∀ o,h.get? b=some o->h'.get? b=some o)->tn i h'
 item:∀ (X:Cx),X.prog=P->X.w=w->X.K=K->X.calm=true->∀ (i:Nat) (b9:List (Addr×Obj)) (s:Shared) (σ:St) (H:Hp) (E:Value->Shared->Prop),Inv X b9 σ H s->(∀ b∈fp,xU X b9 H b)->tn i s.heap->J.go i H ->
  dM (dQ P w) X.A (rE (.ref it)) (fun r s1=>∃ u,r=some u /\
   dM (dQ P w) X.A (oO tg (.ref it) u) (fun _ s2=>∃ x H',Inv X b9 σ H' s2/\g9 x u/\J.yld i H x H'/\tn (i+1) s2.heap/\∀ b∈fp,H' b=none) E s1) E s
 done:∀ (X:Cx),X.prog=P->X.w=w->X.K=K->X.calm=true->∀ (i:Nat) (b9:List (Addr×Obj)) (s:Shared) (σ:St) (H:Hp) (E:Value->Shared->Prop),Inv X b9 σ H s->(∀ b∈fp,xU X b9 H b)->tn i s.heap->J.stop i H ->
  dM (dQ P w) X.A (rE (.ref it)) (fun r s1=>r=none/\Inv X b9 σ H s1) E s
 self:∀ (A:Around) (i:Nat) (s:Shared) (Q:Value->Shared->Prop) (E:Value->Shared->Prop),tn i s.heap->Q (.ref it) s->dM (dQ P w) A (pyIter (.ref it)) Q E s
noncomputable abbrev TI:=St->Hp->(It->Hp->Prop)->Prop
noncomputable def PIE(X:Cx)(b9:List (Addr×Obj))(σ:St)(tg:Expr)(R:It->Hp->Prop)(itv:Value)(s2:Shared):Prop :=
 ∃ (it:Addr) (fp:List Addr) (tn:Nat->Heap->Prop) (J:It) (H':Hp),itv=.ref it/\Inv X b9 σ H' s2/\xT X.prog X.w X.K tg J fp it tn/\tn 0 s2.heap/\(∀ b∈fp,xU X b9 H' b)/\R J H'
noncomputable def PI(X:Cx)(tg j8:Expr)(wi:TI):Prop :=
 ∀ (b9:List (Addr×Obj)) (s:Shared) (σ:St) (H:Hp) (R:It->Hp->Prop),Inv X b9 σ H s->wi σ H R ->
  dM (dQ X.prog X.w) X.A (fA j8 X.env) (fun v s1=>dM (dQ X.prog X.w) X.A (pyIter v) (PIE X b9 σ tg R) X.xe s1) X.xe s
theorem jFn(ho:s.heap.get? it=some o)(hc:o.cls=.type n)(hd:o.data=.fields vs) 
 (hn:["enumerate","zip","dict_itemiterator","dict_reverseitemiterator","odict_iterator","itertools.zip_longest","itertools.pairwise"].contains n=false) (hQ:Q () s):dM M A (oO tg (.ref it) u) Q E s:=by
 unfold oO;cases tg<;>first
  | exact dP hQ
  | (cases u<;>first
   | exact dP hQ
   | (refine c8 (wpAny_load ho ?_)
      rw [hc,hd];show dM M A (if (["enumerate","zip","dict_itemiterator","dict_reverseitemiterator","odict_iterator","itertools.zip_longest","itertools.pairwise"].contains n&&vs[0]?==some (jE _))=true then _ else _) Q E s;rw [if_neg (by intro h;rw [hn,Bool.false_and] at h;cases h)]
      exact dP hQ))
noncomputable def Itl(K:PySem.W.Frag)(a:Addr):It :=
 ⟨fun i H=>∃ xs x,SqL K H a xs/\xs[i]?=some x,fun i H x H'=>H'=H/\∀ xs,SqL K H a xs->xs[i]?=some x,fun i H=>∃ xs,SqL K H a xs/\xs.length<=i⟩
noncomputable def Itt(K:PySem.W.Frag)(a:Addr):It :=
 ⟨fun i H=>∃ xs x,SqT K H a xs/\xs[i]?=some x,fun i H x H'=>H'=H/\∀ xs,SqT K H a xs->xs[i]?=some x,fun i H=>∃ xs,SqT K H a xs/\xs.length<=i⟩
noncomputable def Itr(lo:Int)(n:Nat):It:=⟨fun i _=>i<n,fun i H x H'=>H'=H/\x=.int (lo+i),fun i _=>n<=i⟩
theorem jN7{P:Program}{w:World}{K:PySem.W.Frag}{tg:Expr}(a it:Addr):xT P w K tg (Itl K a) [it] it (fun i h=>h.IsListIter it a i) where
 mem:=by simp
 obj:=fun i h st b hb=>by
  have e:b=it:=by simpa using hb
  subst e;obtain⟨o,e,c,d⟩:=st;exact⟨o,e,fun v z=>by rw [d] at z;cases z⟩
 keep:=fun i h h' st k=>st.at fun o e=>k it (by simp) o e
 item:=by
  intro X hP hw hK hc i b9 s σ H E I hf st hg;subst hP hw hK;obtain⟨xs,x,hq,hx⟩:=hg;obtain⟨its,rv,p,hz⟩:=I.list hq;obtain⟨u,hu,ru⟩:=rv.get hx;obtain⟨f0,f1,f2,f3,f4,f5⟩:=hf it (by simp);refine zY st p.isList (x:=u) (by simpa using hu) fun h' pL sb=>?_;have I1:Inv X b9 σ H { s with heap:=h' }:=I.turned (t':=s.toks) (fun b o hb e=>(sb.2 b hb).trans e) f0 f1 f3 f4 f5;obtain⟨o,e,c,d⟩:=id pL;exact⟨u,rfl,jFn (s:={ s with heap:=h' }) e c d (by decide) ⟨x,H,I1,ru,⟨rfl,fun ys hy=>by rw [I.list_inj hy hq];exact hx⟩,pL,fun b hb=>(hf b hb).1⟩⟩
 done:=by
  intro X hP hw hK hc i b9 s σ H E I hf st hg;subst hP hw hK;obtain⟨xs,hq,hx⟩:=hg;obtain⟨its,rv,p,hz⟩:=I.list hq;obtain⟨f0,f1,f2,f3,f4,f5⟩:=hf it (by simp);have hl:=rv.length;exact z8 (I.ok.hd hc) st p.isList (by simp;omega) fun h' eb=>⟨rfl,I.turned (t':=s.toks) (fun b o hb e=>eb b o hb e) f0 f1 f3 f4 f5⟩
 self:=fun _ _ _ _ _ st h=>wpAny_pyIter_listiter st h
theorem jNh{P:Program}{w:World}{K:PySem.W.Frag}{tg:Expr}(a it:Addr):xT P w K tg (Itt K a) [it] it (fun i h=>h.IsTupleIter it a i) where
 mem:=by simp
 obj:=fun i h st b hb=>by
  have e:b=it:=by simpa using hb
  subst e;obtain⟨o,e,c,d⟩:=st;exact⟨o,e,fun v z=>by rw [d] at z;cases z⟩
 keep:=fun i h h' st k=>st.at fun o e=>k it (by simp) o e
 item:=by
  intro X hP hw hK hc i b9 s σ H E I hf st hg;subst hP hw hK;obtain⟨xs,x,hq,hx⟩:=hg;obtain⟨its,rv,p,hz⟩:=I.tuple hq;obtain⟨u,hu,ru⟩:=rv.get hx;obtain⟨f0,f1,f2,f3,f4,f5⟩:=hf it (by simp);refine wpAny_pyNext_tuple_item st (show s.heap.IsTuple a its.toArray from p) (x:=u) (by simpa using hu) fun h' pL sb=>?_;have I1:Inv X b9 σ H { s with heap:=h' }:=I.turned (t':=s.toks) (fun b o hb e=>(sb.2 b hb).trans e) f0 f1 f3 f4 f5;obtain⟨o,e,c,d⟩:=id pL;exact⟨u,rfl,jFn (s:={ s with heap:=h' }) e c d (by decide) ⟨x,H,I1,ru,⟨rfl,fun ys hy=>by rw [I.tuple_inj hy hq];exact hx⟩,pL,fun b hb=>(hf b hb).1⟩⟩
 done:=by
  intro X hP hw hK hc i b9 s σ H E I hf st hg;subst hP hw hK;obtain⟨xs,hq,hx⟩:=hg;obtain⟨its,rv,p,hz⟩:=I.tuple hq;obtain⟨f0,f1,f2,f3,f4,f5⟩:=hf it (by simp);have hl:=rv.length;exact wpAny_pyNext_tuple_end (I.ok.hd hc) st (show s.heap.IsTuple a its.toArray from p) (by simp;omega) fun h' eb=>⟨rfl,I.turned (t':=s.toks) (fun b o hb e=>eb b o hb e) f0 f1 f3 f4 f5⟩
 self:=fun _ _ _ _ _ st h=>wpAny_pyIter_tupleiter st h
theorem jNi{P:Program}{w:World}{K:PySem.W.Frag}{tg:Expr}(it:Addr)(lo:Int)(n:Nat):xT P w K tg (Itr lo n) [it] it (fun i h=>IsRangeIter h it (lo+(i:Nat)*1) ((n:Int)-(i:Nat)) 1) where
 mem:=by simp
 obj:=fun i h st b hb=>by
  have e:b=it:=by simpa using hb
  subst e
  exact⟨_,st,fun v z=>by
   have z':Data.fields _=Data.cell v:=z
   cases z'⟩
 keep:=fun i h h' st k=>k it (by simp) _ st
 item:=by
  intro X hP hw hK hc i b9 s σ H E I hf st hg;subst hP hw hK;obtain⟨f0,f1,f2,f3,f4,f5⟩:=hf it (by simp);have W:=Walks.range (prog:=X.prog) (w:=X.w) (I.ok.hd hc) it lo 1 n;refine W.item i s _ _ hg st fun v h' tk hv pL kk=>?_;obtain⟨t,rfl⟩:=hv;have I1:Inv X b9 σ H { s with heap:=h',toks:=tk }:=I.turned (fun b o hb e=>kk b o (by simpa using hb) e) f0 f1 f3 f4 f5;refine⟨_,rfl,jFn (s:={ s with heap:=h',toks:=tk }) (n:="range_iterator") pL rfl rfl (by decide) ⟨.int (lo+i),H,I1,⟨t,?_⟩,⟨rfl,rfl⟩,pL,fun b hb=>(hf b hb).1⟩⟩;rw [Int.mul_one]
 done:=by
  intro X hP hw hK hc i b9 s σ H E I hf st hg;subst hP hw hK;obtain⟨f0,f1,f2,f3,f4,f5⟩:=hf it (by simp);exact zX (I.ok.hd hc) st (by have:n<=i:=hg;omega) fun h' eb=>⟨rfl,I.turned (t':=s.toks) (fun b o hb e=>eb b o hb e) f0 f1 f3 f4 f5⟩
 self:=fun _ _ _ _ _ st h=>zZ st h
section
variable {X:Cx}{tg:Expr}
inductive jN8(K:PySem.W.Frag)(R:It->Hp->Prop)(x:V)(H1:Hp):Prop|mk a:x=.ref a->(∃ xs,SqL K H1 a xs)->R (Itl K a) H1->jN8 K R x H1
noncomputable def iList(K:PySem.W.Frag)(tl:TE):TI:=fun σ H R=>tl σ H fun x H1=>jN8 K R x H1
inductive IiTup(K:PySem.W.Frag)(R:It->Hp->Prop)(x:V)(H1:Hp):Prop|mk a:x=.ref a->(∃ xs,SqT K H1 a xs)->R (Itt K a) H1->IiTup K R x H1
noncomputable def iTup(K:PySem.W.Frag)(tl:TE):TI:=fun σ H R=>tl σ H fun x H1=>IiTup K R x H1
theorem oW{l:Expr}{tl:TE}(hl:PE X l tl):PI X tg l (iList X.K tl):=by
 intro b9 s σ H R I h;refine thn (hl b9 s σ H _ I h) fun v s1 ⟨x,H1,I1,r1,q1⟩=>?_;obtain⟨a,e,⟨xs,hq⟩,q⟩:=q1;subst e;cases r1;obtain⟨its,rv,p,hz⟩:=I1.list hq;refine iN p.isList ?_;refine⟨s1.heap.objs.size,[s1.heap.objs.size],_,_,H1,rfl,I1.kept (t':=s1.toks) fun b o e=>get?_push_of_some _ e,jN7 a _,⟨_,get?_push_size _ rfl,rfl,rfl⟩,fun b hb=>?_,q⟩;have e:b=s1.heap.objs.size:=by simpa using hb
 subst e;exact I1.fpOk (Nat.le_refl _) (I1.hok.fresh (Nat.le_refl _))
theorem jH4{l:Expr}{tl:TE}(hl:PE X l tl):PI X tg l (iTup X.K tl):=by
 intro b9 s σ H R I h;refine thn (hl b9 s σ H _ I h) fun v s1 ⟨x,H1,I1,r1,q1⟩=>?_;obtain⟨a,e,⟨xs,hq⟩,q⟩:=q1;subst e;cases r1;obtain⟨its,rv,p,hz⟩:=I1.tuple hq;refine wpAny_pyIter_tuple (show s1.heap.IsTuple a its.toArray from p) ?_;refine⟨s1.heap.objs.size,[s1.heap.objs.size],_,_,H1,rfl,I1.kept (t':=s1.toks) fun b o e=>get?_push_of_some _ e,jNh a _,⟨_,get?_push_size _ rfl,rfl,rfl⟩,fun b hb=>?_,q⟩;have e:b=s1.heap.objs.size:=by simpa using hb
 subst e;exact I1.fpOk (Nat.le_refl _) (I1.hok.fresh (Nat.le_refl _))
theorem jKG{b9:List (Addr×Obj)}{σ:St}{H:Hp}{s:Shared}{R:It->Hp->Prop}{E:Value->Shared->Prop}{lo hi:Int}{t u v:Tok}{tk:Nat}(I:Inv X b9 σ H s)(h1:-(2^62)<=lo)(h2:lo<2^62)(h3:-(2^62)<=hi)(h4:hi<2^62)
 (q:R (Itr lo (hi-lo).toNat) H):dM (dQ X.prog X.w) X.A (pyIter (.ref s.heap.objs.size)) (PIE X b9 σ tg R) E { s with heap:=s.heap.push { cls:=.type "range",data:=.fields #[.int lo t,.int hi u,.int 1 v] },toks:=tk }:=by
 refine wpAny_pyIter_range (IsRange.new ..) (small_one h1 h2 h3 h4) ?_;have I1:Inv X b9 σ H { s with heap:=s.heap.push { cls:=.type "range",data:=.fields #[.int lo t,.int hi u,.int 1 v] },toks:=tk }:=I.kept fun b o e=>get?_push_of_some _ e
 refine⟨(s.heap.push { cls:=.type "range",data:=.fields #[.int lo t,.int hi u,.int 1 v] }).objs.size,[(s.heap.push { cls:=.type "range",data:=.fields #[.int lo t,.int hi u,.int 1 v] }).objs.size],_,_,H,rfl,
  I1.kept (t':=tk) fun b o e=>get?_push_of_some _ e,jNi _ lo (hi-lo).toNat,?_,fun b hb=>?_,q⟩
 ·have e1:lo+((0:Nat):Int)*1=lo:=by simp
  have e2:(((hi-lo).toNat:Nat):Int)-((0:Nat):Int)=Builtin.Range.rangeSize lo hi 1:=by rw [rangeSize_one];split<;>omega
  show IsRangeIter _ _ (lo+((0:Nat):Int)*1) ((((hi-lo).toNat:Nat):Int)-((0:Nat):Int)) 1;rw [e1,e2];exact get?_push_size _ rfl
 ·have e:b=(s.heap.push { cls:=.type "range",data:=.fields #[.int lo t,.int hi u,.int 1 v] }).objs.size:=by simpa using hb
  subst e;exact I1.fpOk (Nat.le_refl _) (I1.hok.fresh (Nat.le_refl _))
noncomputable def iRng1(ta:TA):TI:=fun σ H R=>ta σ H fun vs H1=>∃ j:Int,vs=[.int j]/\-(2^62)<=j/\j<2^62/\R (Itr 0 j.toNat) H1
noncomputable def iRng2(ta:TA):TI:=fun σ H R=>ta σ H fun vs H1=>∃ i j:Int,vs=[.int i,.int j]/\(-(2^62)<=i/\i<2^62/\-(2^62)<=j/\j<2^62)/\R (Itr i (j-i).toNat) H1
theorem jCD{a:Expr}{ta:TA}{p pos:Pos}(hg:Gl X "range")(hm:X.mg "range"=none)(ha:PA X [a] ta)(hs:dO [a] X.env=[(false,fA a X.env)]:=by rfl):PI X tg (.Call (.Name "range" p) [a] [] pos) (iRng1 ta):=by
 intro b9 s σ H R I h;refine Call_ (y7 I hg hm xF (PyProof.Rows.callWith_type1 (thn (ha pos b9 s σ H _ I h) fun us s1 ⟨vs,H1,I1,r1,q1⟩=>?_) hs rfl));obtain⟨j,e,q1,q2,q⟩:=q1;subst e;cases r1 with
 | cons r rr =>
   cases rr;obtain⟨t,rfl⟩:=r;exact call_range_1 (jKG I1 (by omega) (by omega) q1 q2 (by simpa using q))
theorem jN9(hg:Gl X "range")(hm:X.mg "range"=none)(ha:PA X [a,b] ta)(hs:dO [a,b] X.env=[(false,fA a X.env),(false,fA b X.env)]:=by rfl)(vY:dO [b] X.env=[(false,fA b X.env)]:=by rfl) :
 PI X tg (.Call (.Name "range" p) [a,b] [] pos) (iRng2 ta):=by
 intro b9 s σ H R I h;refine Call_ (y7 I hg hm xF (PyProof.Rows.callWith_type1 (thn (ha pos b9 s σ H _ I h) fun us s1 ⟨vs,H1,I1,r1,q1⟩=>?_) (by rw [hs,vY]) (by rw [vY];rfl)));obtain⟨i,j,e,⟨q1,q2,q3,q4⟩,q⟩:=q1;subst e;cases r1 with
 | cons r rr =>
   cases rr with
   | cons r' rr =>
     cases rr;obtain⟨t,rfl⟩:=r;obtain⟨t',rfl⟩:=r';exact call_range_2 (jKG I1 q1 q2 q3 q4 q)
noncomputable def tFor(wi:TI)(g:TG)(tb:TS):TS:=fun D σ H=>wi σ H fun J H1=>∃ W:Nat->Nat->St->Hp->Prop,(∃ m,W 0 m σ H1)/\∀ i m σ H,W i m σ H ->
 (J.stop i H/\D.nx σ H)\/(J.go i H/\∃ N:St->Hp->Prop,(∀ σ' H',N σ' H'->∃ m',m'<m/\W (i+1) m' σ' H')/\∀ x H',J.yld i H x H'->g x σ H' fun σ2 H2=>tb { D with nx:=N,ct:=N,bk:=D.nx } σ2 H2)
noncomputable def jE0(fp:List Addr)(h:Heap):List (Addr×Obj):=fp.filterMap fun b=>(h.get? b).map fun o=>(b,o)
theorem jCJ(hb:b∈fp)(e:h.get? b=some o):(b,o)∈jE0 fp h:=List.mem_filterMap.mpr ⟨b,hb,by rw [e];rfl⟩
theorem jN_(hp:p∈jE0 fp h):p.1∈fp/\h.get? p.1=some p.2:=by
 obtain⟨b,hb,e⟩:=List.mem_filterMap.mp hp;cases q:h.get? b with
 | none=>rw [q] at e;cases e
 | some o =>
   rw [q] at e;have e':(b,o)=p:=Option.some.inj e;subst e';exact⟨hb,q⟩
theorem Inv.pinned(I:Inv X b9 σ H s)(hf:∀ b∈fp,xU X b9 H b)(ho:∀ b∈fp,∃ o,s.heap.get? b=some o/\∀ v,o.data≠.cell v):Inv X (b9++jE0 fp s.heap) σ H s :=
 I.pins_of fun p hp=>(eN.mp hp).elim (fun z=>I.pin p (dH _ z)) fun z=>by
  obtain⟨hb,e⟩:=jN_ z;obtain⟨f0,f1,f2,_⟩:=hf p.1 hb;obtain⟨o,e',d⟩:=ho p.1 hb;rw [e] at e';cases e';exact⟨e,f0,f1,f2,d⟩
theorem Inv.unpinned(I:Inv X (b9++pl) σ H s):Inv X b9 σ H s:=I.pins_of fun p hp=>I.pin p (dH _ (eS _ hp))
theorem nY(hp:PassesOwn (dQ X.prog X.w) X.A X.env X.xe)(hc:X.calm=true)(hi:PI X tg j8 wi)(hg:PG X tg g)(hb:PSs X body tb) 
 (hs:∀ x,mW j8 X.env x=pure x:=by intro _;rfl):PS X (.For tg j8 body [] pos) (tFor wi g tb):=by
 intro b9 s σ H D I h;refine wpAny_For (thn (hi b9 s σ H _ I h) fun v s1 h1=>thn h1 fun itv s2 h2=>?_) hs;obtain⟨it,fp,tn,J,H2,e,I2,T,xJ,f2,W,⟨m0,w0⟩,uQ⟩:=h2;subst e
 -- what stays true of the iterator's objects through the loop
 have qH:∀ {H':Hp},(∀ b∈fp,H' b=none)->∀ b∈fp,xU X b9 H' b:=fun hn b hb=>⟨hn b hb,(f2 b hb).2⟩
 refine codeAny_forLoop_any (fun n s'=>∃ i σ' H',Inv X b9 σ' H' s'/\tn i s'.heap/\(∀ b∈fp,H' b=none)/\W i n σ' H') ?_ m0 ⟨0,σ,H2,I2,xJ,fun b hb=>(f2 b hb).1,w0⟩;rintro n s3 ⟨i,σ3,H3,I3,st3,fr3,w3⟩;rcases uQ i n σ3 H3 w3 with⟨stop,qn⟩|⟨go,N,hN,step⟩
 ·refine jC hp (thn (T.done X rfl rfl rfl hc i b9 s3 σ3 H3 X.xe I3 (qH fr3) st3 stop) fun r s4 ⟨hr,I4⟩=>?_);subst hr;exact lM ⟨σ3,H3,I4,qn⟩
 ·refine jC hp (thn (T.item X rfl rfl rfl hc i b9 s3 σ3 H3 X.xe I3 (qH fr3) st3 go) fun r s4 ⟨u,hr,h4⟩=>?_);subst hr;refine jC hp (thn h4 fun _ s5 ⟨x,H5,I5,r5,y5,st5,fr5⟩=>?_);have I5':=I5.pinned (qH fr5) (T.obj _ _ st5);refine jC hp (thn (hg _ s5 σ3 H5 x u _ I5' r5 (step x H5 y5)) fun _ s6 ⟨σ6,H6,I6,q6⟩=>?_);refine jC hp (thn (hb _ s6 σ6 H6 _ I6 q6) fun f s7 q7=>?_);have again:∀ {σ7:St} {H7:Hp},Inv X (b9++jE0 fp s5.heap) σ7 H7 s7->N σ7 H7->∃ m,m<n/\∃ i σ' H',Inv X b9 σ' H' s7/\tn i s7.heap/\(∀ b∈fp,H' b=none)/\W i m σ' H':=fun {σ7 H7} I7 n7=>by
   obtain⟨m',hm,w7⟩:=hN σ7 H7 n7;refine⟨m',hm,i+1,σ7,H7,I7.unpinned,T.keep _ _ _ st5 fun b hb o e=>(I7.pin (b,o) (dH _ (dH _ (jCJ hb e)))).1,fun b hb=>?_,w7⟩;obtain⟨o,e,d⟩:=T.obj _ _ st5 b hb;exact (I7.pin (b,o) (dH _ (dH _ (jCJ hb e)))).2.1
  cases f with
  | next=>obtain⟨σ7,H7,I7,n7⟩:=q7;exact again I7 n7
  | cont=>obtain⟨σ7,H7,I7,n7⟩:=q7;exact again I7 n7
  | brk=>obtain⟨σ7,H7,I7,q7⟩:=q7;exact⟨σ7,H7,I7.unpinned,q7⟩
  | ret v=>obtain⟨x7,σ7,H7,I7,r7,q7⟩:=q7;exact⟨x7,σ7,H7,I7.unpinned,r7,q7⟩
end
theorem vM{K:PySem.W.Frag}{a:Addr}{xs:List V}{g:TG}{tb:TS}{D:sQ}{σ:St}{H:Hp}(Pv:Nat->St->Hp->Prop)(h0:Pv 0 σ H)(hl:∀ i σ H,i<=xs.length->Pv i σ H->SqL K H a xs)
 (hs:∀ i x σ H,xs[i]?=some x->Pv i σ H->g x σ H fun σ2 H2=>tb { D with nx:=Pv (i+1),ct:=Pv (i+1),bk:=D.nx } σ2 H2) (hd:∀ σ H,Pv xs.length σ H->D.nx σ H) :
 ∃ W:Nat->Nat->St->Hp->Prop,(∃ m,W 0 m σ H)/\∀ i m σ H,W i m σ H ->
  ((Itl K a).stop i H/\D.nx σ H)\/((Itl K a).go i H/\∃ N:St->Hp->Prop,(∀ σ' H',N σ' H'->∃ m',m'<m/\W (i+1) m' σ' H')/\∀ x H',(Itl K a).yld i H x H'->g x σ H' fun σ2 H2=>tb { D with nx:=N,ct:=N,bk:=D.nx } σ2 H2):=by
 exists fun i m σ H=>m=xs.length-i/\i<=xs.length/\Pv i σ H,⟨xs.length,by simp,d9 _,h0⟩
 rintro i m σ H ⟨rfl,hi,p⟩;have q:=hl i σ H hi p;by_cases j2:i<xs.length
 ·refine .inr ⟨⟨xs,xs[i],q,by simp [j2]⟩,Pv (i+1),fun σ' H' p'=>⟨xs.length-(i+1),by omega,rfl,j2,p'⟩,fun x H' y=>?_⟩;obtain⟨e,y⟩:=y;subst e;exact hs i x σ _ (y xs q) p
 ·have e:i=xs.length:=by omega
  subst e;exact .inl ⟨⟨xs,q,Nat.le_refl _⟩,hd σ H p⟩
theorem jI6{K:PySem.W.Frag}{a:Addr}{xs:List V}{g:TG}{tb:TS}{D:sQ}{σ:St}{H:Hp}(Pv:Nat->St->Hp->Prop)(h0:Pv 0 σ H)(hl:∀ i σ H,i<=xs.length->Pv i σ H->SqT K H a xs)
 (hs:∀ i x σ H,xs[i]?=some x->Pv i σ H->g x σ H fun σ2 H2=>tb { D with nx:=Pv (i+1),ct:=Pv (i+1),bk:=D.nx } σ2 H2) (hd:∀ σ H,Pv xs.length σ H->D.nx σ H) :
 ∃ W:Nat->Nat->St->Hp->Prop,(∃ m,W 0 m σ H)/\∀ i m σ H,W i m σ H ->
  ((Itt K a).stop i H/\D.nx σ H)\/((Itt K a).go i H/\∃ N:St->Hp->Prop,(∀ σ' H',N σ' H'->∃ m',m'<m/\W (i+1) m' σ' H')/\∀ x H',(Itt K a).yld i H x H'->g x σ H' fun σ2 H2=>tb { D with nx:=N,ct:=N,bk:=D.nx } σ2 H2):=by
 exists fun i m σ H=>m=xs.length-i/\i<=xs.length/\Pv i σ H,⟨xs.length,by simp,d9 _,h0⟩
 rintro i m σ H ⟨rfl,hi,p⟩;have q:=hl i σ H hi p;by_cases j2:i<xs.length
 ·refine .inr ⟨⟨xs,xs[i],q,by simp [j2]⟩,Pv (i+1),fun σ' H' p'=>⟨xs.length-(i+1),by omega,rfl,j2,p'⟩,fun x H' y=>?_⟩;obtain⟨e,y⟩:=y;subst e;exact hs i x σ _ (y xs q) p
 ·have e:i=xs.length:=by omega
  subst e;exact .inl ⟨⟨xs,q,Nat.le_refl _⟩,hd σ H p⟩
theorem jDz{lo:Int}{n:Nat}{g:TG}{tb:TS}{D:sQ}{σ:St}{H:Hp}(Pv:Nat->St->Hp->Prop)(h0:Pv 0 σ H)
 (hs:∀ i σ H,i<n->Pv i σ H->g (.int (lo+i)) σ H fun σ2 H2=>tb { D with nx:=Pv (i+1),ct:=Pv (i+1),bk:=D.nx } σ2 H2) (hd:∀ σ H,Pv n σ H->D.nx σ H) :
 ∃ W:Nat->Nat->St->Hp->Prop,(∃ m,W 0 m σ H)/\∀ i m σ H,W i m σ H ->
  ((Itr lo n).stop i H/\D.nx σ H)\/((Itr lo n).go i H/\∃ N:St->Hp->Prop,(∀ σ' H',N σ' H'->∃ m',m'<m/\W (i+1) m' σ' H')/\∀ x H',(Itr lo n).yld i H x H'->g x σ H' fun σ2 H2=>tb { D with nx:=N,ct:=N,bk:=D.nx } σ2 H2):=by
 exists fun i m σ H=>m=n-i/\i<=n/\Pv i σ H,⟨n,by simp,d9 _,h0⟩
 rintro i m σ H ⟨rfl,hi,p⟩;by_cases j2:i<n
 ·refine .inr ⟨j2,Pv (i+1),fun σ' H' p'=>⟨n-(i+1),by omega,rfl,j2,p'⟩,fun x H' y=>?_⟩;obtain⟨e,y⟩:=y;subst e y;exact hs i σ _ j2 p
 ·have e:i=n:=by omega
  subst e;exact .inl ⟨Nat.le_refl _,hd σ H p⟩
noncomputable abbrev R2:=V->V->Hp->VK->Prop
noncomputable def OpR(X:Cx)(f:Value->Value->Sem Value)(r:R2):Prop :=
 ∀ (b9:List (Addr×Obj)) (s:Shared) (σ:St) (H:Hp) (x y:V) (v u:Value) (Q:VK),Inv X b9 σ H s->g9 x v->g9 y u->r x y H Q ->
  dM (dQ X.prog X.w) X.A (f v u) (EP X b9 σ Q) X.xe s
noncomputable def UnR(X:Cx)(f:Value->Sem Value)(r:V->Hp->VK->Prop):Prop :=
 ∀ (b9:List (Addr×Obj)) (s:Shared) (σ:St) (H:Hp) (x:V) (v:Value) (Q:VK),Inv X b9 σ H s->g9 x v->r x H Q ->
  dM (dQ X.prog X.w) X.A (f v) (EP X b9 σ Q) X.xe s
noncomputable def CallR(X:Cx)(f:Value)(r:List V->Hp->VK->Prop):Prop :=
 ∀ (b9:List (Addr×Obj)) (s:Shared) (σ:St) (H:Hp) (xs:List V) (us:List Value) (Q:VK),Inv X b9 σ H s->iH xs us->r xs H Q ->
  dM (dQ X.prog X.w) X.A (call f us) (EP X b9 σ Q) X.xe s
noncomputable def TruR(X:Cx)(r:V->Hp->(Bool->Hp->Prop)->Prop):Prop :=
 ∀ (b9:List (Addr×Obj)) (s:Shared) (σ:St) (H:Hp) (x:V) (v:Value) (Q:Bool->Hp->Prop),Inv X b9 σ H s->g9 x v->r x H Q ->
  dM (dQ X.prog X.w) X.A (truthy v) (TP X b9 σ Q) X.xe s
noncomputable def tOp(r:R2)(ta tb:TE):TE:=fun σ H Q=>ta σ H fun x H1=>tb σ H1 fun y H2=>r x y H2 Q
noncomputable def tUn(r:V->Hp->VK->Prop)(ta:TE):TE:=fun σ H Q=>ta σ H fun x H1=>r x H1 Q
inductive rI(C:Int->Int->Prop)(g:Int->Int->V)(x:V)(y:V)(H:Hp)(Q:VK):Prop|mk i j:x=.int i->y=.int j->C i j->Q (g i j) H->rI C g x y H Q
inductive rI0(g:Int->Int->V)(x:V)(y:V)(H:Hp)(Q:VK):Prop|mk i j:x=.int i->y=.int j->Q (g i j) H->rI0 g x y H Q
inductive rU(g:Int->V)(x:V)(H:Hp)(Q:VK):Prop|mk i:x=.int i->Q (g i) H->rU g x H Q
section
variable {X:Cx}{a b c:Expr}{ta tb tc:TE}{pos:Pos}
theorem binT(ha:PE X a ta)(hb:PE X b tb){b9:List (Addr×Obj)}{s:Shared}{σ:St}{H:Hp}{R:V->V->Hp->Prop}(I:Inv X b9 σ H s)
 (h:ta σ H fun x H1=>tb σ H1 fun y H2=>R x y H2) {Q:Value->Shared->Prop} {f:Value->Value->Sem Value}
 (hf:∀ v u s2 x y H2,Inv X b9 σ H2 s2->g9 x v->g9 y u->R x y H2->dM (dQ X.prog X.w) X.A (f v u) Q X.xe s2) :
 dM (dQ X.prog X.w) X.A (fA a X.env) (fun v fQ=>dM (dQ X.prog X.w) X.A (fA b X.env) (fun u eU=>dM (dQ X.prog X.w) X.A (f v u) Q X.xe eU) X.xe fQ) X.xe s:=by
 refine thn (ha b9 s σ H _ I h) fun v s1 ⟨x,H1,I1,r1,q1⟩=>?_;refine thn (hb b9 s1 σ H1 _ I1 q1) fun u s2 ⟨y,H2,I2,r2,q2⟩=>?_;exact hf v u s2 x y H2 I2 r1 r2 q2
theorem jL{op:Operator}{r:R2}(ho:OpR X (lD op) r)(ha:PE X a ta)(hb:PE X b tb):PE X (.BinOp a op b pos) (tOp r ta tb):=by
 intro b9 s σ H Q I h;exact wpAny_BinOp (binT ha hb I h fun v u s2 x y H2 I2 rx ry q=>ho b9 s2 σ H2 x y v u Q I2 rx ry q)
theorem jGP(ho:UnR X (unaryOp op) r)(ha:PE X a ta):PE X (.UnaryOp op a pos) (tUn r ta):=by
 intro b9 s σ H Q I h;exact UnaryOp_ (thn (ha b9 s σ H _ I h) fun v s1 ⟨x,H1,I1,r1,q1⟩=>ho b9 s1 σ H1 x v Q I1 r1 q1)
theorem opI{f:Value->Value->Sem Value}{C:Int->Int->Prop}{g:Int->Int->Int}
 (rule:∀ (i j:Int) (t u:Tok) (s:Shared) (Q:Value->Shared->Prop) (E:Value->Shared->Prop),C i j->Q (.int (g i j) s.toks) { s with toks:=s.toks+1 }->dM (dQ X.prog X.w) X.A (f (.int i t) (.int j u)) Q E s) :
 OpR X f (rI C fun i j=>.int (g i j)):=by
 intro b9 s σ H x y v u Q I rx ry h;obtain⟨i,j,rfl,rfl,hc,q⟩:=h;obtain⟨t,rfl⟩:=rx;obtain⟨t',rfl⟩:=ry;exact rule i j t t' s _ _ hc ⟨.int (g i j),H,I.tok _,⟨_,rfl⟩,q⟩
theorem opI0{f:Value->Value->Sem Value}{g:Int->Int->Int}
 (rule:∀ (i j:Int) (t u:Tok) (s:Shared) (Q:Value->Shared->Prop) (E:Value->Shared->Prop),Q (.int (g i j) s.toks) { s with toks:=s.toks+1 }->dM (dQ X.prog X.w) X.A (f (.int i t) (.int j u)) Q E s) :
 OpR X f (rI0 fun i j=>.int (g i j)):=by
 intro b9 s σ H x y v u Q I rx ry h;obtain⟨i,j,rfl,rfl,q⟩:=h;obtain⟨t,rfl⟩:=rx;obtain⟨t',rfl⟩:=ry;exact rule i j t t' s _ _ ⟨.int (g i j),H,I.tok _,⟨_,rfl⟩,q⟩
theorem opB0{f:Value->Value->Sem Value}{g:Int->Int->Bool}
 (rule:∀ (i j:Int) (t u:Tok) (s:Shared) (Q:Value->Shared->Prop) (E:Value->Shared->Prop),Q (.bool (g i j)) s->dM (dQ X.prog X.w) X.A (f (.int i t) (.int j u)) Q E s) :
 OpR X f (rI0 fun i j=>.bl (g i j)):=by
 intro b9 s σ H x y v u Q I rx ry h;obtain⟨i,j,rfl,rfl,q⟩:=h;obtain⟨t,rfl⟩:=rx;obtain⟨t',rfl⟩:=ry;exact rule i j t t' s _ _ ⟨.bl (g i j),H,I,rfl,q⟩
noncomputable def CDiv(i j:Int):Prop:=0<j/\j<1073741824
noncomputable def CPow(i j:Int):Prop:=0<=j/\j<=1000000/\i.natAbs<2^64
noncomputable def CMul(i j:Int):Prop:=(-(2^64)<i/\i<2^64)\/(-(2^64)<j/\j<2^64)
theorem CMul.ok(h:CMul i j):IntMulOk i j:=by
 rcases h with⟨h1,h2⟩|⟨h1,h2⟩
 ·exact .of_left (intBits_le_64 h1 h2)
 ·exact .of_right (intBits_le_64 h1 h2)
theorem oV:OpR X (lD .Add) (rI0 fun i j=>.int (i+j)):=opI0 fun _ _ _ _ _ _ _ q=>add_int q
theorem jH5:OpR X (lD .Sub) (rI0 fun i j=>.int (i-j)):=opI0 fun _ _ _ _ _ _ _ q=>sub_int q
theorem jC6:OpR X (lD .Mult) (rI CMul fun i j=>.int (i*j)):=opI fun _ _ _ _ _ _ _ hc q=>mul_int q hc.ok
theorem jMz:OpR X (lD .FloorDiv) (rI CDiv fun i j=>.int (i/j)):=opI fun i j _ _ _ _ _ hc q=>by
 have h1:(0:Int)<j:=hc.1;have h2:j<1073741824:=hc.2;exact floordiv_int (by omega) (by rw [Int.fdiv_eq_ediv_of_nonneg i (by omega)];exact q) (.inl (oN (by omega)))
theorem jDA:OpR X (lD .Mod) (rI (fun _ j=>0<j) fun i j=>.int (i%j)):=opI fun i j _ _ _ _ _ hc q=>by
 have h1:(0:Int)<j:=hc;exact mod_int' (by omega) (by rw [Int.fmod_eq_emod_of_nonneg i (by omega)];exact q)
theorem jH6:OpR X (lD .Pow) (rI CPow fun i j=>.int (i^j.toNat)):=opI fun _ _ _ _ _ _ _ hc q=>pow_int_small hc.1 hc.2.1 hc.2.2 q
theorem unI{f:Value->Sem Value}{g:Int->Int}
 (rule:∀ (i:Int) (t:Tok) (s:Shared) (Q:Value->Shared->Prop) (E:Value->Shared->Prop),Q (.int (g i) s.toks) { s with toks:=s.toks+1 }->dM (dQ X.prog X.w) X.A (f (.int i t)) Q E s) :
 UnR X f (rU fun i=>.int (g i)):=by
 intro b9 s σ H x v Q I rx h;obtain⟨i,rfl,q⟩:=h;obtain⟨t,rfl⟩:=rx;exact rule i t s _ _ ⟨.int (g i),H,I.tok _,⟨_,rfl⟩,q⟩
theorem jE1:UnR X (unaryOp .USub) (rU fun i=>.int (-i)):=unI fun _ _ _ _ _ q=>neg_int q
end
noncomputable def scal:V->V->Bool
 | .non,.non=>true|.non,.int _=>true|.int _,.non=>true|.non,.bl _=>true|.bl _,.non=>true|.non,.str _=>true|.str _,.non=>true
 | .int _,.int _=>true|.bl _,.bl _=>true|.str _,.str _=>true|.byt _,.byt _=>true
 | .int _,.str _=>true|.str _,.int _=>true|.bl _,.str _=>true|.str _,.bl _=>true
 | _,_=>false
noncomputable def rEq:R2:=fun x y H Q=>scal x y=true/\Q (.bl (decide (x=y))) H
noncomputable def rNe:R2:=fun x y H Q=>scal x y=true/\Q (.bl (!decide (x=y))) H
theorem jMA:decide (V.int i=V.int j)=(i==j):=by
 rw [Bool.eq_iff_iff];simp
theorem jOa:decide (V.bl i=V.bl j)=(i==j):=by
 rw [Bool.eq_iff_iff];simp
theorem dec_str:decide (V.str i=V.str j)=(i==j):=by
 rw [Bool.eq_iff_iff];simp
theorem jMB:decide (V.byt i=V.byt j)=(i.toList==j.toList):=by
 rw [Bool.eq_iff_iff];cases i;cases j;simp
section
variable {X:Cx}{a b c:Expr}{ta tb tc:TE}{pos:Pos}
theorem mZ(I:Inv X b9 σ H s)(q:Q (.bl k) H)(e:k=k'):EP X b9 σ Q (.bool k') s:=by
 subst e;exact⟨.bl k,H,I,rfl,q⟩
theorem qL:OpR X (fB .Eq) rEq:=by
 intro b9 s σ H x y v u Q I rx ry h;obtain⟨hs,q⟩:=h;cases x with
 | non =>
   cases rx;cases y with
   | non=>cases ry;exact PySem.EqNone.eq_none_none (mZ I q (by simp))
   | bl j=>cases ry;exact PySem.EqNone.eq_none_bool (mZ I q (by simp))
   | int j=>obtain⟨t',rfl⟩:=ry;exact PySem.EqNone.eq_none_int (mZ I q (by simp))
   | str j=>obtain⟨t',rfl⟩:=ry;exact PySem.EqNone.eq_none_str (mZ I q (by simp))
   | _=>exact absurd (show false=true from hs) Bool.false_ne_true
 | bl i =>
   cases rx;cases y with
   | non=>cases ry;exact PySem.EqNone.eq_bool_none (mZ I q (by simp))
   | bl j=>cases ry;exact eq_bool (mZ I q jOa)
   | str j=>obtain⟨t',rfl⟩:=ry;exact PySem.EqMixed.eq_bool_str (mZ I q (by simp))
   | _=>exact absurd (show false=true from hs) Bool.false_ne_true
 | int i =>
   obtain⟨t,rfl⟩:=rx;cases y with
   | non=>cases ry;exact PySem.EqNone.eq_int_none (mZ I q (by simp))
   | int j=>obtain⟨t',rfl⟩:=ry;exact eq_int (mZ I q jMA)
   | str j=>obtain⟨t',rfl⟩:=ry;exact PySem.EqMixed.eq_int_str (mZ I q (by simp))
   | _=>exact absurd (show false=true from hs) Bool.false_ne_true
 | str i =>
   obtain⟨t,rfl⟩:=rx;cases y with
   | non=>cases ry;exact PySem.EqNone.eq_str_none (mZ I q (by simp))
   | bl j=>cases ry;exact PySem.EqMixed.eq_str_bool (mZ I q (by simp))
   | int j=>obtain⟨t',rfl⟩:=ry;exact PySem.EqMixed.eq_str_int (mZ I q (by simp))
   | str j=>obtain⟨t',rfl⟩:=ry;exact eq_str (mZ I q dec_str)
   | _=>exact absurd (show false=true from hs) Bool.false_ne_true
 | byt i =>
   obtain⟨t,rfl⟩:=rx;cases y with
   | byt j=>obtain⟨t',rfl⟩:=ry;exact PySem.W.eq_bytes (mZ I q jMB)
   | _=>exact absurd (show false=true from hs) Bool.false_ne_true
 | _=>cases y<;>exact absurd (show false=true from hs) Bool.false_ne_true
theorem jDV:OpR X (fB .NotEq) rNe:=by
 intro b9 s σ H x y v u Q I rx ry h;obtain⟨hs,q⟩:=h;cases x with
 | non =>
   cases rx;cases y with
   | non=>cases ry;exact PySem.EqNone.ne_none_none (mZ I q (by simp))
   | bl j=>cases ry;exact PySem.EqNone.ne_none_bool (mZ I q (by simp))
   | int j=>obtain⟨t',rfl⟩:=ry;exact PySem.EqNone.ne_none_int (mZ I q (by simp))
   | str j=>obtain⟨t',rfl⟩:=ry;exact PySem.EqNone.ne_none_str (mZ I q (by simp))
   | _=>exact absurd (show false=true from hs) Bool.false_ne_true
 | bl i =>
   cases rx;cases y with
   | non=>cases ry;exact PySem.EqNone.ne_bool_none (mZ I q (by simp))
   | bl j=>cases ry;exact ne_bool (mZ I q (congrArg not jOa))
   | str j=>obtain⟨t',rfl⟩:=ry;exact PySem.EqMixed.ne_bool_str (mZ I q (by simp))
   | _=>exact absurd (show false=true from hs) Bool.false_ne_true
 | int i =>
   obtain⟨t,rfl⟩:=rx;cases y with
   | non=>cases ry;exact PySem.EqNone.ne_int_none (mZ I q (by simp))
   | int j=>obtain⟨t',rfl⟩:=ry;exact ne_int (mZ I q (congrArg not jMA))
   | str j=>obtain⟨t',rfl⟩:=ry;exact PySem.EqMixed.ne_int_str (mZ I q (by simp))
   | _=>exact absurd (show false=true from hs) Bool.false_ne_true
 | str i =>
   obtain⟨t,rfl⟩:=rx;cases y with
   | non=>cases ry;exact PySem.EqNone.ne_str_none (mZ I q (by simp))
   | bl j=>cases ry;exact PySem.EqMixed.ne_str_bool (mZ I q (by simp))
   | int j=>obtain⟨t',rfl⟩:=ry;exact PySem.EqMixed.ne_str_int (mZ I q (by simp))
   | str j=>obtain⟨t',rfl⟩:=ry;exact ne_str (mZ I q (congrArg not dec_str))
   | _=>exact absurd (show false=true from hs) Bool.false_ne_true
 | byt i =>
   obtain⟨t,rfl⟩:=rx;cases y with
   | byt j=>obtain⟨t',rfl⟩:=ry;exact PySem.W.ne_bytes (mZ I q (congrArg not jMB))
   | _=>exact absurd (show false=true from hs) Bool.false_ne_true
 | _=>cases y<;>exact absurd (show false=true from hs) Bool.false_ne_true
theorem jEG:OpR X (fB .Lt) (rI0 fun i j=>.bl (decide (i<j))):=opB0 fun _ _ _ _ _ _ _ q=>lt_int q
theorem jDW:OpR X (fB .LtE) (rI0 fun i j=>.bl (decide (i<=j))):=opB0 fun _ _ _ _ _ _ _ q=>le_int q
theorem jGQ:OpR X (fB .Gt) (rI0 fun i j=>.bl (decide (j<i))):=opB0 fun _ _ _ _ _ _ _ q=>gt_int q
theorem jJC:OpR X (fB .In) (fun x y H Q=>∃ i j,x=.str i/\y=.str j/\Q (.bl (!(Builtin.Str.occurrences j i 0 j.length 1).isEmpty)) H):=by
 intro b9 s σ H x y v u Q I rx ry h;obtain⟨i,j,rfl,rfl,q⟩:=h;obtain⟨t,rfl⟩:=rx;obtain⟨t',rfl⟩:=ry;exact in_str (mZ I q rfl)
theorem jC7:OpR X (fB .Is) (fun x y H Q=>y=.non/\Q (.bl (decide (x=.non))) H):=by
 intro b9 s σ H x y v u Q I rx ry h;obtain⟨rfl,q⟩:=h;cases ry;refine is_none_gen (mZ I q ?_);cases x<;>first
  | (cases rx;rfl)
  | (obtain⟨t,rfl⟩:=rx;rfl)
theorem jCr:OpR X (fB .IsNot) (fun x y H Q=>y=.non/\Q (.bl (!decide (x=.non))) H):=by
 intro b9 s σ H x y v u Q I rx ry h;obtain⟨rfl,q⟩:=h;cases ry;refine isnot_none_gen (mZ I q ?_);cases x<;>first
  | (cases rx;rfl)
  | (obtain⟨t,rfl⟩:=rx;rfl)
theorem jOb(b:Expr)(h:op≠.In:=by decide)(h2:op≠.NotIn:=by decide):iD op b=false:=by
 have e1:(op==CmpOp.In)=false:=by cases op<;>first|rfl|exact absurd rfl h
 have e2:(op==CmpOp.NotIn)=false:=by cases op<;>first|rfl|exact absurd rfl h2
 cases b<;>simp [iD,e1,e2]
theorem jCs(ho:OpR X (fB op) r)(ha:PE X a ta)(hb:PE X b tb)(hm:iD op b=false):PE X (.Compare a [op] [b] pos) (tOp r ta tb):=by
 intro b9 s σ H Q I h;exact wpAny_Compare1 (binT ha hb I h fun v u s2 x y H2 I2 rx ry q=>ho b9 s2 σ H2 x y v u Q I2 rx ry q) hm
noncomputable def tTest(t:TE):TT:=fun σ H Q=>t σ H fun x H'=>∃ k,x=.bl k/\Q k H'
theorem jC1(ho:OpR X (fB op) r)(ha:PE X a ta)(hb:PE X b tb)(hm:iD op b=false):PT X (.Compare a [op] [b] pos) (tTest (tOp r ta tb)):=by
 intro b9 s σ H Q I h
 refine wpAny_isTrue_Compare1 (thn (ha b9 s σ H _ I h) fun v s1 ⟨x,H1,I1,r1,q1⟩=>thn (hb b9 s1 σ H1 _ I1 q1) fun u s2 ⟨y,H2,I2,r2,q2⟩ =>
  thn (ho b9 s2 σ H2 x y v u _ I2 r1 r2 q2) fun c s3 ⟨z,H3,I3,r3,k,e,q3⟩=>?_) hm
 subst e;cases r3;exact fO ⟨H3,I3,q3⟩
noncomputable def jOc(r r':R2)(ta tb tc:TE):TE:=fun σ H Q=>ta σ H fun x H1=>tb σ H1 fun y H2=>r x y H2 fun z H3=>∃ k,z=.bl k /\
 (if k=true then tc σ H3 fun w' H4=>r' y w' H4 Q else Q (.bl false) H3)
theorem jPt(ho:OpR X (fB op) r)(zF:OpR X (fB op') r')(ha:PE X a ta)(hb:PE X b tb)(hc:PE X c tc) 
 (hm:lastMarks [op,op'] [b,c]=false:=by with_unfolding_all rfl):PE X (.Compare a [op,op'] [b,c] pos) (jOc r r' ta tb tc):=by
 intro b9 s σ H Q I h
 refine Compare_chain (thn (ha b9 s σ H _ I h) fun v s1 ⟨x,H1,I1,r1,q1⟩=>chain_link (thn (hb b9 s1 σ H1 _ I1 q1) fun u s2 ⟨y,H2,I2,r2,q2⟩ =>
  thn (ho b9 s2 σ H2 x y v u _ I2 r1 r2 q2) fun d s3 ⟨z,H3,I3,r3,k,e,q3⟩=>?_)) hm
 subst e;cases r3;refine fO ?_;cases k with
 | false=>exact ite_ff ⟨.bl false,H3,I3,rfl,q3⟩
 | true=>exact ite_tt (chain_last (thn (hc b9 s3 σ H3 _ I3 q3) fun w' s4 ⟨z',H4,I4,r4,q4⟩=>zF b9 s4 σ H4 y z' u w' Q I4 r2 r4 q4))
theorem jHw(ho:OpR X (fB op) r)(zF:OpR X (fB op') r')(ha:PE X a ta)(hb:PE X b tb)(hc:PE X c tc) 
 (hm:lastMarks [op,op'] [b,c]=false:=by with_unfolding_all rfl):PT X (.Compare a [op,op'] [b,c] pos) (tTest (jOc r r' ta tb tc)):=by
 intro b9 s σ H Q I h
 refine isTrue_chain (thn (ha b9 s σ H _ I h) fun v s1 ⟨x,H1,I1,r1,q1⟩=>test_link (thn (hb b9 s1 σ H1 _ I1 q1) fun u s2 ⟨y,H2,I2,r2,q2⟩ =>
  thn (ho b9 s2 σ H2 x y v u _ I2 r1 r2 q2) fun d s3 ⟨z,H3,I3,r3,k,e,q3⟩=>?_)) hm
 subst e;cases r3;refine fO ?_;cases k with
 | false =>
   obtain⟨k',e',q'⟩:=q3;cases e';exact ite_ff ⟨H3,I3,q'⟩
 | true =>
   refine ite_tt (test_last (thn (hc b9 s3 σ H3 _ I3 q3) fun w' s4 ⟨z',H4,I4,r4,q4⟩=>thn (zF b9 s4 σ H4 y z' u w' _ I4 r2 r4 q4) fun d' s5 ⟨z2,H5,I5,r5,k2,e2,q5⟩=>?_));subst e2;cases r5;exact fO ⟨H5,I5,q5⟩
noncomputable def TruV(K:PySem.W.Frag)(x:V)(H:Hp)(k:Bool):Prop :=
 match x with
 | .non=>k=false
 | .bl b=>k=b
 | .int i=>k=(i != 0)
 | .str y=>y.length<=dL/\k=((y.length:Int) != 0)
 | .byt y=>y.size<=dL/\k=((y.size:Int) != 0)
 | .ref p=>(∃ xs,SqL K H p xs/\k=!xs.isEmpty)\/(∃ xs,SqT K H p xs/\k=!xs.isEmpty)\/∃ kvs,H p=some (.dK kvs)/\k=!kvs.isEmpty
 | _=>False
theorem jNj(r:KV kvs vs):(!vs.isEmpty)=!kvs.isEmpty:=by
 cases r<;>rfl
theorem jH7(r:iH xs its):(!its.toArray.isEmpty)=!xs.isEmpty:=by
 cases r<;>simp
theorem jD9:(dL:Nat)<2^63:=by rw [iP];decide
theorem jOd:TruR X (fun x H Q=>∃ k,TruV X.K x H k/\Q k H):=by
 intro b9 s σ H x v Q I rx h;obtain⟨k,e,q⟩:=h;have hl:=jD9;have hs:dL=16777216:=iP;cases x with
 | non =>
   cases rx;have e':k=false:=e;subst e';exact truthy_none ⟨H,I,q⟩
 | bl b =>
   cases rx;have e':k=b:=e;subst e';exact fO ⟨H,I,q⟩
 | int i =>
   obtain⟨t,rfl⟩:=rx;have e':k=(i != 0):=e;subst e';exact PySem.P.truthy_int ⟨H,I,q⟩
 | str y =>
   obtain⟨t,rfl⟩:=rx;obtain⟨hy,e'⟩:y.length<=dL/\k=((y.length:Int) != 0):=e;subst e';exact PySem.P.truthy_str (by omega) ⟨H,I.tok _,q⟩
 | byt y =>
   obtain⟨t,rfl⟩:=rx;obtain⟨hy,e'⟩:y.size<=dL/\k=((y.size:Int) != 0):=e;subst e';exact PySem.W.truthy_bytes (by omega) ⟨H,I.tok _,q⟩
 | ref p =>
   cases rx;have e':(∃ xs,SqL X.K H p xs/\k=!xs.isEmpty)\/(∃ xs,SqT X.K H p xs/\k=!xs.isEmpty)\/∃ kvs,H p=some (.dK kvs)/\k=!kvs.isEmpty:=e;rcases e' with⟨xs,hx,e'⟩|⟨xs,hx,e'⟩|⟨kvs,hx,e'⟩
   ·subst e';obtain⟨its,r,pl,hz⟩:=I.list hx;have j5:=r.length;exact wpAny_truthy_list pl.isList (by simp only [dS];omega) ⟨H,I.tok _,by rw [jH7 r];exact q⟩
   ·subst e';obtain⟨its,r,pl,hz⟩:=I.tuple hx;have j5:=r.length;exact truthy_tuple pl (by simp only [dS];omega) ⟨H,I.tok _,by rw [jH7 r];exact q⟩
   ·subst e';obtain⟨hz,hS,vs,r,m⟩:kvs.length<=dL/\(p==i9)=false/\∃ vs,KV kvs vs/\s.heap.DictOf (lV X.prog X.w) p vs:=I.hok p _ hx;have j5:kvs.length=vs.length:=Paired.length r;exact wpAny_truthy_dict hS m (by omega) ⟨H,I.tok _,by rw [jNj r];exact q⟩
 | _=>exact (show False from e).elim
theorem mD(ha:PE X a ta)(he:∀ pD,z6 a X.env pD=(do let v <- pD;kY a.pos;jW [v] (truthy v))) :
 PT X a (fun σ H Q=>ta σ H fun x H'=>∃ k,TruV X.K x H' k/\Q k H'):=by
 intro b9 s σ H Q I h;exact isTrue_plain (thn (ha b9 s σ H _ I h) fun v s1 ⟨x,H1,I1,r1,q1⟩=>jOd b9 s1 σ H1 x v Q I1 r1 q1) (he _)
theorem jDX:OpR X (lD .Add) (fun x y H Q=>∃ i j,x=.str i/\y=.str j/\i.length+j.length<=dL/\Q (.str (i++j)) H):=by
 intro b9 s σ H x y v u Q I rx ry h;obtain⟨i,j,rfl,rfl,hz,q⟩:=h;obtain⟨t,rfl⟩:=rx;obtain⟨t',rfl⟩:=ry;exact add_str (fun t' tk=>⟨.str (i++j),H,I.tok _,⟨_,rfl⟩,q⟩) hz
theorem tK(r:iH [x] us):∃ u,us=[u]/\g9 x u:=by
 cases r with
 | cons r1 r2=>cases r2;exact⟨_,rfl,r1⟩
theorem vals2(r:iH [x,y] us):∃ u w',us=[u,w']/\g9 x u/\g9 y w':=by
 cases r with
 | cons r1 r2 =>
   cases r2 with
   | cons r3 r4=>cases r4;exact⟨_,_,rfl,r1,r3⟩
theorem jOe(hc:X.calm=true):CallR X (.builtin "max") (fun xs H Q=>∃ i j,xs=[.int i,.int j]/\Q (.int (if j > i then j else i)) H):=by
 intro b9 s σ H xs us Q I r h;obtain⟨i,j,rfl,q⟩:=h;obtain⟨u,w',rfl,⟨t,rfl⟩,⟨t',rfl⟩⟩:=vals2 r;refine max_two_ints (I.ok.hd hc) fun h' tk k=>⟨_,H,I.kept k,?_,q⟩
 by_cases hj:j > i
 ·rw [if_pos hj,if_pos hj];exact⟨_,rfl⟩
 ·rw [if_neg hj,if_neg hj];exact⟨_,rfl⟩
theorem jKH:CallR X (.type "str") (fun xs H Q=>∃ i,xs=[.int i]/\i.natAbs.log2<1920/\Q (.str (toString i)) H):=by
 intro b9 s σ H xs us Q I r h;obtain⟨i,rfl,hz,q⟩:=h;obtain⟨u,rfl,t,rfl⟩:=tK r;exact PySem.P.str_of_int hz ⟨.str _,H,I.tok _,⟨_,rfl⟩,q⟩
end
structure ObjM(h:Heap)(x dx C:Addr)(mA:Str->Option Value):Prop where
 obj:h.get? x=some (mF C dx)
 ns:h.Ns1 dx mA
 ne:dx≠x
theorem lookIn_ns{h:Heap}{dx:Addr}{mA:Str->Option Value}(n:h.Ns1 dx mA):∃ od,h.get? dx=some od/\∀ name,xP name od=some (mA name):=by
 obtain⟨o,es,ep,ho,hd,hk,_,hm⟩:=n;refine⟨o,ho,fun name=>?_⟩;have e:=hm name;unfold nsFind findBy at e;rw [<- Array.find?_toList] at e;unfold xP;rw [hd];dsimp only;split
 ·rename_i y q
  rw [q] at e;exact congrArg some e
 ·rename_i q
  rw [q] at e;have a:es.toList.any (·.refKey)=false:=by
   rw [kJ];intro y hy;obtain⟨z,t,u4⟩:=hk y (Array.mem_toList_iff.mp hy);simp [DictEntry.refKey,u4]
  have a':¬ es.toList.any (·.refKey)=true:=by rw [a];exact Bool.false_ne_true
  rw [if_neg a'];exact congrArg some e
theorem ObjM.look(I:ObjM h x dx C mA):∃ od,PySem.W.InstAt h x (mF C dx) C (some od)/\∀ name,xP name od=some (mA name) :=
 let ⟨od,ho,hl⟩:=lookIn_ns I.ns
 ⟨od,⟨I.obj,rfl,rfl,ho⟩,hl⟩
section
variable {prog:Program}{w:World}{A:Around}{E:Value->Shared->Prop}{s:Shared}{K:PySem.W.Frag}{x dx C f:Addr}{mA:Str->Option Value}{name:Str}{v:Value}
theorem get_map(X:K.In s.heap)(I:ObjM s.heap x dx C mA)(hg:oK K C name=true)(hh:PySem.W.hasDictIn K C=true) 
 (ha:PySem.W.findIn K (.ref C) name=some none) (hv:mA name=some v) (hv':zT v=true) (h:Q v { s with toks:=s.toks+1 }) :
 dM (dQ prog w) A (getAttr (.ref x) name expr) Q E s:=by
 obtain⟨od,J,hl⟩:=I.look;exact PySem.W.get_value X J (oJ hg).1 (PySem.W.findObj_own hh ha rfl (by rw [hl,hv])) hv' h
theorem jPu(X:K.In s.heap)(I:ObjM s.heap x dx C mA)(hg:oK K C name=true) 
 (hf:PySem.W.findIn K (.ref C) name=some (some (.ref f))) (ht:isFn K (.ref f)=true) (hv:mA name=none) (h:Q (.ref f,[.ref x]) s) :
 dM (dQ prog w) A (l4 (.ref x) name pl) Q E s:=by
 obtain⟨od,J,hl⟩:=I.look;exact PySem.W.method_fn X J (oJ hg).1 (oJ hg).2 hf (beq_iff_eq.mp ht) (by show (xP name od).map (·.isSome)=some false;rw [hl,hv];rfl) h
theorem set_map(X:K.In s.heap)(I:ObjM s.heap x dx C mA) 
 (hs:PySem.W.findIn K (.ref C) "__setattr__"=some (some (.builtin "object.__setattr__"))) (hp:rQ K C=true) (ht:PySem.W.takerIn K C name=some none) (hh:PySem.W.hasDictIn K C=true)
 (hw:PySem.Within mA ns) (hsz:ns.length<=dL)
 (h:∀ h',ObjM h' x dx C (fun y=>if y=name then some v else mA y)->SameBut dx s.heap h'->Q () { s with heap:=h',toks:=s.toks+2 }) :
 dM (dQ prog w) A (vE (.ref x) name v) Q E s:=by
 obtain⟨od,J,hl⟩:=I.look;refine PySem.W.set_plain X J hs (PySem.W.osa_open (s:={ s with toks:=s.toks+1 }) (r:=none) X J hp ht fun b=>?_);obtain⟨cd,hc,hd'⟩:=PySem.W.any_some hh;have hx:s.heap.get? x=some ⟨.ref C,some dx,.plain,#[]⟩:=I.obj;refine c8 (dP (c8 (c8 (wG hx (c8 (PySem.W.Looks.here (s:={ s with toks:=s.toks+1 }) (PySem.W.looks_clsIn X hc) ?_))))));rw [hd'];refine dP (a:=some dx) (c8 (dP (c8 ?_)));refine z0 (s:={ s with toks:=s.toks+1 }) I.ns fun h' hn2 vY=>?_;obtain⟨oD,esD,epD,hoD,hdD,hcD⟩:=hn2.count (PySem.Within.cons name v hw);refine c8 (tM hoD (by rw [hdD];exact tR (eM hcD (by rw [fC];omega))) ?_);exact dP (h _ ⟨(vY.2 _ (symm I.ne)).trans I.obj,hn2,I.ne⟩ vY)
theorem jPv(X:K.In s.heap)(hm:tU K C=true) 
 (hi:PySem.W.findIn K (.ref C) "__init__"=some (some (.ref f))) (hf:PySem.W.typeIn K (.ref f)=some (.type "function"))
 (h:iR (dQ prog w) (A.under (.builtin "type.__call__" ⟨.ref C::vs,kw⟩)) (.call (.ref f) ⟨.ref (s.heap.objs.size+1)::vs,kw⟩) (PySem.W.InitBack (s.heap.objs.size+1) R)
  { s with heap:=(s.heap.push jR).push (mF C s.heap.objs.size) }) :
 iR (dQ prog w) A (.call (.ref C) ⟨vs,kw⟩) R s:=by
 obtain⟨hh,g,d,t,os⟩:=s;exact PySem.W.make_core (PySem.W.makes_of X hm) (PySem.W.looks_findIn X hi) (fun self=>PySem.W.bind_fn X self hf) (.inl rfl) h
end
noncomputable def l7(f:Str)(v:V):List (Str×V)->List (Str×V)
 | []=>[(f,v)]
 | (g,x)::r=>if g=f then (g,v)::r else (g,x)::l7 f v r
theorem jEW(f g:Str)(v:V):∀ fs:List (Str×V),(l7 f v fs).lookup g=if g=f then some v else fs.lookup g
 | []=>by
   show List.lookup g [(f,v)]=_;by_cases h:g=f
   ·have hb:(g==f)=true:=beq_iff_eq.mpr h;simp only [List.lookup,hb,if_pos h]
   ·have hb:(g==f)=false:=beq_eq_false_iff_ne.mpr h;simp only [List.lookup,hb,if_neg h]
 | (k,x)::r=>by
   have ih:=jEW f g v r;rw [show l7 f v ((k,x)::r)=(if k=f then (k,v)::r else (k,x)::l7 f v r) from rfl];by_cases hk:k=f
   ·rw [if_pos hk];by_cases h:g=k
    ·have hb:(g==k)=true:=beq_iff_eq.mpr h;simp only [List.lookup,hb,if_pos (h.trans hk)]
    ·have hb:(g==k)=false:=beq_eq_false_iff_ne.mpr h;simp only [List.lookup,hb,if_neg (fun e:g=f=>h (e.trans hk.symm))]
   ·rw [if_neg hk];by_cases h:g=k
    ·have hb:(g==k)=true:=beq_iff_eq.mpr h;simp only [List.lookup,hb,if_neg (fun e:g=f=>hk (h.symm.trans e))]
    ·have hb:(g==k)=false:=beq_eq_false_iff_ne.mpr h;simp only [List.lookup,hb];exact ih
theorem jDB(f:Str)(v:V):∀ fs:List (Str×V),f∈(l7 f v fs).map (·.1)/\∀ g,g∈fs.map (·.1)->g∈(l7 f v fs).map (·.1)
 | []=>⟨by simp [l7],fun g h=>by simp at h⟩
 | (k,x)::r=>by
   obtain⟨i1,i2⟩:=jDB f v r;rw [show l7 f v ((k,x)::r)=(if k=f then (k,v)::r else (k,x)::l7 f v r) from rfl];by_cases hk:k=f
   ·rw [if_pos hk];subst hk;exact⟨by simp,fun g h=>by simpa using h⟩
   ·rw [if_neg hk];refine⟨?_,fun g h=>?_⟩
    ·rw [eW];exact eG _ i1
    ·rw [eW] at h ⊢;rcases dX.mp h with e|e
     ·exact dX.mpr (.inl e)
     ·exact eG _ (i2 g e)
theorem jEX(f:Str)(v:V):∀ fs:List (Str×V),(l7 f v fs).length<=fs.length+1
 | []=>by simp [l7]
 | (k,x)::r=>by
   have ih:=jEX f v r;rw [show l7 f v ((k,x)::r)=(if k=f then (k,v)::r else (k,x)::l7 f v r) from rfl];by_cases hk:k=f
   ·rw [if_pos hk,fC,fC];omega
   ·rw [if_neg hk,fC,fC];omega
theorem qA.some_of(r:qA (some v) o):∃ u,o=some u/\g9 v u:=by
 cases o with
 | none=>exact (show False from r).elim
 | some u=>exact⟨u,rfl,r⟩
theorem qA.none_of(r:qA none o):o=none:=by
 cases o with
 | none=>rfl
 | some u=>exact (show False from r).elim
theorem jOf(r:g9 v u):zT u=true:=by
 cases v with
 | non=>cases (show u=Value.none from r);rfl
 | bl b=>cases (show u=Value.bool b from r);rfl
 | int i=>obtain⟨t,e⟩:=(show ∃ t,u=Value.int i t from r);cases e;rfl
 | str x=>obtain⟨t,e⟩:=(show ∃ t,u=Value.str x t from r);cases e;rfl
 | byt b=>obtain⟨t,e⟩:=(show ∃ t,u=bytes b t from r);cases e;rfl
 | flt b=>obtain⟨t,e⟩:=(show ∃ t,u=float b t from r);cases e;rfl
 | ref a=>cases (show u=Value.ref a from r);rfl
 | ty n=>cases (show u=type n from r);rfl
section
variable {P:Program}{w:World}{H H':Hp}{h h':Heap}{a C dx:Addr}{fs fs':List (Str×V)}
theorem jGR(hok:HOk P w H h)(e:H a=some (.ins C dx fs)):∃ mA,ObjM h a dx C mA/\(∀ f,qA (fs.lookup f) (mA f))/\PySem.Within mA (fs.map (·.1))/\fs.length<=1000/\H dx=some (.own a):=by
 obtain⟨d,z,ne,ob,mA,n,r,q⟩:=(show lU P w H h a (.ins C dx fs) from hok a _ e)
 exact⟨mA,⟨ob,n,ne⟩,r,q,z,d⟩
end
structure Cls(K:PySem.W.Frag)(C:Addr):Prop where
 pg:oK K C empty=true
 hd:PySem.W.hasDictIn K C=true
 po:rQ K C=true
 sa:PySem.W.findIn K (.ref C) "__setattr__"=some (some (.builtin "object.__setattr__"))
theorem Cls.get{K:PySem.W.Frag}{C:Addr}(c:Cls K C)(f:Str):oK K C f=true:=c.pg
noncomputable def jQ(K:PySem.W.Frag)(C:Addr)(f:Str):Prop:=PySem.W.findIn K (.ref C) f=some none
theorem jQ.taker{K:PySem.W.Frag}{C:Addr}{f:Str}(n:jQ K C f):PySem.W.takerIn K C f=some none:=by
 unfold PySem.W.takerIn;rw [show PySem.W.findIn K (.ref C) f=some none from n];rfl
structure Con(K:PySem.W.Frag)(C:Addr)(f:Str)(v:V)(u:Value):Prop where
 at_:PySem.W.findIn K (.ref C) f=some (some u)
 lG:g9 v u
 get:jN K u "__get__"=some none
 cp:PySem.W.copiedNames.contains f=false
structure Meth(K:PySem.W.Frag)(C:Addr)(m:Str)(f:Addr):Prop where
 at_:PySem.W.findIn K (.ref C) m=some (some (.ref f))
 fn:isFn K (.ref f)=true
 kp:jT K (.ref f)=true
section
variable {X:Cx}{b9:List (Addr×Obj)}{σ:St}{H:Hp}{s:Shared}{a C dx:Addr}{fs:List (Str×V)}{f:Str}{v:V}{A:Around}{E:Value->Shared->Prop}
theorem jH8(I:Inv X b9 σ H s)(e:H a=some (.ins C dx fs))(c:Cls X.K C)(n:jQ X.K C f)(l:fs.lookup f=some v) 
 (h:∀ u s',Inv X b9 σ H s'->g9 v u->Q u s'):dM (dQ X.prog X.w) A (getAttr (.ref a) f b) Q E s:=by
 obtain⟨mA,O,r,_,_,_⟩:=jGR I.hok e;obtain⟨u,hu,ru⟩:=qA.some_of (v:=v) (o:=mA f) (by rw [<- l];exact r f);exact get_map I.kIn O (c.get f) c.hd n hu (jOf ru) (h u _ (I.tok _) ru)
theorem jH9(I:Inv X b9 σ H s)(e:H a=some (.ins C dx fs))(c:Cls X.K C)(k:Meth X.K C m g)(l:fs.lookup m=none) 
 (h:Q (.ref g,[.ref a]) s):dM (dQ X.prog X.w) A (l4 (.ref a) m pl) Q E s:=by
 obtain⟨mA,O,r,_,_,_⟩:=jGR I.hok e;have hn:mA m=none:=qA.none_of (by rw [<- l];exact r m);exact jPu I.kIn O (c.get m) k.at_ k.fn hn h
theorem jH_(I:Inv X b9 σ H s)(e:H a=some (.ins C dx fs))(c:Cls X.K C)(n:jQ X.K C f)(hl:fs.length<1000)(ry:g9 y u) 
 (h:∀ s',Inv X b9 σ (upd H a (.ins C dx (l7 f y fs))) s'->Q () s'):dM (dQ X.prog X.w) A (vE (.ref a) f u) Q E s:=by
 obtain⟨mA,O,r,wi,_,ho⟩:=jGR I.hok e;have hz:(fs.map (·.1)).length<=dL:=by rw [c7,iP];omega
 refine set_map I.kIn O c.sa c.po n.taker c.hd wi hz fun h' O' sb=>h _ ?_;have hd:∃ o,h'.get? dx=some o:=let ⟨o,_,_,e',_⟩:=O'.ns;⟨o,e'⟩;refine I.write (x:=a) (e:=dx) (by rw [e];exact True.intro) (.inr ho) (fun b q hb z=>(sb.2 b hb).trans z) hd ?_;refine⟨by rw [eJ O.ne];exact ho,?_,O.ne,O'.obj,_,O'.ns,fun g=>?_,fun g hg=>?_⟩
 ·have:=jEX f y fs;omega
 ·show qA ((l7 f y fs).lookup g) (if g=f then some u else mA g);rw [jEW];by_cases q:g=f
  ·rw [if_pos q,if_pos q];exact ry
  ·rw [if_neg q,if_neg q];exact r g
 ·by_cases q:g=f
  ·rw [q];exact (jDB f y fs).1
  ·refine (jDB f y fs).2 g (wi g fun z=>hg ?_);show (if g=f then some u else mA g)=none;rw [if_neg q];exact z
theorem Inv.made(I:Inv X b9 σ H s):Inv X b9 σ (upd (upd H s.heap.objs.size (.own (s.heap.objs.size+1))) (s.heap.objs.size+1) (.ins C s.heap.objs.size []))
 { s with heap:=(s.heap.push jR).push (mF C s.heap.objs.size) }:=by
 have e1:(s.heap.push jR).get? s.heap.objs.size=some jR:=get?_push_size s.heap rfl;have e2:((s.heap.push jR).push (mF C s.heap.objs.size)).get? (s.heap.objs.size+1)=some (mF C s.heap.objs.size):=by
  have:=get?_push_size (s.heap.push jR) (o:=mF C s.heap.objs.size) rfl;rwa [jO] at this
 have e3:(s.heap.push jR).Ns s.heap.objs.size (fun _=>none):=⟨jR,#[],_,e1,rfl,(fun e he=>absurd he (by simp)),fun _=>rfl⟩
 have I1:=I.laid (a:=s.heap.objs.size) (o:=.own (s.heap.objs.size+1)) (h':=s.heap.push jR) (t':=s.toks) (fun b u q=>get?_push_of_some _ q) (Nat.le_refl _) ⟨_,e1⟩;refine I1.laid (a:=s.heap.objs.size+1) (o:=.ins C s.heap.objs.size []) (t':=s.toks) (fun b u q=>get?_push_of_some _ q) (oP (jO _ _)) ?_;have ne:s.heap.objs.size≠s.heap.objs.size+1:=eV (jP _);refine⟨by rw [eJ ne,eO],d9 _,ne,e2,fun _=>none,(Ns1.of_empty e3).at fun o q=>get?_push_of_some _ q,fun _=>True.intro,fun y hy=>absurd rfl hy⟩
theorem attr_of(hb:iE e f env (fA e env)=fA e env) 
 (h:dM (dQ prog w) A (fA e env) (fun o fQ=>dM (dQ prog w) A (getAttr o f true) Q E fQ) E s):dM (dQ prog w) A (fA (.Attribute e f pos) env) Q E s :=
 Attribute_any_ h (by rw [arm_eval_Attribute,hb])
end
inductive ItFld(K:PySem.W.Frag)(f:Str)(Q:VK)(x:V)(H1:Hp):Prop|mk a C dx fs v:x=.ref a->H1 a=some (.ins C dx fs)->Cls K C->jQ K C f->fs.lookup f=some v->Q v H1->ItFld K f Q x H1
noncomputable def tFld(K:PySem.W.Frag)(ta:TE)(f:Str):TE:=fun σ H Q=>ta σ H fun x H1=>ItFld K f Q x H1
inductive IsFld(K:PySem.W.Frag)(f:Str)(D:sQ)(σ:St)(y:V)(x:V)(H2:Hp):Prop|mk a C dx fs:x=.ref a->H2 a=some (.ins C dx fs)->Cls K C->jQ K C f->fs.length<1000->D.nx σ (upd H2 a (.ins C dx (l7 f y fs)))->IsFld K f D σ y x H2
noncomputable def sFld(K:PySem.W.Frag)(ta tv:TE)(f:Str):TS:=fun D σ H=>tv σ H fun y H1=>ta σ H1 fun x H2=>IsFld K f D σ y x H2
noncomputable def InOp(X:Cx)(op:Operator)(rd:V->V->Hp->VK->Prop):Prop :=
 ∀ (b9:List (Addr×Obj)) (s:Shared) (σ:St) (H:Hp) (x y:V) (u v:Value) (Q:VK),Inv X b9 σ H s->g9 x u->g9 y v->rd x y H Q->dM (dQ X.prog X.w) X.A (inplaceOp op u v) (EP X b9 σ Q) X.xe s
inductive jKI(K:PySem.W.Frag)(tv:TE)(rd:V->V->Hp->VK->Prop)(f:Str)(D:sQ)(σ:St)(x:V)(H1:Hp):Prop|mk a C dx fs v:x=.ref a->H1 a=some (.ins C dx fs)->Cls K C->jQ K C f->fs.lookup f=some v->(tv σ H1 fun y H2=>rd v y H2 fun z H3=>∃ dx' fs',H3 a=some (.ins C dx' fs')/\fs'.length<1000/\D.nx σ (upd H3 a (.ins C dx' (l7 f z fs'))))->jKI K tv rd f D σ x H1
noncomputable def sFldAug(K:PySem.W.Frag)(ta tv:TE)(rd:V->V->Hp->VK->Prop)(f:Str):TS:=fun D σ H=>ta σ H fun x H1=>jKI K tv rd f D σ x H1
section
variable {X:Cx}{o e value:Expr}{f:Str}{pos o6 rA:Pos}{ta tv:TE}
theorem fH(he:PE X e ta)(hb:iE e f X.env (fA e X.env)=fA e X.env):PE X (.Attribute e f pos) (tFld X.K ta f):=by
 intro b9 s σ H Q I h;refine attr_of hb (thn (he b9 s σ H _ I h) fun u s1 ⟨x,H1,I1,rx,a,C,dx,fs,v,ex,ea,c,n,l,q⟩=>?_);subst ex;obtain rfl:u=Value.ref a:=rx;exact jH8 I1 ea c n l fun u' s2 I2 ru=>⟨v,H1,I2,ru,q⟩
theorem kM(ha:PE X o ta)(hv:PE X value tv)(hs:lY value (some (.Attribute o f o6)) pos.line X.env=pure false):PS X (.Assign [.Attribute o f o6] value pos) (sFld X.K ta tv f):=by
 intro b9 s σ H D I h;refine tE (thn (hv b9 s σ H _ I h) fun u s1 ⟨y,H1,I1,ry,q⟩=>thn (ha b9 s1 σ H1 _ I1 q) fun ov s2 ⟨x,H2,I2,rx,a,C,dx,fs,ex,ea,c,n,l,q2⟩=>?_) hs;subst ex;obtain rfl:ov=Value.ref a:=rx;exact jH_ I2 ea c n l ry fun s3 I3=>⟨σ,_,I3,q2⟩
theorem jOg(ha:PE X o ta)(hv:PE X value tv)(hop:InOp X op rd):PS X (.AugAssign (.Attribute o f rA) op value pos) (sFldAug X.K ta tv rd f):=by
 intro b9 s σ H D I h;refine wpAny_AugAssign_AttributeAny (thn (ha b9 s σ H _ I h) fun ov s1 ⟨x,H1,I1,rx,a,C,dx,fs,v,ex,ea,c,n,l,q⟩=>?_);subst ex;obtain rfl:ov=Value.ref a:=rx;refine jH8 I1 ea c n l fun u s2 I2 ru=>thn (hv b9 s2 σ H1 _ I2 q) fun w3 s3 ⟨y,H2,I3,ry,q3⟩=>thn (hop b9 s3 σ H2 v y u w3 _ I3 ru ry q3) fun w4 s4 ⟨z,H3,I4,rz,dx',fs',ea',l',q4⟩=>?_;exact jH_ I4 ea' c n l' rz fun s5 I5=>⟨σ,_,I5,q4⟩
noncomputable def rAdd:V->V->Hp->VK->Prop:=fun x y H Q=>∃ i j,x=.int i/\y=.int j/\Q (.int (i+j)) H
noncomputable def rSub:V->V->Hp->VK->Prop:=fun x y H Q=>∃ i j,x=.int i/\y=.int j/\Q (.int (i-j)) H
theorem in_add:InOp X .Add rAdd:=by
 rintro b9 s σ H x y u v Q I rx ry ⟨i,j,rfl,rfl,q⟩;obtain⟨t,rfl⟩:=(show ∃ t,u=Value.int i t from rx)
 obtain⟨t',rfl⟩:=(show ∃ t',v=Value.int j t' from ry)
 exact PyProof.Rows.iadd_int ⟨.int (i+j),H,I.tok _,⟨_,rfl⟩,q⟩
theorem in_sub:InOp X .Sub rSub:=by
 rintro b9 s σ H x y u v Q I rx ry ⟨i,j,rfl,rfl,q⟩;obtain⟨t,rfl⟩:=(show ∃ t,u=Value.int i t from rx)
 obtain⟨t',rfl⟩:=(show ∃ t',v=Value.int j t' from ry)
 exact isub_int ⟨.int (i-j),H,I.tok _,⟨_,rfl⟩,q⟩
end
section
variable {X:Cx}{b9:List (Addr×Obj)}{σ:St}{H:Hp}{s:Shared}{A:Around}{E:Value->Shared->Prop}{Q:Value->Shared->Prop}{c:Value}{b:Bool}
inductive uN(K:PySem.W.Frag)(H:Hp):V->Value->Prop where
 | non:uN K H .non (.type "NoneType")
 | bl (x:Bool):uN K H (.bl x) (.type "bool")
 | int (i:Int):uN K H (.int i) (.type "int")
 | str (x:Str):uN K H (.str x) (.type "str")
 | flt (x:UInt64):uN K H (.flt x) (.type "float")
 | lst {a:Addr} {xs:List V} (e:H a=some (.lst xs)):uN K H (.ref a) (.type "list")
 | frz {a:Addr} {o:Obj} {xs:List V} (e:H a=some (.frz o (.lst xs))):uN K H (.ref a) (.type "list")
 | tup {a:Addr} {xs:List V} (e:H a=some (.tup xs)):uN K H (.ref a) (.type "tuple")
 | dK {a:Addr} {kvs:List (Key×V)} (e:H a=some (.dK kvs)):uN K H (.ref a) (.type "dict")
 | dT {a:Addr} {kvs:List (List Key×V)} (e:H a=some (.dT kvs)):uN K H (.ref a) (.type "dict")
 | ins {a C dx:Addr} {fs:List (Str×V)} (e:H a=some (.ins C dx fs)) (cl:Cls K C) (ha:PySem.W.findIn K (.ref C) "__class__"=some (some (.builtin "object.__class__")))
  (hn:jN K (.builtin "object.__class__") "__get__"=some (some (.builtin "getset_descriptor.__get__"))) (htk:tN K (.builtin "object.__class__")=some true)
  (hm:PySem.W.mroIn K C (.type "object")=some true):uN K H (.ref a) (.ref C)
theorem jOh(I:Inv X b9 σ H s)(rx:g9 x u)(ty:uN X.K H x t)(e:pY X.K t c=some b)(h:∀ tk,Q (.bool b) { s with toks:=tk }) :
 dM (dQ X.prog X.w) A (call (.builtin "isinstance") [u,c]) Q E s:=by
 cases ty with
 | non=>cases (show u=Value.none from rx);exact kD PySem.W.kitx_none I.kIn True.intro e (fun z=>nomatch z) h
 | bl y=>cases (show u=Value.bool y from rx);exact kD PySem.W.kitx_bool I.kIn True.intro e (fun z=>nomatch z) h
 | int i=>obtain⟨t,q⟩:=(show ∃ t,u=Value.int i t from rx);cases q;exact kD PySem.W.kitx_int I.kIn True.intro e (fun z=>nomatch z) h
 | str y=>obtain⟨t,q⟩:=(show ∃ t,u=Value.str y t from rx);cases q;exact kD PySem.W.kitx_str I.kIn True.intro e (fun z=>nomatch z) h
 | flt y=>obtain⟨t,q⟩:=(show ∃ t,u=float y t from rx);cases q;exact kD PySem.W.kitx_float I.kIn True.intro e (fun z=>nomatch z) h
 | @lst a xs ea =>
   cases (show u=Value.ref a from rx);obtain⟨_,_,n,_,h1⟩:=(show lU X.prog X.w H s.heap a (.lst xs) from I.hok a _ ea)
   exact kD wK I.kIn ⟨_,h1,rfl⟩ e (fun z=>nomatch z) h
 | @frz a ob xs ea =>
   cases (show u=Value.ref a from rx);obtain⟨_,_,_,n,_,h1⟩:=(show lU X.prog X.w H s.heap a (.frz ob (.lst xs)) from I.hok a _ ea)
   exact kD wK I.kIn ⟨_,h1,rfl⟩ e (fun z=>nomatch z) h
 | @tup a xs ea =>
   cases (show u=Value.ref a from rx);obtain⟨_,_,_,p⟩:=(show lU X.prog X.w H s.heap a (.tup xs) from I.hok a _ ea)
   obtain⟨o,h1,h2,_⟩:=p;exact kD PySem.W.kitx_tuple I.kIn ⟨o,h1,h2⟩ e (fun z=>nomatch z) h
 | @dK a kvs ea =>
   cases (show u=Value.ref a from rx);obtain⟨_,_,vs,_,p⟩:=(show lU X.prog X.w H s.heap a (.dK kvs) from I.hok a _ ea)
   obtain⟨o,es,ep,h1,h2,_⟩:=p;exact kD wL I.kIn ⟨o,h1,h2.1⟩ e (fun z=>nomatch z) h
 | @dT a kvs ea =>
   cases (show u=Value.ref a from rx);obtain⟨_,_,xs,_,o,es,ep,h1,h2,_⟩:=(show lU X.prog X.w H s.heap a (.dT kvs) from I.hok a _ ea)
   exact kD wL I.kIn ⟨o,h1,h2.1⟩ e (fun z=>nomatch z) h
 | @ins a C dx fs ea cl ha hn htk hm =>
   cases (show u=Value.ref a from rx);obtain⟨mA,O,_⟩:=jGR I.hok ea;obtain⟨od,J,_⟩:=O.look;exact kD (PySem.W.kitx_own (cl.get _) cl.hd ha hn htk hm) I.kIn J e (fun z=>nomatch z) h
end
structure kX(k:Nat)(A:Around):Prop where
 hd:A.handled=none
 dp:A.depth+3*k+5<pP
 un:A.units+16*k+200<cLine
theorem kX.mono(r:kX k A)(h:j<=k):kX j A:=⟨r.hd,by have:=r.dp;omega,by have:=r.un;omega⟩
theorem kX.deeper(r:kX (k+1) A)(env:Env):kX k (A.deeper env) :=
 ⟨r.hd,by have:=r.dp;show A.depth+1+3*k+5<_;omega,by have:=r.un;show A.units+3+16*k+200<_;omega⟩
theorem jNk{A:Around}{C:Addr}{us:List Value}{kw:List (Str×Value)}:(A.under (.builtin "type.__call__" ⟨.ref C::us,kw⟩)).depth=A.depth+1:=by
 first|rfl|simp [Around.under,Code.weight,Code.isCreation,Code.isGuard,Code.isCaller,Code.frames,Code.isFrame,guardIds]
theorem jNl{A:Around}{C:Addr}{us:List Value}{kw:List (Str×Value)}:(A.under (.builtin "type.__call__" ⟨.ref C::us,kw⟩)).units=A.units+1:=by
 first|rfl|simp [Around.under,Code.cUnits,Code.frames,Code.isFrame]
theorem kX.make(r:kX (k+1) A)(C:Addr)(us:List Value)(kw:List (Str×Value)):kX k (A.under (.builtin "type.__call__" ⟨.ref C::us,kw⟩)) :=
 ⟨r.hd,by have:=r.dp;rw [jNk];omega,by have:=r.un;rw [jNl];omega⟩
theorem kX.depth(r:kX k A):A.depth<pP:=by have:=r.dp;omega
theorem kX.units(r:kX k A):A.units+64<cLine:=by have:=r.un;omega
theorem kX.units0(r:kX k A):A.units<cLine:=by have:=r.un;omega
noncomputable def tNil:TA:=fun _ H Q=>Q [] H
noncomputable def tCons(ta:TE)(tr:TA):TA:=fun σ H Q=>ta σ H fun x H1=>tr σ H1 fun xs H2=>Q (x::xs) H2
section
variable {X:Cx}{e:Expr}{es:List Expr}{te:TE}{t:TA}{pos:Pos}
theorem dZ:PA X [] tNil:=fun _ _ _ _ H Q I h=>Calls.spliced_nil ⟨[],H,I,.nil,h⟩
theorem dN(ha:PE X e te)(hr:PA X es t)(hs:dO (e::es) X.env=(false,fA e X.env)::dO es X.env:=by rfl):PA X (e::es) (tCons te t):=by
 intro pos b9 s σ H Q I h;rw [hs];show dM _ _ (spliced ((false,fA e X.env)::gH pos (dO es X.env))) _ _ s;refine Calls.spliced_cons (thn (ha b9 s σ H _ I h) fun u s1 ⟨x,H1,I1,r1,q1⟩=>?_);exact thn (hr pos b9 s1 σ H1 _ I1 q1) fun us s2 ⟨xs,H2,I2,r2,q2⟩=>⟨x::xs,H2,I2,.cons r1 r2,q2⟩
noncomputable def tTup(t:TA):TE:=fun σ H Q=>t σ H fun xs H1=>xs.length<=dL/\∀ p,H1 p=none->Q (.ref p) (upd H1 p (.tup xs))
noncomputable def tLst(t:TA):TE:=fun σ H Q=>t σ H fun xs H1=>xs.length<=dL/\∀ p,H1 p=none->Q (.ref p) (upd H1 p (.lst xs))
theorem nL(h:PA X es t):PE X (.Tuple es x1 pos) (tTup t):=by
 intro b9 s σ H Q I hq;refine wpAny_Tuple_spliced (thn (h pos b9 s σ H _ I hq) fun us s1 ⟨xs,H1,I1,r,z,q⟩=>⟨by rw [<- r.length];exact z,?_⟩);have hf:H1 s1.heap.objs.size=none:=I1.hok.fresh (Nat.le_refl _);refine⟨.ref s1.heap.objs.size,upd H1 s1.heap.objs.size (.tup xs),I1.laid (t':=s1.toks) (fun b u e=>get?_push_of_some _ e) (Nat.le_refl _) ?_,rfl,q _ hf⟩;exact⟨z,us,r,⟨_,get?_push_size _ rfl,rfl,_,rfl⟩⟩
theorem oQ(h:PA X es t):PE X (.List es pos) (tLst t):=by
 intro b9 s σ H Q I hq;refine wpAny_List_spliced (thn (h pos b9 s σ H _ I hq) fun us s1 ⟨xs,H1,I1,r,z,q⟩=>⟨by rw [<- r.length];exact z,?_⟩);have hf:H1 s1.heap.objs.size=none:=I1.hok.fresh (Nat.le_refl _);refine⟨.ref s1.heap.objs.size,upd H1 s1.heap.objs.size (.lst xs),I1.laid (t':=s1.toks) (fun b u e=>get?_push_of_some _ e) (Nat.le_refl _) ?_,rfl,q _ hf⟩;exact⟨z,us,0,r,get?_push_size _ rfl⟩
end
noncomputable abbrev Sp:=List V->Hp->VK->XK->Prop
noncomputable abbrev CXT:=List Env->Hp->Shared->XK->Value->Shared->Prop
structure jEY(P:Program)(w:World)(K:PySem.W.Frag)(mg:Str->Option Value)(base:Heap)(A:Around)(outer:List Env)(s:Shared)(H:Hp):Prop where
 frames:A.frames=some outer
 mod:Mod K mg base
 bs:∀ b o,base.get? b=some o->s.heap.get? b=some o/\H b=none
 bsz:base.objs.size<=s.heap.objs.size
 funs:s.heap.FunFrames base outer
 frf:∀ b∈frs outer,H b=none
 hok:HOk P w H s.heap
 bare:AllBare s.gens
noncomputable def CE(outer:List Env)(P:Program)(w:World)(H:Hp)(s:Shared)(Q:VK)(u:Value)(s':Shared):Prop :=
 ∃ v H',s'.os=s.os/\AllBare s'.gens/\Un (frs outer) [] H H' s.heap s'.heap/\HOk P w H' s'.heap/\g9 v u/\Q v H'
noncomputable def CR(CX:CXT)(outer:List Env)(P:Program)(w:World)(H:Hp)(s:Shared)(Q:VK)(E:XK)(r:Result)(s':Shared):Prop :=
 match r with
 | .ok (.ret u)=>CE outer P w H s Q u s'
 | .ok _=>False
 | .error e=>CX outer H s E e s'
structure m8(P:Program)(w:World)(K:PySem.W.Frag)(mg:Str->Option Value)(base:Heap)(CX:CXT)(k:Nat)(f:Addr)(fd:FuncData)(ps:List Str)(sp:Sp):Prop where
 len:∀ vs H Q E,sp vs H Q E->vs.length=ps.length
 run:∀ (A:Around) (outer:List Env) (s:Shared) (H:Hp) (args:Args) (us:List Value) (vs:List V) (Q:VK) (E:XK),kX k A->jEY P w K mg base A outer s H->BindsTo s fd args (ps.zip us)->iH vs us->sp vs H Q E ->
  iR (dQ P w) A (.call (.ref f) args) (CR CX outer P w H s Q E) s
theorem jEY.make{P:Program}{w:World}{K:PySem.W.Frag}{mg:Str->Option Value}{base:Heap}{A:Around}{outer:List Env}{s:Shared}{H:Hp}(e:jEY P w K mg base A outer s H)(C:Addr)(us:List Value)(kw:List (Str×Value)) :
 jEY P w K mg base (A.under (.builtin "type.__call__" ⟨.ref C::us,kw⟩)) outer s H:=⟨by first|exact e.frames|(simpa [Around.under,Code.envs,Code.isFrame,pushEnvs] using e.frames),e.mod,e.bs,e.bsz,e.funs,e.frf,e.hok,e.bare⟩
section
variable {X:Cx}{b9:List (Addr×Obj)}{σ:St}{H:Hp}{s s':Shared}
theorem Inv.env0(I:Inv X b9 σ H s):jEY X.prog X.w X.K X.mg X.base X.A X.stack s H :=
 ⟨I.ok.frames,I.ok.mod,I.bs,eM I.ok.bsz I.sz,I.stack,I.stkFree,I.hok,I.bare⟩
theorem Inv.after(I:Inv X b9 σ H s)(h:CE X.stack X.prog X.w H s Q u s'):EP X b9 σ Q u s':=by
 obtain⟨v,H',os,bare,un,hok,r,q⟩:=h;obtain⟨hh,g,d,t,os'⟩:=s';obtain rfl:os'=s.os:=os;exact⟨v,H',I.call (h':=hh) (g':=g) (d':=d) (t':=t) (ch:=[]) un hok bare (fun b z=>absurd z (by simp)),r,q⟩
end
noncomputable def tCall(sp:Sp)(uD:List V)(E:XK)(t:TA):TE:=fun σ H Q=>t σ H fun vs H1=>sp (vs++uD) H1 Q E
noncomputable def jKv(C:Addr)(sp:Sp)(uD:List V)(E:XK)(t:TA):TE:=fun σ H Q=>t σ H fun vs H1=>∀ x dx,H1 x=none->H1 dx=none->dx≠x ->
 sp (.ref x::(vs++uD)) (upd (upd H1 dx (.own x)) x (.ins C dx [])) (fun v H2=>v=.non/\Q (.ref x) H2) E
noncomputable def qK(K:PySem.W.Frag)(fd:FuncData)(ps:List Str)(ds:List Value):Prop :=
 ∀ (s:Shared) (us:List Value),K.In s.heap->(us++ds).length=ps.length->BindsTo s fd ⟨us,[]⟩ (ps.zip (us++ds))
theorem qK.all{K:PySem.W.Frag}{fd:FuncData}{ps:List Str}(h:∀ us:List Value,us.length=ps.length->bindArgs fd ⟨us,[]⟩=pure (ps.zip us)):qK K fd ps []:=fun s us _ hl=>by
 rw [gQ] at hl ⊢;exact .of_eq (h us hl)
noncomputable def jDC(CX:CXT)(X:Cx)(E:XK):Prop:=∀ (b9:List (Addr×Obj)) (σ:St) (H:Hp) (s:Shared) (e:Value) (s':Shared),Inv X b9 σ H s->CX X.stack H s E e s'->X.xe e s'
section
variable {X:Cx}{CX:CXT}{k:Nat}{f C:Addr}{fd:FuncData}{ps:List Str}{sp:Sp}{uD:List V}{ds:List Value}{E:XK}{x m:Str}{p pos hZ:Pos}{e o:Expr}{es:List Expr}{ta:TE}{t:TA}
theorem jOi(F:m8 X.prog X.w X.K X.mg X.base CX k f fd ps sp)(hr:kX k X.A)(hb:qK X.K fd ps ds)(hd:iH uD ds)(hx:jDC CX X E) 
 (I:Inv X b9 σ H s) (r:iH vs us) (h:sp (vs++uD) H Q E):dM (dQ X.prog X.w) X.A (call (.ref f) us) (EP X b9 σ Q) X.xe s:=by
 have r2:iH (vs++uD) (us++ds):=r.append hd;have hl:(us++ds).length=ps.length:=by rw [<- r2.length];exact F.len _ _ _ _ h
 refine kW (iB (F.run X.A X.stack s H ⟨us,[]⟩ (us++ds) (vs++uD) Q E hr I.env0 (hb s us I.kIn hl) r2 h) fun r s' hq=>?_);cases r with
 | error e=>exact hx b9 σ H s e s' I hq
 | ok fl =>
   cases fl with
   | ret u=>exact I.after hq
   | next=>exact False.elim hq
   | brk=>exact False.elim hq
   | cont=>exact False.elim hq
theorem pe_call(F:m8 X.prog X.w X.K X.mg X.base CX k f fd ps sp)(hr:kX k X.A)(hg:Gl X x)(hm:X.mg x=some (.ref f))(hk:jT X.K (.ref f)=true)(hb:qK X.K fd ps ds)(hd:iH uD ds)(hx:jDC CX X E) 
 (ha:PA X (e::es) t) (qR:(x==("__debug__":Str))=false:=by decide) (he:dO (e::es) X.env=(false,fA e X.env)::dO es X.env:=by rfl) (nR:(gH pos (dO es X.env)).any (·.1)=false:=by rfl) :
 PE X (.Call (.Name x p) (e::es) [] pos) (tCall sp uD E t):=by
 intro b9 s σ H Q I h;refine gF (jC0 I hg hm ?_ qR);refine lW (h₀:=X.base) I.ok.mod.kin hk (thn (ha pos b9 s σ H _ I h) fun us s1 ⟨vs,H1,I1,r,q⟩=>⟨I1.kIn,?_⟩) he nR;exact jOi F hr hb hd hx I1 r q
structure Mk(K:PySem.W.Frag)(C f:Addr):Prop where
 makes:tU K C=true
 init:PySem.W.findIn K (.ref C) "__init__"=some (some (.ref f))
 fn:isFn K (.ref f)=true
 kp:jT K (.ref C)=true
theorem jKJ(M:Mk X.K C f)(F:m8 X.prog X.w X.K X.mg X.base CX k f fd ps sp)(hr:kX (k+1) X.A)(hb:qK X.K fd ps ds)(hd:iH uD ds) 
 (hx:jDC CX X E) (I:Inv X b9 σ H s) (r:iH vs us)
 (h:∀ x dx,H x=none->H dx=none->dx≠x->sp (.ref x::(vs++uD)) (upd (upd H dx (.own x)) x (.ins C dx [])) (fun v H2=>v=.non/\Q (.ref x) H2) E) :
 dM (dQ X.prog X.w) X.A (call (.ref C) us) (EP X b9 σ Q) X.xe s:=by
 have hq:=h (s.heap.objs.size+1) s.heap.objs.size (I.hok.fresh (iF _)) (I.hok.fresh (Nat.le_refl _)) (eV (jP _));have I2:=Inv.made (C:=C) I;have r2:iH (V.ref (s.heap.objs.size+1)::(vs++uD)) (Value.ref (s.heap.objs.size+1)::(us++ds)):=.cons rfl (r.append hd);have hl:(Value.ref (s.heap.objs.size+1)::us++ds).length=ps.length:=by
  have e:=r2.length;rw [F.len _ _ _ _ hq] at e;exact e.symm
 refine kW (jPv (f:=f) I.kIn M.makes M.init (beq_iff_eq.mp M.fn) (iB (F.run _ X.stack _ _ ⟨Value.ref (s.heap.objs.size+1)::us,[]⟩ (Value.ref (s.heap.objs.size+1)::(us++ds)) _ _ E (hr.make C us [])
  (I2.env0.make C us []) (hb _ (Value.ref (s.heap.objs.size+1)::us) I2.kIn hl) r2 hq) fun r s' wT=>?_))
 cases r with
 | error e=>exact hx b9 σ _ _ e s' I2 wT
 | ok fl =>
   cases fl with
   | ret u =>
     obtain⟨v,H',I3,rv,ev,q3⟩:=I2.after wT;subst ev;exact⟨rv,⟨V.ref (s.heap.objs.size+1),H',I3,rfl,q3⟩⟩
   | next=>exact False.elim wT
   | brk=>exact False.elim wT
   | cont=>exact False.elim wT
theorem pe_make(M:Mk X.K C f)(F:m8 X.prog X.w X.K X.mg X.base CX k f fd ps sp)(hr:kX (k+1) X.A)(hg:Gl X x)(hm:X.mg x=some (.ref C))(hb:qK X.K fd ps ds)(hd:iH uD ds)(hx:jDC CX X E) 
 (ha:PA X (e::es) t) (qR:(x==("__debug__":Str))=false:=by decide) (he:dO (e::es) X.env=(false,fA e X.env)::dO es X.env:=by rfl) (nR:(gH pos (dO es X.env)).any (·.1)=false:=by rfl) :
 PE X (.Call (.Name x p) (e::es) [] pos) (jKv C sp uD E t):=by
 intro b9 s σ H Q I h;refine gF (jC0 I hg hm ?_ qR);refine lW (h₀:=X.base) I.ok.mod.kin M.kp (thn (ha pos b9 s σ H _ I h) fun us s1 ⟨vs,H1,I1,r,q⟩=>⟨I1.kIn,?_⟩) he nR;exact jKJ M F hr hb hd hx I1 r q
theorem jPw(M:Mk X.K C f)(F:m8 X.prog X.w X.K X.mg X.base CX k f fd ps sp)(hr:kX (k+1) X.A)(hg:Gl X x)(hm:X.mg x=some (.ref C))(hb:qK X.K fd ps ds)(hd:iH uD ds)(hx:jDC CX X E) 
 (qR:(x==("__debug__":Str))=false:=by decide):PE X (.Call (.Name x p) [] [] pos) (jKv C sp uD E tNil):=by
 intro b9 s σ H Q I h;refine gF (jC0 I hg hm ?_ qR);exact sY I.kIn M.kp (jKJ (us:=[]) M F hr hb hd hx I .nil h)
end
noncomputable def PK(X:Cx)(yN:List Keyword)(t:TA):Prop :=
 ∀ (pos:Pos) (b9:List (Addr×Obj)) (s:Shared) (σ:St) (H:Hp) (Q:List V->Hp->Prop),Inv X b9 σ H s->t σ H Q->dM (dQ X.prog X.w) X.A (evalAll ((iA pos (fM yN X.env)).map (·.2))) (AP X b9 σ Q) X.xe s
section
variable {X:Cx}{CX:CXT}{k:Nat}{f C:Addr}{fd:FuncData}{ps ks:List Str}{sp:Sp}{E:XK}{x m:Str}{p pos hZ qJ:Pos}{e o:Expr}{es:List Expr}{yN:List Keyword}{te ta:TE}{t tk:TA}{nm:Option Str}
theorem jOj:PK X [] tNil:=fun _ _ _ _ H Q I h=>wpAny_evalAll_nil ⟨[],H,I,.nil,h⟩
theorem jMC(ha:PE X e te)(hr:PK X yN t):PK X (⟨nm,e,qJ⟩::yN) (tCons te t):=by
 intro pos b9 s σ H Q I h;show dM _ _ (evalAll ((do let v <- fA e X.env;kY pos;pure v)::(iA pos (fM yN X.env)).map (·.2))) _ _ s;refine wpAny_evalAll_cons (c8 (thn (ha b9 s σ H _ I h) fun u s1 ⟨x,H1,I1,r1,q1⟩=>c8 (iT (dP ?_))));exact thn (hr pos b9 s1 σ H1 _ I1 q1) fun us s2 ⟨xs,H2,I2,r2,q2⟩=>⟨x::xs,H2,I2,.cons r1 r2,q2⟩
variable {g:List Value->List Value->List Value}{gV:List V->List V->List V}
end
structure jCt(N P:List Str)(sc:Scope):Prop where
 kind:sc.kind=.function
 co:sc.isCoroutine=false
 gen:sc.isGenerator=false
 nd:N.Nodup
 pre:N.take P.length=P
 par:∀ x∈P,sc.names.lookup x=some .local\/sc.names.lookup x=some .cell
 nofree:∀ y∈sc.names,y.2≠.free
theorem jJD{kindOf:Str->Option NameKind}{x:Str}:∀ {binds:List (Str×Value)} {m:Str->Option Value},(∀ v,(x,v) ∉ binds)->zV kindOf binds m x=m x
 | [],_,_=>rfl
 | (n,v)::r,m,h=>by
   unfold zV;rw [jJD fun w hw=>h w (eG _ hw)];split
   ·have:x≠n:=by rintro rfl;exact h v eD
    simp [this]
   ·rfl
theorem jJE{kindOf:Str->Option NameKind}{x:Str}:∀ {binds:List (Str×Value)} {m:Str->Option Value},(∀ v,(x,v) ∉ binds)->zW kindOf binds m x=m x
 | [],_,_=>rfl
 | (n,v)::r,m,h=>by
   unfold zW;rw [jJE fun w hw=>h w (eG _ hw)];split
   ·rfl
   ·have:x≠n:=by rintro rfl;exact h v eD
    simp [this]
theorem jJF{kindOf:Str->Option NameKind}{x:Str}{v:Value}:∀ {P:List Str} {vs:List Value} {i:Nat} {m:Str->Option Value},P.Nodup->P[i]?=some x->vs[i]?=some v->kindOf x=some .local ->
 zV kindOf (P.zip vs) m x=some v
 | [],_,_,_,_,h,_,_=>by simp at h
 | _::_,[],_,_,_,_,h,_=>by simp at h
 | p::P,w::vs,0,m,nd,h1,h2,hk=>by
   simp at h1 h2;subst h1;subst h2;show zV kindOf ((p,w)::P.zip vs) m p=_;unfold zV;rw [jJD fun v hv=>(fF.mp nd).1 (pW hv).1,if_pos hk];simp
 | p::P,w::vs,i+1,m,nd,h1,h2,hk=>by
   show zV kindOf ((p,w)::P.zip vs) m x=_;unfold zV;exact jJF (i:=i) (fF.mp nd).2 (by simpa using h1) (by simpa using h2) hk
theorem jJG{kindOf:Str->Option NameKind}{x:Str}{v:Value}:∀ {P:List Str} {vs:List Value} {i:Nat} {m:Str->Option Value},P.Nodup->P[i]?=some x->vs[i]?=some v->kindOf x≠some .local ->
 zW kindOf (P.zip vs) m x=some v
 | [],_,_,_,_,h,_,_=>by simp at h
 | _::_,[],_,_,_,_,h,_=>by simp at h
 | p::P,w::vs,0,m,nd,h1,h2,hk=>by
   simp at h1 h2;subst h1;subst h2;show zW kindOf ((p,w)::P.zip vs) m p=_;unfold zW;rw [jJE fun v hv=>(fF.mp nd).1 (pW hv).1,if_neg hk];simp
 | p::P,w::vs,i+1,m,nd,h1,h2,hk=>by
   show zW kindOf ((p,w)::P.zip vs) m x=_;unfold zW;exact jJG (i:=i) (fF.mp nd).2 (by simpa using h1) (by simpa using h2) hk
noncomputable def start(N:List Str)(vs:List V):St:=vs.map some++gC (N.length-vs.length) none
noncomputable def jFo(CX:CXT)(P:Program)(w:World)(K:PySem.W.Frag)(mg:Str->Option Value)(base:Heap)(N:List Str)(qual:Str)(scope:Scope)(f:Addr)(cd:Value)(A:Around)(outer:List Env)(s:Shared)(H:Hp)(E:XK):Cx where
 prog:=P
 w:=w
 K:=K
 mg:=mg
 base:=base
 A:=A.deeper (oF qual scope s.heap.objs.size f cd)
 N:=N
 s₀:=s
 H₀:=H
 env:=oF qual scope s.heap.objs.size f cd
 outer:=outer
 stack:=oF qual scope s.heap.objs.size f cd::outer
 ex:=[]
 calm:=true
 fn:=fun _=>true
 pn:=[]
 xe:=fun e s'=>dM (dQ P w) (A.deeper (oF qual scope s.heap.objs.size f cd)) («leaving» (oF qual scope s.heap.objs.size f cd) e) (fun _ s''=>CX outer H s E e s'') (fun e' s''=>CX outer H s E e' s'') s'
theorem jKK{sc:Scope}{n:Nat}{x:Str}(h:sc.names.lookup x=some .cell):∃ c,(cellsFrom n sc.names []).lookup x=some c:=by
 have q:=o5 sc.names n [] (.inl h);exact gN.mp q
theorem jOk{CX:CXT}{P:Program}{w:World}{K:PySem.W.Frag}{mg:Str->Option Value}{base:Heap}{N ps:List Str}{qual:Str}{scope:Scope}{f:Addr}{cd:Value}{A:Around}{outer:List Env}{s s1:Shared}{H:Hp}{E:XK}{us:List Value}{vs:List V}
 (S:jCt N ps scope) (hd:A.handled=none) (e0:jEY P w K mg base A outer s H) (hl:vs.length=ps.length) (r:iH vs us)
 (x:InCallC s s.heap.objs.size (zV (oF qual scope s.heap.objs.size f cd).kindOf (ps.zip us) fun _=>none) (cellsFrom (s.heap.objs.size+1) scope.names []) (zW (oF qual scope s.heap.objs.size f cd).kindOf (ps.zip us) fun _=>none) s1) :
 Inv (jFo CX P w K mg base N qual scope f cd A outer s H E) [] (start N vs) H s1:=by
 have nR:ps.length<=N.length:=by have:=congrArg List.length S.pre;rw [gD] at this;omega
 obtain⟨h1,tk,rfl,hk⟩:=x.done;have noA:∀ b:Addr,b ∉ (jFo CX P w K mg base N qual scope f cd A outer s H E).ex:=fun b z=>absurd (show b∈([]:List Addr) from z) (by simp)
 refine⟨⟨e0.mod,S.kind,rfl,rfl,Nat.le_refl _,fun y z c h1 h2=>?_,fun y hy=>?_,fun y c _ h=>?_,fun _=>hd,Around.frames_deeper e0.frames,.inr ⟨rfl,rfl⟩,fun b z=>absurd z (noA b),e0.bs,e0.bsz,fun b _ _=>noA b,fun b z=>absurd z (noA b),e0.funs,e0.frf⟩,
  rfl,e0.bare,Un.kept hk,⟨_,x.toInCall.ns,fun i y v h1 h2 h3=>?_⟩,fun y c h=>⟨_,x.cell y c h⟩,e0.hok.fresh (Nat.le_refl _),fun y c h=>?_,fun p hp=>absurd (show p∈([]:List (Addr×Obj)) from hp) (by simp),e0.hok.kept hk,?_⟩
 ·exact name_of_addr x.apart (PySem.mem_of_lookup h1) (PySem.mem_of_lookup h2)
 ·have hy:scope.names.lookup y=some .cell\/scope.names.lookup y=some .free:=hy;rcases hy with hy|hy
  ·exact jKK hy
  ·exact absurd rfl (S.nofree _ (PySem.mem_of_lookup hy))
 ·exact le_of_lt (x.above y c (PySem.mem_of_lookup h))
 ·have hi:i<vs.length:=by
   unfold start at h2;by_cases hi:i<vs.length
   ·exact hi
   ·rw [getElem?_append_right (by simpa using hi)] at h2;rw [List.getElem?_replicate] at h2;split at h2<;>cases h2
  have ha:vs[i]?=some v:=by
   unfold start at h2;rw [getElem?_append_left (by simpa using hi),getElem?_map] at h2;cases e:vs[i]? with
   | none=>rw [e] at h2;cases h2
   | some a=>rw [e] at h2;cases h2;rfl
  obtain⟨u,hu,rv⟩:=r.get ha;have hp:ps[i]?=some y:=by
   rw [<- S.pre,List.getElem?_take_of_lt (by omega)];exact h1
  have ndP:ps.Nodup:=by rw [<- S.pre];exact S.nd.sublist (List.take_sublist _ _)
  exists u,rv;rcases S.par y (mem_of_getElem? hp) with k|k
  ·exact .inl ⟨k,jJF ndP hp hu k⟩
  ·obtain⟨c,e⟩:=jKK (n:=s.heap.objs.size+1) k;refine .inr ⟨.inl k,c,e,?_⟩;have q:=x.cell y c e;rw [jJG ndP hp hu (by show scope.names.lookup y≠_;rw [k];decide)] at q;exact q
 ·exact e0.hok.fresh (le_of_lt (x.above y c (PySem.mem_of_lookup h)))
 ·unfold start;show _=N.length;rw [length_append,c7,List.length_replicate];omega
theorem fn_of{CX:CXT}{P:Program}{w:World}{K:PySem.W.Frag}{mg:Str->Option Value}{base:Heap}{k:Nat}{f:Addr}{name qual:Str}{params:Arguments}{body:List Stmt}{scope:Scope}{dV kV pC pm lC ct oc:Value}{an od:Option Addr}
 {uJ:Array (Option Value)} {N ps:List Str} {sp:Sp} (lk:K.lookup f=some ⟨oc,od,.func (uO name qual params body scope dV kV pC pm an lC ct),uJ⟩) (pA:qF K lC qual=true) (S:jCt N ps scope)
 (len:∀ vs H Q E,sp vs H Q E->vs.length=ps.length)
 (oB:∀ (A:Around) (outer:List Env) (s:Shared) (H:Hp) (vs:List V) (Q:VK) (E:XK),kX k (A.deeper (oF qual scope s.heap.objs.size f lC))->sp vs H Q E ->
  ∃ t,PSs (jFo CX P w K mg base N qual scope f lC A outer s H E) body t/\t { nx:=fun _ H'=>Q .non H',rt:=Q } (start N vs) H) :
 m8 P w K mg base CX (k+1) f (uO name qual params body scope dV kV pC pm an lC ct) ps sp:=by
 refine⟨len,fun A outer s H args us vs Q E hr e0 hb r x0=>?_⟩;have hl:=len _ _ _ _ x0;have KX:K.In s.heap:=e0.mod.kin.keeps fun b o e=>(e0.bs b o e).1;have lim:s.heap.NoLimit:=e0.mod.nolimit.keeps fun b o e=>(e0.bs b o e).1;have hkind:∀ y∈ps.zip us,scope.names.lookup y.1=some .local\/(scope.names.lookup y.1=some .cell/\((cellsFrom (s.heap.objs.size+1) scope.names []).lookup y.1).isSome=true):=fun⟨n,v⟩ hy=>by
  rcases S.par n (pW hy).1 with q|q
  ·exact .inl q
  ·exact .inr ⟨q,o5 _ _ _ (.inl q)⟩
 refine codeAny_call_function hr.depth (KX _ _ lk) rfl S.co S.gen rfl (PySem.W.codeRec_of KX pA) (hb _ _ _ _ ?_);refine wpAny_newFunctionEnv_cells S.kind hkind fun env he s1 x=>?_;subst he;refine⟨lim.keeps x.toInCall.keep,codeAny_func ?_⟩;obtain⟨t,ht,hq⟩:=oB A outer s H vs Q E (hr.deeper _) x0;have I:Inv (jFo CX P w K mg base N qual scope f lC A outer s H E) [] (start N vs) H s1:=jOk S hr.hd e0 hl r x;refine e8 (ht [] s1 (start N vs) H _ I hq) (fun fl s' hs=>?_) fun e s' hs=>hs;have fin:∀ {σ':St} {H':Hp} {v:V} {u:Value},Inv (jFo CX P w K mg base N qual scope f lC A outer s H E) [] σ' H' s'->g9 v u->Q v H'->CE outer P w H s Q u s' :=
  fun {σ' H' v u} J rv q=>⟨v,H',J.os,J.bare,J.base,J.hok,rv,q⟩
 cases fl with
 | ret u =>
   obtain⟨v,σ',H',J,rv,q⟩:=hs;exact fin J rv q
 | next =>
   obtain⟨σ',H',J,q⟩:=hs;exact fin (v:=V.non) (u:=Value.none) J rfl q
 | brk =>
   obtain⟨_,_,_,q⟩:=hs;exact False.elim q
 | cont =>
   obtain⟨_,_,_,q⟩:=hs;exact False.elim q
section
variable {X:Cx}{x:Str}{p pos:Pos}{e:Expr}{es:List Expr}{t:TA}{id T:String}{r:List V->Hp->VK->Prop}
noncomputable def tCB(r:List V->Hp->VK->Prop)(t:TA):TE:=fun σ H Q=>t σ H fun vs H1=>r vs H1 Q
theorem nK(hc:CallR X (.builtin id) r)(hg:Gl X x)(hm:X.mg x=none)(hv:fJ x=some (.builtin id))(ha:PA X (e::es) t)(hn:x≠"__name__":=by decide)(qR:(x==("__debug__":Str))=false:=by decide) 
 (he:dO (e::es) X.env=(false,fA e X.env)::dO es X.env:=by rfl) (nR:(gH pos (dO es X.env)).any (·.1)=false:=by rfl):PE X (.Call (.Name x p) (e::es) [] pos) (tCB r t):=by
 intro b9 s σ H Q I h;refine gF (y7 I hg hm hv ?_ hn qR);exact PyProof.Rows.callWith_builtin1 (thn (ha pos b9 s σ H _ I h) fun us s1 ⟨vs,H1,I1,r1,q1⟩=>hc b9 s1 σ H1 vs us Q I1 r1 q1) he nR
theorem rG(hc:CallR X (.type T) r)(hg:Gl X x)(hm:X.mg x=none)(hv:fJ x=some (.type T))(ha:PA X (e::es) t)(hn:x≠"__name__":=by decide)(qR:(x==("__debug__":Str))=false:=by decide) 
 (he:dO (e::es) X.env=(false,fA e X.env)::dO es X.env:=by rfl) (nR:(gH pos (dO es X.env)).any (·.1)=false:=by rfl):PE X (.Call (.Name x p) (e::es) [] pos) (tCB r t):=by
 intro b9 s σ H Q I h;refine gF (y7 I hg hm hv ?_ hn qR);exact PyProof.Rows.callWith_type1 (thn (ha pos b9 s σ H _ I h) fun us s1 ⟨vs,H1,I1,r1,q1⟩=>hc b9 s1 σ H1 vs us Q I1 r1 q1) he nR
end
end L2
namespace HT
open PySem PyProof.Rows
section
open PySem.SeqAt
open PySem.AutoSeq1 (wpAny_loadPart')
open PySem.MeetsSeq PySem.MeetsSeq2 PySem.MeetsSeq3
end
section
variable {prog:Program}{w:World}{A:Around}{E:Value->Shared->Prop}{s:Shared}
noncomputable def sIx(n d:Nat):Option Int->Nat
 | none=>d
 | some v=>if v<0 then (v+(n:Int)).toNat else min v.toNat n
theorem sIx_none(n d:Nat):sIx n d none=d:=rfl
theorem sIx_nat(n d k:Nat):sIx n d (some (k:Int))=min k n:=by
 show (if (k:Int)<0 then ((k:Int)+(n:Int)).toNat else min (k:Int).toNat n)=min k n;rw [if_neg (by omega),Int.toNat_natCast]
end
end HT
namespace L2
open PySem PySem.Spec PyProof.Rows
noncomputable abbrev TO:=St->Hp->(Option Int->Hp->Prop)->Prop
noncomputable def PO(X:Cx)(e:Option Expr)(t:TO):Prop :=
 ∀ (b9:List (Addr×Obj)) (s:Shared) (σ:St) (H:Hp) (Q:Option Int->Hp->Prop),Inv X b9 σ H s->t σ H Q ->
  dM (dQ X.prog X.w) X.A (evalPart e X.env) (fun u s'=>∃ o H',Inv X b9 σ H' s'/\IsPart u o/\Q o H') X.xe s
noncomputable def tNoPart:TO:=fun _ H Q=>Q none H
noncomputable def tPart(t:TE):TO:=fun σ H Q=>t σ H fun x H1=>∃ i,x=.int i/\Q (some i) H1
section
variable {X:Cx}{e:Expr}{te:TE}{lo hi:Option Expr}{tl th:TO}{pos p2:Pos}
theorem jCK:PO X none tNoPart:=by
 intro b9 s σ H Q I h;rw [evalPart_none];exact dP ⟨none,H,I,.none,h⟩
theorem jCL(h:PE X e te):PO X (some e) (tPart te):=by
 intro b9 s σ H Q I hw;rw [evalPart_some];refine thn (h b9 s σ H _ I hw) fun u s1 ⟨x,H1,I1,r1,q1⟩=>?_;obtain⟨i,rfl,q⟩:=q1;obtain⟨t,rfl⟩:=r1;exact⟨some i,H1,I1,.int i t,q⟩
noncomputable def SlR(X:Cx)(r:V->Option Int->Option Int->Hp->VK->Prop):Prop :=
 ∀ (b9:List (Addr×Obj)) (s:Shared) (σ:St) (H:Hp) (x:V) (v vl vu:Value) (lo hi:Option Int) (sl:Addr) (Q:VK),Inv X b9 σ H s->g9 x v->s.heap.IsSliceOf sl vl vu .none->IsPart vl lo->IsPart vu hi->r x lo hi H Q ->
  ∃ T id,typeLookup (.type T) "__getitem__"=pure (some (.builtin id))/\s.TypeIs v T/\dM (dQ X.prog X.w) X.A (wB v (.ref sl)) (EP X b9 σ Q) X.xe s
noncomputable def tSl(r:V->Option Int->Option Int->Hp->VK->Prop)(te:TE)(tl th:TO):TE:=fun σ H Q=>te σ H fun x H1=>tl σ H1 fun l H2=>th σ H2 fun u H3=>r x l u H3 Q
theorem jCj(hr:SlR X r)(he:PE X e te)(hl:PO X lo tl)(hu:PO X hi th):PE X (.Subscript e (.Slice lo hi none p2) pos) (tSl r te tl th):=by
 intro b9 s σ H Q I h;refine Subscript_ (thn (he b9 s σ H _ I h) fun v s1 ⟨x,H1,I1,r1,q1⟩=>?_);refine wpAny_Slice (thn (hl b9 s1 σ H1 _ I1 q1) fun vl s2 ⟨l,H2,I2,pl,q2⟩=>thn (hu b9 s2 σ H2 _ I2 q2) fun vu s3 ⟨u,H3,I3,pu,q3⟩=>?_);rw [evalPart_none];refine dP ?_;have I4:Inv X b9 σ H3 { s3 with heap:=s3.heap.push { cls:=.type "slice",data:=.fields #[vl,vu,.none] } }:=I3.kept (t':=s3.toks) fun b ob q=>get?_push_of_some _ q;obtain⟨T,id,hT,ht,hg⟩:=hr b9 { s3 with heap:=s3.heap.push { cls:=.type "slice",data:=.fields #[vl,vu,.none] } } σ H3 x v vl vu l u s3.heap.objs.size Q I4 r1 (Heap.IsSliceOf.new ..) pl pu q3;show dM (dQ X.prog X.w) X.A (yD e (.Slice lo hi none p2) v (.ref s3.heap.objs.size)) (EP X b9 σ Q) X.xe { s3 with heap:=s3.heap.push { cls:=.type "slice",data:=.fields #[vl,vu,.none] } };exact tail_any (ops:=[.ref s3.heap.objs.size,v]) ht hT hg (by with_unfolding_all rfl)
noncomputable def tG(xs:List V)(lo hi:Option Int):List V:=(xs.drop (HT.sIx xs.length 0 lo)).take (HT.sIx xs.length xs.length hi-HT.sIx xs.length 0 lo)
theorem jLS(xs:List V)(lo hi:Option Int):(tG xs lo hi).length<=xs.length:=by
 unfold tG;rw [gD,jJ];omega
end
noncomputable def ixN(n:Nat)(i:Int):Option Nat:=if 0<=i then (if i<n then some i.toNat else none) else if -(n:Int)<=i then some (i+n).toNat else none
noncomputable def atI{α:Type}(xs:List α)(i:Int):Option α:=(ixN xs.length i).bind fun j=>xs[j]?
theorem jMD(h:ixN n i=some j):seqIndex? i n=some j/\j<n/\-(n:Int)<=i/\i<n:=by
 unfold ixN at h;by_cases h0:0<=i
 ·rw [if_pos h0] at h;by_cases h1:i<n
  ·rw [if_pos h1] at h;have e:i.toNat=j:=Option.some.inj h;exact⟨by rw [uI h0 h1,e],by omega,by omega,h1⟩
  ·rw [if_neg h1] at h;cases h
 ·rw [if_neg h0] at h;by_cases h1:-(n:Int)<=i
  ·rw [if_pos h1] at h;have e:(i+n).toNat=j:=Option.some.inj h;exact⟨by rw [seqIndex_neg (by omega) h1,e],by omega,h1,by omega⟩
  ·rw [if_neg h1] at h;cases h
theorem jI7(h:atI xs i=some v):∃ j,seqIndex? i xs.length=some j/\xs[j]?=some v/\j<xs.length/\-(xs.length:Int)<=i/\i<xs.length:=by
 unfold atI at h;cases e:ixN xs.length i with
 | none=>rw [e] at h;cases h
 | some j =>
   rw [e] at h;obtain⟨h1,h2,h3,h4⟩:=jMD e;exact⟨j,h1,h,h2,h3,h4⟩
theorem o9{α:Type}{xs:List α}{j:Nat}{v:α}(h:xs[j]?=some v):atI xs (j:Int)=some v:=by
 have hj:j<xs.length:=(List.getElem?_eq_some_iff.mp h).1;have e:ixN xs.length (j:Int)=some j:=by
  unfold ixN;rw [if_pos (by omega),if_pos (by omega)];simp
 unfold atI;rw [e];exact h
theorem jHx(xs:List α)(v:α):atI (xs++[v]) (-1)=some v:=by
 have hl:(xs++[v]).length=xs.length+1:=by simp
 have e:ixN (xs++[v]).length (-1)=some xs.length:=by
  unfold ixN;rw [hl,if_neg (by decide),if_pos (by omega)];congr 1;omega
 unfold atI;rw [e];show (xs++[v])[xs.length]?=some v;simp
noncomputable def jI8(b:Expr):Prop:=∀ o i,uH b false o i=operate [o,i] (wB o i)
noncomputable def IxR(X:Cx)(r:R2):Prop :=
 ∀ (value slice:Expr) (b9:List (Addr×Obj)) (s:Shared) (σ:St) (H:Hp) (x y:V) (v u:Value) (Q:VK),Inv X b9 σ H s->g9 x v->g9 y u->r x y H Q ->
  uH slice false v u=operate [v,u] (wB v u)->dM (dQ X.prog X.w) X.A (yD value slice v u) (EP X b9 σ Q) X.xe s
noncomputable def MtR(X:Cx)(id:String)(r:V->List V->Hp->VK->Prop):Prop :=
 ∀ (b9:List (Addr×Obj)) (s:Shared) (σ:St) (H:Hp) (x:V) (xs:List V) (v:Value) (us:List Value) (Q:VK),Inv X b9 σ H s->g9 x v->iH xs us->r x xs H Q ->
  dM (dQ X.prog X.w) X.A (call (.builtin id) (v::us)) (EP X b9 σ Q) X.xe s
section
variable {X:Cx}{a b:Expr}{ta tb:TE}{pos:Pos}
theorem pe_ix(hr:IxR X r)(ha:PE X a ta)(hb:PE X b tb)(hs:jI8 b):PE X (.Subscript a b pos) (tOp r ta tb):=by
 intro b9 s σ H Q I h;exact Subscript_ (binT ha hb I h fun v u s2 x y H2 I2 rx ry q=>hr a b b9 s2 σ H2 x y v u Q I2 rx ry q (hs _ _))
inductive rIxL(K:PySem.W.Frag)(x:V)(y:V)(H:Hp)(Q:VK):Prop|mk p xs i v:x=.ref p->y=.int i->SqL K H p xs->atI xs i=some v->Q v H->rIxL K x y H Q
inductive rIxT(K:PySem.W.Frag)(x:V)(y:V)(H:Hp)(Q:VK):Prop|mk p xs i v:x=.ref p->y=.int i->SqT K H p xs->atI xs i=some v->Q v H->rIxT K x y H Q
inductive rIxS(x:V)(y:V)(H:Hp)(Q:VK):Prop|mk z i c:x=.str z->y=.int i->z.length<=dL->atI z.cps.toList i=some c->Q (.str ⟨#[c]⟩) H->rIxS x y H Q
theorem jCM:IxR X (rIxL X.K):=by
 intro value slice b9 s σ H x y v u Q I rx ry h hs;obtain⟨p,xs,i,z,rfl,rfl,hq,he,q⟩:=h;cases rx;obtain⟨t,rfl⟩:=ry;obtain⟨its,r,pl,hz⟩:=I.list hq;obtain⟨j,h1,h2,h3,h4,h5⟩:=jI7 he;obtain⟨w,ew,rD⟩:=r.get h2;have hl:=r.length;have hn:=jD9;have fin:EP X b9 σ Q w s:=⟨z,H,I,rD,q⟩
 by_cases h0:0<=i
 ·have hj:i.toNat=j:=by
   rw [uI h0 h5] at h1;exact Option.some.inj h1
  exact item_listR pl.isList h0 (by omega) (by rw [hj];simpa using ew) fin hs
 ·have hj:(i+(its.toArray.size:Int)).toNat=j:=by
   rw [seqIndex_neg (by omega) h4] at h1;rw [dS,<- hl];exact Option.some.inj h1
  exact z5 (x:=w) pl.isList.typeIs slot_list_getitem.lookup
   (wpAny_getItem_list_neg (Q:=fun r s'=>r=w/\EP X b9 σ Q r s') pl.isList (by omega) (by rw [dS]<;>omega) (by omega) (by rw [hj];simpa using ew) ⟨rfl,fin⟩) hs
theorem pZ:IxR X (rIxT X.K):=by
 intro value slice b9 s σ H x y v u Q I rx ry h hs;obtain⟨p,xs,i,z,rfl,rfl,hq,he,q⟩:=h;cases rx;obtain⟨t,rfl⟩:=ry;obtain⟨its,r,pl,hz⟩:=I.tuple hq;obtain⟨j,h1,h2,h3,h4,h5⟩:=jI7 he;obtain⟨w,ew,rD⟩:=r.get h2;have hl:=r.length;have hn:=jD9;have fin:EP X b9 σ Q w s:=⟨z,H,I,rD,q⟩
 exact z5 (x:=w) pl.typeIs slot_tuple_getitem.lookup
  (getItem_tuple (j:=j) (Q:=fun r s'=>r=w/\EP X b9 σ Q r s') pl (by omega) (by omega) (by rw [dS,<- hl];exact h1) (by simpa using ew) ⟨rfl,fin⟩) hs
theorem jKL:IxR X rIxS:=by
 intro value slice b9 s σ H x y v u Q I rx ry h hs;obtain⟨z,i,c,rfl,rfl,hz,he,q⟩:=h;obtain⟨t,rfl⟩:=rx;obtain⟨t',rfl⟩:=ry;obtain⟨j,h1,h2,h3,h4,h5⟩:=jI7 he;have hl:z.cps.toList.length=z.length:=by simp [Str.length]
 rw [hl] at h1 h4 h5;have hn:=jD9
 exact tail_any (nU s z t) slot_str_getitem.lookup (getItem_str (c:=c) (by
  have e1:decide (i < -(2^63:Int))=false:=decide_eq_false (by omega);have e2:decide (i >= 2^63)=false:=decide_eq_false (by omega)
  rw [e1,e2,Bool.or_false]) (by rw [h1];simpa using h2) ⟨.str ⟨#[c]⟩,H,I.tok _,⟨_,rfl⟩,q⟩) hs
theorem jNm(its:List Value)(n j:Nat)(u:Value):m6 (·.setIfInBounds j u) { cls:=.type "list",data:=.seq its.toArray n }={ cls:=.type "list",data:=.seq (its.set j u).toArray n }:=by
 simp [m6]
theorem Inv.lst(I:Inv X b9 σ H s)(h:H p=some (.lst xs)) :
 ∃ (its:List Value) (n:Nat),iH xs its/\s.heap.get? p=some { cls:=.type "list",data:=.seq its.toArray n }/\xs.length<=dL:=by
 obtain⟨z,its,n,r,e⟩:=I.hok p _ h;exact⟨its,n,r,e,z⟩
theorem Inv.lstUpd{b9:List (Addr×Obj)}{σ:St}{H:Hp}{s:Shared}{p:Addr}{xs ys:List V}{its its':List Value}{n n':Nat}{f:Obj->Obj}(I:Inv X b9 σ H s)(h:H p=some (.lst xs))
 (ho:s.heap.get? p=some { cls:=.type "list",data:=.seq its.toArray n }) (hf:f { cls:=.type "list",data:=.seq its.toArray n }={ cls:=.type "list",data:=.seq its'.toArray n' }) (r:iH ys its') (hz:ys.length<=dL) (t:Nat) :
 Inv X b9 σ (upd H p (.lst ys)) { s with heap:=s.heap.update p f,toks:=t }:=by
 have e:(s.heap.update p f).get? p=some { cls:=.type "list",data:=.seq its'.toArray n' }:=by
  rw [get?_update_self f ho (by rw [hf]<;>rfl),hf]
 refine I.write (x:=p) (e:=p) (by rw [h];trivial) (.inl rfl) (fun b u hb q=>(get?_update_other _ _ (symm hb)).trans q) ⟨_,e⟩ ?_;exact⟨hz,its',n',r,e⟩
inductive rSetL(o:V)(i:V)(v:V)(H:Hp)(Q:Hp->Prop):Prop|mk p xs k j:o=.ref p->i=.int k->H p=some (.lst xs)->ixN xs.length k=some j->Q (upd H p (.lst (xs.set j v)))->rSetL o i v H Q
theorem jPx:PSet X rSetL:=by
 intro b9 s σ H o i v ov iv u Q I ro ri rv h;obtain⟨p,xs,k,j,rfl,rfl,hp,hj,q⟩:=h;cases ro;obtain⟨t,rfl⟩:=ri;obtain⟨its,n,r,ho,hz⟩:=I.lst hp;obtain⟨h1,h2,h3,h4⟩:=jMD hj;have hl:=r.length;have hn:=jD9;have I':Inv X b9 σ (upd H p (.lst (xs.set j v))) { s with heap:=s.heap.update p (m6 (·.setIfInBounds j u)) } :=
  I.lstUpd hp ho (jNm its n j u) (r.set rv j) (by rw [m7];exact hz) s.toks
 by_cases h0:0<=k
 ·have hk:k.toNat=j:=by
   rw [uI h0 h4] at h1;exact Option.some.inj h1
  exact PySem.W.ki_setAt ho h0 (by omega) (by rw [dS,<- hl];exact h4) (by rw [hk];exact⟨_,I',q⟩)
 ·have hk:(k+(its.toArray.size:Int)).toNat=j:=by
   rw [seqIndex_neg (by omega) h3] at h1;rw [dS,<- hl];exact Option.some.inj h1
  exact PySem.W.ki_setBack ho (by omega) (by rw [dS,<- hl];exact h3) (by omega) (by rw [hk];exact⟨_,I',q⟩)
theorem jKM(lo hi:Option Int)(n:Nat):(lA lo hi none n).1=((HT.sIx n 0 lo:Nat):Int)/\(lA lo hi none n).2.1=((HT.sIx n n hi:Nat):Int)/\(lA lo hi none n).2.2=1:=by
 refine⟨?_,?_,rfl⟩
 ·cases lo with
  | none=>simp [lA,HT.sIx]
  | some i =>
    simp only [lA,HT.sIx,w9,show (1:Int) > 0 by decide,if_true];by_cases h:i<0
    ·simp only [h,if_true]<;>omega
    ·simp only [h,if_false]<;>omega
 ·cases hi with
  | none=>simp [lA,HT.sIx]
  | some i =>
    simp only [lA,HT.sIx,w9,show (1:Int) > 0 by decide,if_true];by_cases h:i<0
    ·simp only [h,if_true]<;>omega
    ·simp only [h,if_false]<;>omega
theorem jKc(its:List Value)(lo hi:Option Int):slicePick its.toArray lo hi none=((its.drop (HT.sIx its.length 0 lo)).take (HT.sIx its.length its.length hi-HT.sIx its.length 0 lo)).toArray:=by
 obtain⟨h1,h2,h3⟩:=jKM lo hi its.toArray.size;unfold slicePick;rw [h1,h2,h3];simp only [sliceRange_one,pick_run,dS]<;>rfl
inductive rSlL(K:PySem.W.Frag)(x:V)(lo:Option Int)(hi:Option Int)(H:Hp)(Q:VK):Prop|mk a xs:x=.ref a->SqL K H a xs->(∀ p,H p=none->Q (.ref p) (upd H p (.lst (tG xs lo hi))))->rSlL K x lo hi H Q
theorem jGS:SlR X (rSlL X.K):=by
 intro b9 s σ H x v vl vu lo hi sl Q I rx hs pl pu h;obtain⟨a,xs,rfl,hx,q⟩:=h;cases rx;obtain⟨its,r,ht,hz⟩:=I.list hx;have j5:=r.length;exists "list",_,slot_list_getitem.lookup,ht.isList.typeIs;refine wpAny_getItem_list_slice ht.isList hs pl pu .none (by simp) ?_ (by rw [dS]<;>omega);rw [jKc,<- j5];refine⟨.ref s.heap.objs.size,_,I.laid (t':=s.toks) (o:=.lst (tG xs lo hi)) (fun b ob q=>get?_push_of_some _ q) (Nat.le_refl _) ?_,rfl,q _ (I.hok.fresh (Nat.le_refl _))⟩;exact⟨eM (jLS xs lo hi) hz,_,0,(r.drop (HT.sIx xs.length 0 lo)).take (HT.sIx xs.length xs.length hi-HT.sIx xs.length 0 lo),get?_push_size _ rfl⟩
noncomputable def tJ:V->Bool
 | .non=>true
 | .bl _=>true
 | .int _=>true
 | .str _=>true
 | _=>false
noncomputable def eqV:V->V->Bool
 | .non,.non=>true
 | .bl a,.bl b=>a==b
 | .bl a,.int b=>(if a then 1 else 0)==b
 | .int a,.bl b=>a==(if b then 1 else 0)
 | .int a,.int b=>a==b
 | .str a,.str b=>a==b
 | _,_=>false
theorem jIa(ry:g9 y u)(rx:g9 x v)(fy:tJ y=true)(fx:tJ x=true):SeqAt.EqAt A s u v (eqV y x):=by
 cases y with
 | non =>
   cases ry;cases x with
   | non=>cases rx;exact SeqAt.EqAt.same _
   | bl b=>cases rx;exact SeqAt.EqAt.none_bool b
   | int b=>obtain⟨t,rfl⟩:=rx;exact SeqAt.EqAt.none_int b t
   | str b=>obtain⟨t,rfl⟩:=rx;exact SeqAt.EqAt.none_str b t
   | _=>exact absurd (show false=true from fx) Bool.false_ne_true
 | bl a =>
   cases ry;cases x with
   | non=>cases rx;exact SeqAt.EqAt.bool_none a
   | bl b=>cases rx;exact SeqAt.EqAt.bool_bool a b
   | int b=>obtain⟨t,rfl⟩:=rx;exact SeqAt.EqAt.bool_int a b t
   | str b=>obtain⟨t,rfl⟩:=rx;exact SeqAt.EqAt.bool_str a b t
   | _=>exact absurd (show false=true from fx) Bool.false_ne_true
 | int a =>
   obtain⟨t',rfl⟩:=ry;cases x with
   | non=>cases rx;exact SeqAt.EqAt.int_none a t'
   | bl b=>cases rx;exact SeqAt.EqAt.int_bool a t' b
   | int b=>obtain⟨t,rfl⟩:=rx;exact SeqAt.EqAt.int_int a t' b t
   | str b=>obtain⟨t,rfl⟩:=rx;exact SeqAt.EqAt.int_str a t' b t
   | _=>exact absurd (show false=true from fx) Bool.false_ne_true
 | str a =>
   obtain⟨t',rfl⟩:=ry;cases x with
   | non=>cases rx;exact SeqAt.EqAt.str_none a t'
   | bl b=>cases rx;exact SeqAt.EqAt.str_bool a t' b
   | int b=>obtain⟨t,rfl⟩:=rx;exact SeqAt.EqAt.str_int a t' b t
   | str b=>obtain⟨t,rfl⟩:=rx;exact SeqAt.EqAt.str_str a t' b t
   | _=>exact absurd (show false=true from fx) Bool.false_ne_true
 | _=>exact absurd (show false=true from fy) Bool.false_ne_true
noncomputable def eqU(x:V)(u:Value):Bool:=match u with
 | .none=>eqV .non x
 | .bool b=>eqV (.bl b) x
 | .int i _=>eqV (.int i) x
 | .str z _=>eqV (.str z) x
 | _=>false
theorem jOl(r:g9 y u)(f:tJ y=true):eqU x u=eqV y x:=by
 cases y with
 | non=>cases r;rfl
 | bl b=>cases r;rfl
 | int i=>obtain⟨t,rfl⟩:=r;rfl
 | str z=>obtain⟨t,rfl⟩:=r;rfl
 | _=>exact absurd (show false=true from f) Bool.false_ne_true
theorem jE2:∀ {xs:List V} {us:List Value},iH xs us->xs.all tJ=true->us.any (eqU x)=xs.any fun y=>eqV y x
 | _,_,.nil,_=>rfl
 | y::xs,u::us,.cons r t,f=>by
   rw [uP,eK] at f;rw [mX,mX,jOl r f.1,jE2 t f.2]
theorem jD_(rx:g9 x v)(fx:tJ x=true):∀ {xs:List V} {us:List Value},iH xs us->xs.all tJ=true->∀ u∈us,SeqAt.EqAt A s u v (eqU x u)
 | _,_,.nil,_=>fun u hu=>by cases hu
 | y::xs,u::us,.cons r t,f=>fun u' hu=>by
   rw [uP,eK] at f;rcases dX.mp hu with rfl|hu
   ·rw [jOl r f.1];exact jIa r rx f.1 fx
   ·exact jD_ rx fx t f.2 u' hu
noncomputable def inV(x:V)(xs:List V):Bool:=xs.any fun y=>eqV y x
inductive rIn(K:PySem.W.Frag)(neg:Bool)(x:V)(y:V)(H:Hp)(Q:VK):Prop|mk p xs:y=.ref p->(SqL K H p xs\/SqT K H p xs)->tJ x=true->xs.all tJ=true->Q (.bl (if neg then !inV x xs else inV x xs)) H->rIn K neg x y H Q
theorem jB4:OpR X (fB .In) (rIn X.K false):=by
 intro b9 s σ H x y v u Q I rx ry h;obtain⟨p,xs,rfl,hq,fx,fs,q⟩:=h;cases ry;rcases hq with hq|hq
 ·obtain⟨its,r,pl,hz⟩:=I.list hq;refine SeqAt.in_listAt (eqU x) pl.isList (fun w hw=>jD_ rx fx r fs w (by simpa using hw)) ⟨.bl _,H,I,rfl,?_⟩;rw [show its.toArray.any (eqU x)=its.any (eqU x) by simp,jE2 r fs];exact q
 ·obtain⟨its,r,pl,hz⟩:=I.tuple hq;refine SeqAt.in_tupleAt (eqU x) pl (fun w hw=>jD_ rx fx r fs w (by simpa using hw)) ⟨.bl _,H,I,rfl,?_⟩;rw [show its.toArray.any (eqU x)=its.any (eqU x) by simp,jE2 r fs];exact q
theorem jF7:OpR X (fB .NotIn) (rIn X.K true):=by
 intro b9 s σ H x y v u Q I rx ry h;obtain⟨p,xs,rfl,hq,fx,fs,q⟩:=h;cases ry;rcases hq with hq|hq
 ·obtain⟨its,r,pl,hz⟩:=I.list hq;refine SeqAt.notIn_listAt (eqU x) pl.isList (fun w hw=>jD_ rx fx r fs w (by simpa using hw)) ⟨.bl _,H,I,rfl,?_⟩;rw [show its.toArray.any (eqU x)=its.any (eqU x) by simp,jE2 r fs];exact q
 ·obtain⟨its,r,pl,hz⟩:=I.tuple hq;refine SeqAt.notIn_tupleAt (eqU x) pl (fun w hw=>jD_ rx fx r fs w (by simpa using hw)) ⟨.bl _,H,I,rfl,?_⟩;rw [show its.toArray.any (eqU x)=its.any (eqU x) by simp,jE2 r fs];exact q
theorem vW:CallR X (.builtin "len") (fun xs H Q=>∃ p ys,xs=[.ref p]/\(SqL X.K H p ys\/SqT X.K H p ys)/\Q (.int ys.length) H):=by
 intro b9 s σ H xs us Q I r h;obtain⟨p,ys,rfl,hq,q⟩:=h;obtain⟨u,rfl,rx⟩:=tK r;cases rx;have hn:=jD9;rcases hq with hq|hq
 ·obtain⟨its,r',pl,hz⟩:=I.list hq;have j5:=r'.length;exact Calls.call_len_list pl.isList (by simp only [dS]<;>omega) ⟨.int ys.length,H,I.tok _,⟨s.toks+1,by rw [dS,j5]⟩,q⟩
 ·obtain⟨its,r',pl,hz⟩:=I.tuple hq;have j5:=r'.length;exact len_tuple pl (by simp only [dS]<;>omega) ⟨.int ys.length,H,I.tok _,⟨s.toks+1,by rw [dS,j5]⟩,q⟩
theorem jCc:CallR X (.builtin "len") (fun xs H Q=>∃ z,xs=[.str z]/\z.length<=dL/\Q (.int z.length) H):=by
 intro b9 s σ H xs us Q I r h;obtain⟨z,rfl,hz,q⟩:=h;obtain⟨u,rfl,t,rfl⟩:=tK r;have hn:=jD9;exact len_str (by omega) ⟨.int z.length,H,I.tok _,⟨_,rfl⟩,q⟩
theorem jF8:CallR X (.type "list") (fun xs H Q=>∃ p ys,xs=[.ref p]/\(SqL X.K H p ys\/SqT X.K H p ys)/\∀ l,H l=none->Q (.ref l) (upd H l (.lst ys))):=by
 intro b9 s σ H xs us Q I r h;obtain⟨p,ys,rfl,hq,q⟩:=h;obtain⟨u,rfl,rx⟩:=tK r;cases rx;have fin:∀ (its:List Value),iH ys its->ys.length<=dL->∀ (h':Heap) (c':Nat),(∀ b o',s.heap.get? b=some o'->h'.get? b=some o') ->
  h'.get? s.heap.objs.size=some { cls:=.type "list",dict:=none,data:=.seq its.toArray c',slots:=#[] }->EP X b9 σ Q (.ref s.heap.objs.size) { s with heap:=h' }:=fun its r' hz h' c' kp e =>
  ⟨.ref s.heap.objs.size,_,I.laid (t':=s.toks) kp (Nat.le_refl _) (show lU X.prog X.w _ h' _ (.lst ys) from ⟨hz,its,c',r',e⟩),rfl,q _ (I.hok.fresh (Nat.le_refl _))⟩
 rcases hq with hq|hq
 ·obtain⟨its,r',pl,hz⟩:=I.list hq;have j5:=r'.length;obtain⟨o,ho,hc,n,hd⟩:=pl.isList;exact call_list_seq p (.inl rfl) ho hc hd (fun h' c' kp e=>fin its r' hz h' c' kp e) (by simp only [dS]<;>omega)
 ·obtain⟨its,r',pl,hz⟩:=I.tuple hq;have j5:=r'.length;obtain⟨o,ho,hc,n,hd⟩:=pl;exact call_list_seq p (.inr rfl) ho hc hd (fun h' c' kp e=>fin its r' hz h' c' kp e) (by simp only [dS]<;>omega)
theorem jFF:CallR X (.type "tuple") (fun xs H Q=>∃ p ys,xs=[.ref p]/\((SqL X.K H p ys/\∀ l,H l=none->Q (.ref l) (upd H l (.tup ys)))\/(SqT X.K H p ys/\Q (.ref p) H))):=by
 intro b9 s σ H xs us Q I r h;obtain⟨p,ys,rfl,h⟩:=h;obtain⟨u,rfl,rx⟩:=tK r;cases rx;rcases h with⟨hq,q⟩|⟨hq,q⟩
 ·obtain⟨its,r',pl,hz⟩:=I.list hq;have j5:=r'.length;refine call_tuple_list pl.isList (fun h' kp=>?_) (by simp only [dS]<;>omega);have I1:Inv X b9 σ H { s with heap:=h' }:=I.kept (t':=s.toks) kp;have I2:Inv X b9 σ (upd H h'.objs.size (.tup ys)) { s with heap:=h'.push { cls:=.type "tuple",data:=.seq its.toArray } } :=
   I1.laid (t':=s.toks) (fun b o e=>get?_push_of_some _ e) (Nat.le_refl _) (show lU X.prog X.w _ _ _ (.tup ys) from ⟨hz,its,r',IsTup.new _ _⟩)
  exact⟨.ref h'.objs.size,_,I2,rfl,q _ (I1.hok.fresh (Nat.le_refl _))⟩
 ·obtain⟨its,r',pl,hz⟩:=I.tuple hq;exact call_tuple_same pl ⟨.ref p,H,I,rfl,q⟩
noncomputable def tyV(K:PySem.W.Frag)(T:String)(x:V)(H:Hp):Prop:=match x with
 | .str _=>T="str"
 | .int _=>T="int"
 | .ref p=>(T="list"/\∃ xs,SqL K H p xs)\/(T="tuple"/\∃ o,K.lookup p=some o/\o.cls=.type "tuple"/\o.dict=none) \/
  (T="dict"/\((∃ kvs,H p=some (.dK kvs))\/∃ kvs,H p=some (.dT kvs)))\/(T="set"/\∃ S n,H p=some (.set S n))
 | _=>False
theorem jOm{T:String}(I:Inv X b9 σ H s)(r:g9 x v)(ty:tyV X.K T x H) :
 s.TypeIs v T/\∀ a,v=.ref a->∃ ob,s.heap.get? a=some ob/\ob.dict=none:=by
 cases x with
 | str z =>
   obtain⟨t,rfl⟩:=r;cases (show T="str" from ty);exact⟨nU s z t,fun _ e=>nomatch e⟩
 | int i =>
   obtain⟨t,rfl⟩:=r;cases (show T="int" from ty);exact⟨typeIs_int s i t,fun _ e=>nomatch e⟩
 | ref p =>
   cases r;rcases ty with⟨rfl,xs,hq⟩|⟨rfl,o,hk,hc,hd⟩|⟨rfl,hk⟩|⟨rfl,S,n,hk⟩
   ·obtain⟨its,_,pl,_⟩:=I.list hq;refine⟨pl.isList.typeIs,fun a e=>?_⟩;cases e;obtain⟨o,n,e,c,hd,_⟩:=pl;exact⟨o,e,hd⟩
   ·refine⟨⟨o,I.kIn p o hk,hc⟩,fun a e=>?_⟩;cases e;exact⟨o,I.kIn _ o hk,hd⟩
   ·have z:∃ o,s.heap.get? p=some o/\o.ExactDict:=by
     rcases hk with⟨kvs,hk⟩|⟨kvs,hk⟩
     ·obtain⟨_,_,_,_,o,_,_,e,ex,_⟩:=I.hok p _ hk;exact⟨o,e,ex⟩
     ·obtain⟨_,_,_,_,o,_,_,e,ex,_⟩:=I.hok p _ hk;exact⟨o,e,ex⟩
    obtain⟨o,e,ex⟩:=z;refine⟨⟨o,e,ex.1⟩,fun a e2=>?_⟩;cases e2;exact⟨o,e,ex.2.1⟩
   ·obtain⟨o,_,_,_,e,ex,_⟩:=I.hok p _ hk;refine⟨⟨o,e,ex.1⟩,fun a e2=>?_⟩;cases e2;exact⟨o,e,ex.2.1⟩
 | _=>exact False.elim ty
noncomputable def tBM0(K:PySem.W.Frag)(T:String)(r:V->List V->Hp->VK->Prop)(to:TE):TE:=fun σ H Q=>to σ H fun x H1=>tyV K T x H1/\r x [] H1 Q
noncomputable def tBM(K:PySem.W.Frag)(T:String)(r:V->List V->Hp->VK->Prop)(to:TE)(t:TA):TE:=fun σ H Q=>to σ H fun x H1=>tyV K T x H1/\t σ H1 fun xs H2=>r x xs H2 Q
variable {o e:Expr}{es:List Expr}{to:TE}{t:TA}{name:Str}{hZ iZ:Pos}{T id:String}{r:V->List V->Hp->VK->Prop}
theorem jKN(pa:PlainAttrs T)(slot:Slot T name id)(hty:typeOf (.builtin id)=pure (.type "method_descriptor"))(hm:MtR X id r)(ho:PE X o to) 
 (oE:iE o name X.env (fA o X.env)=fA o X.env:=by rfl) (n9:(hZ.endLine==iZ.line)=true:=by rfl):PE X (.Call (.Attribute o name hZ) [] [] iZ) (tBM0 X.K T r to):=by
 intro b9 s σ H Q I h;refine nI oE n9 (thn (ho b9 s σ H _ I h) fun v s1 ⟨x,H1,I1,r1,ty,q1⟩=>?_);obtain⟨h1,h2⟩:=jOm I1 r1 ty;exact⟨T,id,pa,slot,hty,h1,h2,Calls.callWith_builtin rfl (PySem.evalArgs_none (hm b9 s1 σ H1 x [] v [] Q I1 r1 .nil q1))⟩
theorem qV(pa:PlainAttrs T)(slot:Slot T name id)(hty:typeOf (.builtin id)=pure (.type "method_descriptor"))(hm:MtR X id r)(ho:PE X o to)(ha:PA X (e::es) t) 
 (oE:iE o name X.env (fA o X.env)=fA o X.env:=by rfl)
 (hfew:((gH iZ (dO (e::es) X.env)).all (fun x=>!x.1)&&(iA iZ (fM [] X.env)).all (fun x=>x.1.isSome)
  && decide ((e::es).length+([]:List Keyword).length+(if ([]:List Keyword).isEmpty then 0 else 1)<30))=true:=by rfl)
 (n9:(hZ.endLine==iZ.line)=true:=by rfl) (hs:dO (e::es) X.env=(false,fA e X.env)::dO es X.env:=by rfl) (uZ:(gH iZ (dO es X.env)).any (·.1)=false:=by rfl) :
 PE X (.Call (.Attribute o name hZ) (e::es) [] iZ) (tBM X.K T r to t):=by
 intro b9 s σ H Q I h;refine wpAny_Call_method_late oE hfew n9 rfl (thn (ho b9 s σ H _ I h) fun v s1 ⟨x,H1,I1,r1,ty,q1⟩=>?_);obtain⟨h1,h2⟩:=jOm I1 r1 ty;exists T,id,pa,slot,hty,h1,h2;have hA:=ha iZ b9 s1 σ H1 _ I1 q1;rw [hs] at hA ⊢;refine Calls.callWith_builtin (by show (false||(gH iZ (dO es X.env)).any (·.1))=false;rw [uZ]<;>rfl) (Calls.evalArgs_plain ?_);exact thn hA fun us s2 ⟨vs,H2,I2,r2,q2⟩=>hm b9 s2 σ H2 x vs v us Q I2 r1 r2 q2
/- xs.append(e), list.index on a module's tuple .. are MtR facts of 06m -/
end
noncomputable def MtM(X:Cx)(id:String)(r:V->List V->Hp->VK->Prop):Prop :=
 ∀ (b9:List (Addr×Obj)) (s:Shared) (σ:St) (H:Hp) (x:V) (xs:List V) (v:Value) (us:List Value) (Q:VK),Inv X b9 σ H s->g9 x v->iH xs us->r x xs H Q ->
  dM (dQ X.prog X.w) X.A (call (.builtin id) (v::us)) (EP X b9 σ Q) X.xe s
theorem iH.one:∀ {x:V} {us:List Value},iH [x] us->∃ u,us=[u]/\g9 x u
 | _,_,.cons r .nil=>⟨_,rfl,r⟩
theorem iH.zero:∀ {us:List Value},iH [] us->us=[]
 | _,.nil=>rfl
theorem iH.eraseIdx:∀ {xs:List V} {us:List Value} (i:Nat),iH xs us->iH (xs.eraseIdx i) (us.eraseIdx i)
 | _,_,_,.nil=>.nil
 | _,_,0,.cons _ t=>t
 | _,_,i+1,.cons r t=>.cons r (iH.eraseIdx i t)
theorem iH.rep(h:iH xs us):∀ k:Nat,iH (gC k xs).flatten (gC k us).flatten
 | 0=>.nil
 | k+1=>by
   rw [jH,jH,lK,lK];exact iH.append h (iH.rep h k)
theorem jJH:∀ (l:List α) (i:Nat),(l.eraseIdx i).length<=l.length
 | [],_=>Nat.le_refl _
 | _::_,0=>iF _
 | _::r,i+1=>Nat.succ_le_succ (jJH r i)
theorem jJI(its:List Value):∀ (k:Nat) (jX:List Value),
 foldl (fun x1 x2=>x1++x2) jX.toArray (gC k its.toArray)=(jX++(gC k its).flatten).toArray
 | 0,jX=>by simp
 | k+1,jX=>by
   have e:jX.toArray++its.toArray=(jX++its).toArray:=by simp
   have e2:(jX++its)++(gC k its).flatten=jX++(gC (k+1) its).flatten:=by
    rw [jH,lK,append_assoc]
   rw [<- e2,<- jJI its k (jX++its),<- e,jH,nG]
section
variable {X:Cx}{b9:List (Addr×Obj)}{σ:St}{H:Hp}{s:Shared}{l b:Addr}{xs ys zs:List V}
theorem Inv.lset{its its':List Value}{n:Nat}{f:Array Value->Array Value}{t':Nat}(I:Inv X b9 σ H s)(hH:H l=some (.lst xs))
 (e:s.heap.get? l=some { cls:=.type "list",data:=.seq its.toArray n }) (hf:f its.toArray=its'.toArray) (hv:iH ys its') (hz:ys.length<=dL) :
 Inv X b9 σ (upd H l (.lst ys)) { s with heap:=s.heap.update l (m6 f),toks:=t' }:=by
 have q:=IsL.update e f;rw [hf] at q;refine I.write (x:=l) (e:=l) (by rw [hH];exact trivial) (.inl rfl) (fun b' u hb hu=>(get?_update_other s.heap (m6 f) (symm hb)).trans hu) ⟨_,q⟩ ?_;exact⟨hz,its',_,hv,q⟩
theorem Inv.lnew(I:Inv X b9 σ H s)(hv:iH ys its)(hz:ys.length<=dL) :
 Inv X b9 σ (upd H s.heap.objs.size (.lst ys)) { s with heap:=s.heap.push { cls:=.type "list",data:=.seq its.toArray },toks:=t' } :=
 I.laid (fun _ _ q=>get?_push_of_some _ q) (Nat.le_refl _) ⟨hz,its,0,hv,get?_push_size _ rfl⟩
theorem Inv.fresh(I:Inv X b9 σ H s):H s.heap.objs.size=none:=I.hok.fresh (Nat.le_refl _)
theorem Inv.lstM(I:Inv X b9 σ H s)(hH:H l=some (.lst xs)):xs.length<=dL/\∃ (its:List Value) (n:Nat),iH xs its/\xs.length=its.length/\s.heap.get? l=some { cls:=.type "list",data:=.seq its.toArray n }:=by
 obtain⟨z,its,n,r,e⟩:=I.hok l _ hH;exact⟨z,its,n,r,r.length,e⟩
theorem jKO(h:n<=dL):Builtin.List.listTooLong n=false:=by
 unfold Builtin.List.listTooLong;exact decide_eq_false (by omega)
end
section
variable {X:Cx}
inductive jME(x:V)(vs:List V)(H:Hp)(Q:VK):Prop|mk l xs y:x=.ref l->vs=[y]->H l=some (.lst xs)->xs.length<dL->Q .non (upd H l (.lst (xs++[y])))->jME x vs H Q
theorem zD:MtM X "list.append" jME:=by
 intro b9 s σ H x vs v us Q I rx rv h;obtain⟨l,xs,y,rfl,rfl,hH,hz,q⟩:=h;cases rx;obtain⟨u,rfl,ru⟩:=rv.one;obtain⟨z,its,n,r,hl,e⟩:=I.lstM hH;refine jS F.slot_list_append ⟨_,e,rfl⟩ F.entry_list_append (F.args_list_append_2 _ _) (PySem.list_append l its.toArray n u (by rw [dS];omega)) ⟨e,?_⟩;refine⟨.non,_,I.lset (its':=its++[u]) hH e (by simp) (r.append (.cons ru .nil)) ?_,rfl,q⟩;rw [length_append,List.length_singleton];omega
inductive jMF(x:V)(vs:List V)(H:Hp)(Q:VK):Prop|mk l b xs zs:x=.ref l->vs=[.ref b]->H l=some (.lst xs)->H b=some (.lst zs)->xs.length+zs.length<=dL->Q .non (upd H l (.lst (xs++zs)))->jMF x vs H Q
theorem jOn:MtM X "list.extend" jMF:=by
 intro b9 s σ H x vs v us Q I rx rv h;obtain⟨l,b,xs,zs,rfl,rfl,hH,hB,hz,q⟩:=h;cases rx;obtain⟨u,rfl,ru⟩:=rv.one;cases ru;obtain⟨z,its,n,r,hl,e⟩:=I.lstM hH;obtain⟨z2,its2,n2,r2,hl2,e2⟩:=I.lstM hB;have hsz:its.toArray.size+its2.toArray.size<=dL:=by rw [dS,dS];omega
 have zG:¬ (!its.toArray.isEmpty&&Builtin.List.listTooLong (its.toArray.size+its2.toArray.size))=true:=by
  rw [jKO hsz,Bool.and_false];exact Bool.false_ne_true
 refine jS F.slot_list_extend ⟨_,e,rfl⟩ F.entry_list_extend (F.args_list_extend_2 _ _)
  (AutoSeq1.list_extend_list_list_0 l its.toArray n b its2.toArray n2 zG (by rw [dS];omega) (by omega)) ⟨e,e2,?_⟩
 refine⟨.non,_,I.lset (its':=its++its2) hH e (by simp) (r.append r2) ?_,rfl,q⟩;rw [length_append];omega
inductive jOo(x:V)(vs:List V)(H:Hp)(Q:VK):Prop|mk l xs i k y:x=.ref l->vs=[.int i]->H l=some (.lst xs)->-(2^63)<=i->i<2^63->seqIndex? i xs.length=some k->xs[k]?=some y->Q y (upd H l (.lst (xs.eraseIdx k)))->jOo x vs H Q
theorem jPy:MtM X "list.pop" jOo:=by
 intro b9 s σ H x vs v us Q I rx rv h;obtain⟨l,xs,i,k,y,rfl,rfl,hH,h1,h2,hk,hy,q⟩:=h;cases rx;obtain⟨u,rfl,ru⟩:=rv.one;obtain⟨t,rfl⟩:=ru;obtain⟨z,its,n,r,hl,e⟩:=I.lstM hH;obtain⟨w,hw,rD⟩:=r.get hy;refine jS F.slot_list_pop ⟨_,e,rfl⟩ F.entry_list_pop (F.args_list_pop_2 _ _)
  (MeetsSeq.list_pop_at l its.toArray n i t k w (fitsIndex_both h1 h2) (by rw [dS,<- hl];exact hk) (by rw [<- Array.getElem?_toList];exact hw) (by rw [dS];omega)) ⟨e,?_⟩
 refine⟨y,_,I.lset (its':=its.eraseIdx k) hH e ?_ (r.eraseIdx k) ?_,rD,q⟩
 ·show its.toArray.eraseIdxIfInBounds k=(its.eraseIdx k).toArray;rw [List.eraseIdxIfInBounds_toArray]
 ·have:=jJH xs k;omega
noncomputable def rClear:V->List V->Hp->VK->Prop:=fun x vs H Q=>∃ l xs,x=.ref l/\vs=[]/\H l=some (.lst xs)/\Q .non (upd H l (.lst []))
theorem jPz:MtM X "list.clear" rClear:=by
 intro b9 s σ H x vs v us Q I rx rv h;obtain⟨l,xs,rfl,rfl,hH,q⟩:=h;cases rx;have hus:=rv.zero;subst hus;obtain⟨z,its,n,r,hl,e⟩:=I.lstM hH;refine jS F.slot_list_clear ⟨_,e,rfl⟩ F.entry_list_clear (F.args_list_clear_1 _) (AutoSeq1.list_clear_list_0 l its.toArray n (by rw [dS];omega)) ⟨e,?_⟩;exact⟨.non,_,I.lset (its':=[]) (ys:=[]) hH e rfl .nil (d9 _),rfl,q⟩
inductive rCat(x:V)(y:V)(H:Hp)(Q:VK):Prop|mk l b xs zs:x=.ref l->y=.ref b->H l=some (.lst xs)->H b=some (.lst zs)->xs.length+zs.length<=dL->(∀ p,H p=none->Q (.ref p) (upd H p (.lst (xs++zs))))->rCat x y H Q
theorem jKP:OpR X (lD .Add) rCat:=by
 intro b9 s σ H x y v u Q I rx ry h;obtain⟨l,b,xs,zs,rfl,rfl,hH,hB,hz,q⟩:=h;cases rx;cases ry;obtain⟨z,its,n,r,hl,e⟩:=I.lstM hH;obtain⟨z2,its2,n2,r2,hl2,e2⟩:=I.lstM hB;refine PySem.P.add_list e e2 ?_ (by rw [dS,dS];omega);have ea:its.toArray++its2.toArray=(its++its2).toArray:=by simp
 rw [ea];exact⟨.ref _,_,I.lnew (t':=s.toks) (r.append r2) (by rw [length_append];omega),rfl,q _ I.fresh⟩
inductive rRep(x:V)(y:V)(H:Hp)(Q:VK):Prop|mk l k xs:x=.ref l->y=.int k->H l=some (.lst xs)->-(2^63)<=k->k<2^63->xs.length*k.toNat<=dL->(∀ p,H p=none->Q (.ref p) (upd H p (.lst (gC k.toNat xs).flatten)))->rRep x y H Q
theorem len_rep(xs:List α)(k:Nat):(gC k xs).flatten.length=k*xs.length:=by
 induction k with
 | zero=>simp
 | succ k ih=>rw [jH,lK,length_append,ih,Nat.succ_mul,Nat.add_comm]
theorem op_rep:OpR X (lD .Mult) rRep:=by
 intro b9 s σ H x y v u Q I rx ry h;obtain⟨l,k,xs,rfl,rfl,hH,h1,h2,hz,q⟩:=h;cases rx;obtain⟨t,rfl⟩:=ry;obtain⟨z,its,n,r,hl,e⟩:=I.lstM hH;have j5:its.toArray.size*k.toNat<=dL:=by rw [dS,<- hl];exact hz
 have hcap:¬ its.toArray.size*k.toNat > (2^63-1)/8:=by
  have:(dL:Nat)<=(2^63-1)/8:=by decide
  omega
 have hfit:¬ (!Builtin.List.listFitsIndex k)=true:=by
  rw [fitsIndex_both h1 h2];exact Bool.false_ne_true
 have zG:¬ Builtin.List.listTooLong (its.toArray.size*k.toNat)=true:=by
  rw [jKO j5];exact Bool.false_ne_true
 have wU:foldl (fun x1 x2=>x1++x2) #[] (gC (if its.toArray.isEmpty=true then 0 else k.toNat) its.toArray)=(gC k.toNat its).flatten.toArray:=by
  have f0:∀ m:Nat,foldl (fun x1 x2=>x1++x2) #[] (gC m its.toArray)=(gC m its).flatten.toArray:=fun m=>by
   have:=jJI its m [];rw [pX] at this;exact this
  rw [f0];cases its with
  | nil=>simp
  | cons a r'=>rw [if_neg (by simp)]
 refine wpAny_binaryOp_repeat_ref (T:="list") (U:="int") (by decide) ⟨_,e,rfl⟩ (fun s'=>typeIs_int s' k t) noFill_list_mul F.fills_int_mul F.slot_int_rmul repeat_list F.slot_int_index.lookup
  (jS F.slot_int_rmul (typeIs_int s k t) F.entry_int_rmul (F.args_int_rmul_2 _ _) (int___rmul___int_list k t l its.toArray n)
   ⟨e,rfl,⟨_,e,rfl⟩,jS F.slot_list_mul ⟨_,e,rfl⟩ F.entry_list_mul (F.args_list_mul_2 _ _) (AutoListH.list___mul___list_int_3 l its.toArray n k t hfit hcap zG) ⟨e,?_⟩⟩)
 rw [wU];exact⟨.ref _,_,I.lnew (t':=s.toks) (r.rep k.toNat) (by rw [len_rep,Nat.mul_comm];exact hz),rfl,q _ I.fresh⟩
end
section
variable {prog:Program}{w:World}{A:Around}{E:Value->Shared->Prop}{s:Shared}
set_option maxRecDepth 100000 in
end
section
variable {X:Cx}
end
end L2
namespace Att
open PySem PySem.W PySem.Calls PyProof.Rows
theorem jIb:∀ (ns:List Int) (vs:List Value),WellAll P h vs (ns.map WData.int)->IntsAre vs ns:=by
 intro ns;induction ns with
 | nil =>
   intro vs w;rw [m5] at w;cases w;exact .nil
 | cons n ns ih =>
   intro vs w;rw [eW] at w;cases w with
   | cons a b =>
     cases a;exact .cons _ _ (ih _ b)
theorem jOp{l:OpenLaw}{n:Nat}(hn:l.most=some n){P:Params}{h:Heap}{args:List WData}{vals:List Value}
 (hpre:l.row.toRowW.claim.pre args=true) (hwl:WellAll P h vals args) :
 ∃ a vs ns,vals=[Value.ref a]/\args=[WData.list (ns.map WData.int)]/\h.get? a=some { cls:=.type "list",data:=.seq vs.toArray }/\IntsAre vs ns/\ns.length<=n:=by
 have hsh:WShape.hasAll [] args [.list .int]=true:=(pre_splitW hpre).1;have hc:l.pre.holds [] { args:=args }=true:=(pre_splitW hpre).2;obtain⟨d,r,rfl,h1,h2⟩:=hasAllW_cons hsh;obtain rfl:=hasAllW_nil h2;obtain⟨xs,rfl,h3⟩:=hasW_list h1;obtain⟨ns,rfl⟩:=items_int h3;have j5:ns.length<=n:=by
  unfold OpenLaw.pre at hc;have h4:(WTm.not (.lt (.lit (.int (n:Int))) (.len (.arg 0)))).holds [] { args:=[.list (ns.map .int)] }=true:=by
   have h4:=(holds_andW hc).1;rw [hn] at h4;exact h4
  have h5:=condW_of h4 (w_not (w_lt w_lit (w_len_list (w_arg rfl))));rw [c7] at h5;refine Nat.le_of_not_lt fun q=>?_;have q':(n:Int)<((ns.length:Nat):Int):=by omega
  first
   | (rw [decide_eq_true q'] at h5;exact absurd h5 (by decide))
   | (simp at h5;omega)
 cases hwl with
 | cons w1 w2 =>
   cases w2;cases w1 with
   | list ho hall=>exact⟨_,_,ns,rfl,rfl,ho,jIb ns _ hall,j5⟩
theorem jOq(l:OpenLaw)(args:List WData):l.row.toRowW.claim.post args (.bool true) args=true :=
 postW_of (r:=l.row.toRowW) (X:=(true==true))
  (show WShape.has [] (.bool true) .bool=true by first|rfl|decide|simp [WShape.has,WShape.arms,WShape.armsAll])
  (show (WTm.eq .res (.lit (.bool true))).value [] { args:=args,res:=some (.bool true),after:=args }=some (.bool (true==true)) from w_eq_bool (w_res rfl) w_lit) rfl
theorem attach_call{l:OpenLaw}{n:Nat}{q:Program}{rT:List Str}{XP:(Str->Option Value)->Heap->Prop}{YP:World->Heap->Prop}{d:DefRec}
 (hn:l.most=some n) (hdf:d.params.defaults=[])
 (call:∀ (w:World) (s₀ fQ:Shared) (mg mb:Str->Option Value) (fa:Addr) (o:Obj) (pm cd pC:Value) (a:Addr) (vs:List Value) (ns:List Int),
  Ground q rT [] XP w s₀ mg mb fQ.heap->YP w fQ.heap ->
  fQ.heap.get? fa=some o->o.data=.func (docDef d.name d.params d.body d.scope pm cd pC)->fQ.heap.CodeRec cd d.name->mg d.name=some (.ref fa) ->
  fQ.heap.get? a=some { cls:=.type "list",data:=.seq vs.toArray }->IntsAre vs ns->ns.length<=n->fQ.gens=#[] ->
  iR (dQ l.prog w) sX (.call (.ref fa) ⟨[.ref a],[]⟩) (fun r s'=>r=.ok (.ret (.bool true))/\OldK fQ.heap s'.heap/\s'.os=fQ.os/\AllBare s'.gens) fQ) :
 WalkO q rT XP YP l.row.toRowW d [] (fun f vs=>PySem.call f vs):=by
 intro w s₀ fQ mg mb G Y fa o pm cd pC dV kV ho hd pA hD hmg hg args vals as hpre hlay hrd hwl hlo;obtain rfl:dV=.none:=Dflts.none hD hdf;obtain rfl:kV=.none:=Dflts.noKw hD;obtain⟨a,vs,ns,rfl,rfl,hobj,zI,j5⟩:=jOp hn hpre hwl;refine enter_call (iB (call w s₀ fQ mg mb fa o pm cd pC a vs ns G Y ho (fd_plain hd) pA hmg hobj zI j5 hg) fun r s' hq=>?_);obtain⟨rfl,h2,h3,h4⟩:=hq;exact⟨.inl ⟨.bool true,.bool true,[],rfl,fun _=>rfl,.bool true,jOq l _,fun _=>⟨Pairwise.nil,fun _ hm=>(nomatch hm)⟩⟩,h2,h3,h4⟩
section
variable {prog:Program}{w:World}{A:Around}{E:Value->Shared->Prop}{s:Shared}{K:Frag}
end
end Att
namespace L2
open PySem PySem.Spec PyProof.Rows
theorem jJJ:∀ {vs:List Value} {ns:List Int},IntsAre vs ns->iH (ns.map V.int) vs
 | _,_,.nil=>.nil
 | _,_,.cons n t h=>.cons ⟨t,rfl⟩ (jJJ h)
noncomputable abbrev KOf{K:PySem.W.Frag}{h:Heap}(_:K.In h):PySem.W.Frag:=K
noncomputable def iG(s:Stmt)(j:Nat):Stmt:=match s with
 | .ClassDef _ _ _ body _ _ _ _ _ _ _=>body.getD j (.Pass ⟨0,0,0,0⟩)
 | _=>.Pass ⟨0,0,0,0⟩
noncomputable def jCN(s:Stmt):Arguments:=match s with
 | .FunctionDef _ a _ _ _ _ _ _ _ _=>a
 | _=>{ posonlyargs:=[],args:=[],vararg:=none,kwonlyargs:=[],kw_defaults:=[],kwarg:=none,defaults:=[] }
noncomputable def wR(s:Stmt):List Stmt:=match s with
 | .FunctionDef _ _ b _ _ _ _ _ _ _=>b
 | _=>[]
noncomputable def rH(s:Stmt):Scope:=match s with
 | .FunctionDef _ _ _ _ _ _ sc _ _ _=>sc
 | _=>{ kind:=.function,names:=[],isGenerator:=false,isCoroutine:=false }
noncomputable abbrev CX0:CXT:=fun _ _ _ _ _ _=>False
noncomputable abbrev E0:XK:=fun _ _ _=>False
theorem jIc:jDC CX0 X E0:=fun _ _ _ _ _ _ _ h=>h.elim
structure Fun(K:PySem.W.Frag)(x qual:Str)(st:Stmt)(f:Addr)(fd:FuncData):Prop where
 ex:∃ (oc:Value) (od:Option Addr) (kV pC pm:Value) (an:Option Addr) (lC ct:Value) (uJ:Array (Option Value)),
  fd=uO x qual (jCN st) (wR st) (rH st) .none kV pC pm an lC ct/\K.lookup f=some ⟨oc,od,.func fd,uJ⟩/\qF K lC qual=true
 kp:jT K (.ref f)=true
section
variable {P:Program}{w:World}{K:PySem.W.Frag}{mg:Str->Option Value}{base:Heap}
theorem Fun.ok{x qual:Str}{st:Stmt}{f:Addr}{fd:FuncData}{N ps:List Str}{k:Nat}{sp:Sp}(F:Fun K x qual st f fd)(S:jCt N ps (rH st))
 (oB:∀ (lC:Value) (A:Around) (outer:List Env) (s:Shared) (H:Hp) (vs:List V) (Q:VK) (E:XK),kX k (A.deeper (oF qual (rH st) s.heap.objs.size f lC))->sp vs H Q E ->
  ∃ t,PSs (jFo CX0 P w K mg base N qual (rH st) f lC A outer s H E).nox (wR st) t/\t { nx:=fun _ H'=>Q .non H',rt:=Q } (start N vs) H) (len:∀ vs H Q E,sp vs H Q E->vs.length=ps.length:=by intro _ _ _ _ h;cases h;subst_vars;rfl):m8 P w K mg base CX0 (k+1) f fd ps sp:=by
 obtain⟨oc,od,kV,pC,pm,an,lC,ct,uJ,rfl,lk,pA⟩:=F.ex;refine fn_of lk pA S len fun A outer s H vs Q E hr x0=>?_;obtain⟨t,h,q⟩:=oB lC A outer s H vs Q E hr x0;exact⟨t,h.nox,q⟩
theorem Fun.binds{x qual:Str}{st:Stmt}{f:Addr}{fd:FuncData}{ps:List Str}(F:Fun K x qual st f fd)
 (h:∀ (kV pC pm:Value) (an:Option Addr) (lC ct:Value) (us:List Value),us.length=ps.length->bindArgs (uO x qual (jCN st) (wR st) (rH st) .none kV pC pm an lC ct) ⟨us,[]⟩=pure (ps.zip us)):qK K fd ps []:=by
 obtain⟨oc,od,kV,pC,pm,an,lC,ct,uJ,rfl,lk,pA⟩:=F.ex;exact .all (h kV pC pm an lC ct)
theorem jId{x qual:Str}{st:Stmt}{f:Addr}{oc:Value}{od an:Option Addr}{uJ:Array (Option Value)}{kV pC pm lC ct:Value}(l:K.lookup f=some ⟨oc,od,.func (uO x qual (jCN st) (wR st) (rH st) .none kV pC pm an lC ct),uJ⟩)
 (c:qF K lC qual=true) (k:jT K (.ref f)=true):Fun K x qual st f (uO x qual (jCN st) (wR st) (rH st) .none kV pC pm an lC ct):=⟨⟨oc,od,kV,pC,pm,an,lC,ct,uJ,rfl,l,c⟩,k⟩
end
theorem hu_of(hr:kX k A):A.units+1<cLine:=gK (Nat.add_le_add_left (by decide:1<=64) _) hr.units
theorem kZ(h:n<=1000):n<dL:=gK h (by decide)
section
variable {X:Cx}
theorem pv(i:Nat)(hN:X.N[i]?=some x:=by rfl)(hv:Vis X.env.scope x:=by first|exact Or.inl rfl|exact Or.inr (Or.inl rfl)|exact Or.inr (Or.inr rfl))(hd:(x==("__debug__":Str))=false:=by decide) 
 (pA:(x==("__classdict__":Str))=false:=by decide):PE X (.Name x pos) (tVar i):=pe_var hN hv hd pA
end
theorem hV{A B:Prop}(h:B):if false=true then A else B:=by
 rw [if_neg Bool.false_ne_true];exact h
theorem kL{A B:Prop}(h:A):if true=true then A else B:=by
 rw [if_pos rfl];exact h
theorem ite2{c A B:Prop}[Decidable c](h1:c->A)(h2:¬ c->B):if c then A else B:=by
 by_cases h:c
 ·rw [if_pos h];exact h1 h
 ·rw [if_neg h];exact h2 h
theorem iteNS{c A B:Prop}[Decidable c](hc:c)(h:B):if (!decide c)=true then A else B:=by
 rw [decide_eq_true hc];exact hV h
noncomputable def eR(H H':Hp):Prop:=∀ b o,H b=some o->H' b=some o
theorem eR.refl(H:Hp):eR H H:=fun _ _ h=>h
theorem eR.trans(a:eR H H1)(b:eR H1 H2):eR H H2:=fun c o h=>b c o (a c o h)
theorem eR.free(e:eR H H')(h:H' l=Option.none):H l=Option.none:=by
 cases q:H l with
 | none=>rfl
 | some o =>
   rw [e l o q] at h;cases h
theorem eR.seq{K:PySem.W.Frag}{H H':Hp}{a:Addr}{xs:List V}(e:eR H H')(h:SqL K H a xs):SqL K H' a xs:=by
 rcases h with (h|⟨o,h⟩)|h
 ·exact .inl (.inl (e _ _ h))
 ·exact .inl (.inr ⟨o,e _ _ h⟩)
 ·exact .inr h
end L2
set_option maxHeartbeats 4000000
namespace L2
open PySem PySem.Spec PyProof.Rows
section
variable {κ:Type}[DecidableEq κ]
noncomputable def lI(kvs:List (κ×V))(k:κ):Option V:=(kvs.find? fun kv=>decide (kv.1=k)).map (·.2)
noncomputable def oU(kvs:List (κ×V))(k:κ)(v:V):List (κ×V) :=
 if (kvs.any fun kv=>decide (kv.1=k))=true then kvs.map (fun kv=>if kv.1=k then (kv.1,v) else kv) else kvs++[(k,v)]
noncomputable def jFp(kvs:List (κ×V))(k:κ):List (κ×V):=kvs.filter fun kv=>decide (kv.1≠k)
theorem jEa{p:κ×V}{r:List (κ×V)}{k:κ}(e:p.1=k):lI (p::r) k=some p.2:=by simp [lI,find?_cons,e]
theorem jEb{p:κ×V}{r:List (κ×V)}{k:κ}(e:¬ p.1=k):lI (p::r) k=lI r k:=by simp [lI,find?_cons,e]
theorem jHy(k:κ):∀ kvs:List (κ×V),(kvs.any fun kv=>decide (kv.1=k))=(lI kvs k).isSome
 | []=>rfl
 | p::r=>by
   rw [mX];by_cases e:p.1=k
   ·simp only [jEa e,decide_eq_true e,Bool.true_or,Option.isSome_some]
   ·rw [jEb e,decide_eq_false e,Bool.false_or];exact jHy k r
theorem jEZ(kvs:List (κ×V))(k:κ)(v:V):(oU kvs k v).length<=kvs.length+1:=by
 unfold oU;split
 ·rw [c7];omega
 ·rw [length_append,fC,j6];omega
theorem jKQ{kvs:List (κ×V)}{k:κ}(v:V)(h:lI kvs k=none):oU kvs k v=kvs++[(k,v)]:=by
 unfold oU;rw [jHy,h];exact if_neg (by decide)
theorem qA.isSome_eq(r:qA o u):o.isSome=u.isSome:=by
 cases o with
 | none=>cases u with
   | none=>rfl
   | some _=>exact (show False from r).elim
 | some _=>cases u with
   | none=>exact (show False from r).elim
   | some _=>rfl
theorem qA.getD(r:qA o u)(rd:g9 d d'):g9 (o.getD d) (u.getD d'):=by
 cases o with
 | none=>cases u with
   | none=>exact rd
   | some _=>exact (show False from r).elim
 | some _=>cases u with
   | none=>exact (show False from r).elim
   | some _=>exact r
theorem KV.val(r:KV kvs vs)(k:κ):qA (lI kvs k) (mT vs k):=by
 unfold KV at r;induction r with
 | nil=>exact True.intro
 | @cons p q ps qs h t ih =>
   obtain⟨h1,h2⟩:=h;by_cases e:p.1=k
   ·have e':q.1=k:=h1.symm.trans e;have b:mT (q::qs) k=some q.2:=by simp [mT,find?_cons,e']
    rw [jEa e,b];exact h2
   ·have e':¬ q.1=k:=fun z=>e (h1.trans z);have b:mT (q::qs) k=mT qs k:=by simp [mT,find?_cons,e']
    rw [jEb e,b];exact ih
theorem KV.any(r:KV kvs vs)(k:κ):(kvs.any fun kv=>decide (kv.1=k))=vs.any fun kv=>decide (kv.1=k):=by
 unfold KV at r;induction r with
 | nil=>rfl
 | cons h t ih=>rw [mX,mX,ih,h.1]
theorem KV.repl(r:KV kvs vs)(k:κ)(ry:g9 y u) :
 KV (kvs.map fun kv=>if kv.1=k then (kv.1,y) else kv) (vs.map fun kv=>if kv.1=k then (kv.1,u) else kv):=by
 unfold KV at r ⊢;induction r with
 | nil=>exact .nil
 | @cons p q ps qs h t ih =>
   rw [eW,eW];refine .cons ?_ ih;obtain⟨h1,h2⟩:=h;by_cases e:p.1=k
   ·rw [if_pos e,if_pos (h1.symm.trans e)];exact⟨h1,ry⟩
   ·rw [if_neg e,if_neg (fun z=>e (h1.trans z))];exact⟨h1,h2⟩
theorem KV.put(r:KV kvs vs)(k:κ)(ry:g9 y u):KV (oU kvs k y) (rC vs k u):=by
 unfold oU rC;rw [r.any k];by_cases e:(vs.any fun kv=>decide (kv.1=k))=true
 ·rw [if_pos e,if_pos e];exact r.repl k ry
 ·rw [if_neg e,if_neg e];exact Paired.snoc r ⟨rfl,ry⟩
theorem KV.drop(r:KV kvs vs)(k:κ):KV (jFp kvs k) (without vs k):=by
 unfold KV at r ⊢;unfold jFp without;induction r with
 | nil=>exact .nil
 | @cons p q ps qs h t ih =>
   obtain⟨h1,h2⟩:=h;rw [gE,gE];by_cases e:p.1=k
   ·have a:¬ decide (p.1≠k)=true:=by simp [e]
    have b:¬ decide (q.1≠k)=true:=by simp [h1.symm.trans e]
    rw [if_neg a,if_neg b];exact ih
   ·have e':¬ q.1=k:=fun z=>e (h1.trans z);have a:decide (p.1≠k)=true:=by simp [e]
    have b:decide (q.1≠k)=true:=by simp [e']
    rw [if_pos a,if_pos b];exact .cons ⟨h1,h2⟩ ih
theorem KV.keys{kvs:List (κ×V)}{vs:List (κ×Value)}(r:KV kvs vs):kvs.map (·.1)=vs.map (·.1):=by
 unfold KV at r;induction r with
 | nil=>rfl
 | cons h t ih=>rw [eW,eW,ih,h.1]
theorem KV.length(r:KV kvs vs):kvs.length=vs.length:=Paired.length r
theorem jPA(kvs:List (κ×V))(k:κ):(jFp kvs k).length<=kvs.length:=eA _ _
end
theorem y8(r:g9 (kV k) u):(lV P w).is k u=true:=by
 cases k with
 | inl i=>obtain⟨t,e⟩:=(show ∃ t,u=Value.int i t from r);subst e;exact jLQ P w i t
 | inr x=>obtain⟨t,e⟩:=(show ∃ t,u=Value.str x t from r);subst e;exact jLR P w x t
theorem jJK:∀ {ks:List Key} {us:List Value},iH (ks.map kV) us->ItemsAre (lV P w) ks us
 | [],_,r=>by rw [m5] at r;cases r;exact .nil
 | k::ks,_,r=>by
   rw [eW] at r;cases r with
   | cons h t=>exact .cons (y8 h) (jJK t)
noncomputable abbrev KT(H:Hp):List (List Key×V)->List (List Key×Addr×Value)->Prop:=Paired fun p q=>p.1=q.1/\H q.2.1=some (.tup (p.1.map kV))/\g9 p.2 q.2.2
theorem KT.val(r:KT H kvs xs)(k:List Key):qA (lI kvs k) ((xG xs k).map (·.2)):=by
 induction r with
 | nil=>exact True.intro
 | @cons p q ps qs h t ih =>
   obtain⟨h1,_,h2⟩:=h;by_cases e:p.1=k
   ·have e':q.1=k:=h1.symm.trans e;have b:xG (q::qs) k=some q.2:=by simp [xG,find?_cons,e']
    rw [jEa e,b];exact h2
   ·have e':¬ q.1=k:=fun z=>e (h1.trans z);have b:xG (q::qs) k=xG qs k:=by simp [xG,find?_cons,e']
    rw [jEb e,b];exact ih
theorem KT.repl(r:KT H kvs xs)(k:List Key)(ry:g9 y u) :
 KT H (kvs.map fun kv=>if kv.1=k then (kv.1,y) else kv) (xs.map (putAt k u)):=by
 induction r with
 | nil=>exact .nil
 | @cons p q ps qs h t ih =>
   rw [eW,eW];refine .cons ?_ ih;obtain⟨h1,h2,h3⟩:=h;unfold putAt;by_cases e:p.1=k
   ·rw [if_pos e,if_pos (h1.symm.trans e)];exact⟨h1,h2,ry⟩
   ·rw [if_neg e,if_neg (fun z=>e (h1.trans z))];exact⟨h1,h2,h3⟩
theorem KT.put(r:KT H kvs xs)(k:List Key)(hb:H b=some (.tup (k.map kV)))(ry:g9 y u) :
 KT H (oU kvs k y) (storedH xs k b u):=by
 have e:(kvs.any fun kv=>decide (kv.1=k))=(xG xs k).isSome:=by
  rw [jHy,(r.val k).isSome_eq,qB]
 unfold oU storedH;rw [e];by_cases q:(xG xs k).isSome=true
 ·rw [if_pos q,if_pos q];exact r.repl k ry
 ·rw [if_neg q,if_neg q];exact Paired.snoc r ⟨rfl,hb,ry⟩
theorem KT.keeps(r:KT H kvs xs)(ht:∀ b ys,H b=some (.tup ys)->H' b=some (.tup ys)):KT H' kvs xs :=
 Paired.mapP r fun _ _ z=>⟨z.1,ht _ _ z.2.1,z.2.2⟩
section
variable {P:Program}{w:World}{H:Hp}{h:Heap}{a:Addr}
theorem rd_of(ok:HOk P w H h)(e:Rd H a u):lU P w H h a u:=e.ok ok
theorem jDw(ok:HOk P w H h)(e:Rd H a (.dK kvs)):kvs.length<=dL/\(a==i9)=false/\∃ vs,KV kvs vs/\h.DictOf (lV P w) a vs :=
 show lU P w H h a (.dK kvs) from rd_of ok e
theorem jFq(ok:HOk P w H h)(e:H a=some (.dK kvs)):kvs.length<=dL/\(a==i9)=false/\∃ vs,KV kvs vs/\h.DictOf (lV P w) a vs:=jDw ok (.inl e)
theorem jEc(ok:HOk P w H h)(e:H a=some (.tup (ks.map kV))):(nJ (lV P w)).is h ks a:=by
 obtain⟨_,its,r,o,h1,h2,n,h3⟩:=(show lU P w H h a (.tup (ks.map kV)) from ok a _ e)
 exact⟨o,its.toArray,n,h1,h2,h3,by simpa using jJK r⟩
theorem jEH(ok:HOk P w H h)(e:Rd H a (.dT kvs)):kvs.length<=dL/\(a==i9)=false /\
 ∃ xs,KT H kvs xs/\h.DictOfH (nJ (lV P w)) a xs:=by
 obtain⟨z,y,xs,r,o,es,ep,h1,h2,h3,h4,h5⟩:=(show lU P w H h a (.dT kvs) from rd_of ok e)
 refine⟨z,y,xs,r,o,es,ep,h1,h2,h3,h4,fun x hx=>?_,h5⟩;have all:∀ {l:List (List Key×V)} {m:List (List Key×Addr×Value)},KT H l m->∀ x∈m,(nJ (lV P w)).is h x.1 x.2.1:=by
  intro l m q;induction q with
  | nil=>intro x hx;exact nomatch hx
  | @cons p q ps qs hq t ih =>
    intro x hx;rcases dX.mp hx with e|hx
    ·subst e;exact jEc ok (by rw [<- hq.1];exact hq.2.1)
    ·exact ih x hx
 exact all r x hx
theorem dt_of(ok:HOk P w H h)(e:H a=some (.dT kvs)):kvs.length<=dL/\(a==i9)=false /\
 ∃ xs,KT H kvs xs/\h.DictOfH (nJ (lV P w)) a xs:=jEH ok (.inl e)
end
noncomputable def mM(H:Hp)(a:Addr)(y:V)(r:Option V):Prop :=
 (∃ kvs k,Rd H a (.dK kvs)/\y=kV k/\r=lI kvs k)\/∃ kvs k b,Rd H a (.dT kvs)/\y=.ref b/\H b=some (.tup (k.map kV))/\r=lI kvs k
noncomputable def wO(H:Hp)(a:Addr)(y v:V)(H':Hp):Prop :=
 (∃ kvs k,H a=some (.dK kvs)/\y=kV k/\kvs.length<dL/\H'=upd H a (.dK (oU kvs k v))) \/
 ∃ kvs k b,H a=some (.dT kvs)/\y=.ref b/\H b=some (.tup (k.map kV))/\kvs.length<dL/\H'=upd H a (.dT (oU kvs k v))
theorem mM.k{H:Hp}{a:Addr}{kvs:List (Key×V)}{k:Key}(e:H a=some (.dK kvs)):mM H a (kV k) (lI kvs k):=.inl ⟨kvs,k,.inl e,rfl,rfl⟩
theorem wO.k{H:Hp}{a:Addr}{kvs:List (Key×V)}{k:Key}{v:V}(e:H a=some (.dK kvs))(hl:kvs.length<dL):wO H a (kV k) v (upd H a (.dK (oU kvs k v))):=.inl ⟨kvs,k,e,rfl,hl,rfl⟩
section
variable {X:Cx}{b9:List (Addr×Obj)}{σ:St}{H:Hp}{s:Shared}{a:Addr}{y v:V}{u r:Value}{o:Option V}{A:Around}{E:Value->Shared->Prop}
theorem Inv.big(I:Inv X b9 σ H s):i9<s.heap.objs.size:=by
 have h:dY<s.heap.objs.size:=(I.mod.glob.keeps I.bk).lt;exact Nat.lt_trans (by decide) h
theorem jJL(hu:A.units+1<cLine)(I:Inv X b9 σ H s)(g:mM H a y (some v))(ry:g9 y u)(h:∀ w' s',Inv X b9 σ H s'->g9 v w'->Q w' s') :
 dM (dQ X.prog X.w) A (wB (.ref a) u) Q E s:=by
 rcases g with⟨kvs,k,e,ey,l⟩|⟨kvs,k,b,e,ey,eb,l⟩
 ·subst ey;obtain⟨z,hd,vs,lG,dd⟩:=jDw I.hok e;obtain⟨w',hw,rD⟩:=qA.some_of (v:=v) (o:=mT vs k) (by rw [l];exact lG.val k);exact wpAny_getItem_of (y8 ry) dd.mapOf hw (h w' _ (I.tok _) rD)
 ·subst ey;cases (show u=Value.ref b from ry);obtain⟨z,hd,xs,lG,dd⟩:=jEH I.hok e;obtain⟨w',hw,rD⟩:=qA.some_of (v:=v) (o:=(xG xs k).map (·.2)) (by rw [l];exact lG.val k);obtain⟨p,hp,qZ⟩:=dW.mp hw;refine wpAny_getItem_heap (i8 hu) (jEc I.hok eb) dd hp ?_;rw [qZ];exact h w' _ (I.tok _) rD
theorem d_in(hu:A.units+1<cLine)(I:Inv X b9 σ H s)(g:mM H a y o)(ry:g9 y u)(h:∀ s',Inv X b9 σ H s'->Q (.bool o.isSome) s') :
 dM (dQ X.prog X.w) A (fB .In u (.ref a)) Q E s:=by
 rcases g with⟨kvs,k,e,ey,l⟩|⟨kvs,k,b,e,ey,eb,l⟩
 ·subst ey;obtain⟨z,hd,vs,lG,dd⟩:=jDw I.hok e;refine wpAny_in_of (y8 ry) hd dd.mapOf ?_;rw [<- (lG.val k).isSome_eq,<- l];exact h _ (I.tok _)
 ·subst ey;cases (show u=Value.ref b from ry);obtain⟨z,hd,xs,lG,dd⟩:=jEH I.hok e;refine wpAny_in_heap (i8 hu) (jEc I.hok eb) hd dd ?_;have q:=(lG.val k).isSome_eq;rw [qB] at q;rw [<- q,<- l];exact h _ (I.tok _)
theorem d_notIn(hu:A.units+1<cLine)(I:Inv X b9 σ H s)(g:mM H a y o)(ry:g9 y u)(h:∀ s',Inv X b9 σ H s'->Q (.bool (!o.isSome)) s') :
 dM (dQ X.prog X.w) A (fB .NotIn u (.ref a)) Q E s:=by
 rcases g with⟨kvs,k,e,ey,l⟩|⟨kvs,k,b,e,ey,eb,l⟩
 ·subst ey;obtain⟨z,hd,vs,lG,dd⟩:=jDw I.hok e;refine wpAny_notIn_of (y8 ry) hd dd.mapOf ?_;rw [<- (lG.val k).isSome_eq,<- l];exact h _ (I.tok _)
 ·subst ey;cases (show u=Value.ref b from ry);obtain⟨z,hd,xs,lG,dd⟩:=jEH I.hok e;refine wpAny_notIn_heap (i8 hu) (jEc I.hok eb) hd dd ?_;have q:=(lG.val k).isSome_eq;rw [qB] at q;rw [<- q,<- l];exact h _ (I.tok _)
theorem jE3(I:Inv X b9 σ H s)(mu:Mut (H a))(hs:SameBut a s.heap h')(he:∃ q,h'.get? a=some q)(new:lU X.prog X.w (upd H a ob) h' a ob) :
 Inv X b9 σ (upd H a ob) { s with heap:=h',toks:=t' } :=
 I.write (x:=a) (e:=a) mu (.inl rfl) (fun b q hb z=>(hs.2 b hb).trans z) he new
theorem jE4(z:kvs.length<=dL)(hd:(a==i9)=false)(lG:KV kvs vs)(dd:h'.DictOf (lV P w) a vs) :
 lU P w H' h' a (.dK kvs):=⟨z,hd,vs,lG,dd⟩
theorem jJM(hu:A.units+1<cLine)(I:Inv X b9 σ H s)(g:wO H a y v H')(ry:g9 y u)(rv:g9 v r)(h:∀ s',Inv X b9 σ H' s'->Q () s') :
 dM (dQ X.prog X.w) A (setItem (.ref a) u r) Q E s:=by
 rcases g with⟨kvs,k,e,ey,l,eH⟩|⟨kvs,k,b,e,ey,eb,l,eH⟩
 ·subst ey eH;obtain⟨z,hd,vs,lG,dd⟩:=jFq I.hok e;have hz:vs.length<=dL:=by rw [<- lG.length];exact z
  have hl:(oU kvs k v).length<=dL:=by have:=jEZ kvs k v;omega
  refine wpAny_setItem_pairs (hsz:=hz) (y8 ry) dd fun h' xB hs=>h _ ?_;have he:∃ q,h'.get? a=some q:=let ⟨q,_,_,hq,_⟩:=xB;⟨q,hq⟩;exact jE3 I (by rw [e];exact True.intro) hs he (jE4 hl hd (lG.put k rv) xB)
 ·subst ey eH;cases (show u=Value.ref b from ry);obtain⟨z,hd,xs,lG,dd⟩:=dt_of I.hok e;have hz:xs.length<=dL:=by rw [<- Paired.length lG];exact z
  have hl:(oU kvs k v).length<=dL:=by have:=jEZ kvs k v;omega
  refine wpAny_setItem_heap (hsz:=hz) (i8 hu) (jEc I.hok eb) dd fun h' xB hs=>h _ ?_;obtain⟨q,es,ep,hq,h2,h3,h4,_,h5⟩:=xB;refine jE3 I (by rw [e];exact True.intro) hs ⟨q,hq⟩ ⟨hl,hd,_,(lG.put k eb rv).keeps fun c ys ec=>?_,q,es,ep,hq,h2,h3,h4,h5⟩;rw [eJ (fN ec e (fun z=>nomatch z))];exact ec
end
section
variable {X:Cx}{b9:List (Addr×Obj)}{σ:St}{H:Hp}{s:Shared}{a:Addr}{kvs:List (Key×V)}{k:Key}{u:Value}{A:Around}{E:Value->Shared->Prop}
theorem d_pop(I:Inv X b9 σ H s)(e:H a=some (.dK kvs))(ry:g9 (kV k) u)(l:lI kvs k=some v)(hm:more=[]\/∃ x,more=[x]) 
 (h:∀ w' s',Inv X b9 σ (upd H a (.dK (jFp kvs k))) s'->g9 v w'->Q w' s'):dM (dQ X.prog X.w) A (call (.builtin "dict.pop") (.ref a::u::more)) Q E s:=by
 obtain⟨z,hd,vs,lG,dd⟩:=jFq I.hok e;obtain⟨w',hw,rD⟩:=qA.some_of (v:=v) (o:=mT vs k) (by rw [<- l];exact lG.val k);have hp:(keyPart u).isSome=true:=by
  cases k with
  | inl i=>obtain⟨t,q⟩:=(show ∃ t,u=Value.int i t from ry);subst q;rfl
  | inr x=>obtain⟨t,q⟩:=(show ∃ t,u=Value.str x t from ry);subst q;rfl
 have ha:argsOk "dict.pop" ⟨.ref a::u::more,[]⟩:=by
  rcases hm with q|⟨x,q⟩
  ·subst q;exact PySem.F.args_dict_pop_2 _ _
  ·subst q;exact PySem.F.args_dict_pop_3 _ _ _
 refine jB pN dd.typeIs PySem.F.entry_dict_pop ha (meets_dict_pop_there (lV X.prog X.w) a (y8 ry) more hm hp)
  ⟨vs,w',dd,by rw [<- lG.length];exact z,hw,fun h' xB hs=>h w' _ ?_ rD⟩
 have he:∃ q,h'.get? a=some q:=let ⟨q,_,_,hq,_⟩:=xB;⟨q,hq⟩;exact jE3 I (by rw [e];exact True.intro) hs he (jE4 (eM (jPA kvs k) z) hd (lG.drop k) xB)
theorem d_len(I:Inv X b9 σ H s)(e:Rd H a (.dK kvs))(h:∀ t s',Inv X b9 σ H s'->Q (.int kvs.length t) s'):dM (dQ X.prog X.w) A (call (.builtin "len") [.ref a]) Q E s:=by
 obtain⟨z,hd,vs,lG,dd⟩:=jDw I.hok e;refine call_len_dict hd dd (by rw [<- lG.length];rw [iP] at z;omega) ?_;rw [<- lG.length];exact h _ _ (I.tok _)
end
noncomputable def NoSl(i:Expr):Prop:=∀ ov iv,uH i false ov iv=operate [ov,iv] (wB ov iv)
theorem subD_of{prog:Program}{w:World}{A:Around}{E:Value->Shared->Prop}{s:Shared}{env:Env}{value slice:Expr}{pos:Pos}{T id:String}{Q:Value->Shared->Prop}
 (hl:typeLookup (.type T) "__getitem__"=pure (some (.builtin id))) (hs:NoSl slice)
 (h:dM (dQ prog w) A (fA value env) (fun o fQ=>dM (dQ prog w) A (fA slice env) (fun i eU=>eU.TypeIs o T/\dM (dQ prog w) A (wB o i) Q E eU) E fQ) E s) :
 dM (dQ prog w) A (fA (.Subscript value slice pos) env) Q E s:=by
 refine Subscript_ (e8 h (fun o fQ jM=>e8 jM (fun i eU qP=>?_) fun _ _ x=>x) fun _ _ x=>x);obtain⟨hT,qP⟩:=qP;unfold yD;refine c8 ?_;rw [getitemInPython_of_ne hT.not_modules];refine c8 (wpAny_specialOf hT hl ?_);have fin:dM (dQ prog w) A (uH slice false o i) (fun r rB=>dM (dQ prog w) A (letTemporaryGo value o r >>= fun _=>pure r) Q E rB) E eU:=by
  rw [hs o i];exact wpAny_operating (e8 qP (fun r rB h₃=>c8 (wpAny_letTemporaryGo (dP h₃))) fun _ _ x=>x)
 first
  | exact dP (c8 fin)
  | exact c8 (dP (c8 fin))
  | exact c8 fin
theorem jLT(I:Inv X b9 σ H s)(g:mM H a y o):s.TypeIs (.ref a) "dict":=by
 rcases g with⟨kvs,k,e,_,_⟩|⟨kvs,k,b,e,_,_,_⟩
 ·obtain⟨_,_,vs,_,dd⟩:=jDw I.hok e;exact dd.typeIs
 ·obtain⟨_,_,xs,_,dd⟩:=jEH I.hok e;exact dd.typeIs
inductive jOr(Q:VK)(x:V)(y:V)(H2:Hp):Prop|mk a v:x=.ref a->mM H2 a y (some v)->Q v H2->jOr Q x y H2
noncomputable def tDGet(td ty:TE):TE:=fun σ H Q=>td σ H fun x H1=>ty σ H1 fun y H2=>jOr Q x y H2
inductive ItDIn(Q:VK)(y:V)(x:V)(H2:Hp):Prop|mk a o:x=.ref a->mM H2 a y o->Q (.bl o.isSome) H2->ItDIn Q y x H2
noncomputable def tDIn(ty td:TE):TE:=fun σ H Q=>ty σ H fun y H1=>td σ H1 fun x H2=>ItDIn Q y x H2
inductive jKR(Q:VK)(y:V)(x:V)(H2:Hp):Prop|mk a o:x=.ref a->mM H2 a y o->Q (.bl (!o.isSome)) H2->jKR Q y x H2
noncomputable def tDNotIn(ty td:TE):TE:=fun σ H Q=>ty σ H fun y H1=>td σ H1 fun x H2=>jKR Q y x H2
inductive jOs(D:sQ)(σ:St)(v:V)(x:V)(y:V)(H3:Hp):Prop|mk a H4:x=.ref a->wO H3 a y v H4->D.nx σ H4->jOs D σ v x y H3
noncomputable def sDPut(td ty tv:TE):TS:=fun D σ H=>tv σ H fun v H1=>td σ H1 fun x H2=>ty σ H2 fun y H3=>jOs D σ v x y H3
inductive jOt(tv:TE)(rd:V->V->Hp->VK->Prop)(D:sQ)(σ:St)(x:V)(y:V)(H2:Hp):Prop|mk a v:x=.ref a->mM H2 a y (some v)->(tv σ H2 fun y2 H3=>rd v y2 H3 fun z H4=>∃ H5,wO H4 a y z H5/\D.nx σ H5)->jOt tv rd D σ x y H2
noncomputable def sDAug(td ty tv:TE)(rd:V->V->Hp->VK->Prop):TS:=fun D σ H=>td σ H fun x H1=>ty σ H1 fun y H2=>jOt tv rd D σ x y H2
section
variable {X:Cx}{o i e value:Expr}{pos o6 rA:Pos}{td ty tv:TE}
theorem pe_dget(hu:X.A.units+1<cLine)(ho:PE X o td)(hi:PE X i ty)(hs:NoSl i):PE X (.Subscript o i pos) (tDGet td ty):=by
 intro b9 s σ H Q I h;refine subD_of PySem.F.slot_dict_getitem.lookup hs (thn (ho b9 s σ H _ I h) fun u s1 ⟨x,H1,I1,rx,q1⟩=>thn (hi b9 s1 σ H1 _ I1 q1) fun iv s2 ⟨y,H2,I2,ry,a,v,ex,g,q2⟩=>?_);subst ex;obtain rfl:u=Value.ref a:=rx;exact⟨jLT I2 g,jJL hu I2 g ry fun w' s3 I3 rD=>⟨v,H2,I3,rD,q2⟩⟩
theorem xX(hu:X.A.units+1<cLine)(hi:PE X i ty)(ho:PE X o td):PC X .In i o (tDIn ty td):=by
 intro b9 s σ H Q I h;refine thn (hi b9 s σ H _ I h) fun iv s1 ⟨y,H1,I1,ry,q1⟩=>thn (ho b9 s1 σ H1 _ I1 q1) fun u s2 ⟨x,H2,I2,rx,a,ov,ex,g,q2⟩=>?_;subst ex;obtain rfl:u=Value.ref a:=rx;exact d_in hu I2 g ry fun s3 I3=>⟨.bl ov.isSome,H2,I3,rfl,q2⟩
theorem jBQ(hu:X.A.units+1<cLine)(hi:PE X i ty)(ho:PE X o td):PC X .NotIn i o (tDNotIn ty td):=by
 intro b9 s σ H Q I h;refine thn (hi b9 s σ H _ I h) fun iv s1 ⟨y,H1,I1,ry,q1⟩=>thn (ho b9 s1 σ H1 _ I1 q1) fun u s2 ⟨x,H2,I2,rx,a,ov,ex,g,q2⟩=>?_;subst ex;obtain rfl:u=Value.ref a:=rx;exact d_notIn hu I2 g ry fun s3 I3=>⟨.bl (!ov.isSome),H2,I3,rfl,q2⟩
theorem tH(hu:X.A.units+1<cLine)(ho:PE X o td)(hi:PE X i ty)(hv:PE X value tv)(hs:lY value (some (.Subscript o i o6)) pos.line X.env=pure false) :
 PS X (.Assign [.Subscript o i o6] value pos) (sDPut td ty tv):=by
 intro b9 s σ H D I h;refine wpAny_Assign_Subscript (thn (hv b9 s σ H _ I h) fun r s1 ⟨v,H1,I1,rv,q1⟩=>thn (ho b9 s1 σ H1 _ I1 q1) fun u s2 ⟨x,H2,I2,rx,q2⟩=>thn (hi b9 s2 σ H2 _ I2 q2) fun iv s3 ⟨y,H3,I3,ry,a,H4,ex,g,q3⟩=>?_) hs;subst ex;obtain rfl:u=Value.ref a:=rx;exact jJM hu I3 g ry rv fun s4 I4=>⟨σ,H4,I4,q3⟩
theorem jMG(hu:X.A.units+1<cLine)(ho:PE X o td)(hi:PE X i ty)(hv:PE X value tv)(hop:InOp X op rd) 
 (ha:∀ ov iv new,augStore i ov iv new=(do jW [new,ov,iv] (setItem ov iv new);release [new,ov,iv] [];pure .next)):PS X (.AugAssign (.Subscript o i rA) op value pos) (sDAug td ty tv rd):=by
 intro b9 s σ H D I h;refine wpAny_AugAssign_SubscriptAny (thn (ho b9 s σ H _ I h) fun u s1 ⟨x,H1,I1,rx,q1⟩=>thn (hi b9 s1 σ H1 _ I1 q1) fun iv s2 ⟨y,H2,I2,ry,a,v,ex,g,q2⟩=>?_) ha;subst ex;obtain rfl:u=Value.ref a:=rx;refine jJL hu I2 g ry fun w' s3 I3 rD=>thn (hv b9 s3 σ H2 _ I3 q2) fun w2 s4 ⟨y2,H3,I4,ry2,q3⟩=>thn (hop b9 s4 σ H3 v y2 w' w2 _ I4 rD ry2 q3) fun w3 s5 ⟨z,H4,I5,rz,H5,g5,q4⟩=>?_;exact jJM hu I5 g5 ry rz fun s6 I6=>⟨σ,H5,I6,q4⟩
end
theorem jKS(h:Heap)(hb:i9<h.objs.size):lU P w H (h.push { cls:=.type "dict",data:=.dict #[] }) h.objs.size (.dK []) :=
 ⟨d9 _,beq_eq_false_iff_ne.mpr (symm (eV hb)),[],.nil,DictOf.new h⟩
noncomputable def tDNewK:TE:=fun _ H Q=>∀ p,H p=none->Q (.ref p) (upd H p (.dK []))
section
variable {X:Cx}{pos:Pos}
theorem tZ:PE X (.Dict [] [] pos) tDNewK:=fun b9 s σ H Q I h =>
 wpAny_Dict_empty ⟨.ref s.heap.objs.size,_,I.laid (a:=s.heap.objs.size) (o:=.dK []) (t':=s.toks) (fun _ _ q=>get?_push_of_some _ q) (Nat.le_refl _) (jKS s.heap I.big),rfl,h _ (I.hok.fresh (Nat.le_refl _))⟩
end
noncomputable def jKT:List (TE×TE)->St->Hp->(List (V×V)->Hp->Prop)->Prop
 | [],_,H,Q=>Q [] H
 | (tk,tv)::r,σ,H,Q=>tk σ H fun x H1=>tv σ H1 fun y H2=>jKT r σ H2 fun ps H3=>Q ((x,y)::ps) H3
noncomputable abbrev VV:List (V×V)->List (Value×Value)->Prop:=Paired fun p q=>g9 p.1 q.1/\g9 p.2 q.2
noncomputable def PPs(X:Cx)(pos:Pos)(keys:List (Option Expr))(sK:List Expr)(trs:List (TE×TE)):Prop :=
 ∀ (b9:List (Addr×Obj)) (s:Shared) (σ:St) (H:Hp) (Q:List (V×V)->Hp->Prop),Inv X b9 σ H s->jKT trs σ H Q ->
  dM (dQ X.prog X.w) X.A (evalPairs (pairTrees keys sK X.env pos)) (fun vs s'=>∃ ps H',Inv X b9 σ H' s'/\VV ps vs/\Q ps H') X.xe s
theorem jI9:PPs X pos [] [] []:=fun b9 s σ H Q I h=>pairTrees_nil_walk ⟨[],H,I,.nil,h⟩
theorem jEd(hk:PE X k tk)(hv:PE X v tv)(hr:PPs X pos ks vs trs) :
 PPs X pos (some k::ks) (v::vs) ((tk,tv)::trs):=fun b9 s σ H Q I h =>
 pairTrees_cons_walk (thn (hk b9 s σ H _ I h) fun u s1 ⟨x,H1,I1,rx,q1⟩=>thn (hv b9 s1 σ H1 _ I1 q1) fun w2 s2 ⟨y,H2,I2,ry,q2⟩ =>
  thn (hr b9 s2 σ H2 _ I2 q2) fun ws s3 ⟨ps,H3,I3,lG,q3⟩=>⟨(x,y)::ps,H3,I3,.cons ⟨rx,ry⟩ lG,q3⟩)
noncomputable def jEe(kvs more:List (Key×V)):List (Key×V):=more.foldl (fun jX kv=>oU jX kv.1 kv.2) kvs
theorem KV.merge:∀ {more:List (Key×V)} {rs:List (Key×Value)} {kvs:List (Key×V)} {vs:List (Key×Value)},KV more rs->KV kvs vs->KV (jEe kvs more) (merged vs rs):=by
 intro more rs kvs vs r;unfold KV at r;induction r generalizing kvs vs with
 | nil=>intro q;exact q
 | @cons p q ps qs h t ih =>
   intro r0;have e:KV (oU kvs p.1 p.2) (rC vs q.1 q.2):=by
    have:=r0.put p.1 h.2;rw [<- h.1];exact this
   exact ih e
theorem jFG:∀ (more kvs:List (Key×V)),(jEe kvs more).length<=kvs.length+more.length
 | [],kvs=>by show kvs.length<=kvs.length+0;omega
 | p::r,kvs=>by
   have h1:=jFG r (oU kvs p.1 p.2);have h2:=jEZ kvs p.1 p.2;show (jEe (oU kvs p.1 p.2) r).length<=_;rw [fC];omega
theorem jIe:∀ {kvs:List (Key×V)} {ws:List (Value×Value)},VV (kvs.map fun kv=>(kV kv.1,kv.2)) ws->∃ rs,Carries (lV P w) ws rs/\KV kvs rs
 | [],_,r=>by rw [m5] at r;cases r;exact⟨[],True.intro,.nil⟩
 | p::kvs,_,r=>by
   rw [eW] at r;cases r with
   | @cons a b as bs h t =>
     obtain⟨rs,c,q⟩:=jIe (P:=P) (w:=w) t;obtain⟨b1,b2⟩:=b;exact⟨(p.1,b2)::rs,⟨y8 h.1,rfl,c⟩,.cons ⟨rfl,h.2⟩ q⟩
noncomputable def tDisp(trs:List (TE×TE)):TE:=fun σ H Q=>∀ p,H p=none->jKT trs σ (upd H p (.dK [])) fun ps H2=>H2 p=some (.dK [])/\∃ kvs:List (Key×V),ps=kvs.map (fun kv=>(kV kv.1,kv.2))/\kvs.length<=15/\Q (.ref p) (upd H2 p (.dK (jEe [] kvs)))
theorem jI_(h:PPs X pos keys sK trs)(hall:keys.all (·.isSome)=true)(hl:keys.length=sK.length)(h0:keys≠[]) 
 (h15:keys.length<=15):PE X (.Dict keys sK pos) (tDisp trs):=by
 intro b9 s σ H Q I q;have hn:=I.hok.fresh (Nat.le_refl s.heap.objs.size);have I1:=I.laid (a:=s.heap.objs.size) (o:=.dK []) (h':=s.heap.push { cls:=.type "dict",data:=.dict #[] }) (t':=s.toks) (fun _ _ q=>get?_push_of_some _ q) (Nat.le_refl _) (jKS s.heap I.big);refine wpAny_Dict_walk (knd:=lV X.prog X.w) hall hl h0 h15 (thn (h b9 _ σ _ _ I1 (q _ hn)) fun ws s2 ⟨ps,H2,I2,lG,e,kvs,ep,lk,q2⟩=>?_);subst ep;obtain⟨rs,c,rk⟩:=jIe (P:=X.prog) (w:=X.w) lG;obtain⟨z,hd,vs0,r0,dd⟩:=jFq I2.hok e;cases r0;refine⟨rs,c,dd,fun h' xB hs=>⟨.ref s.heap.objs.size,_,?_,rfl,q2⟩⟩;have hz:(jEe [] kvs).length<=dL:=by
  have h1:=jFG kvs [];rw [j6] at h1;rw [iP];omega
 have he:∃ q,h'.get? s.heap.objs.size=some q:=let ⟨q,_,_,hq,_⟩:=xB;⟨q,hq⟩;exact jE3 I2 (by rw [e];exact True.intro) hs he (jE4 hz hd (rk.merge .nil) xB)
structure M1(X:Cx)(o:Expr)(m:Str)(hZ:Pos)(e:Expr)(iZ:Pos):Prop where
 base:iE o m X.env (fA o X.env)=fA o X.env
 few:((gH iZ (dO [e] X.env)).all (fun x=>!x.1)&&(iA iZ (fM [] X.env)).all (fun x=>x.1.isSome)
  && decide (([e]:List Expr).length+([]:List Keyword).length+(if ([]:List Keyword).isEmpty then 0 else 1)<30))=true
 line:(hZ.endLine==iZ.line)=true
 trees:gH iZ (dO [e] X.env)=[(false,fA e X.env)]
structure M2(X:Cx)(o:Expr)(m:Str)(hZ:Pos)(e f:Expr)(iZ:Pos):Prop where
 base:iE o m X.env (fA o X.env)=fA o X.env
 few:((gH iZ (dO [e,f] X.env)).all (fun x=>!x.1)&&(iA iZ (fM [] X.env)).all (fun x=>x.1.isSome)
  && decide (([e,f]:List Expr).length+([]:List Keyword).length+(if ([]:List Keyword).isEmpty then 0 else 1)<30))=true
 line:(hZ.endLine==iZ.line)=true
 trees:gH iZ (dO [e,f] X.env)=[(false,fA e X.env),(false,fA f X.env)]
noncomputable def IsD(H:Hp)(a:Addr):Prop:=(∃ kvs,Rd H a (.dK kvs))\/∃ kvs,Rd H a (.dT kvs)
theorem jKU(I:Inv X b9 σ H s)(d:IsD H a) :
 s.TypeIs (.ref a) "dict"/\(∀ b,Value.ref a=.ref b->∃ ob,s.heap.get? b=some ob/\ob.dict=none)/\(a==i9)=false:=by
 rcases d with⟨kvs,e⟩|⟨kvs,e⟩
 ·obtain⟨_,hd,vs,_,dd⟩:=jDw I.hok e;refine⟨dd.typeIs,fun b q=>?_,hd⟩;cases q;obtain⟨ob,_,_,h1,h2,_⟩:=dd;exact⟨ob,h1,h2.2.1⟩
 ·obtain⟨_,hd,xs,_,dd⟩:=jEH I.hok e;refine⟨dd.typeIs,fun b q=>?_,hd⟩;cases q;obtain⟨ob,_,_,h1,h2,_⟩:=dd;exact⟨ob,h1,h2.2.1⟩
section
variable {X:Cx}{b9:List (Addr×Obj)}{σ:St}{H:Hp}{s:Shared}{a:Addr}{y d:V}{u r:Value}{o:Option V}{A:Around}{E:Value->Shared->Prop}
theorem d_get1(hu:A.units+1<cLine)(I:Inv X b9 σ H s)(g:mM H a y o)(ry:g9 y u)(h:∀ w' s',Inv X b9 σ H s'->g9 (o.getD .non) w'->Q w' s') :
 dM (dQ X.prog X.w) A (call (.builtin "dict.get") [.ref a,u]) Q E s:=by
 rcases g with⟨kvs,k,e,ey,l⟩|⟨kvs,k,b,e,ey,eb,l⟩
 ·subst ey;obtain⟨z,hd,vs,lG,dd⟩:=jDw I.hok e;refine jB jA dd.typeIs kH (PySem.F.args_dict_get_2 _ _) (meets_dict_get (lV X.prog X.w) a (y8 ry) hd) ⟨_,dd.mapOf,h _ _ (I.tok _) ?_⟩;rw [l];exact (lG.val k).getD rfl
 ·subst ey;cases (show u=Value.ref b from ry);obtain⟨z,hd,xs,lG,dd⟩:=jEH I.hok e;refine jB jA dd.typeIs kH (PySem.F.args_dict_get_2 _ _) (meetsH_dict_get (nJ (lV X.prog X.w)) a b hd) ⟨i8 hu,k,xs,jEc I.hok eb,dd,h _ _ (I.tok _) ?_⟩;rw [l];exact (lG.val k).getD rfl
theorem d_get2(hu:A.units+1<cLine)(I:Inv X b9 σ H s)(g:mM H a y o)(ry:g9 y u)(rd:g9 d r)(h:∀ w' s',Inv X b9 σ H s'->g9 (o.getD d) w'->Q w' s') :
 dM (dQ X.prog X.w) A (call (.builtin "dict.get") [.ref a,u,r]) Q E s:=by
 rcases g with⟨kvs,k,e,ey,l⟩|⟨kvs,k,b,e,ey,eb,l⟩
 ·subst ey;obtain⟨z,hd,vs,lG,dd⟩:=jDw I.hok e;refine jB jA dd.typeIs kH (PySem.F.args_dict_get_3 _ _ _) (meets_dict_get_default (lV X.prog X.w) a (y8 ry) hd r) ⟨_,dd.mapOf,h _ _ (I.tok _) ?_⟩;rw [l];exact (lG.val k).getD rd
 ·subst ey;cases (show u=Value.ref b from ry);obtain⟨z,hd,xs,lG,dd⟩:=jEH I.hok e;refine jB jA dd.typeIs kH (PySem.F.args_dict_get_3 _ _ _) (meetsH_dict_get_default (nJ (lV X.prog X.w)) a b hd r) ⟨i8 hu,k,xs,jEc I.hok eb,dd,h _ _ (I.tok _) ?_⟩;rw [l];exact (lG.val k).getD rd
end
inductive jMH(ty:TE)(σ:St)(Q:VK)(x:V)(H1:Hp):Prop|mk a:x=.ref a->IsD H1 a->(ty σ H1 fun y H2=>∃ o,mM H2 a y o/\Q (o.getD .non) H2)->jMH ty σ Q x H1
noncomputable def tDGet1(td ty:TE):TE:=fun σ H Q=>td σ H fun x H1=>jMH ty σ Q x H1
inductive jMI(ty:TE)(tx:TE)(σ:St)(Q:VK)(x:V)(H1:Hp):Prop|mk a:x=.ref a->IsD H1 a->(ty σ H1 fun y H2=>tx σ H2 fun z H3=>∃ o,mM H3 a y o/\Q (o.getD z) H3)->jMI ty tx σ Q x H1
noncomputable def tDGet2(td ty tx:TE):TE:=fun σ H Q=>td σ H fun x H1=>jMI ty tx σ Q x H1
noncomputable def tDPop1(td ty:TE):TE:=fun σ H Q=>td σ H fun x H1=>∃ a,x=.ref a/\IsD H1 a/\ty σ H1 fun y H2=>∃ kvs k v,H2 a=some (.dK kvs)/\y=kV k/\lI kvs k=some v/\Q v (upd H2 a (.dK (jFp kvs k)))
section
variable {X:Cx}{o e f:Expr}{hZ iZ:Pos}{td ty tx:TE}
theorem jKV(hu:X.A.units+1<cLine)(ho:PE X o td)(he:PE X e ty)(m:M1 X o "get" hZ e iZ):PE X (.Call (.Attribute o "get" hZ) [e] [] iZ) (tDGet1 td ty):=by
 intro b9 s σ H Q I h;refine sJ m.base m.few m.line gX jA pK (thn (ho b9 s σ H _ I h) fun u s1 ⟨x,H1,I1,rx,a,ex,d,q1⟩=>?_);subst ex;obtain rfl:u=Value.ref a:=rx;obtain⟨t1,t2,_⟩:=jKU I1 d;exists t1,t2;rw [m.trees];refine Calls.callWith_builtin rfl (Calls.evalArgs_plain (Calls.spliced_cons (thn (he b9 s1 σ H1 _ I1 q1) fun iv s2 ⟨y,H2,I2,ry,ov,g,q2⟩=>Calls.spliced_nil ?_)));exact d_get1 hu I2 g ry fun w' s3 I3 rD=>⟨_,H2,I3,rD,q2⟩
theorem jEf(hu:X.A.units+1<cLine)(ho:PE X o td)(he:PE X e ty)(hf:PE X f tx)(m:M2 X o "get" hZ e f iZ):PE X (.Call (.Attribute o "get" hZ) [e,f] [] iZ) (tDGet2 td ty tx):=by
 intro b9 s σ H Q I h;refine sJ m.base m.few m.line gX jA pK (thn (ho b9 s σ H _ I h) fun u s1 ⟨x,H1,I1,rx,a,ex,d,q1⟩=>?_);subst ex;obtain rfl:u=Value.ref a:=rx;obtain⟨t1,t2,_⟩:=jKU I1 d;exists t1,t2;rw [m.trees]
 refine Calls.callWith_builtin rfl (Calls.evalArgs_plain (Calls.spliced_cons (thn (he b9 s1 σ H1 _ I1 q1) fun iv s2 ⟨y,H2,I2,ry,q2⟩ =>
  Calls.spliced_cons (thn (hf b9 s2 σ H2 _ I2 q2) fun fv s3 ⟨z,H3,I3,rz,ov,g,q3⟩=>Calls.spliced_nil ?_))))
 exact d_get2 hu I3 g ry rz fun w' s4 I4 rD=>⟨_,H3,I4,rD,q3⟩
theorem jKW(ho:PE X o td)(he:PE X e ty)(m:M1 X o "pop" hZ e iZ):PE X (.Call (.Attribute o "pop" hZ) [e] [] iZ) (tDPop1 td ty):=by
 intro b9 s σ H Q I h;refine sJ m.base m.few m.line gX pN PySem.F.type_dict_pop (thn (ho b9 s σ H _ I h) fun u s1 ⟨x,H1,I1,rx,a,ex,d,q1⟩=>?_);subst ex;obtain rfl:u=Value.ref a:=rx;obtain⟨t1,t2,_⟩:=jKU I1 d;exists t1,t2;rw [m.trees];refine Calls.callWith_builtin rfl (Calls.evalArgs_plain (Calls.spliced_cons (thn (he b9 s1 σ H1 _ I1 q1) fun iv s2 ⟨y,H2,I2,ry,kvs,k,v,ea,ey,l,q2⟩=>Calls.spliced_nil ?_)));subst ey;exact d_pop I2 ea ry l (.inl rfl) fun w' s3 I3 rD=>⟨v,_,I3,rD,q2⟩
end
section
variable {X:Cx}{b9:List (Addr×Obj)}{σ:St}{H:Hp}{s:Shared}{a:Addr}{kvs:List (Key×V)}{A:Around}{E:Value->Shared->Prop}
theorem jPB(I:Inv X b9 σ H s)(e:Rd H a (.dK kvs))(h:∀ p s',H p=none->Inv X b9 σ (upd H p (.dK kvs)) s'->Q (.ref p) s'):dM (dQ X.prog X.w) A (call (.type "dict") [.ref a]) Q E s:=by
 obtain⟨z,hd,vs,lG,dd⟩:=jDw I.hok e;refine kt_call_dict hd dd (by rw [<- lG.length];exact z) fun h' xB hs=>?_;refine h _ _ (I.hok.fresh (Nat.le_refl _)) (I.laid (a:=s.heap.objs.size) (o:=.dK kvs) (t':=s.toks) (fun b q hq=>?_) (Nat.le_refl _) (jE4 z (beq_eq_false_iff_ne.mpr (symm (eV I.big))) lG xB));exact (hs.2 b (eV (d0 hq))).trans (get?_push_of_some _ hq)
end
section
variable {X:Cx}{b9:List (Addr×Obj)}{σ:St}{H:Hp}{s:Shared}{a:Addr}{y:V}{u:Value}{A:Around}{E:Value->Shared->Prop}
end
section
variable {X:Cx}
theorem jDD:CallR X (.builtin "len") (fun xs H Q=>∃ a kvs,xs=[V.ref a]/\H a=some (.dK kvs)/\Q (.int kvs.length) H):=by
 intro b9 s σ H xs us Q I r h;obtain⟨a,kvs,rfl,ha,q⟩:=h;obtain⟨u,rfl,ru⟩:=tK r;cases ru;exact d_len I (.inl ha) fun t s' I'=>⟨.int kvs.length,H,I',⟨t,rfl⟩,q⟩
end
section
variable {κ:Type}[DecidableEq κ]
theorem jJa:∀ {l:List κ} {k:κ},l.Nodup->¬ k∈l->(l++[k]).Nodup
 | [],k,_,_=>by simp
 | a::r,k,h,hk=>by
   obtain⟨h1,h2⟩:=fF.mp h;show (a::(r++[k])).Nodup;refine fF.mpr ⟨fun m=>?_,jJa h2 fun m=>hk (dX.mpr (Or.inr m))⟩;rcases eN.mp m with q|q
   ·exact h1 q
   ·exact hk (dX.mpr (Or.inl (mem_singleton.mp q).symm))
end
end L2
namespace Blk
open PySem
noncomputable def J:List (List Nat)->List Nat
 | []=>[]
 | [x]=>x
 | x::y::r=>x++32::J (y::r)
noncomputable def C:List Nat->List (List Nat)
 | []=>[[]]
 | c::r=>if c=32 then []::C r else match C r with
   | []=>[[c]]
   | p::ps=>(c::p)::ps
noncomputable def sg(x:Str):List Nat:=x.cps.toList
theorem sg_inj(h:sg x=sg y):x=y:=by
 obtain⟨a⟩:=x;obtain⟨b⟩:=y;have e:a.toList=b.toList:=h;rw [uF.mp e]
theorem rZ(x y:Str):sg (x++y)=sg x++sg y:=Array.toList_append ..
theorem map_sg_inj:∀ {a b:List Str},a.map sg=b.map sg->a=b
 | [],[],_=>rfl
 | [],_::_,h=>by cases h
 | _::_,[],h=>by cases h
 | x::a,y::b,h=>by
   have e:=List.cons.inj h;rw [sg_inj e.1,map_sg_inj e.2]
end Blk
namespace L2
open PySem PySem.Spec PyProof.Rows
theorem small(h:n<=1000):n<=dL:=le_of_lt (kZ h)
theorem jMJ(x y:Str):(x++y).length=x.length+y.length:=by
 show (x.cps++y.cps).size=x.cps.size+y.cps.size;exact Array.size_append
theorem jC9(z:Str):z.cps.toList.length=z.length:=by simp [Str.length]
theorem at_in(h0:0<=i)(h1:i<(xs.length:Int)):∃ v,xs[i.toNat]?=some v/\atI xs i=some v:=by
 have hk:i.toNat<xs.length:=by omega
 have q:atI xs ((i.toNat:Nat):Int)=some xs[i.toNat]:=o9 (getElem?_eq_getElem hk);have e:((i.toNat:Nat):Int)=i:=by omega
 rw [e] at q;exact⟨_,getElem?_eq_getElem hk,q⟩
theorem jCu:fJ "list"=some (.type "list"):=by decide +kernel
theorem jOu:fJ "str"=some (.type "str"):=by decide +kernel
theorem bt_int:fJ "int"=some (.type "int"):=by decide +kernel
theorem jKX:fJ "isinstance"=some (.builtin "isinstance"):=by decide +kernel
theorem bt_all:fJ "all"=some (.builtin "all"):=by decide +kernel
theorem bt_min:fJ "min"=some (.builtin "min"):=by decide +kernel
theorem bt_max:fJ "max"=some (.builtin "max"):=by decide +kernel
theorem jKY:fJ "tuple"=some (.type "tuple"):=by decide +kernel
theorem jKZ(n:String):g9 (.ty n) (.type n):=rfl
theorem rel_str(x:Str)(t:Tok):g9 (.str x) (.str x t):=⟨t,rfl⟩
theorem rel_int(x:Int)(t:Tok):g9 (.int x) (.int x t):=⟨t,rfl⟩
noncomputable def Itx(z:Str):It:=⟨fun i _=>i<z.cps.size,fun i H x H'=>H'=H/\∃ c,z.cps[i]?=some c/\x=.str ⟨#[c]⟩,fun i _=>i=z.cps.size⟩
theorem jDO(z:Str):(z.cps.all (· < 128)=true/\k9 z="str_ascii_iterator")\/(z.cps.all (· < 128)=false/\k9 z="str_iterator"):=by
 unfold k9;cases ha:z.cps.all (· < 128)
 ·exact .inr ⟨rfl,by rfl⟩
 ·exact .inl ⟨rfl,by rfl⟩
theorem jJN(hh:A.handled=none)(it:Addr)(z:Str)(t:Tok) :
 Walks P w A it [it] [it] z.cps.size (SignAt z) (fun i h=>h.IsStrIter it (k9 z) z t i):=by
 rcases jDO z with⟨_,e⟩|⟨_,e⟩
 ·rw [e];exact Walks.strAscii hh it z t
 ·rw [e];exact Walks.strWide hh it z t
theorem jKd(z:Str):["enumerate","zip","dict_itemiterator","dict_reverseitemiterator","odict_iterator","itertools.zip_longest","itertools.pairwise"].contains (k9 z)=false:=by
 rcases jDO z with⟨_,e⟩|⟨_,e⟩
 ·rw [e];decide
 ·rw [e];decide
theorem jPC{P:Program}{w:World}{K:PySem.W.Frag}{tg:Expr}(z:Str)(t:Tok)(it:Addr):xT P w K tg (Itx z) [it] it (fun i h=>h.IsStrIter it (k9 z) z t i) where
 mem:=by simp
 obj:=fun i h st b hb=>by
  have e:b=it:=by simpa using hb
  subst e;obtain⟨o,e,c,d⟩:=st;exact⟨o,e,fun v z=>by rw [d] at z;cases z⟩
 keep:=fun i h h' st k=>by
  obtain⟨o,e,r⟩:=st;exact⟨o,k it (by simp) o e,r⟩
 item:=by
  intro X hP hw hK hc i b9 s σ H E I hf st hg;subst hP hw hK;obtain⟨f0,f1,f2,f3,f4,f5⟩:=hf it (by simp);have W:=jJN (P:=X.prog) (w:=X.w) (I.ok.hd hc) it z t;refine W.item i s _ _ hg st fun v h' tk hv pL kk=>?_;obtain⟨c,u,hx,rfl⟩:=hv;have I1:Inv X b9 σ H { s with heap:=h',toks:=tk }:=I.turned (fun b o hb e=>kk b o (by simpa using hb) e) f0 f1 f3 f4 f5;obtain⟨o,e,cc,d⟩:=id pL;exact⟨_,rfl,jFn (s:={ s with heap:=h',toks:=tk }) e cc d (jKd z) ⟨.str ⟨#[c]⟩,H,I1,⟨u,rfl⟩,⟨rfl,c,hx,rfl⟩,pL,fun b hb=>(hf b hb).1⟩⟩
 done:=by
  intro X hP hw hK hc i b9 s σ H E I hf st hg;subst hP hw hK;obtain⟨f0,f1,f2,f3,f4,f5⟩:=hf it (by simp);have W:=jJN (P:=X.prog) (w:=X.w) (I.ok.hd hc) it z t;have e:i=z.cps.size:=hg;subst e;exact W.done s _ _ st fun h' tk kk=>⟨rfl,I.turned (t':=tk) (fun b o hb e=>kk b o (by simpa using hb) e) f0 f1 f3 f4 f5⟩
 self:=fun A i s Q E st h=>by
  have pL:s.heap.IsStrIter it (k9 z) z t i:=st;rcases jDO z with⟨_,e⟩|⟨_,e⟩
  ·rw [e] at pL;exact wpAny_pyIter_striter_ascii pL h
  ·rw [e] at pL;exact wpAny_pyIter_striter_wide pL h
section
variable {X:Cx}{tg:Expr}
noncomputable def iStr(tl:TE):TI:=fun σ H R=>tl σ H fun x H1=>∃ z,x=.str z/\R (Itx z) H1
theorem pi_str{l:Expr}{tl:TE}(hl:PE X l tl):PI X tg l (iStr tl):=by
 intro b9 s σ H R I h;refine thn (hl b9 s σ H _ I h) fun v s1 ⟨x,H1,I1,r1,q1⟩=>?_;obtain⟨z,e,q⟩:=q1;subst e;obtain⟨t,rfl⟩:=r1;refine wpAny_pyIter_strU ?_;refine⟨s1.heap.objs.size,[s1.heap.objs.size],_,_,H1,rfl,I1.kept (t':=s1.toks) fun b o e=>get?_push_of_some _ e,jPC z t _,⟨_,get?_push_size _ rfl,rfl,rfl⟩,fun b hb=>?_,q⟩;have e:b=s1.heap.objs.size:=by simpa using hb
 subst e;exact I1.fpOk (Nat.le_refl _) (I1.hok.fresh (Nat.le_refl _))
end
section
variable {X:Cx}
inductive rIxSA(x:V)(y:V)(H:Hp)(Q:VK):Prop|mk z i:x=.str z->y=.int i->z.length<=dL->0<=i->i<((z.length:Nat):Int)->(∀ c,z.cps.toList[i.toNat]?=some c->Q (.str ⟨#[c]⟩) H)->rIxSA x y H Q
theorem jMK:IxR X rIxSA:=by
 intro value slice b9 s σ H x y v u Q I rx ry h hs;obtain⟨z,i,rfl,rfl,hz,h0,h1,q⟩:=h;obtain⟨c,e1,e2⟩:=at_in (xs:=z.cps.toList) h0 (by rw [jC9];exact h1);exact jKL value slice b9 s σ H _ _ v u Q I rx ry ⟨z,i,c,rfl,rfl,hz,e2,q c e1⟩ hs
inductive rIsi(K:PySem.W.Frag)(xs:List V)(H:Hp)(Q:VK):Prop|mk x n t b:xs=[x,.ty n]->uN K H x t->pY K t (.type n)=some b->Q (.bl b) H->rIsi K xs H Q
theorem jHz:CallR X (.builtin "isinstance") (rIsi X.K):=by
 intro b9 s σ H xs us Q I r h;obtain⟨x,n,t,b,rfl,ty,e,q⟩:=h;obtain⟨u,w',rfl,r1,r2⟩:=vals2 r;cases (show w'=type n from r2);exact jOh I r1 ty e fun tk=>⟨.bl b,H,I.tok tk,rfl,q⟩
theorem jHA{K:PySem.W.Frag}(n:String):pY K (.type n) (.type n)=some true:=by
 unfold pY;rw [if_pos (beq_self_eq_true _)]
noncomputable def jEg(xs ys:List V):Bool:=xs.length==ys.length&&(range xs.length).all fun j=>eqV (xs.getD j .non) (ys.getD j .non)
theorem jGT{xs:List V}(f:xs.all tJ=true)(j:Nat):tJ (xs.getD j .non)=true:=by
 by_cases h:j<xs.length
 ·rw [getD_eq_getElem?_getD,getElem?_eq_getElem h];exact (gZ.mp f) _ (mG h)
 ·rw [getD_eq_getElem?_getD,getElem?_eq_none (by omega)];rfl
theorem jE5(r:iH xs us)(j:Nat)(h:j<us.toArray.size):g9 (xs.getD j .non) (us.toArray[j]):=by
 have hl:=r.length;have h':j<us.length:=by simpa using h
 have h2:j<xs.length:=by omega
 obtain⟨u,e1,e2⟩:=r.get (getElem?_eq_getElem h2);rw [getD_eq_getElem?_getD,getElem?_eq_getElem h2];have e3:us.toArray[j]=u:=by
  rw [getElem?_eq_getElem h'] at e1;simpa using Option.some.inj e1
 rw [e3];exact e2
inductive rEqL(K:PySem.W.Frag)(neg:Bool)(x:V)(y:V)(H:Hp)(Q:VK):Prop|mk p q xs ys:x=.ref p->y=.ref q->SqL K H p xs->SqL K H q ys->xs.all tJ=true->ys.all tJ=true->Q (.bl (if neg then !jEg xs ys else jEg xs ys)) H->rEqL K neg x y H Q
theorem jIf(hu:X.A.units<cLine):OpR X (fB .NotEq) (rEqL X.K true):=by
 intro b9 s σ H x y v u Q I rx ry h;obtain⟨p,q,xs,ys,rfl,rfl,hp,hq,fx,fy,k⟩:=h;cases rx;cases ry;obtain⟨its,r1,l1,z1⟩:=I.list hp;obtain⟨jts,r2,l2,z2⟩:=I.list hq;have e1:=r1.length;have e2:=r2.length;have fin:∀ b,b=jEg xs ys->EP X b9 σ Q (.bool (!b)) s:=fun b e=>⟨.bl (!b),H,I,rfl,by rw [e];exact k⟩
 by_cases hs:xs.length=ys.length
 ·refine SeqAt.RcNeAt.lists (e:=fun j=>eqV (xs.getD j .non) (ys.getD j .non)) l1.isList l2.isList (by simp;omega) hu (fun j h1 h2=>?_) X.prog X.w _ _ (fin _ ?_)
  ·exact jIa (jE5 r1 j h1) (jE5 r2 j h2) (jGT fx j) (jGT fy j)
  ·unfold jEg;rw [dS,<- e1,hs,beq_self_eq_true,Bool.true_and]
 ·refine SeqAt.RcNeAt.lists_lengths l1.isList l2.isList (by simp [bne_iff_ne];omega) hu X.prog X.w _ _ (fin false ?_);unfold jEg;rw [beq_eq_false_iff_ne.mpr hs,Bool.false_and]
theorem jFr(hu:X.A.units<cLine):OpR X (fB .Eq) (rEqL X.K false):=by
 intro b9 s σ H x y v u Q I rx ry h;obtain⟨p,q,xs,ys,rfl,rfl,hp,hq,fx,fy,k⟩:=h;cases rx;cases ry;obtain⟨its,r1,l1,z1⟩:=I.list hp;obtain⟨jts,r2,l2,z2⟩:=I.list hq;have e1:=r1.length;have e2:=r2.length;have fin:∀ b,b=jEg xs ys->EP X b9 σ Q (.bool b) s:=fun b e=>⟨.bl b,H,I,rfl,by rw [e];exact k⟩
 by_cases hs:xs.length=ys.length
 ·refine SeqAt.RcAt.lists (e:=fun j=>eqV (xs.getD j .non) (ys.getD j .non)) l1.isList l2.isList (by simp;omega) hu (fun j h1 h2=>?_) X.prog X.w _ _ (fin _ ?_)
  ·exact jIa (jE5 r1 j h1) (jE5 r2 j h2) (jGT fx j) (jGT fy j)
  ·unfold jEg;rw [dS,<- e1,hs,beq_self_eq_true,Bool.true_and]
 ·refine SeqAt.RcAt.lists_lengths l1.isList l2.isList (by simp [bne_iff_ne];omega) hu X.prog X.w _ _ (fin false ?_);unfold jEg;rw [beq_eq_false_iff_ne.mpr hs,Bool.false_and]
theorem jJO:∀ (l:List (Str×Tok)),iH ((l.map (·.1)).map V.str) (zR l)
 | []=>.nil
 | (x,t)::r=>.cons ⟨t,rfl⟩ (jJO r)
inductive jOv(x:V)(vs:List V)(H:Hp)(Q:VK):Prop|mk z y:x=.str z->vs=[.str y]->(y.length==0)=false->z.length+2<=dL->(∀ p,H p=none->Q (.ref p) (upd H p (.lst ((Txt.split z y).map V.str))))->jOv x vs H Q
theorem jPD:MtR X "str.split" jOv:=by
 intro b9 s σ H x vs v us Q I rx rv h;obtain⟨z,y,rfl,rfl,hy,hz,q⟩:=h;obtain⟨t,rfl⟩:=rx;obtain⟨u',rfl,u,rfl⟩:=rv.one;have hsl:=split_le z y;have fin:∀ (l:List (Str×Tok)) (tk:Nat),l.map (·.1)=Txt.split z y->EP X b9 σ Q (.ref s.heap.objs.size) { s with heap:=s.heap.push { cls:=.type "list",data:=.seq (zR l).toArray },toks:=tk }:=fun l tk e=>by
  refine⟨.ref s.heap.objs.size,_,I.lnew (ys:=(Txt.split z y).map V.str) (its:=zR l) (by rw [<- e];exact jJO l) (by rw [c7];omega),rfl,q _ I.fresh⟩
 cases h1:(decide (z.length<y.length)||decide (Builtin.Str.strKind z<Builtin.Str.strKind y))
 ·cases hf:(Builtin.Str.occurrences z y 0 z.length (z.length+1)).isEmpty
  ·have e0:Txt.split z y=Builtin.Str.partsBetween z (Builtin.Str.occurrences z y 0 z.length (z.length+1)) y.length:=(if_neg (ne_true_of_eq_false h1)).trans (if_neg (ne_true_of_eq_false hf));refine jS F.slot_str_split (nU _ _ _) F.entry_str_split (F.args_str_split_2 _ _) (meets_str_split_sep z y t u h1 hy hf (by omega) (by rw [<- e0];omega)) ?_;have k:=fin (numbered s.toks (Builtin.Str.partsBetween z (Builtin.Str.occurrences z y 0 z.length (z.length+1)) y.length)) (s.toks+(Builtin.Str.partsBetween z (Builtin.Str.occurrences z y 0 z.length (z.length+1)) y.length).length) ((numbered_texts _ _).trans e0.symm);rw [<- strsFrom_eq] at k;exact k
  ·exact jS F.slot_str_split (nU _ _ _) F.entry_str_split (F.args_str_split_2 _ _) (meets_str_split_not_found z y t u h1 hy hf)
    (fin [(z,t)] s.toks ((if_neg (ne_true_of_eq_false h1)).trans (if_pos hf)).symm)
 ·exact jS F.slot_str_split (nU _ _ _) F.entry_str_split (F.args_str_split_2 _ _) (meets_str_split_cannot_occur z y t u h1) (fin [(z,t)] s.toks (if_pos h1).symm)
end
theorem iS(h:H p=none)(o:HO):eR H (upd H p o):=fun b u q=>by rw [eJ (gM q h)];exact q
theorem tY(h:H p=none)(e:eR H H')(o:HO):eR H (upd H' p o):=fun b u q=>by rw [eJ (gM q h)];exact e b u q
noncomputable def jCU(cells:List (Str×Addr)):List (Str×NameKind)->List (Str×Addr)->List (Str×Addr)
 | [],jX=>jX
 | (n,k)::r,jX=>jCU cells r (if (k==.free)=true then (n,(cells.lookup n).getD 0)::jX else jX)
theorem jDP(h:∀ p∈scope.names,p.2=.free->(env.cells.lookup p.1).isSome=true):rL scope env=pure (jCU env.cells scope.names []):=by
 obtain⟨kd,names,g1,g2,more⟩:=scope;simp only [rL];dsimp only at h ⊢;generalize ([]:List (Str×Addr))=jX;induction names generalizing jX with
 | nil=>rfl
 | cons p r ih =>
   obtain⟨n,k⟩:=p;have hr:∀ p∈r,p.2=.free->(env.cells.lookup p.1).isSome=true:=fun p hp=>h p (eG _ hp);have ih':=ih hr;simp only [jCU];by_cases hk:k=.free
   ·subst hk;obtain⟨c,hc⟩:=gN.mp (h (n,.free) eD rfl);have zK:List.lookup n env.cells=some c:=hc;rw [show (NameKind.free==NameKind.free)=true from rfl,if_pos rfl,zK];have e:cellOf env n=pure c:=by unfold cellOf;rw [zK]
    have q:=ih' ((n,c)::jX);simp only [List.forIn_cons,beq_self_eq_true,if_true,e,pure_bind,pB];exact q
   ·have hb:(k==NameKind.free)=false:=by simpa using hk
    have q:=ih' jX;simp only [List.forIn_cons,hb,Bool.false_eq_true,if_false,pure_bind];exact q
theorem jF9:∀ (names:List (Str×NameKind)) (jX:List (Str×Addr)),(∀ p∈names,p.2=.free->(cells.lookup p.1).isSome=true) ->
 (∀ y c,jX.lookup y=some c->cells.lookup y=some c)->(jCU cells names jX).lookup y=some c->cells.lookup y=some c
 | [],_,_,ha,h=>ha _ _ h
 | (n,k)::r,jX,hn,ha,h=>by
   refine jF9 r _ (fun p hp=>hn p (eG _ hp)) (fun y c hy=>?_) h;by_cases hk:(k==NameKind.free)=true
   ·rw [if_pos hk] at hy;rw [gY] at hy;by_cases e:(y==n)=true
    ·rw [e] at hy;obtain⟨d,hd⟩:=gN.mp (hn (n,k) eD (by simpa using hk));have hd':cells.lookup n=some d:=hd;have hy':(cells.lookup n).getD 0=c:=Option.some.inj hy;rw [hd'] at hy';rw [eq_of_beq e,hd'];exact congrArg some hy'
    ·rw [nH.mpr e] at hy;exact ha y c hy
   ·rw [if_neg hk] at hy;exact ha y c hy
theorem jC_:∀ (names:List (Str×NameKind)) (jX:List (Str×Addr)),((jX.lookup y).isSome=true\/(y,NameKind.free)∈names)->((jCU cells names jX).lookup y).isSome=true
 | [],jX,h=>h.elim id (fun z=>by cases z)
 | (n,k)::r,jX,h=>by
   refine jC_ r _ ?_;rcases h with h|h
   ·refine .inl ?_;by_cases hk:(k==NameKind.free)=true
    ·rw [if_pos hk,gY];by_cases e:(y==n)=true
     ·rw [e];rfl
     ·rw [nH.mpr e];exact h
    ·rw [if_neg hk];exact h
   ·rcases dX.mp h with e|h
    ·cases e;refine .inl ?_;rw [if_pos (show (NameKind.free==NameKind.free)=true from rfl),gY,beq_self_eq_true];rfl
    ·exact .inr h
noncomputable def xW(X:Cx)(scope:Scope)(N':List Str)(C:Addr)(ex:List Addr)(eU:Shared)(H₂:Hp):Cx where
 prog:=X.prog
 w:=X.w
 K:=X.K
 mg:=X.mg
 base:=X.base
 A:=X.A
 N:=N'
 s₀:=eU
 H₀:=H₂
 env:=compEnvC scope (jCU X.env.cells scope.names []) C X.env
 outer:=X.stack
 stack:=X.stack
 ex:=ex
 fn:=fun _=>false
 calm:=X.calm
 pn:=[]
 xe:=fun _ _=>False
noncomputable def jD2(X:Cx)(scope:Scope):List (Str×Nat)->Prop
 | []=>True
 | p::r=>(X.N[p.2]?=some p.1/\X.env.kindOf p.1=some .cell/\(sL scope X.env).names.lookup p.1=some .cell/\(p.1,NameKind.free)∈scope.names)/\jD2 X scope r
theorem jD2.at:∀ {fr:List (Str×Nat)},jD2 X scope fr->∀ p∈fr,X.N[p.2]?=some p.1/\X.env.kindOf p.1=some .cell/\(sL scope X.env).names.lookup p.1=some .cell/\(p.1,NameKind.free)∈scope.names
 | [],_,p,hp=>by cases hp
 | _::_,h,p,hp=>by
   rcases dX.mp hp with e|hp
   ·rw [e];exact h.1
   ·exact jD2.at h.2 p hp
noncomputable def inSt(frees:List (Str×Nat))(σ:St)(x:Option V):St:=x::frees.map fun p=>(σ[p.2]?).join
noncomputable def PIfs(X:Cx)(qY:List Expr)(t:TT):Prop :=
 ∀ (b9:List (Addr×Obj)) (s:Shared) (σ:St) (H:Hp) (Q:Bool->Hp->Prop),Inv X b9 σ H s->t σ H Q ->
  dM (dQ X.prog X.w) X.A (forIn qY true fun c r=>if r=true then do let ok <- z6 c X.env (fA c X.env);pure (ForInStep.yield ok) else pure (ForInStep.yield r)) (TP X b9 σ Q) X.xe s
theorem vT:PIfs X [] (fun _ H Q=>Q true H):=fun _ _ _ H _ I h=>wpAny_tests_nil ⟨H,I,h⟩
theorem vS(h:PT X c t):PIfs X [c] t:=fun b9 s σ H Q I hw=>wpAny_tests_one (h b9 s σ H Q I hw)
noncomputable def jIg(J:It)(tc:TT)(te:TE)(σf:Option V->St)(H1:Hp)(Q:VK):Prop:=∀ D,H1 D=none ->
 ∃ W:Nat->Nat->List V->Hp->Prop,(∃ m,W 0 m [] (upd H1 D (.lst [])))/\∀ i m ys H2,W i m ys H2->H2 D=some (.lst ys) /\
  ((J.stop i H2/\Q (.ref D) H2)\/(J.go i H2/\ys.length<dL/\∀ x H3,J.yld i H2 x H3->tc (σf (some x)) H3 fun b H4 =>
    if b=true then te (σf (some x)) H4 fun y H5=>H5 D=some (.lst ys)/\∃ m',m'<m/\W (i+1) m' (ys++[y]) (upd H5 D (.lst (ys++[y]))) else ∃ m',m'<m/\W (i+1) m' ys H4))
section
variable {prog:Program}{w:World}{A:Around}{R:Result->Shared->Prop}{s:Shared}
theorem jJP(I:Nat->Shared->Prop) 
 (uQ:∀ n s,I n s->dM (dQ prog w) A (rE it) (fun r fQ=>match r with
  | none=>R (.ok .next) fQ
  | some v=>dM (dQ prog w) A (oO qG it v) (fun _ s₁'=>dM (dQ prog w) A (mK qG env v) (fun _ eU =>
   dM (dQ prog w) A (forIn qY true fun c r=>if r=true then do let ok <- z6 c env (fA c env);pure (ForInStep.yield ok) else pure (ForInStep.yield r)) (fun ok rB =>
    if ok=true then dM (dQ prog w) A (fA sH env) (fun x wH =>
     dM (dQ prog w) A (call (.builtin "list.append") [jX,x]) (fun _ s₅=>∃ m,m<n/\I m s₅) (fun _ _=>False) wH) (fun _ _=>False) rB
    else ∃ m,m<n/\I m rB) (fun _ _=>False) eU) (fun _ _=>False) s₁') (fun _ _=>False) fQ) (fun _ _=>False) s)
 (n:Nat) (h:I n s) :
 iR (dQ prog w) A (.compLoop (.ListComp sH [⟨qG,j8,qY,0⟩] scope pos) 0 it jX env) R s:=by
 have no:∀ {α:Type} {t:Sem α} {Q:α->Shared->Prop} {E:Value->Shared->Prop} {s:Shared},dM (dQ prog w) A t Q (fun _ _=>False) s->dM (dQ prog w) A t Q E s:=fun h=>e8 h (fun _ _ q=>q) fun _ _ f=>f.elim;refine codeAny_loop rfl I (fun n s hI=>?_) n h;show dM _ A ((compTurn (.ListComp sH [⟨qG,j8,qY,0⟩] scope pos) 0 it jX env).onRaise (fun x=>do tT x env;theTreesLotGoes x)) _ _ s;refine wpAny_noted ?_;rw [compTurn_list];refine c8 (iT (c8 (e8 (uQ n s hI) (fun r fQ jM=>?_) fun _ _ h'=>h'.elim)));cases r with
 | none=>exact dP jM
 | some v =>
   refine c8 (e8 jM (fun _ s₁' h₁'=>?_) fun _ _ h'=>h'.elim);refine c8 (e8 h₁' (fun _ eU qP=>c8 (e8 qP (fun ok rB h₃=>?_) fun _ _ h'=>h'.elim)) fun _ _ h'=>h'.elim);cases ok with
   | false=>exact dP ⟨rfl,h₃⟩
   | true =>
     exact c8 (c8 (e8 h₃ (fun x wH h₄=>c8 (e8 h₄ (fun _ s₅ h₅=>dP (dP ⟨rfl,h₅⟩)) fun _ _ h'=>h'.elim)) fun _ _ h'=>h'.elim))
end
section
variable {X:Cx}{sH j8:Expr}{x:Str}{px pos:Pos}{qY:List Expr}{scope:Scope}{frees:List (Str×Nat)}{tc:TT}{te:TE}
structure jK0(X:Cx)(scope:Scope)(x:Str)(frees:List (Str×Nat)):Prop where
 cell:∀ y∈scope.names,y.2≠.cell
 kind:scope.kind=.function
 own:scope.names.lookup x=some .local
 names:∀ y∈scope.names,y.2=.local->scope.names.lookup y.1=some .local
 fr:jD2 X scope frees
 nd:(x::frees.map (·.1)).Nodup
 cl:∀ p∈scope.names,p.2=.free->(X.env.cells.lookup p.1).isSome=true
 calm:X.calm=true
theorem jF_(hc:∀ y∈scope.names,y.2≠.cell)(h:(sL scope env).names.lookup y=some .cell\/(sL scope env).names.lookup y=some .free):(y,NameKind.free)∈scope.names:=by
 have lT:∀ k,(sL scope env).names.lookup y=some k->k≠.local->k=.cell\/k=.free->(y,NameKind.free)∈scope.names:=fun k hk _ hkk=>by
  have hm:=PySem.mem_of_lookup hk;obtain⟨⟨n,k0⟩,hm0,e⟩:=dR.mp hm;by_cases hcond:(k0==NameKind.free&&env.scope.kind==.function&&env.kindOf n==some .cell)=true
  ·have e':(n,NameKind.cell)=(y,k):=by rw [<- e];exact (if_pos hcond).symm
   have hk0:k0=.free:=by
    rw [eK,eK] at hcond;exact eq_of_beq hcond.1.1
   have en:n=y:=congrArg fst e';rw [<- en,<- hk0];exact hm0
  ·have e':(n,k0)=(y,k):=by rw [<- e];exact (if_neg hcond).symm
   have en:n=y:=congrArg fst e';have ek:k0=k:=congrArg snd e';rcases hkk with hkk|hkk
   ·exact absurd (ek.trans hkk) (hc _ hm0)
   ·rw [<- en,<- hkk,<- ek];exact hm0
 rcases h with h|h
 ·exact lT _ h (by decide) (.inl rfl)
 ·exact lT _ h (by decide) (.inr rfl)
theorem jJQ{b9:List (Addr×Obj)}{σ:St}{H1:Hp}{eU:Shared}{it:Addr}{fp:List Addr}{tn:Nat->Heap->Prop}{J:It}{Q:VK}{RR:Value->Addr->Result->Shared->Prop}{E:Value->Shared->Prop}
 (O:jK0 X scope x frees) (hc:∀ C ex eU H₂,PIfs (xW X scope (x::frees.map (·.1)) C ex eU H₂) qY tc) (he:∀ C ex eU H₂,PE (xW X scope (x::frees.map (·.1)) C ex eU H₂) sH te)
 (I:Inv X b9 σ H1 eU) (T:xT X.prog X.w X.K (.Name x px) J fp it tn) (st:tn 0 eU.heap) (hf:∀ b∈fp,xU X b9 H1 b) (hB:jIg J tc te (inSt frees σ) H1 Q)
 (hRR:∀ D C H' s',Inv X b9 σ H' s'->(∃ m,s'.heap.Ns C m)->xU X b9 H' C->Q (.ref D) H'->RR (.ref D) C (.ok .next) s') :
 dM (dQ X.prog X.w) X.A (newList []) (fun jX rB=>dM (dQ X.prog X.w) X.A (newFunctionEnv scope X.env.globals (jCU X.env.cells scope.names []) [] X.env.qual none .none (some X.env)) (fun cenv wH =>
  iR (dQ X.prog X.w) X.A (.compStart (.ListComp sH [⟨.Name x px,j8,qY,0⟩] scope pos) 0 (.ref it) jX { cenv with scope:=sL scope X.env }) (RR jX cenv.locals) wH) E rB) E eU:=by
 refine mS (pH O.cell (by intro y hy;simp at hy) (fun jM nM lX=>?_) O.kind);dsimp only at nM lX ⊢;generalize hH2:eU.heap.push { cls:=.type "list",dict:=none,data:=.seq ([]:List Value).toArray }=H2 at nM lX ⊢;have hC:H2.objs.size=eU.heap.objs.size+1:=by rw [<- hH2,jO]
 have hDC:eU.heap.objs.size≠H2.objs.size:=by rw [hC];exact eV (jP _)
 have u7:eU.heap.objs.size<=H2.objs.size:=by rw [hC];exact iF _
 have mR:∀ b,b<eU.heap.objs.size->b≠H2.objs.size/\b≠eU.heap.objs.size:=fun b hb=>⟨by rw [hC];exact eV (Nat.lt_succ_of_lt hb),eV hb⟩
 have oM:∀ b o,eU.heap.get? b=some o->jM.get? b=some o:=fun b o e=>lX.extBut b o (mR b (d0 e)).1 (get?_push_of_some _ (hH2 ▸ get?_push_of_some _ e));have zM:jM.get? eU.heap.objs.size=some { cls:=.type "list",data:=.seq ([]:List Value).toArray }:=lX.extBut _ _ hDC (get?_push_of_some _ (hH2 ▸ get?_push_size _ rfl));have nD:H1 eU.heap.objs.size=none:=I.hok.fresh (Nat.le_refl _);obtain⟨W,⟨m0,w0⟩,hW⟩:=hB eU.heap.objs.size nD
 -- the block's context and its first state
 let X':Cx:=xW X scope (x::frees.map (·.1)) H2.objs.size fp eU H1;have t7:∀ y c,(jCU X.env.cells scope.names []).lookup y=some c->X.env.cells.lookup y=some c:=fun y c h=>jF9 scope.names [] O.cl (fun y c h=>by cases h) h;have fpl:∀ b∈fp,b<eU.heap.objs.size:=fun b hb=>by
  obtain⟨o,e,_⟩:=T.obj _ _ st b hb;exact d0 e
 have ok':X'.Ok:=by
  refine⟨I.ok.mod,O.kind,I.ok.glob,I.ok.blt,u7,fun y z c h1 h2=>I.ok.inj y z c (t7 y c h1) (t7 z c h2),fun y hy=>?_,fun y c h _=>(by cases h),I.ok.hd,I.ok.frames,.inl rfl,fun b hb=>?_,I.bs,eM I.ok.bsz I.sz,fun b o e hb=>?_,fun b hb z=>?_,I.stack,I.stkFree⟩
  ·exact gN.mp (jC_ scope.names [] (.inr (jF_ O.cell hy)))
  ·exact⟨(mR b (fpl b hb)).1,fun y c h=>(hf b hb).2.2.2.2.1 y c (t7 y c h)⟩
  ·rcases (hf b hb).2.2.2.1 with z|z
   ·exact I.ok.noex b o e z
   ·exact absurd (lt_of_lt_of_le (lt_of_lt_of_le (d0 e) I.ok.bsz) z) (gU _)
  ·exact (dX.mp (I.stkSub b z)).elim (hf b hb).2.1 (hf b hb).2.2.1
 have hok1:HOk X.prog X.w (upd H1 eU.heap.objs.size (.lst [])) jM:=I.hok.laid oM (Nat.le_refl _) ⟨d9 _,[],0,.nil,zM⟩;have I0:∀ tk,Inv X' [] (inSt frees σ none) (upd H1 eU.heap.objs.size (.lst [])) { eU with heap:=jM,toks:=tk }:=fun tk=>by
  exists ok',rfl,I.bare,Un.laid oM (Nat.le_refl _) nD,⟨_,nM,fun i y v h1 h2 h3=>?_⟩,fun y c h=>?_,?_,fun y c h=>?_,fun p hp=>absurd (show p∈([]:List (Addr×Obj)) from hp) (by simp),hok1
  ·cases i with
   | zero =>
     have v9:(none:Option V)=some v:=Option.some.inj h2;cases v9
   | succ j =>
     have wA:(frees.map (·.1))[j]?=some y:=h1;have v9:(frees.map fun p=>(σ[p.2]?).join)[j]?=some (some v):=h2;rw [getElem?_map] at wA v9;cases e:frees[j]? with
     | none=>rw [e] at wA;cases wA
     | some p =>
       rw [e] at wA v9;have e1:p.1=y:=Option.some.inj wA;have e2:(σ[p.2]?).join=some v:=Option.some.inj v9;obtain⟨g1,g2,g3,g4⟩:=O.fr.at p (mem_of_getElem? e);have e3:σ[p.2]?=some (some v):=by
        cases q:σ[p.2]? with
        | none=>rw [q] at e2;cases e2
        | some o=>rw [q] at e2;exact congrArg some e2
       obtain⟨m,hn,hl⟩:=I.loc;obtain⟨u,r,l⟩:=hl p.2 p.1 v g1 e3 (.inr (.inl g2));exists u,r;rcases l with⟨k,_⟩|⟨_,c,v0,hc2⟩
       ·rw [g2] at k;cases k
       ·obtain⟨c2,hc3⟩:=gN.mp (jC_ (cells:=X.env.cells) scope.names [] (.inr g4));have hc4:=t7 _ _ hc3;rw [v0] at hc4;cases hc4;rw [<- e1];refine .inr ⟨.inl g3,c,hc3,?_⟩;obtain⟨o,ho,hd⟩:=hc2;exact⟨o,oM c o ho,hd⟩
  ·obtain⟨v,o,ho,hd⟩:=I.cell y c (t7 y c h);exact⟨v,o,oM c o ho,hd⟩
  ·show upd H1 eU.heap.objs.size (.lst []) H2.objs.size=none;rw [eJ (symm hDC)];exact I.hok.fresh u7
  ·obtain⟨v,o,ho,hd⟩:=I.cell y c (t7 y c h);rw [eJ (mR c (d0 ho)).2];exact I.freeC y c (t7 y c h)
  ·show (inSt frees σ none).length=(x::frees.map (·.1)).length;simp [inSt]
 have qH:∀ {H':Hp},(∀ b∈fp,H' b=none)->∀ b∈fp,xU X' [] H' b:=fun hn b hb =>
  ⟨hn b hb,(mR b (fpl b hb)).1,fun z=>(dX.mp (I.stkSub b z)).elim (hf b hb).2.1 (hf b hb).2.2.1,.inl hb,fun y c h=>(hf b hb).2.2.2.2.1 y c (t7 y c h),fun p hp=>absurd (show p∈([]:List (Addr×Obj)) from hp) (by simp)⟩
 have qQ:tn 0 jM:=T.keep _ _ _ st fun b _ o e=>oM b o e;have fr0:∀ b∈fp,(upd H1 eU.heap.objs.size (.lst [])) b=none:=fun b hb=>by
  rw [eJ (mR b (fpl b hb)).2];exact (hf b hb).1
 have loop:∀ tk,iR (dQ X.prog X.w) X.A (.compLoop (.ListComp sH [⟨.Name x px,j8,qY,0⟩] scope pos) 0 (.ref it) (.ref eU.heap.objs.size) X'.env) (RR (.ref eU.heap.objs.size) H2.objs.size) { eU with heap:=jM,toks:=tk }:=fun tk=>by
  refine jJP (fun n s'=>∃ i ys o H',Inv X' [] (inSt frees σ o) H' s'/\tn i s'.heap/\(∀ b∈fp,H' b=none)/\W i n ys H') ?_ m0 ⟨0,[],none,_,I0 tk,qQ,fr0,w0⟩;rintro n s3 ⟨i,ys,o3,H3,I3,st3,fr3,w3⟩;obtain⟨hD3,alt⟩:=hW i n ys H3 w3;rcases alt with⟨stop,q⟩|⟨go,j2,step⟩
  ·refine thn (T.done X' rfl rfl rfl O.calm i [] s3 _ H3 _ I3 (qH fr3) st3 stop) fun r s4 ⟨hr,I4⟩=>?_;subst hr;have J4:Inv X b9 σ H3 s4:=I.call' (ch:=fp) I4.os I4.base I4.hok I4.bare fun b hb=>⟨(hf b hb).2.2.2.1,(hf b hb).2.1,(hf b hb).2.2.2.2.1,(hf b hb).2.2.2.2.2⟩
   obtain⟨m4,hn4,_⟩:=I4.loc;exact hRR _ _ H3 s4 J4 ⟨m4,hn4⟩ (I.fpOk u7 I4.free) q
  ·refine thn (T.item X' rfl rfl rfl O.calm i [] s3 _ H3 _ I3 (qH fr3) st3 go) fun r s4 ⟨u,hr,h4⟩=>?_;subst hr;refine thn h4 fun _ s5 ⟨v,H5,I5,r5,y5,st5,fr5⟩=>?_;have I5':=I5.pinned (qH fr5) (T.obj _ _ st5);have tail:∀ {σ7:St} {H7:Hp} {s7:Shared},Inv X' ([]++jE0 fp s5.heap) σ7 H7 s7->Inv X' [] σ7 H7 s7/\tn (i+1) s7.heap/\∀ b∈fp,H7 b=none:=fun {σ7 H7 s7} I7=>by
    refine⟨I7.unpinned,T.keep _ _ _ st5 fun b hb o e=>(I7.pin (b,o) (dH _ (dH _ (jCJ hb e)))).1,fun b hb=>?_⟩;obtain⟨o,e,d⟩:=T.obj _ _ st5 b hb;exact (I7.pin (b,o) (dH _ (dH _ (jCJ hb e)))).2.1
   have hg:PG X' (.Name x px) (vK 0):=jGO O.nd rfl (Or.inl (iQ O.own)) (.inr (iQ O.own));refine thn (hg _ s5 _ H5 v u (fun σ6 H6=>σ6=inSt frees σ (some v)/\H6=H5) I5' r5 ⟨rfl,rfl⟩) fun _ s6 ⟨σ6,H6,I6,e6,e6'⟩=>?_;subst e6 e6';refine thn (hc _ _ _ _ _ s6 _ _ _ I6 (step v _ y5)) fun b s7 ⟨H7,I7,q7⟩=>?_;cases b with
   | false =>
     obtain⟨m',hm,w7⟩:=(show ∃ m',m'<n/\W (i+1) m' ys H7 from q7)
     obtain⟨t1,t2,t3⟩:=tail I7;exact⟨m',hm,i+1,ys,some v,H7,t1,t2,t3,w7⟩
   | true =>
     refine thn (he _ _ _ _ _ s7 _ _ _ I7 q7) fun y s8 ⟨y',H8,I8,r8,hD8,m',hm,w8⟩=>?_;refine thn (zD (X:=X') _ s8 _ H8 (.ref eU.heap.objs.size) [y'] _ [y] (fun _ H9=>H9=upd H8 eU.heap.objs.size (.lst (ys++[y']))) I8 rfl (.cons r8 .nil) ⟨_,_,_,rfl,rfl,hD8,j2,rfl⟩) fun _ s9 ⟨_,H9,I9,_,e9⟩=>?_;subst e9;obtain⟨t1,t2,t3⟩:=tail I9;exact⟨m',hm,i+1,ys++[y'],some v,_,t1,t2,t3,w8⟩
 exact z7 (loop _) (T.self _ 0 _ _ _ qQ (loop _))
noncomputable def tComp(frees:List (Str×Nat))(tc:TT)(te:TE)(wi:TI):TE:=fun σ H Q=>wi σ H fun J H1=>jIg J tc te (inSt frees σ) H1 Q
theorem rX(O:jK0 X scope x frees)(hxe:X.xe=fun _ _=>False)(hi:PI X (.Name x px) j8 wi) 
 (hc:∀ C ex eU H₂,PIfs (xW X scope (x::frees.map (·.1)) C ex eU H₂) qY tc) (he:∀ C ex eU H₂,PE (xW X scope (x::frees.map (·.1)) C ex eU H₂) sH te)
 (hs:∀ x,mW j8 X.env x=pure x:=by intro _;rfl):PE X (.ListComp sH [⟨.Name x px,j8,qY,0⟩] scope pos) (tComp frees tc te wi):=by
 intro b9 s σ H Q I h;rw [eval_ListComp];refine mY (use:=none) rfl hs (jDP O.cl) O.kind O.names (thn (hi b9 s σ H _ I h) fun xv fQ jM=>thn jM fun itv eU qP=>?_);obtain⟨it,fp,tn,J,H2,e,I2,T,xJ,f2,hB⟩:=qP;subst e;refine jJQ (RR:=fun jX C=>compPost (dQ X.prog X.w) X.A X.xe none (EP X b9 σ Q) jX C) O hc he I2 T xJ f2 hB ?_;intro D C H' s' I' hn hC q;obtain⟨m,hn⟩:=hn;refine⟨m,hn,fun h' uX=>?_⟩;exact⟨.ref D,H',I'.turned (t':=s'.toks) (fun b o hb e=>uX.extBut b o hb e) hC.1 hC.2.1 hC.2.2.2.1 hC.2.2.2.2.1 hC.2.2.2.2.2,rfl,q⟩
theorem jD3(O:jK0 X scope x frees)(hN:X.N.Nodup)(hiy:X.N[i]?=some y)(hy:X.env.kindOf y=some .local)(hsw:lY (.ListComp sH [⟨.Name x px,j8,qY,0⟩] scope pos) (some (.Name y py)) spos.line X.env=pure true) 
 (hi:PI X (.Name x px) j8 wi) (hc:∀ C ex eU H₂,PIfs (xW X scope (x::frees.map (·.1)) C ex eU H₂) qY tc) (he:∀ C ex eU H₂,PE (xW X scope (x::frees.map (·.1)) C ex eU H₂) sH te)
 (hs:∀ x,mW j8 X.env x=pure x:=by intro _;rfl):PS X (.Assign [.Name y py] (.ListComp sH [⟨.Name x px,j8,qY,0⟩] scope pos) spos) (tAsg (tComp frees tc te wi) (vK i)):=by
 intro b9 s σ H D I h;rw [exec_Assign_Name_used _ _ _ _ hsw];refine c8 (iT (c8 ?_));show dM _ X.A (do let _ <- comprehension (.ListComp sH [⟨.Name x px,j8,qY,0⟩] scope pos) scope X.env _ (newList []) false (fA j8 X.env) (some (mK (.Name y py) X.env))) _ _ s
 refine c8 (e8 (mY (use:=some (mK (.Name y py) X.env)) (Q:=fun _ s'=>SP X b9 D .next s') rfl hs (jDP O.cl) O.kind O.names
  (thn (hi b9 s σ H _ I h) fun xv fQ jM=>thn jM fun itv eU qP=>?_)) (fun _ s' hq=>dP (dP hq)) fun _ _ e=>e)
 obtain⟨it,fp,tn,J,H2,e,I2,T,xJ,f2,hB⟩:=qP;subst e;refine jJQ (RR:=fun jX C=>compPost (dQ X.prog X.w) X.A X.xe (some (mK (.Name y py) X.env)) (fun _ s'=>SP X b9 D .next s') jX C) O hc he I2 T xJ f2 hB ?_;intro A C H' s' I' hn hC q;obtain⟨m,hn⟩:=hn;obtain⟨oC,es,ep,hoC,hdC,hr⟩:=id hn;have I'':Inv X (b9++[(C,oC)]) σ H' s':=I'.pins_of fun p hp=>(eN.mp hp).elim (fun z=>I'.pin p (dH _ z)) fun z=>by
  rw [mem_singleton.mp z];exact⟨hoC,hC.1,hC.2.1,hC.2.2.1,fun v e=>by rw [hdC] at e;cases e⟩
 show dM _ X.A (mK (.Name y py) X.env (.ref A)) _ _ _;refine sI (jFl I'' hN hiy (.inl hy) (v:=.ref A) rfl (fun s3 I3=>?_) (.inr hy));have hC3:=(I3.pin (C,oC) (dH _ (dH _ (mem_singleton.mpr rfl)))).1;have J3:Inv X b9 (σ.set i (some (.ref A))) H' s3:=I3.unpinned;refine⟨m,⟨oC,es,ep,hC3,hdC,hr⟩,fun h' uX=>?_⟩;exact⟨_,H',J3.turned (t':=s3.toks) (fun b o hb e=>uX.extBut b o hb e) hC.1 hC.2.1 hC.2.2.2.1 hC.2.2.2.2.1 hC.2.2.2.2.2,q⟩
end
section
variable {X:Cx}
theorem all_at(bs:List Bool):((range bs.length).all fun i=>(bs[i]?).getD true)=bs.all id:=by
 rw [Bool.eq_iff_iff,gZ,gZ];constructor
 ·intro h b hb;obtain⟨i,hi,e⟩:=List.getElem_of_mem hb;have q:=h i (iW.mpr hi);rw [getElem?_eq_getElem hi,e] at q;exact q
 ·intro h i hi;have wW:=iW.mp hi;rw [getElem?_eq_getElem wW];exact h _ (mG wW)
theorem jPE(hc:X.calm=true):CallR X (.builtin "all") (fun xs H Q=>∃ (p:Addr) (bs:List Bool),xs=[.ref p]/\SqL X.K H p (bs.map V.bl)/\Q (.bl (bs.all id)) H):=by
 intro b9 s σ H xs us Q I r h;obtain⟨p,bs,rfl,hq,q⟩:=h;obtain⟨u,rfl,rx⟩:=tK r;cases rx;obtain⟨its,rv,pl,hz⟩:=I.list hq;have hl:=pl.isList;have j5:=rv.length;have j2:p<s.heap.objs.size:=by obtain⟨_,e,_⟩:=hl;exact d0 e
 refine call_all_walk (iN hl ?_)
 refine⟨s.heap.objs.size,[s.heap.objs.size,p],[s.heap.objs.size],its.toArray.size,_,_,fun i=>(bs[i]?).getD true,rfl,Walks.list (A:=X.A.in1) (I.ok.hd hc) _ p (eV j2) its.toArray,
  ⟨⟨_,get?_push_size _ rfl,rfl,rfl⟩,hl.push _⟩,fun i v s' Q' E' hP hQ=>?_,fun h' tk hk=>?_⟩
 ·have hv:its[i]?=some v:=by simpa using hP
  have hi:i<its.length:=(List.getElem?_eq_some_iff.mp hv).1;have hb:i<bs.length:=by rw [c7] at j5;omega
  obtain⟨u2,e1,e2⟩:=rv.get (i:=i) (x:=V.bl bs[i]) (by rw [getElem?_map,getElem?_eq_getElem hb];rfl);rw [hv] at e1;cases e1;cases (show v=Value.bool bs[i] from e2);dsimp only at hQ;rw [getElem?_eq_getElem hb] at hQ;exact fO hQ
 ·have e:((range its.toArray.size).all fun i=>(bs[i]?).getD true)=bs.all id:=by
   rw [dS,<- j5,c7];exact all_at bs
  rw [e];refine⟨.bl _,H,I.kept (t':=tk) (fun b x e=>?_),rfl,q⟩;exact hk b x (fun hm=>by rw [mem_singleton.mp hm] at e;exact gU _ (d0 e)) (get?_push_of_some _ e)
theorem jBM:MtR X "str.startswith" (fun x vs H Q=>∃ z y,x=.str z/\vs=[.str y]/\Q (.bl (Txt.startswith z y)) H):=by
 intro b9 s σ H x vs v us Q I rx rv h;obtain⟨z,y,rfl,rfl,q⟩:=h;obtain⟨t,rfl⟩:=rx;obtain⟨u',rfl,u,rfl⟩:=rv.one;exact SC.startswith ⟨.bl _,H,I,rfl,q⟩
theorem jML:∀ {ws:List Str} {us:List Value},iH (ws.map V.str) us->∃ l:List (Str×Tok),us=zR l/\l.map (·.1)=ws
 | [],us,r=>by
   cases r;exact⟨[],rfl,rfl⟩
 | w::ws,us,r=>by
   cases r with
   | cons r1 r2 =>
     obtain⟨t,rfl⟩:=r1;obtain⟨l,rfl,e⟩:=jML r2;exact⟨(w,t)::l,rfl,by rw [<- e];rfl⟩
theorem jMM:MtR X "str.join" (fun x vs H Q=>∃ (z:Str) (p:Addr) (ws:List Str),x=.str z/\vs=[.ref p]/\SqL X.K H p (ws.map V.str)/\JoinOk z ws=true/\Q (.str (Txt.join z ws)) H):=by
 intro b9 s σ H x vs v us Q I rx rv h;obtain⟨z,p,ws,rfl,rfl,hq,hj,q⟩:=h;obtain⟨t,rfl⟩:=rx;obtain⟨u',rfl,ru⟩:=rv.one;cases ru;obtain⟨its,r,pl,hz⟩:=I.list hq;obtain⟨l,rfl,e⟩:=jML r;exact SC.join pl.isList e hj fun t' k=>⟨.str _,H,I.tok _,⟨t',rfl⟩,q⟩
inductive rSlS(x:V)(lo:Option Int)(hi:Option Int)(H:Hp)(Q:VK):Prop|mk z:x=.str z->z.length<=dL->Q (.str (Txt.slice z lo hi)) H->rSlS x lo hi H Q
theorem jMN(p:IsPart v o):∃ l:Option (Int×Tok),v=partValue l/\l.map (·.1)=o:=by
 cases p with
 | none=>exact⟨none,rfl,rfl⟩
 | int i t=>exact⟨some (i,t),rfl,rfl⟩
theorem jGa:SlR X rSlS:=by
 intro b9 s σ H x v vl vu lo hi sl Q I rx hs pl pu h;obtain⟨z,rfl,hz,q⟩:=h;obtain⟨t,rfl⟩:=rx;obtain⟨l,rfl,rfl⟩:=jMN pl;obtain⟨u,rfl,rfl⟩:=jMN pu
 exact⟨"str",_,F.slot_str_getitem.lookup,nU _ _ _,wpAny_getItem_str_slice (l:=l) (u:=u) (st:=none) hs rfl
  (post_val_or_str ⟨eM (Txt.slice_le z _ _) hz,fun t' k=>⟨.str _,H,I.tok _,⟨t',rfl⟩,q⟩⟩)⟩
theorem jMO(c:Nat)(h:x.cps.toList=l):(!(Builtin.Str.occurrences x ⟨#[c]⟩ 0 x.length 1).isEmpty)=decide (c∈l):=by
 rw [StrLaws.found_one x c,h]
theorem pe_bmK{K:PySem.W.Frag}{o e:Expr}{es:List Expr}{to:TE}{t:TA}{name:Str}{hZ iZ:Pos}{T id:String}{r:V->List V->Hp->VK->Prop}(hK:X.K=K)(pa:PlainAttrs T)(slot:Slot T name id)(hty:typeOf (.builtin id)=pure (.type "method_descriptor"))(hm:MtR X id r)(ho:PE X o to)(ha:PA X (e::es) t)
 (oE:iE o name X.env (fA o X.env)=fA o X.env:=by rfl)
 (hfew:((gH iZ (dO (e::es) X.env)).all (fun x=>!x.1)&&(iA iZ (fM [] X.env)).all (fun x=>x.1.isSome)
  && decide ((e::es).length+([]:List Keyword).length+(if ([]:List Keyword).isEmpty then 0 else 1)<30))=true:=by rfl)
 (n9:(hZ.endLine==iZ.line)=true:=by rfl) (hs:dO (e::es) X.env=(false,fA e X.env)::dO es X.env:=by rfl) (uZ:(gH iZ (dO es X.env)).any (·.1)=false:=by rfl) :
 PE X (.Call (.Attribute o name hZ) (e::es) [] iZ) (tBM K T r to t):=by
 subst hK;exact qV pa slot hty hm ho ha oE hfew n9 hs uZ
end
structure Seq(J:It)(H1:Hp)(xs:List V):Prop where
 go:∀ i H,eR H1 H->i<xs.length->J.go i H
 yld:∀ i H x H',eR H1 H->i<xs.length->J.yld i H x H'->H'=H/\xs[i]?=some x
 stop:∀ H,eR H1 H->J.stop xs.length H
theorem seq_str(z:Str)(H1:Hp):Seq (Itx z) H1 (z.cps.toList.map fun c=>V.str ⟨#[c]⟩) where
 go:=fun i H _ h=>by
  rw [c7,jY] at h;exact h
 yld:=fun i H x H' _ _ h=>by
  obtain⟨e,c,hc,hx⟩:=h;exists e;have zK:z.cps.toList[i]?=some c:=by simpa using hc
  rw [getElem?_map,zK,hx];rfl
 stop:=fun H _=>by
  show _=z.cps.size;rw [c7,jY]
theorem jGb(lo:Int)(n:Nat)(H1:Hp):Seq (Itr lo n) H1 ((range n).map fun i=>V.int (lo+(i:Nat))) where
 go:=fun i H _ h=>by
  rw [c7,fD] at h;exact h
 yld:=fun i H x H' _ hi h=>by
  obtain⟨e,hx⟩:=h;exists e;rw [c7,fD] at hi;rw [getElem?_map,List.getElem?_range hi,hx];rfl
 stop:=fun H _=>by
  show n<=_;rw [c7,fD];exact Nat.le_refl _
theorem vR{K:PySem.W.Frag}{a:Addr}{xs:List V}{H1:Hp}(h:SqL K H1 a xs):Seq (Itl K a) H1 xs where
 go:=fun i H e hi=>⟨xs,xs[i],e.seq h,getElem?_eq_getElem hi⟩
 yld:=fun i H x H' e _ y=>⟨y.1,y.2 xs (e.seq h)⟩
 stop:=fun H e=>⟨xs,e.seq h,Nat.le_refl _⟩
theorem jC2{α:Type}{xs:List α}{i:Nat}{x:α}(h:xs[i]?=some x):xs.take (i+1)=xs.take i++[x]:=by
 rw [List.take_succ,h];rfl
theorem zC(S:Seq J H1 xs)(p:V->Bool)(g:V->V)(hz:xs.length<dL) 
 (hc:∀ x∈xs,∀ (H':Hp) (R:Bool->Hp->Prop),eR H1 H'->R (p x) H'->tc (σf (some x)) H' R)
 (he:∀ x∈xs,∀ (H':Hp) (R:VK),eR H1 H'->p x=true->R (g x) H'->te (σf (some x)) H' R)
 (q:∀ D H',eR H1 H'->H1 D=none->H' D=some (.lst ((xs.filter p).map g))->Q (.ref D) H'):jIg J tc te σf H1 Q:=by
 intro D hD;exists fun i m ys H2=>m=xs.length-i/\i<=xs.length/\eR H1 H2/\H2 D=some (.lst ys)/\ys=((xs.take i).filter p).map g,⟨xs.length,rfl,d9 _,iS hD _,eO,rfl⟩
 rintro i m ys H2 ⟨rfl,hi,sm,nB,rfl⟩;exists nB;by_cases j2:i<xs.length
 ·refine .inr ⟨S.go i H2 sm j2,?_,fun x H3 y=>?_⟩
  ·rw [c7];refine gK (eA _ _) ?_;rw [gD];omega
  ·obtain⟨e,hx⟩:=S.yld i H2 x H3 sm j2 y;subst e;have mem:x∈xs:=mem_of_getElem? hx;refine hc x mem _ _ sm ?_;cases hp:p x with
   | false =>
     refine hV ⟨xs.length-(i+1),by omega,rfl,j2,sm,nB,?_⟩;rw [jC2 hx,eZ,List.filter_cons_of_neg (by rw [hp];decide),hX,gQ]
   | true =>
     refine kL (he x mem _ _ sm hp ⟨nB,xs.length-(i+1),by omega,rfl,j2,tY hD sm _,eO,?_⟩);rw [jC2 hx,eZ,List.filter_cons_of_pos hp,hX,eB];rfl
 ·have e:i=xs.length:=by omega
  subst e;refine .inl ⟨S.stop H2 sm,q D H2 sm hD ?_⟩;rw [nB,eX (Nat.le_refl _)]
noncomputable def jPF(cells:List (Str×Addr))(names:List (Str×NameKind)):Bool:=names.all fun p=>if (p.2==NameKind.free)=true then (cells.lookup p.1).isSome else true
theorem oX(h:jPF cells names=true):∀ p∈names,p.2=.free->(cells.lookup p.1).isSome=true:=fun p hp hk=>by
 have q:=(gZ.mp h) p hp;rw [hk,show (NameKind.free==NameKind.free)=true from rfl,if_pos rfl] at q;exact q
section
variable {X:Cx}
theorem jKe:CallR X (.type "int") (fun xs H Q=>∃ z n,xs=[.str z]/\PySem.intText? z=some n/\z.length<=640/\Q (.int n) H):=by
 intro b9 s σ H xs us Q I r h;obtain⟨z,n,rfl,hn,hl,q⟩:=h;obtain⟨u,rfl,t,rfl⟩:=tK r;exact PySem.W.KIN.call_text hn hl ⟨.int n,H,I.tok _,⟨_,rfl⟩,q⟩
inductive jIh(K:PySem.W.Frag)(x:V)(y:V)(H:Hp)(Q:VK):Prop|mk p xs i:x=.ref p->y=.int i->SqL K H p xs->0<=i->i<((xs.length:Nat):Int)->(∀ v,xs[i.toNat]?=some v->Q v H)->jIh K x y H Q
theorem vQ:IxR X (jIh X.K):=by
 intro value slice b9 s σ H x y v u Q I rx ry h hs;obtain⟨p,xs,i,rfl,rfl,hq,h0,h1,q⟩:=h;obtain⟨c,e1,e2⟩:=at_in (xs:=xs) h0 h1;exact jCM value slice b9 s σ H _ _ v u Q I rx ry ⟨p,xs,i,c,rfl,rfl,hq,e2,q c e1⟩ hs
end
section
variable {prog:Program}{w:World}{A:Around}{E:Value->Shared->Prop}{s:Shared}
theorem en_type(a b:Value):checkTypeCall "enumerate" ⟨[a],[("start",b)]⟩=pure ():=by kernel_rfl
theorem en_new(a b:Value):checkBuiltinCall "enumerate.__new__" ⟨[.type "enumerate",a],[("start",b)]⟩=pure ():=by kernel_rfl
theorem en_init(o a b:Value):argsOk "object.__init__" ⟨[o,a],[("start",b)]⟩:=by
 unfold argsOk;rw [signature?_of (id:="object.__init__") (n:=['_','_','t','i','n','i','_','_']) (o:=['t','c','e','j','b','o']) (by kernel_rfl) F.owner_object]
 kernel_rfl
set_option maxHeartbeats 2000000 in
theorem en_made(l:Addr)(items:Array Value)(n:Nat)(dct:Option Addr)(sl:Array (Option Value))(j:Int)(t:Tok)(hj:Builtin.SmallTypes.fitsIndex j=true) :
 Meets (Builtin.«enumerate.__new__» ⟨[.type "enumerate",.ref l],[("start",.int j t)]⟩) (fun _ R s=>s.heap.get? l=some { cls:=.type "list",dict:=dct,data:=.seq items n,slots:=sl } /\
  R (.ok (.ret (.ref (s.heap.push { cls:=.type "list_iterator",data:=.fields #[.ref l,.int 0 0] }).objs.size)))
   { s with heap:=(s.heap.push { cls:=.type "list_iterator",data:=.fields #[.ref l,.int 0 0] }).push { cls:=.type "enumerate",data:=.fields #[.none,.bool false,.ref s.heap.objs.size,jE j,.none,.none] } }) :=
 .of_wp fun prog w A R s h=>by
  obtain⟨hp,g,d,tk,os⟩:=s;obtain⟨hl,h⟩:=h;have hsub:=sub_enumerate;have hL:IsList (Shared.heap ⟨hp,g,d,tk,os⟩) l items:=⟨_,hl,rfl,n,rfl⟩
  wp_walk using AutoSeq1.wpAny_loadPart' hl
  refine wpAny_stack_any fun st=>dP ?_;split
  ·rename_i c _ _ _ _ _
   cases (c==type "enumerate")
   all_goals
    wp_walk using AutoSeq1.wpAny_loadPart' hl,iN hL
    exact⟨_,rfl,h⟩
  ·wp_walk using AutoSeq1.wpAny_loadPart' hl,iN hL
   exact⟨_,rfl,h⟩
theorem jNn(self a b:Value):Meets (Builtin.«object.__init__» ⟨[self,a],[("start",b)]⟩) (fun _ R s=>s.TypeIs self "enumerate"/\R (.ok (.ret .none)) s):=by
 refine Meets.of_wp fun prog w A R s hs=>?_;obtain⟨hT,hq⟩:=hs;have hl:=F.called_enumerate.init.lookup;have hm:=F.called_enumerate.made;have sC:(some "enumerate.__new__" != some "object.__new__")=true:=by decide
 repeat (any_goals (first|assumption|wp_step))
 exact⟨_,rfl,hq⟩
theorem en_call(hj:Builtin.SmallTypes.fitsIndex j=true)(hL:s.heap.IsList l items) 
 (h:∀ h1,IsEnum h1 (s.heap.objs.size+1) s.heap.objs.size j .none->h1.IsListIter s.heap.objs.size l 0->(∀ b o,s.heap.get? b=some o->h1.get? b=some o)->Q (.ref (s.heap.objs.size+1)) { s with heap:=h1 }) :
 dM (dQ prog w) A (call (.type "enumerate") [.ref l] [("start",.int j t)]) Q E s:=by
 obtain⟨⟨c,dct,dt,sl⟩,hl,hc,n,hd⟩:=hL;have zK:c=.type "list":=hc;have hd':dt=.seq items n:=hd;subst zK hd';have ft:=F.called_enumerate;obtain⟨cc,tl,hmro⟩:=ft.mro;have hmade:=ft.made;have hsub:=ft.sub;refine kW (codeAny_of_tree ?_);show dM _ _ (callAny (.type "enumerate") _) _ _ _;refine dP ⟨Code.quiet_builtin _ (by decide +kernel),lP F.entry_type_call ?_⟩;rw [Around.under_plain (weight_type_call_type "enumerate" _ _) (units_type_call_type "enumerate" _ _)];have n1:=ft.notType;have n2:=ft.canCreate;have n3:=en_type (.ref l) (.int j t)
 repeat (any_goals (first|assumption|wp_step))
 have hz:(s.heap.push { cls:=.type "list_iterator",data:=.fields #[.ref l,.int 0 0] }).objs.size=s.heap.objs.size+1:=jO ..;let R1:Result->Shared->Prop:=fun r s1=>r=.ok (.ret (.ref (s.heap.objs.size+1)))/\s1={ s with heap:=(s.heap.push { cls:=.type "list_iterator",data:=.fields #[.ref l,.int 0 0] }).push { cls:=.type "enumerate",data:=.fields #[.none,.bool false,.ref s.heap.objs.size,jE j,.none,.none] } }
 have mk:=en_made l items n dct sl j t hj prog w A.in1 R1 s ⟨hl,by rw [hz],rfl⟩;refine iB (R:=R1) (lB ft.plain F.entry_enumerate_new (wpAny_of_eq (en_new (.ref l) (.int j t)) mk)) fun r s1 hr=>?_;obtain⟨rfl,rfl⟩:=hr;have e1:IsEnum ((s.heap.push { cls:=.type "list_iterator",data:=.fields #[.ref l,.int 0 0] }).push { cls:=.type "enumerate",data:=.fields #[.none,.bool false,.ref s.heap.objs.size,jE j,.none,.none] }) (s.heap.objs.size+1) s.heap.objs.size j .none:=by
  have q:=get?_push_size (s.heap.push { cls:=.type "list_iterator",data:=.fields #[.ref l,.int 0 0] }) (o:={ cls:=.type "enumerate",data:=.fields #[.none,.bool false,.ref s.heap.objs.size,jE j,.none,.none] }) rfl;rw [hz] at q;exact q
 have hT:Shared.TypeIs { s with heap:=(s.heap.push { cls:=.type "list_iterator",data:=.fields #[.ref l,.int 0 0] }).push { cls:=.type "enumerate",data:=.fields #[.none,.bool false,.ref s.heap.objs.size,jE j,.none,.none] } } (.ref (s.heap.objs.size+1)) "enumerate":=⟨_,e1,rfl⟩
 have hli:=ft.init.lookup;have hbi:=ft.init.bind (.ref (s.heap.objs.size+1))
 repeat (any_goals (first|assumption|wp_step))
 let S2:Shared:={ s with heap:=(s.heap.push { cls:=.type "list_iterator",data:=.fields #[.ref l,.int 0 0] }).push { cls:=.type "enumerate",data:=.fields #[.none,.bool false,.ref s.heap.objs.size,jE j,.none,.none] } }
 let R2:Result->Shared->Prop:=fun r s2=>r=.ok (.ret .none)/\s2=S2;have ini:=jNn (.ref (s.heap.objs.size+1)) (.ref l) (.int j t) prog w A.in1 R2 S2 ⟨hT,rfl,rfl⟩;refine iB (R:=R2) (lB ft.init.plain F.entry_object_init (ft.init.check _ _ _ _ _ _ _ _ hT (en_init _ _ _) ini)) fun r2 s2 r9=>?_;obtain⟨rfl,rfl⟩:=r9
 repeat (any_goals (first|assumption|wp_step))
 exact h _ e1 ⟨_,get?_push_of_some _ (get?_push_size _ rfl),rfl,rfl⟩ fun b o x=>get?_push_of_some _ (get?_push_of_some _ x)
theorem en_next{en ir:Addr}{fp:List Addr}{n i:Nat}{j:Int}{P:Nat->Value->Prop}{St:Nat->Heap->Prop}{oM:Value}{Q:Value->Shared->Prop}
 (D:Draws prog w A ir fp n P St) (k0:IsEnum s.heap en ir j oM) (st:St i s.heap) (j2:i<n) (sC:en≠ir) (hef:en ∉ fp)
 (hQ:∀ x hz tk,P i x->IsEnumOut hz en ir (j+1) x s.heap.objs.size->St (i+1) hz ->
  hz.get? s.heap.objs.size=some { cls:=.type "tuple",data:=.seq #[.int j tk,x] }->(∀ b o,b≠en->b≠ir->s.heap.get? b=some o->hz.get? b=some o)->Q (.ref s.heap.objs.size) { s with heap:=hz,toks:=tk+1 }) :
 dM (dQ prog w) A (Builtin.«enumerate.__next__» ⟨[.ref en],[]⟩) (fun fin z=>∃ v,fin=.done (.ret v)/\Q v z) E s:=by
 obtain⟨h0,gs,dr,t0,oo⟩:=s;show dM _ _ (field (.ref en) 2 >>= _) _ _ _;refine c8 (iO k0 rfl (x:=.ref ir) rfl ?_);refine c8 (D.item i _ _ _ j2 st fun x h1 tk px st1 b1=>?_);have s1:SameBut ir h0 h1:=b1;have k1:IsEnum h1 en ir j oM:=(s1.2 en sC).trans k0;show dM _ _ (field (.ref en) 3 >>= _) _ _ ⟨h1,gs,dr,tk,oo⟩;refine c8 (iO k1 rfl (x:=jE j) rfl ?_);show dM _ _ (field (.ref en) 4 >>= _) _ _ ⟨h1,gs,dr,tk,oo⟩;refine c8 (iO k1 rfl (x:=.none) rfl ?_);show dM _ _ (mkInt j >>= _) _ _ ⟨h1,gs,dr,tk,oo⟩;refine c8 (wpAny_mkInt ?_);show dM _ _ (setField (.ref en) 3 (jE (j+1)) >>= _) _ _ ⟨h1,gs,dr,tk+1,oo⟩;refine c8 (kB k1 (by simp) fun h2 k2 b2=>?_);have s2:SameBut en h1 h2:=b2;have k2':IsEnum h2 en ir (j+1) oM:=k2;show dM _ _ (setField (.ref en) 4 .none >>= _) _ _ ⟨h2,gs,dr,tk+1,oo⟩;refine c8 (kB k2' (by simp) fun h3 k3 b3=>?_);have s3:SameBut en h2 h3:=b3;have k3':IsEnum h3 en ir (j+1) oM:=k3;show dM _ _ (newTuple [.int j tk,x] >>= _) _ _ ⟨h3,gs,dr,tk+1,oo⟩;refine c8 (wpAny_newTuple ?_);have k4:IsEnum (h3.push { cls:=.type "tuple",data:=.seq #[.int j tk,x] }) en ir (j+1) oM:=get?_push_of_some _ k3';generalize e4:h3.push { cls:=.type "tuple",data:=.seq #[.int j tk,x] }=h4 at k4;have z3:h3.objs.size=h0.objs.size:=by rw [s3.1,s2.1,s1.1]
 have lt:en<h0.objs.size:=d0 k0;have t4:h4.get? h0.objs.size=some { cls:=.type "tuple",data:=.seq #[.int j tk,x] }:=by
  rw [<- e4,<- z3];exact get?_push_size _ rfl
 have kp4:∀ b o,b≠en->b≠ir->h0.get? b=some o->h4.get? b=some o:=fun b o n1 n2 hb=>by
  rw [<- e4];exact get?_push_of_some _ (s3.extBut b o n1 (s2.extBut b o n1 (s1.extBut b o n2 hb)))
 have st4:St (i+1) h4:=D.frame _ _ _ st1 fun b hb o y=>by
  have n1:b≠en:=fun q=>hef (q ▸ hb);rw [<- e4];exact get?_push_of_some _ (s3.extBut b o n1 (s2.extBut b o n1 y))
 show dM _ _ (Builtin.SmallTypes.ownedTupleIsFree (.ref en) >>= _) _ _ ⟨h4,gs,dr,tk+1,oo⟩;rw [z3];clear e4 k3 k3' b3 s3 k2 k2' b2 s2 k1 s1 b1 st1 z3 h3 h2 h1;refine c8 ?_;unfold Builtin.SmallTypes.ownedTupleIsFree;refine c8 (iO k4 rfl (x:=.none) rfl (dP ?_));simp only [if_true];refine c8 (wpAny_rule ?_);refine c8 (iO k4 rfl (x:=oM) rfl ?_);refine c8 (kB k4 (by simp) fun h5 k5 b5=>?_);have s5:SameBut en h4 h5:=b5;have k5':IsEnum h5 en ir (j+1) x:=k5;show dM _ _ (Builtin.SmallTypes.ownedTupleHandOut (.ref en) (.ref h0.objs.size) >>= _) _ _ ⟨h5,gs,dr,tk+1,oo⟩;refine c8 ?_;unfold Builtin.SmallTypes.ownedTupleHandOut;refine c8 (kB k5' (by simp) fun h6 k6 b6=>?_);have s6:SameBut en h5 h6:=b6;have k6':IsEnumOut h6 en ir (j+1) x h0.objs.size:=k6;refine kB k6' (by simp) fun h7 k7 b7=>?_;have s7:SameBut en h6 h7:=b7;have k7':IsEnumOut h7 en ir (j+1) x h0.objs.size:=k7;refine c8 (wpAny_letGo (dP ⟨_,rfl,hQ x h7 tk px k7' ?_ ?_ ?_⟩))
 ·exact D.frame _ _ _ st4 fun b hb o y=>by
   have n1:b≠en:=fun q=>hef (q ▸ hb);exact s7.extBut b o n1 (s6.extBut b o n1 (s5.extBut b o n1 y))
 ·exact s7.extBut _ _ (iJ lt) (s6.extBut _ _ (iJ lt) (s5.extBut _ _ (iJ lt) t4))
 ·exact fun b o n1 n2 hb=>s7.extBut b o n1 (s6.extBut b o n1 (s5.extBut b o n1 (kp4 b o n1 n2 hb)))
theorem en_item{en ir:Addr}{fp:List Addr}{n i:Nat}{j:Int}{P:Nat->Value->Prop}{St:Nat->Heap->Prop}{oM:Value}{Q:Option Value->Shared->Prop}
 (D:Draws prog w A.in1 ir fp n P St) (k0:IsEnum s.heap en ir j oM) (st:St i s.heap) (j2:i<n) (sC:en≠ir) (hef:en ∉ fp)
 (hQ:∀ x hz tk,P i x->IsEnumOut hz en ir (j+1) x s.heap.objs.size->St (i+1) hz ->
  hz.get? s.heap.objs.size=some { cls:=.type "tuple",data:=.seq #[.int j tk,x] }->(∀ b o,b≠en->b≠ir->s.heap.get? b=some o->hz.get? b=some o)->Q (some (.ref s.heap.objs.size)) { s with heap:=hz,toks:=tk+1 }) :
 dM (dQ prog w) A (rE (.ref en)) Q E s:=by
 have hT:s.TypeIs (.ref en) "enumerate":=⟨_,k0,rfl⟩
 unfold rE;refine c8 (wpAny_attempt (wpAny_callSpecial?_slot (name:=c9 "__next__") hT F.slot_enumerate_next (wpAny_call_entry F.slot_enumerate_next hT F.entry_enumerate_next ?_ (F.args_enumerate_next_1 _))));exact en_next D k0 st j2 sC hef fun x hz tk a b c d k=>dP (hQ x hz tk a b c d k)
end
noncomputable def Ite(K:PySem.W.Frag)(a:Addr)(j:Int):It :=
 ⟨fun i H=>∃ xs x,SqL K H a xs/\xs[i]?=some x,fun i H x H'=>∃ p y,x=.ref p/\H p=none/\H'=upd H p (.tup [.int (j+(i:Nat)),y])/\∀ xs,SqL K H a xs->xs[i]?=some y,fun i H=>∃ xs,SqL K H a xs/\xs.length=i⟩
theorem jOw{P:Program}{w:World}{K:PySem.W.Frag}{sV:List Expr}{x1}{pos:Pos}(a en ir:Addr)(j:Int)(sC:en≠ir) :
 xT P w K (.Tuple sV x1 pos) (Ite K a j) [en,ir] en (fun i h=>(∃ oM,IsEnum h en ir (j+(i:Nat)) oM)/\h.IsListIter ir a i) where
 mem:=by simp
 obj:=fun i h st b hb=>by
  obtain⟨⟨oM,k⟩,o,e,c,d⟩:=st;rcases dX.mp hb with z|z
  ·exact⟨_,by rw [z];exact k,fun v y=>by cases y⟩
  ·exact⟨o,by rw [mem_singleton.mp z];exact e,fun v y=>by rw [d] at y;cases y⟩
 keep:=fun i h h' st k=>by
  obtain⟨⟨oM,q⟩,r⟩:=st;exact⟨⟨oM,k en (by simp) _ q⟩,r.at fun o e=>k ir (by simp) o e⟩
 item:=by
  intro X hP hw hK hc i b9 s σ H E I hf st hg;subst hP hw hK;obtain⟨xs,x,hq,hx⟩:=hg;obtain⟨its,rv,p,hz⟩:=I.list hq;obtain⟨u,hu,ru⟩:=rv.get hx;obtain⟨f0,f1,f2,f3,f4,f5⟩:=hf en (by simp);obtain⟨g0,g1,g2,g3,g4,g5⟩:=hf ir (by simp);obtain⟨⟨oM,k⟩,r⟩:=st;have hii:i<its.toArray.size:=by
   have:=(List.getElem?_eq_some_iff.mp hu).1;simpa using this
  have nal:a≠ir:=fun e=>by
   obtain⟨o1,e1,c1,_⟩:=r;obtain⟨o2,e2,c2,_⟩:=p.isList;rw [e] at e2;rw [e1] at e2;cases e2;rw [c1] at c2;exact absurd c2 (by intro z;injection z with z;exact absurd z (by decide))
  have nae:en ∉ [ir,a]:=fun m=>by
   rcases dX.mp m with z|z
   ·exact sC z
   ·obtain⟨o2,e2,c2,_⟩:=p.isList;rw [<- mem_singleton.mp z,k] at e2;cases e2;exact absurd c2 (by intro z;injection z with z;exact absurd z (by decide))
  have hh:X.A.in1.handled=none:=I.ok.hd hc;refine en_item (Draws.list hh ir a nal its.toArray) k ⟨r,p.isList⟩ hii sC nae fun y hz2 tk py ko xJ tup kp=>?_;have ey:y=u:=by
   have e:its[i]?=some y:=by simpa using py
   rw [hu] at e;exact (Option.some.inj e).symm
  subst ey;exists _,rfl;refine wpAny_letOwnedTupleGo_enum ko fun h3 k3 b3=>?_;have s3:SameBut en hz2 h3:=b3;have lt1:en<s.heap.objs.size:=d0 k;have lt2:ir<s.heap.objs.size:=by
   obtain⟨o,e,_⟩:=r;exact d0 e
  have st3:h3.IsListIter ir a (i+1):=by
   obtain⟨o,e,q⟩:=xJ.1;exact⟨o,(s3.2 ir (symm sC)).trans e,q⟩
  have k3':IsEnum h3 en ir (j+((i+1:Nat):Int)) y:=by
   have e:j+((i+1:Nat):Int)=j+(i:Nat)+1:=by omega
   rw [e];exact k3
  have tup3:h3.get? s.heap.objs.size=some { cls:=.type "tuple",data:=.seq #[.int (j+(i:Nat)) tk,y] }:=(s3.2 _ (iJ lt1)).trans tup;have fr:H s.heap.objs.size=none:=I.hok.fresh (Nat.le_refl _);have I2:Inv X b9 σ (upd H s.heap.objs.size (.tup [.int (j+(i:Nat)),x])) { s with heap:=h3,toks:=tk+1 }:=by
   refine I.step (g':=s.gens) (d':=s.drawn) (ch:=[en,ir]) (fun b hb=>?_) (fun b o _ _ hc e _=>?_) (fun b o _ _ hc e _=>?_) (fun b o _ e n=>?_) (fun b o hc e=>?_) (fun b xs e=>?_) (fun b o xs e=>?_) (fun b ps e=>⟨#[],?_⟩) (fun m hm=>?_) (fun b v e=>?_) I.bare
   ·rcases dX.mp hb with z|z
    ·rw [z];exact⟨f3,f1,f4,f5⟩
    ·rw [mem_singleton.mp z];exact⟨g3,g1,g4,g5⟩
   ·exact (s3.2 b (fun z=>hc (by simp [z]))).trans (kp b o (fun z=>hc (by simp [z])) (fun z=>hc (by simp [z])) e)
   ·exact⟨o.slots,(s3.2 b (fun z=>hc (by simp [z]))).trans (kp b o (fun z=>hc (by simp [z])) (fun z=>hc (by simp [z])) e)⟩
   ·rw [eJ (eV (d0 e))];exact n
   ·by_cases hb:b=en\/b=ir
    ·rcases hb with z|z
     ·exact absurd (by simp [z]) hc
     ·exact absurd (by simp [z]) hc
    ·exact⟨o,(s3.2 b (fun z=>hb (.inl z))).trans (kp b o (fun z=>hb (.inl z)) (fun z=>hb (.inr z)) e)⟩
   ·rw [eJ (gM e fr)];exact e
   ·rw [eJ (gM e fr)];exact e
   ·rw [eJ (gM e fr),e];simp
   ·obtain⟨o,es,ep,ho,q⟩:=hm;exact⟨o,es,ep,(s3.2 _ (symm f1)).trans (kp _ o (symm f1) (symm g1) ho),q⟩
   ·by_cases hb:b=s.heap.objs.size
    ·subst hb;rw [eO] at e;cases e;exact⟨small (by show 2<=1000;decide),[.int (j+(i:Nat)) tk,y],.cons ⟨_,rfl⟩ (.cons ru .nil),_,tup3,rfl,_,rfl⟩
    ·rw [eJ hb] at e;have nn:∀ c v,H c=some v->c≠en/\c≠ir:=fun c v q=>⟨(fun z=>by rw [z,f0] at q;cases q),(fun z=>by rw [z,g0] at q;cases q)⟩
     refine (I.hok b v e).stay (fun c v' hc q=>?_) (fun c q=>by rw [eJ (gM q fr)];exact q) (fun c xs q=>by rw [eJ (gM q fr)];exact q);have m:c≠en/\c≠ir:=by
      rcases hc with z|z
      ·rw [z];exact nn b v e
      ·exact nn c _ z
     exact (s3.2 c m.1).trans (kp c v' m.1 m.2 q)
  refine⟨.ref s.heap.objs.size,_,I2,rfl,⟨_,x,rfl,fr,rfl,fun ys hy=>by rw [I.list_inj hy hq];exact hx⟩,⟨⟨_,k3'⟩,st3⟩,fun b hb=>?_⟩;rw [eJ (fun z=>?_)]
  ·exact (hf b hb).1
  ·rw [z] at hb;rcases dX.mp hb with q|q
   ·exact iJ lt1 q
   ·exact iJ lt2 (mem_singleton.mp q)
 done:=by
  intro X hP hw hK hc i b9 s σ H E I hf st hg;subst hP hw hK;obtain⟨xs,hq,hx⟩:=hg;obtain⟨its,rv,p,hz⟩:=I.list hq;obtain⟨g0,g1,g2,g3,g4,g5⟩:=hf ir (by simp);obtain⟨⟨oM,k⟩,r⟩:=st;have hl:=rv.length;have nal:a≠ir:=fun e=>by
   obtain⟨o1,e1,c1,_⟩:=r;obtain⟨o2,e2,c2,_⟩:=p.isList;rw [e] at e2;rw [e1] at e2;cases e2;rw [c1] at c2;exact absurd c2 (by intro z;injection z with z;exact absurd z (by decide))
  have hh:X.A.in1.handled=none:=I.ok.hd hc;have en_i:i=its.toArray.size:=by simp;omega
  subst en_i;refine wpAny_pyNext_enum_endD (Draws.list hh ir a nal its.toArray) k ⟨r,p.isList⟩ fun h' eb=>?_;exact⟨rfl,I.turned (t':=s.toks) (fun b o hb e=>eb b o hb e) g0 g1 g3 g4 g5⟩
 self:=fun A i s Q E st h=>by
  obtain⟨⟨oM,k⟩,_⟩:=st;exact wpAny_pyIter_enum k h
theorem cw_tykw{T:String}(hp:(args.any (·.1)||yN.any (·.1.isNone))=false) 
 (h:dM M A (evalArgs (.type T) true args yN) (fun a s1=>dM M A (call (.type T) a.pos a.kw) Q E s1) E s):dM M A (kN pos (.type T) [] args yN) Q E s:=by
 unfold kN;refine c8 (gW (e8 h (fun a s1 h1=>c8 (iT ?_)) fun _ _ x=>x));simp only [hp];refine c8 (dP ?_);exact c8 (e8 h1 (fun r s2 hr=>c8 (gW (wpAny_point (dP hr)))) fun _ _ x=>x)
section
variable {X:Cx}{sV:List Expr}{x1:Nat}{rA:Pos}
noncomputable def iEnumK(K:PySem.W.Frag)(tl:TA)(tj:TA):TI:=fun σ H R=>tl σ H fun vs H1=>tj σ H1 fun zs H2=>∃ a j,vs=[.ref a]/\zs=[.int j]/\(∃ xs,SqL K H2 a xs)/\Builtin.SmallTypes.fitsIndex j=true/\R (Ite K a j) H2
noncomputable def iEnum(K:PySem.W.Frag)(tl:TA):TI:=fun σ H R=>tl σ H fun vs H1=>∃ a,vs=[.ref a]/\(∃ xs,SqL K H1 a xs)/\R (Ite K a 0) H1
theorem en_it{b9:List (Addr×Obj)}{σ:St}{H:Hp}{s:Shared}{R:It->Hp->Prop}{E:Value->Shared->Prop}{a:Addr}{j:Int}{h1:Heap}(I:Inv X b9 σ H s)(k:IsEnum h1 (s.heap.objs.size+1) s.heap.objs.size j .none)(st:h1.IsListIter s.heap.objs.size a 0)
 (kp:∀ b o,s.heap.get? b=some o->h1.get? b=some o) (q:R (Ite X.K a j) H):dM (dQ X.prog X.w) X.A (pyIter (.ref (s.heap.objs.size+1))) (PIE X b9 σ (.Tuple sV x1 rA) R) E { s with heap:=h1 }:=by
 refine wpAny_pyIter_enum k ?_;have I1:Inv X b9 σ H { s with heap:=h1 }:=I.kept (t':=s.toks) kp;refine⟨s.heap.objs.size+1,[s.heap.objs.size+1,s.heap.objs.size],_,_,H,rfl,I1,jOw a _ _ j (Nat.succ_ne_self _),⟨⟨.none,?_⟩,st⟩,fun b hb=>?_,q⟩
 ·have e:j+((0:Nat):Int)=j:=by omega
  rw [e];exact k
 ·rcases dX.mp hb with z|z
  ·rw [z];exact I.fpOk (iF _) (I.hok.fresh (iF _))
  ·rw [mem_singleton.mp z];exact I.fpOk (Nat.le_refl _) (I.hok.fresh (Nat.le_refl _))
theorem jPG(hg:Gl X "enumerate")(hm:X.mg "enumerate"=none)(ha:PA X [a] tl)(hv:PK X [⟨some "start",v,qJ⟩] tj)(hs:dO [a] X.env=[(false,fA a X.env)]:=by rfl) 
 (hall:(iA pos (fM [⟨some "start",v,qJ⟩] X.env)).all (·.1.isSome)=true:=by rfl) (hks:(iA pos (fM [⟨some "start",v,qJ⟩] X.env)).filterMap (·.1)=[("start":Str)]:=by rfl)
 (nR:((gH pos (dO [a] X.env)).any (·.1)||(iA pos (fM [⟨some "start",v,qJ⟩] X.env)).any (·.1.isNone))=false:=by rfl) :
 PI X (.Tuple sV x1 rA) (.Call (.Name "enumerate" p) [a] [⟨some "start",v,qJ⟩] pos) (iEnumK X.K tl tj):=by
 intro b9 s σ H R I h;refine gF (y7 I hg hm boot_enumerate ?_);refine cw_tykw nR (evalArgs_kw2 hall (thn (ha pos b9 s σ H _ I h) fun us s1 ⟨vs,H1,I1,r1,q1⟩=>thn (hv pos b9 s1 σ H1 _ I1 q1) fun ws s2 ⟨zs,H2,I2,r2,q2⟩=>?_) hs);obtain⟨l,j,rfl,rfl,⟨xs,hq⟩,hj,q⟩:=q2;obtain⟨u,rfl,ru⟩:=tK r1;obtain⟨u2,rfl,t,rfl⟩:=tK r2;cases ru;rw [hks];obtain⟨its,rv,pl,hz⟩:=I2.list hq;exact en_call hj pl.isList fun h1 k st kp=>en_it I2 k st kp q
theorem pi_enum(hg:Gl X "enumerate")(hm:X.mg "enumerate"=none)(ha:PA X [a] tl)(hs:dO [a] X.env=[(false,fA a X.env)]:=by rfl) :
 PI X (.Tuple sV x1 rA) (.Call (.Name "enumerate" p) [a] [] pos) (iEnum X.K tl):=by
 intro b9 s σ H R I h;refine Call_ (y7 I hg hm boot_enumerate (PyProof.Rows.callWith_type1 (thn (ha pos b9 s σ H _ I h) fun us s1 ⟨vs,H1,I1,r1,q1⟩=>?_) hs rfl));obtain⟨l,rfl,⟨xs,hq⟩,q⟩:=q1;obtain⟨u,rfl,ru⟩:=tK r1;cases ru;obtain⟨its,rv,pl,hz⟩:=I1.list hq;exact call_enumerate_list pl.isList fun h1 k st _ kp=>en_it I1 k st kp q
end
theorem jK1{K:PySem.W.Frag}{a:Addr}{j:Int}{xs:List V}{g:TG}{tb:TS}{D:sQ}{σ:St}{H:Hp}(Pv:Nat->St->Hp->Prop)(h0:Pv 0 σ H)(hl:∀ i σ H,i<=xs.length->Pv i σ H->SqL K H a xs)
 (hs:∀ i x σ H p,xs[i]?=some x->Pv i σ H->H p=none->g (.ref p) σ (upd H p (.tup [.int (j+(i:Nat)),x])) fun σ2 H2=>tb { D with nx:=Pv (i+1),ct:=Pv (i+1),bk:=D.nx } σ2 H2) (hd:∀ σ H,Pv xs.length σ H->D.nx σ H) :
 ∃ W:Nat->Nat->St->Hp->Prop,(∃ m,W 0 m σ H)/\∀ i m σ H,W i m σ H ->
  ((Ite K a j).stop i H/\D.nx σ H)\/((Ite K a j).go i H/\∃ N:St->Hp->Prop,(∀ σ' H',N σ' H'->∃ m',m'<m/\W (i+1) m' σ' H')/\∀ x H',(Ite K a j).yld i H x H'->g x σ H' fun σ2 H2=>tb { D with nx:=N,ct:=N,bk:=D.nx } σ2 H2):=by
 exists fun i m σ H=>m=xs.length-i/\i<=xs.length/\Pv i σ H,⟨xs.length,by simp,d9 _,h0⟩
 rintro i m σ H ⟨rfl,hi,p⟩;have q:=hl i σ H hi p;by_cases j2:i<xs.length
 ·refine .inr ⟨⟨xs,xs[i],q,by simp [j2]⟩,Pv (i+1),fun σ' H' p'=>⟨xs.length-(i+1),by omega,rfl,j2,p'⟩,fun x H' y=>?_⟩;obtain⟨c,z,rfl,hc,rfl,y⟩:=y;exact hs i z σ H c (y xs q) p hc
 ·have e:i=xs.length:=by omega
  subst e;exact .inl ⟨⟨xs,q,rfl⟩,hd σ H p⟩
section
variable {X:Cx}{b9:List (Addr×Obj)}{σ:St}{H:Hp}{s:Shared}{d:Addr}{kvs:List (Key×V)}
theorem Inv.freeze(I:Inv X b9 σ H s)(h:H d=some (.dK kvs)):∃ o,s.heap.get? d=some o/\Inv X b9 σ (upd H d (.frz o (.dK kvs))) s:=by
 obtain⟨z,hd,vs,r,o,es,ep,e,c⟩:=I.hok d _ h;have mu:Mut (H d):=by rw [h];trivial
 refine⟨o,e,I.un (h':=s.heap) (t':=s.toks) (Un.write mu (.inl rfl) (fun _ _ _ q=>q) ⟨o,e⟩) (I.hok.write mu (.inl rfl) (fun _ _ _ q=>q) ⟨o,e⟩ ⟨e,z,hd,vs,r,o,es,ep,e,c⟩)⟩
theorem Inv.thaw(I:Inv X b9 σ H s)(h:H d=some (.frz o (.dK kvs)))(h0:∀ o u,X.H₀ d≠some (.frz o u)):Inv X b9 σ (upd H d (.dK kvs)) s:=by
 have nn:∀ b,H b=none->b≠d:=fun b q z=>by rw [z,h] at q;cases q
 refine⟨I.ok,I.os,I.bare,⟨I.base.keep,I.base.slot,fun b o' e n hx=>?_,I.base.there,fun b xs e=>?_,fun b o' u e=>?_,fun b ps e=>?_⟩,I.loc,I.cell,?_,fun x c e=>?_,fun p hp=>?_,fun b u e=>?_,I.len⟩
 ·have q:=I.base.free b o' e n hx;rw [eJ (nn b q)];exact q
 ·have q:=I.base.tups b xs e;rw [eJ (fN q h (by intro z;cases z))];exact q
 ·have q:=I.base.frzs b o' u e;rw [eJ (fun z=>h0 o' u (by rw [<- z];exact e))];exact q
 ·obtain⟨more,q⟩:=I.base.tbls b ps e;exists more;rw [eJ (fN q h (by intro z;cases z))];exact q
 ·rw [eJ (nn _ I.free)];exact I.free
 ·rw [eJ (nn _ (I.freeC x c e))];exact I.freeC x c e
 ·obtain⟨a,b,c⟩:=I.pin p hp;exact⟨a,by rw [eJ (nn _ b)];exact b,c⟩
 ·by_cases hb:b=d
  ·subst hb;rw [eO] at e;cases e;obtain⟨q,ok⟩:=I.hok b _ h;exact ok
  ·rw [eJ hb] at e;exact (I.hok b u e).stay (fun _ _ _ q=>q) (fun c q=>by rw [eJ (fN q h (by intro z;cases z))];exact q) (fun c xs q=>by rw [eJ (fN q h (by intro z;cases z))];exact q)
theorem Inv.unfrozen(I:Inv X b9 σ H s)(h:H d=some (.dK kvs)):∀ o u,X.H₀ d≠some (.frz o u):=fun o u e=>by
 have q:=I.base.frzs d o u e;rw [h] at q;cases q
noncomputable def tFrz(t:TE):TE:=fun σ H Q=>∃ (d:Addr) (kvs:List (Key×V)),H d=some (.dK kvs)/\∀ o,t σ (upd H d (.frz o (.dK kvs))) fun v H'=>H' d=some (.frz o (.dK kvs))/\Q v (upd H' d (.dK kvs))
theorem jIi(h:PE X e t):PE X e (tFrz t):=by
 intro b9 s σ H Q I hw;obtain⟨d,kvs,hd,q⟩:=hw;obtain⟨o,eo,I1⟩:=I.freeze hd;refine thn (h b9 s σ _ _ I1 (q o)) fun v s1 ⟨x,H1,I2,r,hz,q2⟩=>?_;exact⟨x,_,I2.thaw hz (I.unfrozen hd),r,q2⟩
noncomputable def sFrz(t:TS):TS:=fun D σ H=>∃ (d:Addr) (kvs:List (Key×V)),H d=some (.dK kvs)/\∀ o,t { nx:=fun σ' H'=>H' d=some (.frz o (.dK kvs))/\D.nx σ' (upd H' d (.dK kvs)),rt:=fun v H'=>H' d=some (.frz o (.dK kvs))/\D.rt v (upd H' d (.dK kvs)),bk:=fun σ' H'=>H' d=some (.frz o (.dK kvs))/\D.bk σ' (upd H' d (.dK kvs)),ct:=fun σ' H'=>H' d=some (.frz o (.dK kvs))/\D.ct σ' (upd H' d (.dK kvs)) } σ (upd H d (.frz o (.dK kvs)))
theorem jDa{st:Stmt}{t:TS}(h:PS X st t):PS X st (sFrz t):=by
 intro b9 s σ H D I hw;obtain⟨d,kvs,hd,q⟩:=hw;obtain⟨o,eo,I1⟩:=I.freeze hd;refine thn (h b9 s σ _ _ I1 (q o)) fun f s1 q1=>?_;have un:=I.unfrozen hd;cases f with
 | next=>obtain⟨σ',H',I2,hz,q2⟩:=q1;exact⟨σ',_,I2.thaw hz un,q2⟩
 | brk=>obtain⟨σ',H',I2,hz,q2⟩:=q1;exact⟨σ',_,I2.thaw hz un,q2⟩
 | cont=>obtain⟨σ',H',I2,hz,q2⟩:=q1;exact⟨σ',_,I2.thaw hz un,q2⟩
 | ret u=>obtain⟨v,σ',H',I2,r,hz,q2⟩:=q1;exact⟨v,σ',_,I2.thaw hz un,r,q2⟩
end
noncomputable def Itd(d:Addr)(o:Obj)(kvs:List (Key×V)):It :=
 ⟨fun i H=>H d=some (.frz o (.dK kvs))/\i<kvs.length,fun i H x H'=>H'=H/\∃ k v,kvs[i]?=some (k,v)/\x=kV k,fun i H=>H d=some (.frz o (.dK kvs))/\kvs.length=i⟩
theorem jJb(h:jFk k v=true):g9 (kV k) v:=by
 rcases jBu h with⟨i,t,rfl,rfl⟩|⟨x,t,rfl,rfl⟩
 ·exact⟨t,rfl⟩
 ·exact⟨t,rfl⟩
theorem jOx{P:Program}{w:World}{K:PySem.W.Frag}{tg:Expr}(d it:Addr)(o:Obj)(kvs:List (Key×V)){vs:List (Key×Value)}{es:Array DictEntry}{ep:Nat}(rk:KV kvs vs)(hd:o.ExactDict)(he:o.data=.dict es ep)(hk:KeysOf (lV P w) es)(hp:Pairs (lV P w) es.toList vs)(nd:(vs.map (·.1)).Nodup) :
 xT P w K tg (Itd d o kvs) [it] it (fun i h=>h.IsKeyIter it d i vs.length ep) where
 mem:=by simp
 obj:=fun i h st b hb=>by
  have e:b=it:=by simpa using hb
  subst e;obtain⟨o,e,c,d⟩:=st;exact⟨o,e,fun v z=>by rw [d] at z;cases z⟩
 keep:=fun i h h' st k=>st.at fun o e=>k it (by simp) o e
 item:=by
  intro X hP hw hK hc i b9 s σ H E I hf st hg;subst hP hw hK;obtain⟨hz,hi⟩:=hg;obtain⟨eo,_⟩:=I.hok d _ hz;obtain⟨f0,f1,f2,f3,f4,f5⟩:=hf it (by simp);have hl:=KV.length rk;have wV:i<vs.length:=by omega
  have ev:vs[i]?=some (vs[i].1,vs[i].2):=getElem?_eq_getElem wV;have ks:kvs[i]?=some (kvs[i].1,kvs[i].2):=getElem?_eq_getElem hi;have keq:kvs[i].1=vs[i].1:=by
   have q:=KV.keys rk;have q1:(kvs.map (·.1))[i]?=(vs.map (·.1))[i]?:=by rw [q]
   rw [getElem?_map,getElem?_map,ks,ev] at q1;exact Option.some.inj q1
  refine wpAny_pyNext_dict_item st ⟨o,es,eo,hd,he,hk,hp,nd⟩ ev fun lT h' u4 pL sb=>?_;have I1:Inv X b9 σ H { s with heap:=h' }:=I.turned (t':=s.toks) (fun b o hb e=>(sb.2 b hb).trans e) f0 f1 f3 f4 f5;obtain⟨o2,e2,c2,d2⟩:=id pL;refine⟨lT,rfl,jFn (s:={ s with heap:=h' }) e2 c2 d2 (by decide) ⟨kV kvs[i].1,H,I1,?_,⟨rfl,_,_,ks,rfl⟩,pL,fun b hb=>(hf b hb).1⟩⟩;rw [keq];exact jJb u4
 done:=by
  intro X hP hw hK hc i b9 s σ H E I hf st hg;subst hP hw hK;obtain⟨hz,hi⟩:=hg;obtain⟨eo,_⟩:=I.hok d _ hz;obtain⟨f0,f1,f2,f3,f4,f5⟩:=hf it (by simp);have hl:=KV.length rk;have hin:vs[i]?=none:=getElem?_eq_none (by omega);exact wpAny_pyNext_dict_end (I.ok.hd hc) st ⟨o,es,eo,hd,he,hk,hp,nd⟩ hin fun h' eb=>⟨rfl,I.turned (t':=s.toks) (fun b o hb e=>eb b o hb e) f0 f1 f3 f4 f5⟩
 self:=fun _ _ _ _ _ st h=>wpAny_pyIter_keyiter st h
section
variable {X:Cx}{tg:Expr}
noncomputable def iDict(tl:TE):TI:=fun σ H R=>tl σ H fun x H1=>∃ d o kvs,x=.ref d/\H1 d=some (.frz o (.dK kvs))/\R (Itd d o kvs) H1
theorem y3{l:Expr}{tl:TE}(hl:PE X l tl):PI X tg l (iDict tl):=by
 intro b9 s σ H R I h;refine thn (hl b9 s σ H _ I h) fun v s1 ⟨x,H1,I1,r1,q1⟩=>?_;obtain⟨d,o,kvs,rfl,hz,q⟩:=q1;cases r1;obtain⟨eo,z,hd,vs,rk,o',es,ep,e',xd,dt,ko,pr,nd⟩:=I1.hok d _ hz;rw [eo] at e';cases e';refine wpAny_pyIter_dict hd ⟨o,es,eo,xd,dt,ko,pr,nd⟩ ?_;refine⟨s1.heap.objs.size,[s1.heap.objs.size],_,_,H1,rfl,I1.kept (t':=s1.toks) fun b o e=>get?_push_of_some _ e,jOx d _ o kvs rk xd dt ko pr nd,⟨_,get?_push_size _ rfl,rfl,rfl⟩,fun b hb=>?_,q⟩;have e:b=s1.heap.objs.size:=by simpa using hb
 subst e;exact I1.fpOk (Nat.le_refl _) (I1.hok.fresh (Nat.le_refl _))
theorem zA(h:H1 d=some (.frz o (.dK kvs))):Seq (Itd d o kvs) H1 (kvs.map fun p=>kV p.1) where
 go:=fun i H e hi=>⟨e _ _ h,by rw [c7] at hi;exact hi⟩
 yld:=fun i H x H' e _ y=>by
  obtain⟨a,k,v,b,c⟩:=y;exists a;rw [getElem?_map,b,c];rfl
 stop:=fun H e=>⟨e _ _ h,by rw [c7]⟩
structure Dfn(P:Program)(w:World)(K:PySem.W.Frag)(mg:Str->Option Value)(base:Heap)(k:Nat)(x:Str)(ps:List Str)(sp:Sp):Prop where
 ex:∃ f fd,m8 P w K mg base CX0 k f fd ps sp/\qK K fd ps []/\jT K (.ref f)=true/\mg x=some (.ref f)
theorem jV(D:Dfn X.prog X.w X.K X.mg X.base k x ps sp)(hr:kX k X.A)(hg:Gl X x)(ha:PA X (e::es) t)(qR:(x==("__debug__":Str))=false:=by decide) 
 (he:dO (e::es) X.env=(false,fA e X.env)::dO es X.env:=by rfl) (nR:(gH pos (dO es X.env)).any (·.1)=false:=by rfl):PE X (.Call (.Name x p) (e::es) [] pos) (tCall sp [] E0 t):=by
 obtain⟨f,fd,F,b,kp,m⟩:=D.ex;exact pe_call F hr hg m kp b .nil jIc ha qR he nR
structure GS(mg:Str->Option Value)(x:Str)(z:Str):Prop where
 ex:∃ t,mg x=some (.str z t)
structure GI(mg:Str->Option Value)(x:Str)(z:Int):Prop where
 ex:∃ t,mg x=some (.int z t)
theorem kE(G:GS X.mg x z)(hg:Gl X x)(hd:(x==("__debug__":Str))=false:=by decide):PE X (.Name x pos) (tC (.str z)):=by
 obtain⟨t,e⟩:=G.ex;exact jMy hg e (rel_str _ _) hd
theorem rF(G:GI X.mg x z)(hg:Gl X x)(hd:(x==("__debug__":Str))=false:=by decide):PE X (.Name x pos) (tC (.int z)):=by
 obtain⟨t,e⟩:=G.ex;exact jMy hg e (rel_int _ _) hd
end
section
variable {X:Cx}
structure MkD(P:Program)(w:World)(K:PySem.W.Frag)(mg:Str->Option Value)(base:Heap)(k:Nat)(x:Str)(C:Addr)(ps:List Str)(sp:Sp):Prop where
 ex:∃ f fd,Mk K C f/\m8 P w K mg base CX0 k f fd ps sp/\qK K fd ps []/\mg x=some (.ref C)
theorem jEh(D:MkD X.prog X.w X.K X.mg X.base k x C ps sp)(hr:kX (k+1) X.A)(hg:Gl X x)(ha:PA X (e::es) t)(qR:(x==("__debug__":Str))=false:=by decide) 
 (he:dO (e::es) X.env=(false,fA e X.env)::dO es X.env:=by rfl) (nR:(gH pos (dO es X.env)).any (·.1)=false:=by rfl):PE X (.Call (.Name x p) (e::es) [] pos) (jKv C sp [] E0 t):=by
 obtain⟨f,fd,M,F,b,m⟩:=D.ex;exact pe_make M F hr hg m b .nil jIc ha qR he nR
theorem jC3{K:PySem.W.Frag}{a:Expr}{ta:TE}(hK:X.K=K)(ha:PE X a ta)(he:∀ pD,z6 a X.env pD=(do let v <- pD;kY a.pos;jW [v] (truthy v))):PT X a (fun σ H Q=>ta σ H fun x H'=>∃ k,TruV K x H' k/\Q k H'):=by
 subst hK;exact mD ha he
theorem jDE{K:PySem.W.Frag}{a b:Expr}{ta tb:TE}{pos:Pos}{r:PySem.W.Frag->R2}(hK:X.K=K)(hr:IxR X (r X.K))(ha:PE X a ta)(hb:PE X b tb)(hs:jI8 b):PE X (.Subscript a b pos) (tOp (r K) ta tb):=by
 subst hK;exact pe_ix hr ha hb hs
theorem jGU{K:PySem.W.Frag}{e:Expr}{ta:TE}{f:Str}{pos:Pos}(hK:X.K=K)(he:PE X e ta)(hb:iE e f X.env (fA e X.env)=fA e X.env):PE X (.Attribute e f pos) (tFld K ta f):=by
 subst hK;exact fH he hb
theorem seq_tup{K:PySem.W.Frag}{a:Addr}{xs:List V}{H1:Hp}(h:SqT K H1 a xs):Seq (Itt K a) H1 xs:=by
 have k:∀ H,eR H1 H->SqT K H a xs:=fun H e=>by
  rcases h with (h|⟨o,h⟩)|h
  ·exact .inl (.inl (e _ _ h))
  ·exact .inl (.inr ⟨o,e _ _ h⟩)
  ·exact .inr h
 exact⟨fun i H e hi=>⟨xs,xs[i],k H e,getElem?_eq_getElem hi⟩,fun i H x H' e _ y=>⟨y.1,y.2 xs (k H e)⟩,fun H e=>⟨xs,k H e,Nat.le_refl _⟩⟩
end
end L2
namespace PySem.W
open PySem PySem.Spec PySem.Calls PyProof.Rows Builtin Builtin.ObjectAttr Builtin.Getset_descriptor
noncomputable abbrev jDY:List Value:=[.type "ValueError",.type "Exception",.type "BaseException",.type "object"]
noncomputable def excMk(K:Frag)(C:Addr):Bool:=match K.lookup C with
 | some ⟨.type "type",_,.cls cd,sls⟩=>(match cd.mro,sls.toList with
   | .ref C'::uG,[_,_,_,_,some (.builtin n),_]=>C'==C&&n == "ValueError.__new__" && !cd.hasDel&&tailIn K jDY uG
   | _,_=>false)
 | _=>false
noncomputable def ExcAt(h:Heap)(C:Addr)(uG:List Value):Prop:=∃ N nm q bs wX sn sub ab col dd q0 q1 q2 q3 q5,h.get? C=some (excClassObj nm q C N bs uG wX sn sub ab col dd q0 q1 q2 q3 q5 "ValueError.__new__")
theorem jGc{K:Frag}{h:Heap}{C:Addr}(X:K.In h)(q:excMk K C=true):∃ uG,ExcAt h C uG/\OwnTail h jDY uG:=by
 unfold excMk at q;split at q
 ·rename_i dd cd sls ho
  split at q
  ·rename_i C' uG q0 q1 q2 q3 n q5 hmm hss
   simp only [beq_iff_eq,eK,lH] at q;obtain⟨⟨⟨rfl,rfl⟩,hdel⟩,ht⟩:=q;obtain⟨nm,bs,mro,ns,qun,hd,sn,sub,ab,col,del⟩:=cd;dsimp only at hmm hdel;subst hmm hdel;have hsl:sls=#[q0,q1,q2,q3,some (.builtin "ValueError.__new__"),q5]:=by
    obtain⟨l⟩:=sls;simp only at hss;rw [hss]
   subst hsl;exact⟨uG,⟨ns,nm,qun,bs,hd,sn,sub,ab,col,dd,q0,q1,q2,q3,q5,X _ _ ho⟩,tail_of_in X ht⟩
  ·cases q
 ·cases q
noncomputable abbrev excTup(us:List Value):Obj:={ cls:=.type "tuple",data:=.seq us.toArray }
noncomputable abbrev excNew(C t0:Addr):Obj:={ cls:=.ref C,data:=.fields #[.ref t0,.none,.none,.none,.bool false,.none] }
section
variable {prog:Program}{w:World}{A:Around}{K:Frag}{C f:Addr}{R:Result->Shared->Prop}{h:Heap}{g:Array GenState}{d:Drawn}{t:Nat}{os:OsState}
theorem make_X(X:K.In h)(e:excMk K C=true)(hi:findIn K (.ref C) "__init__"=some (some (.ref f)))(hf:typeIn K (.ref f)=some (.type "function"))(hrest:us.length<=dL) 
 (hq:iR (dQ prog w) (A.under (.builtin "type.__call__" ⟨.ref C::us,[]⟩)) (.call (.ref f) ⟨.ref (h.objs.size+1)::us,[]⟩) (InitBack (h.objs.size+1) R) ⟨(h.push (excTup us)).push (excNew C h.objs.size),g,d,t,os⟩) :
 iR (dQ prog w) A (.call (.ref C) ⟨us,[]⟩) R ⟨h,g,d,t,os⟩:=by
 obtain⟨uG,⟨N,nm,q,bs,wX,sn,sub,ab,col,dd,q0,q1,q2,q3,q5,hCl⟩,T⟩:=jGc X e;have FB:=PySem.F.excBase_ValueError;have f1:=tc_lookup;have f2:=tc_bind (.ref C);have hTy:(⟨h,g,d,t,os⟩:Shared).TypeIs (.ref C) "type":=⟨_,hCl,rfl⟩
 refine codeAny_of_tree ?_;show dM (dQ prog w) A.in1 (callAny (.ref C) _) _ _ _
 repeat (any_goals (first|assumption|with_reducible refine jG hCl ?_|wp_step))
 exists rfl;refine codeAny_call_builtin_at (Code.quiet_builtin _ (by decide +kernel)) entry_typeCall (wpAny_check_type_call_sub hCl ?_)
 repeat (first|with_reducible refine jG hCl ?_|with_reducible refine wpAny_madeBy_exc hCl ?_|wp_step)
 refine codeAny_call_builtin_code (Code.quiet_builtin _ FB.quiet) (wpAny_check_new_subT FB T hCl ?_);refine codeAny_exc_new_subT FB T hCl ?_ hrest;show dM _ _ _ _ _ _;have k:∀ b o,h.get? b=some o->((h.push (excTup us)).push (excNew C h.objs.size)).get? b=some o:=fun b o e=>get?_push_of_some _ (get?_push_of_some _ e);have hx:((h.push (excTup us)).push (excNew C h.objs.size)).get? (h.objs.size+1)=some (excNew C h.objs.size):=by heap_get
 have t1:Looks (dQ prog w) ((h.push (excTup us)).push (excNew C h.objs.size)) (typeOf (.ref (h.objs.size+1))) (.ref C):=(Looks.ld hx).andThen .now;have hcc:(Value.ref C::uG).contains (.ref C)=true:=by simp
 have s0:Looks (dQ prog w) h (isSubtype (.ref C) (.ref C)) true:=by
  intro A Q E s kk qq;obtain⟨h1,g1,d1,tk1,os1⟩:=s;exact lQ (kk _ _ hCl) (by rw [hcc];exact qq)
 have s1:=s0.keeps k;have i1:=(looks_findIn (M:=dQ prog w) X hi).keeps k;have b1:=(bind_fn (M:=dQ prog w) X (.ref (h.objs.size+1)) hf).keeps k;have hC₁:=k _ _ hCl;unfold isInstance;refine c8 (c8 (t1.here (s1.here ?_)));simp only [Bool.false_eq_true,Bool.not_true,if_false];refine c8 (gW ?_);unfold callSpecial? specialOf;refine c8 (c8 (t1.here ?_));refine i1.here ?_;refine gW (c8 (b1.here ?_));refine c8 (kW ?_);refine iB hq fun r s' zz=>?_;rcases r with e|(v|_|_|_)<;>first|exact zz|exact zz.elim|skip
 obtain⟨rfl,zz⟩:=zz;exact dP (dP zz)
end
end PySem.W
namespace PySem.W
open PySem PySem.Spec PySem.Calls PyProof.Rows Builtin Builtin.ObjectAttr Builtin.Getset_descriptor
noncomputable def jGd:List Value->Bool
 | .ref _::r=>jGd r
 | .type n::r=>(.type n::r)==jDY
 | _=>false
theorem jJR(self:Value):∀ {l:List Value},jGd l=true->refuseLoop self "__setattr__" l=pure ()
 | .ref c::r,e=>by rw [refuseLoop_ref];exact jJR self (show jGd r=true from e)
 | .type n::r,e=>by rw [show type n::r=jDY from beq_iff_eq.mp e];exact PySem.F.store_ValueError.passes self
theorem jOy(hbb:jDY.contains (.type b)=true):∀ {l:List Value},jGd l=true->l.contains (.type b)=true
 | .ref c::r,e=>by rw [mN,jOy hbb (l:=r) e,Bool.or_true]
 | .type n::r,e=>by rw [show type n::r=jDY from beq_iff_eq.mp e];exact hbb
noncomputable def excOver(K:Frag)(C:Addr):Bool:=(clsIn K C).any fun cdt=>jGd cdt.mro
section
variable {prog:Program}{w:World}{A:Around}{K:Frag}{C x:Addr}{s:Shared}{R:Result->Shared->Prop}
theorem osa_X(X:K.In s.heap)(I:InstAt s.heap x ox C od)(hp:excOver K C=true)(ht:takerIn K C nm=some r) 
 (go:∀ b,dM (dQ prog w) A.in1 (match r with|some a=>setByDescriptor a (.ref x) v|none=>storeInOwnDict (.ref x) (.ref C) (.str nm tk) nm v b)
  (fun fi s'=>match fi with|.done f=>R (.ok f) s'|.again c'=>c'.quiet=true/\iR (dQ prog w) A c' R s') (fun e s'=>R (.error e) s') s) :
 iR (dQ prog w) A (.call (.builtin "object.__setattr__") ⟨[.ref x,.str nm tk,v],[]⟩) R s:=by
 have SFo:=PySem.F.store_object;obtain⟨cdt,pA,hov⟩:=any_some hp;have xN:cdt.mro.isEmpty=false:=by cases q:cdt.mro with|nil=>rw [q] at hov;cases hov|cons _ _=>rfl
 have sub:Looks (dQ prog w) s.heap (isInstance (.ref x) (.type "object")) true:=I.type.andThen (looks_mroIn X (by unfold mroIn;rw [pA,Option.bind_some,if_neg (by rw [xN];decide),jOy (by decide +kernel) hov]));refine lB SFo.slot.plain SFo.entry (@check_slot (dQ prog w) _ _ s "object.__setattr__" "object" "__setattr__" (.ref x) [.str nm tk,v] [] _ SFo.kind SFo.split sub (SFo.args (.ref x) (.str nm tk) v) ?_);obtain⟨atr,ha,hrr⟩:=Option.bind_eq_some_iff.mp ht;have hmr:Looks (dQ prog w) s.heap (mroOf (.ref C)) cdt.mro:=(looks_clsIn X pA).andThen .now;have l3:Looks (dQ prog w) s.heap (storeTaker? atr) r:=by
  cases atr with
  | none=>cases hrr;exact .now
  | some a =>
    obtain⟨b,hbb,rfl⟩:=dW.mp hrr;refine (looks_takesIn X hbb).andThen ?_;cases b<;>exact .now
 rw [osa_eq,refuse_eq];refine c8 (c8 (I.type.here (c8 (hmr.here ?_))));rw [jJR _ hov];refine dP (c8 (I.type.here (c8 ((looks_findIn X ha).here (c8 (l3.here ?_))))));exact go _
variable {E:Value->Shared->Prop}{vs:Array Value}{sl:Array (Option Value)}{nm:Str}{v:Value}
theorem setX_new(X:K.In s.heap)(hx:s.heap.get? x=some ⟨.ref C,none,.fields vs,sl⟩)(hs:findIn K (.ref C) "__setattr__"=some (some (.builtin "object.__setattr__"))) 
 (hp:excOver K C=true) (ht:takerIn K C nm=some none) (hh:hasDictIn K C=true)
 (h:∀ h',h'.get? x=some ⟨.ref C,some s.heap.objs.size,.fields vs,sl⟩->h'.Ns1 s.heap.objs.size (fun y=>if y=nm then some v else none)->(∀ b o,b≠x->s.heap.get? b=some o->h'.get? b=some o) ->
  Q () { s with heap:=h',toks:=s.toks+2 }):dM (dQ prog w) A (vE (.ref x) nm v) Q E s:=by
 have J:InstAt s.heap x ⟨.ref C,none,.fields vs,sl⟩ C none:=⟨hx,rfl,rfl,True.intro⟩
 refine set_plain X J hs (osa_X (s:={ s with toks:=s.toks+1 }) (r:=none) X J hp ht fun b=>?_);obtain⟨cdt,pA,hdc⟩:=any_some hh;refine c8 (dP (c8 (c8 (wG hx (c8 (Looks.here (s:={ s with toks:=s.toks+1 }) (looks_clsIn X pA) ?_))))));rw [hdc];have hxz:x≠s.heap.objs.size:=eV (d0 hx);have wS:(s.heap.push { cls:=.type "dict",data:=.dict #[] }).get? x=some ⟨.ref C,none,.fields vs,sl⟩:=get?_push_of_some _ hx;refine c8 (wpAny_alloc (c8 (wpAny_update wS ?_)));refine dP (a:=some s.heap.objs.size) ?_;have hx2:((s.heap.push { cls:=.type "dict",data:=.dict #[] }).update x fun o=>{ cls:=o.cls,dict:=some s.heap.objs.size,data:=o.data,slots:=o.slots }).get? x=some ⟨.ref C,some s.heap.objs.size,.fields vs,sl⟩:=by
  rw [get?_update_self _ wS rfl]
 have hgx:((s.heap.push { cls:=.type "dict",data:=.dict #[] }).update x fun o=>{ cls:=o.cls,dict:=some s.heap.objs.size,data:=o.data,slots:=o.slots }).get? s.heap.objs.size=some { cls:=.type "dict",data:=.dict #[] } :=
  (Heap.get?_update_ne _ _ _ _ hxz.symm).trans (Heap.get?_push_at rfl rfl)
 have hnd:((s.heap.push { cls:=.type "dict",data:=.dict #[] }).update x fun o=>{ cls:=o.cls,dict:=some s.heap.objs.size,data:=o.data,slots:=o.slots }).Ns s.heap.objs.size (fun _=>none) :=
  ⟨_,#[],_,hgx,rfl,fun e he=>absurd he (by simp),fun _=>rfl⟩
 refine c8 (dP (c8 (z0 (Ns1.of_empty hnd) fun h' hn' uX=>?_)));obtain⟨oD,esD,epD,hoE,hdE,hcE⟩:=hn'.count (Within.cons nm v Within.nil);refine c8 (tM hoE (by rw [hdE];exact tR (eM hcE (by rw [fC,j6,iP];omega))) ?_);refine dP (h h' ((uX.2 x hxz).trans hx2) hn' fun b o hbb q=>?_);exact (uX.2 b (eV (d0 q))).trans ((Heap.get?_update_ne _ _ _ _ hbb).trans (get?_push_of_some _ q))
theorem setX_old(X:K.In s.heap)(hx:s.heap.get? x=some ⟨.ref C,some dxa,.fields vs,sl⟩)(hn:s.heap.Ns1 dxa mA)(sC:dxa≠x) 
 (hs:findIn K (.ref C) "__setattr__"=some (some (.builtin "object.__setattr__"))) (hp:excOver K C=true) (ht:takerIn K C nm=some none) (hh:hasDictIn K C=true) (hw:Within mA ns) (hsz:ns.length<dL)
 (h:∀ h',h'.Ns1 dxa (fun y=>if y=nm then some v else mA y)->(∀ b o,b≠dxa->s.heap.get? b=some o->h'.get? b=some o) ->
  Q () { s with heap:=h',toks:=s.toks+2 }):dM (dQ prog w) A (vE (.ref x) nm v) Q E s:=by
 obtain⟨od,hov,hl⟩:=L2.lookIn_ns hn;have J:InstAt s.heap x ⟨.ref C,some dxa,.fields vs,sl⟩ C (some od):=⟨hx,rfl,rfl,hov⟩
 refine set_plain X J hs (osa_X (s:={ s with toks:=s.toks+1 }) (r:=none) X J hp ht fun b=>?_);obtain⟨cdt,pA,hdc⟩:=any_some hh;refine c8 (dP (c8 (c8 (wG hx (c8 (Looks.here (s:={ s with toks:=s.toks+1 }) (looks_clsIn X pA) ?_))))));rw [hdc];refine dP (a:=some dxa) (c8 (dP (c8 ?_)));refine z0 (s:={ s with toks:=s.toks+1 }) hn fun h' hn' uX=>?_;obtain⟨oD,esD,epD,hoE,hdE,hcE⟩:=hn'.count (Within.cons nm v hw);refine c8 (tM hoE (by rw [hdE];exact tR (eM hcE (by rw [fC];omega))) ?_);exact dP (h h' hn' fun b o hbb q=>(uX.2 b hbb).trans q)
end
end PySem.W
namespace PySem.W
open PySem PySem.Spec PySem.Calls PyProof.Rows Builtin Builtin.ObjectAttr Builtin.Getset_descriptor
section
variable {prog:Program}{w:World}{A:Around}{K:Frag}{C x:Addr}{s:Shared}{E:Value->Shared->Prop}{ox:Obj}{od:Option Obj}{nm:Str}{v:Value}{Q:Value->Shared->Prop}{expr:Bool}
end
end PySem.W
namespace L2
open PySem PyProof.Rows PySem.Spec PySem.Calls
noncomputable def XO(e C:Addr)(d:Option Addr):HO:=.ext fun h=>∃ t0,h.get? e=some ⟨.ref C,d,.fields #[.ref t0,.none,.none,.none,.bool false,.none],#[]⟩
noncomputable def XC(e C:Addr)(d:Option Addr):HO:=.ext fun h=>∃ vs sl,h.get? e=some ⟨.ref C,d,.fields vs,sl⟩/\vs[2]?=some .none
noncomputable def XD(a:Addr)(fs:List (Str×V)):HO:=.ext fun h=>fs.length<=1000/\∃ mA,h.Ns1 a mA/\(∀ f,qA (fs.lookup f) (mA f))/\PySem.Within mA (fs.map (·.1))
noncomputable def IsX(H:Hp)(e C:Addr)(d:Option Addr):Prop:=H e=some (XO e C d)\/H e=some (XC e C d)
section
variable {P:Program}{w:World}{H:Hp}{h:Heap}{e C a:Addr}{d:Option Addr}{fs:List (Str×V)}
theorem xo_ok(q:h.get? e=some ⟨.ref C,d,.fields #[.ref t0,.none,.none,.none,.bool false,.none],#[]⟩):lU P w H h e (XO e C d) :=
 ⟨⟨t0,q⟩,⟨_,q⟩,fun _ _ ⟨t,z⟩ k=>⟨t,k _ z⟩⟩
theorem xc_ok(q:h.get? e=some ⟨.ref C,d,.fields vs,sl⟩)(c:vs[2]?=some .none):lU P w H h e (XC e C d) :=
 ⟨⟨vs,sl,q,c⟩,⟨_,q⟩,fun _ _ ⟨v,s,z,c⟩ k=>⟨v,s,k _ z,c⟩⟩
theorem xd_ok(l:fs.length<=1000)(n:h.Ns1 a mA)(r:∀ f,qA (fs.lookup f) (mA f))(wi:PySem.Within mA (fs.map (·.1))):lU P w H h a (XD a fs) :=
 ⟨⟨l,mA,n,r,wi⟩,let ⟨o,_,_,q,_⟩:=n;⟨o,q⟩,fun _ _ ⟨l,m,n,r,z⟩ k=>⟨l,m,n.at k,r,z⟩⟩
theorem jGe(hok:HOk P w H h)(q:H e=some (XO e C d)):∃ t0,h.get? e=some ⟨.ref C,d,.fields #[.ref t0,.none,.none,.none,.bool false,.none],#[]⟩ :=
 (show lU P w H h e (XO e C d) from hok e _ q).1
theorem jOz(hok:HOk P w H h)(q:IsX H e C d):∃ vs sl,h.get? e=some ⟨.ref C,d,.fields vs,sl⟩/\vs[2]?=some .none:=by
 rcases q with q|q
 ·obtain⟨t,z⟩:=jGe hok q;exact⟨_,_,z,rfl⟩
 ·exact (show lU P w H h e (XC e C d) from hok e _ q).1
theorem x_get(hok:HOk P w H h)(q:IsX H e C d):∃ vs sl,h.get? e=some ⟨.ref C,d,.fields vs,sl⟩:=let ⟨vs,sl,z,_⟩:=jOz hok q;⟨vs,sl,z⟩
theorem xd_get(hok:HOk P w H h)(q:H a=some (XD a fs)):fs.length<=1000/\∃ mA,h.Ns1 a mA/\(∀ f,qA (fs.lookup f) (mA f))/\PySem.Within mA (fs.map (·.1)) :=
 (show lU P w H h a (XD a fs) from hok a _ q).1
end
structure ClsX(K:PySem.W.Frag)(C:Addr):Prop where
 hd:PySem.W.hasDictIn K C=true
 po:PySem.W.excOver K C=true
 sa:PySem.W.findIn K (.ref C) "__setattr__"=some (some (.builtin "object.__setattr__"))
 ga:PySem.W.findIn K (.ref C) "__getattribute__"=some (some (.builtin "BaseException.__getattribute__"))
 gn:PySem.W.findIn K (.ref C) "__getattr__"=some none
section
variable {X:Cx}{b9:List (Addr×Obj)}{σ:St}{H:Hp}{s:Shared}{a C dx:Addr}{d:Option Addr}{fs:List (Str×V)}{f:Str}{v y:V}{u:Value}{A:Around}{E:Value->Shared->Prop}
theorem jPH(I:Inv X b9 σ H s)(e:H a=some (XO a C none))(c:ClsX X.K C)(n:jQ X.K C f)(ry:g9 y u) 
 (h:∀ dx s',H dx=none->dx≠a->Inv X b9 σ (upd (upd H dx (XD dx [(f,y)])) a (XO a C (some dx))) s'->Q () s'):dM (dQ X.prog X.w) A (vE (.ref a) f u) Q E s:=by
 obtain⟨t0,hx⟩:=jGe I.hok e;refine PySem.W.setX_new I.kIn hx c.sa c.po n.taker c.hd fun h' h1 h2 h3=>?_;have hf:=I.hok.fresh (Nat.le_refl s.heap.objs.size);have sC:s.heap.objs.size≠a:=fun z=>by rw [z,e] at hf;cases hf
 obtain⟨od,es,ep,q1,q2,q3⟩:=id h2;have hfr:od.isFreed=false:=(Heap.get?_some_iff.mp q1).2;have g1:(s.heap.push od).get? s.heap.objs.size=some od:=get?_push_size s.heap hfr;have I1:Inv X b9 σ (upd H s.heap.objs.size (XD s.heap.objs.size [(f,y)])) { s with heap:=s.heap.push od,toks:=s.toks }:=by
  refine I.laid (fun b o q=>get?_push_of_some _ q) (Nat.le_refl _) (xd_ok (by simp) (h2.at fun o q=>?_) (fun g=>?_) (fun g hg=>?_))
  ·rw [q1] at q;cases q;exact g1
  ·show qA ([(f,y)].lookup g) (if g=f then some u else none);by_cases z:g=f
   ·have hb:(g==f)=true:=beq_iff_eq.mpr z;simp only [List.lookup,hb,if_pos z];exact ry
   ·have hb:(g==f)=false:=beq_eq_false_iff_ne.mpr z;simp only [List.lookup,hb,if_neg z];exact True.intro
  ·by_cases z:g=f
   ·rw [z];exact .head _
   ·exact absurd (if_neg z) hg
 refine h s.heap.objs.size _ hf sC (I1.write (x:=a) (e:=a) (t':=s.toks+2) (h':=h') (by rw [eJ (symm sC),e];exact True.intro) (.inl rfl) (fun b o hb q=>?_) ⟨_,h1⟩ (xo_ok h1));by_cases z:b=s.heap.objs.size
 ·subst z;rw [g1] at q;cases q;exact q1
 ·have hb':s.heap.get? b=some o:=by rw [<- q];exact (Heap.get?_push_ne _ _ _ z).symm
  exact h3 b o hb hb'
theorem jPI(I:Inv X b9 σ H s)(e:IsX H a C (some dx))(ed:H dx=some (XD dx fs))(sC:dx≠a)(c:ClsX X.K C)(n:jQ X.K C f)(hl:fs.length<1000)(ry:g9 y u) 
 (h:∀ s',Inv X b9 σ (upd H dx (XD dx (l7 f y fs))) s'->Q () s'):dM (dQ X.prog X.w) A (vE (.ref a) f u) Q E s:=by
 obtain⟨vs,sl,hx⟩:=x_get I.hok e;obtain⟨_,mA,hn,r,wi⟩:=xd_get I.hok ed;refine PySem.W.setX_old I.kIn hx hn sC c.sa c.po n.taker c.hd wi (by rw [c7,iP];omega) fun h' h1 h2=>h _ ?_;refine I.write (x:=dx) (e:=dx) (by rw [ed];exact True.intro) (.inl rfl) h2 (let ⟨o,_,_,q,_⟩:=h1;⟨o,q⟩) (xd_ok ?_ h1 (fun g=>?_) (fun g hg=>?_))
 ·have:=jEX f y fs;omega
 ·show qA ((l7 f y fs).lookup g) (if g=f then some u else mA g);rw [jEW];by_cases q:g=f
  ·rw [if_pos q,if_pos q];exact ry
  ·rw [if_neg q,if_neg q];exact r g
 ·by_cases q:g=f
  ·rw [q];exact (jDB f y fs).1
  ·refine (jDB f y fs).2 g (wi g fun z=>hg ?_);show (if g=f then some u else mA g)=none;rw [if_neg q];exact z
end
end L2
namespace PySem.W
open PySem PySem.Spec PySem.Calls PyProof.Rows Builtin Builtin.ObjectAttr Builtin.Getset_descriptor
section
variable {prog:Program}{w:World}{A:Around}{K:Frag}{C x t0:Addr}{s:Shared}{E:Value->Shared->Prop}{od:Option Addr}{Q:Value->Shared->Prop}
theorem initX(X:K.In s.heap)(hx:s.heap.get? x=some ⟨.ref C,od,.fields #[.ref t0,.none,.none,.none,.bool false,.none],#[]⟩)(e:excMk K C=true)(hz:us.length<=dL) 
 (h:∀ h',h'.get? x=some ⟨.ref C,od,.fields #[.ref s.heap.objs.size,.none,.none,.none,.bool false,.none],#[]⟩->(∀ b o,b≠x->s.heap.get? b=some o->h'.get? b=some o)->Q .none { s with heap:=h' }) :
 dM (dQ prog w) A (call (.builtin "ValueError.__init__") (.ref x::us)) Q E s:=by
 obtain⟨bm,⟨N,nm,q,bs,wX,sn,sub,ab,col,dd,k0,k1,k2,k3,k5,hC⟩,T⟩:=jGc X e;have FB:=PySem.F.excBase_ValueError;obtain⟨hp,g,d,t,os⟩:=s;refine kW (lB FB.init.plain FB.initEntry (wpAny_check_init_subT FB T hC hx rfl ?_))
 delta Builtin.«BaseException.__init__»
 dsimp only;rw [if_neg (by simp)];unfold Builtin.BaseException.bexcPut newTuple;have wS:=get?_push_of_some (h:=hp) { cls:=.type "tuple",data:=.seq us.toArray } hx;refine c8 (mS (c8 (c8 (iO wS rfl rfl (c8 (l5 wS rfl (by show 0<6;decide) ?_))))) (by show us.toArray.size<=dL;rw [dS];exact hz));refine wpAny_letGo (dP (h _ ?_ fun b o hb hq=>?_))
 ·rw [get?_update_self _ wS rfl];rfl
 ·exact (Heap.get?_update_ne _ _ _ _ hb).trans (get?_push_of_some _ hq)
end
end PySem.W
namespace PySem.W
open PySem PySem.Spec PySem.Calls PyProof.Rows Builtin Builtin.ObjectAttr Builtin.Getset_descriptor
section
variable {prog:Program}{w:World}{A:Around}{K:Frag}{C x:Addr}{s:Shared}{E:Value->Shared->Prop}{ox:Obj}{od:Obj}
end
end PySem.W
namespace L2
open PySem PyProof.Rows PySem.Spec PySem.Calls
theorem jPJ(e:H a=some o):upd H a o=H:=by
 funext b;unfold upd;by_cases q:b=a
 ·rw [if_pos q,q,e]
 ·rw [if_neg q]
structure MkX(K:PySem.W.Frag)(C f:Addr):Prop where
 makes:PySem.W.excMk K C=true
 init:PySem.W.findIn K (.ref C) "__init__"=some (some (.ref f))
 fn:isFn K (.ref f)=true
 kp:jT K (.ref C)=true
noncomputable def jOA(C:Addr)(sp:Sp)(E:XK)(t:TA):TE:=fun σ H Q=>t σ H fun vs H1=>∀ x,H1 x=none->sp (.ref x::vs) (upd H1 x (XO x C none)) (fun v H2=>v=.non/\Q (.ref x) H2) E
section
variable {X:Cx}{CX:CXT}{k:Nat}{f C:Addr}{fd:FuncData}{ps:List Str}{sp:Sp}{E:XK}{x m:Str}{p pos hZ:Pos}{e o:Expr}{es:List Expr}{ta:TE}{t:TA}
theorem Inv.madeX(I:Inv X b9 σ H s) :
 Inv X b9 σ (upd H (s.heap.objs.size+1) (XO (s.heap.objs.size+1) C none)) { s with heap:=(s.heap.push (PySem.W.excTup us)).push (PySem.W.excNew C s.heap.objs.size) }:=by
 have e2:((s.heap.push (PySem.W.excTup us)).push (PySem.W.excNew C s.heap.objs.size)).get? (s.heap.objs.size+1)=some (PySem.W.excNew C s.heap.objs.size):=by
  have:=get?_push_size (s.heap.push (PySem.W.excTup us)) (o:=PySem.W.excNew C s.heap.objs.size) rfl;rwa [jO] at this
 have I1:=I.kept (h':=s.heap.push (PySem.W.excTup us)) (t':=s.toks) (fun b u q=>get?_push_of_some _ q);exact I1.laid (a:=s.heap.objs.size+1) (t':=s.toks) (fun b u q=>get?_push_of_some _ q) (oP (jO _ _)) (xo_ok e2)
theorem jOB(M:MkX X.K C f)(F:m8 X.prog X.w X.K X.mg X.base CX k f fd ps sp)(hr:kX (k+1) X.A)(hb:qK X.K fd ps []) 
 (hx:jDC CX X E) (hz:ps.length<=1000) (I:Inv X b9 σ H s) (r:iH vs us)
 (h:∀ x,H x=none->sp (.ref x::vs) (upd H x (XO x C none)) (fun v H2=>v=.non/\Q (.ref x) H2) E) :
 dM (dQ X.prog X.w) X.A (call (.ref C) us) (EP X b9 σ Q) X.xe s:=by
 have hq:=h (s.heap.objs.size+1) (I.hok.fresh (iF _));have I2:=Inv.madeX (C:=C) (us:=us) I;have r2:iH (V.ref (s.heap.objs.size+1)::vs) (Value.ref (s.heap.objs.size+1)::us):=.cons rfl r;have hl:(Value.ref (s.heap.objs.size+1)::us).length=ps.length:=by
  have e:=r2.length;rw [F.len _ _ _ _ hq] at e;exact e.symm
 have rJ:=hb { s with heap:=(s.heap.push (PySem.W.excTup us)).push (PySem.W.excNew C s.heap.objs.size) } (Value.ref (s.heap.objs.size+1)::us) I2.kIn (by rw [gQ];exact hl);rw [gQ] at rJ
 refine kW (PySem.W.make_X (f:=f) I.kIn M.makes M.init (beq_iff_eq.mp M.fn) (by rw [fC] at hl;rw [iP];omega) (iB (F.run _ X.stack _ _ ⟨Value.ref (s.heap.objs.size+1)::us,[]⟩ (Value.ref (s.heap.objs.size+1)::us) _ _ E (hr.make C us [])
  (I2.env0.make C us []) rJ r2 hq) fun r s' wT=>?_))
 cases r with
 | error e=>exact hx b9 σ _ _ e s' I2 wT
 | ok fl =>
   cases fl with
   | ret u =>
     obtain⟨v,H',I3,rv,ev,q3⟩:=I2.after wT;subst ev;exact⟨rv,⟨V.ref (s.heap.objs.size+1),H',I3,rfl,q3⟩⟩
   | next=>exact False.elim wT
   | brk=>exact False.elim wT
   | cont=>exact False.elim wT
theorem jPK(M:MkX X.K C f)(F:m8 X.prog X.w X.K X.mg X.base CX k f fd ps sp)(hr:kX (k+1) X.A)(hg:Gl X x)(hm:X.mg x=some (.ref C))(hb:qK X.K fd ps [])(hx:jDC CX X E)(hz:ps.length<=1000) 
 (ha:PA X (e::es) t) (qR:(x==("__debug__":Str))=false:=by decide) (he:dO (e::es) X.env=(false,fA e X.env)::dO es X.env:=by rfl) (nR:(gH pos (dO es X.env)).any (·.1)=false:=by rfl) :
 PE X (.Call (.Name x p) (e::es) [] pos) (jOA C sp E t):=by
 intro b9 s σ H Q I h;refine gF (jC0 I hg hm ?_ qR);refine lW (h₀:=X.base) I.ok.mod.kin M.kp (thn (ha pos b9 s σ H _ I h) fun us s1 ⟨vs,H1,I1,r,q⟩=>⟨I1.kIn,?_⟩) he nR;exact jOB M F hr hb hx hz I1 r q
structure InX(K:PySem.W.Frag)(B:Addr):Prop where
 sp:jN K (.ref B) "__getattribute__"=some (some (.builtin "type.__getattribute__"))
 rd:tQ K B (.type "type")=true
 fc:uC K (.ref B) (.type "type") "__init__"=some (.val (.builtin "ValueError.__init__"))
inductive ItInX(K:PySem.W.Frag)(Q:VK)(vs:List V)(H1:Hp):Prop|mk a C d xs:vs=.ref a::xs->xs.length<=1000->H1 a=some (XO a C d)->PySem.W.excMk K C=true->Q .non H1->ItInX K Q vs H1
noncomputable def tInX(K:PySem.W.Frag)(t:TA):TE:=fun σ H Q=>t σ H fun vs H1=>ItInX K Q vs H1
theorem jPL(J:InX X.K B)(hg:Gl X x)(hm:X.mg x=some (.ref B))(ha:PA X (e::es) t)(qR:(x==("__debug__":Str))=false:=by decide) 
 (uW:dO (e::es) X.env=(false,fA e X.env)::dO es X.env:=by rfl) (nR:(gH pos (dO es X.env)).any (·.1)=false:=by rfl)
 (ht:fA (.Call (.Attribute (.Name x p) "__init__" hZ) (e::es) [] pos) X.env=(do
  let ov <- fA (.Name x p) X.env
  kY hZ.atName
  let (f,first) <- jW [ov] (l4 ov "__init__" pl)
  kN pos f first (gH pos (dO (e::es) X.env)) (iA pos (fM [] X.env))):=by rfl) :
 PE X (.Call (.Attribute (.Name x p) "__init__" hZ) (e::es) [] pos) (tInX X.K t):=by
 intro b9 s σ H Q I h;refine kR (pl:=pl) (jC0 I hg hm ?_ qR) ht;refine uL I.kIn J.sp (xD I.kIn J.rd J.fc rfl ?_);have hA:=ha pos b9 _ σ H _ (I.tok (s.toks+1)) h;show dM _ _ (kN pos (.builtin "ValueError.__init__") [] (gH pos (dO (e::es) X.env)) []) _ _ _;rw [uW] at hA ⊢;refine Calls.callWith_builtin (by show (false||(gH pos (dO es X.env)).any (·.1))=false;rw [nR]<;>rfl) (Calls.evalArgs_plain ?_);refine thn hA fun us s2 ⟨vs,H2,I2,r2,a,C,d,xs,ev,hl,ea,mk,q⟩=>?_;subst ev;cases r2 with
 | cons ru rr =>
   cases ru;obtain⟨t0,hx⟩:=jGe I2.hok ea;refine PySem.W.initX I2.kIn hx mk (by rw [<- rr.length,iP];omega) fun h' h1 h2=>⟨.non,H2,?_,rfl,q⟩
   have:=I2.write (x:=a) (e:=a) (o:=XO a C d) (t':=s2.toks) (h':=h') (by rw [ea];exact True.intro) (.inl rfl) h2 ⟨_,h1⟩ (xo_ok h1);rwa [jPJ ea] at this
end
noncomputable def XF(H:Hp)(e C:Addr)(fs:List (Str×V)):Prop:=∃ dx,H e=some (XO e C (some dx))/\H dx=some (XD dx fs)/\dx≠e
noncomputable def sFldX(K:PySem.W.Frag)(ta tv:TE)(f:Str):TS:=fun D σ H=>tv σ H fun y H1=>ta σ H1 fun x H2 =>
 (∃ a C,x=.ref a/\H2 a=some (XO a C none)/\ClsX K C/\jQ K C f/\∀ dx,H2 dx=none->dx≠a->D.nx σ (upd (upd H2 dx (XD dx [(f,y)])) a (XO a C (some dx)))) \/
 (∃ a C dx fs,x=.ref a/\IsX H2 a C (some dx)/\H2 dx=some (XD dx fs)/\dx≠a/\ClsX K C/\jQ K C f/\fs.length<1000/\D.nx σ (upd H2 dx (XD dx (l7 f y fs))))
structure ClsI(K:PySem.W.Frag)(C:Addr):Prop where
 c:ClsX K C
 ca:PySem.W.findIn K (.ref C) "__class__"=some (some (.builtin "object.__class__"))
 cn:jN K (.builtin "object.__class__") "__get__"=some (some (.builtin "getset_descriptor.__get__"))
 ct:tN K (.builtin "object.__class__")=some true
section
variable {X:Cx}{o e value:Expr}{f:Str}{pos o6 rA:Pos}{ta tv:TE}
theorem ps_fldX(ha:PE X o ta)(hv:PE X value tv)(hs:lY value (some (.Attribute o f o6)) pos.line X.env=pure false):PS X (.Assign [.Attribute o f o6] value pos) (sFldX X.K ta tv f):=by
 intro b9 s σ H D I h;refine tE (thn (hv b9 s σ H _ I h) fun u s1 ⟨y,H1,I1,ry,q⟩=>thn (ha b9 s1 σ H1 _ I1 q) fun ov s2 ⟨x,H2,I2,rx,q2⟩=>?_) hs;rcases q2 with⟨a,C,ex,ea,c,n,q3⟩|⟨a,C,dx,fs,ex,ea,ed,ne,c,n,l,q3⟩
 ·subst ex;obtain rfl:ov=Value.ref a:=rx;exact jPH I2 ea c n ry fun dx s3 h1 h2 I3=>⟨σ,_,I3,q3 dx h1 h2⟩
 ·subst ex;obtain rfl:ov=Value.ref a:=rx;exact jPI I2 ea ed ne c n l ry fun s3 I3=>⟨σ,_,I3,q3⟩
end
structure MkXD(P:Program)(w:World)(K:PySem.W.Frag)(mg:Str->Option Value)(base:Heap)(k:Nat)(x:Str)(C:Addr)(ps:List Str)(sp:Sp):Prop where
 ex:∃ f fd,MkX K C f/\m8 P w K mg base CX0 k f fd ps sp/\qK K fd ps []/\mg x=some (.ref C)
 few:ps.length<=1000
theorem jOC(D:MkXD X.prog X.w X.K X.mg X.base k x C ps sp)(hr:kX (k+1) X.A)(hg:Gl X x)(ha:PA X (e::es) t)(qR:(x==("__debug__":Str))=false:=by decide) 
 (he:dO (e::es) X.env=(false,fA e X.env)::dO es X.env:=by rfl) (nR:(gH pos (dO es X.env)).any (·.1)=false:=by rfl):PE X (.Call (.Name x p) (e::es) [] pos) (jOA C sp E0 t):=by
 obtain⟨f,fd,M,F,b,m⟩:=D.ex;exact jPK M F hr hg m b jIc D.few ha qR he nR
noncomputable def xcls(K:PySem.W.Frag)(C:Addr)(fs:List Str):Bool :=
 PySem.W.hasDictIn K C&&PySem.W.excOver K C&&PySem.W.findIn K (.ref C) "__setattr__" == some (some (.builtin "object.__setattr__"))&&PySem.W.findIn K (.ref C) "__getattribute__" == some (some (.builtin "BaseException.__getattribute__")) &&
 PySem.W.findIn K (.ref C) "__getattr__" == some none&&PySem.W.findIn K (.ref C) "__class__" == some (some (.builtin "object.__class__"))&&fs.all fun f=>PySem.W.findIn K (.ref C) f==some none
structure XCl(K:PySem.W.Frag)(C:Addr)(fs:List Str):Prop where
 i:ClsI K C
 n:∀ f∈fs,jQ K C f
 m:PySem.W.excMk K C=true
theorem XCl.of{K:PySem.W.Frag}{C:Addr}{fs:List Str}(h:xcls K C fs=true)(m:PySem.W.excMk K C=true)(cn:jN K (.builtin "object.__class__") "__get__"=some (some (.builtin "getset_descriptor.__get__")))(ct:tN K (.builtin "object.__class__")=some true):XCl K C fs:=by
 unfold xcls at h;simp only [eK,beq_iff_eq,gZ] at h;obtain⟨⟨⟨⟨⟨⟨h1,h2⟩,h3⟩,h4⟩,h5⟩,h6⟩,h7⟩:=h;exact⟨⟨⟨h1,h2,h3,h4,h5⟩,h6,cn,ct⟩,fun f hf=>h7 f hf,m⟩
noncomputable def jOD(K:PySem.W.Frag)(cs:List Addr)(b:Addr):Bool :=
 (range cs.length).all fun i=>pY K (.ref (cs.getD i 0)) (.ref b)==some true&&pY K (.ref (cs.getD i 0)) (.type "ValueError")==some true&&(range cs.length).all fun j=>pY K (.ref (cs.getD i 0)) (.ref (cs.getD j 0))==some (i==j)
theorem jFs{kvs:List (Key×V)}{k:Key}{v:V}(h:k ∉ kvs.map (·.1)):oU kvs k v=kvs++[(k,v)]:=by
 unfold oU;rw [if_neg];intro e;obtain⟨p,hp,he⟩:=j9.mp e;exact h (dR.mpr ⟨p,hp,of_decide_eq_true he⟩)
theorem jDZ:∀ {more kvs:List (Key×V)} {ks:List Key},kvs.map (·.1)++more.map (·.1)=ks->ks.Nodup->jEe kvs more=kvs++more
 | [],kvs,ks,_,_=>(gQ _).symm
 | p::r,kvs,ks,e,n=>by
   subst e;have hn:p.1 ∉ kvs.map (·.1):=fun z=>by
    rw [eW,iI] at n;exact n.2.2 _ z _ (.head _) rfl
   show jEe (oU kvs p.1 p.2) r=_;rw [jFs hn,jDZ (more:=r) (kvs:=kvs++[(p.1,p.2)]) rfl (by rw [eB,append_assoc];exact n),append_assoc];rfl
end L2
namespace PySem.W
open PySem
structure Noted(e:Addr)(cl:Value)(d:Option Addr)(fr:List Addr)(off:Addr->Prop)(h h':Heap):Prop where
 exc:∃ vs sl T oT ts,h'.get? e=some ⟨cl,d,.fields vs,sl⟩/\vs[1]?=some (.ref T)/\T≠e/\h.objs.size<=T/\h'.get? T=some oT/\oT.data=.fields ts/\ts[3]?=some .none
 keep:∀ b o,b≠e->¬ off b->b ∉ fr->h.get? b=some o->h'.get? b=some o
 slot:∀ b o,b≠e->¬ off b->h.get? b=some o->∃ sl,h'.get? b=some { o with slots:=sl }
 ctx:∀ o o' vs vs',h.get? e=some o->h'.get? e=some o'->o.data=.fields vs->o'.data=.fields vs'->vs'[2]?=vs[2]?
noncomputable abbrev jKw(ws:Array Value):Obj:={ cls:=.type "traceback",dict:=none,data:=.fields ws }
section
variable {M:Model}{E:Value->Shared->Prop}{A:Around}{s:Shared}
theorem jJS 
 (hA:A.frames=some (env::outer)) (hl:s.heap.FunFrames bh (env::outer)) (hf:env.frame=some L) (he:s.heap.get? e=some ⟨cl,d,.fields vs,sl⟩) (hz:1<vs.size)
 (k:∀ h',Noted e cl d ((env::outer).filterMap (·.frame)) (fun _=>False) s.heap h'->Q () { s with heap:=h' }) :
 dM M A (do let fo <- frameOf env;let pl <- entryPlaceOf L hadNext;let tb <- EntryCells.newEntry head fo .none (jE L) .none pl;setField (.ref e) 1 tb) (fun _ s1=>dM M A (pU (.ref e) none) Q E s1) E s:=by
 have eno:e ∉ (env::outer).filterMap (·.frame):=fun z=>by
  obtain⟨_,ob,q1,q2⟩:=hl.mem z;rw [he] at q1;cases q1;exact q2 vs rfl
 refine c8 (wpAny_frameOf_fun hA hl hf fun g so=>?_);refine c8 (wpAny_entryPlaceOf fun pla nR=>?_);unfold EntryCells.newEntry;unfold newFields;refine (c8 (mS ?_ (nR.sizeOk5 _ _ _ _ _)));generalize hws:([head,.ref L,.none,jE L,.none]++(if pla.isEmpty then gC 6 Value.none else pla)).toArray=ws;have wz:3<ws.size:=by
  rw [<- hws];simp only [dS,length_append,fC,j6];omega
 have e1:g.get? e=some ⟨cl,d,.fields vs,sl⟩:=(so.2.1 e eno).trans he;have nT:g.objs.size≠e:=iJ (d0 e1);have e2:(g.push (jKw ws)).get? e=_:=get?_push_of_some (h:=g) (jKw ws) e1;refine l5 e2 rfl hz ?_;generalize hu:(g.push (jKw ws)).update e (rS (·.setIfInBounds 1 (Value.ref g.objs.size)))=g2;have e3:g2.get? e=some ⟨cl,d,.fields (vs.setIfInBounds 1 (.ref g.objs.size)),sl⟩:=by
  rw [<- hu];exact get?_update_self _ e2 rfl
 have t3:g2.get? g.objs.size=some (jKw ws):=by
  rw [<- hu,get?_update_other _ _ (symm nT)];exact get?_push_size g rfl
 have o3:∀ b ob,b≠e->g.get? b=some ob->g2.get? b=some ob:=fun b ob hb q=>by
  rw [<- hu,get?_update_other _ _ (symm hb)];exact get?_push_of_some _ q
 unfold pU;refine c8 (iO e3 rfl (x:=.ref g.objs.size) (by simp [hz]) ?_);rw [if_pos (by simp)];refine l5 t3 rfl wz (k _ ⟨?_,fun b ob hb _ hx q=>?_,fun b ob hb _ q=>?_,fun o o' ws' vs' q1 q2 q3 q4=>?_⟩)
 ·refine⟨vs.setIfInBounds 1 (.ref g.objs.size),sl,g.objs.size,_,_,?_,by simp [hz],nT,?_,get?_update_self _ t3 rfl,rfl,by simp [wz]⟩
  ·rw [get?_update_other _ _ nT];exact e3
  ·exact oP so.1.symm
 ·have q1:g.get? b=some ob:=(so.2.1 b hx).trans q;rw [get?_update_other _ _ (iJ (d0 q1))];exact o3 b ob hb q1
 ·obtain⟨s1,q1⟩:=so.2.2 b ob q;exists s1;rw [get?_update_other _ _ (iJ (d0 q1))];exact o3 b _ hb q1
 ·rw [get?_update_other _ _ nT,e3] at q2;rw [he] at q1;cases q1;cases q2;cases q3;cases q4;simp
noncomputable def HeadAt(h:Heap)(e T:Addr):Prop:=T≠e/\∃ oT ts,h.get? T=some oT/\oT.data=.fields ts/\ts[3]?=some .none
theorem note_fly 
 (hA:A.frames=some (env::outer)) (hl:s.heap.FunFrames bh (env::outer)) (hf:env.frame=some L) (he:s.heap.get? e=some ⟨cl,d,.fields vs,sl⟩)
 (hv:vs[1]?=some .none\/∃ T,vs[1]?=some (.ref T)/\HeadAt s.heap e T/\off T)
 (k:∀ h',Noted e cl d ((env::outer).filterMap (·.frame)) off s.heap h'->Q () { s with heap:=h' }) :
 dM M A (tT (.ref e) env) (fun _ s1=>dM M A (pU (.ref e) none) Q E s1) E s:=by
 unfold tT;simp only [hf];rcases hv with hv|⟨T,hv,⟨nT,oT,ts,hT,dT,h3⟩,ho⟩
 ·refine c8 (iO he rfl hv ?_);rw [if_neg (by decide)];exact jJS hA hl hf he (Array.getElem?_eq_some_iff.mp hv).1 fun h' n=>k h' ⟨n.exc,fun b o h1 _=>n.keep b o h1 (fun z=>z),fun b o h1 _=>n.slot b o h1 (fun z=>z),n.ctx⟩
 ·refine c8 (iO he rfl hv ?_);rw [if_pos (by simp)];refine c8 (iO hT dT h3 ?_);rw [if_neg (by simp [jE])];refine c8 (l5 hT dT (Array.getElem?_eq_some_iff.mp h3).1 ?_);generalize hu:s.heap.update T (rS (·.setIfInBounds 3 Value.none))=g;have oth:∀ b,b≠T->g.get? b=s.heap.get? b:=fun b hb=>by rw [<- hu];exact get?_update_other _ _ (symm hb)
  have hz:g.objs.size=s.heap.objs.size:=by rw [<- hu];exact Heap.size_after_update ..
  refine jJS (s:={ s with heap:=g }) hA (hl.of_keeps fun b o q nf=>⟨o,(oth b fun z=>?_).trans q,rfl⟩) hf ((oth e (symm nT)).trans he) (Array.getElem?_eq_some_iff.mp hv).1 fun h' n=>k h' ⟨?_,fun b o h1 h2 h3 q=>?_,fun b o h1 h2 q=>?_,fun o o' ws vs' q1=>n.ctx o o' ws vs' ((oth e (symm nT)).trans q1)⟩
  ·rw [z,hT] at q;cases q;exact nf ts dT
  ·obtain⟨vs',sl',T',o',ts',x1,x2,x3,x4,x5⟩:=n.exc;exact⟨vs',sl',T',o',ts',x1,x2,x3,by rw [<- hz];exact x4,x5⟩
  ·exact n.keep b o h1 (fun z=>z) h3 ((oth b fun z=>h2 (z ▸ ho)).trans q)
  ·exact n.slot b o h1 (fun z=>z) ((oth b fun z=>h2 (z ▸ ho)).trans q)
end
end PySem.W
namespace L2
open PySem PyProof.Rows PySem.Spec PySem.Calls
noncomputable def TrX(n:Nat)(H:Hp)(ea:Addr)(h:Heap):Prop:=∃ cl d vs sl T,h.get? ea=some ⟨cl,d,.fields vs,sl⟩/\vs[1]?=some (.ref T)/\PySem.W.HeadAt h ea T/\n<=T/\H T=none
noncomputable def CXe(P:Program)(w:World):CXT:=fun outer H s E e s'=>∃ ea C d H',e=.ref ea/\s'.os=s.os/\AllBare s'.gens/\Un (frs outer) [] H H' s.heap s'.heap/\HOk P w H' s'.heap/\H' ea=some (XC ea C d) /\
 TrX s.heap.objs.size H' ea s'.heap/\E (.ref C) (some ea) H'
noncomputable def TrI(X:Cx)(b9:List (Addr×Obj))(H:Hp)(ea:Addr)(h:Heap):Prop:=∃ cl d vs sl T,h.get? ea=some ⟨cl,d,.fields vs,sl⟩/\vs[1]?=some (.ref T)/\PySem.W.HeadAt h ea T/\X.s₀.heap.objs.size<=T/\H T=none /\
 T≠X.env.locals/\(∀ x c,X.env.cells.lookup x=some c->c≠T)/\∀ p∈X.pn++b9,p.1≠T
structure Top(X:Cx):Prop where
 ex:X.ex=[]
 stk:X.stack=X.env::X.outer
 fr:X.env.frame=some X.env.locals
noncomputable def jC4(X:Cx)(G:St->XK):Prop:=∀ (b9:List (Addr×Obj)) (σ:St) (H:Hp) (s:Shared) (e:Value) (s':Shared),Inv X b9 σ H s->CXe X.prog X.w X.stack H s (G σ) e s'->X.xe e s'
noncomputable def jMP(X:Cx)(G:St->XK):Prop:=∀ (b9:List (Addr×Obj)) (σ:St) (H:Hp) (s:Shared) (ea C:Addr) (d:Option Addr),Inv X b9 σ H s->H ea=some (XO ea C d)->G σ (.ref C) (some ea) (upd H ea (XC ea C d))->X.xe (.ref ea) s
noncomputable abbrev G0:St->XK:=fun _ _ _ _=>False
theorem gA:jC4 X G0:=fun _ _ _ _ _ _ _ ⟨_,_,_,_,_,_,_,_,_,_,_,z⟩=>z.elim
section
variable {X:Cx}{b9:List (Addr×Obj)}{σ:St}{H H':Hp}{s s':Shared}{ea C:Addr}{d:Option Addr}{h':Heap}
theorem Inv.flew(I:Inv X b9 σ H s)(c:CXe X.prog X.w X.stack H s E e s'):∃ ea C d H',e=.ref ea/\Inv X b9 σ H' s'/\H' ea=some (XC ea C d)/\TrI X b9 H' ea s'.heap/\E (.ref C) (some ea) H':=by
 obtain⟨ea,C,d,H',rfl,ho,hb,un,ok,hx,⟨cl,d',vs,sl,T,g1,g2,g3,g4,g5⟩,q⟩:=c;refine⟨ea,C,d,H',rfl,I.call' ho un ok hb (fun b z=>absurd z (by simp)),hx,⟨cl,d',vs,sl,T,g1,g2,g3,eM I.sz g4,g5,fun z=>?_,fun x c hc z=>?_,fun p hp z=>?_⟩,q⟩
 ·have lt:=I.lt;rw [<- z] at lt;exact absurd (lt_of_lt_of_le lt g4) (gU _)
 ·obtain⟨v,o,q1,_⟩:=I.cell x c hc;have lt:=d0 q1;rw [z] at lt;exact absurd (lt_of_lt_of_le lt g4) (gU _)
 ·have lt:=d0 (I.pin p hp).1;rw [z] at lt;exact absurd (lt_of_lt_of_le lt g4) (gU _)
theorem Inv.noted(t:Top X)(I:Inv X b9 σ H s)(hx:H ea=some (XC ea C d)) 
 (ht:∀ T,off T->X.s₀.heap.objs.size<=T/\H T=none/\T≠X.env.locals/\(∀ x c,X.env.cells.lookup x=some c->c≠T)/\∀ p∈X.pn++b9,p.1≠T) (h1:∀ T U,off T->off U->T=U)
 (n:PySem.W.Noted ea (.ref C) d (X.env::X.outer |>.filterMap (·.frame)) off s.heap h'):Inv X b9 σ H { s with heap:=h' }/\TrI X b9 H ea h':=by
 have fr:∀ b,b∈(X.env::X.outer).filterMap (·.frame) ↔ b=X.env.locals\/b∈X.fs:=fun b=>by
  rw [kF,t.fr];exact dX
 have frn:∀ b,b∈(X.env::X.outer).filterMap (·.frame)->H b=none:=fun b hb=>I.stkFree b (by rw [t.stk];exact hb);obtain⟨vs,sl,T,oT,ts,x1,x2,x3,x4,x5,x6,x7⟩:=n.exc;have nea:∀ b,H b=none->b≠ea:=fun b hb z=>by rw [z,hx] at hb;cases hb
 obtain⟨ch,u5⟩:∃ ch:List Addr,(∀ b∈ch,off b)/\∀ b,off b->b∈ch:=by
  by_cases z:∃ T,off T
  ·obtain⟨T,hT⟩:=z;exact⟨[T],fun b hb=>by rw [mem_singleton.mp hb];exact hT,fun b hb=>by rw [h1 b T hb hT];exact mem_singleton.mpr rfl⟩
  ·exact⟨[],fun b hb=>absurd hb (by simp),fun b hb=>absurd ⟨b,hb⟩ z⟩
 have I':Inv X b9 σ H { s with heap:=h',gens:=s.gens,drawn:=s.drawn,toks:=s.toks }:=by
  refine I.step (ch:=ch) (fun b hb=>?_) (fun b o h1 h2 h3 q hn=>?_) (fun b o h1 h2 h3 q hn=>?_) (fun _ _ _ _ q=>q) (fun b o h3 q=>?_) (fun _ _ q=>q) (fun _ _ _ q=>q) (fun b ps q=>⟨#[],by rw [q];simp⟩) (fun m hm=>?_) (fun b u hb=>?_) I.bare
  ·obtain⟨a1,_,a3,a4,a5⟩:=ht b (u5.1 b hb);exact⟨.inr a1,a3,a4,a5⟩
  ·exact n.keep b o (nea b hn) (fun z=>h3 (u5.2 b z)) (fun z=>((fr b).mp z).elim h1 h2) q
  ·exact n.slot b o (nea b hn) (fun z=>h3 (u5.2 b z)) q
  ·by_cases z:b=ea
   ·rw [z];exact⟨_,x1⟩
   ·obtain⟨l,q1⟩:=n.slot b o z (fun z=>h3 (u5.2 b z)) q;exact⟨_,q1⟩
  ·obtain⟨o,es,ep,ho,r⟩:=hm;obtain⟨l,q1⟩:=n.slot _ o (nea _ I.free) (fun z=>(ht _ z).2.2.1 rfl) ho;exact⟨_,es,ep,q1,r⟩
  ·by_cases z:b=ea
   ·subst z;rw [hx] at hb;cases hb;obtain⟨vs0,sl0,g0,c0⟩:=jOz I.hok (.inr hx);exact xc_ok x1 ((n.ctx _ _ _ _ g0 x1 rfl rfl).trans c0)
   ·refine (I.hok b u hb).stay (fun c v hc q=>n.keep c v ?_ (fun z=>?_) (fun z=>?_) q) (fun _ q=>q) fun _ _ q=>q
    ·rcases hc with rfl|hc
     ·exact z
     ·intro z;rw [z,hx] at hc;cases hc
    ·have hn:=(ht c z).2.1;rcases hc with rfl|hc
     ·rw [hb] at hn;cases hn
     ·rw [hc] at hn;cases hn
    ·have hn:=frn c z;rcases hc with rfl|hc
     ·rw [hb] at hn;cases hn
     ·rw [hc] at hn;cases hn
 have lt:=I.lt;refine⟨I',.ref C,d,vs,sl,T,x1,x2,⟨x3,oT,ts,x5,x6,x7⟩,eM I.sz x4,I.hok.fresh x4,fun z=>?_,fun x c hc z=>?_,fun p hp z=>?_⟩
 ·rw [<- z] at lt;exact absurd (lt_of_lt_of_le lt x4) (gU _)
 ·obtain⟨v,o,q1,_⟩:=I.cell x c hc;have lt:=d0 q1;rw [z] at lt;exact absurd (lt_of_lt_of_le lt x4) (gU _)
 ·have lt:=d0 (I.pin p hp).1;rw [z] at lt;exact absurd (lt_of_lt_of_le lt x4) (gU _)
theorem jJT(t:Top X)(I:Inv X b9 σ H s)(hx:H ea=some (XC ea C d))(tr:TrI X b9 H ea s.heap) 
 (k:∀ s',Inv X b9 σ H s'->TrI X b9 H ea s'.heap->Q () s') :
 dM (dQ X.prog X.w) X.A (tT (.ref ea) X.env) (fun _ s1=>dM (dQ X.prog X.w) X.A (pU (.ref ea) none) Q E s1) E s:=by
 obtain⟨cl,d',vs,sl,T,g1,g2,g3,g4⟩:=tr;obtain⟨vs',sl',q⟩:=x_get I.hok (.inr hx);rw [g1] at q;cases q;refine PySem.W.note_fly (bh:=X.base) (off:=fun b=>b=T) (outer:=X.outer) (by rw [<- t.stk];exact I.ok.frames) (by rw [<- t.stk];exact I.stack) t.fr g1 (.inr ⟨T,g2,g3,rfl⟩) fun h' n=>?_;obtain⟨a,b⟩:=I.noted (off:=fun b=>b=T) t hx (fun U z=>(show U=T from z) ▸ g4) (fun _ _ p q=>p.trans q.symm) n;exact k _ a b
theorem jOE(t:Top X)(I:Inv X b9 σ H s)(hx:H ea=some (XO ea C d)) 
 (k:∀ s',Inv X b9 σ (upd H ea (XC ea C d)) s'->TrI X b9 (upd H ea (XC ea C d)) ea s'.heap->Q () s') :
 dM (dQ X.prog X.w) X.A (tT (.ref ea) X.env) (fun _ s1=>dM (dQ X.prog X.w) X.A (pU (.ref ea) none) Q E s1) E s:=by
 obtain⟨t0,g1⟩:=jGe I.hok hx;have I1:Inv X b9 σ (upd H ea (XC ea C d)) { s with heap:=s.heap,toks:=s.toks }:=I.write (x:=ea) (e:=ea) (by rw [hx];exact True.intro) (.inl rfl) (fun _ _ _ q=>q) ⟨_,g1⟩ (xc_ok g1 rfl);refine PySem.W.note_fly (bh:=X.base) (off:=fun _=>False) (outer:=X.outer) (by rw [<- t.stk];exact I.ok.frames) (by rw [<- t.stk];exact I.stack) t.fr g1 (.inl rfl) fun h' n=>?_;obtain⟨a,b⟩:=I1.noted t eO (fun _ z=>z.elim) (fun _ _ z=>z.elim) n;exact k _ a b
theorem TrI.tr(t:TrI X b9 H ea h'):TrX X.s₀.heap.objs.size H ea h':=let ⟨cl,d,vs,sl,T,a,b,c,e,f,_⟩:=t;⟨cl,d,vs,sl,T,a,b,c,e,f⟩
end
section
variable {P:Program}{w:World}{K:PySem.W.Frag}{mg:Str->Option Value}{base:Heap}{N ps:List Str}{qual x:Str}{scope:Scope}{f:Addr}{cd:Value}{A:Around}{outer:List Env}{s:Shared}{H:Hp}{E:XK}{k:Nat}
noncomputable abbrev cxE(P:Program)(w:World)(K:PySem.W.Frag)(mg:Str->Option Value)(base:Heap)(N:List Str)(qual:Str)(scope:Scope)(f:Addr)(cd:Value)(A:Around)(outer:List Env)(s:Shared)(H:Hp)(E:XK):Cx :=
 jFo (CXe P w) P w K mg base N qual scope f cd A outer s H E
theorem jMQ:Top (cxE P w K mg base N qual scope f cd A outer s H E):=⟨rfl,rfl,rfl⟩
theorem jDn:jC4 (cxE P w K mg base N qual scope f cd A outer s H E) (fun _=>E):=by
 intro b9 σ H1 s1 e s2 I c;obtain⟨ea,C,d,H2,rfl,I2,hx,tr,q⟩:=I.flew c;show dM _ _ («leaving» _ _) _ _ _;unfold «leaving»;refine c8 (jJT jMQ I2 hx tr fun s3 I3 t3=>?_);exact⟨ea,C,d,H2,rfl,I3.os,I3.bare,I3.base,I3.hok,hx,t3.tr,q⟩
theorem jOF:jMP (cxE P w K mg base N qual scope f cd A outer s H E) (fun _=>E):=by
 intro b9 σ H1 s1 ea C d I hx q;show dM _ _ («leaving» _ _) _ _ _;unfold «leaving»;refine c8 (jOE jMQ I hx fun s3 I3 t3=>?_);exact⟨ea,C,d,_,rfl,I3.os,I3.bare,I3.base,I3.hok,eO,t3.tr,q⟩
theorem Fun.okE{st:Stmt}{fd:FuncData}{sp:Sp}(F:Fun K x qual st f fd)(S:jCt N ps (rH st))
 (oB:∀ (lC:Value) (A:Around) (outer:List Env) (s:Shared) (H:Hp) (vs:List V) (Q:VK) (E:XK),kX k (A.deeper (oF qual (rH st) s.heap.objs.size f lC))->sp vs H Q E ->
  ∃ t,PSs (cxE P w K mg base N qual (rH st) f lC A outer s H E) (wR st) t/\t { nx:=fun _ H'=>Q .non H',rt:=Q } (start N vs) H) (len:∀ vs H Q E,sp vs H Q E->vs.length=ps.length:=by intro _ _ _ _ h;cases h;subst_vars;rfl):m8 P w K mg base (CXe P w) (k+1) f fd ps sp:=by
 obtain⟨oc,od,kV,pC,pm,an,lC,ct,uJ,rfl,lk,pA⟩:=F.ex;exact fn_of lk pA S len fun A outer s H vs Q E hr x0=>oB lC A outer s H vs Q E hr x0
theorem m8.lift{fd:FuncData}(F:m8 P w K mg base CX0 k f fd ps sp):m8 P w K mg base CX k f fd ps sp :=
 ⟨F.len,fun A outer s H args us vs Q E hr e0 hb r h=>iB (F.run A outer s H args us vs Q E hr e0 hb r h) fun r s' q=>match r,q with
  | .ok (.ret _),q=>q
  | .ok .next,q=>q
  | .ok .brk,q=>q
  | .ok .cont,q=>q
  | .error _,q=>False.elim q⟩
structure MtE(P:Program)(w:World)(K:PySem.W.Frag)(mg:Str->Option Value)(base:Heap)(k:Nat)(m:Str)(C:Addr)(ps:List Str)(sp:Sp):Prop where
 ex:∃ f fd,Meth K C m f/\m8 P w K mg base (CXe P w) k f fd ps sp/\qK K fd ps []
end
inductive jMR(P:Program)(w:World)(K:PySem.W.Frag)(mg:Str->Option Value)(base:Heap)(k:Nat)(m:Str)(G:St->XK)(t:TA)(σ:St)(Q:VK)(x:V)(H1:Hp):Prop|mk a C dx fs ps sp:x=.ref a->H1 a=some (.ins C dx fs)->fs.lookup m=none->Cls K C->MtE P w K mg base k m C ps sp->(t σ H1 fun vs H2=>sp (x::vs) H2 Q (G σ))->jMR P w K mg base k m G t σ Q x H1
noncomputable def jIj(P:Program)(w:World)(K:PySem.W.Frag)(mg:Str->Option Value)(base:Heap)(k:Nat)(m:Str)(G:St->XK)(ta:TE)(t:TA):TE:=fun σ H Q=>ta σ H fun x H1=>jMR P w K mg base k m G t σ Q x H1
section
variable {X:Cx}{k:Nat}{ps:List Str}{sp:Sp}{G:St->XK}{x m:Str}{p pos hZ:Pos}{e o:Expr}{es:List Expr}{ta:TE}{t:TA}
theorem jMS{fd:FuncData}(F:m8 X.prog X.w X.K X.mg X.base (CXe X.prog X.w) k f fd ps sp)(hr:kX k X.A)(hb:qK X.K fd ps [])(hx:jC4 X G) 
 (I:Inv X b9 σ H s) (r:iH vs us) (h:sp vs H Q (G σ)):dM (dQ X.prog X.w) X.A (call (.ref f) us) (EP X b9 σ Q) X.xe s:=by
 have hl:us.length=ps.length:=by rw [<- r.length];exact F.len _ _ _ _ h
 have rJ:=hb s us I.kIn (by rw [gQ];exact hl);rw [gQ] at rJ;refine kW (iB (F.run X.A X.stack s H ⟨us,[]⟩ us vs Q (G σ) hr I.env0 rJ r h) fun r s' hq=>?_);cases r with
 | error e=>exact hx b9 σ H s e s' I hq
 | ok fl =>
   cases fl with
   | ret u=>exact I.after hq
   | next=>exact False.elim hq
   | brk=>exact False.elim hq
   | cont=>exact False.elim hq
theorem iX(k:Nat)(hx:jC4 X G)(hr:kX k X.A)(he:PE X o ta)(ha:PA X (e::es) t) 
 (uW:dO (e::es) X.env=(false,fA e X.env)::dO es X.env:=by rfl) (nR:(gH pos (dO es X.env)).any (·.1)=false:=by rfl)
 (ht:fA (.Call (.Attribute o m hZ) (e::es) [] pos) X.env=(do
  let ov <- fA o X.env
  kY hZ.atName
  let (f,first) <- jW [ov] (l4 ov m pl)
  kN pos f first (gH pos (dO (e::es) X.env)) (iA pos (fM [] X.env))):=by rfl) :
 PE X (.Call (.Attribute o m hZ) (e::es) [] pos) (jIj X.prog X.w X.K X.mg X.base k m G ta t):=by
 intro b9 s σ H Q I h;refine kR (pl:=pl) (thn (he b9 s σ H _ I h) fun u s1 ⟨x,H1,I1,rx,a,C,dx,fs,ps,sp,ex,ea,l,c,D,q⟩=>?_) ht;subst ex;obtain rfl:u=Value.ref a:=rx;obtain⟨f,fd,hm,F,b⟩:=D.ex;refine jH9 I1 ea c hm l ?_;refine lW (first:=[.ref a]) (h₀:=X.base) I.ok.mod.kin hm.kp (thn (ha pos b9 s1 σ H1 _ I1 q) fun us s2 ⟨vs,H2,I2,r,q2⟩=>⟨I2.kIn,?_⟩) uW nR;exact jMS (us:=.ref a::us) (vs:=.ref a::vs) F hr b hx I2 (.cons rfl r) q2
theorem kT(k:Nat)(hx:jC4 X G)(hr:kX k X.A)(he:PE X o ta) 
 (ht:fA (.Call (.Attribute o m hZ) [] [] pos) X.env=(do
  let ov <- fA o X.env
  kY hZ.atName
  let (f,first) <- jW [ov] (l4 ov m pl)
  kN pos f first (gH pos (dO [] X.env)) (iA pos (fM [] X.env))):=by rfl) :
 PE X (.Call (.Attribute o m hZ) [] [] pos) (jIj X.prog X.w X.K X.mg X.base k m G ta tNil):=by
 intro b9 s σ H Q I h;refine kR (pl:=pl) (thn (he b9 s σ H _ I h) fun u s1 ⟨x,H1,I1,rx,a,C,dx,fs,ps,sp,ex,ea,l,c,D,q⟩=>?_) ht;subst ex;obtain rfl:u=Value.ref a:=rx;obtain⟨f,fd,hm,F,b⟩:=D.ex;refine jH9 I1 ea c hm l ?_;exact sY (first:=[.ref a]) I1.kIn hm.kp (jMS (us:=[.ref a]) (vs:=[.ref a]) F hr b hx I1 (.cons rfl .nil) q)
end
end L2
namespace PySem.W
open PySem PyProof.Rows PySem.Spec PySem.Calls
noncomputable def mroHas(K:Frag)(C:Addr)(c:Value):Bool:=match K.lookup C with
 | some ⟨_,_,.cls cd,_⟩=>cd.mro.contains c
 | _=>false
theorem jJc{K:Frag}{h:Heap}{C:Addr}(X:K.In h)(q:excMk K C=true):∃ uG,ExcAt h C uG/\OwnTail h jDY uG/\∀ c,mroHas K C c=(Value.ref C::uG).contains c:=by
 obtain⟨uG,hE,T⟩:=jGc X q;refine⟨uG,hE,T,fun c=>?_⟩;unfold mroHas;cases hk:K.lookup C with
 | none =>
   unfold excMk at q;rw [hk] at q;cases q
 | some o =>
   obtain⟨N,nm,q,bs,wX,sn,sub,ab,col,dd,q0,q1,q2,q3,q5,hCl⟩:=hE;have z:=X _ _ hk;rw [hCl] at z;cases z;rfl
section
variable {M:Model}{A:Around}{E:Value->Shared->Prop}{env:Env}{K:Frag}
theorem exc_match{h:Heap}{g:Array GenState}{d:Drawn}{t:Nat}{os:OsState}{e C D:Addr}{oe:Obj}{Q:Bool->Shared->Prop}(X:K.In h)(qC:excMk K C=true)(qD:excMk K D=true)(he:h.get? e=some oe)(hc:oe.cls=.ref C)
 (hq:Q (mroHas K C (.ref D)) ⟨h,g,d,t,os⟩):dM M A (excMatches (.ref e) (.ref D)) Q E ⟨h,g,d,t,os⟩:=by
 obtain⟨tl,⟨N,nm,q,bs,wX,sn,sub,ab,col,dd,q0,q1,q2,q3,q5,hC⟩,_,mh⟩:=jJc X qC;obtain⟨tl',⟨N',nm',q',bs',hdct',sn',sub',ab',col',xB,q0',q1',q2',q3',q5',hD⟩,T,_⟩:=jJc X qD;have hB:(Value.ref D::tl').contains (.type "BaseException")=true:=by
  rw [mN,T.hasType (show jDY.contains (.type "BaseException")=true from by decide +kernel),Bool.or_true]
 rw [mh] at hq;have f:=tc_notTuple;unfold excMatches
 repeat (first|(with_reducible refine jG he ?_;rw [hc])|with_reducible refine jG hD ?_|(with_reducible refine lQ hD ?_;rw [hB])|with_reducible refine lQ hC ?_|wp_step)
 all_goals (cases hb:(Value.ref C::tl).contains (.ref D)<;>(rw [hb] at hq;wp_walk;exact hq))
theorem raise_X{s:Shared}{x:Sem Value}{Q:Flow->Shared->Prop}(hh:A.handled=none)
 (h:dM M A x (fun v s1=>∃ e C d t0,v=.ref e/\K.In s1.heap/\excMk K C=true/\s1.heap.get? e=some ⟨.ref C,d,.fields #[.ref t0,.none,.none,.none,.bool false,.none],#[]⟩/\E (.ref e) s1) E s) :
 dM M A (raiseStmt env (some x) none) Q E s := by  -- raised here
 unfold raiseStmt;refine c8 (e8 h (fun v s1 h1=>?_) fun _ _ x=>x);obtain⟨e,C,d,t0,rfl,X,qC,he,hE⟩:=h1;obtain⟨tl,⟨N,nm,q,bs,wX,sn,sub,ab,col,dd,q0,q1,q2,q3,q5,hC⟩,T,_⟩:=jJc X qC;have hB:(Value.ref C::tl).contains (.type "BaseException")=true:=by
  rw [mN,T.hasType (show jDY.contains (.type "BaseException")=true from by decide +kernel),Bool.or_true]
 obtain⟨hp,g,d',tk,os⟩:=s1
 repeat (first|with_reducible refine jG he ?_|with_reducible refine jG hC ?_|(with_reducible refine lQ hC ?_;rw [hB])|wp_step)
 exact (wpAny_raiseNew_none hh hE)
end
end PySem.W
namespace L2
open PySem PyProof.Rows PySem.Spec PySem.Calls
inductive jJd(K:PySem.W.Frag)(G:St->XK)(σ:St)(v:V)(H1:Hp):Prop|mk ea C d:v=.ref ea->H1 ea=some (XO ea C d)->PySem.W.excMk K C=true->G σ (.ref C) (some ea) (upd H1 ea (XC ea C d))->jJd K G σ v H1
noncomputable def tRaise(K:PySem.W.Frag)(G:St->XK)(te:TE):TS:=fun _ σ H=>te σ H fun v H1=>jJd K G σ v H1
noncomputable abbrev Cx.caught(X:Cx)(ea:Addr):Cx:={ X with A:=X.A.mark (some (.ref ea)),calm:=false,xe:=fun _ _=>False }
noncomputable abbrev Cx.inTry(X:Cx)(ps:List (Addr×Obj))(xe:Value->Shared->Prop):Cx:={ X with pn:=X.pn++ps,xe:=xe }
section
variable {X:Cx}{b9:List (Addr×Obj)}{σ:St}{H:Hp}{s:Shared}{ea:Addr}
theorem jPM(hR:jMP X G)(hc:X.calm=true)(he:PE X e te):PS X (.Raise (some e) none pos) (tRaise X.K G te):=by
 intro b9 s σ H D I h;show dM _ _ (do kY pos;raiseStmt X.env (some (do let v <- fA e X.env;kY pos;pure v)) none) _ _ s;refine c8 (iT (PySem.W.raise_X (K:=X.K) (I.ok.hd hc) (c8 (thn (he b9 s σ H _ I h) fun v s1 ⟨x,H1,I1,rx,ea,C,d,ex,hx,mk,q⟩=>c8 (iT (dP ?_))))));subst ex;obtain rfl:v=Value.ref ea:=rx;obtain⟨t0,g1⟩:=jGe I1.hok hx;exact⟨ea,C,d,t0,rfl,I1.kIn,mk,g1,hR b9 σ H1 s1 ea C d I1 hx q⟩
theorem Cx.Ok.caught(ok:X.Ok):(X.caught ea).Ok :=
 ⟨ok.mod,ok.kind,ok.glob,ok.blt,ok.above,ok.inj,ok.has,ok.cab,(fun z=>nomatch z),ok.frames,ok.stk,ok.exf,ok.bs,ok.bsz,ok.noex,ok.exfs,ok.funs,ok.frf⟩
theorem Inv.caught(I:Inv X b9 σ H s):Inv (X.caught ea) b9 σ H s:=⟨I.ok.caught,I.os,I.bare,I.base,I.loc,I.cell,I.free,I.freeC,I.pin,I.hok,I.len⟩
theorem Inv.uncaught(o:X.Ok)(I:Inv (X.caught ea) b9 σ H s):Inv X b9 σ H s:=⟨o,I.os,I.bare,I.base,I.loc,I.cell,I.free,I.freeC,I.pin,I.hok,I.len⟩
theorem Cx.Ok.inTry{ps:List (Addr×Obj)}{xe:Value->Shared->Prop}(ok:X.Ok):(X.inTry ps xe).Ok :=
 ⟨ok.mod,ok.kind,ok.glob,ok.blt,ok.above,ok.inj,ok.has,ok.cab,ok.hd,ok.frames,ok.stk,ok.exf,ok.bs,ok.bsz,ok.noex,ok.exfs,ok.funs,ok.frf⟩
theorem Inv.inTry(I:Inv X b9 σ H s):Inv (X.inTry b9 xe) [] σ H s:=⟨I.ok.inTry,I.os,I.bare,I.base,I.loc,I.cell,I.free,I.freeC,fun p hp=>I.pin p (by rw [<- gQ (X.pn++b9)];exact hp),I.hok,I.len⟩
theorem Inv.outTry(o:X.Ok)(I:Inv (X.inTry ps xe) b9 σ H s):Inv X ps σ H s:=⟨o,I.os,I.bare,I.base,I.loc,I.cell,I.free,I.freeC,fun p hp=>I.pin p (eS _ hp),I.hok,I.len⟩
theorem SP.outTry(o:X.Ok)(h:SP (X.inTry ps xe) b9 D f s'):SP X ps D f s':=by
 cases f with
 | next=>obtain⟨σ',H',I,q⟩:=h;exact⟨σ',H',I.outTry o,q⟩
 | brk=>obtain⟨σ',H',I,q⟩:=h;exact⟨σ',H',I.outTry o,q⟩
 | cont=>obtain⟨σ',H',I,q⟩:=h;exact⟨σ',H',I.outTry o,q⟩
 | ret u=>obtain⟨v,σ',H',I,r,q⟩:=h;exact⟨v,σ',H',I.outTry o,r,q⟩
end
noncomputable abbrev TH:=sQ->St->Hp->Addr->Addr->Prop
noncomputable def PH(X:Cx)(hs:List ExceptHandler)(t:TH):Prop:=∀ (b9:List (Addr×Obj)) (s:Shared) (σ:St) (H:Hp) (D:sQ) (ea C:Addr) (d:Option Addr),Inv X b9 σ H s->H ea=some (XC ea C d)->TrI X b9 H ea s.heap->t D σ H C ea ->
 dM (dQ X.prog X.w) X.A (handleBy (.ref ea) X.env hs) (SP X b9 D) X.xe s
noncomputable def tNoH:TH:=fun _ _ _ _ _=>False
noncomputable def sQ.less(D:sQ)(i:Nat):sQ:={ nx:=fun σ H=>D.nx (σ.set i none) H,rt:=D.rt,bk:=fun σ H=>D.bk (σ.set i none) H,ct:=fun σ H=>D.ct (σ.set i none) H }
noncomputable def tTry(tb:(St->XK)->TS)(th:TH):TS:=fun D σ H=>tb (fun σ' c oa H'=>∃ C ea,c=.ref C/\oa=some ea/\th D σ' H' C ea) D σ H
section
variable {X:Cx}
theorem ph_nil:PH X [] tNoH:=fun _ _ _ _ _ _ _ _ _ _ _ h=>h.elim
theorem ps_try(t:Top X) 
 (hb:∀ (ps:List (Addr×Obj)) (xe:Value->Shared->Prop) (G:St->XK),jC4 (X.inTry ps xe) G->PassesOwn (dQ X.prog X.w) X.A X.env xe->PSs (X.inTry ps xe) body (tb G))
 (hh:PH X (h₀::hs) th):PS X (.Try body (h₀::hs) [] [] pos) (tTry tb th):=by
 intro b9 s σ H D I h;have o:=I.ok;refine wpAny_Try_except (thn (hb b9 _ _ ?_ PassesOwn.looking [] s σ H D I.inTry h) fun f s1 q=>?_)
 ·intro ps2 σ2 H2 s2 e s3 I2 c;obtain⟨ea,C,d,H3,rfl,I3,hx,tr,C',ea',e1,e2,q⟩:=I2.flew c;cases e1;cases e2;have tr':TrI X b9 H3 ea s3.heap:=let ⟨a1,a2,a3,a4,a5,b1,b2,b3,b4,b5,b6,b7,b8⟩:=tr;⟨a1,a2,a3,a4,a5,b1,b2,b3,b4,b5,b6,b7,fun p hp=>b8 p (eS _ hp)⟩;exact jJT t (I3.outTry o) hx tr' fun s4 I4 t4=>hh b9 s4 σ2 H3 D ea C d I4 hx t4 q
 ·have q':=q.outTry o;cases f with
  | next=>exact lM q'
  | brk=>exact q'
  | cont=>exact q'
  | ret u=>exact q'
end
noncomputable def XG(H:Hp)(e C:Addr)(fs:List (Str×V)):Prop:=∃ dx,IsX H e C (some dx)/\H dx=some (XD dx fs)/\dx≠e
theorem XF.raised(x:XF H e C fs):∃ dx,H e=some (XO e C (some dx))/\XG (L2.upd H e (XC e C (some dx))) e C fs :=
 let ⟨d,a,b,c⟩:=x
 ⟨d,a,d,.inr eO,by rw [eJ c];exact b,c⟩
section
variable {X:Cx}{e o:Expr}{es:List Expr}{f x:Str}{p pos hZ:Pos}{ta:TE}{t:TA}{k:Nat}{ps:List Str}{sp:Sp}
structure InO(K:PySem.W.Frag)(B f:Addr):Prop where
 sp:jN K (.ref B) "__getattribute__"=some (some (.builtin "type.__getattribute__"))
 rd:tQ K B (.type "type")=true
 fc:uC K (.ref B) (.type "type") "__init__"=some (.val (.ref f))
structure InD(P:Program)(w:World)(K:PySem.W.Frag)(mg:Str->Option Value)(base:Heap)(k:Nat)(x:Str)(B:Addr)(ps:List Str)(sp:Sp):Prop where
 ex:∃ f fd,InO K B f/\m8 P w K mg base CX0 k f fd ps sp/\qK K fd ps []/\jT K (.ref f)=true/\mg x=some (.ref B)
theorem jK2(D:InD X.prog X.w X.K X.mg X.base k x B ps sp)(hr:kX k X.A)(hg:Gl X x)(ha:PA X (e::es) t)(qR:(x==("__debug__":Str))=false:=by decide) 
 (uW:dO (e::es) X.env=(false,fA e X.env)::dO es X.env:=by rfl) (nR:(gH pos (dO es X.env)).any (·.1)=false:=by rfl)
 (ht:fA (.Call (.Attribute (.Name x p) "__init__" hZ) (e::es) [] pos) X.env=(do
  let ov <- fA (.Name x p) X.env
  kY hZ.atName
  let (f,first) <- jW [ov] (l4 ov "__init__" pl)
  kN pos f first (gH pos (dO (e::es) X.env)) (iA pos (fM [] X.env))):=by rfl) :
 PE X (.Call (.Attribute (.Name x p) "__init__" hZ) (e::es) [] pos) (tCall sp [] E0 t):=by
 intro b9 s σ H Q I h;obtain⟨f,fd,J,F,b,kp,hm⟩:=D.ex;refine kR (pl:=pl) (jC0 I hg hm ?_ qR) ht;refine uL I.kIn J.sp (xD I.kIn J.rd J.fc rfl ?_);refine lW (first:=[]) (h₀:=X.base) I.ok.mod.kin kp (thn (ha pos b9 _ σ H _ (I.tok (s.toks+1)) h) fun us s1 ⟨vs,H1,I1,r,q⟩=>⟨I1.kIn,?_⟩) uW nR;exact jOi F hr b .nil jIc I1 r q
theorem jDF(D:MkD X.prog X.w X.K X.mg X.base k x C ps sp)(hr:kX (k+1) X.A)(hg:Gl X x)(qR:(x==("__debug__":Str))=false:=by decide):PE X (.Call (.Name x p) [] [] pos) (jKv C sp [] E0 tNil):=by
 obtain⟨f,fd,M,F,b,m⟩:=D.ex;exact jPw M F hr hg m b .nil jIc qR
end
section
variable {P:Program}{w:World}{K:PySem.W.Frag}{mg:Str->Option Value}{base:Heap}{j k:Nat}{x m:Str}{C:Addr}{ps:List Str}{sp:Sp}
end
theorem top_nox{CX:CXT}{P:Program}{w:World}{K:PySem.W.Frag}{mg:Str->Option Value}{base:Heap}{N:List Str}{qual:Str}{scope:Scope}{f:Addr}{cd:Value}{A:Around}{outer:List Env}{s:Shared}{H:Hp}{E:XK} :
 Top (jFo CX P w K mg base N qual scope f cd A outer s H E).nox:=⟨rfl,rfl,rfl⟩
section
variable {X:Cx}{P:Program}{w:World}{K:PySem.W.Frag}{mg:Str->Option Value}{base:Heap}{G:St->XK}{m:Str}{pos hZ:Pos}{e o:Expr}{es:List Expr}{ta:TE}{t:TA}
theorem jCh(q:X.prog=P/\X.w=w/\X.K=K/\X.mg=mg/\X.base=base)(k:Nat)(hx:jC4 X G)(hr:kX k X.A)(he:PE X o ta)(ha:PA X (e::es) t) 
 (uW:dO (e::es) X.env=(false,fA e X.env)::dO es X.env:=by rfl) (nR:(gH pos (dO es X.env)).any (·.1)=false:=by rfl)
 (ht:fA (.Call (.Attribute o m hZ) (e::es) [] pos) X.env=(do
  let ov <- fA o X.env
  kY hZ.atName
  let (f,first) <- jW [ov] (l4 ov m pl)
  kN pos f first (gH pos (dO (e::es) X.env)) (iA pos (fM [] X.env))):=by rfl) :
 PE X (.Call (.Attribute o m hZ) (e::es) [] pos) (jIj P w K mg base k m G ta t):=by
 obtain⟨rfl,rfl,rfl,rfl,rfl⟩:=q;exact iX (pl:=pl) k hx hr he ha uW nR ht
theorem jNo(q:X.prog=P/\X.w=w/\X.K=K/\X.mg=mg/\X.base=base)(k:Nat)(hx:jC4 X G)(hr:kX k X.A)(he:PE X o ta) 
 (ht:fA (.Call (.Attribute o m hZ) [] [] pos) X.env=(do
  let ov <- fA o X.env
  kY hZ.atName
  let (f,first) <- jW [ov] (l4 ov m pl)
  kN pos f first (gH pos (dO [] X.env)) (iA pos (fM [] X.env))):=by rfl) :
 PE X (.Call (.Attribute o m hZ) [] [] pos) (jIj P w K mg base k m G ta tNil):=by
 obtain⟨rfl,rfl,rfl,rfl,rfl⟩:=q;exact kT (pl:=pl) k hx hr he ht
end
section
variable {X:Cx}{K:PySem.W.Frag}{e:Expr}{f:Str}{pos:Pos}{ta:TE}
end
open PySem PySem.Spec PyProof.Rows
noncomputable def Its(lo d:Int)(n:Nat):It:=⟨fun i _=>i<n,fun i H x H'=>H'=H/\x=.int (lo+i*d),fun i _=>n<=i⟩
theorem jLU{P:Program}{w:World}{K:PySem.W.Frag}{tg:Expr}(it:Addr)(lo d:Int)(n:Nat):xT P w K tg (Its lo d n) [it] it (fun i h=>IsRangeIter h it (lo+(i:Nat)*d) ((n:Int)-(i:Nat)) d) where
 mem:=by simp
 obj:=fun i h st b hb=>by
  have e:b=it:=by simpa using hb
  subst e;exact⟨_,st,fun v z=>nomatch (show Data.fields _=Data.cell v from z)⟩
 keep:=fun i h h' st k=>k it (by simp) _ st
 item:=by
  intro X hP hw hK hc i b9 s σ H E I hf st hg;subst hP hw hK;obtain⟨f0,f1,f2,f3,f4,f5⟩:=hf it (by simp);have W:=Walks.range (prog:=X.prog) (w:=X.w) (I.ok.hd hc) it lo d n;refine W.item i s _ _ hg st fun v h' tk hv pL kk=>?_;obtain⟨t,rfl⟩:=hv;have I1:Inv X b9 σ H { s with heap:=h',toks:=tk }:=I.turned (fun b o hb e=>kk b o (by simpa using hb) e) f0 f1 f3 f4 f5;exact⟨_,rfl,jFn (s:={ s with heap:=h',toks:=tk }) (n:="range_iterator") pL rfl rfl (by decide) ⟨.int (lo+i*d),H,I1,⟨t,rfl⟩,⟨rfl,rfl⟩,pL,fun b hb=>(hf b hb).1⟩⟩
 done:=by
  intro X hP hw hK hc i b9 s σ H E I hf st hg;subst hP hw hK;obtain⟨f0,f1,f2,f3,f4,f5⟩:=hf it (by simp);exact zX (I.ok.hd hc) st (by have:n<=i:=hg;omega) fun h' eb=>⟨rfl,I.turned (t':=s.toks) (fun b o hb e=>eb b o hb e) f0 f1 f3 f4 f5⟩
 self:=fun _ _ _ _ _ st h=>zZ st h
theorem jNp(lo d:Int)(n:Nat)(H1:Hp):Seq (Its lo d n) H1 ((range n).map fun i=>V.int (lo+(i:Nat)*d)) where
 go:=fun i H _ hi=>by
  rw [c7,fD] at hi;exact hi
 yld:=fun i H x H' _ hi y=>by
  obtain⟨e,hx⟩:=y;exists e;rw [c7,fD] at hi;rw [getElem?_map,List.getElem?_range hi,hx];rfl
 stop:=fun H _=>by
  show n<=_;rw [c7,fD];exact Nat.le_refl _
theorem jNq(ha:-(2^60)<=a)(ha':a<2^60)(hb:-(2^60)<=b)(hb':b<2^60)(hd:0<d)(hd':d<2^29):Builtin.Range.small a b d=true:=by
 unfold Builtin.Range.small Builtin.Range.rangeSize;simp only [Builtin.Range.rangeFitsLong,eK,pV,decide_eq_true_eq,beq_iff_eq,show d > 0 from hd,if_true];by_cases h:a<b
 ·have h1:(b-a-1)/d<=b-a-1:=Int.ediv_le_self _ (by omega);have h2:0<=(b-a-1)/d:=mI (by omega) (by omega);have h3:d*((b-a-1)/d)<=b-a-1:=Int.mul_ediv_self_le (by omega);simp only [if_pos h];omega
 ·simp only [if_neg h];omega
section
variable {X:Cx}{tg:Expr}
theorem jOG{b9:List (Addr×Obj)}{σ:St}{H:Hp}{s:Shared}{R:It->Hp->Prop}{E:Value->Shared->Prop}{lo hi d:Int}{t u v:Tok}{tk:Nat}(I:Inv X b9 σ H s)(hs:Builtin.Range.small lo hi d=true)(h0:0<=Builtin.Range.rangeSize lo hi d)
 (q:R (Its lo d (Builtin.Range.rangeSize lo hi d).toNat) H):dM (dQ X.prog X.w) X.A (pyIter (.ref s.heap.objs.size)) (PIE X b9 σ tg R) E { s with heap:=s.heap.push { cls:=.type "range",data:=.fields #[.int lo t,.int hi u,.int d v] },toks:=tk }:=by
 refine wpAny_pyIter_range (IsRange.new ..) hs ?_;have I1:Inv X b9 σ H { s with heap:=s.heap.push { cls:=.type "range",data:=.fields #[.int lo t,.int hi u,.int d v] },toks:=tk }:=I.kept fun b o e=>get?_push_of_some _ e
 refine⟨(s.heap.push { cls:=.type "range",data:=.fields #[.int lo t,.int hi u,.int d v] }).objs.size,[(s.heap.push { cls:=.type "range",data:=.fields #[.int lo t,.int hi u,.int d v] }).objs.size],_,_,H,rfl,
  I1.kept (t':=tk) fun b o e=>get?_push_of_some _ e,jLU _ lo d _,?_,fun b hb=>?_,q⟩
 ·have e1:lo+((0:Nat):Int)*d=lo:=by simp
  have e2:(((Builtin.Range.rangeSize lo hi d).toNat:Nat):Int)-((0:Nat):Int)=Builtin.Range.rangeSize lo hi d:=by omega
  show IsRangeIter _ _ (lo+((0:Nat):Int)*d) ((((Builtin.Range.rangeSize lo hi d).toNat:Nat):Int)-((0:Nat):Int)) d;rw [e1,e2];exact (get?_push_size _ rfl)
 ·have e:b=(s.heap.push { cls:=.type "range",data:=.fields #[.int lo t,.int hi u,.int d v] }).objs.size:=by simpa using hb
  subst e;exact I1.fpOk (Nat.le_refl _) (I1.hok.fresh (Nat.le_refl _))
noncomputable def iRng3(ta:TA):TI:=fun σ H R=>ta σ H fun vs H1=>∃ i j d:Int,vs=[.int i,.int j,.int d]/\(-(2^60)<=i/\i<2^60/\-(2^60)<=j/\j<2^60/\0<d/\d<2^29)/\R (Its i d (if i<j then (j-i-1)/d+1 else 0).toNat) H1
theorem jOH(hg:Gl X "range")(hm:X.mg "range"=none)(ha:PA X [a,b,c] ta)(hs:dO [a,b,c] X.env=[(false,fA a X.env),(false,fA b X.env),(false,fA c X.env)]:=by rfl)(vY:dO [b,c] X.env=[(false,fA b X.env),(false,fA c X.env)]:=by rfl) :
 PI X tg (.Call (.Name "range" p) [a,b,c] [] pos) (iRng3 ta):=by
 intro b9 s σ H R I h;refine Call_ (y7 I hg hm xF (PyProof.Rows.callWith_type1 (thn (ha pos b9 s σ H _ I h) fun us s1 ⟨vs,H1,I1,r1,q1⟩=>?_) (by rw [hs,vY]) (by rw [vY];rfl)));obtain⟨i,j,d,e,⟨q1,q2,q3,q4,q5,q6⟩,q⟩:=q1;subst e;obtain⟨u1,u2,u3,rfl,x1,x2,x3⟩:∃ u1 u2 u3,us=[u1,u2,u3]/\g9 (.int i) u1/\g9 (.int j) u2/\g9 (.int d) u3:=by
  cases r1 with
  | cons x1 rr =>
    cases rr with
    | cons x2 rr =>
      cases rr with
      | cons x3 rr =>
        cases rr;exact⟨_,_,_,rfl,x1,x2,x3⟩
 obtain⟨t1,rfl⟩:=x1;obtain⟨t2,rfl⟩:=x2;obtain⟨t3,rfl⟩:=x3;have er:Builtin.Range.rangeSize i j d=if i<j then (j-i-1)/d+1 else 0:=by
  unfold Builtin.Range.rangeSize;rw [if_pos (show d > 0 from q5)]
 refine call_range_3 (by omega) (jOG I1 (jNq q1 q2 q3 q4 q5 q6) ?_ (by rw [er];exact q)) (Or.inl (oN (by omega)));rw [er];split
 ·have:=mI (a:=j-i-1) (b:=d) (by omega) (by omega);omega
 ·exact Int.le_refl _
end
noncomputable def New(H H':Hp)(G:Hp->Prop):Prop:=∃ S:Addr->Prop,(∀ b,S b->H b=none/\∃ o,H' b=some o)/\∀ H3,(∀ b,S b->H3 b=H' b)->G H3
theorem jCk(S:Seq J H1 xs)(G:V->V->Hp->Prop)(hz:xs.length<dL) 
 (hc:∀ x∈xs,∀ (H':Hp) (R:Bool->Hp->Prop),eR H1 H'->R true H'->tc (σf (some x)) H' R)
 (he:∀ x∈xs,∀ (H':Hp) (R:VK),eR H1 H'->(∀ y H'',eR H' H''->New H' H'' (G x y)->R y H'')->te (σf (some x)) H' R)
 (q:∀ D H' ys,eR H1 H'->H1 D=none->H' D=some (.lst ys)->ys.length=xs.length->(∀ (i:Nat) x y,xs[i]?=some x->ys[i]?=some y->G x y H')->Q (.ref D) H'):jIg J tc te σf H1 Q:=by
 intro D hD
 refine⟨fun i m ys H2=>m=xs.length-i/\i<=xs.length/\eR H1 H2/\H2 D=some (.lst ys)/\ys.length=i/\∀ (k:Nat) x y,xs[k]?=some x->ys[k]?=some y->∃ Z:Addr->Prop,(∀ b,Z b->b≠D/\∃ o,H2 b=some o)/\∀ H3,(∀ b,Z b->H3 b=H2 b)->G x y H3,
  ⟨xs.length,rfl,d9 _,iS hD _,eO,rfl,fun k x y _ e=>by simp at e⟩,?_⟩
 rintro i m ys H2 ⟨rfl,hi,sm,nB,hl,hg⟩;exists nB;by_cases j2:i<xs.length
 ·refine .inr ⟨S.go i H2 sm j2,by omega,fun x H3 y=>?_⟩;obtain⟨e,hx⟩:=S.yld i H2 x H3 sm j2 y;subst e;have mem:x∈xs:=mem_of_getElem? hx;refine hc x mem _ _ sm (kL (he x mem _ _ sm fun yv H5 s5 ny=>⟨s5 _ _ nB,xs.length-(i+1),by omega,rfl,j2,tY hD (sm.trans s5) _,eO,by rw [length_append,hl];rfl,fun k x' y' ex ey=>?_⟩));by_cases hk:k<i
  ·rw [getElem?_append_left (by omega)] at ey;obtain⟨Z,z1,z2⟩:=hg k x' y' ex ey;refine⟨Z,fun b hb=>?_,fun H6 h6=>z2 H6 fun b hb=>?_⟩
   ·obtain⟨nb,o,ho⟩:=z1 b hb;exact⟨nb,o,by rw [eJ nb];exact s5 _ _ ho⟩
   ·obtain⟨nb,o,ho⟩:=z1 b hb;rw [h6 b hb,eJ nb,s5 _ _ ho,ho]
  ·have ek:k=i:=by
    have:=(List.getElem?_eq_some_iff.mp ey).1;rw [length_append,hl] at this;have:k<i+1:=this;omega
   subst ek;rw [getElem?_append_right (by omega),hl,lR] at ey;obtain rfl:yv=y':=Option.some.inj ey;obtain rfl:x=x':=Option.some.inj (hx.symm.trans ex);obtain⟨Z,z1,z2⟩:=ny;have nD:∀ b,Z b->b≠D:=fun b hb e=>by
    have:=(z1 b hb).1;rw [e,nB] at this;cases this
   refine⟨Z,fun b hb=>?_,fun H6 h6=>z2 H6 fun b hb=>?_⟩
   ·obtain⟨_,o,ho⟩:=z1 b hb;exact⟨nD b hb,o,by rw [eJ (nD b hb)];exact ho⟩
   ·rw [h6 b hb,eJ (nD b hb)]
 ·have e:i=xs.length:=by omega
  refine .inl ⟨by rw [e];exact S.stop H2 sm,q D H2 ys sm hD nB (by omega) fun k x y ex ey=>?_⟩;obtain⟨Z,_,z2⟩:=hg k x y ex ey;exact z2 H2 fun _ _=>rfl
theorem jOI{A:Around}{n:Nat}(h:A.units+(n+1)<cLine):A.in1.units+n<cLine:=by
 have:A.in1.units=A.units+1:=by first|rfl|exact Around.units_in1 _
 omega
theorem jFt{X:Cx}{K:PySem.W.Frag}(h:X.K=K):OpR X (fB .In) (rIn K false):=h ▸ jB4
theorem hu_n(hr:kX k A)(n:Nat)(h:n<=60):A.units+(n+1)<cLine:=gK (Nat.add_le_add_left (by omega:n+1<=64) _) hr.units
noncomputable def jFu(frees:List (Str×Nat))(σ:St)(x y:Option V):St:=x::y::frees.map fun p=>(σ[p.2]?).join
noncomputable def jIk(K:PySem.W.Frag)(J:It)(tc:TT)(te:TE)(σf:Option V->Option V->St)(H1:Hp)(Q:VK):Prop:=∀ D,H1 D=none ->
 ∃ W:Nat->Nat->List V->Hp->Prop,(∃ m,W 0 m [] (upd H1 D (.lst [])))/\∀ i m ys H2,W i m ys H2->H2 D=some (.lst ys) /\
  ((J.stop i H2/\Q (.ref D) H2)\/(J.go i H2/\ys.length<dL/\∀ z H3,J.yld i H2 z H3->∃ a x x2,z=.ref a/\SqT K H3 a [x,x2]/\tc (σf (some x) (some x2)) H3 fun b H4 =>
    if b=true then te (σf (some x) (some x2)) H4 fun y H5=>H5 D=some (.lst ys)/\∃ m',m'<m/\W (i+1) m' (ys++[y]) (upd H5 D (.lst (ys++[y]))) else ∃ m',m'<m/\W (i+1) m' ys H4))
section
variable {X:Cx}{sH j8:Expr}{x x2:Str}{px px2 tp pos:Pos}{kk:Nat}{qY:List Expr}{scope:Scope}{frees:List (Str×Nat)}{tc:TT}{te:TE}
structure jMT(X:Cx)(scope:Scope)(x x2:Str)(frees:List (Str×Nat)):Prop where
 cell:∀ y∈scope.names,y.2≠.cell
 kind:scope.kind=.function
 own:scope.names.lookup x=some .local
 own2:scope.names.lookup x2=some .local
 names:∀ y∈scope.names,y.2=.local->scope.names.lookup y.1=some .local
 fr:jD2 X scope frees
 nd:(x::x2::frees.map (·.1)).Nodup
 cl:∀ p∈scope.names,p.2=.free->(X.env.cells.lookup p.1).isSome=true
 calm:X.calm=true
theorem jNr{b9:List (Addr×Obj)}{σ:St}{H1:Hp}{eU:Shared}{it:Addr}{fp:List Addr}{tn:Nat->Heap->Prop}{J:It}{Q:VK}{RR:Value->Addr->Result->Shared->Prop}{E:Value->Shared->Prop}
 (O:jMT X scope x x2 frees) (hc:∀ C ex eU H₂,PIfs (xW X scope (x::x2::frees.map (·.1)) C ex eU H₂) qY tc) (he:∀ C ex eU H₂,PE (xW X scope (x::x2::frees.map (·.1)) C ex eU H₂) sH te)
 (I:Inv X b9 σ H1 eU) (T:xT X.prog X.w X.K (.Tuple [.Name x px,.Name x2 px2] kk tp) J fp it tn) (st:tn 0 eU.heap) (hf:∀ b∈fp,xU X b9 H1 b) (hB:jIk X.K J tc te (jFu frees σ) H1 Q)
 (hRR:∀ D C H' s',Inv X b9 σ H' s'->(∃ m,s'.heap.Ns C m)->xU X b9 H' C->Q (.ref D) H'->RR (.ref D) C (.ok .next) s') :
 dM (dQ X.prog X.w) X.A (newList []) (fun jX rB=>dM (dQ X.prog X.w) X.A (newFunctionEnv scope X.env.globals (jCU X.env.cells scope.names []) [] X.env.qual none .none (some X.env)) (fun cenv wH =>
  iR (dQ X.prog X.w) X.A (.compStart (.ListComp sH [⟨.Tuple [.Name x px,.Name x2 px2] kk tp,j8,qY,0⟩] scope pos) 0 (.ref it) jX { cenv with scope:=sL scope X.env }) (RR jX cenv.locals) wH) E rB) E eU:=by
 refine mS (pH O.cell (by intro y hy;simp at hy) (fun jM nM lX=>?_) O.kind);dsimp only at nM lX ⊢;generalize hH2:eU.heap.push { cls:=.type "list",dict:=none,data:=.seq ([]:List Value).toArray }=H2 at nM lX ⊢;have hC:H2.objs.size=eU.heap.objs.size+1:=by rw [<- hH2,jO]
 have hDC:eU.heap.objs.size≠H2.objs.size:=by rw [hC];exact eV (jP _)
 have u7:eU.heap.objs.size<=H2.objs.size:=by rw [hC];exact iF _
 have mR:∀ b,b<eU.heap.objs.size->b≠H2.objs.size/\b≠eU.heap.objs.size:=fun b hb=>⟨by rw [hC];exact eV (Nat.lt_succ_of_lt hb),eV hb⟩
 have oM:∀ b o,eU.heap.get? b=some o->jM.get? b=some o:=fun b o e=>lX.extBut b o (mR b (d0 e)).1 (get?_push_of_some _ (hH2 ▸ get?_push_of_some _ e));have zM:jM.get? eU.heap.objs.size=some { cls:=.type "list",data:=.seq ([]:List Value).toArray }:=lX.extBut _ _ hDC (get?_push_of_some _ (hH2 ▸ get?_push_size _ rfl));have nD:H1 eU.heap.objs.size=none:=I.hok.fresh (Nat.le_refl _);obtain⟨W,⟨m0,w0⟩,hW⟩:=hB eU.heap.objs.size nD
 -- the block's context and its first state
 let X':Cx:=xW X scope (x::x2::frees.map (·.1)) H2.objs.size fp eU H1;have t7:∀ y c,(jCU X.env.cells scope.names []).lookup y=some c->X.env.cells.lookup y=some c:=fun y c h=>jF9 scope.names [] O.cl (fun y c h=>by cases h) h;have fpl:∀ b∈fp,b<eU.heap.objs.size:=fun b hb=>by
  obtain⟨o,e,_⟩:=T.obj _ _ st b hb;exact d0 e
 have ok':X'.Ok:=by
  refine⟨I.ok.mod,O.kind,I.ok.glob,I.ok.blt,u7,fun y z c h1 h2=>I.ok.inj y z c (t7 y c h1) (t7 z c h2),fun y hy=>?_,fun y c h _=>(by cases h),I.ok.hd,I.ok.frames,.inl rfl,fun b hb=>?_,I.bs,eM I.ok.bsz I.sz,fun b o e hb=>?_,fun b hb z=>?_,I.stack,I.stkFree⟩
  ·exact gN.mp (jC_ scope.names [] (.inr (jF_ O.cell hy)))
  ·exact⟨(mR b (fpl b hb)).1,fun y c h=>(hf b hb).2.2.2.2.1 y c (t7 y c h)⟩
  ·rcases (hf b hb).2.2.2.1 with z|z
   ·exact I.ok.noex b o e z
   ·exact absurd (lt_of_lt_of_le (lt_of_lt_of_le (d0 e) I.ok.bsz) z) (gU _)
  ·exact (dX.mp (I.stkSub b z)).elim (hf b hb).2.1 (hf b hb).2.2.1
 have hok1:HOk X.prog X.w (upd H1 eU.heap.objs.size (.lst [])) jM:=I.hok.laid oM (Nat.le_refl _) ⟨d9 _,[],0,.nil,zM⟩;have I0:∀ tk,Inv X' [] (jFu frees σ none none) (upd H1 eU.heap.objs.size (.lst [])) { eU with heap:=jM,toks:=tk }:=fun tk=>by
  exists ok',rfl,I.bare,Un.laid oM (Nat.le_refl _) nD,⟨_,nM,fun i y v h1 h2 h3=>?_⟩,fun y c h=>?_,?_,fun y c h=>?_,fun p hp=>absurd (show p∈([]:List (Addr×Obj)) from hp) (by simp),hok1
  ·cases i with
   | zero =>
     have v9:(none:Option V)=some v:=Option.some.inj h2;cases v9
   | succ i =>
   cases i with
   | zero =>
     have v9:(none:Option V)=some v:=Option.some.inj h2;cases v9
   | succ j =>
     have wA:(frees.map (·.1))[j]?=some y:=h1;have v9:(frees.map fun p=>(σ[p.2]?).join)[j]?=some (some v):=h2;rw [getElem?_map] at wA v9;cases e:frees[j]? with
     | none=>rw [e] at wA;cases wA
     | some p =>
       rw [e] at wA v9;have e1:p.1=y:=Option.some.inj wA;have e2:(σ[p.2]?).join=some v:=Option.some.inj v9;obtain⟨g1,g2,g3,g4⟩:=O.fr.at p (mem_of_getElem? e);have e3:σ[p.2]?=some (some v):=by
        cases q:σ[p.2]? with
        | none=>rw [q] at e2;cases e2
        | some o=>rw [q] at e2;exact congrArg some e2
       obtain⟨m,hn,hl⟩:=I.loc;obtain⟨u,r,l⟩:=hl p.2 p.1 v g1 e3 (.inr (.inl g2));exists u,r;rcases l with⟨k,_⟩|⟨_,c,v0,hc2⟩
       ·rw [g2] at k;cases k
       ·obtain⟨c2,hc3⟩:=gN.mp (jC_ (cells:=X.env.cells) scope.names [] (.inr g4));have hc4:=t7 _ _ hc3;rw [v0] at hc4;cases hc4;rw [<- e1];refine .inr ⟨.inl g3,c,hc3,?_⟩;obtain⟨o,ho,hd⟩:=hc2;exact⟨o,oM c o ho,hd⟩
  ·obtain⟨v,o,ho,hd⟩:=I.cell y c (t7 y c h);exact⟨v,o,oM c o ho,hd⟩
  ·show upd H1 eU.heap.objs.size (.lst []) H2.objs.size=none;rw [eJ (symm hDC)];exact I.hok.fresh u7
  ·obtain⟨v,o,ho,hd⟩:=I.cell y c (t7 y c h);rw [eJ (mR c (d0 ho)).2];exact I.freeC y c (t7 y c h)
  ·show (jFu frees σ none none).length=(x::x2::frees.map (·.1)).length;simp [jFu]
 have qH:∀ {H':Hp},(∀ b∈fp,H' b=none)->∀ b∈fp,xU X' [] H' b:=fun hn b hb =>
  ⟨hn b hb,(mR b (fpl b hb)).1,fun z=>(dX.mp (I.stkSub b z)).elim (hf b hb).2.1 (hf b hb).2.2.1,.inl hb,fun y c h=>(hf b hb).2.2.2.2.1 y c (t7 y c h),fun p hp=>absurd (show p∈([]:List (Addr×Obj)) from hp) (by simp)⟩
 have qQ:tn 0 jM:=T.keep _ _ _ st fun b _ o e=>oM b o e;have fr0:∀ b∈fp,(upd H1 eU.heap.objs.size (.lst [])) b=none:=fun b hb=>by
  rw [eJ (mR b (fpl b hb)).2];exact (hf b hb).1
 have loop:∀ tk,iR (dQ X.prog X.w) X.A (.compLoop (.ListComp sH [⟨.Tuple [.Name x px,.Name x2 px2] kk tp,j8,qY,0⟩] scope pos) 0 (.ref it) (.ref eU.heap.objs.size) X'.env) (RR (.ref eU.heap.objs.size) H2.objs.size) { eU with heap:=jM,toks:=tk }:=fun tk=>by
  refine jJP (fun n s'=>∃ i ys o o' H',Inv X' [] (jFu frees σ o o') H' s'/\tn i s'.heap/\(∀ b∈fp,H' b=none)/\W i n ys H') ?_ m0 ⟨0,[],none,none,_,I0 tk,qQ,fr0,w0⟩;rintro n s3 ⟨i,ys,o3,o4,H3,I3,st3,fr3,w3⟩;obtain⟨hD3,alt⟩:=hW i n ys H3 w3;rcases alt with⟨stop,q⟩|⟨go,j2,step⟩
  ·refine thn (T.done X' rfl rfl rfl O.calm i [] s3 _ H3 _ I3 (qH fr3) st3 stop) fun r s4 ⟨hr,I4⟩=>?_;subst hr;have J4:Inv X b9 σ H3 s4:=I.call' (ch:=fp) I4.os I4.base I4.hok I4.bare fun b hb=>⟨(hf b hb).2.2.2.1,(hf b hb).2.1,(hf b hb).2.2.2.2.1,(hf b hb).2.2.2.2.2⟩
   obtain⟨m4,hn4,_⟩:=I4.loc;exact hRR _ _ H3 s4 J4 ⟨m4,hn4⟩ (I.fpOk u7 I4.free) q
  ·refine thn (T.item X' rfl rfl rfl O.calm i [] s3 _ H3 _ I3 (qH fr3) st3 go) fun r s4 ⟨u,hr,h4⟩=>?_;subst hr;refine thn h4 fun _ s5 ⟨v,H5,I5,r5,y5,st5,fr5⟩=>?_;have I5':=I5.pinned (qH fr5) (T.obj _ _ st5);have tail:∀ {σ7:St} {H7:Hp} {s7:Shared},Inv X' ([]++jE0 fp s5.heap) σ7 H7 s7->Inv X' [] σ7 H7 s7/\tn (i+1) s7.heap/\∀ b∈fp,H7 b=none:=fun {σ7 H7 s7} I7=>by
    refine⟨I7.unpinned,T.keep _ _ _ st5 fun b hb o e=>(I7.pin (b,o) (dH _ (dH _ (jCJ hb e)))).1,fun b hb=>?_⟩;obtain⟨o,e,d⟩:=T.obj _ _ st5 b hb;exact (I7.pin (b,o) (dH _ (dH _ (jCJ hb e)))).2.1
   have g0:PG X' (.Name x px) (vK 0):=jGO O.nd rfl (Or.inl (iQ O.own)) (.inr (iQ O.own));have g1:PG X' (.Name x2 px2) (vK 1):=jGO O.nd rfl (Or.inl (iQ O.own2)) (.inr (iQ O.own2));have hg:PG X' (.Tuple [.Name x px,.Name x2 px2] kk tp) (gTup X'.K 2 (jKu (vK 0) (jKu (vK 1) gNil))):=jD8 O.calm (vN g0 (vN g1 jDl));obtain⟨va,v1,v2,ev,sq,step'⟩:=step v _ y5;refine thn (hg _ s5 _ H5 v u (fun σ6 H6=>σ6=jFu frees σ (some v1) (some v2)/\H6=H5) I5' r5 ⟨va,[v1,v2],ev,sq,rfl,v1,[v2],rfl,v2,[],rfl,rfl,rfl,rfl⟩) fun _ s6 ⟨σ6,H6,I6,e6,e6'⟩=>?_;subst e6 e6';refine thn (hc _ _ _ _ _ s6 _ _ _ I6 step') fun b s7 ⟨H7,I7,q7⟩=>?_;cases b with
   | false =>
     obtain⟨m',hm,w7⟩:=(show ∃ m',m'<n/\W (i+1) m' ys H7 from q7)
     obtain⟨t1,t2,t3⟩:=tail I7;exact⟨m',hm,i+1,ys,some v1,some v2,H7,t1,t2,t3,w7⟩
   | true =>
     refine thn (he _ _ _ _ _ s7 _ _ _ I7 q7) fun y s8 ⟨y',H8,I8,r8,hD8,m',hm,w8⟩=>?_;refine thn (zD (X:=X') _ s8 _ H8 (.ref eU.heap.objs.size) [y'] _ [y] (fun _ H9=>H9=upd H8 eU.heap.objs.size (.lst (ys++[y']))) I8 rfl (.cons r8 .nil) ⟨_,_,_,rfl,rfl,hD8,j2,rfl⟩) fun _ s9 ⟨_,H9,I9,_,e9⟩=>?_;subst e9;obtain⟨t1,t2,t3⟩:=tail I9;exact⟨m',hm,i+1,ys++[y'],some v1,some v2,_,t1,t2,t3,w8⟩
 exact z7 (loop _) (T.self _ 0 _ _ _ qQ (loop _))
noncomputable def tComp2(K:PySem.W.Frag)(frees:List (Str×Nat))(tc:TT)(te:TE)(wi:TI):TE:=fun σ H Q=>wi σ H fun J H1=>jIk K J tc te (jFu frees σ) H1 Q
theorem jK3(O:jMT X scope x x2 frees)(hN:X.N.Nodup)(hiy:X.N[i]?=some y)(hy:X.env.kindOf y=some .local)(hsw:lY (.ListComp sH [⟨.Tuple [.Name x px,.Name x2 px2] kk tp,j8,qY,0⟩] scope pos) (some (.Name y py)) spos.line X.env=pure true) 
 (hi:PI X (.Tuple [.Name x px,.Name x2 px2] kk tp) j8 wi) (hc:∀ C ex eU H₂,PIfs (xW X scope (x::x2::frees.map (·.1)) C ex eU H₂) qY tc) (he:∀ C ex eU H₂,PE (xW X scope (x::x2::frees.map (·.1)) C ex eU H₂) sH te)
 (hs:∀ x,mW j8 X.env x=pure x:=by intro _;rfl):PS X (.Assign [.Name y py] (.ListComp sH [⟨.Tuple [.Name x px,.Name x2 px2] kk tp,j8,qY,0⟩] scope pos) spos) (tAsg (tComp2 X.K frees tc te wi) (vK i)):=by
 intro b9 s σ H D I h;rw [exec_Assign_Name_used _ _ _ _ hsw];refine c8 (iT (c8 ?_));show dM _ X.A (do let _ <- comprehension (.ListComp sH [⟨.Tuple [.Name x px,.Name x2 px2] kk tp,j8,qY,0⟩] scope pos) scope X.env _ (newList []) false (fA j8 X.env) (some (mK (.Name y py) X.env))) _ _ s
 refine c8 (e8 (mY (use:=some (mK (.Name y py) X.env)) (Q:=fun _ s'=>SP X b9 D .next s') rfl hs (jDP O.cl) O.kind O.names
  (thn (hi b9 s σ H _ I h) fun xv fQ jM=>thn jM fun itv eU qP=>?_)) (fun _ s' hq=>dP (dP hq)) fun _ _ e=>e)
 obtain⟨it,fp,tn,J,H2,e,I2,T,xJ,f2,hB⟩:=qP;subst e;refine jNr (RR:=fun jX C=>compPost (dQ X.prog X.w) X.A X.xe (some (mK (.Name y py) X.env)) (fun _ s'=>SP X b9 D .next s') jX C) O hc he I2 T xJ f2 hB ?_;intro A C H' s' I' hn hC q;obtain⟨m,hn⟩:=hn;obtain⟨oC,es,ep,hoC,hdC,hr⟩:=id hn;have I'':Inv X (b9++[(C,oC)]) σ H' s':=I'.pins_of fun p hp=>(eN.mp hp).elim (fun z=>I'.pin p (dH _ z)) fun z=>by
  rw [mem_singleton.mp z];exact⟨hoC,hC.1,hC.2.1,hC.2.2.1,fun v e=>by rw [hdC] at e;cases e⟩
 show dM _ X.A (mK (.Name y py) X.env (.ref A)) _ _ _;refine sI (jFl I'' hN hiy (.inl hy) (v:=.ref A) rfl (fun s3 I3=>?_) (.inr hy));have hC3:=(I3.pin (C,oC) (dH _ (dH _ (mem_singleton.mpr rfl)))).1;have J3:Inv X b9 (σ.set i (some (.ref A))) H' s3:=I3.unpinned;refine⟨m,⟨oC,es,ep,hC3,hdC,hr⟩,fun h' uX=>?_⟩;exact⟨_,H',J3.turned (t':=s3.toks) (fun b o hb e=>uX.extBut b o hb e) hC.1 hC.2.1 hC.2.2.2.1 hC.2.2.2.2.1 hC.2.2.2.2.2,q⟩
end
noncomputable def rngV(i:Int)(n:Nat):List V:=(range n).map fun k=>V.int (i+(k:Nat))
theorem jGV:∀ {xs:List V} {us:List Value},xs.length=us.length->(∀ (k:Nat) x u,xs[k]?=some x->us[k]?=some u->g9 x u)->iH xs us
 | [],[],_,_=>.nil
 | x::xs,u::us,e,h=>.cons (h 0 x u rfl rfl) (jGV (Nat.succ.inj e) fun k y w h1 h2=>h (k+1) y w h1 h2)
 | [],_::_,e,_=>nomatch e
 | _::_,[],e,_=>nomatch e
theorem jPN:∀ {n:Nat} {jX:Array Value},ItemsOf (fun k v=>∃ t,v=.int (i+(k:Nat)*1) t) jX n->iH (rngV i n) jX.toList:=by
 intro n jX h;refine jGV (by unfold rngV;rw [c7,fD,jY,h.1]) fun k x u hx hu=>?_;have hu':jX[k]?=some u:=by simpa using hu
 obtain⟨t,rfl⟩:=h.2 k u hu';unfold rngV at hx;rw [getElem?_map] at hx;obtain⟨m,em,rfl⟩:=dW.mp hx;have:m=k:=by
  obtain⟨_,e⟩:=List.getElem?_eq_some_iff.mp em;rw [List.getElem_range] at e;exact e.symm
 subst this;exact⟨t,by rw [Int.mul_one]⟩
section
variable {X:Cx}
end
end L2
namespace PySem
open Sem (wp)
theorem jJe:typeLookup (.type "list") "keys"=pure none:=am_miss_of_fast (by decide +kernel)
theorem jLV 
 (hx:s.heap.get? a=some { cls:=.type "list",dict:=none,data:=.seq xs n }) (hA:A.handled=none)
 (h:∀ h' tk,(∀ b ob,s.heap.get? b=some ob->h'.get? b=some ob)->Q none { s with heap:=h',toks:=tk }) :
 dM (dQ prog w) A (getAttr? (.ref a) "keys") Q E s:=by
 obtain⟨hp,g,d,tk,os⟩:=s;have hT:∀ tk',(⟨hp,g,d,tk',os⟩:Shared).TypeIs (.ref a) "list":=fun _=>⟨_,hx,rfl⟩
 have g1:=sub_AttributeError;have g3:=F.slot_list_getattribute.lookup;have g4:=F.slot_list_getattribute.bind (.ref a);have g5:=am_list_getattr_none;unfold getAttr? getAttrBy? getAttrBy
 repeat (any_goals (first|assumption|exact hT _|((with_reducible show dM _ _ (call (Value.builtin "list.__getattribute__") _ _) _ _ _);refine jS F.slot_list_getattribute (hT _) am_entry_list_getattribute (F.args_list_getattribute_2 _ _) (meets_getattribute_miss_list a xs n _ "keys" _ jJe (by decide +kernel) (by size_fits)) ⟨hx,hA,fun h' tk' e hx=>?_⟩)|wp_step))
 obtain⟨t',u',he⟩:=hx.there;show dM (dQ prog w) A (getattributeRaised _ _ _ _ _ _ _) _ _ _;have hTe:∀ tk',(⟨h',g,d,tk',os⟩:Shared).TypeIs (.ref e) "AttributeError":=fun _=>⟨_,he,rfl⟩
 unfold getattributeRaised
 repeat (any_goals (first|assumption|exact hTe _|wp_step))
 exact h _ _ hx.keeps
theorem jEi:entryFor table "dict.update.loop"=some Builtin.«dict.update.loop»:=entryFor_of_tree (by kernel_rfl)
theorem jCl:plainId "dict.update.loop"=true:=by decide +kernel
section
variable {prog:Program}{w:World}{K:Type}[DecidableEq K]{knd:KeyKind prog w K}{A:Around}{R:Result->Shared->Prop}
noncomputable def jCV(ps:List (K×Value)):List (K×Value):=ps.foldl (fun jX p=>rC jX p.1 p.2) []
theorem jNs(kvs:List (K×Value))(k:K)(v:Value):(rC kvs k v).length<=kvs.length+1:=by
 unfold rC;split
 ·rw [c7];exact iF _
 ·rw [length_append];exact Nat.le_refl _
theorem jLW(ps:List (K×Value))(p:K×Value):jCV (ps++[p])=rC (jCV ps) p.1 p.2:=by
 unfold jCV;rw [lJ];rfl
theorem jJU:∀ (ps jX:List (K×Value)),(ps.foldl (fun jX p=>rC jX p.1 p.2) jX).length<=jX.length+ps.length
 | [],_=>Nat.le_refl _
 | p::r,jX=>by
   have h1:=jJU r (rC jX p.1 p.2);have h2:=jNs jX p.1 p.2;rw [nG,fC];omega
theorem jNt{h₀:Heap}{l it D:Addr}{items:Array Value}{ps:List (K×Value)}(hA:A.handled=none)(hl:h₀.IsList l items)(nit:h₀.get? it=none)(nD:h₀.get? D=none)(ne:it≠D)
 (hn:items.size=ps.length) (hi:∀ (i:Nat) p,ps[i]?=some p->∃ t lT,items[i]?=some (.ref t)/\knd.is p.1 lT=true/\h₀.IsTuple t #[lT,p.2]) (hz:ps.length<=dL) :
 ∀ (k i:Nat) (s:Shared) (tk:Tok),ps.length-i=k->i<=ps.length->s.heap.IsListIter it l i->(∀ b o,h₀.get? b=some o->s.heap.get? b=some o)->s.heap.DictOf knd D (jCV (ps.take i)) ->
  (∀ h' tk',(∀ b o,b≠it->b≠D->s.heap.get? b=some o->h'.get? b=some o)->h'.DictOf knd D (jCV ps)->R (.ok (.ret .none)) { s with heap:=h',toks:=tk' }) ->
  iR (dQ prog w) A (.builtin "dict.update.loop" ⟨[.ref D,.ref it,.int i tk,.none],[]⟩) R s:=by
 intro k;induction k with
 | zero =>
   intro i s tk hk wW hit kp hD hR;have e:i=ps.length:=by omega
   subst e;refine lP jEi ?_;rw [kQ jCl _];show dM _ A.in1 (rE (.ref it) >>= _) _ _ s;refine c8 (z8 (i:=ps.length) (items:=items) hA hit ?_ ?_ fun h' hx=>?_)
   ·exact let ⟨o,ho,r⟩:=hl;⟨o,kp _ _ ho,r⟩
   ·exact Array.getElem?_eq_none (by omega)
   ·show dM _ A.in1 (Builtin.Dict.addKeywords D [] >>= fun _=>ret Value.none) _ _ _;refine c8 (dP (dP (hR h' s.toks (fun b o nb _ e=>hx b o nb e) ?_)));rw [h9] at hD;exact hD.extBut hx (symm ne)
 | succ k ih =>
   intro i s tk hk wW hit kp hD hR;obtain⟨p,hp⟩:∃ p,ps[i]?=some p:=⟨_,getElem?_eq_getElem (by omega)⟩
   obtain⟨t,lT,ht,u4,htup⟩:=hi i p hp;refine lP jEi ?_;rw [kQ jCl _];show dM _ A.in1 (rE (.ref it) >>= _) _ _ s;refine c8 (zY (i:=i) (items:=items) hit (let ⟨o,ho,r⟩:=hl;⟨o,kp _ _ ho,r⟩) ht fun h' hit' hs=>?_);have kp':∀ b o,h₀.get? b=some o->h'.get? b=some o:=fun b o e=>(hs.2 b (fun z=>by rw [z,nit] at e;cases e)).trans (kp b o e);obtain⟨ot,hot,hct,nt,hdt⟩:=htup;have hot':=kp' _ _ hot;have hT:(⟨h',s.gens,s.drawn,s.toks,s.os⟩:Shared).TypeIs (.ref t) "tuple":=⟨_,hot',hct⟩
   have tk1:ps.take (i+1)=ps.take i++[p]:=by rw [fZ,hp];rfl
   have pz:(jCV (ps.take i)).length<=dL:=by
    have h1:=jJU (ps.take i) [];rw [gD] at h1;unfold jCV;simp only [j6] at h1;omega
   show dM _ A.in1 (jW [Value.ref t] _ >>= _) _ _ _;refine c8 (gW ?_);refine c8 (pG ?_);unfold Builtin.Dict.pairItems;refine c8 (wpAny_typeOf hT ?_);rw [if_pos (by decide)];refine c8 (wF hot' hdt (dP ?_));show dM _ A.in1 (jW [lT,p.2] (dictSet D lT p.2)) _ _ _;refine gW ?_;have v8:DictOf knd h' D (jCV (ps.take i)):=hD.sameBut hs (symm ne);refine wpAny_dictSet_pairs (s:=⟨h',s.gens,s.drawn,s.toks,s.os⟩) (hsz:=pz) u4 v8 fun h2 nB vY=>?_;rw [<- jLW,<- tk1] at nB;refine dP ⟨qT jCl _,?_⟩;have hit2:h2.IsListIter it l (i+1):=let ⟨o,ho,r⟩:=hit';⟨o,(vY.2 it ne).trans ho,r⟩;refine ih (i+1) ⟨h2,s.gens,s.drawn,s.toks+1,s.os⟩ 0 (by omega) (by omega) hit2 (fun b o e=>(vY.2 b (fun z=>by rw [z,nD] at e;cases e)).trans (kp' b o e)) nB fun h3 tk3 k3 hD3=>?_;exact hR h3 tk3 (fun b o n1 n2 e=>k3 b o n1 n2 ((vY.2 b n2).trans ((hs.2 b n1).trans e))) hD3
theorem jKf{E:Value->Shared->Prop}{s:Shared}{l:Addr}{items:Array Value}{n:Nat}{ps:List (K×Value)}{Q:Value->Shared->Prop}(hA:A.handled=none)(hx:s.heap.get? l=some { cls:=.type "list",dict:=none,data:=.seq items n })
 (hn:items.size=ps.length) (hi:∀ (i:Nat) p,ps[i]?=some p->∃ t lT,items[i]?=some (.ref t)/\knd.is p.1 lT=true/\s.heap.IsTuple t #[lT,p.2]) (hz:ps.length<=dL)
 (h:∀ h' tk,(∀ b o,s.heap.get? b=some o->h'.get? b=some o)->h'.DictOf knd s.heap.objs.size (jCV ps)->Q (.ref s.heap.objs.size) { s with heap:=h',toks:=tk }) :
 dM (dQ prog w) A (call (.type "dict") [.ref l]) Q E s:=by
 refine callType_codes (Q₁:=fun obj fQ=>obj=.ref s.heap.objs.size/\fQ={ s with heap:=s.heap.push { cls:=.type "dict",data:=.dict #[] } }) F.kt_called_dict (F.kt_typeCall_dict_1 _) F.entry_dict_init (kt_code_dict_new _ ⟨rfl,rfl⟩) ?_;rintro obj fQ ⟨rfl,rfl⟩;have wU:(s.heap.push { cls:=.type "dict",data:=.dict #[] }).DictOf knd s.heap.objs.size []:=DictOf.new s.heap;have hx':(s.heap.push { cls:=.type "dict",data:=.dict #[] }).get? l=some { cls:=.type "list",dict:=none,data:=.seq items n }:=get?_push_of_some _ hx;exists wU.typeIs,F.args_dict_init_2 _ _;unfold Builtin.«dict.__init__»;refine c8 ?_;unfold Builtin.Dict.selfAndRest;refine c8 (wpAny_notOrdered_dict wU.typeIs ?_);show dM _ _ (pure (s.heap.objs.size,[Value.ref l])) _ _ _;refine dP ?_;show dM _ _ (Builtin.Dict.updateFrom "dict.__init__" s.heap.objs.size (.ref l) [] .none) _ _ _;unfold Builtin.Dict.updateFrom;refine c8 (wpAny_typeOf (T:="list") ⟨_,hx',rfl⟩ ?_);rw [if_pos (by decide)];refine c8 (jLV hx' hA fun h1 tk1 k1=>?_);simp only [Option.isNone_none,if_true];refine c8 (wpAny_rule (c8 (iN (items:=items) ⟨_,k1 _ _ hx',rfl,n,rfl⟩ ?_)));have hsz:s.heap.objs.size<h1.objs.size:=by
  obtain⟨o,_,_,ho,_⟩:=wU;exact d0 (k1 _ _ ho)
 refine dP ⟨qT jCl _,?_⟩;have keep:∀ b o,s.heap.get? b=some o->(h1.push { cls:=.type "list_iterator",data:=.fields #[.ref l,.int 0 0] }).get? b=some o:=fun b o e=>get?_push_of_some _ (k1 _ _ (get?_push_of_some _ e));refine jNt (A:=A.in1) (R:=wants (fun r eU=>r=Value.none/\Q (Value.ref s.heap.objs.size) eU) E) (h₀:=s.heap) (l:=l) (items:=items) (ps:=ps) hA ⟨_,hx,rfl,n,rfl⟩ (Heap.get?_none_of_le (le_of_lt hsz)) (Heap.get?_none_of_le (Nat.le_refl _)) (symm (eV hsz)) hn hi hz ps.length 0 ⟨h1.push { cls:=.type "list_iterator",data:=.fields #[.ref l,.int 0 0] },s.gens,s.drawn,tk1,s.os⟩ 0 (Nat.sub_zero _) (d9 _) ⟨_,get?_push_size _ rfl,rfl,rfl⟩ keep ?_ fun h' tk' k' v8=>?_
 ·obtain⟨o,es,ep,ho,r⟩:=wU;exact⟨o,es,ep,get?_push_of_some _ (k1 _ _ ho),r⟩
 ·refine⟨rfl,h h' tk' (fun b o e=>k' b o ?_ ?_ (keep b o e)) v8⟩
  ·intro z;exact absurd (d0 e) (by rw [z];exact not_lt.mpr (le_of_lt hsz))
  ·intro z;exact absurd (d0 e) (by rw [z];exact gU _)
end
end PySem
namespace L2
open PySem PySem.Spec PyProof.Rows
theorem kv_mk:∀ {kvs:List (Key×V)} {us:List Value},(kvs.map (·.2)).length=us.length->(∀ (i:Nat) q u,kvs[i]?=some q->us[i]?=some u->g9 q.2 u)->∃ vs:List (Key×Value),KV kvs vs/\vs.map (·.1)=kvs.map (·.1)/\vs.map (·.2)=us
 | [],[],_,_=>⟨[],.nil,rfl,rfl⟩
 | q::r,u::us,e,h=>by
   obtain⟨vs,h1,h2,h3⟩:=kv_mk (kvs:=r) (us:=us) (Nat.succ.inj e) fun i q u e1 e2=>h (i+1) q u e1 e2;exact⟨(q.1,u)::vs,.cons ⟨rfl,h 0 q u rfl rfl⟩ h1,by rw [eW,eW,h2],by rw [eW,h3]⟩
 | [],_::_,e,_=>nomatch e
 | _::_,[],e,_=>nomatch e
inductive jIl(K:PySem.W.Frag)(xs:List V)(H:Hp)(Q:VK):Prop|mk p ts kvs:xs=[.ref p]->H p=some (.lst ts)->ts.length=kvs.length->(∀ (i:Nat) y (q:Key×V),ts[i]?=some y->kvs[i]?=some q->∃ t,y=.ref t/\SqT K H t [kV q.1,q.2])->(kvs.map (·.1)).Nodup->(∀ d,H d=none->Q (.ref d) (upd H d (.dK kvs)))->jIl K xs H Q
theorem jB5(hc:X.calm=true):CallR X (.type "dict") (jIl X.K):=by
 intro b9 s σ H xs us Q I r h;obtain⟨p,ts,kvs,rfl,hp,lt,ht,nd,q⟩:=h;obtain⟨u,rfl,rx⟩:=tK r;cases rx;obtain⟨hz,its,n,rv,e⟩:=Rd.ok (u:=.lst ts) (.inl hp) I.hok;have li:=rv.length;have at1:∀ (i:Nat) q,kvs[i]?=some q->∃ t lT w',its[i]?=some (.ref t)/\g9 (kV q.1) lT/\g9 q.2 w'/\s.heap.IsTuple t #[lT,w']:=fun i q eq=>by
  have hi:i<kvs.length:=(List.getElem?_eq_some_iff.mp eq).1;obtain⟨y,ey⟩:∃ y,ts[i]?=some y:=⟨_,getElem?_eq_getElem (by omega)⟩
  obtain⟨t,rfl,hq⟩:=ht i y q ey eq;obtain⟨u,eu,ru⟩:=iH.get rv ey;cases ru;obtain⟨jt,rj,tj,_⟩:=I.tuple hq;cases rj with
  | cons r1 rr =>
    cases rr with
    | cons r2 rr =>
      cases rr;exact⟨t,_,_,eu,r1,r2,tj⟩
 obtain⟨ws,lw,gw⟩:∃ ws:List Value,ws.length=kvs.length/\∀ (i:Nat) q u,kvs[i]?=some q->ws[i]?=some u->g9 q.2 u/\∃ t lT,its[i]?=some (.ref t)/\g9 (kV q.1) lT/\s.heap.IsTuple t #[lT,u]:=by
  have ch:∀ i:Fin kvs.length,∃ w',g9 (kvs[i]).2 w'/\∃ t lT,its[i.1]?=some (.ref t)/\g9 (kV (kvs[i]).1) lT/\s.heap.IsTuple t #[lT,w']:=fun i=>by
   obtain⟨t,lT,w',h1,h2,h3,h4⟩:=at1 i.1 kvs[i] (getElem?_eq_getElem i.2);exact⟨w',h3,t,lT,h1,h2,h4⟩
  refine⟨List.ofFn fun i=>Classical.choose (ch i),List.length_ofFn,fun i q u e1 e2=>?_⟩;obtain⟨hi,rfl⟩:=List.getElem?_eq_some_iff.mp e1;rw [List.getElem?_ofFn,dif_pos hi] at e2;obtain rfl:=Option.some.inj e2;exact Classical.choose_spec (ch ⟨i,hi⟩)
 obtain⟨vs,kv,k1,k2⟩:=kv_mk (kvs:=kvs) (us:=ws) (by rw [c7,lw]) fun i q u e1 e2=>(gw i q u e1 e2).1;have lv:vs.length=kvs.length:=by rw [<- c7 (f:=(·.1)),k1,c7]
 refine jKf (knd:=lV X.prog X.w) (ps:=vs) (I.ok.hd hc) e (by rw [dS];omega) (fun i p ep=>?_) (by omega) fun h' tk keep hd=>?_
 ·have hi:i<vs.length:=(List.getElem?_eq_some_iff.mp ep).1;have e1:kvs[i]?=some kvs[i]:=getElem?_eq_getElem (by omega);have e2:ws[i]?=some p.2:=by rw [<- k2,getElem?_map,ep];rfl
  have e3:kvs[i].1=p.1:=by
   have h1:(vs.map (·.1))[i]?=some p.1:=by rw [getElem?_map,ep];rfl
   rw [k1,getElem?_map,e1] at h1;exact Option.some.inj h1
  obtain⟨_,t,lT,h1,h2,h3⟩:=gw i _ _ e1 e2;refine⟨t,lT,by rw [List.getElem?_toArray];exact h1,?_,h3⟩;rw [<- e3];exact y8 h2
 ·rw [show jCV vs=vs from merged_nil_of_nodup vs (by rw [k1];exact nd)] at hd;refine⟨.ref s.heap.objs.size,_,I.laid (t':=tk) keep (Nat.le_refl _) (jE4 (by omega) (beq_eq_false_iff_ne.mpr (symm (eV I.big))) kv hd),rfl,q _ (I.hok.fresh (Nat.le_refl _))⟩
inductive jMU(xs:List V)(H:Hp)(Q:VK):Prop|mk a kvs:xs=[.ref a]->Rd H a (.dK kvs)->(∀ d,H d=none->Q (.ref d) (upd H d (.dK kvs)))->jMU xs H Q
theorem jDo:CallR X (.type "dict") jMU:=by
 intro b9 s σ H xs us Q I r h;obtain⟨a,kvs,rfl,e,q⟩:=h;obtain⟨u,rfl,rx⟩:=tK r;cases rx;exact jPB I e fun p s' hp I'=>⟨.ref p,_,I',rfl,q p hp⟩
theorem jCO:fJ "dict"=some (.type "dict"):=by decide +kernel
open PySem PyProof.Rows PySem.Spec PySem.Calls
section
variable {X:Cx}
noncomputable def tPl(K:PySem.W.Frag)(B:Addr)(ts:TS)(tr:TH):TH:=fun D σ H C ea=>PySem.W.excMk K C=true/\PySem.W.excMk K B=true/\∃ b,PySem.W.mroHas K C (.ref B)=b/\if b=true then ts D σ H else tr D σ H C ea
theorem jPO{x:Str}{B:Addr}{b₀:Stmt}{yC:List Stmt}{ts:TS}{tr:TH}{np hpos:Pos}{uV:List ExceptHandler}(hg:Gl X x)(hm:X.mg x=some (.ref B))
 (hs:∀ ea,PSs (X.caught ea) (b₀::yC) ts) (hr:PH X uV tr) (hd:(x==("__debug__":Str))=false:=by decide):PH X (.ExceptHandler (some (.Name x np)) none (b₀::yC) hpos::uV) (tPl X.K B ts tr):=by
 intro b9 s σ H D ea C d I hx tr h;obtain⟨mC,mB,b,hb,h⟩:=h;have I1:Inv (X.caught ea) b9 σ H s:=I.caught;refine wpAny_handleBy_cons (codeAny_handlers_test (jC0 I1 hg hm ?_ hd)) (by intro q;cases q);obtain⟨vs,sl,g1⟩:=x_get I.hok (.inr hx);refine PySem.W.exc_match (K:=X.K) I.kIn mC mB g1 rfl ?_;rw [hb];cases b with
 | false=>exact hr b9 s σ H D ea C d I hx tr h
 | true =>
   show iR _ _ _ _ _;refine (codeAny_handlers_suite ?_);obtain⟨cl,d',vs',sl',T,g1',g2,⟨nT,oT,ts',gT,dT,h3⟩,g4,g5,g6,g7,g8⟩:=tr;rw [g1] at g1';cases g1';unfold pU;refine c8 (iO g1 rfl g2 ?_);rw [if_pos (by simp)];refine l5 gT dT (Array.getElem?_eq_some_iff.mp h3).1 ?_;have I2:Inv (X.caught ea) b9 σ H { s with heap:=s.heap.update T (rS (·.setIfInBounds 3 ((none:Option Addr).elim Value.none fun f=>jE f))),toks:=s.toks } :=
    I1.turned (it:=T) (fun b o hb q=>by rw [get?_update_other _ _ (symm hb)];exact q) g5 g6 (.inr g4) g7 g8
   refine e8 (hs ea b9 _ _ H D I2 h) (fun f s4 q=>?_) fun _ _ z=>False.elim z;cases f with
   | next=>obtain⟨σ',H',J,q⟩:=q;exact⟨_,H',J.uncaught I.ok,q⟩
   | brk=>obtain⟨σ',H',J,q⟩:=q;exact⟨_,H',J.uncaught I.ok,q⟩
   | cont=>obtain⟨σ',H',J,q⟩:=q;exact⟨_,H',J.uncaught I.ok,q⟩
   | ret u=>obtain⟨v,σ',H',J,r,q⟩:=q;exact⟨v,_,H',J.uncaught I.ok,r,q⟩
end
theorem jC5(S:Seq J H1 xs)(p:V->Bool)(G:V->V->Hp->Prop)(hz:xs.length<dL) 
 (hc:∀ x∈xs,∀ (H':Hp) (R:Bool->Hp->Prop),eR H1 H'->(∀ H'',eR H' H''->R (p x) H'')->tc (σf (some x)) H' R)
 (he:∀ x∈xs,∀ (H':Hp) (R:VK),eR H1 H'->p x=true->(∀ y H'',eR H' H''->New H' H'' (G x y)->R y H'')->te (σf (some x)) H' R)
 (q:∀ D H' ys,eR H1 H'->H1 D=none->H' D=some (.lst ys)->ys.length=(xs.filter p).length->(∀ (i:Nat) x y,(xs.filter p)[i]?=some x->ys[i]?=some y->G x y H')->Q (.ref D) H'):jIg J tc te σf H1 Q:=by
 intro D hD
 refine⟨fun i m ys H2=>m=xs.length-i/\i<=xs.length/\eR H1 H2/\H2 D=some (.lst ys)/\ys.length=((xs.take i).filter p).length/\∀ (k:Nat) x y,((xs.take i).filter p)[k]?=some x->ys[k]?=some y->∃ Z:Addr->Prop,(∀ b,Z b->b≠D/\∃ o,H2 b=some o)/\∀ H3,(∀ b,Z b->H3 b=H2 b)->G x y H3,
  ⟨xs.length,rfl,d9 _,iS hD _,eO,rfl,fun k x y _ e=>by simp at e⟩,?_⟩
 rintro i m ys H2 ⟨rfl,hi,sm,nB,hl,hg⟩;exists nB;by_cases j2:i<xs.length
 ·refine .inr ⟨S.go i H2 sm j2,?_,fun x H3 y=>?_⟩
  ·rw [hl];refine gK (eA _ _) ?_;rw [gD];omega
  obtain⟨e,hx⟩:=S.yld i H2 x H3 sm j2 y;subst e;have mem:x∈xs:=mem_of_getElem? hx;refine hc x mem _ _ sm fun H4 s4=>?_;cases hp:p x with
  | false =>
    have ef:(xs.take (i+1)).filter p=(xs.take i).filter p:=by
     rw [jC2 hx,eZ,List.filter_cons_of_neg (by rw [hp];decide),hX,gQ]
    refine hV ⟨xs.length-(i+1),by omega,rfl,j2,sm.trans s4,s4 _ _ nB,by rw [ef];exact hl,fun k x' y' ex ey=>?_⟩;rw [ef] at ex;obtain⟨Z,z1,z2⟩:=hg k x' y' ex ey;refine⟨Z,fun b hb=>?_,fun H6 h6=>z2 H6 fun b hb=>?_⟩
    ·obtain⟨nb,o,ho⟩:=z1 b hb;exact⟨nb,o,s4 _ _ ho⟩
    ·obtain⟨nb,o,ho⟩:=z1 b hb;rw [h6 b hb,s4 _ _ ho,ho]
  | true =>
    have ef:(xs.take (i+1)).filter p=(xs.take i).filter p++[x]:=by
     rw [jC2 hx,eZ,List.filter_cons_of_pos hp,hX]
    have q9:=s4 _ _ nB;refine kL (he x mem _ _ (sm.trans s4) hp fun yv H5 s5 ny=>⟨s5 _ _ q9,xs.length-(i+1),by omega,rfl,j2,tY hD ((sm.trans s4).trans s5) _,eO,by rw [ef,length_append,length_append,hl];rfl,fun k x' y' ex ey=>?_⟩);rw [ef] at ex;by_cases hk:k<((xs.take i).filter p).length
    ·rw [getElem?_append_left (by omega)] at ey;rw [getElem?_append_left hk] at ex;obtain⟨Z,z1,z2⟩:=hg k x' y' ex ey;refine⟨Z,fun b hb=>?_,fun H6 h6=>z2 H6 fun b hb=>?_⟩
     ·obtain⟨nb,o,ho⟩:=z1 b hb;exact⟨nb,o,by rw [eJ nb];exact s5 _ _ (s4 _ _ ho)⟩
     ·obtain⟨nb,o,ho⟩:=z1 b hb;rw [h6 b hb,eJ nb,s5 _ _ (s4 _ _ ho),ho]
    ·have ek:k=((xs.take i).filter p).length:=by
      have:=(List.getElem?_eq_some_iff.mp ey).1;rw [length_append,hl] at this;have:k<((xs.take i).filter p).length+1:=this;omega
     subst ek;rw [getElem?_append_right (by omega),hl,lR] at ey;rw [getElem?_append_right (by omega),lR] at ex;obtain rfl:yv=y':=Option.some.inj ey;obtain rfl:x=x':=Option.some.inj ex;obtain⟨Z,z1,z2⟩:=ny;have nD:∀ b,Z b->b≠D:=fun b hb e=>by
      have:=(z1 b hb).1;rw [e,q9] at this;cases this
     refine⟨Z,fun b hb=>?_,fun H6 h6=>z2 H6 fun b hb=>?_⟩
     ·obtain⟨_,o,ho⟩:=z1 b hb;exact⟨nD b hb,o,by rw [eJ (nD b hb)];exact ho⟩
     ·rw [h6 b hb,eJ (nD b hb)]
 ·have e:i=xs.length:=by omega
  subst e;refine .inl ⟨S.stop H2 sm,q D H2 ys sm hD nB ?_ fun k x y ex ey=>?_⟩
  ·rw [hl,eX (Nat.le_refl _)]
  ·rw [<- eX (Nat.le_refl xs.length)] at ex;obtain⟨Z,_,z2⟩:=hg k x y ex ey;exact z2 H2 fun _ _=>rfl
section
variable {X:Cx}
inductive jJV(xs:List V)(H:Hp)(Q:VK):Prop|mk p kvs:xs=[.ref p]->H p=some (.dK kvs)->(∀ l,H l=none->Q (.ref l) (upd H l (.lst (kvs.map fun q=>kV q.1))))->jJV xs H Q
theorem jCe(hc:X.calm=true):CallR X (.type "list") jJV:=by
 intro b9 s σ H xs us Q I r h;obtain⟨p,kvs,rfl,hp,q⟩:=h;obtain⟨u,rfl,rx⟩:=tK r;cases rx;obtain⟨z,hd,vs,rk,o,es,ep,e',xd,dt,ko,pr,nd⟩:=I.hok p _ hp;have hl:=KV.length rk;refine zS (PySem.W.kdl_dict (knd:=lV X.prog X.w) (kvs:=vs) (ep:=ep) hd) (I.ok.hd hc) ⟨o,es,e',xd,dt,ko,pr,nd⟩ (by omega) (fun h' tk tD c' kp e it=>?_);refine⟨.ref s.heap.objs.size,_,I.laid (t':=tk) kp (Nat.le_refl _) (show lU X.prog X.w _ h' _ (.lst (kvs.map fun q=>kV q.1)) from ⟨by rw [c7];exact z,tD.toList,c',jGV ?_ fun k x u hx hu=>?_,e⟩),rfl,q _ (I.hok.fresh (Nat.le_refl _))⟩
 ·have h1:tD.toList.length=vs.length:=it.1;rw [c7,h1];exact hl
 ·have hu':tD[k]?=some u:=by simpa using hu
  obtain⟨k',x',e1,e2⟩:=it.2 k u hu';rw [getElem?_map] at hx;obtain⟨y,ey,rfl⟩:=dW.mp hx;have q1:(kvs.map (·.1))[k]?=(vs.map (·.1))[k]?:=by rw [KV.keys rk]
  rw [getElem?_map,getElem?_map,ey,e1] at q1;have q2:y.1=k':=Option.some.inj q1;show g9 (kV y.1) u;rw [q2];exact jJb e2
end
open PySem PySem.Calls PyProof.Rows PyProof.V PySem.Spec PySem.W
section
variable {X:Cx}
inductive rSetD(x:V)(vs:List V)(H:Hp)(Q:VK):Prop|mk d kvs k y:x=.ref d->vs=[kV k,y]->H d=some (.dK kvs)->kvs.length<1000->(∀ u,lI kvs k=some u->Q u H)->(lI kvs k=none->Q y (upd H d (.dK (kvs++[(k,y)]))))->rSetD x vs H Q
theorem jKg:MtR X "dict.setdefault" rSetD:=by
 intro b9 s σ H x vs v us Q I rx rv h;obtain⟨d,kvs,k,y,rfl,rfl,hd,hz,q1,q2⟩:=h;cases rx;obtain⟨u,w',rfl,r1,r2⟩:=vals2 rv;obtain⟨z1,m1,vs1,k1,d1⟩:=jFq I.hok hd;have l1:=k1.length;have hv:=k1.val k;refine jB PySem.F.slot_dict_setdefault d1.typeIs PySem.F.entry_dict_setdefault (PySem.F.args_dict_setdefault_3 _ _ _) (kt_meets_setdefault (lV X.prog X.w) d (y8 r1) m1 w')
  ⟨vs1,d1,(by rw [<- l1,iP];omega),(fun v' hv'=>?_),(fun hn h' hm hs=>?_)⟩
 ·rw [hv'] at hv;cases e:lI kvs k with
  | none=>rw [e] at hv;exact hv.elim
  | some y' =>
    rw [e] at hv;exact⟨y',H,I.tok _,hv,q1 y' e⟩
 ·rw [hn] at hv;cases e:lI kvs k with
  | some y'=>rw [e] at hv;exact hv.elim
  | none =>
    have kp:=k1.put k r2;rw [jKQ y e] at kp;refine⟨y,_,?_,r2,q2 e⟩;exact jE3 I (by rw [hd];exact True.intro) hs (let ⟨o,_,_,hq,_⟩:=hm;⟨o,hq⟩) (jE4 (by rw [length_append,iP];show kvs.length+1<=_;omega) m1 kp hm)
noncomputable def hasD(kb:List (Key×V))(p:Key×V):Bool:=match lI kb p.1 with
 | some y=>eqV p.2 y
 | none=>false
noncomputable def eqD(ka kb:List (Key×V)):Bool:=ka.length==kb.length&&ka.all (hasD kb)
theorem jPP{kb:List (Key×V)}{k:Key}{y:V}(e:lI kb k=some y):∃ p∈kb,p.2=y:=by
 unfold lI at e;cases f:kb.find? (fun kv=>decide (kv.1=k)) with
 | none=>rw [f] at e;cases e
 | some p=>rw [f] at e;exact⟨p,List.mem_of_find?_eq_some f,Option.some.inj e⟩
theorem jMV{A:Around}{s:Shared}{kb:List (Key×V)}{vb:List (Key×Value)}(rb:KV kb vb)(fb:∀ p∈kb,tJ p.2=true):∀ {ka:List (Key×V)} {va:List (Key×Value)},KV ka va->(∀ p∈ka,tJ p.2=true)->PySem.W.KeqHits A s vb va (ka.all (hasD kb))
 | _,_,.nil,_=>.nil
 | (k,x)::ka,(k',u)::va,.cons ⟨e,r⟩ t,fa=>by
   have e':k=k':=e;subst e';have ih:=jMV (A:=A) (s:=s) rb fb t fun p hp=>fa p (.tail _ hp);have hv:=rb.val k;rw [uP];cases f:lI kb k with
   | none =>
     rw [f] at hv;cases g:mT vb k with
     | some y=>rw [g] at hv;exact hv.elim
     | none =>
       have:hasD kb (k,x)=false:=by unfold hasD;rw [show (k,x).1=k from rfl,f]
       rw [this,Bool.false_and];exact .miss g
   | some y =>
     rw [f] at hv;cases g:mT vb k with
     | none=>rw [g] at hv;exact hv.elim
     | some y' =>
       rw [g] at hv;have:hasD kb (k,x)=eqV x y:=by unfold hasD;rw [show (k,x).1=k from rfl,f]
       rw [this];obtain⟨p,hp,hy⟩:=jPP f;exact .hit g (jIa r hv (fa _ (.head _)) (by rw [<- hy];exact fb p hp)) ih
noncomputable def rEqDk(neg:Bool):R2:=fun x y H Q=>∃ a b ka kb,x=.ref a/\y=.ref b/\H a=some (.dK ka)/\H b=some (.dK kb)/\(∀ p∈ka,tJ p.2=true)/\(∀ p∈kb,tJ p.2=true)/\Q (.bl (if neg then !eqD ka kb else eqD ka kb)) H
theorem op_ne_d(hu:X.A.units<cLine):OpR X (fB .NotEq) (rEqDk true):=by
 intro b9 s σ H x y v u Q I rx ry h;obtain⟨a,b,ka,kb,rfl,rfl,ha,hb,fa,fb,q⟩:=h;cases rx;cases ry;obtain⟨_,m1,va,k1,d1⟩:=jFq I.hok ha;obtain⟨_,m2,vb,k2,d2⟩:=jFq I.hok hb;refine keq_ne m1 m2 d1 d2 hu (fun _=>jMV k2 fb k1 fa) ⟨.bl _,H,I,rfl,?_⟩;rw [<- k1.length,<- k2.length];exact q
theorem jNu{J:It}{tc:TT}{te:TE}{K:PySem.W.Frag}{σf:Option V->Option V->St}{H1:Hp}{Q:VK}{xs:List V}(S:Seq J H1 xs)(p:V->Bool)(g:V->V)(hz:xs.length<dL)
 (he:∀ x∈xs,∃ (a:Addr) (u v:V),x=.ref a/\H1 a=some (.tup [u,v])/\(∀ (H':Hp) (R:Bool->Hp->Prop),eR H1 H'->R (p x) H'->tc (σf (some u) (some v)) H' R) /\
  ∀ (H':Hp) (R:VK),eR H1 H'->p x=true->R (g x) H'->te (σf (some u) (some v)) H' R)
 (q:∀ D H',eR H1 H'->H1 D=none->H' D=some (.lst ((xs.filter p).map g))->Q (.ref D) H'):jIk K J tc te σf H1 Q:=by
 intro D hD;exists fun i m ys H2=>m=xs.length-i/\i<=xs.length/\eR H1 H2/\H2 D=some (.lst ys)/\ys=((xs.take i).filter p).map g,⟨xs.length,rfl,d9 _,iS hD _,eO,rfl⟩
 rintro i m ys H2 ⟨rfl,hi,sm,nB,rfl⟩;exists nB;by_cases j2:i<xs.length
 ·refine .inr ⟨S.go i H2 sm j2,?_,fun x H3 y=>?_⟩
  ·rw [c7];refine gK (eA _ _) ?_;rw [gD];omega
  ·obtain⟨e,hx⟩:=S.yld i H2 x H3 sm j2 y;subst e;have mem:x∈xs:=mem_of_getElem? hx;obtain⟨pa,pu,pv',ea,ha,hc,he⟩:=he x mem;exists pa,pu,pv',ea,SqT.of (sm _ _ ha);refine hc _ _ sm ?_;cases hp:p x with
   | false =>
     refine hV ⟨xs.length-(i+1),by omega,rfl,j2,sm,nB,?_⟩;rw [jC2 hx,eZ,List.filter_cons_of_neg (by rw [hp];decide),hX,gQ]
   | true =>
     refine kL (he _ _ sm hp ⟨nB,xs.length-(i+1),by omega,rfl,j2,tY hD sm _,eO,?_⟩);rw [jC2 hx,eZ,List.filter_cons_of_pos hp,hX,eB];rfl
 ·have e:i=xs.length:=by omega
  subst e;refine .inl ⟨S.stop H2 sm,q D H2 sm hD ?_⟩;rw [nB,eX (Nat.le_refl _)]
end
noncomputable def VW(v d:Addr):HO:=.ext fun h=>h.IsValuesView v d
section
variable {X:Cx}
noncomputable def rValues:V->List V->Hp->VK->Prop:=fun x vs H Q=>∃ d kvs,x=.ref d/\vs=[]/\H d=some (.dK kvs)/\∀ v,H v=none->Q (.ref v) (upd H v (VW v d))
theorem jJW:MtR X "dict.values" rValues:=by
 intro b9 s σ H x vs v us Q I rx rv h;obtain⟨d,kvs,rfl,rfl,hd,q⟩:=h;cases rx;cases rv;obtain⟨z1,m1,vs1,k1,d1⟩:=jFq I.hok hd;refine jB iV d1.typeIs PySem.F.entry_dict_values (PySem.F.args_dict_values_1 _) (meets_dict_values (lV X.prog X.w) d m1) ⟨⟨vs1,d1⟩,?_⟩;refine⟨.ref s.heap.objs.size,_,I.laid (t':=s.toks) (o:=VW s.heap.objs.size d) (fun b ob q=>get?_push_of_some _ q) (Nat.le_refl _) ?_,rfl,q _ (I.hok.fresh (Nat.le_refl _))⟩;refine⟨⟨_,get?_push_size _ rfl,rfl,rfl⟩,⟨_,get?_push_size _ rfl⟩,fun h1 h2 ⟨o,ho,r⟩ k=>⟨o,k o ho,r⟩⟩
theorem jKx:∀ {kvs:List (κ×V)} {vs:List (κ×Value)} {k:Nat} {p:κ×V} {q:κ×Value},Paired R kvs vs->kvs[k]?=some p->vs[k]?=some q->R p q
 | _,_,k,_,_,.nil,e,_=>by simp at e
 | _,_,0,_,_,.cons r _,e,e'=>by
   obtain rfl:=Option.some.inj e;obtain rfl:=Option.some.inj e';exact r
 | _,_,k+1,_,_,.cons _ t,e,e'=>jKx (k:=k) t e e'
noncomputable def jOJ:List V->Hp->VK->Prop:=fun xs H Q=>∃ v d kvs,xs=[.ref v]/\H v=some (VW v d)/\H d=some (.dK kvs)/\∀ l,H l=none->Q (.ref l) (upd H l (.lst (kvs.map fun q=>q.2)))
theorem jE6(hc:X.calm=true):CallR X (.type "list") jOJ:=by
 intro b9 s σ H xs us Q I r h;obtain⟨v,p,kvs,rfl,hv,hp,q⟩:=h;obtain⟨u,rfl,rx⟩:=tK r;cases rx;obtain⟨z,hd,vs,rk,o,es,ep,e',xd,dt,ko,pr,nd⟩:=I.hok p _ hp;obtain⟨kv,_,_⟩:=(show lU X.prog X.w H s.heap v (VW v p) from I.hok v _ hv)
 have hl:=KV.length rk;refine zS (PySem.W.kdl_values (knd:=lV X.prog X.w) (r:=v) (d:=p) (kvs:=vs) (ep:=ep)) (I.ok.hd hc) ⟨kv,⟨o,es,e',xd,dt,ko,pr,nd⟩⟩ (by omega) (fun h' tk tD c' kp e it=>?_);refine⟨.ref s.heap.objs.size,_,I.laid (t':=tk) kp (Nat.le_refl _) (show lU X.prog X.w _ h' _ (.lst (kvs.map fun q=>q.2)) from ⟨by rw [c7];exact z,tD.toList,c',jGV ?_ fun k x u hx hu=>?_,e⟩),rfl,q _ (I.hok.fresh (Nat.le_refl _))⟩
 ·have h1:tD.toList.length=vs.length:=it.1;rw [c7,h1];exact hl
 ·have hu':tD[k]?=some u:=by simpa using hu
  obtain⟨k',e1⟩:=it.2 k u hu';rw [getElem?_map] at hx;obtain⟨y,ey,rfl⟩:=dW.mp hx;exact (jKx rk ey e1).2
end
noncomputable def IW(v d:Addr):HO:=.ext fun h=>h.IsItemsView v d
noncomputable def Itm(d:Addr)(o:Obj)(kvs:List (Key×V)):It :=
 ⟨fun i H=>H d=some (.frz o (.dK kvs))/\i<kvs.length,fun i H x H'=>∃ p k v,x=.ref p/\H p=none/\H'=upd H p (.tup [kV k,v])/\kvs[i]?=some (k,v),fun i H=>H d=some (.frz o (.dK kvs))/\kvs.length=i⟩
theorem jNv{P:Program}{w:World}{K:PySem.W.Frag}{sV:List Expr}{x1}{pos:Pos}(d it:Addr)(o:Obj)(kvs:List (Key×V)){vs:List (Key×Value)}{es:Array DictEntry}{ep:Nat}(rk:KV kvs vs)(hd:o.ExactDict)(he:o.data=.dict es ep)(hk:KeysOf (lV P w) es)(hp:Pairs (lV P w) es.toList vs)(nd:(vs.map (·.1)).Nodup) :
 xT P w K (.Tuple sV x1 pos) (Itm d o kvs) [it] it (fun i h=>∃ ok ov,IsItemIter h it d i vs.length ep ok ov) where
 mem:=by simp
 obj:=fun i h st b hb=>by
  have e:b=it:=by simpa using hb
  subst e;obtain⟨ok,ov,k⟩:=st;exact⟨_,k,fun v z=>by cases z⟩
 keep:=fun i h h' st k=>by
  obtain⟨ok,ov,q⟩:=st;exact⟨ok,ov,k it (by simp) _ q⟩
 item:=by
  intro X hP hw hK hc i b9 s σ H E I hf st hg;subst hP hw hK;obtain⟨hz,hi⟩:=hg;obtain⟨eo,_⟩:=I.hok d _ hz;obtain⟨f0,f1,f2,f3,f4,f5⟩:=hf it (by simp);obtain⟨ok,ov,k⟩:=st;have hl:=KV.length rk;have wV:i<vs.length:=by omega
  have ev:vs[i]?=some (vs[i].1,vs[i].2):=getElem?_eq_getElem wV;have ks:kvs[i]?=some (kvs[i].1,kvs[i].2):=getElem?_eq_getElem hi;have keq:kvs[i].1=vs[i].1:=by
   have q:=KV.keys rk;have q1:(kvs.map (·.1))[i]?=(vs.map (·.1))[i]?:=by rw [q]
   rw [getElem?_map,getElem?_map,ks,ev] at q1;exact Option.some.inj q1
  have rvl:g9 kvs[i].2 vs[i].2:=(jKx rk (getElem?_eq_getElem hi) (getElem?_eq_getElem wV)).2;refine wpAny_pyNext_items_item k ⟨o,es,eo,hd,he,hk,hp,nd⟩ ev fun lT hz2 u4 ko tup sz kp=>?_;exists _,rfl;refine wpAny_letOwnedTupleGo_items ko fun h3 k3 s3=>?_;have lt1:it<s.heap.objs.size:=d0 k;have tup3:h3.get? s.heap.objs.size=some { cls:=.type "tuple",data:=.seq #[lT,vs[i].2] }:=(s3.2 _ (iJ lt1)).trans tup;have fr:H s.heap.objs.size=none:=I.hok.fresh (Nat.le_refl _);have I2:Inv X b9 σ (upd H s.heap.objs.size (.tup [kV kvs[i].1,kvs[i].2])) { s with heap:=h3 }:=by
   refine I.step (t':=s.toks) (g':=s.gens) (d':=s.drawn) (ch:=[it]) (fun b hb=>?_) (fun b o _ _ hc e _=>?_) (fun b o _ _ hc e _=>?_) (fun b o _ e n=>?_) (fun b o hc e=>?_) (fun b xs e=>?_) (fun b o xs e=>?_) (fun b ps e=>⟨#[],?_⟩) (fun m hm=>?_) (fun b v e=>?_) I.bare
   ·rw [mem_singleton.mp hb];exact⟨f3,f1,f4,f5⟩
   ·exact (s3.2 b (fun z=>hc (by simp [z]))).trans (kp b o (fun z=>hc (by simp [z])) e)
   ·exact⟨o.slots,(s3.2 b (fun z=>hc (by simp [z]))).trans (kp b o (fun z=>hc (by simp [z])) e)⟩
   ·rw [eJ (eV (d0 e))];exact n
   ·exact⟨o,(s3.2 b (fun z=>hc (by simp [z]))).trans (kp b o (fun z=>hc (by simp [z])) e)⟩
   ·rw [eJ (gM e fr)];exact e
   ·rw [eJ (gM e fr)];exact e
   ·rw [eJ (gM e fr),e];simp
   ·obtain⟨o,es,ep,ho,q⟩:=hm;exact⟨o,es,ep,(s3.2 _ (symm f1)).trans (kp _ o (symm f1) ho),q⟩
   ·by_cases hb:b=s.heap.objs.size
    ·subst hb;rw [eO] at e;cases e;exact⟨small (by show 2<=1000;decide),[lT,vs[i].2],.cons (by rw [keq];exact jJb u4) (.cons rvl .nil),_,tup3,rfl,_,rfl⟩
    ·rw [eJ hb] at e;have nn:∀ c v,H c=some v->c≠it:=fun c v q z=>by rw [z,f0] at q;cases q
     refine (I.hok b v e).stay (fun c v' hc q=>?_) (fun c q=>by rw [eJ (gM q fr)];exact q) (fun c xs q=>by rw [eJ (gM q fr)];exact q);have m:c≠it:=by
      rcases hc with z|z
      ·rw [z];exact nn b v e
      ·exact nn c _ z
     exact (s3.2 c m).trans (kp c v' m q)
  refine⟨.ref s.heap.objs.size,_,I2,rfl,⟨_,_,_,rfl,fr,rfl,ks⟩,⟨_,_,k3⟩,fun b hb=>?_⟩;rw [eJ (fun z=>?_)]
  ·exact (hf b hb).1
  ·rw [z] at hb;exact iJ lt1 (mem_singleton.mp hb)
 done:=by
  intro X hP hw hK hc i b9 s σ H E I hf st hg;subst hP hw hK;obtain⟨hz,hi⟩:=hg;obtain⟨eo,_⟩:=I.hok d _ hz;obtain⟨f0,f1,f2,f3,f4,f5⟩:=hf it (by simp);obtain⟨ok,ov,k⟩:=st;have hl:=KV.length rk;have hin:vs[i]?=none:=getElem?_eq_none (by omega);exact wpAny_pyNext_items_end (I.ok.hd hc) k ⟨o,es,eo,hd,he,hk,hp,nd⟩ hin fun h' eb=>⟨rfl,I.turned (t':=s.toks) (fun b o hb e=>eb b o hb e) f0 f1 f3 f4 f5⟩
 self:=fun A i s Q E st h=>by
  obtain⟨ok,ov,k⟩:=st;exact PySem.W.kcp_self k h
section
variable {X:Cx}{sV:List Expr}{x1:Nat}{rA:Pos}
noncomputable def jOK:V->List V->Hp->VK->Prop:=fun x vs H Q=>∃ d o kvs,x=.ref d/\vs=[]/\H d=some (.frz o (.dK kvs))/\∀ v,H v=none->Q (.ref v) (upd H v (IW v d))
theorem jPQ:MtR X "dict.items" jOK:=by
 intro b9 s σ H x vs v us Q I rx rv h;obtain⟨d,o,kvs,rfl,rfl,hz,q⟩:=h;cases rx;cases rv;obtain⟨eo,z,hd,vs1,rk,o',es,ep,e',xd,dt,ko,pr,nd⟩:=I.hok d _ hz;have d1:s.heap.DictAt (lV X.prog X.w) d vs1 ep:=⟨o',es,e',xd,dt,ko,pr,nd⟩
 have d2:s.heap.DictOf (lV X.prog X.w) d vs1:=d1.dictOf;refine jB PySem.F.slot_dict_items d2.typeIs PySem.F.entry_dict_items (PySem.F.args_dict_items_1 _) (meets_dict_items (lV X.prog X.w) d hd) ⟨⟨vs1,d2⟩,?_⟩;refine⟨.ref s.heap.objs.size,_,I.laid (t':=s.toks) (o:=IW s.heap.objs.size d) (fun b ob q=>get?_push_of_some _ q) (Nat.le_refl _) ?_,rfl,q _ (I.hok.fresh (Nat.le_refl _))⟩;refine⟨⟨_,get?_push_size _ rfl,rfl,rfl⟩,⟨_,get?_push_size _ rfl⟩,fun h1 h2 ⟨o,ho,r⟩ k=>⟨o,k o ho,r⟩⟩
noncomputable def iItems(tl:TE):TI:=fun σ H R=>tl σ H fun x H1=>∃ v d o kvs,x=.ref v/\H1 v=some (IW v d)/\H1 d=some (.frz o (.dK kvs))/\R (Itm d o kvs) H1
theorem jPR{l:Expr}{tl:TE}(hl:PE X l tl):PI X (.Tuple sV x1 rA) l (iItems tl):=by
 intro b9 s σ H R I h;refine thn (hl b9 s σ H _ I h) fun v s1 ⟨x,H1,I1,r1,q1⟩=>?_;obtain⟨v,d,o,kvs,rfl,hv,hz,q⟩:=q1;cases r1;obtain⟨eo,z,hd,vs,rk,o',es,ep,e',xd,dt,ko,pr,nd⟩:=I1.hok d _ hz;rw [eo] at e';cases e';obtain⟨kv,_,_⟩:=(show lU X.prog X.w H1 s1.heap v (IW v d) from I1.hok v _ hv)
 refine wpAny_pyIter_items kv (knd:=lV X.prog X.w) ⟨o,es,eo,xd,dt,ko,pr,nd⟩ ?_;refine⟨s1.heap.objs.size,[s1.heap.objs.size],_,_,H1,rfl,I1.kept (t':=s1.toks) fun b o e=>get?_push_of_some _ e,jNv d _ o kvs rk xd dt ko pr nd,⟨_,_,get?_push_size _ rfl⟩,fun b hb=>?_,q⟩;have e:b=s1.heap.objs.size:=by simpa using hb
 subst e;exact I1.fpOk (Nat.le_refl _) (I1.hok.fresh (Nat.le_refl _))
end
section
variable {X:Cx}
noncomputable def tItems0(to:TE):TE:=fun σ H Q=>to σ H fun x H1=>jOK x [] H1 Q
theorem jOL(ho:PE X o to)(oE:iE o "items" X.env (fA o X.env)=fA o X.env:=by rfl)(n9:(hZ.endLine==iZ.line)=true:=by rfl):PE X (.Call (.Attribute o "items" hZ) [] [] iZ) (tItems0 to):=by
 intro b9 s σ H Q I h;refine nI oE n9 (thn (ho b9 s σ H _ I h) fun v s1 ⟨x,H1,I1,r1,q1⟩=>?_);have q2:=q1;obtain⟨d,o,kvs,rfl,_,hz,_⟩:=q2;have r2:=r1;cases r1;obtain⟨_,_,_,_,_,o',_,_,e',xd,_⟩:=I1.hok d _ hz;exact⟨"dict","dict.items",gX,PySem.F.slot_dict_items,PySem.F.type_dict_items,⟨o',e',xd.1⟩,fun a e=>by cases e;exact⟨o',e',xd.2.1⟩,Calls.callWith_builtin rfl (PySem.evalArgs_none (jPQ b9 s1 σ H1 (.ref d) [] _ [] Q I1 r2 .nil q1))⟩
end
noncomputable def jIm(P:Program)(w:World)(K:PySem.W.Frag)(mg:Str->Option Value)(base:Heap)(x y:Str)(qual:Str)(scope:Scope)(f:Addr)(cd:Value)(cl:List (Str×Addr))(A:Around)(outer:List Env)(s:Shared)(H:Hp):Cx where
 prog:=P
 w:=w
 K:=K
 mg:=mg
 base:=base
 A:=A.deeper (envX qual scope s.heap.objs.size f cd cl)
 N:=[x,y]
 s₀:=s
 H₀:=H
 env:=envX qual scope s.heap.objs.size f cd cl
 outer:=outer
 stack:=envX qual scope s.heap.objs.size f cd cl::outer
 ex:=[]
 fn:=fun z=>z==x
 calm:=true
 pn:=[]
 xe:=fun _ _=>False
structure jDp(x y:Str)(scope:Scope):Prop where
 kind:scope.kind=.function
 co:scope.isCoroutine=false
 gen:scope.isGenerator=false
 lx:scope.names.lookup x=some .local
 ly:scope.names.lookup y=some .free
 nocell:∀ z∈scope.names,z.2≠.cell
 one:∀ z,scope.names.lookup z=some .free->z=y
 ne:x≠y
theorem jOM{P:Program}{w:World}{K:PySem.W.Frag}{mg:Str->Option Value}{base:Heap}{x y qual:Str}{scope:Scope}{f c:Addr}{cd:Value}{A:Around}{outer:List Env}{s:Shared}{H:Hp}{jM:Heap}{tk:Nat}{u uy:Value}{v vy:V}
 (S:jDp x y scope) (hd:A.handled=none) (e0:jEY P w K mg base A outer s H) (ru:g9 v u) (ruy:g9 vy uy) (hc:s.heap.IsCell c (some uy)) (hcH:H c=none)
 (hns:jM.Ns s.heap.objs.size (fun z=>[(x,u)].reverse.lookup z)) (hk:∀ b o,s.heap.get? b=some o->jM.get? b=some o) :
 Inv (jIm P w K mg base x y qual scope f cd [(y,c)] A outer s H) [] [some v,some vy] H { s with heap:=jM,toks:=tk }:=by
 have noA:∀ b:Addr,b ∉ (jIm P w K mg base x y qual scope f cd [(y,c)] A outer s H).ex:=fun b z=>absurd (show b∈([]:List Addr) from z) (by simp);have oY:∀ z d,(jIm P w K mg base x y qual scope f cd [(y,c)] A outer s H).env.cells.lookup z=some d->z=y/\d=c:=fun z d h=>by
  have h':List.lookup z [(y,c)]=some d:=h;rw [gY] at h';by_cases e:z=y
  ·rw [beq_iff_eq.mpr e] at h';exact⟨e,(Option.some.inj h').symm⟩
  ·rw [beq_eq_false_iff_ne.mpr e] at h';cases h'
 have hly:List.lookup y [(y,c)]=some c:=by rw [gY,beq_self_eq_true]
 obtain⟨oc,hoc,hdc⟩:=id hc;have v0:jM.IsCell c (some uy):=⟨oc,hk _ _ hoc,hdc⟩
 refine⟨⟨e0.mod,S.kind,rfl,rfl,Nat.le_refl _,fun a b d h1 h2=>(oY a d h1).1.trans (oY b d h2).1.symm,fun z hz=>?_,fun z d hf hz=>?_,fun _=>hd,Around.frames_deeper e0.frames,.inr ⟨rfl,rfl⟩,fun b z=>absurd z (noA b),e0.bs,e0.bsz,fun b _ _=>noA b,fun b z=>absurd z (noA b),e0.funs,e0.frf⟩,
  rfl,e0.bare,Un.kept hk,⟨_,hns,fun i z r h1 h2 h3=>?_⟩,fun z d h=>?_,e0.hok.fresh (Nat.le_refl _),fun z d h=>?_,fun p hp=>absurd (show p∈([]:List (Addr×Obj)) from hp) (by simp),e0.hok.kept hk,rfl⟩
 ·have hz:scope.names.lookup z=some .cell\/scope.names.lookup z=some .free:=hz;rcases hz with hz|hz
  ·exact absurd rfl (S.nocell _ (PySem.mem_of_lookup hz))
  ·rw [S.one z hz];exact⟨c,hly⟩
 ·have e:=(oY z d hz).1;have hf':(z==x)=true:=hf;exact absurd ((beq_iff_eq.mp hf').symm.trans e) S.ne
 ·match i,h1,h2 with
  | 0,h1,h2 =>
    obtain rfl:x=z:=Option.some.inj h1;obtain rfl:v=r:=Option.some.inj (Option.some.inj h2);exact⟨u,ru,.inl ⟨S.lx,by show List.lookup x [(x,u)]=some u;rw [gY,beq_self_eq_true]⟩⟩
  | 1,h1,h2 =>
    obtain rfl:y=z:=Option.some.inj h1;obtain rfl:vy=r:=Option.some.inj (Option.some.inj h2);exact⟨uy,ruy,.inr ⟨.inr S.ly,c,hly,v0⟩⟩
 ·rw [(oY z d h).2];exact⟨_,v0⟩
 ·rw [(oY z d h).2];exact hcH
theorem lam_run{P:Program}{w:World}{K:PySem.W.Frag}{mg:Str->Option Value}{base:Heap}{x y qual:Str}{params:Arguments}{body:Expr}{scope:Scope}{f c c':Addr}{pm xC:Value}{A:Around}{outer:List Env}{s:Shared}{H:Hp}{u uy:Value}{v vy:V}{t:TE}{Q:VK}
 (S:jDp x y scope) (hd:A.handled=none) (hdep:A.depth<pP) (e0:jEY P w K mg base A outer s H) (ru:g9 v u) (ruy:g9 vy uy) (hc:s.heap.IsCell c (some uy)) (hcH:H c=none)
 (hf:s.heap.get? f=some (qU "<lambda>" qual params body scope [(y,c)] pm c' xC)) (pA:s.heap.CodeRec (.ref c') qual)
 (uB:bindArgs (kla_fn "<lambda>" qual params body scope [(y,c)] pm (.ref c') xC) ⟨[u],[]⟩=pure [(x,u)])
 (hb:PE (jIm P w K mg base x y qual scope f (.ref c') [(y,c)] A outer s H) body t) (hq:t [some v,some vy] H Q) :
 iR (dQ P w) A (.call (.ref f) ⟨[u],[]⟩) (fun r s'=>match r with|.ok (.ret z)=>CE outer P w H s Q z s'|_=>False) s:=by
 have lim:s.heap.NoLimit:=e0.mod.nolimit.keeps fun b o e=>(e0.bs b o e).1;refine PySem.W.kla_callFunE hdep hf rfl S.co S.gen rfl pA ?_;rw [uB];refine dP (pH S.nocell (fun z hz=>?_) (fun jM hns hsb=>⟨lim.fresh _ hsb,?_⟩) S.kind)
 ·rw [mem_singleton.mp hz];exact S.lx
 show iR _ _ (.expr body (envX qual scope s.heap.objs.size f (.ref c') [(y,c)])) _ _;have hk:∀ b o,s.heap.get? b=some o->jM.get? b=some o:=fun b o e=>hsb.extBut b o (eV (d0 e)) (get?_push_of_some _ e);have I:=jOM (qual:=qual) (f:=f) (cd:=.ref c') (tk:=s.toks+1) S hd e0 ru ruy hc hcH hns hk;refine PySem.W.kla_codeExpr (e8 (hb [] _ _ H Q I hq) (fun z s' h=>?_) fun e s' h=>(show False from h).elim);obtain⟨vv,H',J,rv,q⟩:=h;exact⟨vv,H',J.os,J.bare,J.base,J.hok,rv,q⟩
section
variable {X:Cx}{b9:List (Addr×Obj)}{σ:St}
theorem jK4(J:Inv X (b9++[p,q]) σ H s):Inv X (b9++[q,p]) σ H s:=J.pins_of fun r hr=>J.pin r (dH _ (by
 rcases eN.mp hr with hr|hr
 ·exact eS _ hr
 ·refine dH _ ?_;rcases dX.mp hr with rfl|hr
  ·exact .tail _ (.head _)
  ·rw [mem_singleton.mp hr];exact .head _))
theorem jK5(J:Inv X (b9++l) σ H s):Inv X b9 σ H s:=J.pins_of fun r hr=>J.pin r (dH _ (eS _ hr))
theorem jK6(J:Inv X (b9++[(S,so),(I,io)]) σ H s)(k:∀ b o,b≠S->s.heap.get? b=some o->h'.get? b=some o)(e:h'.get? S=some so')(nc:∀ v,so'.data≠.cell v) 
 (h1:X.s₀.heap.objs.size<=S) (h2:∀ x c,X.env.cells.lookup x=some c->c≠S) (h3:∀ p∈X.pn++b9,p.1≠S) (hIS:I≠S):Inv X (b9++[(S,so'),(I,io)]) σ H { s with heap:=h',toks:=t' }:=by
 have pS:=J.pin (S,so) (dH _ (dH _ (.head _)));have pI:=J.pin (I,io) (dH _ (dH _ (.tail _ (.head _))));have J2:=(jK5 J).turned (t':=t') k pS.2.1 pS.2.2.1 (.inr h1) h2 h3;refine J2.pins_of fun r hr=>?_;rcases eN.mp hr with hr|hr
 ·exact J2.pin r (dH _ hr)
 ·rcases dX.mp hr with rfl|hr
  ·exact⟨e,pS.2.1,pS.2.2.1,pS.2.2.2.1,nc⟩
  ·rw [mem_singleton.mp hr];exact⟨k _ _ hIS pI.1,pI.2⟩
structure OwnA(X:Cx)(b9:List (Addr×Obj))(S:Addr):Prop where
 h1:X.s₀.heap.objs.size<=S
 h2:∀ x c,X.env.cells.lookup x=some c->c≠S
 h3:∀ p∈X.pn++b9,p.1≠S
end
noncomputable def CD(c:Addr)(qual:Str):HO:=.ext fun h=>h.CodeRec (.ref c) qual
noncomputable def FN(f:Addr)(o:Obj):HO:=.ext fun h=>h.get? f=some o
theorem cd_ok(e:h.CodeRec (.ref c) qual):lU P w H h c (CD c qual):=by
 refine⟨e,?_,fun h1 h2 e1 k=>?_⟩
 ·obtain⟨c',oc,vs,tq,hc,hoc,_⟩:=e;cases hc;exact⟨oc,hoc⟩
 ·obtain⟨c',oc,vs,tq,hc,hoc,hd,hq⟩:=e1;cases hc;exact⟨c,oc,vs,tq,rfl,k _ hoc,hd,hq⟩
theorem fn_ok(e:h.get? f=some o):lU P w H h f (FN f o):=⟨e,⟨o,e⟩,fun _ _ e1 k=>k _ e1⟩
noncomputable def tab1(pos:Pos)(c:Addr):Array Value:=#[jE pos.line,jE pos.col,.ref c]
noncomputable def jFv(H:Hp)(P:Addr)(pos:Pos)(qual:Str)(c:Addr):Prop:=H P=some (.tbl (tab1 pos c))/\H c=some (CD c qual)
noncomputable def jDx(H:Hp)(P:Addr)(pos:Pos)(qual:Str):Prop:=H P=some (.tbl #[])\/∃ c,jFv H P pos qual c
noncomputable def vJ(P:Addr)(H H':Hp):Prop:=∀ b o,b≠P->H b=some o->H' b=some o
theorem vJ.trans(a:vJ P H H1)(b:vJ P H1 H2):vJ P H H2:=fun x o n e=>b x o n (a x o n e)
theorem eR.p(a:eR H H'):vJ P H H':=fun b o _ e=>a b o e
theorem jFv.same(t:jFv H P pos qual c)(s:eR H H'):jFv H' P pos qual c:=⟨s _ _ t.1,s _ _ t.2⟩
theorem jDx.same(t:jDx H P pos qual)(s:eR H H'):jDx H' P pos qual:=t.imp (s _ _) fun⟨c,z⟩=>⟨c,z.same s⟩
noncomputable def yS(base:Heap)(mg:Str->Option Value):Prop:=∃ bm ob,mg "__builtins__"=some (.ref bm)/\bm≠rN/\base.get? bm=some ob/\ob.cls=.type "module"/\ob.dict=some rN/\ob.data=.plain
section
variable {X:Cx}{b9:List (Addr×Obj)}{σ:St}{H:Hp}{s:Shared}
theorem Inv.bat(I:Inv X b9 σ H s)(B:yS X.base X.mg)(hP:s.heap.get? P=some (oH ps)):s.heap.BuiltinsAt X.mg P:=by
 obtain⟨bm,ob,h1,h2,h3,h4,h5,h6⟩:=B;have e:=I.bk _ _ h3;refine⟨bm,ob,h1,h2,fun z=>?_,fun z=>?_,e,h4,h5,h6⟩
 ·obtain⟨o,es,ep,ho,hd,_⟩:=I.mod.glob.keeps I.bk;rw [z,ho] at e;cases e;rw [hd] at h6;cases h6
 ·rw [z,hP] at e;cases e;cases h4
theorem Inv.gP(I:Inv X b9 σ H s)(hP:s.heap.get? P=some (oH ps)):dY≠P:=fun z=>by
 obtain⟨o,es,ep,ho,hd,_⟩:=I.mod.glob.keeps I.bk;rw [z,hP] at ho;cases ho;cases hd
theorem Inv.grown(I:Inv X b9 σ H s)(hH:H P=some (.tbl ps))(hx:Heap.ExtBut P s.heap h')(hc:s.heap.objs.size<=c)(hrec:h'.CodeRec (.ref c) qual)(hP:h'.get? P=some (oH (ps++ps'))) :
 Inv X b9 σ (upd (upd H P (.tbl (ps++ps'))) c (CD c qual)) { s with heap:=h',toks:=tk }:=by
 have nc:H c=none:=I.hok.fresh hc;have cP:c≠P:=fun z=>by rw [z,hH] at nc;cases nc
 have ne:∀ b,H b=none->b≠P:=fun b n z=>by rw [z,hH] at n;cases n
 have HH:∀ b,b≠P->b≠c->upd (upd H P (.tbl (ps++ps'))) c (CD c qual) b=H b:=fun b n1 n2=>by rw [eJ n2,eJ n1]
 have nV:∀ b u,H b=some u->b≠c:=fun b u e z=>by rw [z,nc] at e;cases e
 refine I.un (t':=tk) ⟨fun b o e n _ _=>hx b o (ne b n) e,fun b o e n _ _=>⟨o.slots,hx b o (ne b n) e⟩,fun b o e n _=>by rw [HH b (ne b n) (fun z=>not_lt.mpr hc (by rw [<- z];exact d0 e))];exact n,fun b o e _=>?_,fun b xs e=>?_,fun b o u e=>?_,fun b qs e=>?_⟩ (fun b u e=>?_)
 ·by_cases z:b=P
  ·exact⟨_,z ▸ hP⟩
  ·exact⟨o,hx b o z e⟩
 ·rw [HH b (fN e hH (by intro z;cases z)) (nV b _ e)];exact e
 ·rw [HH b (fN e hH (by intro z;cases z)) (nV b _ e)];exact e
 ·by_cases z:b=P
  ·subst z;rw [hH] at e;injection e with e;injection e with e;subst e;exact⟨ps',by rw [eJ (symm cP),eO]⟩
  ·exact⟨#[],by rw [HH b z (nV b _ e),e];simp⟩
 ·by_cases z:b=c
  ·subst z;rw [eO] at e;obtain rfl:=Option.some.inj e;exact cd_ok hrec
  ·rw [eJ z] at e;by_cases z2:b=P
   ·subst z2;rw [eO] at e;obtain rfl:=Option.some.inj e;exact hP
   ·rw [eJ z2] at e;refine (I.hok b u e).stay (fun d v hd q=>hx d v ?_ q) (fun d q=>?_) (fun d xs q=>?_)
    ·rcases hd with rfl|hd
     ·exact z2
     ·exact fN hd hH (by intro z;cases z)
    ·rw [HH d (fN q hH (by intro z;cases z)) (nV d _ q)];exact q
    ·rw [HH d (fN q hH (by intro z;cases z)) (nV d _ q)];exact q
noncomputable def LamO(qual:Str)(params:Arguments)(body:Expr)(scope:Scope)(rM:List (Str×Addr))(c:Addr)(o:Obj):Prop:=∃ pm xC,o=qU "<lambda>" qual params body scope rM pm c xC
theorem pe_lam(I:Inv X b9 σ H s)(B:yS X.base X.mg)(sF:X.env.code=.ref rK)(C:j0 X.K rK P=true)(oY:rL scope X.env=pure rM)(zJ:defaultsOf params X.env=([],[])) 
 (ht:jDx H P pos (X.env.qual ++ "<lambda>")) (q:∀ f o c H',vJ P H H'->H f=none->jFv H' P pos (X.env.qual ++ "<lambda>") c->H' f=some (FN f o)->LamO (X.env.qual ++ "<lambda>") params body scope rM c o->Q (.ref f) H') :
 dM (dQ X.prog X.w) X.A (fA (.Lambda params body scope pos) X.env) (EP X b9 σ Q) X.xe s:=by
 have CH:=sW I.kIn C;have G:=I.mod.glob.keeps I.bk;refine PySem.W.kla_eval zJ ?_;rcases ht with ht|⟨c,ht,hc⟩
 ·have hP:s.heap.get? P=some (oH #[]):=I.hok P _ ht;refine PySem.W.kla_makeFunction (mg:=X.mg) oY I.ok.glob G sF CH hP trivial rfl (I.gP hP) (I.bat B hP) fun c' xC h' tk hx hge j2 hrec htb=>?_;have J:=I.grown (tk:=tk) ht hx hge hrec (ps':=#[jE pos.line,jE pos.col,.ref c']) htb;have nf:upd (upd H P (.tbl (#[] ++ #[jE pos.line,jE pos.col,.ref c']))) c' (CD c' (X.env.qual ++ "<lambda>")) h'.objs.size=none:=J.hok.fresh (Nat.le_refl _);have nf0:H h'.objs.size=none:=I.hok.fresh (eM hge (le_of_lt j2));have nc:H c'=none:=I.hok.fresh hge;have cP:c'≠P:=fun z=>by rw [z,ht] at nc;cases nc
  have fc:h'.objs.size≠c':=iJ j2;have fP:h'.objs.size≠P:=fun z=>by rw [z,ht] at nf0;cases nf0
  exists .ref h'.objs.size,_,J.laid (t':=tk) (a:=h'.objs.size) (o:=FN h'.objs.size (qU "<lambda>" (X.env.qual ++ "<lambda>") params body scope rM ((X.mg "__name__").getD .none) c' xC)) (fun b o e=>get?_push_of_some _ e) (Nat.le_refl _) (fn_ok (get?_push_size _ rfl)),rfl;refine q _ _ c' _ (fun b o nb e=>?_) nf0 ⟨?_,?_⟩ eO ⟨_,_,rfl⟩
  ·have n1:b≠h'.objs.size:=fun z=>by rw [z,nf0] at e;cases e
   have n2:b≠c':=fun z=>by rw [z,nc] at e;cases e
   rw [eJ n1,eJ n2,eJ nb];exact e
  ·rw [eJ (symm fP),eJ (symm cP),eO];rfl
  ·rw [eJ (symm fc),eO]
 ·have hP:s.heap.get? P=some (oH (tab1 pos c)):=I.hok P _ ht;have hrec:s.heap.CodeRec (.ref c) (X.env.qual ++ "<lambda>"):=(I.hok c _ hc).1;refine PySem.W.kla_makeFunctionHit (mg:=X.mg) (cv:=.ref c) oY I.ok.glob G sF CH hP trivial (by show (if _ then _ else _)=_;simp [jE]) (I.bat B hP) fun xC h' tk hk hsz=>?_;have J:=I.kept (t':=tk) hk;have nf:H h'.objs.size=none:=I.hok.fresh hsz;exists .ref h'.objs.size,_,J.laid (t':=tk) (a:=h'.objs.size) (o:=FN h'.objs.size (qU "<lambda>" (X.env.qual ++ "<lambda>") params body scope rM ((X.mg "__name__").getD .none) c xC)) (fun b o e=>get?_push_of_some _ e) (Nat.le_refl _) (fn_ok (get?_push_size _ rfl)),rfl;have ss:=iS nf (FN h'.objs.size (qU "<lambda>" (X.env.qual ++ "<lambda>") params body scope rM ((X.mg "__name__").getD .none) c xC));exact q _ _ c _ ss.p nf ⟨ss _ _ ht,ss _ _ hc⟩ eO ⟨_,_,rfl⟩
end
theorem jPS{T:String}(hp:(args.any (·.1)||yN.any (·.1.isNone))=false) 
 (h:dM M A (evalArgs (.builtin T) true args yN) (fun a s1=>dM M A (call (.builtin T) a.pos a.kw) Q E s1) E s):dM M A (kN pos (.builtin T) [] args yN) Q E s:=by
 unfold kN;refine c8 (gW (e8 h (fun a s1 h1=>c8 (iT ?_)) fun _ _ x=>x));simp only [hp];refine c8 (dP ?_);exact c8 (e8 h1 (fun r s2 hr=>c8 (gW (wpAny_point (dP hr)))) fun _ _ x=>x)
theorem SqL.sameP{K:PySem.W.Frag}{H H':Hp}{P l:Addr}{xs:List V}{ps:Array Value}(h:SqL K H l xs)(hP:H P=some (.tbl ps))(s:vJ P H H'):SqL K H' l xs:=by
 rcases h with (h|⟨o,h⟩)|h
 ·exact .inl (.inl (s _ _ (fN h hP (by intro z;cases z)) h))
 ·exact .inl (.inr ⟨o,s _ _ (fN h hP (by intro z;cases z)) h⟩)
 ·exact .inr h
theorem SqL.same'{K:PySem.W.Frag}{H H':Hp}{l:Addr}{xs:List V}(h:SqL K H l xs)(s:eR H H'):SqL K H' l xs:=by
 rcases h with (h|⟨o,h⟩)|h
 ·exact .inl (.inl (s _ _ h))
 ·exact .inl (.inr ⟨o,s _ _ h⟩)
 ·exact .inr h
theorem jDx.is(t:jDx H P pos qual):∃ ps,H P=some (.tbl ps):=by
 rcases t with t|⟨c,t,_⟩
 ·exact⟨_,t⟩
 ·exact⟨_,t⟩
section
variable {X:Cx}
noncomputable def tLam(P:Addr)(pos:Pos)(qual:Str)(params:Arguments)(body:Expr)(scope:Scope)(rM:List (Str×Addr)):TE:=fun _ H Q=>jDx H P pos qual/\∀ f o c H',vJ P H H'->H f=none->jFv H' P pos qual c->H' f=some (FN f o)->LamO qual params body scope rM c o->Q (.ref f) H'
theorem pe_lamE(B:yS X.base X.mg)(sF:X.env.code=.ref rK)(C:j0 X.K rK P=true)(oY:rL scope X.env=pure rM)(zJ:defaultsOf params X.env=([],[]):=by rfl) :
 PE X (.Lambda params body scope pos) (tLam P pos (X.env.qual ++ "<lambda>") params body scope rM):=fun b9 s σ H Q I h=>pe_lam I B sF C oY zJ h.1 h.2
end
theorem jON{P:Program}{w:World}{K:PySem.W.Frag}{mg mb:Str->Option Value}{CX:CXT}{k:Nat}{fa a:Addr}{fd:FuncData}{x:Str}{sp:Sp}{fQ:Shared}{vs:List Value}{ns:List Int}{ts:List (Addr×Addr)}
 (KX:K.In fQ.heap) (hns:fQ.heap.Ns dY mg) (hb:fQ.heap.Ns rN mb) (hbb:∀ x:Str,x≠"__name__"->mb x=fJ x) (hlim:fQ.heap.NoLimit) (hbm:yS fQ.heap mg) (hg:fQ.gens=#[])
 (hT:∀ t∈ts,fQ.heap.get? t.2=some (oH #[])) (hC:∀ t∈ts,j0 K t.1 t.2=true) (hKt:∀ t∈ts,K.lookup t.2=none)
 (ha:fQ.heap.get? a=some { cls:=.type "list",data:=.seq vs.toArray }) (hi:IntsAre vs ns) (hl:ns.length<=dL) (hr:kX k sX)
 (F:∀ base:Heap,K.In base->base.Ns dY mg->yS base mg->m8 P w K mg base CX k fa fd [x] sp) (uB:∀ (s:Shared) (u:Value),BindsTo s fd ⟨[u],[]⟩ [(x,u)])
 (x0:∀ H:Hp,(∀ t∈ts,H t.2=some (.tbl #[]))->SqL K H a (ns.map V.int)->sp [.ref a] H (fun v _=>v=.bl true) fun _ _ _=>False)
 (hCX:∀ H e s',CX [] H fQ (fun _ _ _=>False) e s'->False) :
 iR (dQ P w) sX (.call (.ref fa) ⟨[.ref a],[]⟩) (fun r s'=>r=.ok (.ret (.bool true))/\OldK fQ.heap s'.heap/\s'.os=fQ.os/\AllBare s'.gens) fQ:=by
 have rv:=jJJ hi;have lenV:=hi.length;have core:∀ H:Hp,(∀ b,H b=none\/(∃ o xs,H b=some (.frz o (.lst xs)))\/((∃ t∈ts,t.2=b)/\H b=some (.tbl #[])))->(∀ t∈ts,H t.2=some (.tbl #[]))->SqL K H a (ns.map V.int)->HOk P w H fQ.heap->(∀ b,H b≠none->b=a\/∃ t∈ts,t.2=b)->(H a≠none->K.lookup a=none) ->
  iR (dQ P w) sX (.call (.ref fa) ⟨[.ref a],[]⟩) (fun r s'=>r=.ok (.ret (.bool true))/\OldK fQ.heap s'.heap/\s'.os=fQ.os/\AllBare s'.gens) fQ:=by
  intro H hO hOt hS hok hA hK;have sZ:∀ {b:Addr} {o:Obj},fQ.heap.get? b=some o->H b=none->(jEV fQ.heap H).get? b=some o:=fun e n=>jPs e n;have trk:∀ {b:Addr} {o:Obj},fQ.heap.get? b=some o->o.cls≠.type "list"->o.cls≠.none->H b=none:=fun {b o} e n1 n2=>by
   cases q:H b with
   | none=>rfl
   | some u =>
     rcases hA b (by rw [q];simp) with e'|⟨t,ht,e'⟩
     ·subst e';rw [ha] at e;cases e;exact absurd rfl n1
     ·subst e';rw [hT t ht] at e;cases e;exact absurd rfl n2
  have noA:∀ {b:Addr} {o:Obj} {es:Array DictEntry} {ep:Nat},fQ.heap.get? b=some o->o.data=.dict es ep->H b=none:=fun {b o es ep} e d=>by
   cases q:H b with
   | none=>rfl
   | some u =>
     rcases hA b (by rw [q];simp) with e'|⟨t,ht,e'⟩
     ·subst e';rw [ha] at e;cases e;have d':Data.seq vs.toArray _=Data.dict es ep:=d;cases d'
     ·subst e';rw [hT t ht] at e;cases e;have d':Data.fields _=Data.dict es ep:=d;cases d'
  have nsK:∀ {b:Addr} {m:Str->Option Value},fQ.heap.Ns b m->(jEV fQ.heap H).Ns b m:=fun {b m} ⟨o,es,ep,e,d,r⟩=>⟨o,es,ep,sZ e (noA e d),d,r⟩
  have hKb:K.In (jEV fQ.heap H):=fun b o e=>sZ (KX b o e) (by
   cases q:H b with
   | none=>rfl
   | some u =>
     rcases hA b (by rw [q];simp) with e'|⟨t,ht,e'⟩
     ·subst e';rw [hK (by rw [q];simp)] at e;cases e
     ·subst e'
      rw [hKt t ht] at e;cases e)
  have hM:Mod K mg (jEV fQ.heap H):=⟨hKb,nsK hns,⟨mb,nsK hb,hbb⟩,let ⟨mc,h1,h2⟩:=hlim;⟨mc,nsK h1,h2⟩⟩
  have hB:yS (jEV fQ.heap H) mg:=by
   obtain⟨bm,ob,h1,h2,h3,h4,h5⟩:=hbm;exact⟨bm,ob,h1,h2,sZ h3 (trk h3 (by rw [h4];decide) (by rw [h4];intro z;cases z)),h4,h5⟩
  have e0:jEY P w K mg (jEV fQ.heap H) sX [] fQ H:=⟨rfl,hM,fun b o e=>of_hidT e,oP (jN5 _ _),trivial,fun b hb=>absurd (show b∈([]:List Addr) from hb) (by simp),hok,.of_eq hg⟩
  refine iB ((F _ hKb (nsK hns) hB).run sX [] fQ H ⟨[.ref a],[]⟩ [.ref a] [.ref a] _ _ hr e0 (uB fQ (.ref a)) (.cons rfl .nil) (x0 H hOt hS)) fun r s' h=>?_;cases r with
  | error e=>exact (hCX H e s' h).elim
  | ok fl =>
    cases fl with
    | next=>exact False.elim h
    | brk=>exact False.elim h
    | cont=>exact False.elim h
    | ret u =>
      obtain⟨v,H',os,bare,un,hok',r',q⟩:=h;have q':v=.bl true:=q;subst q';obtain rfl:u=Value.bool true:=r';have kp:∀ b o,fQ.heap.get? b=some o->asItWas fQ.heap s'.heap b o:=fun b o e=>by
       cases q:H b with
       | none=>exact .inl (un.keep b o e q (by intro z;exact absurd (show b∈([]:List Addr) from z) (by simp)) (by simp))
       | some u =>
         rcases hO b with z|⟨ob,xs,z⟩|⟨⟨t,ht,e'⟩,z⟩
         ·rw [q] at z;cases z
         ·have z2:=un.frzs b ob _ z;obtain⟨e1,_⟩:=hok b _ z;obtain⟨e2,_⟩:=hok' b _ z2;rw [e] at e1;cases e1;exact .inl e2
         ·subst e';obtain⟨more,z2⟩:=un.tbls _ _ z;have e2:s'.heap.get? t.2=some { cls:=.none,data:=.fields (#[]++more) }:=hok' t.2 _ z2;rw [hT t ht] at e;cases e;have CH:=sW KX (hC t ht);exact .inr (.inl ⟨(CH.tab (hT t ht)).isCodeTable,rfl,#[],more,rfl,e2⟩)
      exact⟨rfl,⟨kp,fun b o e=>un.there b o e (by simp)⟩,os,bare⟩
 have aT:∀ t∈ts,t.2≠a:=fun t ht z=>by
  have e:=hT t ht;rw [z,ha] at e;cases e
 have dT:∀ b,Decidable (∃ t∈ts,t.2=b):=fun b=>by infer_instance
 cases hk:K.lookup a with
 | some o =>
   have e:=KX a o hk;rw [ha] at e;cases e;refine core (fun b=>if ∃ t∈ts,t.2=b then some (.tbl #[]) else none) (fun b=>?_) (fun t ht=>if_pos ⟨t,ht,rfl⟩) (.inr ⟨_,vs.toArray,_,hk,rfl,rfl,rfl,by rw [dS,lenV];exact hl,by simpa using rv⟩) (fun b u z=>?_) (fun b z=>?_) fun z=>absurd (if_neg (fun⟨t,ht,e⟩=>aT t ht e)) z
   ·by_cases hb:∃ t∈ts,t.2=b
    ·exact .inr (.inr ⟨hb,if_pos hb⟩)
    ·exact .inl (if_neg hb)
   ·by_cases hb:∃ t∈ts,t.2=b
    ·have z':=(if_pos hb).symm.trans z;cases z';obtain⟨t,ht,rfl⟩:=hb;exact hT t ht
    ·have z':=(if_neg hb).symm.trans z;cases z'
   ·by_cases hb:∃ t∈ts,t.2=b
    ·exact .inr hb
    ·exact absurd (if_neg hb) z
 | none =>
   refine core (fun b=>if b=a then some (.frz { cls:=.type "list",data:=.seq vs.toArray } (.lst (ns.map V.int))) else if ∃ t∈ts,t.2=b then some (.tbl #[]) else none) (fun b=>?_) (fun t ht=>(if_neg (aT t ht)).trans (if_pos ⟨t,ht,rfl⟩)) (.inl (.inr ⟨{ cls:=.type "list",data:=.seq vs.toArray },if_pos rfl⟩)) (fun b u z=>?_) (fun b z=>?_) fun _=>hk
   ·by_cases hb:b=a
    ·exact .inr (.inl ⟨_,_,if_pos hb⟩)
    ·by_cases rJ:∃ t∈ts,t.2=b
     ·exact .inr (.inr ⟨rJ,(if_neg hb).trans (if_pos rJ)⟩)
     ·exact .inl ((if_neg hb).trans (if_neg rJ))
   ·by_cases hb:b=a
    ·have z':=(if_pos hb).symm.trans z;cases z';subst hb;exact⟨ha,by rw [c7];exact hl,vs,_,rv,ha⟩
    ·have z':=(if_neg hb).symm.trans z;by_cases rJ:∃ t∈ts,t.2=b
     ·have z'':=(if_pos rJ).symm.trans z';cases z'';obtain⟨t,ht,rfl⟩:=rJ;exact hT t ht
     ·have z'':=(if_neg rJ).symm.trans z';cases z''
   ·by_cases hb:b=a
    ·exact .inl hb
    ·by_cases rJ:∃ t∈ts,t.2=b
     ·exact .inr rJ
     ·exact absurd ((if_neg hb).trans (if_neg rJ)) z
theorem walk_of1{l:PySem.W.OpenLaw}{n k:Nat}{q:Program}{rT:List Str}{XP:(Str->Option Value)->Heap->Prop}{YP:World->Heap->Prop}{d:DefRec}{K:Params->PySem.W.Frag}{CX:World->CXT}{sp:World->Sp}{x:Str}{tP:Addr}
 (hn:l.most=some n) (hn2:n<=dL) (hdf:d.params.defaults=[]) (hr:kX k sX)
 (hY:∀ (w:World) (h:Heap),YP w h->(K w.params).In h) (hT:∀ (w:World) (h:Heap),YP w h->h.get? tP=some (oH #[])) (hKt:∀ (w:World),(K w.params).lookup tP=none)
 (F:∀ (w:World) (mg:Str->Option Value) (fa:Addr) (h:Heap),(K w.params).In h->h.Ns dY mg->mg d.name=some (.ref fa) ->
  ∃ fd:FuncData,(∀ (s:Shared) (u:Value),BindsTo s fd ⟨[u],[]⟩ [(x,u)])/\(∃ c,j0 (K w.params) c tP=true) /\
   ∀ base:Heap,(K w.params).In base->base.Ns dY mg->yS base mg->m8 l.prog w (K w.params) mg base (CX w) k fa fd [x] (sp w))
 (x0:∀ (w:World) (H:Hp) (a:Addr) (ns:List Int),ns.length<=n->H tP=some (.tbl #[])->SqL (K w.params) H a (ns.map V.int)->sp w [.ref a] H (fun v _=>v=.bl true) fun _ _ _=>False)
 (hCX:∀ (w:World) (H:Hp) (s:Shared) (e:Value) (s':Shared),CX w [] H s (fun _ _ _=>False) e s'->False) :
 PySem.W.WalkO q rT XP YP l.row.toRowW d [] (fun f vs=>PySem.call f vs):=by
 refine Att.attach_call hn hdf fun w s₀ fQ mg mb fa o pm cd pC a vs ns G Y ho hd pA hmg hobj zI j5 hg=>?_;have KX:=hY w _ Y;obtain⟨fd,hb,⟨c,hc⟩,hF⟩:=F w mg fa _ KX G.T.g hmg;have one:∀ {p:Addr×Addr->Prop},p (c,tP)->∀ t∈[(c,tP)],p t:=fun h t ht=>by rw [mem_singleton.mp ht];exact h
 exact jON (ts:=[(c,tP)]) KX G.T.g G.T.b G.T.builtins G.T.nolimit G.T.bmain hg (one (hT w _ Y)) (one hc) (one (hKt w)) hobj zI (eM j5 hn2) hr hF hb (fun H hO hS=>x0 w H a ns j5 (hO (c,tP) (.head _)) hS) fun H e s'=>hCX w H fQ e s'
section
variable {P:Program}{w:World}{K:PySem.W.Frag}{mg:Str->Option Value}{base:Heap}
theorem Fun.okL{x qual:Str}{st:Stmt}{f rK:Addr}{fd:FuncData}{N ps:List Str}{k:Nat}{sp:Sp}(F:Fun K x qual st f fd)(hL:fd.code=.ref rK)(S:jCt N ps (rH st))(len:∀ vs H Q E,sp vs H Q E->vs.length=ps.length)
 (oB:∀ (A:Around) (outer:List Env) (s:Shared) (H:Hp) (vs:List V) (Q:VK) (E:XK),kX k (A.deeper (oF qual (rH st) s.heap.objs.size f (.ref rK)))->sp vs H Q E ->
  ∃ t,PSs (jFo CX0 P w K mg base N qual (rH st) f (.ref rK) A outer s H E).nox (wR st) t/\t { nx:=fun _ H'=>Q .non H',rt:=Q } (start N vs) H):m8 P w K mg base CX0 (k+1) f fd ps sp:=by
 obtain⟨oc,od,kV,pC,pm,an,lC,ct,uJ,rfl,lk,pA⟩:=F.ex;obtain rfl:lC=.ref rK:=hL;refine fn_of lk pA S len fun A outer s H vs Q E hr x0=>?_;obtain⟨t,h,q⟩:=oB A outer s H vs Q E hr x0;exact⟨t,h.nox,q⟩
end
theorem jDp.mk2(hn:scope.names=[(x,.local),(y,.free)]\/scope.names=[(y,.free),(x,.local)])(ne:x≠y)(kind:scope.kind=.function)(co:scope.isCoroutine=false)(gen:scope.isGenerator=false):jDp x y scope:=by
 have l1:(x==y)=false:=beq_eq_false_iff_ne.mpr ne;have l2:(y==x)=false:=beq_eq_false_iff_ne.mpr (symm ne);refine⟨kind,co,gen,?_,?_,fun z hz=>?_,fun z hz=>?_,ne⟩
 ·rcases hn with h|h<;>rw [h]
  ·rw [gY,beq_self_eq_true]
  ·rw [gY,l1,gY,beq_self_eq_true]
 ·rcases hn with h|h<;>rw [h]
  ·rw [gY,l2,gY,beq_self_eq_true]
  ·rw [gY,beq_self_eq_true]
 ·rcases hn with h|h<;>rw [h] at hz
  ·rcases dX.mp hz with rfl|hz
   ·intro z;cases z
   ·rw [mem_singleton.mp hz];intro z;cases z
  ·rcases dX.mp hz with rfl|hz
   ·intro z;cases z
   ·rw [mem_singleton.mp hz];intro z;cases z
 ·have m:=PySem.mem_of_lookup hz;rcases hn with h|h<;>rw [h] at m
  ·rcases dX.mp m with e|m
   ·injection e with _ e;cases e
   ·injection mem_singleton.mp m
  ·rcases dX.mp m with e|m
   ·injection e
   ·injection mem_singleton.mp m with _ e;cases e
section
variable {X:Cx}
noncomputable def jLX(ta:TA):TE:=fun σ H Q=>ta σ H fun vs H1=>∃ j:Int,vs=[.int j]/\(-(2^62)<=j/\j<2^62)/\j.toNat<=dL/\j.toNat<=2^24/\∀ l,H1 l=none->Q (.ref l) (upd H1 l (.lst (rngV 0 j.toNat)))
theorem jKh(hc:X.calm=true)(hl:Gl X "list")(hlm:X.mg "list"=none)(hg:Gl X "range")(hm:X.mg "range"=none)(ha:PA X [b] ta) 
 (vY:dO [b] X.env=[(false,fA b X.env)]:=by rfl) (hb:fJ "list"=some (.type "list"):=by decide +kernel)
 (ho:dO [Expr.Call (.Name "range" p2) [b] [] pos2] X.env=[(false,fA (.Call (.Name "range" p2) [b] [] pos2) X.env)]:=by rfl) :
 PE X (.Call (.Name "list" p) [.Call (.Name "range" p2) [b] [] pos2] [] pos) (jLX ta):=by
 intro b9 s σ H Q I h;refine gF (y7 I hl hlm hb ?_);refine PyProof.Rows.callWith_type1 ?_ (by rw [ho];rfl) rfl;rw [ho];refine Calls.spliced_cons ?_;refine Call_ (y7 I hg hm xF (PyProof.Rows.callWith_type1 (thn (ha pos2 b9 s σ H _ I h) fun us s1 ⟨vs,H1,I1,r1,q1⟩=>?_) (by rw [vY];rfl) rfl));obtain⟨j,e,⟨q3,q4⟩,z1,z2,q⟩:=q1;subst e;cases r1 with
 | cons r rr =>
   cases rr;obtain⟨t',rfl⟩:=r;refine call_range_1 ?_;refine Calls.spliced_nil ?_;have hn:Builtin.Range.rangeSize 0 j 1=((j.toNat:Nat):Int):=by rw [rangeSize_one];split<;>omega
   refine call_list_range (I1.ok.hd hc) (IsRange.new ..) (small_one (by decide) (by decide) q3 q4) hn z2 fun h' tk tD c' hk hS' zM=>?_;have kp:∀ b o,s1.heap.get? b=some o->h'.get? b=some o:=fun b o e=>hk b o (get?_push_of_some _ e);refine⟨.ref _,_,I1.laid (t':=tk) kp ?_ ?_,rfl,q _ (I1.hok.fresh ?_)⟩
   ·rw [jO];exact iF _
   ·refine⟨(by unfold rngV;rw [c7,fD];exact z1),tD.toList,c',jPN zM,?_⟩;exact hS'
   ·rw [jO];exact iF _
end
theorem bt_any:fJ "any"=some (.builtin "any"):=by decide +kernel
section
variable {X:Cx}
theorem any_at(bs:List Bool):((range bs.length).any fun i=>(bs[i]?).getD false)=bs.any id:=by
 rw [Bool.eq_iff_iff,j9,j9];constructor
 ·rintro⟨i,hi,q⟩;have wW:=iW.mp hi;rw [getElem?_eq_getElem wW] at q;exact⟨_,mG wW,q⟩
 ·rintro⟨b,hb,q⟩;obtain⟨i,hi,e⟩:=List.getElem_of_mem hb;exists i,iW.mpr hi;rw [getElem?_eq_getElem hi,e];exact q
theorem jPT(hc:X.calm=true):CallR X (.builtin "any") (fun xs H Q=>∃ (p:Addr) (bs:List Bool),xs=[.ref p]/\SqL X.K H p (bs.map V.bl)/\Q (.bl (bs.any id)) H):=by
 intro b9 s σ H xs us Q I r h;obtain⟨p,bs,rfl,hq,q⟩:=h;obtain⟨u,rfl,rx⟩:=tK r;cases rx;obtain⟨its,rv,pl,hz⟩:=I.list hq;have hl:=pl.isList;have j5:=rv.length;have j2:p<s.heap.objs.size:=by obtain⟨_,e,_⟩:=hl;exact d0 e
 refine call_any_walk (iN hl ?_)
 refine⟨s.heap.objs.size,[s.heap.objs.size,p],[s.heap.objs.size],its.toArray.size,_,_,fun i=>(bs[i]?).getD false,rfl,Walks.list (A:=X.A.in1) (I.ok.hd hc) _ p (eV j2) its.toArray,
  ⟨⟨_,get?_push_size _ rfl,rfl,rfl⟩,hl.push _⟩,fun i v s' Q' E' hP hQ=>?_,fun h' tk hk=>?_⟩
 ·have hv:its[i]?=some v:=by simpa using hP
  have hi:i<its.length:=(List.getElem?_eq_some_iff.mp hv).1;have hb:i<bs.length:=by rw [c7] at j5;omega
  obtain⟨u2,e1,e2⟩:=rv.get (i:=i) (x:=V.bl bs[i]) (by rw [getElem?_map,getElem?_eq_getElem hb];rfl);rw [hv] at e1;cases e1;cases (show v=Value.bool bs[i] from e2);dsimp only at hQ;rw [getElem?_eq_getElem hb] at hQ;exact fO hQ
 ·have e:((range its.toArray.size).any fun i=>(bs[i]?).getD false)=bs.any id:=by
   rw [dS,<- j5,c7];exact any_at bs
  rw [e];refine⟨.bl _,H,I.kept (t':=tk) (fun b x e=>?_),rfl,q⟩;exact hk b x (fun hm=>by rw [mem_singleton.mp hm] at e;exact gU _ (d0 e)) (get?_push_of_some _ e)
end
noncomputable def Itw(d:Addr)(o:Obj)(kvs:List (Key×V)):It :=
 ⟨fun i H=>H d=some (.frz o (.dK kvs))/\i<kvs.length,fun i H x H'=>H'=H/\∃ k,kvs[i]?=some (k,x),fun i H=>H d=some (.frz o (.dK kvs))/\kvs.length=i⟩
theorem jOO{P:Program}{w:World}{K:PySem.W.Frag}{tg:Expr}(d it:Addr)(o:Obj)(kvs:List (Key×V)){vs:List (Key×Value)}{es:Array DictEntry}{ep:Nat}(rk:KV kvs vs)(hd:o.ExactDict)(he:o.data=.dict es ep)(hk:KeysOf (lV P w) es)(hp:Pairs (lV P w) es.toList vs)(nd:(vs.map (·.1)).Nodup) :
 xT P w K tg (Itw d o kvs) [it] it (fun i h=>h.IsValIter it d i vs.length ep) where
 mem:=by simp
 obj:=fun i h st b hb=>by
  have e:b=it:=by simpa using hb
  subst e;obtain⟨o,e,c,d⟩:=st;exact⟨o,e,fun v z=>by rw [d] at z;cases z⟩
 keep:=fun i h h' st k=>let ⟨o,e,c⟩:=st;⟨o,k it (by simp) o e,c⟩
 item:=by
  intro X hP hw hK hc i b9 s σ H E I hf st hg;subst hP hw hK;obtain⟨hz,hi⟩:=hg;obtain⟨eo,_⟩:=I.hok d _ hz;obtain⟨f0,f1,f2,f3,f4,f5⟩:=hf it (by simp);have hl:=KV.length rk;have wV:i<vs.length:=by omega
  have ev:vs[i]?=some (vs[i].1,vs[i].2):=getElem?_eq_getElem wV;have ks:kvs[i]?=some (kvs[i].1,kvs[i].2):=getElem?_eq_getElem hi;have rvl:g9 kvs[i].2 vs[i].2:=(jKx rk (getElem?_eq_getElem hi) (getElem?_eq_getElem wV)).2;refine wpAny_pyNext_values_item st ⟨o,es,eo,hd,he,hk,hp,nd⟩ ev fun h' pL sb=>?_;have I1:Inv X b9 σ H { s with heap:=h' }:=I.turned (t':=s.toks) (fun b o hb e=>(sb.2 b hb).trans e) f0 f1 f3 f4 f5;obtain⟨o2,e2,c2,d2⟩:=id pL;exact⟨_,rfl,jFn (s:={ s with heap:=h' }) e2 c2 d2 (by decide) ⟨kvs[i].2,H,I1,rvl,⟨rfl,_,ks⟩,pL,fun b hb=>(hf b hb).1⟩⟩
 done:=by
  intro X hP hw hK hc i b9 s σ H E I hf st hg;subst hP hw hK;obtain⟨hz,hi⟩:=hg;obtain⟨eo,_⟩:=I.hok d _ hz;obtain⟨f0,f1,f2,f3,f4,f5⟩:=hf it (by simp);have hl:=KV.length rk;have hin:vs[i]?=none:=getElem?_eq_none (by omega);exact wpAny_pyNext_values_end (I.ok.hd hc) st ⟨o,es,eo,hd,he,hk,hp,nd⟩ hin fun h' eb=>⟨rfl,I.turned (t':=s.toks) (fun b o hb e=>eb b o hb e) f0 f1 f3 f4 f5⟩
 self:=fun _ _ _ _ _ st h=>wpAny_pyIter_valiter st h
section
variable {X:Cx}{tg:Expr}
noncomputable def rVals:V->List V->Hp->VK->Prop:=fun x vs H Q=>∃ d o kvs,x=.ref d/\vs=[]/\H d=some (.frz o (.dK kvs))/\∀ v,H v=none->Q (.ref v) (upd H v (VW v d))
noncomputable def tVals(to:TE):TE:=fun σ H Q=>to σ H fun x H1=>rVals x [] H1 Q
theorem mt_vals:MtR X "dict.values" rVals:=by
 intro b9 s σ H x vs v us Q I rx rv h;obtain⟨d,o,kvs,rfl,rfl,hz,q⟩:=h;cases rx;cases rv;obtain⟨eo,z,hd,vs1,rk,o',es,ep,e',xd,dt,ko,pr,nd⟩:=I.hok d _ hz;have d1:s.heap.DictAt (lV X.prog X.w) d vs1 ep:=⟨o',es,e',xd,dt,ko,pr,nd⟩
 have d2:s.heap.DictOf (lV X.prog X.w) d vs1:=d1.dictOf;refine jB iV d2.typeIs PySem.F.entry_dict_values (PySem.F.args_dict_values_1 _) (meets_dict_values (lV X.prog X.w) d hd) ⟨⟨vs1,d2⟩,?_⟩;refine⟨.ref s.heap.objs.size,_,I.laid (t':=s.toks) (o:=VW s.heap.objs.size d) (fun b ob q=>get?_push_of_some _ q) (Nat.le_refl _) ?_,rfl,q _ (I.hok.fresh (Nat.le_refl _))⟩;refine⟨⟨_,get?_push_size _ rfl,rfl,rfl⟩,⟨_,get?_push_size _ rfl⟩,fun h1 h2 ⟨o,ho,r⟩ k=>⟨o,k o ho,r⟩⟩
theorem jPU(ho:PE X o to)(oE:iE o "values" X.env (fA o X.env)=fA o X.env:=by rfl)(n9:(hZ.endLine==iZ.line)=true:=by rfl):PE X (.Call (.Attribute o "values" hZ) [] [] iZ) (tVals to):=by
 intro b9 s σ H Q I h;refine nI oE n9 (thn (ho b9 s σ H _ I h) fun v s1 ⟨x,H1,I1,r1,q1⟩=>?_);have q2:=q1;obtain⟨d,o,kvs,rfl,_,hz,_⟩:=q2;have r2:=r1;cases r1;obtain⟨_,_,_,_,_,o',_,_,e',xd,_⟩:=I1.hok d _ hz;exact⟨"dict","dict.values",gX,iV,kO,⟨o',e',xd.1⟩,fun a e=>by cases e;exact⟨o',e',xd.2.1⟩,Calls.callWith_builtin rfl (PySem.evalArgs_none (mt_vals b9 s1 σ H1 (.ref d) [] _ [] Q I1 r2 .nil q1))⟩
noncomputable def iVals(tl:TE):TI:=fun σ H R=>tl σ H fun x H1=>∃ v d o kvs,x=.ref v/\H1 v=some (VW v d)/\H1 d=some (.frz o (.dK kvs))/\R (Itw d o kvs) H1
theorem pi_vals{l:Expr}{tl:TE}(hl:PE X l tl):PI X tg l (iVals tl):=by
 intro b9 s σ H R I h;refine thn (hl b9 s σ H _ I h) fun v s1 ⟨x,H1,I1,r1,q1⟩=>?_;obtain⟨v,d,o,kvs,rfl,hv,hz,q⟩:=q1;cases r1;obtain⟨eo,z,hd,vs,rk,o',es,ep,e',xd,dt,ko,pr,nd⟩:=I1.hok d _ hz;rw [eo] at e';cases e';obtain⟨kv,_,_⟩:=(show lU X.prog X.w H1 s1.heap v (VW v d) from I1.hok v _ hv)
 refine wpAny_pyIter_values kv (knd:=lV X.prog X.w) ⟨o,es,eo,xd,dt,ko,pr,nd⟩ ?_;refine⟨s1.heap.objs.size,[s1.heap.objs.size],_,_,H1,rfl,I1.kept (t':=s1.toks) fun b o e=>get?_push_of_some _ e,jOO d _ o kvs rk xd dt ko pr nd,⟨_,get?_push_size _ rfl,rfl,rfl⟩,fun b hb=>?_,q⟩;have e:b=s1.heap.objs.size:=by simpa using hb
 subst e;exact I1.fpOk (Nat.le_refl _) (I1.hok.fresh (Nat.le_refl _))
end
theorem jPV{d:Addr}{o:Obj}{kvs:List (Key×V)}{g:TG}{tb:TS}{D:sQ}{σ:St}{H:Hp}(Pv:Nat->St->Hp->Prop)(h0:Pv 0 σ H)(hl:∀ i σ H,i<=kvs.length->Pv i σ H->H d=some (.frz o (.dK kvs)))
 (hs:∀ i k v σ H,kvs[i]?=some (k,v)->Pv i σ H->g v σ H fun σ2 H2=>tb { D with nx:=Pv (i+1),ct:=Pv (i+1),bk:=D.nx } σ2 H2) (hd:∀ σ H,Pv kvs.length σ H->D.nx σ H) :
 ∃ W:Nat->Nat->St->Hp->Prop,(∃ m,W 0 m σ H)/\∀ i m σ H,W i m σ H ->
  ((Itw d o kvs).stop i H/\D.nx σ H)\/((Itw d o kvs).go i H/\∃ N:St->Hp->Prop,(∀ σ' H',N σ' H'->∃ m',m'<m/\W (i+1) m' σ' H')/\∀ x H',(Itw d o kvs).yld i H x H'->g x σ H' fun σ2 H2=>tb { D with nx:=N,ct:=N,bk:=D.nx } σ2 H2):=by
 exists fun i m σ H=>m=kvs.length-i/\i<=kvs.length/\Pv i σ H,⟨kvs.length,rfl,d9 _,h0⟩
 rintro i m σ H ⟨rfl,hi,p⟩;have q:=hl i σ H hi p;by_cases j2:i<kvs.length
 ·refine .inr ⟨⟨q,j2⟩,Pv (i+1),fun σ' H' p'=>⟨kvs.length-(i+1),by omega,rfl,j2,p'⟩,fun x H' y=>?_⟩;obtain⟨e,k,ek⟩:=y;subst e;exact hs i k x σ _ ek p
 ·have e:i=kvs.length:=by omega
  subst e;exact .inl ⟨⟨q,rfl⟩,hd _ _ p⟩
section
variable {X:Cx}{b9:List (Addr×Obj)}{σ:St}{H:Hp}{s:Shared}{d:Addr}{xs:List V}
theorem Inv.freezeL(I:Inv X b9 σ H s)(h:H d=some (.lst xs)):∃ o,Inv X b9 σ (upd H d (.frz o (.lst xs))) s:=by
 obtain⟨z,its,n,r,e⟩:=I.hok d _ h;have mu:Mut (H d):=by rw [h];trivial
 exact⟨_,I.un (h':=s.heap) (t':=s.toks) (Un.write mu (.inl rfl) (fun _ _ _ q=>q) ⟨_,e⟩) (I.hok.write mu (.inl rfl) (fun _ _ _ q=>q) ⟨_,e⟩ ⟨e,z,its,n,r,e⟩)⟩
noncomputable def tKeepL(t:TE):TE:=fun σ H Q=>t σ H fun v H1=>∃ (a:Addr) (xs:List V),v=.ref a/\H1 a=some (.lst xs)/\∀ o,Q v (upd H1 a (.frz o (.lst xs)))
theorem jK7(h:PE X e t):PE X e (tKeepL t):=by
 intro b9 s σ H Q I hw;refine thn (h b9 s σ H _ I hw) fun v s1 ⟨x,H1,I1,r,q⟩=>?_;obtain⟨a,xs,rfl,ha,q⟩:=q;obtain⟨o,I2⟩:=I1.freezeL ha;exact⟨_,_,I2,r,q o⟩
noncomputable def tKeepD(t:TE):TE:=fun σ H Q=>t σ H fun v H1=>∃ (a:Addr) (kvs:List (Key×V)),v=.ref a/\H1 a=some (.dK kvs)/\∀ o,Q v (upd H1 a (.frz o (.dK kvs)))
theorem jHB(h:PE X e t):PE X e (tKeepD t):=by
 intro b9 s σ H Q I hw;refine thn (h b9 s σ H _ I hw) fun v s1 ⟨x,H1,I1,r,q⟩=>?_;obtain⟨a,kvs,rfl,ha,q⟩:=q;obtain⟨o,_,I2⟩:=I1.freeze ha;exact⟨_,_,I2,r,q o⟩
noncomputable def sKeepL(t:TS):TS:=fun D σ H=>t { D with nx:=fun σ' H'=>∃ (a:Addr) (xs:List V),H' a=some (.lst xs)/\∀ o,D.nx σ' (upd H' a (.frz o (.lst xs))) } σ H
theorem jPW{st:Stmt}{t:TS}(h:PS X st t):PS X st (sKeepL t):=by
 intro b9 s σ H D I hw;refine thn (h b9 s σ H _ I hw) fun f s1 q1=>?_;cases f with
 | next =>
   obtain⟨σ',H',I2,a,xs,ha,q2⟩:=q1;obtain⟨o,I3⟩:=I2.freezeL ha;exact⟨σ',_,I3,q2 o⟩
 | brk=>exact q1
 | cont=>exact q1
 | ret u=>exact q1
noncomputable def tNotT(K:PySem.W.Frag)(ta:TE):TE:=fun σ H Q=>ta σ H fun x H1=>∃ k,TruV K x H1 k/\Q (.bl (!k)) H1
theorem jMW(ha:PE X a ta):PE X (.UnaryOp .Not a pos) (tNotT X.K ta):=by
 intro b9 s σ H Q I h;refine UnaryOp_ (thn (ha b9 s σ H _ I h) fun v s1 ⟨x,H1,I1,r1,q1⟩=>?_);exact not_of (thn (jOd b9 s1 σ H1 x v (fun c H2=>Q (.bl (!c)) H2) I1 r1 q1) fun c s2 ⟨H2,I2,q2⟩=>⟨.bl (!c),H2,I2,rfl,q2⟩)
end
noncomputable def rNotInL(K:PySem.W.Frag):R2:=fun x y H Q=>∃ e es p xs,x=.ref e/\y=.ref p/\SqL K H e es/\SqL K H p xs/\(∀ v∈xs,∃ a ys,v=.ref a/\a≠e/\SqL K H a ys/\ys.length≠es.length)/\Q (.bl true) H
theorem jK8(hu:X.A.units+1<cLine):OpR X (fB .NotIn) (rNotInL X.K):=by
 intro b9 s σ H x y v u Q I rx ry h;obtain⟨e,es,p,xs,rfl,rfl,he,hp,hx,q⟩:=h;cases rx;cases ry;obtain⟨its,r,pl,_⟩:=I.list hp;obtain⟨jts,r2,l2,_⟩:=I.list he;have lr:=r.length;have e2:=r2.length;refine PySem.SeqAt.notIn_listAt (fun _=>false) pl.isList (fun w hw=>?_) ⟨.bl true,H,I,by simp [g9],q⟩;obtain⟨j,hj,rfl⟩:=Array.getElem_of_mem hw;have rv:=jE5 r j hj;have hj':j<xs.length:=by simp at hj;omega
 obtain⟨a,ys,ev,ne,ha,nl⟩:=hx (xs.getD j .non) (by rw [getD_eq_getElem?_getD,getElem?_eq_getElem hj'];exact mG hj');rw [ev] at rv;have ew:its.toArray[j]=Value.ref a:=rv;rw [ew];obtain⟨kts,r1,l1,_⟩:=I.list ha;have e1:=r1.length;exact PySem.SeqAt.EqAt.of_refs ne (PySem.SeqAt.RcAt.lists_lengths l1.isList l2.isList (by simp [bne_iff_ne];omega) (by have hu1:X.A.in1.units+0<cLine:=jOI hu;omega))
section
variable {X:Cx}{b9:List (Addr×Obj)}{σ:St}
theorem jPX(lT:List V)(hA:X.A.handled=none) 
 (I0:Inv X b9 σ H0 s) (hl:∀ b9 H s,Inv X b9 σ H s->eR H0 H->∃ its:List Value,iH xs its/\s.heap.IsList l its.toArray) (h1:xs.length=1)
 (uQ:∀ (x:V) (v:Value),xs[0]?=some x->g9 x v->∀ (ex:List (Addr×Obj)) (H:Hp) (s:Shared),Inv X (b9++ex) σ H s->eR H0 H ->
  dM (dQ X.prog X.w) X.A.in1 (call (.ref q) [v]) (fun z s'=>∃ p H',z=.ref p/\eR H H'/\H' p=some (.tup lT)/\Inv X (b9++ex) σ H' s') (fun _ _=>False) s)
 (hQ:∀ x v H s,xs[0]?=some x->g9 x v->eR H0 H->Inv X b9 σ H s->Q v s) :
 dM (dQ X.prog X.w) X.A (call (.builtin "min") [.ref l] [(c9 "key",.ref q)]) Q E s:=by
 have sC:0<xs.length:=by omega
 have hname:(toString "min" ++ toString ".loop":String)="min.loop":=by decide
 obtain⟨its,rv,hls⟩:=hl _ _ _ I0 (eR.refl _);have j5:=rv.length;obtain⟨ol,hol,_⟩:=id hls;have hll:l<s.heap.objs.size:=d0 hol;refine kmk_tree PySem.F.kind_min PySem.F.plain_min PySem.F.entry_min (kmk_min_key _ _) ?_;show dM _ X.A.in1 (Builtin.Builtins.bindParams "min" ["key","default"] 0 ⟨[],[(c9 "key",.ref q)]⟩ >>= _) _ _ s;refine c8 (wpAny_of_eq (show Builtin.Builtins.bindParams "min" ["key","default"] 0 ⟨[],[(c9 "key",.ref q)]⟩=pure [some (.ref q),none] from rfl) ?_);refine c8 (dP ?_);refine c8 (iN hls ?_);refine c8 (wpAny_newList ?_ (d9 _));rw [hname];have hS:(s.heap.push { cls:=.type "list_iterator",data:=.fields #[.ref l,.int 0 0] }).objs.size=s.heap.objs.size+1:=size_push' ..;have hlI:l≠s.heap.objs.size:=eV hll;have hSI:(s.heap.push { cls:=.type "list_iterator",data:=.fields #[.ref l,.int 0 0] }).objs.size≠s.heap.objs.size:=by rw [hS];exact iJ (jP _)
 refine dP ⟨qT kC _,?_⟩;have kp:∀ b o,s.heap.get? b=some o->((s.heap.push { cls:=.type "list_iterator",data:=.fields #[.ref l,.int 0 0] }).push (nW "list" #[] 0)).get? b=some o:=fun b o e=>get?_push_of_some _ (get?_push_of_some _ e);have gI:((s.heap.push { cls:=.type "list_iterator",data:=.fields #[.ref l,.int 0 0] }).push (nW "list" #[] 0)).get? s.heap.objs.size=some { cls:=.type "list_iterator",data:=.fields #[.ref l,.int 0 0] } :=
  get?_push_of_some _ (get?_push_size _ rfl)
 have gS:((s.heap.push { cls:=.type "list_iterator",data:=.fields #[.ref l,.int 0 0] }).push (nW "list" #[] 0)).get? (s.heap.push { cls:=.type "list_iterator",data:=.fields #[.ref l,.int 0 0] }).objs.size=some (nW "list" #[] 0):=get?_push_size _ rfl;have J0:=I0.kept (t':=s.toks) kp;have fI:=I0.fpOk (b:=s.heap.objs.size) (Nat.le_refl _) (I0.hok.fresh (Nat.le_refl _));have fS:=I0.fpOk (b:=(s.heap.push { cls:=.type "list_iterator",data:=.fields #[.ref l,.int 0 0] }).objs.size) (by rw [hS];omega) (I0.hok.fresh (by rw [hS];omega));have oI:OwnA X b9 s.heap.objs.size:=⟨I0.sz,fI.2.2.2.2.1,fI.2.2.2.2.2⟩
 have oS:OwnA X b9 (s.heap.push { cls:=.type "list_iterator",data:=.fields #[.ref l,.int 0 0] }).objs.size:=⟨eM I0.sz (by rw [hS];omega),fS.2.2.2.2.1,fS.2.2.2.2.2⟩
 generalize (s.heap.push { cls:=.type "list_iterator",data:=.fields #[.ref l,.int 0 0] }).objs.size=S at *;generalize hI:s.heap.objs.size=I at *;have J1:Inv X (b9++[(S,nW "list" #[] 0),(I,{ cls:=.type "list_iterator",data:=.fields #[.ref l,.int 0 0] })]) σ H0 _:=J0.pins_of fun p hp=>by
  rcases eN.mp hp with hp|hp
  ·exact J0.pin p (dH _ hp)
  ·rcases dX.mp hp with rfl|hp
   ·exact⟨gS,fS.1,fS.2.1,fS.2.2.1,fun v z=>by cases z⟩
   ·rw [mem_singleton.mp hp];exact⟨gI,fI.1,fI.2.1,fI.2.2.1,fun v z=>by cases z⟩
 have W:=Walks.list (prog:=X.prog) (w:=X.w) (A:=X.A.in1) hA I l hlI its.toArray;have hsz:its.toArray.size=xs.length:=by rw [dS];exact j5.symm
 obtain⟨ol',hol',hls'⟩:=id hls;have hls0:IsList _ l its.toArray:=⟨ol',kp _ _ hol',hls'⟩
 refine lP oZ ?_;rw [kQ kC _];show dM _ X.A.in1 (seqItems? (.ref _) >>= _) _ _ _;refine c8 (wF gS rfl ?_);show dM _ X.A.in1 (tryCatch (rE (.ref I)) _ >>= _) _ _ _;refine c8 (pG (W.item 0 _ _ _ (by rw [hsz];exact sC) ⟨⟨_,gI,rfl,rfl⟩,hls0⟩ fun v h' tk' hP hst' hk'=>?_));have hv0:its[0]?=some v:=by simpa using hP
 obtain⟨x,hv⟩:∃ x,xs[0]?=some x:=⟨_,getElem?_eq_getElem sC⟩
 have rx:g9 x v:=by
  obtain⟨u,hu',ru⟩:=rv.get hv;rw [hv0] at hu';rw [Option.some.inj hu'];exact ru
 obtain⟨oI2,hoI2,hoc,hod⟩:=id hst'.1;have J2:=jK4 (jK6 (t':=tk') (h':=h') (so':=oI2) (jK4 J1) (fun b o nb e=>hk' b o (by simpa using nb) e) hoI2 (fun z=>by rw [hod];intro z;cases z) oI.h1 oI.h2 oI.h3 hSI);show dM _ X.A.in1 (tryCatch (jW [v] (call (.ref q) [v])) _ >>= _) _ _ _;refine c8 (pG (gW (e8 (uQ x v hv rx _ _ _ J2 (eR.refl _)) (fun z s'' he=>?_) fun _ _ hF=>hF.elim)));obtain⟨p,H2,rfl,s2,qZ,J3⟩:=he;have pS3:=J3.pin (S,nW "list" #[] 0) (dH _ (dH _ (.head _)));have pI3:=J3.pin (I,oI2) (dH _ (dH _ (.tail _ (.head _))));have s1:=SameBut.update s''.heap S (m6 fun _=>#[v,.ref p]);obtain⟨c2,hc2⟩:∃ c2,(s''.heap.update S (m6 fun _=>#[v,.ref p])).get? S=some (nW "list" #[v,.ref p] c2):=⟨_,get?_update_seq pS3.1 fun _=>#[v,.ref p]⟩
 show dM _ X.A.in1 (updateSeq S (fun _=>#[v,.ref p]) >>= _) _ _ _;refine c8 ?_;refine wpAny_updateSeq pS3.1 rfl ?_;rw [hname];have J4:=jK6 (t':=s''.toks) (so':=nW "list" #[v,.ref p] c2) J3 (fun b o nb e=>(s1.2 b nb).trans e) hc2 (fun z=>by intro z;cases z) oS.h1 oS.h2 oS.h3 (symm hSI);refine dP ⟨qT kC _,?_⟩;obtain⟨its',rv',hli⟩:=hl _ _ _ J4 s2;have hlen':=rv'.length;have W':=Walks.list (prog:=X.prog) (w:=X.w) (A:=X.A.in1) hA I l hlI its'.toArray;have hsz':its'.toArray.size=xs.length:=by rw [dS];exact hlen'.symm
 have pS4:=J4.pin (S,nW "list" #[v,.ref p] c2) (dH _ (dH _ (.head _)));refine lP oZ ?_;rw [kQ kC _];show dM _ X.A.in1 (seqItems? (.ref S) >>= _) _ _ _;refine c8 (wF pS4.1 rfl ?_);show dM _ X.A.in1 (tryCatch (rE (.ref I)) _ >>= _) _ _ _;refine c8 (pG (W'.done _ _ _ ⟨by rw [hsz',h1];exact⟨oI2,(s1.2 I (symm hSI)).trans pI3.1,hoc,hod⟩,hli⟩ fun h5 tk5 hk5=>?_))
 have JS:Inv X (b9++[(S,nW "list" #[v,.ref p] c2)]) σ H2 _:=J4.pins_of fun p hp=>J4.pin p (dH _ (by
  rcases eN.mp hp with hp|hp
  ·exact eS _ hp
  ·rw [mem_singleton.mp hp];exact dH _ (.head _)))
 have pI4:=J4.pin (I,oI2) (dH _ (dH _ (.tail _ (.head _))))
 have J6:=JS.turned (t':=tk5) (h':=h5) (it:=I) (fun b o nb e=>hk5 b o (by simpa using nb) e) pI4.2.1 pI4.2.2.1 (.inr oI.h1) oI.h2 (fun p hp=>by
  rcases eN.mp hp with hp|hp
  ·exact oI.h3 p (eS _ hp)
  ·rcases eN.mp hp with hp|hp
   ·exact oI.h3 p (dH _ hp)
   ·rw [mem_singleton.mp hp];exact hSI)
 have pS1:=J6.pin (S,nW "list" #[v,.ref p] c2) (dH _ (dH _ (.head _)));show dM _ X.A.in1 (updateSeq S (fun _=>#[]) >>= _) _ _ _;refine c8 ?_;refine wpAny_updateSeq pS1.1 rfl (c8 (wpAny_letGo (dP ?_)));have s6:=SameBut.update h5 S (m6 fun _=>(#[]:Array Value));have J7:=(jK5 J6).turned (t':=tk5) (it:=S) (h':=h5.update S (m6 fun _=>(#[]:Array Value))) (fun b o nb e=>(s6.2 b nb).trans e) pS1.2.1 pS1.2.2.1 (.inr oS.h1) oS.h2 oS.h3;exact hQ x v H2 _ hv rx s2 J7
end
section
variable {X:Cx}
noncomputable def jPY(K:PySem.W.Frag)(ta:TA)(P:Addr)(pos:Pos)(qual:Str)(tb:TE)(iy:Nat):TE:=fun σ H Q=>ta σ H fun vs H1=>∃ (l:Addr) (x vy:V) (lT:List V),vs=[.ref l]/\SqL K H1 l [x]/\σ[iy]?=some (some vy)/\jDx H1 P pos qual /\
 (∀ H2,vJ P H1 H2->tb [some x,some vy] H2 fun v H4=>∃ p,v=.ref p/\eR H2 H4/\H4 p=some (.tup lT)) /\
 ∀ H',vJ P H1 H'->jDx H' P pos qual->Q x H'
theorem jNw(hr:kX 1 X.A)(hg:Gl X "min")(hm:X.mg "min"=none)(ha:PA X [a] ta)(S:jDp x y scope)(hN:X.N[iy]?=some y)(hk:X.env.kindOf y=some .cell) 
 (B:yS X.base X.mg) (sF:X.env.code=.ref rK) (C:j0 X.K rK P=true) (oY:rL scope X.env=pure [(y,c)]) (hcy:X.env.cells.lookup y=some c)
 (uB:∀ pm c' xC u,bindArgs (kla_fn "<lambda>" (X.env.qual ++ "<lambda>") params body scope [(y,c)] pm (.ref c') xC) ⟨[u],[]⟩=pure [(x,u)])
 (hb:∀ (f:Addr) (cd:Value) (A:Around) (outer:List Env) (s:Shared) (H:Hp),PE (jIm X.prog X.w X.K X.mg X.base x y (X.env.qual ++ "<lambda>") scope f cd [(y,c)] A outer s H) body tb)
 (hs:dO [a] X.env=[(false,fA a X.env)]:=by rfl) (zJ:defaultsOf params X.env=([],[]):=by rfl)
 (hall:(iA pos (fM [⟨some "key",.Lambda params body scope lpos,qJ⟩] X.env)).all (·.1.isSome)=true:=by rfl) (hks:(iA pos (fM [⟨some "key",.Lambda params body scope lpos,qJ⟩] X.env)).filterMap (·.1)=[("key":Str)]:=by rfl)
 (nR:((gH pos (dO [a] X.env)).any (·.1)||(iA pos (fM [⟨some "key",.Lambda params body scope lpos,qJ⟩] X.env)).any (·.1.isNone))=false:=by rfl) :
 PE X (.Call (.Name "min" p) [a] [⟨some "key",.Lambda params body scope lpos,qJ⟩] pos) (jPY X.K ta P lpos (X.env.qual ++ "<lambda>") tb iy):=by
 intro b9 s σ H Q I h;refine gF (y7 I hg hm bt_min ?_);refine jPS nR (evalArgs_kw2 hall (thn (ha pos b9 s σ H _ I h) fun us s1 ⟨vs,H1,I1,r1,q1⟩=>?_) hs);obtain⟨l,x1,vy,lT,rfl,hl,hy,ht,oB,hq⟩:=q1;obtain⟨u,rfl,ru⟩:=tK r1;cases ru;have K1:PK X [⟨some "key",.Lambda params body scope lpos,qJ⟩] _:=jMC (pe_lamE B sF C oY zJ) jOj;obtain⟨ps,hP⟩:=ht.is;refine thn (K1 pos b9 s1 σ H1 (fun zs H2=>∃ f o c',zs=[V.ref f]/\vJ P H1 H2/\jFv H2 P lpos (X.env.qual ++ "<lambda>") c'/\H2 f=some (FN f o)/\LamO (X.env.qual ++ "<lambda>") params body scope [(y,c)] c' o) I1 ⟨ht,fun f o c' H' sP nf tA hf hO=>⟨f,o,c',rfl,sP,tA,hf,hO⟩⟩) fun ws s2 ⟨zs,H2,I2,r2,q2⟩=>?_;obtain⟨f,o,c',rfl,sP,tA,hf,hO⟩:=q2;obtain⟨u2,rfl,ru2⟩:=tK r2;cases ru2;rw [hks];obtain⟨pm,xC,rfl⟩:=hO;refine jPX (xs:=[x1]) (H0:=H2) lT hr.hd I2 (fun pins' H3 s3 J s23=>?_) rfl (fun xv v hx rx ex H3 s3 J s23=>?_) (fun xv v H3 s3 hx rx s23 J=>?_)
 ·obtain⟨its,rv,pl,_⟩:=J.list ((hl.sameP hP sP).same' s23);exact⟨its,rv,pl.isList⟩
 ·obtain rfl:x1=xv:=Option.some.inj hx;obtain⟨m,hns,hloc⟩:=J.loc;obtain⟨uy,ruy,look⟩:=hloc iy y vy hN hy (.inr (.inl hk));obtain⟨_,cc,hcc,hcell⟩:(X.env.kindOf y=some .cell\/X.env.kindOf y=some .free)/\∃ c,X.env.cells.lookup y=some c/\s3.heap.IsCell c (some uy):=by
   rcases look with⟨z,_⟩|z
   ·rw [hk] at z;cases z
   ·exact z
  rw [hcy] at hcc;obtain rfl:=Option.some.inj hcc;have e0:=J.env0;have e1:jEY X.prog X.w X.K X.mg X.base X.A.in1 X.stack s3 H3:=⟨e0.frames,e0.mod,e0.bs,e0.bsz,e0.funs,e0.frf,e0.hok,e0.bare⟩
  have hf3:s3.heap.get? f=some _:=(J.hok f _ (s23 _ _ hf)).1;have pA:s3.heap.CodeRec (.ref c') (X.env.qual ++ "<lambda>"):=(J.hok c' _ (s23 _ _ tA.2)).1;have run:=lam_run (u:=v) S (show X.A.in1.handled=none from hr.hd) (show X.A.in1.depth<pP by have:=hr.dp;show X.A.depth<_;omega) e1 rx ruy hcell (J.freeC y c hcy) hf3 pA (uB pm c' xC v) (hb f (.ref c') X.A.in1 X.stack s3 H3) (oB H3 (sP.trans s23.p));refine kW (iB run fun r s' uA=>?_);cases r with
  | error e=>exact uA.elim
  | ok fl =>
    cases fl with
    | next=>exact uA.elim
    | brk=>exact uA.elim
    | cont=>exact uA.elim
    | ret z =>
      obtain⟨vv,H4,J4,rv,p',rfl,s34,hp4⟩:=J.after uA;cases rv;exact⟨p',H4,rfl,s34,hp4,J4⟩
 ·obtain rfl:x1=xv:=Option.some.inj hx;exact⟨x1,H3,J,rx,hq H3 (sP.trans s23.p) (.inr ⟨c',tA.same s23⟩)⟩
end
section
variable {X:Cx}{a b o e:Expr}{ta tb td te:TE}{pos p o6:Pos}{i:Nat}{x:Str}{r:R2}{op:CmpOp}
theorem psA(hN:X.N.Nodup)(he:PE X e te)(hi:X.N[i]?=some x:=by rfl)(hx:Loc X.env.scope x:=by first|exact Or.inl rfl|exact Or.inr rfl)(hs:lY e (some (.Name x o6)) pos.line X.env=pure false:=by rfl)(hf:X.fn x=true\/X.env.scope.names.lookup x=some .local:=by first|exact .inl rfl|exact .inr rfl|assumption):PS X (.Assign [.Name x o6] e pos) (tAsg te (vK i)):=ps_set hN hi hx he hs hf
theorem pgA(hN:X.N.Nodup)(hi:X.N[i]?=some x:=by rfl)(hx:Loc X.env.scope x:=by first|exact Or.inl rfl|exact Or.inr rfl)(hf:X.fn x=true\/X.env.scope.names.lookup x=some .local:=by first|exact .inl rfl|exact .inr rfl|assumption):PG X (.Name x pos) (vK i):=jGO hN hi hx hf
theorem dgA(hu:X.A.units+1<cLine)(ho:PE X o td)(hi:PE X b tb)(hs:NoSl b:=by exact fun _ _=>rfl):PE X (.Subscript o b pos) (tDGet td tb):=pe_dget hu ho hi hs
theorem ixA(hr:IxR X r)(ha:PE X a ta)(hb:PE X b tb)(hs:jI8 b:=by exact fun _ _=>rfl):PE X (.Subscript a b pos) (tOp r ta tb):=pe_ix hr ha hb hs
theorem ecA(ho:OpR X (fB op) r)(ha:PE X a ta)(hb:PE X b tb)(hm:iD op b=false:=by exact jOb _):PE X (.Compare a [op] [b] pos) (tOp r ta tb):=jCs ho ha hb hm
theorem tcA(ho:OpR X (fB op) r)(ha:PE X a ta)(hb:PE X b tb)(hm:iD op b=false:=by exact jOb _):PT X (.Compare a [op] [b] pos) (tTest (tOp r ta tb)):=jC1 ho ha hb hm
theorem kX.m(h:kX k A)(e:j<=k:=by decide):kX j A:=h.mono e
theorem scM(h:jCt N ps sc:=by exact⟨rfl,rfl,rfl,by decide +kernel,rfl,by decide +kernel,by decide +kernel⟩):jCt N ps sc:=h
end
end L2
namespace My
open PySem L2
noncomputable def zN:List Nat:=range' 48 10
theorem jOP(h:c∈zN):48<=c/\c<=57:=by
 have q:=List.mem_range'.mp h;obtain⟨i,hi,e⟩:=q;omega
theorem jGf:(c9 "0")=(⟨#[48]⟩:Str):=by decide +kernel
theorem sign_is(c:Nat):decide (V.str ⟨#[c]⟩=V.str (c9 "0"))=decide (c=48):=by
 refine decide_eq_decide.mpr ⟨fun e=>?_,fun e=>by rw [e,jGf]⟩;rw [jGf] at e;injection e with e3;injection e3 with e4;have e5:=congrArg Array.toList e4;exact (List.cons.inj e5).1
noncomputable def vL(z:Str):Bool:=decide ((1:Int)<=(z.length:Nat))&&decide (((z.length:Nat):Int)<=9)&&(z.cps.toList.all fun c=>decide (c∈zN))&&(decide (z=⟨#[48]⟩) || !decide (z.cps.toList.headD 0=48))
noncomputable def val(z:Str):Int:=((NumText.digitsVal z.cps.toList:Nat):Int)
noncomputable def wr(z:Str):V:=if vL z=true then .int (val z) else .non
noncomputable def jKy(z:Str)(lo hi:Int):V:=if (vL z&&decide (lo<=val z)&&decide (val z<=hi))=true then .int (val z) else .non
theorem jNx(h:vL z=true)(hz:z.length<=400):PySem.intText? z=some (val z):=by
 unfold vL at h;rw [eK,eK,eK] at h;obtain⟨⟨⟨h1,h2⟩,h3⟩,_⟩:=h;have wA:=of_decide_eq_true h1;refine PySem.intText_digits (fun c hc=>?_) (fun e=>?_) (by omega)
 ·exact jOP (of_decide_eq_true ((gZ.mp h3) c hc))
 ·have:z.length=0:=by rw [<- jC9,e];rfl
  omega
noncomputable def sN:List Nat:=range' 97 26
noncomputable def good(z:Str):Bool:=decide ((1:Int)<=(z.length:Nat))&&decide (((z.length:Nat):Int)<=12)&&decide (z.cps.toList.headD 0∈sN)&&z.cps.toList.all fun c=>decide (c∈sN++zN)
noncomputable def lay(z:Str):Bool:=decide (z=c9 "both")||(Txt.startswith z (c9 "up:")&&decide (¬ jKy (Txt.slice z (some 3) none) 2 16=V.non))
noncomputable def jOQ:List Str:=(range 15).map fun i=>c9 "up:" ++ c9 (toString (2+((i:Nat):Int)))
open Blk (sg sg_inj rZ)
noncomputable def Jc(c:Nat):List (List Nat)->List Nat
 | []=>[]
 | [x]=>x
 | x::y::r=>x++c::Jc c (y::r)
noncomputable def Cc(c:Nat):List Nat->List (List Nat)
 | []=>[[]]
 | d::r=>if d=c then []::Cc c r else match Cc c r with
   | []=>[[d]]
   | p::ps=>(d::p)::ps
theorem jMX(c:Nat):∀ (x:List Nat),c ∉ x->Cc c x=[x]
 | [],_=>rfl
 | d::r,h=>by
   have h1:¬ d=c:=fun e=>h (by rw [e];exact eD);have ih:=jMX c r fun m=>h (eG _ m);show (if d=c then _ else _)=_;rw [if_neg h1,ih]
theorem jOR(c:Nat):∀ (x r:List Nat),c ∉ x->Cc c (x++c::r)=x::Cc c r
 | [],r,_=>by
   show (if c=c then _ else _)=_;rw [if_pos rfl]
 | d::x,r,h=>by
   have h1:¬ d=c:=fun e=>h (by rw [e];exact eD);have ih:=jOR c x r fun m=>h (eG _ m);show (if d=c then _ else match Cc c (x++c::r) with|[]=>[[d]]|p::ps=>(d::p)::ps)=_;rw [if_neg h1,ih]
theorem Cc_J(c:Nat):∀ (ps:List (List Nat)),ps≠[]->(∀ p∈ps,c ∉ p)->Cc c (Jc c ps)=ps
 | [],h,_=>absurd rfl h
 | [x],_,h=>jMX c x (h x eD)
 | x::y::r,_,h=>by
   show Cc c (x++c::Jc c (y::r))=_;rw [jOR c x _ (h x eD),Cc_J c (y::r) (by intro e;cases e) fun p hp=>h p (eG _ hp)]
theorem jJf(c:Nat):∀ ps:List Str,ps≠[]->sg (join ⟨#[c]⟩ ps)=Jc c (ps.map sg)
 | [],h=>absurd rfl h
 | [x],_=>rfl
 | x::y::r,_=>by
   have ih:=jJf c (y::r) (by intro e;cases e);show sg (x++⟨#[c]⟩++join ⟨#[c]⟩ (y::r))=sg x++c::Jc c ((y::r).map sg);rw [rZ,rZ,ih];show sg x++[c]++_=_;rw [append_assoc]<;>rfl
theorem jOS(c:Nat)(ha:a≠[])(hb:b≠[])(fa:∀ p∈a,c ∉ sg p)(fb:∀ p∈b,c ∉ sg p)(j:join ⟨#[c]⟩ a=join ⟨#[c]⟩ b):a=b:=by
 have h1:=Cc_J c (a.map sg) (by simpa using ha) (by intro p hp;obtain⟨q,hq,rfl⟩:=dR.mp hp;exact fa q hq);have h2:=Cc_J c (b.map sg) (by simpa using hb) (by intro p hp;obtain⟨q,hq,rfl⟩:=dR.mp hp;exact fb q hq);rw [<- jJf c a ha,j,jJf c b hb,h2] at h1;exact (Blk.map_sg_inj h1).symm
theorem jPZ(z:Str)(c:Nat):Txt.split z ⟨#[c]⟩≠[]:=by
 have q:=split_pos z ⟨#[c]⟩;intro e;rw [e] at q;exact absurd q (by decide)
theorem jNy(c:Nat)(h:ps≠[])(hf:∀ p∈ps,c ∉ sg p):Txt.split (join ⟨#[c]⟩ ps) ⟨#[c]⟩=ps :=
 jOS c (jPZ _ c) h (fun p hp=>StrLaws.split_free _ c p hp) hf (StrLaws.join_split _ ⟨#[c]⟩)
theorem jK9(z:Str)(ws:List Str):Txt.join z ws=join z ws:=StrLaws.glued_eq_join z ws
theorem jE7(z y:Str):Txt.startswith z y=true ↔ ∃ n:Str,z=y++n:=by
 unfold Txt.startswith;rw [eK];constructor
 ·rintro⟨h1,h2⟩;have wA:0+y.length<=z.length:=of_decide_eq_true h1;unfold Builtin.Str.subAt at h2;have h3:z.cps.extract 0 (0+y.length)=y.cps:=eq_of_beq h2;have h4:sg y=(sg z).take y.length:=by
   unfold Blk.sg;rw [<- h3];simp
  refine⟨⟨((sg z).drop y.length).toArray⟩,sg_inj ?_⟩;rw [rZ,h4];show sg z=(sg z).take y.length++(sg z).drop y.length;exact (List.take_append_drop _ _).symm
 ·rintro⟨n,rfl⟩;have hl:(y++n).length=y.length+n.length:=jMJ y n;refine⟨decide_eq_true (by rw [hl];omega),?_⟩;unfold Builtin.Str.subAt;refine beq_iff_eq.mpr ?_;apply uF.mp;show ((y.cps++n.cps).extract 0 (0+y.cps.size)).toList=y.cps.toList;simp
theorem jK_(p n:Str):Txt.startswith (p++n) p=true:=(jE7 _ _).mpr ⟨n,rfl⟩
theorem jEj(z:Str):(sg z).length=z.length:=jC9 z
theorem sw_pre(h:q.length<=p.length):Txt.startswith (p++n) q=Txt.startswith p q:=by
 rw [Bool.eq_iff_iff,jE7,jE7];constructor
 ·rintro⟨m,e⟩;have e2:=congrArg sg e;rw [rZ,rZ] at e2;have e3:=congrArg (List.take (sg q).length) e2;rw [List.take_left,List.take_append_of_le_length (by rw [jEj,jEj];exact h)] at e3;refine⟨⟨((sg p).drop (sg q).length).toArray⟩,sg_inj ?_⟩;rw [rZ];show sg p=sg q++(sg p).drop (sg q).length
  conv=>rhs;rw [<- e3]
  rw [gD,Nat.min_eq_left (by rw [jEj,jEj];exact h),List.take_append_drop]
 ·rintro⟨m,rfl⟩;exact⟨m++n,sg_inj (by rw [rZ,rZ,rZ,rZ,append_assoc])⟩
theorem jDG(p n:Str):Txt.slice (p++n) (some ((p.length:Nat):Int)) none=n:=by
 have hl:(p++n).length=p.length+n.length:=jMJ p n;rw [PyProof.Rows.slice_from_eq (x:=p++n) (i:=((p.length:Nat):Int)) (b:=(((p++n).length:Nat):Int)) (by omega) (by omega) rfl];refine sg_inj ?_;show ((sg (p++n)).drop (((p.length:Nat):Int)).toNat).take ((((p++n).length:Nat):Int)-((p.length:Nat):Int)).toNat=sg n;have e1:(((p.length:Nat):Int)).toNat=(sg p).length:=by rw [jEj];omega
 rw [rZ,e1,List.drop_left];exact eX (by rw [jEj];omega)
noncomputable def tn(n:Int):Str:=c9 (toString n)
theorem num_all:∀ m∈range 1000,vL (tn ((m:Nat):Int))=true/\val (tn ((m:Nat):Int))=((m:Nat):Int):=by decide +kernel
theorem jOT(h0:0<=n)(h1:n<=999):vL (tn n)=true/\val (tn n)=n:=by
 obtain⟨m,rfl⟩:=Int.eq_ofNat_of_zero_le h0;exact num_all m (iW.mpr (by omega))
theorem jP0(h0:0<=n)(h1:n<=999):∀ c∈sg (tn n),c∈zN:=fun c hc=>by
 have a:=(jOT h0 h1).1;unfold vL at a;rw [eK,eK] at a;exact of_decide_eq_true ((gZ.mp a.1.2) c hc)
theorem num_len(h0:0<=n)(h1:n<=999):(tn n).length<=3:=PyProof.Rows.toString_length_le h0 (by decide) (by omega)
inductive VO where
 | v (x:V)|pair (a b:Int)
 deriving DecidableEq
noncomputable def non:VO:=.v .non
noncomputable abbrev cX:Str:=c9 "x"
noncomputable abbrev jGg:Str:=c9 "colour:"
noncomputable abbrev wN:Str:=c9 "paper:"
noncomputable abbrev yO:Str:=c9 "cover:"
noncomputable abbrev jK:Str:=c9 "after:"
noncomputable abbrev xE:Str:=c9 "staple"
noncomputable abbrev cLay:Str:=c9 "layout"
noncomputable abbrev jGh:Str:=c9 "one"
noncomputable abbrev u9:Str:=c9 "plain"
noncomputable abbrev cDash:Str:=c9 "-"
noncomputable abbrev y4:Str:=c9 " "
noncomputable def rst(z p:Str):Str:=Txt.slice z (some ((p.length:Nat):Int)) none
noncomputable def readCol(span:Str)(pages:Int):VO:=match Txt.split span cDash with
 | [a,b]=>(match jKy a 1 pages with
   | .int f=>(match jKy b f pages with
     | .int l=>.pair f l
     | _=>non)
   | _=>non)
 | _=>non
noncomputable def three:List Str:=[wN,yO,jK]
noncomputable def four:List Str:=[cX,jGg,wN,yO]
noncomputable def valueOf(z:Str)(pages:Int):VO :=
 if z=xE then .v (.bl true) else if lay z=true then .v (.str z) else if Txt.startswith z cX=true then .v (jKy (rst z cX) 1 99) else if Txt.startswith z jGg=true then readCol (rst z jGg) pages
 else match three.find? (fun p=>Txt.startswith z p&&good (rst z p)) with
  | some p=>.v (.str (rst z p))
  | none=>non
noncomputable def sortOf(z:Str):Str:=if lay z=true then cLay else (four.find? fun p=>Txt.startswith z p).getD z
structure Jb where
 name:Str
 asker:Str
 pages:Int
 copies:Int
 layout:Str
 paper:Str
 cover:Option Str
 colour:Option (Int×Int)
 staple:Bool
 after:List Str
structure Jb.Ok(j:Jb):Prop where
 name:good j.name=true
 asker:good j.asker=true
 p0:1<=j.pages
 p1:j.pages<=999
 c0:1<=j.copies
 c1:j.copies<=99
 lay:j.layout∈jGh::c9 "both" :: jOQ
 paper:good j.paper=true
 cover:∀ z,j.cover=some z->good z=true
 colour:∀ a b,j.colour=some (a,b)->1<=a/\a<=b/\b<=j.pages
 after:∀ z∈j.after,good z=true
 nd:j.after.Nodup
 few:j.after.length<=3
noncomputable def Jb.ents(j:Jb)(yA:Bool):List (Bool×Str×Str×VO) :=
 [(!decide (j.copies=1)||yA,cX++tn j.copies,cX,.v (.int j.copies)),(!decide (j.layout=jGh),j.layout,cLay,.v (.str j.layout)),
  (j.colour.isSome,jGg++tn (j.colour.getD (1,1)).1++cDash++tn (j.colour.getD (1,1)).2,jGg,.pair (j.colour.getD (1,1)).1 (j.colour.getD (1,1)).2),
  (!decide (j.paper=u9)||yA,wN++j.paper,wN,.v (.str j.paper)),(j.cover.isSome,yO++j.cover.getD u9,yO,.v (.str (j.cover.getD u9))),(j.staple,xE,xE,.v (.bl true))]
noncomputable def Jb.words(j:Jb)(yA:Bool):List Str:=((j.ents yA).filter (·.1)).map (·.2.1)
theorem pre_no(h:q.length<=p.length)(h2:Txt.startswith p q=false):Txt.startswith (p++n) q=false:=by rw [sw_pre h,h2]
theorem sw_via(hq:Txt.startswith q r=true)(hz:Txt.startswith z r=false):Txt.startswith z q=false:=by
 rw [nH];intro h;obtain⟨m,e⟩:=(jE7 _ _).mp h;obtain⟨m2,e2⟩:=(jE7 _ _).mp hq;have:Txt.startswith z r=true:=(jE7 _ _).mpr ⟨m2++m,by rw [e,e2];exact sg_inj (by rw [rZ,rZ,rZ,rZ,append_assoc])⟩;rw [hz] at this;cases this
theorem jP1:y4=(⟨#[32]⟩:Str):=by decide +kernel
theorem figs_no(h:c<48)(z:Str)(hz:∀ d∈sg z,d∈zN):c ∉ sg z:=fun m=>by
 have:=(jOP (hz c m)).1;omega
noncomputable def yA(pages:Int)(M:List Str):List (Str×VO):=M.map fun w=>(sortOf w,valueOf w pages)
theorem jP2:32 ∉ sN++zN:=by decide +kernel
theorem jGi(h:good z=true):32 ∉ sg z:=fun m=>by
 unfold good at h;rw [eK] at h;exact jP2 (of_decide_eq_true ((gZ.mp h.2) 32 m))
noncomputable def Jb.head(j:Jb):List Str:=[j.name,j.asker,tn j.pages]
noncomputable def jobF(a b c d e f g h i j:V):List (Str×V):=[("name",a),("asker",b),("pages",c),("copies",d),("layout",e),("paper",f),("cover",g),("colour",h),("staple",i),("after",j)]
theorem y9:∀ {fs:List (Str×V)},¬ f∈fs.map (·.1)->l7 f v fs=fs++[(f,v)]
 | [],_=>rfl
 | (g,u)::r,h=>by
   have h1:¬ g=f:=fun e=>h (by rw [<- e];exact eD);show (if g=f then _ else (g,u)::l7 f v r)=_;rw [if_neg h1,y9 fun m=>h (eG _ m)];rfl
theorem jP3(xs:List V)(k:Nat):tG xs (some (k:Int)) none=xs.drop k:=by
 unfold tG;rw [HT.sIx_nat,HT.sIx_none];by_cases h:k<=xs.length
 ·rw [Nat.min_eq_left h];exact eX (by rw [jJ];omega)
 ·rw [Nat.min_eq_right (by omega),List.drop_of_length_le (Nat.le_refl _),List.drop_of_length_le (by omega),List.take_nil]
theorem jOU(xs:List V)(k:Nat):tG xs none (some (k:Int))=xs.take k:=by
 unfold tG;rw [HT.sIx_nat,HT.sIx_none];by_cases h:k<=xs.length
 ·rw [Nat.min_eq_left h];rfl
 ·rw [Nat.min_eq_right (by omega),List.drop_zero,Nat.sub_zero,eX (Nat.le_refl _),eX (by omega)]
noncomputable def nmC(f r:Nat)(size yF l:Nat):List Nat:=(f::gC (size-1) r).set yF l
noncomputable def nm(f r:Nat)(size yF l:Nat):Str:=⟨(nmC f r size yF l).toArray⟩
structure jGW(ns:List Str)(m:Nat):Prop where
 len:ns.length=m
 good:∀ z∈ns,good z=true
 nd:ns.Nodup
noncomputable def one(c:Nat):Str:=⟨#[c]⟩
theorem jJX(e:Str)(he:sg e=[]):∀ cs:List Nat,sg (join e (cs.map one))=cs
 | []=>rfl
 | [c]=>rfl
 | c::d::r=>by
   have ih:=jJX e he (d::r);show sg (one c++e++join e ((d::r).map one))=c::d::r;rw [rZ,rZ,he,ih];rfl
theorem low_at(h:sN[i]?=some c):c=97+i:=by
 have hi:i<26:=by
  have:=(List.getElem?_eq_some_iff.mp h).1;unfold sN at this;rwa [List.length_range'] at this
 unfold sN at h;rw [List.getElem?_range' hi] at h;have:=Option.some.inj h;omega
theorem jEl(h:good z=true):z.length<=12:=by
 unfold good at h;rw [eK,eK,eK] at h;have:=of_decide_eq_true h.1.1.2;omega
theorem sum_le{ws:List Str}{B:Nat}(h:∀ w∈ws,w.length<=B):(ws.map (·.length)).sum<=ws.length*B:=by
 induction ws with
 | nil=>simp
 | cons a r ih =>
   have h1:=h a eD;have h2:=ih fun w hw=>h w (eG _ hw);rw [eW,List.sum_cons,fC,Nat.succ_mul];omega
noncomputable def fX(i:Nat):Stmt:=PySem.Challenge.pw_spoolhall_k76_never.main.body.getD i (.Pass ⟨0,0,0,0⟩)
noncomputable abbrev jJg:Stmt:=iG (fX 11) 0
noncomputable abbrev jNz:Stmt:=fX 22
noncomputable abbrev jOV:Stmt:=fX 23
noncomputable abbrev jOW:Stmt:=fX 24
noncomputable abbrev jLY:Stmt:=fX 25
noncomputable abbrev jLZ:Stmt:=fX 26
noncomputable abbrev jL0:Stmt:=fX 27
noncomputable abbrev jNA:Stmt:=iG (fX 42) 0
noncomputable abbrev jNB:Stmt:=fX 43
noncomputable abbrev jL1:Stmt:=fX 44
noncomputable abbrev jNC:Stmt:=fX 45
noncomputable abbrev jOX:Stmt:=fX 46
noncomputable abbrev jND:Stmt:=fX 48
noncomputable abbrev s_cost:Stmt:=fX 49
noncomputable abbrev s_needs:Stmt:=fX 53
noncomputable abbrev s_lacks:Stmt:=fX 54
noncomputable abbrev s_has:Stmt:=fX 55
noncomputable abbrev jOY:Stmt:=fX 56
noncomputable abbrev jL2:Stmt:=iG (fX 62) 0
noncomputable abbrev jLa:Stmt:=iG (fX 62) 1
noncomputable abbrev s_grown:Stmt:=fX 65
noncomputable abbrev jP4:Stmt:=fX 66
noncomputable abbrev jFw:Stmt:=fX 67
noncomputable abbrev jOZ:Stmt:=fX 73
noncomputable abbrev jL3:Stmt:=iG (fX 74) 0
noncomputable abbrev jHC:Stmt:=iG (fX 74) 1
noncomputable abbrev jNE:Stmt:=iG (fX 74) 2
noncomputable abbrev jJh:Stmt:=iG (fX 74) 3
noncomputable abbrev jL4:Stmt:=iG (fX 74) 5
noncomputable abbrev jL5:Stmt:=iG (fX 74) 7
noncomputable abbrev jL6:Stmt:=iG (fX 74) 8
noncomputable abbrev jHD:Stmt:=iG (fX 74) 10
noncomputable abbrev jHE:Stmt:=iG (fX 74) 11
noncomputable abbrev jGj:Stmt:=iG (fX 74) 12
noncomputable abbrev jKi:Stmt:=iG (fX 74) 13
noncomputable abbrev jHF:Stmt:=iG (fX 74) 14
noncomputable abbrev jF0:Stmt:=iG (fX 74) 15
noncomputable abbrev jKj:Stmt:=iG (fX 74) 16
noncomputable abbrev jG4:Stmt:=iG (fX 74) 17
noncomputable abbrev jHG:Stmt:=iG (fX 74) 18
noncomputable abbrev jLb:Stmt:=iG (fX 77) 0
noncomputable abbrev jJi:Stmt:=iG (fX 77) 1
noncomputable abbrev jLc:Stmt:=iG (fX 78) 0
noncomputable abbrev jLd:Stmt:=iG (fX 80) 0
noncomputable abbrev jLe:Stmt:=iG (fX 80) 1
noncomputable abbrev jLf:Stmt:=iG (fX 80) 3
noncomputable abbrev jHH:Stmt:=iG (fX 80) 4
noncomputable abbrev jL7:Stmt:=iG (fX 80) 5
noncomputable abbrev jIn:Stmt:=iG (fX 80) 6
noncomputable abbrev jHI:Stmt:=iG (fX 80) 7
noncomputable abbrev jJj:Stmt:=iG (fX 84) 0
noncomputable abbrev jHJ:Stmt:=iG (fX 84) 1
noncomputable abbrev jHK:Stmt:=iG (fX 84) 2
noncomputable abbrev jFx:Stmt:=iG (fX 84) 3
noncomputable abbrev jHL:Stmt:=iG (fX 84) 5
noncomputable abbrev jJk:Stmt:=iG (fX 84) 6
noncomputable abbrev jJl:Stmt:=iG (fX 84) 7
noncomputable abbrev jEF:Stmt:=iG (fX 84) 8
noncomputable abbrev jJm:Stmt:=iG (fX 84) 9
noncomputable abbrev jJn:Stmt:=iG (fX 84) 10
noncomputable abbrev jHM:Stmt:=iG (fX 84) 11
noncomputable abbrev jLg:Stmt:=fX 89
noncomputable abbrev jKk:Stmt:=iG (fX 90) 0
noncomputable abbrev jGk:Stmt:=iG (fX 90) 1
noncomputable abbrev jKl:Stmt:=iG (fX 90) 2
noncomputable abbrev jF1:Stmt:=iG (fX 90) 3
noncomputable abbrev jNF:Stmt:=iG (fX 91) 0
noncomputable abbrev jL8:Stmt:=fX 94
noncomputable abbrev jL9:Stmt:=fX 97
noncomputable abbrev jNG:Stmt:=fX 98
noncomputable abbrev jP5:Stmt:=fX 99
noncomputable abbrev jKm:Stmt:=fX 100
noncomputable abbrev jNH:Stmt:=iG (fX 102) 0
noncomputable abbrev jNI:Stmt:=iG (fX 102) 1
noncomputable abbrev jL_:Stmt:=iG (fX 102) 2
noncomputable abbrev jP6:Stmt:=iG (fX 102) 4
noncomputable abbrev jMa:Stmt:=iG (fX 102) 5
noncomputable abbrev jNJ:Stmt:=iG (fX 102) 6
noncomputable abbrev jJo:Stmt:=iG (fX 102) 7
noncomputable abbrev jNK:Stmt:=iG (fX 102) 8
noncomputable abbrev jNL:Stmt:=iG (fX 102) 9
noncomputable abbrev jNM:Stmt:=iG (fX 102) 10
noncomputable abbrev jHN:Stmt:=iG (fX 102) 12
noncomputable abbrev jFy:Stmt:=iG (fX 102) 13
noncomputable abbrev jKn:Stmt:=iG (fX 102) 14
noncomputable abbrev jO0:Stmt:=iG (fX 102) 15
noncomputable abbrev jKo:Stmt:=iG (fX 102) 16
noncomputable abbrev jJp:Stmt:=iG (fX 102) 17
noncomputable abbrev jP7:Stmt:=fX 104
noncomputable abbrev jO1:Stmt:=fX 105
noncomputable abbrev jMb:Stmt:=fX 106
noncomputable abbrev jLh:Stmt:=fX 107
noncomputable abbrev jMc:Stmt:=iG (fX 113) 0
noncomputable abbrev jGl:Stmt:=iG (fX 113) 1
noncomputable abbrev jHO:Stmt:=iG (fX 113) 2
noncomputable abbrev jNN:Stmt:=iG (fX 113) 3
noncomputable abbrev jLi:Stmt:=iG (fX 113) 4
noncomputable abbrev jMd:Stmt:=iG (fX 113) 5
noncomputable abbrev jEI:Stmt:=iG (fX 113) 6
noncomputable abbrev jF2:Stmt:=iG (fX 113) 7
noncomputable abbrev jMe:Stmt:=iG (fX 113) 12
noncomputable abbrev jMf:Stmt:=iG (fX 113) 13
noncomputable abbrev jMg:Stmt:=iG (fX 113) 15
noncomputable abbrev jIo:Stmt:=iG (fX 113) 16
noncomputable abbrev jMh:Stmt:=iG (fX 113) 22
noncomputable abbrev jLj:Stmt:=iG (fX 113) 24
noncomputable abbrev jG5:Stmt:=iG (fX 113) 28
noncomputable abbrev jKp:Stmt:=iG (fX 113) 29
noncomputable abbrev jKq:Stmt:=iG (fX 113) 30
noncomputable abbrev jF3:Stmt:=iG (fX 113) 31
noncomputable abbrev jIp:Stmt:=iG (fX 113) 32
noncomputable abbrev jJq:Stmt:=iG (fX 113) 33
noncomputable abbrev jJr:Stmt:=iG (fX 113) 34
noncomputable abbrev jHP:Stmt:=iG (fX 113) 35
noncomputable abbrev jMi:Stmt:=fX 115
noncomputable abbrev jLk:Stmt:=fX 116
noncomputable abbrev jLl:Stmt:=fX 117
noncomputable abbrev jLm:Stmt:=fX 118
noncomputable abbrev jG6:Stmt:=fX 119
noncomputable abbrev jLn:Stmt:=fX 120
noncomputable abbrev jMj:Stmt:=fX 121
noncomputable abbrev jMk:Stmt:=fX 122
noncomputable abbrev jGX:Stmt:=fX 123
theorem bnZ{p:List Value->Prop}(h:p [])(us:List Value)(l:us.length=0):p us:=List.eq_nil_of_length_eq_zero l▸h
theorem bnS{p:List Value->Prop}(h:∀ a us,us.length=n->p (a::us))(us:List Value)(l:us.length=n+1):p us:=match us,l with|a::us,l=>h a us (Nat.succ.inj l)
theorem bn1{p:List Value->Prop}(h:∀ a0:Value,p [a0])(us:List Value)(l:us.length=1):p us:=bnS (fun a=>bnZ (p:=fun u=>p (a::u)) (h a)) us l
theorem bn2{p:List Value->Prop}(h:∀ a0 a1:Value,p [a0,a1])(us:List Value)(l:us.length=2):p us:=bnS (fun a=>bn1 (p:=fun u=>p (a::u)) (h a)) us l
theorem bn3{p:List Value->Prop}(h:∀ a0 a1 a2:Value,p [a0,a1,a2])(us:List Value)(l:us.length=3):p us:=bnS (fun a=>bn2 (p:=fun u=>p (a::u)) (h a)) us l
theorem bn4{p:List Value->Prop}(h:∀ a0 a1 a2 a3:Value,p [a0,a1,a2,a3])(us:List Value)(l:us.length=4):p us:=bnS (fun a=>bn3 (p:=fun u=>p (a::u)) (h a)) us l
theorem bn5{p:List Value->Prop}(h:∀ a0 a1 a2 a3 a4:Value,p [a0,a1,a2,a3,a4])(us:List Value)(l:us.length=5):p us:=bnS (fun a=>bn4 (p:=fun u=>p (a::u)) (h a)) us l
theorem bn7{p:List Value->Prop}(h:∀ a0 a1 a2 a3 a4 a5 a6:Value,p [a0,a1,a2,a3,a4,a5,a6])(us:List Value)(l:us.length=7):p us:=bnS (fun a=>bnS (p:=fun u=>p (a::u)) fun b=>bn5 (p:=fun u=>p (a::b::u)) (h a b)) us l
theorem vA{p:List Value->Prop}(h:∀ a0 a1 a2 a3 a4 a5 a6 a7 a8 a9 a10:Value,p [a0,a1,a2,a3,a4,a5,a6,a7,a8,a9,a10])(us:List Value)(l:us.length=11):p us:=bnS (fun a=>bnS (p:=fun u=>p (a::u)) fun b=>bnS (p:=fun u=>p (a::b::u)) fun c=>bnS (p:=fun u=>p (a::b::c::u)) fun d=>bn7 (p:=fun u=>p (a::b::c::d::u)) (h a b c d)) us l
noncomputable def Fi(K:PySem.W.Frag)(C:Addr)(n:Str)(f:Addr):Prop:=PySem.W.findIn K (.ref C) n=some (some (.ref f))
noncomputable def Ng(K:PySem.W.Frag)(n:Str)(v:Option Value):Prop:=lZ K dY n=some v
structure MP(K:PySem.W.Frag)(C:Addr)(n q:Str)(st:Stmt):Prop where
 x:∃ f fd,Fi K C n f/\isFn K (.ref f)=true/\Fun K n q st f fd
structure GP(K:PySem.W.Frag)(n:Str)(st:Stmt):Prop where
 x:∃ f fd,Ng K n (some (.ref f))/\Fun K n n st f fd
structure GL(K:PySem.W.Frag)(n:Str)(st:Stmt)(tP:Addr):Prop where
 x:∃ f fd cL,Ng K n (some (.ref f))/\Fun K n n st f fd/\fd.code=.ref cL/\j0 K cL tP=true
structure IP(K:PySem.W.Frag)(C:Addr)(q:Str)(st:Stmt):Prop where
 x:∃ f fd,InO K C f/\Fun K "__init__" q st f fd
noncomputable def cpB(K:PySem.W.Frag)(C:Addr)(fs:List Str):Bool:=oK K C empty&&PySem.W.hasDictIn K C&&rQ K C&&PySem.W.findIn K (.ref C) "__setattr__" == some (some (.builtin "object.__setattr__"))&&tU K C&&jT K (.ref C)&&fs.all fun f=>PySem.W.findIn K (.ref C) f==some none
structure CP(K:PySem.W.Frag)(n:Str)(C:Addr)(fs:List Str):Prop where
 a:Ng K n (some (.ref C))
 c:Cls K C
 m:tU K C=true
 k:jT K (.ref C)=true
 n:∀ (i:Nat) {f:Str},fs[i]?=some f->jQ K C f
structure XP(K:PySem.W.Frag)(n:Str)(C:Addr)(fs:List Str):Prop where
 a:Ng K n (some (.ref C))
 x:xcls K C fs=true
 m:PySem.W.excMk K C=true
 k:jT K (.ref C)=true
noncomputable def GsP(K:PySem.W.Frag)(n z:Str):Prop:=∃ t,Ng K n (some (.str z t))
noncomputable def GiP(K:PySem.W.Frag)(n:Str)(z:Int):Prop:=∃ t,Ng K n (some (.int z t))
section
variable {K:PySem.W.Frag}{C f:Addr}{n q:Str}{st:Stmt}{oc kV pC pm lC ct:Value}{od an:Option Addr}{uJ:Array (Option Value)}{fs:List Str}
theorem MP.of(a:PySem.W.findIn K (.ref C) n=some (some (.ref f)))(i:isFn K (.ref f)=true)(l:K.lookup f=some ⟨oc,od,.func (uO n q (jCN st) (wR st) (rH st) .none kV pC pm an lC ct),uJ⟩)(c:qF K lC q=true)(k:jT K (.ref f)=true):MP K C n q st:=⟨_,_,a,i,jId l c k⟩
theorem GP.of(a:lZ K dY n=some (some (.ref f)))(l:K.lookup f=some ⟨oc,od,.func (uO n n (jCN st) (wR st) (rH st) .none kV pC pm an lC ct),uJ⟩)(c:qF K lC n=true)(k:jT K (.ref f)=true):GP K n st:=⟨_,_,a,jId l c k⟩
theorem GL.of{cL tP:Addr}(a:lZ K dY n=some (some (.ref f)))(l:K.lookup f=some ⟨oc,od,.func (uO n n (jCN st) (wR st) (rH st) .none kV pC pm an (.ref cL) ct),uJ⟩)(c:qF K (.ref cL) n=true)(k:jT K (.ref f)=true)(h:j0 K cL tP=true):GL K n st tP:=⟨_,_,cL,a,jId l c k,rfl,h⟩
theorem IP.of(a:jN K (.ref C) "__getattribute__"=some (some (.builtin "type.__getattribute__")))(b:tQ K C (.type "type")=true)(d:uC K (.ref C) (.type "type") "__init__"=some (.val (.ref f)))(l:K.lookup f=some ⟨oc,od,.func (uO "__init__" q (jCN st) (wR st) (rH st) .none kV pC pm an lC ct),uJ⟩)(c:qF K lC q=true)(k:jT K (.ref f)=true):IP K C q st:=⟨_,_,⟨a,b,d⟩,jId l c k⟩
theorem CP.of(a:lZ K dY n=some (some (.ref C)))(b:cpB K C fs=true):CP K n C fs:=by
 unfold cpB at b;simp only [eK,beq_iff_eq,gZ] at b;obtain⟨⟨⟨⟨⟨⟨h1,h2⟩,h3⟩,h4⟩,h5⟩,h6⟩,h7⟩:=b;exact⟨a,⟨h1,h2,h3,h4⟩,h5,h6,fun i f e=>h7 f (mem_of_getElem? e)⟩
theorem XP.of(a:lZ K dY n=some (some (.ref C)))(x:xcls K C fs=true)(m:PySem.W.excMk K C=true)(k:jT K (.ref C)=true):XP K n C fs:=⟨a,x,m,k⟩
theorem GsP.of{x z:Str}{t:Tok}(g:lZ K dY n=some (some (.str x t)))(e:x=z):GsP K n z:=⟨t,e ▸ g⟩
theorem GiP.of{x z:Int}{t:Tok}(g:lZ K dY n=some (some (.int x t)))(e:x=z):GiP K n z:=⟨t,e ▸ g⟩
variable {P:Program}{w:World}{mg:Str->Option Value}{base:Heap}{k:Nat}{ps:List Str}{sp:Sp}
theorem mtX(p:MP K C n q st)(o:∀ f fd,Fun K n q st f fd->m8 P w K mg base (CXe P w) k f fd ps sp)(b:∀ {f} fd,Fun K n q st f fd->qK K fd ps []:=by first|exact fun _ F=>F.binds fun _ _ _ _ _ _=>bn1 fun _=>rfl|exact fun _ F=>F.binds fun _ _ _ _ _ _=>bn2 fun _ _=>rfl|exact fun _ F=>F.binds fun _ _ _ _ _ _=>bn3 fun _ _ _=>rfl|exact fun _ F=>F.binds fun _ _ _ _ _ _=>bn4 fun _ _ _ _=>rfl|exact fun _ F=>F.binds fun _ _ _ _ _ _=>bn5 fun _ _ _ _ _=>rfl|exact fun _ F=>F.binds fun _ _ _ _ _ _=>bn7 fun _ _ _ _ _ _ _=>rfl|exact fun _ F=>F.binds fun _ _ _ _ _ _=>vA fun _ _ _ _ _ _ _ _ _ _ _=>rfl):MtE P w K mg base k n C ps sp:=let ⟨_,_,a,i,F⟩:=p.x;⟨_,_,⟨a,i,F.kp⟩,o _ _ F,b _ F⟩
theorem i5(p:MP K C n q st)(o:∀ f fd,Fun K n q st f fd->m8 P w K mg base CX0 k f fd ps sp)(b:∀ {f} fd,Fun K n q st f fd->qK K fd ps []:=by first|exact fun _ F=>F.binds fun _ _ _ _ _ _=>bn1 fun _=>rfl|exact fun _ F=>F.binds fun _ _ _ _ _ _=>bn2 fun _ _=>rfl|exact fun _ F=>F.binds fun _ _ _ _ _ _=>bn3 fun _ _ _=>rfl|exact fun _ F=>F.binds fun _ _ _ _ _ _=>bn4 fun _ _ _ _=>rfl|exact fun _ F=>F.binds fun _ _ _ _ _ _=>bn5 fun _ _ _ _ _=>rfl|exact fun _ F=>F.binds fun _ _ _ _ _ _=>bn7 fun _ _ _ _ _ _ _=>rfl|exact fun _ F=>F.binds fun _ _ _ _ _ _=>vA fun _ _ _ _ _ _ _ _ _ _ _=>rfl):MtE P w K mg base k n C ps sp:=mtX p (fun _ _ F=>(o _ _ F).lift) b
variable (e:∃ h:Heap,K.In h/\h.Ns dY mg)
include e
theorem mJ(p:GP K n st)(o:∀ f fd,Fun K n n st f fd->m8 P w K mg base CX0 k f fd ps sp)(b:∀ {f} fd,Fun K n n st f fd->qK K fd ps []:=by first|exact fun _ F=>F.binds fun _ _ _ _ _ _=>bn1 fun _=>rfl|exact fun _ F=>F.binds fun _ _ _ _ _ _=>bn2 fun _ _=>rfl|exact fun _ F=>F.binds fun _ _ _ _ _ _=>bn3 fun _ _ _=>rfl|exact fun _ F=>F.binds fun _ _ _ _ _ _=>bn4 fun _ _ _ _=>rfl|exact fun _ F=>F.binds fun _ _ _ _ _ _=>bn5 fun _ _ _ _ _=>rfl|exact fun _ F=>F.binds fun _ _ _ _ _ _=>bn7 fun _ _ _ _ _ _ _=>rfl|exact fun _ F=>F.binds fun _ _ _ _ _ _=>vA fun _ _ _ _ _ _ _ _ _ _ _=>rfl):Dfn P w K mg base k n ps sp:=let ⟨_,X,G⟩:=e;let ⟨_,_,a,F⟩:=p.x;⟨_,_,o _ _ F,b _ F,F.kp,eY X G a⟩
theorem dfL{tP:Addr}(p:GL K n st tP)(o:∀ f fd cL,Fun K n n st f fd->fd.code=.ref cL->j0 K cL tP=true->m8 P w K mg base CX0 k f fd ps sp)(b:∀ {f} fd,Fun K n n st f fd->qK K fd ps []:=by first|exact fun _ F=>F.binds fun _ _ _ _ _ _=>bn1 fun _=>rfl|exact fun _ F=>F.binds fun _ _ _ _ _ _=>bn2 fun _ _=>rfl|exact fun _ F=>F.binds fun _ _ _ _ _ _=>bn3 fun _ _ _=>rfl|exact fun _ F=>F.binds fun _ _ _ _ _ _=>bn4 fun _ _ _ _=>rfl|exact fun _ F=>F.binds fun _ _ _ _ _ _=>bn5 fun _ _ _ _ _=>rfl|exact fun _ F=>F.binds fun _ _ _ _ _ _=>bn7 fun _ _ _ _ _ _ _=>rfl|exact fun _ F=>F.binds fun _ _ _ _ _ _=>vA fun _ _ _ _ _ _ _ _ _ _ _=>rfl):Dfn P w K mg base k n ps sp:=let ⟨_,X,G⟩:=e;let ⟨_,_,_,a,F,hl,hc⟩:=p.x;⟨_,_,o _ _ _ F hl hc,b _ F,F.kp,eY X G a⟩
theorem mkD(c:CP K n C fs)(p:MP K C "__init__" q st)(o:∀ f fd,Fun K "__init__" q st f fd->m8 P w K mg base CX0 k f fd ps sp)(b:∀ {f} fd,Fun K "__init__" q st f fd->qK K fd ps []:=by first|exact fun _ F=>F.binds fun _ _ _ _ _ _=>bn1 fun _=>rfl|exact fun _ F=>F.binds fun _ _ _ _ _ _=>bn2 fun _ _=>rfl|exact fun _ F=>F.binds fun _ _ _ _ _ _=>bn3 fun _ _ _=>rfl|exact fun _ F=>F.binds fun _ _ _ _ _ _=>bn4 fun _ _ _ _=>rfl|exact fun _ F=>F.binds fun _ _ _ _ _ _=>bn5 fun _ _ _ _ _=>rfl|exact fun _ F=>F.binds fun _ _ _ _ _ _=>bn7 fun _ _ _ _ _ _ _=>rfl|exact fun _ F=>F.binds fun _ _ _ _ _ _=>vA fun _ _ _ _ _ _ _ _ _ _ _=>rfl):MkD P w K mg base k n C ps sp:=let ⟨_,X,G⟩:=e;let ⟨_,_,a,i,F⟩:=p.x;⟨_,_,⟨c.m,a,i,c.k⟩,o _ _ F,b _ F,eY X G c.a⟩
theorem mkX(c:XP K n C fs)(p:MP K C "__init__" q st)(o:∀ f fd,Fun K "__init__" q st f fd->m8 P w K mg base CX0 k f fd ps sp)(b:∀ {f} fd,Fun K "__init__" q st f fd->qK K fd ps []:=by first|exact fun _ F=>F.binds fun _ _ _ _ _ _=>bn1 fun _=>rfl|exact fun _ F=>F.binds fun _ _ _ _ _ _=>bn2 fun _ _=>rfl|exact fun _ F=>F.binds fun _ _ _ _ _ _=>bn3 fun _ _ _=>rfl|exact fun _ F=>F.binds fun _ _ _ _ _ _=>bn4 fun _ _ _ _=>rfl|exact fun _ F=>F.binds fun _ _ _ _ _ _=>bn5 fun _ _ _ _ _=>rfl|exact fun _ F=>F.binds fun _ _ _ _ _ _=>bn7 fun _ _ _ _ _ _ _=>rfl|exact fun _ F=>F.binds fun _ _ _ _ _ _=>vA fun _ _ _ _ _ _ _ _ _ _ _=>rfl)(l:ps.length<=1000:=by decide):MkXD P w K mg base k n C ps sp:=let ⟨_,X,G⟩:=e;let ⟨_,_,a,i,F⟩:=p.x;⟨⟨_,_,⟨c.m,a,i,c.k⟩,o _ _ F,b _ F,eY X G c.a⟩,l⟩
theorem inD(c:CP K n C fs)(p:IP K C q st)(o:∀ f fd,Fun K "__init__" q st f fd->m8 P w K mg base CX0 k f fd ps sp)(b:∀ {f} fd,Fun K "__init__" q st f fd->qK K fd ps []:=by first|exact fun _ F=>F.binds fun _ _ _ _ _ _=>bn1 fun _=>rfl|exact fun _ F=>F.binds fun _ _ _ _ _ _=>bn2 fun _ _=>rfl|exact fun _ F=>F.binds fun _ _ _ _ _ _=>bn3 fun _ _ _=>rfl|exact fun _ F=>F.binds fun _ _ _ _ _ _=>bn4 fun _ _ _ _=>rfl|exact fun _ F=>F.binds fun _ _ _ _ _ _=>bn5 fun _ _ _ _ _=>rfl|exact fun _ F=>F.binds fun _ _ _ _ _ _=>bn7 fun _ _ _ _ _ _ _=>rfl|exact fun _ F=>F.binds fun _ _ _ _ _ _=>vA fun _ _ _ _ _ _ _ _ _ _ _=>rfl):InD P w K mg base k n C ps sp:=let ⟨_,X,G⟩:=e;let ⟨_,_,a,F⟩:=p.x;⟨_,_,a,o _ _ F,b _ F,F.kp,eY X G c.a⟩
end
theorem nS{H H2:Hp}{p:Addr}{o:HO}(n:H p=none)(e:upd H p o=H2):eR H H2:=e ▸ iS n o
theorem nE{H H2:Hp}{p:Addr}{o:HO}(e:upd H p o=H2):H2 p=some o:=e ▸ eO
structure Al(K:PySem.W.Frag)(cJob zP cLine zO u8 mP iU wE jGh mQ i6 uE cHallError dJ:Addr):Prop where
 kc0:CP K "Job" cJob ["name","asker","pages","copies","layout","paper","cover","colour","staple","after"]
 kc1:CP K "Book" zP ["rows"]
 kc2:CP K "Line" cLine ["ranks","shares","levels","marks","owners","costs","notes","queue"]
 kc3:CP K "State" zO ["word"]
 kc4:CP K "Ready" u8 ["word"]
 kc5:CP K "Stock" mP ["rooms","amounts"]
 kc6:CP K "Printer" iU ["name","can","path","rooms","trays","inks","state","inside"]
 kc7:CP K "Layout" wE ["cells","backs"]
 kc8:CP K "One" jGh ["cells","backs"]
 kc9:CP K "Run" mQ ["job","inks","passed","printer","slipped","broken"]
 kc10:CP K "Hall" i6 ["printers","piles","line","runs","records"]
 kc11:XP K "Nowhere" uE ["job"]
 p0:MP K uE "__init__" "Nowhere.__init__" jJg
 p1:GP K "words_of" jNz
 p2:GP K "made_of" jOV
 p3:GP K "is_name" jOW
 p4:GP K "is_number" jLY
 p5:GP K "number_in" jLZ
 p6:GP K "is_layout" jL0
 p7:MP K cJob "__init__" "Job.__init__" jNA
 p8:GP K "read_job" jNB
 p9:GP K "read_head" jL1
 p10:GP K "value_of" jNC
 p11:GP K "sort_of" jOX
 p12:GP K "told_job" jND
 p13:GP K "cost" s_cost
 p14:GP K "needs" s_needs
 p15:GP K "lacks" s_lacks
 p16:GP K "has" s_has
 p17:GP K "fitting" jOY
 p18:MP K zP "__init__" "Book.__init__" jL2
 p19:MP K zP "write" "Book.write" jLa
 p20:GP K "grown" s_grown
 p21:GP K "lifted" jP4
 p22:GL K "first_of" jFw dJ
 p23:GP K "as_keys" jOZ
 p24:MP K cLine "__init__" "Line.__init__" jL3
 p25:MP K cLine "add_asker" "Line.add_asker" jHC
 p26:MP K cLine "lay" "Line.lay" jNE
 p27:MP K cLine "waiting" "Line.waiting" jJh
 p28:MP K cLine "mark" "Line.mark" jL4
 p29:MP K cLine "take" "Line.take" jL5
 p30:MP K cLine "pull" "Line.pull" jL6
 p31:MP K cLine "must_know" "Line.must_know" jHD
 p32:MP K cLine "must_wait" "Line.must_wait" jHE
 p33:MP K cLine "has_waiting" "Line.has_waiting" jGj
 p34:MP K cLine "chosen" "Line.chosen" jKi
 p35:MP K cLine "firsts_of" "Line.firsts_of" jHF
 p36:MP K cLine "level_behind" "Line.level_behind" jF0
 p37:MP K cLine "charge" "Line.charge" jKj
 p38:MP K cLine "note_taken" "Line.note_taken" jG4
 p39:MP K cLine "why_ahead" "Line.why_ahead" jHG
 p40:IP K zO "State.__init__" jLb
 p41:MP K u8 "called" "State.called" jJi
 p42:MP K u8 "__init__" "Ready.__init__" jLc
 p43:MP K mP "__init__" "Stock.__init__" jLd
 p44:MP K mP "held" "Stock.held" jLe
 p45:MP K mP "know" "Stock.know" jLf
 p46:MP K mP "know_all" "Stock.know_all" jHH
 p47:MP K mP "put" "Stock.put" jL7
 p48:MP K mP "put_all" "Stock.put_all" jIn
 p49:MP K mP "draw_all" "Stock.draw_all" jHI
 p50:MP K iU "__init__" "Printer.__init__" jJj
 p51:MP K iU "stands" "Printer.stands" jHJ
 p52:MP K iU "papers" "Printer.papers" jHK
 p53:MP K iU "paper_left" "Printer.paper_left" jFx
 p54:MP K iU "within" "Printer.within" jHL
 p55:MP K iU "load" "Printer.load" jJk
 p56:MP K iU "fill" "Printer.fill" jJl
 p57:MP K iU "must_be_ready" "Printer.must_be_ready" jEF
 p58:MP K iU "feed" "Printer.feed" jJm
 p59:MP K iU "push" "Printer.push" jJn
 p60:MP K iU "oldest" "Printer.oldest" jHM
 p61:GP K "cells_from" jLg
 p62:IP K wE "Layout.__init__" jKk
 p63:MP K jGh "per_sheet" "Layout.per_sheet" jGk
 p64:MP K jGh "laid" "Layout.laid" jKl
 p65:MP K jGh "sheet_from" "Layout.sheet_from" jF1
 p66:MP K jGh "__init__" "One.__init__" jNF
 p67:GP K "layout_of" jL8
 p68:GP K "sheets_of" jL9
 p69:GP K "paper_of" jNG
 p70:GP K "ink_of" jP5
 p71:GP K "is_coloured" jKm
 p72:MP K mQ "__init__" "Run.__init__" jNH
 p73:MP K mQ "each" "Run.each" jNI
 p74:MP K mQ "total" "Run.total" jL_
 p75:MP K mQ "at" "Run.at" jP6
 p76:MP K mQ "whole" "Run.whole" jMa
 p77:MP K mQ "lack" "Run.lack" jNJ
 p78:MP K mQ "upcoming" "Run.upcoming" jJo
 p79:MP K mQ "take" "Run.take" jNK
 p80:MP K mQ "drop" "Run.drop" jNL
 p81:MP K mQ "step" "Run.step" jNM
 p82:MP K mQ "must_go_on" "Run.must_go_on" jHN
 p83:MP K mQ "must_be_placed" "Run.must_be_placed" jFy
 p84:MP K mQ "used_by" "Run.used_by" jKn
 p85:MP K mQ "fed" "Run.fed" jO0
 p86:MP K mQ "emptied" "Run.emptied" jKo
 p87:MP K mQ "note_out" "Run.note_out" jJp
 p88:GP K "doomed" jP7
 p89:GP K "settled" jO1
 p90:GP K "first_bar" jMb
 p91:GP K "chain_from" jLh
 p92:MP K i6 "__init__" "Hall.__init__" jMc
 p93:MP K i6 "add_printer" "Hall.add_printer" jGl
 p94:MP K i6 "add_asker" "Hall.add_asker" jHO
 p95:MP K i6 "lay" "Hall.lay" jNN
 p96:MP K i6 "start" "Hall.start" jLi
 p97:MP K i6 "step" "Hall.step" jMd
 p98:MP K i6 "one_step" "Hall.one_step" jEI
 p99:MP K i6 "another_step" "Hall.another_step" jF2
 p100:MP K i6 "load" "Hall.load" jMe
 p101:MP K i6 "fill" "Hall.fill" jMf
 p102:MP K i6 "drop" "Hall.drop" jMg
 p103:MP K i6 "job_word" "Hall.job_word" jIo
 p104:MP K i6 "able" "Hall.able" jMh
 p105:MP K i6 "never" "Hall.never" jLj
 p106:MP K i6 "printer_of" "Hall.printer_of" jG5
 p107:MP K i6 "run_of" "Hall.run_of" jKp
 p108:MP K i6 "run_at" "Hall.run_at" jKq
 p109:MP K i6 "must_be_free" "Hall.must_be_free" jF3
 p110:MP K i6 "is_whole" "Hall.is_whole" jIp
 p111:MP K i6 "awaited" "Hall.awaited" jJq
 p112:MP K i6 "is_able" "Hall.is_able" jJr
 p113:MP K i6 "write_out" "Hall.write_out" jHP
 p114:GP K "_law_draw" jMi
 p115:GP K "_law_names" jLk
 p116:GP K "_law_waits" jLl
 p117:GP K "_law_stuck" jLm
 p118:GP K "_law_chain_good" jG6
 p119:GP K "_law_asked" jLn
 p120:GP K "_law_laid" jMj
 p121:GP K "_law_deed" jMk
 p122:GP K "law" jGX
theorem wq1:1<=dL:=small (by decide)
theorem wq2:2<=dL:=small (by decide)
theorem wq3:3<=dL:=small (by decide)
theorem wq4:4<=dL:=small (by decide)
theorem wq7:7<=dL:=small (by decide)
structure Txt(K:PySem.W.Frag)(mg:Str->Option Value)(base:Heap)(yQ yZ yX yY yV yJ yW yU yK yG cQ cZ cV dJ:Addr):Prop extends Al K yQ yZ yX yY yV yJ yW yU yK yG cQ cZ cV dJ where
 aj:mg "len"=none
 au:mg "range"=none
 bD:mg "enumerate"=none
 bE:mg "str"=none
 bV:mg "int"=none
 bF:mg "tuple"=none
 ar:mg "list"=none
 aX:mg "isinstance"=none
 bW:mg "all"=none
 bX:mg "min"=none
 bY:mg "max"=none
 av:mg "dict"=none
 bZ:mg "any"=none
 dc:mg "ValueError"=none
 bG:GS mg "LETTERS" (c9 "abcdefghijklmnopqrstuvwxyz")
 bH:GS mg "FIGURES" (c9 "0123456789")
 ce:GI mg "NAME_MOST" (12)
 cf:GI mg "NUMBER_MOST" (9)
 UP:GS mg "UP" (c9 "up:")
 cg:GI mg "UP_LEAST" (2)
 ci:GI mg "UP_MOST" (16)
 ck:GI mg "PAGES_MOST" (999)
 de:GI mg "COPIES_MOST" (99)
 aK:GI mg "HEAD" (3)
 aY:GS mg "COPIES" (c9 "x")
 aZ:GS mg "COLOUR_jobs" (c9 "colour:")
 aL:GS mg "PAPER" (c9 "paper:")
 aQ:GS mg "COVER" (c9 "cover:")
 bI:GS mg "AFTER" (c9 "after:")
 bJ:GS mg "STAPLE" (c9 "staple")
 bK:GS mg "LAYOUT" (c9 "layout")
 cm:GI mg "ONE_COPY" (1)
 bL:GS mg "ONE_LAYOUT" (c9 "one")
 cq:GS mg "PLAIN" (c9 "plain")
 cr:GS mg "LOAD" (c9 "load")
 cx:GS mg "INK" (c9 "ink")
 cy:GS mg "FEED" (c9 "feed")
 cz:GS mg "OUT" (c9 "out")
 cA:GI mg "COMMON" (2520)
 cC:GS mg "UNABLE" (c9 "unable")
 cD:GS mg "OWN" (c9 "own")
 cE:GS mg "RANK" (c9 "rank")
 cF:GS mg "SHARE" (c9 "share")
 bb:GS mg "READY" (c9 "ready")
 bc:GS mg "BLACK" (c9 "black")
 be:GS mg "COLOUR_printers" (c9 "colour")
 aR:GI mg "SLIP" (-1)
 bf:GI mg "NOTHING" (0)
 cG:GI mg "FIRST_PAGE" (1)
 cI:GI mg "COVER_SHEET" (0)
 bM:GS mg "WAITS" (c9 "waits")
 cK:GS mg "PRINTS" (c9 "prints")
 cM:GS mg "WHOLE" (c9 "whole")
 cO:GS mg "BROKEN" (c9 "broken")
 ah:Cls K yQ
 df:mg "Job"=some (.ref yQ)
 aE:jQ K yQ "name"
 bg:jQ K yQ "asker"
 bi:jQ K yQ "pages"
 bj:jQ K yQ "copies"
 bn:jQ K yQ "layout"
 aM:jQ K yQ "paper"
 bo:jQ K yQ "cover"
 bp:jQ K yQ "colour"
 bN:jQ K yQ "staple"
 bO:jQ K yQ "after"
 aF:Cls K yZ
 dg:mg "Book"=some (.ref yZ)
 bP:jQ K yZ "rows"
 ae:Cls K yX
 dh:mg "Line"=some (.ref yX)
 ax:jQ K yX "ranks"
 bq:jQ K yX "shares"
 aC:jQ K yX "levels"
 bt:jQ K yX "marks"
 ay:jQ K yX "owners"
 aS:jQ K yX "costs"
 bu:jQ K yX "notes"
 az:jQ K yX "queue"
 dj:Cls K yY
 dk:mg "State"=some (.ref yY)
 dl:jQ K yY "word"
 bv:Cls K yV
 dm:mg "Ready"=some (.ref yV)
 bQ:jQ K yV "word"
 ak:Cls K yJ
 dn:mg "Stock"=some (.ref yJ)
 bw:jQ K yJ "rooms"
 aG:jQ K yJ "amounts"
 ag:Cls K yW
 dq:mg "Printer"=some (.ref yW)
 bx:jQ K yW "name"
 cT:jQ K yW "can"
 bR:jQ K yW "path"
 bS:jQ K yW "rooms"
 aU:jQ K yW "trays"
 bz:jQ K yW "inks"
 bT:jQ K yW "state"
 aH:jQ K yW "inside"
 du:Cls K yU
 dv:mg "Layout"=some (.ref yU)
 dw:jQ K yU "cells"
 dz:jQ K yU "backs"
 aA:Cls K yK
 dA:mg "One"=some (.ref yK)
 aV:jQ K yK "cells"
 bA:jQ K yK "backs"
 aa:Cls K yG
 dB:mg "Run"=some (.ref yG)
 aD:jQ K yG "job"
 bB:jQ K yG "inks"
 aI:jQ K yG "passed"
 ao:jQ K yG "printer"
 aW:jQ K yG "slipped"
 aN:jQ K yG "broken"
 ac:Cls K cQ
 dC:mg "Hall"=some (.ref cQ)
 aJ:jQ K cQ "printers"
 bC:jQ K cQ "piles"
 aB:jQ K cQ "line"
 aq:jQ K cQ "runs"
 aO:jQ K cQ "records"
 cU:PySem.W.excMk K cV=true
 cW:PySem.W.mroHas K cZ (.ref cV)=true
 aP:XCl K cZ ["job"]
 dE:mg "Nowhere"=some (.ref cZ)
 db:InX K cV
 bU:mg "HallError"=some (.ref cV)
 dF:jOD K [cZ] cV=true
 e:∃ h:Heap,K.In h/\h.Ns dY mg
 bm:yS base mg
end My
seal L2.PE L2.PS L2.PSs L2.PT L2.PW L2.PA L2.PI L2.PG L2.PGs L2.PSet L2.PIfs L2.PO L2.PK L2.CallR L2.OpR L2.IxR L2.SlR L2.UnR L2.PPs
namespace My
open PySem L2
open Blk (sg sg_inj rZ)
section
variable {P:Program}{w:World}{K:PySem.W.Frag}{mg:Str->Option Value}{base:Heap}{yQ yZ yX yY yV yJ yW yU yK yG cQ cZ cV dJ:Addr}(T:Txt K mg base yQ yZ yX yY yV yJ yW yU yK yG cQ cZ cV dJ)
theorem int_of{ns:List Int}{j:Nat}{v:V}(h:(ns.map V.int)[j]?=some v):∃ z,v=V.int z:=by
 rw [getElem?_map] at h
 grind
structure Scr(K:PySem.W.Frag)(H:Hp)(a:Addr):Prop where
 ex:∃ ns:List Int,SqL K H a (ns.map V.int)/\ns.length<=63
theorem Scr.same(s:Scr K H a)(e:eR H H'):Scr K H' a:=by
 obtain⟨ns,h,l⟩:=s.ex;exact⟨ns,e.seq h,l⟩
noncomputable def jJs(x:Addr)(H H':Hp):Prop:=∀ b o,b≠x->H b=some o->H' b=some o
example jLo(C:Addr)(f:Str):∀ (x:Addr) (y:V),vs=[.ref x,y]->H x=some (XO x C none)->(∀ H',jJs x H H'->XF H' x C [(f,y)]->Q .non H')->jLo C f:=0
theorem jP8(hd:H dx=none):jJs x H (upd (upd H dx o) x u):=fun b v hb e=>by
 rw [eJ hb,eJ (gM e hd)];exact e
theorem xf_set(hx:dx≠x):XF (upd (upd H dx (XD dx fs)) x (XO x C (some dx))) x C fs:=⟨dx,eO,by rw [eJ hx,eO],hx⟩
theorem jO2(hx:H x=none)(k:jJs x (upd H x o) H'):eR H H':=fun b v e=>by
 have hb:b≠x:=gM e hx;exact k b v hb (by rw [eJ hb];exact e)
theorem jO3(mk:PySem.W.excMk K C=true)(h:∀ ea H',eR H H'->H ea=none->XG H' ea C [(f,y)]->E (.ref C) (some ea) H') :
 ∀ x,H x=none->jLo C f (.ref x::[y]) (upd H x (XO x C none)) (fun v H2=>v=.non/\jJd K (fun _=>E) σ (.ref x) H2) E0:=by
 intro x nx;refine⟨x,y,rfl,eO,fun H' kb xf=>⟨rfl,?_⟩⟩;obtain⟨dx,a,g⟩:=xf.raised;exact⟨x,C,some dx,rfl,a,mk,h x _ (tY nx (jO2 nx kb) _) nx g⟩
example jO4:MkXD 1 "Nowhere" cZ ["self","job"] (jLo cZ "job"):=by
 nomatch mkX T.e T.kc11 T.p0,["self","job"]
 obtain⟨x,y,rfl,hx,q⟩:=h;exists _,(eE (jU (jPL T.db rfl T.bU (dN (pv 0) (dN (pv 1) dZ)))) (eI (ps_fldX (pv 0) (pv 1) rfl)))
 exists _,rfl,_,rfl,x,_,none,[y],rfl,(by simp),hx,T.aP.m;refine⟨_,rfl,_,rfl,.inl ⟨x,_,rfl,hx,T.aP.i.c,T.aP.n _ (.head _),fun dx nd ne=>?_⟩⟩;exact q _ (jP8 nd) (xf_set ne)
example jGm(K:PySem.W.Frag):∀ (a:Addr) (k m:Int),vs=[.ref a,.int k,.int m]->Scr K H a->-(2^62)<k->k<2^62->0<m->(∀ r:Int,0<=r->r<m->Q (.int r) H)->jGm K:=0
example vO:Dfn 1 "_law_draw" ["_law_script","_law_k","_law_many"] (jGm K):=by
 nomatch mJ T.e T.p114,["_law_script","_law_k","_law_many","_law_cell"]
 obtain⟨a,k,m,rfl,⟨ns,hS,h63⟩,k0,k1,m0,q⟩:=h;have hl:(ns.map V.int).length=ns.length:=c7 _;exists _,(eE (psA (i:=3) nZ fY) (eE (iK (tcA jGQ (nK vW rfl T.aj fK (dN (pv 0) dZ)) fY) (eI (psA (i:=3) nZ (ixA vQ (pv 0) (jL jDA (pv 1) (nK vW rfl T.aj fK (dN (pv 0) dZ)))))) iM) (eI (gB (jL jDA (jL jDA (jL jC6 (jL oV (jL oV (jL oV (jL jDA (pv 3) fY) (jL jC6 (jL jC6 fY (pv 1)) (pv 1))) (jL jC6 fY (pv 1))) fY) fY) fY) (pv 2))))))
 exists _,rfl,a,_,rfl,.inl hS,_,_,rfl,rfl,_,rfl;have fin:∀ v:Int,Q (.int (((v%1000003+31*k*k+7*k+1)*48271)%999983%m)) H:=fun v=>q _ (mH _ (by omega)) (kI _ m0);refine ite2 (fun c=>?_) (fun c=>?_)
 ·have c':(0:Int)<(((ns.map V.int).length:Nat):Int):=of_decide_eq_true c;have b0:=mH k (show (((ns.map V.int).length:Nat):Int)≠0 by omega);have b1:=kI k c';refine⟨_,rfl,_,rfl,_,rfl,a,_,rfl,.inl hS,_,_,rfl,rfl,c',a,_,_,rfl,rfl,hS,b0,b1,fun v hv=>?_⟩;obtain⟨z,rfl⟩:=int_of hv;refine⟨_,rfl,_,_,rfl,rfl,(by show (0:Int)<1000003;decide),_,rfl,_,_,rfl,rfl,.inl ⟨by decide,by decide⟩,_,rfl,_,_,rfl,rfl,.inr ⟨by omega,by omega⟩,_,_,rfl,rfl,_,rfl,_,_,rfl,rfl,.inl ⟨by decide,by decide⟩,_,_,rfl,rfl,_,_,rfl,rfl,_,_,rfl,rfl,.inr ⟨by decide,by decide⟩,_,_,rfl,rfl,(by show (0:Int)<999983;decide),_,rfl,_,_,rfl,rfl,m0,fin z⟩
 ·exact⟨_,rfl,_,_,rfl,rfl,(by show (0:Int)<1000003;decide),_,rfl,_,_,rfl,rfl,.inl ⟨by decide,by decide⟩,_,rfl,_,_,rfl,rfl,.inr ⟨by omega,by omega⟩,_,_,rfl,rfl,_,rfl,_,_,rfl,rfl,.inl ⟨by decide,by decide⟩,_,_,rfl,rfl,_,_,rfl,rfl,_,_,rfl,rfl,.inr ⟨by decide,by decide⟩,_,_,rfl,rfl,(by show (0:Int)<999983;decide),_,rfl,_,_,rfl,rfl,m0,fin 0⟩
example jIq(_K:PySem.W.Frag):∀ (z y:Str),vs=[.str z,.str y]->z.length<=900->(∀ H',eR H H'->Q (.bl (z.cps.toList.all fun c=>decide (c∈y.cps.toList))) H')->jIq _K:=0
example jIr(_K:PySem.W.Frag):∀ (z:Str),vs=[.str z]->good z=true->(∀ H',eR H H'->Q (.bl true) H')->jIr _K:=0
example jGn(_K:PySem.W.Frag):∀ (z:Str),vs=[.str z]->vL z=true->(∀ H',eR H H'->Q (.bl true) H')->jGn _K:=0
example jGo(_K:PySem.W.Frag):∀ (z:Str) (lo hi:Int),vs=[.str z,.int lo,.int hi]->vL z=true->lo<=val z->val z<=hi->(∀ H',eR H H'->Q (.int (val z)) H')->jGo _K:=0
example jGp(_K:PySem.W.Frag):∀ (z:Str),vs=[.str z]->(¬ z=c9 "both")->Txt.startswith z (c9 "up:")=false->Q (.bl false) H->jGp _K:=0
theorem eL:(c9 "abcdefghijklmnopqrstuvwxyz").cps.toList=sN:=by decide +kernel
theorem eF:(c9 "0123456789").cps.toList=zN:=by decide +kernel
theorem all_sg(z:Str)(p:Nat->Bool):(((z.cps.toList.map fun c=>V.str ⟨#[c]⟩).filter fun _=>true).map fun v=>match v with|.str y=>V.bl (p (y.cps.toList.headD 0))|_=>.bl false)=(z.cps.toList.map p).map V.bl:=by
 rw [fW.mpr (fun _ _=>rfl),dU,dU];rfl
example jJY:Dfn 1 "made_of" ["word","signs"] (jIq K):=by
 nomatch mJ T.e T.p2,["word","signs"]
 obtain⟨z,y,rfl,hz,q⟩:=h;exists _,(eI (gB (nK (jPE rfl) rfl T.bW bt_all (dN (rX (frees:=[ ("signs",1) ]) ⟨by decide +kernel,rfl,rfl,by decide +kernel,⟨⟨rfl,rfl,rfl,by decide +kernel⟩,trivial⟩,by decide +kernel,oX rfl,rfl⟩ rfl (pi_str (pv 0)) (fun _ _ _ _=>vT) (fun _ _ _ _=>by exact (jCs jJC (pv 0) (pv 1) rfl))) dZ))))
 refine⟨_,rfl,z,rfl,zC (seq_str z H) (fun _=>true) (fun v=>match v with|.str x=>V.bl (decide (x.cps.toList.headD 0∈y.cps.toList))|_=>.bl false) ?_ (fun x hx H' R _ r=>r) (fun x hx H' R sm _ r=>?_) (fun D H' sm hD hH=>?_)⟩
 ·rw [c7,jC9];exact kZ (by omega)
 ·obtain⟨c,_,rfl⟩:=dR.mp hx;exists _,rfl,_,rfl,_,_,rfl,rfl;rw [jMO c rfl];exact r
 ·rw [all_sg z fun c=>decide (c∈y.cps.toList)] at hH;exists D,_,rfl,SqL.of hH;rw [all_map];exact q H' sm
theorem rW{c A B:Prop}[Decidable c](hc:c)(h:A):if decide c=true then A else B:=by
 rw [if_pos (decide_eq_true hc)];exact h
theorem rY{c A B:Prop}[Decidable c](hc:¬ c)(h:B):if decide c=true then A else B:=by
 grind
theorem iteNN{c A B:Prop}[Decidable c](hc:¬ c)(h:A):if (!decide c)=true then A else B:=by
 rw [decide_eq_false hc];exact h
theorem jKz{c A B:Prop}[Decidable c](hc:c)(h:B):if (!decide c)=true then A else B:=by
 rw [decide_eq_true hc];exact h
theorem jMY{z:Str}(h:(1:Int)<=(z.length:Nat)):∃ c r,z.cps.toList=c::r:=by
 have sC:z.cps.toList.length=z.length:=jC9 z;cases e:z.cps.toList with
 | nil=>rw [e] at sC;simp at sC;omega
 | cons c r=>exact⟨c,r,rfl⟩
example jJZ:Dfn 2 "is_name" ["word"] (jIr K):=by
 nomatch mJ T.e T.p3,["word"]
 obtain⟨z,rfl,g,q⟩:=h;exists _,(eE (iK (qM (jHw jDW jDW fY (nK jCc rfl T.aj fK (dN (pv 0) dZ)) (rF T.ce rfl))) (eI (gB o8)) iM) (eI (gB (jD7 (jCs jJC (ixA jKL (pv 0) fY) (kE T.bG rfl) rfl) (jCT (jV (jJY T) hr.m rfl (dN (pv 0) (dN (jL jDX (kE T.bG rfl) (kE T.bH rfl)) dZ))))))))
 unfold good at g;rw [eK,eK,eK] at g;have g1:=of_decide_eq_true g.1.1.1;have g2:=of_decide_eq_true g.1.1.2;obtain⟨c,r,e⟩:=jMY g1;have g3:=of_decide_eq_true g.1.2;rw [e] at g3;have g4:=g.2;refine⟨_,rfl,z,rfl,small (by omega),_,_,rfl,rfl,_,rfl,rW g1 ⟨_,_,rfl,rfl,_,rfl,?_⟩⟩;rw [decide_eq_true g2];refine hV ⟨_,rfl,z,_,c,rfl,rfl,small (by omega),(by rw [e];exact o9 (j:=0) rfl),_,_,rfl,rfl,_,rfl,?_⟩;rw [jMO c eL];refine rW g3 ⟨_,rfl,_,_,rfl,rfl,(by decide +kernel),z,_,rfl,by omega,fun H' sm=>?_⟩;have e2:(c9 "abcdefghijklmnopqrstuvwxyz" ++ c9 "0123456789").cps.toList=sN++zN:=by
  rw [<- eL,<- eF];exact Array.toList_append ..
 rw [e2,g4];exact q H' sm
example jMl:Dfn 2 "is_number" ["word"] (jGn K):=by
 nomatch mJ T.e T.p4,["word"]
 obtain⟨z,rfl,g,q⟩:=h;exists _,(eE (iK (PW.pt (wP (qM (jHw jDW jDW fY (nK jCc rfl T.aj fK (dN (pv 0) dZ)) (rF T.cf rfl))) (y6 (qM (mD (jV (jJY T) hr.m rfl (dN (pv 0) (dN (kE T.bH rfl) dZ))) (fun _=>rfl)))))) (eI (gB o8)) iM) (eI (gB (pe_or (ecA qL (pv 0) kU) (jCT (ecA jDV (ixA jKL (pv 0) fY) kU))))))
 unfold vL at g;rw [eK,eK,eK] at g;have g1:=of_decide_eq_true g.1.1.1;have g2:=of_decide_eq_true g.1.1.2;obtain⟨c,r,e⟩:=jMY g1;have g4:=g.2;refine⟨_,rfl,z,rfl,small (by omega),_,_,rfl,rfl,_,rfl,rW g1 ⟨_,_,rfl,rfl,_,rfl,?_⟩⟩;rw [decide_eq_true g2];refine hV ⟨_,rfl,z,_,rfl,by omega,fun H' sm=>⟨_,rfl,?_⟩⟩;rw [eF,g.1.2];refine hV ⟨_,rfl,rfl,_,rfl,ite2 (fun c4=>?_) (fun c4=>?_)⟩
 ·exact q H' sm
 ·have c5:¬ z=⟨#[48]⟩:=fun e=>c4 (decide_eq_true (by rw [e,jGf]));refine⟨_,rfl,z,_,c,rfl,rfl,small (by omega),(by rw [e];exact o9 (j:=0) rfl),rfl,?_⟩;rw [decide_eq_false c5,Bool.false_or,e] at g4;have:=q H' sm;rw [<- g4] at this;rw [sign_is];exact this
example jG9:Dfn 3 "number_in" ["word","least","most"] (jGo K):=by
 nomatch mJ T.e T.p5,["word","least","most","number"]
 obtain⟨z,lo,hi,rfl,hn,c1,c2,q⟩:=h;exists _,(eE (iK (qM (mD (jV (jMl T) hr.m rfl (dN (pv 0) dZ)) (fun _=>rfl))) (eI (gB m3)) iM) (eE (psA (i:=3) nZ (rG jKe rfl T.bV bt_int (dN (pv 0) dZ))) (eI (gB (zB (jHw jDW jDW (pv 1) (pv 3) (pv 2)) (pv 3) m3)))))
 refine⟨_,rfl,z,rfl,hn,fun H' sm=>⟨_,rfl,hV ?_⟩⟩;have hz9:z.length<=9:=by
  have h2:=hn;unfold vL at h2
  grind
 exists _,rfl,z,val z,rfl,jNx hn (by omega),by omega
 exact⟨_,rfl,_,rfl,_,_,rfl,rfl,_,rfl,rW c1 ⟨_,rfl,_,_,rfl,rfl,_,rfl,rW c2 ⟨_,rfl,q H' sm⟩⟩⟩
example jG_:Dfn 4 "is_layout" ["word"] (jGp K):=by
 nomatch mJ T.e T.p6,["word"]
 obtain⟨z,rfl,h1,h2,q⟩:=h;exists _,(eE (iK (tcA qL (pv 0) kU) (eI (gB o8)) iM) (eI (gB (jD7 (qV fV fT fR jBM (pv 0) (dN (kE T.UP rfl) dZ)) (jCT (ecA jCr (jV (jG9 T) hr.m rfl (dN (jCj jGa (pv 0) (jCL (nK jCc rfl T.aj fK (dN (kE T.UP rfl) dZ))) jCK) (dN (rF T.cg rfl) (dN (rF T.ci rfl) dZ)))) m3))))))
 refine⟨_,rfl,rfl,_,rfl,rY (fun e=>h1 (by injection e)) ⟨_,rfl,rfl,_,_,rfl,rfl,_,rfl,?_⟩⟩;rw [h2];exact hV q
noncomputable abbrev wOne:Str:=c9 "one"
structure JB where
 x:Addr
 dx:Addr
 t:Addr
 nm:Str
 as:Str
 p:Int
 af:List Str
structure Jat(cJ:Addr)(H:Hp)(J:JB):Prop where
 o:H J.x=some (.ins cJ J.dx (jobF (.str J.nm) (.str J.as) (.int J.p) (.int 1) (.str wOne) (.str u9) .non .non (.bl false) (.ref J.t)))
 t:H J.t=some (.tup (J.af.map V.str))
 l:J.af.length<=3
theorem Jat.same(h:Jat cJ H J)(k:eR H H'):Jat cJ H' J:=⟨k _ _ h.o,k _ _ h.t,h.l⟩
example jHa(_K:PySem.W.Frag):∀ (z:Str),vs=[.str z]->z.length<=900->(∀ p H',eR H H'->H p=none->H' p=some (.lst ((Txt.split z y4).map V.str))->Q (.ref p) H')->jHa _K:=0
example jNO:Dfn 1 "words_of" ["line"] (jHa K):=by
 nomatch mJ T.e T.p1,["line"]
 obtain⟨z,rfl,hz,q⟩:=h;exists _,(eI (gB (qV fV PySem.F.slot_str_split PySem.F.type_str_split jPD (pv 0) (dN kU dZ))))
 refine⟨_,rfl,rfl,z,_,rfl,rfl,(by decide +kernel),eM (Nat.add_le_add_right hz 2) (small (by decide)),fun p hp=>?_⟩;exact q p _ (iS hp _) hp eO
example jGq(_K:PySem.W.Frag):∀ (p:Addr) (a b y:Str) (r:List Str),vs=[.ref p]->H p=some (.lst ((a::b::y::r).map V.str))->good a=true->good b=true->vL y=true->1<=val y->val y<=999->(∀ H',eR H H'->Q (.int (val y)) H')->jGq _K:=0
example jMm:Dfn 4 "read_head" ["words"] (jGq K):=by
 nomatch mJ T.e T.p9,["words","place","word","pages"]
 obtain⟨p,a,b,y,r,rfl,hp,ga,gb,gy,y0,y1,q⟩:=h;exists _,(eE (nY PassesOwn.never rfl (pi_enum rfl T.bD (dN (jCj jGS (pv 0) jCK (jCL (jL jH5 (rF T.aK rfl) fY))) dZ)) (jD8 rfl (vN (pgA (i:=1) nZ) (vN (pgA (i:=2) nZ) jDl))) (eI (iK (qM (mD (jV (jJZ T) hr.m rfl (dN (pv 2) dZ)) (fun _=>rfl))) (eI mV) iM))) (eE (iK (tcA jEG (nK vW rfl T.aj fK (dN (pv 0) dZ)) (rF T.aK rfl)) (eI mV) iM) (eE (psA (i:=3) nZ (jV (jG9 T) hr.m rfl (dN (ixA vQ (pv 0) (jL jH5 (rF T.aK rfl) fY)) (dN fY (dN (rF T.ck rfl) dZ))))) (eE (iK (tcA jC7 (pv 3) m3) (eI mV) iM) (eI (gB (pv 3)))))))
 refine⟨_,rfl,_,_,rfl,rfl,_,rfl,p,_,rfl,SqL.of hp,fun p2 qZ=>?_⟩;have s0:=iS qZ (.lst [V.str a,V.str b]);have hq2:upd H p2 (.lst [V.str a,V.str b]) p2=some (.lst [V.str a,V.str b]):=eO;rw [show tG ((a::b::y::r).map V.str) none (some (3-1))=[V.str a,V.str b] from jOU _ 2];generalize upd H p2 (.lst [V.str a,V.str b])=H1 at s0 hq2 ⊢;refine⟨p2,rfl,⟨_,SqL.of hq2⟩,jK1 (K:=K) (a:=p2) (j:=0) (xs:=[V.str a,V.str b]) (fun i σ H'=>eR H H'/\H' p2=some (.lst [V.str a,V.str b])/\∃ v1 v2 v3:Option V,σ=[some (.ref p),v1,v2,v3]) ⟨s0,hq2,_,_,_,rfl⟩ (fun i σ H' _ z=>SqL.of z.2.1) (fun i x σ H' t hx z ht=>?_) (fun σ H' z=>?_)⟩
 ·obtain⟨sm,hz,v1,v2,v3,rfl⟩:=z;obtain⟨n,rfl,gn⟩:∃ n:Str,x=.str n/\good n=true:=by
   rcases dX.mp (mem_of_getElem? hx) with rfl|hx
   ·exact⟨a,rfl,ga⟩
   ·exact⟨b,mem_singleton.mp hx,gb⟩
  have s1:=iS ht (.tup [V.int (0+(i:Int)),V.str n]);exists t,_,rfl,SqT.of eO,rfl,_,_,rfl,_,_,rfl,rfl;exact⟨_,rfl,n,rfl,gn,fun H2 s2=>⟨_,rfl,hV ⟨(sm.trans s1).trans s2,s2 _ _ (s1 _ _ hz),_,_,_,rfl⟩⟩⟩
 ·obtain⟨sm,hz,v1,v2,v3,rfl⟩:=z;have hp1:=sm _ _ hp;refine⟨_,rfl,p,_,rfl,.inl (SqL.of hp1),_,_,rfl,rfl,_,rfl,rY (by rw [c7];show ¬ ((r.length+1+1+1:Nat):Int)<3;omega) ?_⟩;refine⟨_,rfl,_,_,rfl,rfl,p,_,_,rfl,rfl,SqL.of hp1,by decide,by rw [c7];show (2:Int)<((r.length+1+1+1:Nat):Int);omega,fun w hw=>?_⟩;obtain rfl:=Option.some.inj hw;exact⟨y,1,999,rfl,gy,y0,y1,fun H2 s3=>⟨_,rfl,rfl,_,rfl,hV ⟨_,rfl,q H2 (sm.trans s3)⟩⟩⟩
theorem jDH(hq:q.length<=6)(h:Txt.startswith jK q=false):Txt.startswith (jK++y) q=false:=pre_no (by rw [show jK.length=6 by decide +kernel];exact hq) h
theorem jIs(h:Txt.startswith k jK=false):¬ (jK++y)=k:=fun e=>by
 have:=jK_ jK y;rw [e,h] at this;cases this
theorem jO5(y:Str):Txt.startswith (jK++y) (c9 "up:")=false:=jDH (by decide +kernel) (by decide +kernel)
theorem jMZ(y:Str):Txt.startswith (jK++y) jGg=false:=sw_via (r:=c9 "c") (by decide +kernel) (jDH (by decide +kernel) (by decide +kernel))
example jHb(_K:PySem.W.Frag):∀ (y:Str) (n:Int),vs=[.str (jK++y),.int n]->good y=true->(∀ H',eR H H'->Q (.str y) H')->jHb _K:=0
theorem jM0(g:good y=true):(jK++y).length<=1000:=by
 have:=jEl g;rw [Str.length_append,show jK.length=6 by decide +kernel];omega
example jNP:Dfn 5 "value_of" ["word","pages"] (jHb K):=by
 nomatch mJ T.e T.p10,["word","pages","start"]
 obtain⟨y,n,rfl,g,q⟩:=h;exists _,(eE (iK (tcA qL (pv 0) (kE T.bJ rfl)) (eI mV) iM) (eE (iK (mD (jV (jG_ T) hr.m rfl (dN (pv 0) dZ)) (fun _=>rfl)) (eI mV) iM) (eE (iK (mD (qV fV fT fR jBM (pv 0) (dN (kE T.aY rfl) dZ)) (fun _=>rfl)) (eI mV) iM) (eE (iK (mD (qV fV fT fR jBM (pv 0) (dN (kE T.aZ rfl) dZ)) (fun _=>rfl)) (eI mV) iM) (eE (nY PassesOwn.never rfl (jH4 (nL (dN (kE T.aL rfl) (dN (kE T.aQ rfl) (dN (kE T.bI rfl) dZ))))) (pgA (i:=2) nZ) (eI (iK (PW.pt (jD6 (mD (qV fV fT fR jBM (pv 0) (dN (pv 2) dZ)) (fun _=>rfl)) (jDk (mD (jV (jJZ T) hr.m rfl (dN (jCj jGa (pv 0) (jCL (nK jCc rfl T.aj fK (dN (pv 2) dZ))) jCK) dZ)) (fun _=>rfl))))) (eI (gB (jCj jGa (pv 0) (jCL (nK jCc rfl T.aj fK (dN (pv 2) dZ))) jCK))) iM))) (eI mV))))))
 refine⟨_,rfl,rfl,_,rfl,rY (fun e=>jIs (k:=xE) (by decide +kernel) (by injection e)) ?_⟩;refine⟨_,rfl,jK++y,rfl,jIs (by decide +kernel),jO5 y,_,rfl,hV ?_⟩;exists _,rfl,rfl,_,_,rfl,rfl,_,rfl;rw [jDH (q:=cX) (by decide +kernel) (by decide +kernel)];refine hV ⟨_,rfl,rfl,_,_,rfl,rfl,_,rfl,?_⟩;rw [jMZ];refine hV ⟨wq3,fun t ht=>?_⟩;refine⟨t,rfl,⟨_,SqT.of eO⟩,jI6 (K:=K) (a:=t) (xs:=[V.str wN,V.str yO,V.str jK]) (fun i σ H'=>H'=upd H t (.tup [V.str wN,V.str yO,V.str jK])/\(∃ v,σ=[some (.str (jK++y)),some (.int n),v])/\i<=2) ⟨rfl,⟨_,rfl⟩,by decide⟩ (fun i σ H' _ p=>by rw [p.1];exact SqT.of eO) (fun i x σ H' hx p=>?_) (fun σ H' p=>absurd p.2.2 (by show ¬ (3<=2);decide))⟩;obtain⟨rfl,⟨v,rfl⟩,_⟩:=p
 match i,hx with
 | 0,hx =>
   obtain rfl:=Option.some.inj hx;exists _,rfl,rfl,_,rfl,_,wN,rfl,rfl,_,rfl;rw [jDH (q:=wN) (by decide +kernel) (by decide +kernel)];exact hV (hV ⟨rfl,⟨_,rfl⟩,by decide⟩)
 | 1,hx =>
   obtain rfl:=Option.some.inj hx;exists _,rfl,rfl,_,rfl,_,yO,rfl,rfl,_,rfl;rw [jDH (q:=yO) (by decide +kernel) (by decide +kernel)];exact hV (hV ⟨rfl,⟨_,rfl⟩,by decide⟩)
 | 2,hx =>
   obtain rfl:=Option.some.inj hx;exists _,rfl,rfl,_,rfl,_,jK,rfl,rfl,_,rfl;rw [jK_];refine kL ⟨_,rfl,_,rfl,_,rfl,small (by decide +kernel),_,rfl,_,rfl,small (jM0 g),?_⟩;rw [jDG];refine⟨y,rfl,g,fun H1 s1=>⟨_,rfl,kL ?_⟩⟩;exists _,rfl,_,rfl,_,rfl,small (by decide +kernel),_,rfl,_,rfl,small (jM0 g);rw [jDG];exact q H1 ((iS ht _).trans s1)
example jIt(_K:PySem.W.Frag):∀ (y:Str),vs=[.str (jK++y)]->(∀ H',eR H H'->Q (.str (jK++y)) H')->jIt _K:=0
example jO6:Dfn 5 "sort_of" ["word"] (jIt K):=by
 nomatch mJ T.e T.p11,["word","start"]
 obtain⟨y,rfl,q⟩:=h;exists _,(eE (iK (mD (jV (jG_ T) hr.m rfl (dN (pv 0) dZ)) (fun _=>rfl)) (eI (gB (kE T.bK rfl))) iM) (eE (nY PassesOwn.never rfl (jH4 (nL (dN (kE T.aY rfl) (dN (kE T.aZ rfl) (dN (kE T.aL rfl) (dN (kE T.aQ rfl) dZ)))))) (pgA (i:=1) nZ) (eI (iK (mD (qV fV fT fR jBM (pv 0) (dN (pv 1) dZ)) (fun _=>rfl)) (eI (gB (pv 1))) iM))) (eI (gB (pv 0)))))
 refine⟨_,rfl,jK++y,rfl,jIs (by decide +kernel),jO5 y,_,rfl,hV ⟨wq4,fun t ht=>?_⟩⟩;refine⟨t,rfl,⟨_,SqT.of eO⟩,jI6 (K:=K) (a:=t) (xs:=four.map V.str) (fun i σ H'=>H'=upd H t (.tup (four.map V.str))/\∃ v,σ=[some (.str (jK++y)),v]) ⟨rfl,_,rfl⟩ (fun i σ H' _ p=>by rw [p.1];exact SqT.of eO) (fun i x σ H' hx p=>?_) (fun σ H' p=>?_)⟩
 ·obtain⟨rfl,v,rfl⟩:=p;rw [getElem?_map] at hx;obtain⟨k,hk,rfl⟩:=dW.mp hx;exists _,rfl,rfl,_,rfl,_,k,rfl,rfl,_,rfl;have:Txt.startswith (jK++y) k=false:=by
   match i,hk with
   | 0,hk=>obtain rfl:=Option.some.inj hk;exact jDH (by decide +kernel) (by decide +kernel)
   | 1,hk=>obtain rfl:=Option.some.inj hk;exact jMZ y
   | 2,hk=>obtain rfl:=Option.some.inj hk;exact jDH (by decide +kernel) (by decide +kernel)
   | 3,hk=>obtain rfl:=Option.some.inj hk;exact jDH (by decide +kernel) (by decide +kernel)
  rw [this];exact hV ⟨rfl,_,rfl⟩
 ·obtain⟨rfl,v,rfl⟩:=p;exact⟨_,rfl,q _ (iS ht _)⟩
example jHc(C:Addr):∀ (x dx:Addr) (a b c d e f g h i j:V),vs=[.ref x,a,b,c,d,e,f,g,h,i,j]->H x=some (.ins C dx [])->Q .non (upd H x (.ins C dx (jobF a b c d e f g h i j)))->jHc C:=0
example Daa:MkD 1 "Job" yQ ["self","name","asker","pages","copies","layout","paper","cover","colour","staple","after"] (jHc yQ):=by
 nomatch mkD T.e T.kc0 T.p7,["self","name","asker","pages","copies","layout","paper","cover","colour","staple","after"]
 obtain⟨x,dx,a,b,c,d,e,f,g,h,i,j,rfl,hx,q⟩:=h;exists _,(eE (kM (pv 0) (pv 1) rfl) (eE (kM (pv 0) (pv 2) rfl) (eE (kM (pv 0) (pv 3) rfl) (eE (kM (pv 0) (pv 4) rfl) (eE (kM (pv 0) (pv 5) rfl) (eE (kM (pv 0) (pv 6) rfl) (eE (kM (pv 0) (pv 7) rfl) (eE (kM (pv 0) (pv 8) rfl) (eE (kM (pv 0) (pv 9) rfl) (eI (kM (pv 0) (pv 10) rfl)))))))))))
 refine⟨_,rfl,_,rfl,x,yQ,dx,_,rfl,hx,T.ah,T.aE,(by show 0<1000;decide),?_⟩;rw [y9 (by grind)];refine⟨_,rfl,_,rfl,x,yQ,dx,_,rfl,eO,T.ah,T.bg,(by show 1<1000;decide),?_⟩;rw [tI,y9 (by show ¬ ("asker":Str)∈(["name"]:List Str);decide +kernel)];refine⟨_,rfl,_,rfl,x,yQ,dx,_,rfl,eO,T.ah,T.bi,(by show 2<1000;decide),?_⟩;rw [tI,y9 (by show ¬ ("pages":Str)∈(["name","asker"]:List Str);decide +kernel)];refine⟨_,rfl,_,rfl,x,yQ,dx,_,rfl,eO,T.ah,T.bj,(by show 3<1000;decide),?_⟩;rw [tI,y9 (by show ¬ ("copies":Str)∈(["name","asker","pages"]:List Str);decide +kernel)];refine⟨_,rfl,_,rfl,x,yQ,dx,_,rfl,eO,T.ah,T.bn,(by show 4<1000;decide),?_⟩;rw [tI,y9 (by show ¬ ("layout":Str)∈(["name","asker","pages","copies"]:List Str);decide +kernel)];refine⟨_,rfl,_,rfl,x,yQ,dx,_,rfl,eO,T.ah,T.aM,(by show 5<1000;decide),?_⟩;rw [tI,y9 (by show ¬ ("paper":Str)∈(["name","asker","pages","copies","layout"]:List Str);decide +kernel)];refine⟨_,rfl,_,rfl,x,yQ,dx,_,rfl,eO,T.ah,T.bo,(by show 6<1000;decide),?_⟩;rw [tI,y9 (by show ¬ ("cover":Str)∈(["name","asker","pages","copies","layout","paper"]:List Str);decide +kernel)];refine⟨_,rfl,_,rfl,x,yQ,dx,_,rfl,eO,T.ah,T.bp,(by show 7<1000;decide),?_⟩;rw [tI,y9 (by show ¬ ("colour":Str)∈(["name","asker","pages","copies","layout","paper","cover"]:List Str);decide +kernel)];refine⟨_,rfl,_,rfl,x,yQ,dx,_,rfl,eO,T.ah,T.bN,(by show 8<1000;decide),?_⟩;rw [tI,y9 (by show ¬ ("staple":Str)∈(["name","asker","pages","copies","layout","paper","cover","colour"]:List Str);decide +kernel)];refine⟨_,rfl,_,rfl,x,yQ,dx,_,rfl,eO,T.ah,T.bO,(by show 9<1000;decide),?_⟩;rw [tI,y9 (by show ¬ ("after":Str)∈(["name","asker","pages","copies","layout","paper","cover","colour","staple"]:List Str);decide +kernel)];exact q
noncomputable def xH(ys:List Str):List (Key×V):=ys.map fun y=>(Sum.inr (jK++y),V.str y)
theorem jDr(h:Txt.startswith k jK=false):lI (xH ys) (Sum.inr k)=none:=by
 unfold lI;rw [find?_eq_none.mpr fun p hp=>?_]
 ·rfl
 ·obtain⟨y,_,rfl⟩:=dR.mp hp;rw [decide_eq_false (show ¬ (Sum.inr (jK++y):Key)=Sum.inr k from fun z=>jIs h (by injection z))];decide
theorem jM1(h:jK++x=jK++y):x=y:=by rw [<- jDG jK x,h,jDG]
theorem jM2:∀ {ys:List Str} {y:Str},y∈ys->lI (xH ys) (Sum.inr (jK++y))=some (.str y)
 | [],_,h=>by cases h
 | x::ys,y,h=>by
   by_cases e:x=y
   ·rw [e];exact jEa rfl
   ·refine (jEb (show ¬ (Sum.inr (jK++x):Key)=Sum.inr (jK++y) from fun z=>e (jM1 (by injection z)))).trans (jM2 ?_)
    grind
theorem jO7(h:¬ y∈ys):lI (xH ys) (Sum.inr (jK++y))=none:=by
 unfold lI;rw [find?_eq_none.mpr fun p hp=>?_]
 ·rfl
 ·obtain⟨x,hx,rfl⟩:=dR.mp hp;rw [decide_eq_false (show ¬ (Sum.inr (jK++x):Key)=Sum.inr (jK++y) from fun z=>h (jM1 (by injection z) ▸ hx))];decide
noncomputable def jLp:V->V
 | .str s=>.str (Txt.slice s (some ((jK.length:Nat):Int)) none)
 | v=>v
theorem jJ0(y:Str):jLp (.str (jK++y))=.str y:=by
 show V.str (Txt.slice (jK++y) (some ((jK.length:Nat):Int)) none)=V.str y;rw [jDG]
theorem jFz{zs:List Str}{i:Nat}{n:Str}(nd:zs.Nodup)(h:zs[i]?=some n):¬ n∈zs.take i:=fun z=>by
 obtain⟨j,hj⟩:=mem_iff_getElem?.mp z;rw [List.getElem?_take] at hj;by_cases c:j<i
 ·rw [if_pos c] at hj;have hl:=(List.getElem?_eq_some_iff.mp hj).1;have:=(List.getElem?_inj hl nd).mp (hj.trans h.symm);omega
 ·rw [if_neg c] at hj;cases hj
example jHd(C:Addr):∀ (p D:Addr) (a b:Str) (r:List V) (n:Int) (ys:List Str),vs=[.ref p,.int n,.ref D]->H p=some (.lst (.str a::.str b::r))->H D=some (.dK (xH ys))->ys.length<=3->(∀ J H',eR H H'->Jat C H' J->J.nm=a->J.as=b->J.p=n->J.af=ys->Q (.ref J.x) H')->jHd C:=0
example jNQ:Dfn 3 "told_job" ["words","pages","told"] (jHd yQ):=by
 nomatch mJ T.e T.p12,["words","pages","told","copies","layout","paper","staple","after"]
 obtain⟨p,D,a,b,r,n,ys,rfl,hp,hD,l3,q⟩:=h;have hu:=hu_of hr;exists _,(eE (psA (i:=3) nZ (jEf hu (pv 2) (kE T.aY rfl) (rF T.cm rfl) ⟨rfl,rfl,rfl,rfl⟩)) (eE (psA (i:=4) nZ (jEf hu (pv 2) (kE T.bK rfl) (kE T.bL rfl) ⟨rfl,rfl,rfl,rfl⟩)) (eE (psA (i:=5) nZ (jEf hu (pv 2) (kE T.aL rfl) (kE T.cq rfl) ⟨rfl,rfl,rfl,rfl⟩)) (eE (psA (i:=6) nZ (jEf hu (pv 2) (kE T.bJ rfl) o8 ⟨rfl,rfl,rfl,rfl⟩)) (eE (psA (i:=7) nZ (jIi (rG jFF rfl T.bF jKY (dN (rX (frees:=[ ("told",2) ]) ⟨by decide +kernel,rfl,rfl,by decide +kernel,⟨⟨rfl,rfl,rfl,by decide +kernel⟩,trivial⟩,by decide +kernel,oX rfl,rfl⟩ rfl (y3 (pv 2)) (fun _ _ _ _=>by exact (vS (jC3 (K:=K) rfl (pe_bmK (K:=K) rfl fV fT fR jBM (pv 0) (dN (kE T.bI rfl) dZ)) (fun _=>rfl)))) (fun _ _ _ _=>by exact (dgA hu (pv 1) (pv 0)))) dZ)))) (eI (gB (jEh (Daa T) hr.m rfl (dN (ixA jCM (pv 0) fY) (dN (ixA jCM (pv 0) fY) (dN (pv 1) (dN (pv 3) (dN (pv 4) (dN (pv 5) (dN (jKV hu (pv 2) (kE T.aQ rfl) ⟨rfl,rfl,rfl,rfl⟩) (dN (jKV hu (pv 2) (kE T.aZ rfl) ⟨rfl,rfl,rfl,rfl⟩) (dN (pv 6) (dN (pv 7) dZ))))))))))))))))))
 have isD:IsD H D:=.inl ⟨_,.inl hD⟩;have g1:mM H D (.str cX) none:=by have:=mM.k (k:=Sum.inr cX) hD;rwa [jDr (by decide +kernel)] at this
 have g2:mM H D (.str cLay) none:=by have:=mM.k (k:=Sum.inr cLay) hD;rwa [jDr (by decide +kernel)] at this
 have g3:mM H D (.str wN) none:=by have:=mM.k (k:=Sum.inr wN) hD;rwa [jDr (by decide +kernel)] at this
 have g4:mM H D (.str xE) none:=by have:=mM.k (k:=Sum.inr xE) hD;rwa [jDr (by decide +kernel)] at this
 exists _,rfl,D,rfl,isD,_,g1;exists _,rfl,D,rfl,isD,_,g2;exists _,rfl,D,rfl,isD,_,g3;exists _,rfl,D,rfl,isD,_,g4;refine⟨D,_,hD,fun o=>?_⟩;have ek:((xH ys).map fun p=>kV p.1)=ys.map fun y=>V.str (jK++y):=by
  unfold xH;rw [dU];rfl
 have hD0:upd H D (.frz o (.dK (xH ys))) D=some (.frz o (.dK (xH ys))):=eO;refine⟨_,rfl,D,o,_,rfl,eO,zC (zA eO) (fun _=>true) jLp (kZ (by rw [ek,c7];omega)) (fun x hx H' R sm r=>?_) (fun x hx H' R sm e r=>?_) (fun L H' sm hL hH=>?_)⟩
 ·rw [ek] at hx;obtain⟨y,_,rfl⟩:=dR.mp hx;rw [<- jK_ jK y] at r;exact⟨_,rfl,rfl,_,jK,rfl,rfl,_,rfl,r⟩
 ·rw [ek] at hx;obtain⟨y,hy,rfl⟩:=dR.mp hx;have g:mM H' D (.str (jK++y)) (some (.str y)):=.inl ⟨_,Sum.inr (jK++y),.inr ⟨o,sm _ _ hD0⟩,rfl,(jM2 hy).symm⟩;rw [jJ0] at r;exact⟨_,rfl,_,rfl,D,_,rfl,g,r⟩
 have eL:(((xH ys).map fun p=>kV p.1).filter fun _=>true).map jLp=ys.map V.str:=by
  rw [fW.mpr (fun _ _=>rfl),ek,dU];refine eT fun y _=>?_;exact jJ0 y
 rw [eL] at hH;refine⟨L,_,rfl,.inl ⟨SqL.of hH,fun l hl=>⟨?_,?_⟩⟩⟩
 ·rw [eJ (gM (sm _ _ hD0) hl)];exact sm _ _ hD0
 have nDl:D≠l:=gM (sm _ _ hD0) hl;generalize hH5:upd (upd H' l _) D _=H5;have s5:eR H H5:=fun b u e=>by
  rw [<- hH5];by_cases hb:b=D
  ·subst hb;rw [eO,<- hD];exact e
  ·have e1:=sm b u (by rw [eJ hb];exact e);rw [eJ hb,eJ (gM e1 hl)];exact e1
 have vZ:H5 l=some (.tup (ys.map V.str)):=by rw [<- hH5,eJ (symm nDl),eO]
 have hD5:=s5 _ _ hD;have isD5:IsD H5 D:=.inl ⟨_,.inl hD5⟩;have hp5:=s5 _ _ hp;have g5:mM H5 D (.str yO) none:=by have:=mM.k (k:=Sum.inr yO) hD5;rwa [jDr (by decide +kernel)] at this
 have g6:mM H5 D (.str jGg) none:=by have:=mM.k (k:=Sum.inr jGg) hD5;rwa [jDr (by decide +kernel)] at this
 exists _,rfl,p,_,_,_,rfl,rfl,SqL.of hp5,o9 (j:=0) rfl;exists _,rfl,p,_,_,_,rfl,rfl,SqL.of hp5,o9 (j:=1) rfl;exists _,rfl,_,rfl,_,rfl,_,rfl;exists _,rfl,D,rfl,isD5,_,g5;exists _,rfl,D,rfl,isD5,_,g6;refine⟨_,rfl,_,rfl,fun x dx nx ndx ne=>?_⟩;exists x,dx,_,_,_,_,_,_,_,_,_,_,rfl,eO,rfl;rw [tI];have s6:∀ o,eR H5 (upd (upd H5 dx (.own x)) x o):=fun o b u e=>by
  rw [eJ (gM e nx),eJ (gM e ndx)];exact e
 exact q ⟨x,dx,l,a,b,n,ys⟩ _ (s5.trans (s6 _)) ⟨eO,s6 _ _ _ vZ,l3⟩ rfl rfl rfl rfl
example jHe(C:Addr):∀ (z a b y:Str) (ys:List Str),vs=[.str z]->z.length<=900->Txt.split z y4=a::b::y::ys.map (jK++·)->good a=true->good b=true->vL y=true->1<=val y->val y<=999->(∀ u∈ys,good u=true)->ys.Nodup->ys.length<=3->(∀ J H',eR H H'->Jat C H' J->J.nm=a->J.as=b->J.p=val y->J.af=ys->Q (.ref J.x) H')->jHe C:=0
example jNR:Dfn 6 "read_job" ["line"] (jHe yQ):=by
 nomatch mJ T.e T.p8,["line","words","pages","told","place","word","value","sort"]
 obtain⟨z,a,b,y,ys,rfl,hz,ez,ga,gb,gy,y0,y1,gs,nd,l3,q⟩:=h;have hu:=hu_of hr;exists _,(eE (psA (i:=1) nZ (jV (jNO T) hr.m rfl (dN (pv 0) dZ))) (eE (psA (i:=2) nZ (jV (jMm T) hr.m rfl (dN (pv 1) dZ))) (eE (psA (i:=3) nZ tZ) (eE (nY PassesOwn.never rfl (jPG rfl T.bD (dN (jCj jGS (pv 1) (jCL (rF T.aK rfl)) jCK) dZ) (jMC (rF T.aK rfl) jOj)) (jD8 rfl (vN (pgA (i:=4) nZ) (vN (pgA (i:=5) nZ) jDl))) (eE (psA (i:=6) nZ (jV (jNP T) hr.m rfl (dN (pv 5) (dN (pv 2) dZ)))) (eE (psA (i:=7) nZ (jV (jO6 T) hr.m rfl (dN (pv 5) dZ))) (eE (iK (PW.pt (wP (tcA jC7 (pv 6) m3) (y6 (sR (xX hu (pv 7) (pv 3)))))) (eI mV) iM) (eI (tH hu (pv 3) (pv 7) (pv 6) rfl)))))) (eI (gB (jV (jNQ T) hr.m rfl (dN (pv 1) (dN (pv 2) (dN (pv 3) dZ))))))))))
 refine⟨_,rfl,z,rfl,hz,fun p H1 s1 fp hp=>?_⟩;rw [ez] at hp;refine⟨_,rfl,p,a,b,y,_,rfl,hp,ga,gb,gy,y0,y1,fun H2 s2 D hD=>?_⟩;have qZ:=s2 _ _ hp;generalize e9:upd H2 D _=H3;have s3:=nS hD e9;have hD3:=nE e9;have hp3:=s3 _ _ qZ;have ec:tG ((a::b::y::ys.map (jK++·)).map V.str) (some 3) none=ys.map fun u=>V.str (jK++u):=by
  refine (jP3 _ 3).trans ?_;show (ys.map (jK++·)).map V.str=_;rw [dU];rfl
 refine⟨_,rfl,_,rfl,p,_,rfl,SqL.of hp3,fun p2 hq2=>?_⟩;rw [ec];have s4:=iS hq2 (.lst (ys.map fun u=>V.str (jK++u)));have hq4:upd H3 p2 (.lst (ys.map fun u=>V.str (jK++u))) p2=some (.lst (ys.map fun u=>V.str (jK++u))):=eO;have q9:=s4 _ _ hD3;have hp4:=s4 _ _ hp3;generalize upd H3 p2 (.lst (ys.map fun u=>V.str (jK++u)))=H4 at s4 hq4 q9 hp4 ⊢;have nD:H D=none:=s1.free (s2.free hD);have sA:eR H H4:=((s1.trans s2).trans s3).trans s4
 refine⟨p2,3,rfl,rfl,⟨_,SqL.of hq4⟩,by decide +kernel,jK1 (K:=K) (a:=p2) (j:=3) (xs:=ys.map fun u=>V.str (jK++u))
  (fun i σ H'=>eR H H'/\H' p=some (.lst ((a::b::y::ys.map (jK++·)).map V.str))/\H' p2=some (.lst (ys.map fun u=>V.str (jK++u)))/\H' D=some (.dK (xH (ys.take i)))/\∃ v1 v2 v3 v4:Option V,σ=[some (.str z),some (.ref p),some (.int (val y)),some (.ref D),v1,v2,v3,v4])
  ⟨sA,hp4,hq4,q9,_,_,_,_,rfl⟩ (fun i σ H' _ p=>SqL.of p.2.2.1) (fun i x σ H' t hx z' ht=>?_) (fun σ H' z'=>?_)⟩
 ·obtain⟨sm,hp',hp2',v8,v1,v2,v3,v4,rfl⟩:=z';rw [getElem?_map] at hx;obtain⟨u,eu,rfl⟩:=dW.mp hx;have nu:¬ u∈ys.take i:=jFz nd eu;exists t,_,rfl,SqT.of eO,rfl,_,_,rfl,_,_,rfl,rfl;have s5:=iS ht (.tup [V.int (3+(i:Int)),V.str (jK++u)]);refine⟨_,rfl,_,rfl,u,val y,rfl,gs u (mem_of_getElem? eu),fun H6 s6=>⟨_,rfl,u,rfl,fun H7 s7=>?_⟩⟩;have s57:=(s5.trans s6).trans s7;have hD7:=s57 _ _ v8;refine⟨_,rfl,rfl,_,rfl,hV ?_⟩;have g:=mM.k (k:=Sum.inr (jK++u)) hD7;rw [jO7 nu] at g;refine⟨_,rfl,_,rfl,D,_,rfl,g,_,rfl,hV ?_⟩;refine⟨_,rfl,_,rfl,_,rfl,D,_,rfl,wO.k (k:=Sum.inr (jK++u)) hD7 (kZ (by unfold xH;rw [c7];have:=i7 i ys;omega)),?_⟩;have kb:∀ b o,b≠D->H' b=some o->upd H7 D (.dK (oU (xH (ys.take i)) (Sum.inr (jK++u)) (.str u))) b=some o:=fun b o nb e=>by rw [eJ nb];exact s57 _ _ e
  refine⟨fun b o e=>kb b o (gM e nD) (sm _ _ e),kb _ _ (fN hp' v8 nofun) hp',kb _ _ (fN hp2' v8 nofun) hp2',?_,_,_,_,_,rfl⟩;rw [eO,jKQ _ (jO7 nu),fZ,eu];unfold xH;rw [eB];rfl
 ·obtain⟨sm,hp',hp2',v8,v1,v2,v3,v4,rfl⟩:=z';rw [eX (by rw [c7];exact Nat.le_refl _)] at v8;exact⟨_,rfl,_,rfl,_,rfl,p,D,a,b,_,val y,ys,rfl,hp',v8,l3,fun J H5 s6 j e1 e2 e3 e4=>q J H5 (sm.trans s6) j e1 e2 e3 e4⟩
example jM3(C:Addr):∀ (J:JB),vs=[.ref J.x]->Jat C H J->0<=J.p->J.p<=1000->Q (.int (J.p*1)) H->jM3 C:=0
example Dab:Dfn 1 "cost" ["job"] (jM3 yQ):=by
 nomatch mJ T.e T.p13,["job"]
 obtain⟨J,rfl,j,p0,p1,q⟩:=h;exists _,(eI (gB (jL jC6 (fH (pv 0) rfl) (fH (pv 0) rfl))))
 exact⟨_,rfl,J.x,yQ,J.dx,_,_,rfl,j.o,T.ah,T.bi,rfl,_,rfl,J.x,yQ,J.dx,_,_,rfl,j.o,T.ah,T.bj,rfl,_,_,rfl,rfl,.inr ⟨by decide,by decide⟩,q⟩
section DG
variable {κ α:Type}[DecidableEq κ]
noncomputable def dG(g:κ->Key)(f:α->V)(l:List (κ×α)):List (Key×V):=l.map fun p=>(g p.1,f p.2)
noncomputable def gL(l:List (κ×α))(k:κ):Option α:=match l with
 | []=>none
 | p::r=>if p.1=k then some p.2 else gL r k
theorem qO{p:κ×α}{r:List (κ×α)}{k:κ}:gL (p::r) k=if p.1=k then some p.2 else gL r k:=rfl
theorem jEm{g:κ->Key}{f:α->V}(hg:∀ a b,g a=g b->a=b):∀ {l:List (κ×α)} {k:κ},lI (dG g f l) (g k)=(gL l k).map f
 | [],_=>rfl
 | p::r,k=>by
   rw [qO];by_cases c:p.1=k
   ·rw [if_pos c];exact jEa (congrArg g c)
   ·rw [if_neg c];exact (jEb (fun z=>c (hg _ _ z))).trans (jEm hg)
theorem jB_:∀ {l:List (κ×α)} {k:κ},gL l k=none ↔ ¬ k∈l.map (·.1)
 | [],k=>⟨fun _ h=>(by cases h),fun _=>rfl⟩
 | p::r,k=>by
   rw [qO,eW,dX];by_cases c:p.1=k
   ·grind
   ·rw [if_neg c,jB_]
    grind
theorem mO{l:List (κ×α)}{k:κ}(h:k∈l.map (·.1)):∃ v,gL l k=some v:=by
 cases e:gL l k with
 | some v=>exact⟨v,rfl⟩
 | none=>exact absurd h (jB_.mp e)
theorem nQ:∀ {l:List (κ×α)} {k:κ} {v:α},gL l k=some v->(k,v)∈l
 | [],_,_,h=>by cases h
 | p::r,k,v,h=>by
   rw [qO] at h;by_cases c:p.1=k
   ·grind
   ·rw [if_neg c] at h;exact eG _ (nQ h)
theorem yT{l:List (κ×α)}{k:κ}{v:α}(h:gL l k=some v):k∈l.map (·.1):=jI (f:=fun p:κ×α=>p.1) (nQ h)
theorem jDc:∀ {l:List (κ×α)} {p:κ×α},(l.map (·.1)).Nodup->p∈l->gL l p.1=some p.2
 | [],_,_,h=>by cases h
 | q::r,p,nd,h=>by
   rw [eW,fF] at nd;rw [qO];rcases dX.mp h with rfl|h
   ·rw [if_pos rfl]
   ·rw [if_neg (fun z=>nd.1 (by rw [z];exact jI h))];exact jDc nd.2 h
noncomputable def hJ(l:List (κ×α))(k:κ)(v:α):List (κ×α):=if k∈l.map (·.1) then l.map (fun p=>if p.1=k then (p.1,v) else p) else l++[(k,v)]
theorem dG_up{g:κ->Key}{f:α->V}(hg:∀ a b,g a=g b->a=b){l:List (κ×α)}{k:κ}{v:α}:oU (dG g f l) (g k) (f v)=dG g f (hJ l k v):=by
 unfold hJ oU dG;have e:(l.map fun p=>(g p.1,f p.2)).any (fun p=>decide (p.1=g k))=decide (k∈l.map (·.1)):=by
  rw [any_map];by_cases c:k∈l.map (·.1)
  ·rw [decide_eq_true c]
   grind
  ·rw [decide_eq_false c];refine kJ.mpr fun p hp z=>c ?_
   grind
 rw [e];by_cases c:k∈l.map (·.1)
 ·rw [if_pos c,if_pos (decide_eq_true c),dU,dU];refine eT fun p _=>?_;show (if g p.1=g k then (g p.1,f v) else (g p.1,f p.2))=(g (if p.1=k then (p.1,v) else p).1,f (if p.1=k then (p.1,v) else p).2)
  by_cases c2:p.1=k
  ·rw [if_pos c2,if_pos (congrArg g c2)]
  grind
 ·rw [if_neg c,if_neg (fun z=>c (of_decide_eq_true z)),eB];rfl
theorem jFA{l:List (κ×α)}{k:κ}{v:α}:(hJ l k v).map (·.1)=if k∈l.map (·.1) then l.map (·.1) else l.map (·.1)++[k]:=by
 unfold hJ;by_cases c:k∈l.map (·.1)
 ·rw [if_pos c,if_pos c,dU];refine eT fun p _=>?_
  grind
 grind
theorem jLq{l:List (κ×α)}{k:κ}{v:α}(h:(l.map (·.1)).Nodup):((hJ l k v).map (·.1)).Nodup:=by
 rw [jFA];split
 ·exact h
 ·rename_i c
  refine iI.mpr ⟨h,by simp,fun a ha b hb z=>?_⟩
  grind
theorem upG_len{l:List (κ×α)}{k:κ}{v:α}:(hJ l k v).length<=l.length+1:=by
 unfold hJ;split
 ·rw [c7];omega
 ·rw [length_append];exact Nat.le_refl _
theorem lkG_map{l:List (κ×α)}{k k':κ}{v:α}:gL (l.map fun p=>if p.1=k then (p.1,v) else p) k'=if k'=k/\k∈l.map (·.1) then some v else gL l k':=by
 induction l with
 | nil=>rw [if_neg (fun z=>by cases z.2)];rfl
 | cons p r ih =>
   rw [eW,qO,qO,ih,eW];by_cases c1:p.1=k
   ·grind
   grind
theorem lkG_app{l:List (κ×α)}{k k':κ}{v:α}(h:¬ k∈l.map (·.1)):gL (l++[(k,v)]) k'=if k'=k then some v else gL l k':=by
 induction l with
 | nil =>
   rw [pX,qO]
   grind
 | cons p r ih =>
   rw [eW,dX] at h;rw [List.cons_append,qO,qO,ih (fun z=>h (.inr z))]
   grind
theorem jEn{l:List (κ×α)}{k k':κ}{v:α}:gL (hJ l k v) k'=if k'=k then some v else gL l k':=by
 unfold hJ;by_cases c:k∈l.map (·.1)
 ·rw [if_pos c,lkG_map]
  grind
 ·rw [if_neg c,lkG_app c]
theorem jE8{l:List (κ×α)}{k:κ}{v:α}(h:¬ k∈l.map (·.1)):hJ l k v=l++[(k,v)]:=by
 unfold hJ;rw [if_neg h]
end DG
theorem jZ(a b:Str)(h:(Sum.inr a:Key)=Sum.inr b):a=b:=by injection h
theorem jM4(a b:Int)(h:(Sum.inl a:Key)=Sum.inl b):a=b:=by injection h
theorem lO[DecidableEq κ](hg:∀ a b,g a=g b->a=b)(h:H a=some (.dK (dG g f l)))(k:κ):mM H a (kV (g k)) ((gL l k).map f):=by
 have:=mM.k (k:=g k) h;rw [jEm hg] at this;exact this
theorem jDd{κ α:Type}[DecidableEq κ]{g:κ->Key}{f:α->V}{l:List (κ×α)}:(dG g f l).length=l.length:=c7 _
theorem vP{κ α:Type}[DecidableEq κ]{g:κ->Key}{f:α->V}(hg:∀ a b,g a=g b->a=b){H:Hp}{a:Addr}{l:List (κ×α)}(h:H a=some (.dK (dG g f l)))(hl:l.length<=1000)(k:κ)(v:α):wO H a (kV (g k)) (f v) (upd H a (.dK (dG g f (hJ l k v)))):=by
 have:=wO.k (k:=g k) (v:=f v) h (by rw [jDd];exact kZ hl);rw [dG_up hg] at this;exact this
end
section
variable {P:Program}{w:World}{K:PySem.W.Frag}{mg:Str->Option Value}{base:Heap}{yQ yZ yX yY yV yJ yW yU yK yG cQ cZ cV dJ:Addr}(T:Txt K mg base yQ yZ yX yY yV yJ yW yU yK yG cQ cZ cV dJ)
example jLr(_K:PySem.W.Frag):∀ (l c s:Int),vs=[.int l,.int c,.int s]->0<s->s<=1000->Q (.int (l+c*(2520/s))) H->jLr _K:=0
example Dac:Dfn 1 "grown" ["level","cost","share"] (jLr K):=by
 nomatch mJ T.e T.p20,["level","cost","share"]
 obtain⟨l,c,s,rfl,s0,s1,q⟩:=h;exists _,(eI (gB (jL oV (pv 0) (jL jC6 (pv 1) (jL jMz (rF T.cA rfl) (pv 2))))))
 have a:=mI (show (0:Int)<=2520 by decide) (Int.le_of_lt s0);have b:=Int.ediv_le_self s (show (0:Int)<=2520 by decide);exact⟨_,rfl,_,rfl,_,rfl,_,_,rfl,rfl,⟨by omega,by omega⟩,_,_,rfl,rfl,.inr ⟨by omega,by omega⟩,_,_,rfl,rfl,q⟩
example jJ1(_K:PySem.W.Frag):∀ (l m:Int),vs=[.int l,.int m]->Q (.int (max l m)) H->jJ1 _K:=0
example jLs:Dfn 1 "lifted" ["level","mark"] (jJ1 K):=by
 nomatch mJ T.e T.p21,["level","mark"]
 obtain⟨l,m,rfl,q⟩:=h;exists _,(eI (gB (nK (jOe rfl) rfl T.bY bt_max (dN (pv 0) (dN (pv 1) dZ)))))
 exists _,rfl,_,rfl,_,_,rfl
 grind
noncomputable def lmPos:Pos:=match wR jFw with
 | [_,.Return (some (.Call _ _ [⟨_,.Lambda _ _ _ p,_⟩] _)) _]=>p
 | _=>⟨0,0,0,0⟩
noncomputable abbrev lmQual:Str:=(c9 "first_of" ++ ".<locals>.") ++ "<lambda>"
noncomputable abbrev tW(H:Hp)(tP:Addr):Prop:=jDx H tP lmPos lmQual
example jHf(tP:Addr):∀ (a t:Addr) (r l:Int) (n:Str),vs=[.ref a]->H a=some (.lst [.ref t])->H t=some (.tup [.int r,.int l,.str n])->tW H tP->(∀ H',vJ tP H H'->tW H' tP->Q (.int 0) H')->jHf tP:=0
theorem jHg:jCt ["rows","places"] ["rows"] (rH jFw):=scM
example jNS:Dfn 2 "first_of" ["rows"] (jHf dJ):=by
 have BM:=T.bm;refine dfL T.e T.p22 fun fa fd cL F hL hC=>F.okL hL jHg (fun vs H Q E h=>?_) (fun A outer s H vs Q E hr h=>?_)
 ·obtain⟨a,t,r,l,n,rfl,_⟩:=h;rfl
 obtain⟨a,t,r,l,n,rfl,hA,hT,ht,q⟩:=h;exists _,(eE (psA (i:=1) jHg.nd (jKh rfl rfl T.ar rfl T.au (dN (nK vW rfl T.aj fK (dN (pv 0) dZ)) dZ))) (eI (gB (jNw (x:="place") (y:="rows") (iy:=0) hr rfl T.bX (dN (pv 1) dZ) (jDp.mk2 (by first|exact .inl rfl|exact .inr rfl) (by decide +kernel) rfl rfl rfl) rfl rfl BM rfl hC rfl rfl (fun _ _ _ _=>rfl) (fun _ _ _ _ _ _=>by exact (nL (dN (jGP jE1 (jDE (K:=K) (r:=rIxT) rfl pZ (jDE (K:=K) (r:=jIh) rfl vQ (pv 1) (pv 0) (fun _ _=>rfl)) fY (fun _ _=>rfl))) (dN (jDE (K:=K) (r:=rIxT) rfl pZ (jDE (K:=K) (r:=jIh) rfl vQ (pv 1) (pv 0) (fun _ _=>rfl)) fY (fun _ _=>rfl)) (dN (jDE (K:=K) (r:=rIxT) rfl pZ (jDE (K:=K) (r:=jIh) rfl vQ (pv 1) (pv 0) (fun _ _=>rfl)) fY (fun _ _=>rfl)) dZ)))))))))
 obtain⟨tps,htp⟩:=ht.is;refine⟨_,rfl,a,_,rfl,.inl (SqL.of hA),_,rfl,⟨by show (-(2^62):Int)<=1;decide,by show (1:Int)<2^62;decide⟩,wq1,by show 1<=2^24;decide,fun p np=>?_⟩;have s1:=iS np (.lst [V.int 0]);have hl1:upd H p (.lst [V.int 0]) p=some (.lst [V.int 0]):=eO;rw [show rngV 0 ((([V.ref t]:List V).length:Nat):Int).toNat=[V.int 0] from rfl];generalize upd H p (.lst [V.int 0])=H1 at s1 hl1 ⊢;refine⟨_,rfl,p,.int 0,.ref a,[.int (-r),.int l,.str n],rfl,SqL.of hl1,rfl,ht.same s1,fun H2 s2=>?_,fun H' s2 t2=>q H' (s1.p.trans s2) t2⟩;have k2:∀ b o,H b=some o->o≠.tbl tps->H2 b=some o:=fun b o e n=>s2 _ _ (fN e htp n) (s1 _ _ e);have hR2:=k2 _ _ hA nofun
 have r9:=k2 _ _ hT nofun
 refine⟨_,rfl,_,rfl,a,_,_,rfl,rfl,SqL.of hR2,by decide,tS,fun v hv=>?_⟩;obtain rfl:V.ref t=v:=Option.some.inj hv;refine⟨t,_,0,_,rfl,rfl,SqT.of r9,rfl,_,rfl,_,rfl,_,rfl,a,_,_,rfl,rfl,SqL.of hR2,by decide,tS,fun v hv=>?_⟩;obtain rfl:V.ref t=v:=Option.some.inj hv;refine⟨t,_,1,_,rfl,rfl,SqT.of r9,rfl,_,rfl,_,rfl,a,_,_,rfl,rfl,SqL.of hR2,by decide,tS,fun v hv=>?_⟩;obtain rfl:V.ref t=v:=Option.some.inj hv;refine⟨t,_,2,_,rfl,rfl,SqT.of r9,rfl,wq3,fun p np=>?_⟩;exact⟨p,rfl,iS np _,eO⟩
noncomputable abbrev tF:=Addr×Str×Int×Str
structure LA where
 x:Addr
 dx:Addr
 ra:Addr
 sh:Addr
 lv:Addr
 ma:Addr
 ow:Addr
 co:Addr
 no:Addr
 qu:Addr
structure LD where
 ra:List (Str×Int)
 sh:List (Str×Int)
 lv:List (Str×Int)
 ma:List (Int×Int)
 ow:List (Str×Str)
 co:List (Str×Int)
 no:List (Str×Addr×List tF)
 qu:List (Str×Unit)
noncomputable def LA.ds(L:LA):List Addr:=[L.ra,L.sh,L.lv,L.ma,L.ow,L.co,L.no,L.qu]
noncomputable def lnF(L:LA):List (Str×V):=[("ranks",.ref L.ra),("shares",.ref L.sh),("levels",.ref L.lv),("marks",.ref L.ma),("owners",.ref L.ow),("costs",.ref L.co),("notes",.ref L.no),("queue",.ref L.qu)]
noncomputable def noV(n:Addr×List tF):V:=.ref n.1
noncomputable def lN(_:Unit):V:=.bl true
noncomputable def wI(t:tF):List V:=[.str t.2.1,.int t.2.2.1,.str t.2.2.2]
noncomputable def LD.os(D:LD):List (List (Key×V)):=[dG Sum.inr V.int D.ra,dG Sum.inr V.int D.sh,dG Sum.inr V.int D.lv,dG Sum.inl V.int D.ma,dG Sum.inr V.str D.ow,dG Sum.inr V.int D.co,dG Sum.inr noV D.no,dG Sum.inr lN D.qu]
structure iC(cL:Addr)(H:Hp)(L:LA)(D:LD):Prop where
 o:H L.x=some (.ins cL L.dx (lnF L))
 d:∀ (i:Nat) {a:Addr} {k:List (Key×V)},L.ds[i]?=some a->D.os[i]?=some k->H a=some (.dK k)
 nl:∀ n∈D.no,H n.2.1=some (.lst (n.2.2.map fun t=>V.ref t.1))
 nt:∀ n∈D.no,∀ t∈n.2.2,H t.1=some (.tup (wI t))
 nd:L.ds.Nodup
 nn:(D.no.map (·.2.1)).Nodup
theorem iC.same(A:iC cL H L D)(s:eR H H'):iC cL H' L D:=⟨s _ _ A.o,fun i _ _ h g=>s _ _ (A.d i h g),fun n h=>s _ _ (A.nl n h),fun n h t ht=>s _ _ (A.nt n h t ht),A.nd,A.nn⟩
section
variable {cL:Addr}{H:Hp}{L:LA}{D:LD}(N:iC cL H L D)
include N
theorem iC.ra:H L.ra=some (.dK (dG Sum.inr V.int D.ra)):=N.d 0 rfl rfl
theorem iC.sh:H L.sh=some (.dK (dG Sum.inr V.int D.sh)):=N.d 1 rfl rfl
theorem iC.lv:H L.lv=some (.dK (dG Sum.inr V.int D.lv)):=N.d 2 rfl rfl
theorem iC.ma:H L.ma=some (.dK (dG Sum.inl V.int D.ma)):=N.d 3 rfl rfl
theorem iC.ow:H L.ow=some (.dK (dG Sum.inr V.str D.ow)):=N.d 4 rfl rfl
theorem iC.co:H L.co=some (.dK (dG Sum.inr V.int D.co)):=N.d 5 rfl rfl
theorem iC.no:H L.no=some (.dK (dG Sum.inr noV D.no)):=N.d 6 rfl rfl
theorem iC.qu:H L.qu=some (.dK (dG Sum.inr lN D.qu)):=N.d 7 rfl rfl
end
theorem kP{α:Type}{l:List α}{a b:α}{i j:Nat}(nd:l.Nodup)(hi:l[i]?=some a)(hj:l[j]?=some b)(ne:i≠j):a≠b:=fun z=>by
 obtain⟨li,ei⟩:=List.getElem?_eq_some_iff.mp hi;obtain⟨lj,ej⟩:=List.getElem?_eq_some_iff.mp hj;have p:=List.pairwise_iff_getElem.mp (List.nodup_iff_pairwise_ne.mp nd);rcases Nat.lt_or_gt_of_ne ne with h|h
 ·exact p i j li lj h (by rw [ei,ej,z])
 ·exact p j i lj li h (by rw [ei,ej,z])
noncomputable def LF(L:LA)(D:LD)(b:Addr):Prop:=b∈L.ds\/∃ n∈D.no,b=n.2.1
theorem iC.put(A:iC cL H L D)(i:Nat)(hi:L.ds[i]?=some a)(e:D'.os=D.os.set i k)(nl:∀ n∈D'.no,H n.2.1=some (.lst (n.2.2.map fun t=>V.ref t.1)))(nt:∀ n∈D'.no,∀ t∈n.2.2,H t.1=some (.tup (wI t)))(nn:(D'.no.map (·.2.1)).Nodup):iC cL (upd H a (.dK k)) L D':=by
 have li:=(List.getElem?_eq_some_iff.mp hi).1;have hd:H a=some (.dK (D.os[i]'li)):=A.d i hi (getElem?_eq_getElem _);have kp:∀ {b o},H b=some o->(∀ k,o≠.dK k)->upd H a (.dK k) b=some o:=fun e n=>by rw [eJ (fN e hd (n _))];exact e
 refine⟨kp A.o (by intro k z;cases z),fun j b k' hj hk=>?_,fun n h=>kp (nl n h) (by intro k z;cases z),fun n h t ht=>kp (nt n h t ht) (by intro k z;cases z),A.nd,nn⟩;rw [e] at hk;by_cases c:i=j
 ·subst c;rw [getElem?_set_self (show i<D.os.length from li)] at hk;rw [hi] at hj;rw [<- Option.some.inj hj,eO,Option.some.inj hk]
 ·rw [List.getElem?_set_ne c] at hk;rw [eJ (symm (kP A.nd hi hj c))];exact A.d j hj hk
theorem iC.set(A:iC cL H L D)(i:Nat)(hi:L.ds[i]?=some a)(e:D'.os=D.os.set i k)(en:D'.no=D.no):iC cL (upd H a (.dK k)) L D':=A.put i hi e (by rw [en];exact A.nl) (by rw [en];exact A.nt) (by rw [en];exact A.nn)
theorem iC.set_ra(A:iC cL H L D)(v:List (Str×Int)):iC cL (upd H L.ra (.dK (dG Sum.inr V.int v))) L { D with ra:=v }:=A.set 0 rfl rfl rfl
theorem iC.set_sh(A:iC cL H L D)(v:List (Str×Int)):iC cL (upd H L.sh (.dK (dG Sum.inr V.int v))) L { D with sh:=v }:=A.set 1 rfl rfl rfl
theorem iC.set_lv(A:iC cL H L D)(v:List (Str×Int)):iC cL (upd H L.lv (.dK (dG Sum.inr V.int v))) L { D with lv:=v }:=A.set 2 rfl rfl rfl
theorem iC.set_ma(A:iC cL H L D)(v:List (Int×Int)):iC cL (upd H L.ma (.dK (dG Sum.inl V.int v))) L { D with ma:=v }:=A.set 3 rfl rfl rfl
theorem iC.set_ow(A:iC cL H L D)(v:List (Str×Str)):iC cL (upd H L.ow (.dK (dG Sum.inr V.str v))) L { D with ow:=v }:=A.set 4 rfl rfl rfl
theorem iC.set_co(A:iC cL H L D)(v:List (Str×Int)):iC cL (upd H L.co (.dK (dG Sum.inr V.int v))) L { D with co:=v }:=A.set 5 rfl rfl rfl
theorem iC.set_qu(A:iC cL H L D)(v:List (Str×Unit)):iC cL (upd H L.qu (.dK (dG Sum.inr lN v))) L { D with qu:=v }:=A.set 7 rfl rfl rfl
noncomputable def pT(L:LA)(D:LD)(H H':Hp):Prop:=∀ b o,¬ LF L D b->H b=some o->H' b=some o
theorem pT.refl(L:LA)(D:LD)(H:Hp):pT L D H H:=fun _ _ _ e=>e
theorem eR.offL(s:eR H H'):pT L D H H':=fun b o _ e=>s b o e
theorem lf_ra(L:LA)(D:LD):LF L D L.ra:=.inl (mem_of_getElem? (i:=0) rfl)
theorem lf_sh(L:LA)(D:LD):LF L D L.sh:=.inl (mem_of_getElem? (i:=1) rfl)
theorem yL(L:LA)(D:LD):LF L D L.lv:=.inl (mem_of_getElem? (i:=2) rfl)
theorem lf_ma(L:LA)(D:LD):LF L D L.ma:=.inl (mem_of_getElem? (i:=3) rfl)
theorem lf_ow(L:LA)(D:LD):LF L D L.ow:=.inl (mem_of_getElem? (i:=4) rfl)
theorem lf_co(L:LA)(D:LD):LF L D L.co:=.inl (mem_of_getElem? (i:=5) rfl)
theorem lf_no(L:LA)(D:LD):LF L D L.no:=.inl (mem_of_getElem? (i:=6) rfl)
theorem yI(L:LA)(D:LD):LF L D L.qu:=.inl (mem_of_getElem? (i:=7) rfl)
theorem jHQ:∀ {fs:List (Str×V)},¬ f∈fs.map (·.1)->l7 f v fs=fs++[(f,v)]
 | [],_=>rfl
 | (g,u)::r,h=>by
   have h1:¬ g=f:=fun e=>h (by rw [<- e];exact eD);show (if g=f then _ else (g,u)::l7 f v r)=_;rw [if_neg h1,jHQ fun m=>h (eG _ m)];rfl
structure IniL(cL x dx:Addr)(H0 H:Hp)(fs:List (Str×Addr)):Prop where
 o:H x=some (.ins cL dx (fs.map fun p=>(p.1,V.ref p.2)))
 d:∀ p∈fs,H p.2=some (.dK [])/\H0 p.2=none
 nd:(fs.map (·.2)).Nodup
 k:∀ b o,b≠x->H0 b=some o->H b=some o
theorem IniL.next{cL x dx:Addr}{H0 H:Hp}{fs:List (Str×Addr)}(I:IniL cL x dx H0 H fs){f:Str}{d:Addr}(nd:H d=none)(nf:¬ f∈fs.map (·.1)):IniL cL x dx H0 (upd (upd H d (.dK [])) x (.ins cL dx (l7 f (.ref d) (fs.map fun p=>(p.1,V.ref p.2))))) (fs++[(f,d)]):=by
 have nx:x≠d:=gM I.o nd;have h0:H0 d=none:=by
  cases e:H0 d with
  | none=>rfl
  | some u =>
    have:=I.k d u (symm nx) e;rw [nd] at this;cases this
 rw [jHQ (by rw [dU];exact nf)];refine⟨by rw [eO,eB];rfl,fun p hp=>?_,?_,fun b o nb e=>by rw [eJ nb,eJ (gM (I.k b o nb e) nd)];exact I.k b o nb e⟩
 ·rcases eN.mp hp with hp|hp
  ·have e:=(I.d p hp).1;rw [eJ (fN e I.o nofun),eJ (gM e nd)];exact⟨e,(I.d p hp).2⟩
  ·rw [mem_singleton.mp hp];refine⟨?_,h0⟩;show upd (upd H d _) x _ d=_;rw [eJ (symm nx),eO]
 ·rw [eB];refine iI.mpr ⟨I.nd,by simp,fun a ha b hb z=>?_⟩;obtain⟨p,hp,rfl⟩:=dR.mp ha;rw [eW,m5,mem_singleton] at hb;have e:=(I.d p hp).1;rw [z,hb,nd] at e;cases e
example jIu(cL:Addr):∀ x dx,vs=[.ref x]->H x=some (.ins cL dx [])->(∀ (L:LA) H',L.x=x->L.dx=dx->(∀ b o,b≠x->H b=some o->H' b=some o)->(∀ b∈L.ds,H b=none)->iC cL H' L ⟨[],[],[],[],[],[],[],[]⟩->Q .non H')->jIu cL:=0
example Dad:MkD 1 "Line" yX ["self"] (jIu yX):=by
 nomatch mkD T.e T.kc2 T.p24,["self"]
 obtain⟨x,dx,rfl,hx,q⟩:=h;exists _,(eE (kM (pv 0) tZ rfl) (eE (kM (pv 0) tZ rfl) (eE (kM (pv 0) tZ rfl) (eE (kM (pv 0) tZ rfl) (eE (kM (pv 0) tZ rfl) (eE (kM (pv 0) tZ rfl) (eE (kM (pv 0) tZ rfl) (eI (kM (pv 0) tZ rfl)))))))))
 have I0:IniL yX x dx H H []:=⟨hx,fun p h=>(by cases h),gR,fun _ _ _ e=>e⟩
 refine fun d1 n1=>⟨_,rfl,x,yX,dx,_,rfl,(by rw [eJ (gM I0.o n1)];exact I0.o),T.ae,T.ax,(by show 0<1000;decide),?_⟩
 have I1:=I0.next n1 (f:="ranks") (by show ¬ ("ranks":Str)∈([]:List Str);decide +kernel);generalize upd (upd _ d1 _) x _=H1 at I1 ⊢;refine fun d2 n2=>⟨_,rfl,x,yX,dx,_,rfl,(by rw [eJ (gM I1.o n2)];exact I1.o),T.ae,T.bq,(by show 1<1000;decide),?_⟩
 have I2:=I1.next n2 (f:="shares") (by show ¬ ("shares":Str)∈(["ranks"]:List Str);decide +kernel);generalize upd (upd _ d2 _) x _=H2 at I2 ⊢;refine fun d3 n3=>⟨_,rfl,x,yX,dx,_,rfl,(by rw [eJ (gM I2.o n3)];exact I2.o),T.ae,T.aC,(by show 2<1000;decide),?_⟩
 have I3:=I2.next n3 (f:="levels") (by show ¬ ("levels":Str)∈(["ranks","shares"]:List Str);decide +kernel);generalize upd (upd _ d3 _) x _=H3 at I3 ⊢;refine fun d4 n4=>⟨_,rfl,x,yX,dx,_,rfl,(by rw [eJ (gM I3.o n4)];exact I3.o),T.ae,T.bt,(by show 3<1000;decide),?_⟩
 have I4:=I3.next n4 (f:="marks") (by show ¬ ("marks":Str)∈(["ranks","shares","levels"]:List Str);decide +kernel);generalize upd (upd _ d4 _) x _=H4 at I4 ⊢;refine fun d5 n5=>⟨_,rfl,x,yX,dx,_,rfl,(by rw [eJ (gM I4.o n5)];exact I4.o),T.ae,T.ay,(by show 4<1000;decide),?_⟩
 have I5:=I4.next n5 (f:="owners") (by show ¬ ("owners":Str)∈(["ranks","shares","levels","marks"]:List Str);decide +kernel);generalize upd (upd _ d5 _) x _=H5 at I5 ⊢;refine fun d6 n6=>⟨_,rfl,x,yX,dx,_,rfl,(by rw [eJ (gM I5.o n6)];exact I5.o),T.ae,T.aS,(by show 5<1000;decide),?_⟩
 have I6:=I5.next n6 (f:="costs") (by show ¬ ("costs":Str)∈(["ranks","shares","levels","marks","owners"]:List Str);decide +kernel);generalize upd (upd _ d6 _) x _=H6 at I6 ⊢;refine fun d7 n7=>⟨_,rfl,x,yX,dx,_,rfl,(by rw [eJ (gM I6.o n7)];exact I6.o),T.ae,T.bu,(by show 6<1000;decide),?_⟩
 have I7:=I6.next n7 (f:="notes") (by show ¬ ("notes":Str)∈(["ranks","shares","levels","marks","owners","costs"]:List Str);decide +kernel);generalize upd (upd _ d7 _) x _=H7 at I7 ⊢;refine fun d8 n8=>⟨_,rfl,x,yX,dx,_,rfl,(by rw [eJ (gM I7.o n8)];exact I7.o),T.ae,T.az,(by show 7<1000;decide),?_⟩
 have I8:=I7.next n8 (f:="queue") (by show ¬ ("queue":Str)∈(["ranks","shares","levels","marks","owners","costs","notes"]:List Str);decide +kernel);generalize upd (upd _ d8 _) x _=H8 at I8 ⊢;have g:∀ b∈[d1,d2,d3,d4,d5,d6,d7,d8],H8 b=some (.dK [])/\H b=none:=fun b hb=>by
  obtain⟨p,hp,rfl⟩:=dR.mp (show b∈([("ranks",d1),("shares",d2),("levels",d3),("marks",d4),("owners",d5),("costs",d6),("notes",d7),("queue",d8)]:List (Str×Addr)).map (·.2) from hb);exact I8.d p hp
 refine q ⟨x,dx,d1,d2,d3,d4,d5,d6,d7,d8⟩ H8 rfl rfl I8.k (fun b hb=>(g b hb).2) ⟨I8.o,fun i a k hi hk=>?_,fun n h=>(by cases h),fun n h=>(by cases h),I8.nd,gR⟩;rw [List.eq_of_mem_replicate (show k∈gC 8 [] from mem_of_getElem? hk)];exact (g a (mem_of_getElem? hi)).1
structure LD.Z(D:LD):Prop where
 ra:D.ra.length<=1000
 sh:D.sh.length<=1000
 lv:D.lv.length<=1000
 ma:D.ma.length<=1000
 ow:D.ow.length<=1000
 co:D.co.length<=1000
 no:D.no.length<=1000
 qu:D.qu.length<=1000
 nn:∀ n∈D.no,n.2.2.length<=1000
theorem pT.set(h:pT L D H H')(f:LF L D a)(o:HO):pT L D H (upd H' a o):=fun b u nb e=>by
 rw [eJ (fun z=>nb (by rw [z];exact f))];exact h b u nb e
noncomputable def kys{κ α:Type}(l:List (κ×α)):List κ:=l.map (·.1)
example jEJ(cL:Addr):∀ (L:LA) (D:LD) (n:Str),vs=[.ref L.x,.str n]->iC cL H L D->n∈kys D.ra->Q .non H->jEJ cL:=0
example jEo:MtE 1 "must_know" yX ["self","asker"] (jEJ yX):=by
 nomatch i5 T.p31,["self","asker"]
 obtain⟨L,D,n,rfl,N,hn,q⟩:=h;exists _,(eI (iK (sR (jBQ hu (pv 1) (fH (pv 0) rfl))) (eI mV) iM))
 exists _,rfl,_,rfl,L.x,yX,L.dx,_,_,rfl,N.o,T.ae,T.ax,rfl,L.ra,_,rfl,lO jZ N.ra n,_,rfl;obtain⟨v,e⟩:=mO hn;rw [e];exact hV q
example jEK(cL:Addr):∀ (L:LA) (D:LD) (a:Addr) (ns:List Str),vs=[.ref L.x,.ref a]->iC cL H L D->H a=some (.lst (ns.map V.str))->(∀ n∈ns,n∈kys D.qu)->Q .non H->jEK cL:=0
example jEp:MtE 1 "must_wait" yX ["self","names"] (jEK yX):=by
 nomatch i5 T.p32,["self","names","name"]
 obtain⟨L,D,a,ns,rfl,N,ha,hq,q⟩:=h;exists _,(eI (nY PassesOwn.never rfl (oW (pv 1)) (pgA (i:=2) nZ) (eI (iK (sR (jBQ hu (pv 2) (fH (pv 0) rfl))) (eI mV) iM))))
 refine⟨_,rfl,a,rfl,⟨_,SqL.of ha⟩,vM (K:=K) (a:=a) (xs:=ns.map V.str) (fun i σ H'=>H'=H/\∃ v,σ=[some (.ref L.x),some (.ref a),v]) ⟨rfl,_,rfl⟩ (fun i σ H' _ z=>by rw [z.1];exact SqL.of ha) (fun i y σ H' hy z=>?_) (fun σ H' z=>?_)⟩
 ·obtain⟨rfl,v,rfl⟩:=z;obtain⟨n,hn,rfl⟩:=dR.mp (mem_of_getElem? hy);exists _,rfl,_,rfl,L.x,yX,L.dx,_,_,rfl,N.o,T.ae,T.az,rfl,L.qu,_,rfl,lO jZ N.qu n,_,rfl;obtain⟨v,e⟩:=mO (hq n hn);rw [e];exact hV ⟨rfl,_,rfl⟩
 ·obtain⟨rfl,v,rfl⟩:=z;exact q
example jIv(cL:Addr):∀ (L:LA) (D:LD) (r:Int),vs=[.ref L.x,.int r]->iC cL H L D->Q (.int ((gL D.ma r).getD 0)) H->jIv cL:=0
example jHh:MtE 1 "mark" yX ["self","rank"] (jIv yX):=by
 nomatch i5 T.p28,["self","rank"]
 obtain⟨L,D,r,rfl,N,q⟩:=h;exists _,(eI (gB (jEf hu (fH (pv 0) rfl) (pv 1) fY ⟨rfl,rfl,rfl,rfl⟩)))
 exists _,rfl,L.x,yX,L.dx,_,_,rfl,N.o,T.ae,T.bt,rfl,L.ma,rfl,.inl ⟨_,.inl N.ma⟩,_,rfl,_,lO jM4 N.ma r;cases e:gL D.ma r with
 | some v=>rw [e] at q;exact q
 | none=>rw [e] at q;exact q
example jFH(cL:Addr):∀ (L:LA) (D:LD),vs=[.ref L.x]->iC cL H L D->(∀ a,H a=none->Q (.ref a) (upd H a (.lst ((kys D.qu).map V.str))))->jFH cL:=0
example jDs:MtE 1 "waiting" yX ["self"] (jFH yX):=by
 nomatch i5 T.p27,["self"]
 obtain⟨L,D,rfl,N,q⟩:=h;exists _,(eI (gB (rG (jCe rfl) rfl T.ar jCu (dN (fH (pv 0) rfl) dZ))))
 refine⟨_,rfl,L.x,yX,L.dx,_,_,rfl,N.o,T.ae,T.az,rfl,L.qu,_,rfl,N.qu,fun a na=>?_⟩;have:=q a na;unfold kys at this;rw [dU] at this;unfold dG;rw [dU];exact this
example jDI(cL:Addr):∀ (L:LA) (D:LD) (n a:Str) (l c s:Int),vs=[.ref L.x,.str n,.int l]->iC cL H L D->gL D.co n=some c->gL D.ow n=some a->gL D.sh a=some s->0<s->s<=1000->Q (.int (l+c*(2520/s))) H->jDI cL:=0
example jF4:MtE 2 "level_behind" yX ["self","name","level"] (jDI yX):=by
 nomatch i5 T.p36,["self","name","level"]
 obtain⟨L,D,n,a,l,c,s,rfl,N,ec,eo,es,s0,s1,q⟩:=h;exists _,(eI (gB (jV (Dac T) hr.m rfl (dN (pv 2) (dN (dgA hu (fH (pv 0) rfl) (pv 1)) (dN (dgA hu (fH (pv 0) rfl) (dgA hu (fH (pv 0) rfl) (pv 1))) dZ))))))
 have gc:=lO jZ N.co n;rw [ec] at gc;have go:=lO jZ N.ow n;rw [eo] at go;have gs:=lO jZ N.sh a;rw [es] at gs;exact⟨_,rfl,_,rfl,L.x,yX,L.dx,_,_,rfl,N.o,T.ae,T.aS,rfl,_,rfl,L.co,_,rfl,gc,_,rfl,L.x,yX,L.dx,_,_,rfl,N.o,T.ae,T.bq,rfl,_,rfl,L.x,yX,L.dx,_,_,rfl,N.o,T.ae,T.ay,rfl,_,rfl,L.ow,_,rfl,go,L.sh,_,rfl,gs,l,c,s,rfl,s0,s1,q⟩
example jEL(cL:Addr):∀ (L:LA) (D:LD) (n m a b:Str) (r s:Int),vs=[.ref L.x,.str n,.str m]->H L.x=some (.ins cL L.dx (lnF L))->H L.ow=some (.dK (dG Sum.inr V.str D.ow))->H L.ra=some (.dK (dG Sum.inr V.int D.ra))->gL D.ow n=some a->gL D.ow m=some b->gL D.ra a=some r->gL D.ra b=some s->Q (.str (if a=b then "own" else if s<r then "rank" else "share")) H->jEL cL:=0
example jHR:MtE 1 "why_ahead" yX ["self","taken","name"] (jEL yX):=by
 nomatch i5 T.p39,["self","taken","name","first","second"]
 obtain⟨L,D,n,m,a,b,r,s,rfl,No,Nw,Nr,ea,eb,er,es,q⟩:=h;exists _,(eE (psA (i:=3) nZ (dgA hu (fH (pv 0) rfl) (pv 1))) (eE (psA (i:=4) nZ (dgA hu (fH (pv 0) rfl) (pv 2))) (eE (iK (tcA qL (pv 3) (pv 4)) (eI (gB (kE T.cD rfl))) iM) (eI (gB (zB (tcA jGQ (dgA hu (fH (pv 0) rfl) (pv 3)) (dgA hu (fH (pv 0) rfl) (pv 4))) (kE T.cE rfl) (kE T.cF rfl)))))))
 have ga:=lO jZ Nw n;rw [ea] at ga;have gb:=lO jZ Nw m;rw [eb] at gb;have gr:=lO jZ Nr a;rw [er] at gr;have gs:=lO jZ Nr b;rw [es] at gs;exists _,rfl,L.x,yX,L.dx,_,_,rfl,No,T.ae,T.ay,rfl,_,rfl,L.ow,_,rfl,ga;exists _,rfl,L.x,yX,L.dx,_,_,rfl,No,T.ae,T.ay,rfl,_,rfl,L.ow,_,rfl,gb;exists _,rfl,_,rfl,rfl,_,rfl;by_cases c:a=b
 ·subst c;rw [if_pos rfl] at q;exact rW rfl q
 rw [if_neg c] at q;refine rY (fun z=>c (by injection z)) ⟨_,rfl,L.x,yX,L.dx,_,_,rfl,No,T.ae,T.ax,rfl,_,rfl,L.ra,_,rfl,gr,_,rfl,L.x,yX,L.dx,_,_,rfl,No,T.ae,T.ax,rfl,_,rfl,L.ra,_,rfl,gs,_,_,rfl,rfl,_,rfl,?_⟩;by_cases c2:s<r
 ·rw [if_pos c2] at q;exact rW c2 q
 ·rw [if_neg c2] at q;exact rY c2 q
noncomputable def zL(D:LD)(a:Str):Bool:=(kys D.qu).any fun n=>decide ((gL D.ow n).getD ""=a)
example jDT(cL:Addr):∀ (L:LA) (D:LD) (a:Str),vs=[.ref L.x,.str a]->iC cL H L D->D.qu.length<=1000->(∀ n∈kys D.qu,n∈kys D.ow)->(∀ H',eR H H'->Q (.bl (zL D a)) H')->jDT cL:=0
example jGr:MtE 1 "has_waiting" yX ["self","asker"] (jDT yX):=by
 nomatch i5 T.p33,["self","asker"]
 obtain⟨L,D,a,rfl,N,l1,qo,q⟩:=h;exists _,(eI (gB (jIi (nK (jPT rfl) rfl T.bZ bt_any (dN (rX (frees:=[ ("asker",1) ,("self",0) ]) ⟨by decide +kernel,rfl,rfl,by decide +kernel,⟨⟨rfl,rfl,rfl,by decide +kernel⟩,⟨⟨rfl,rfl,rfl,by decide +kernel⟩,trivial⟩⟩,by decide +kernel,oX rfl,rfl⟩ rfl (y3 (fH (pv 0) rfl)) (fun _ _ _ _=>vT) (fun _ _ _ _=>by exact (ecA qL (dgA hu (jGU (K:=K) rfl (pv 2) rfl) (pv 0)) (pv 1)))) dZ)))))
 refine⟨L.qu,_,N.qu,fun o=>?_⟩;have k1:∀ b u,b≠L.qu->H b=some u->upd H L.qu (.frz o (.dK (dG Sum.inr lN D.qu))) b=some u:=fun b u nb e=>by rw [eJ nb];exact e
 have wS:=k1 _ _ (fN N.o N.qu nofun) N.o;have ho1:=k1 _ _ (kP N.nd (i:=4) (j:=7) rfl rfl (by decide)) N.ow;have hq1:upd H L.qu (.frz o (.dK (dG Sum.inr lN D.qu))) L.qu=some (.frz o (.dK (dG Sum.inr lN D.qu))):=eO;generalize upd H L.qu (.frz o (.dK (dG Sum.inr lN D.qu)))=H1 at k1 wS ho1 hq1 ⊢;have ek:(dG Sum.inr lN D.qu).map (fun p=>kV p.1)=(kys D.qu).map V.str:=by
  unfold dG kys;rw [dU,dU];rfl
 exists _,rfl,L.x,yX,L.dx,_,_,rfl,wS,T.ae,T.az,rfl,L.qu,o,_,rfl,hq1;refine zC (zA hq1) (fun _=>true) (fun v=>match v with|.str n=>.bl (decide (V.str ((gL D.ow n).getD "")=V.str a))|_=>.non) (by rw [c7,jDd];exact kZ l1) (fun x _ H' R _ rr=>rr) (fun v hv H' R s2 _ rr=>?_) (fun C H' s2 nC hC=>?_)
 ·rw [ek] at hv;obtain⟨n,hn,rfl⟩:=dR.mp hv;obtain⟨w',ew⟩:=mO (qo n hn);have g:=lO jZ (s2 _ _ ho1) n;rw [ew] at g;have rr':R (.bl (decide (V.str w'=V.str a))) H':=by
   have:=rr;simp only [ew,pB] at this;exact this
  exact⟨_,rfl,L.x,yX,L.dx,_,_,rfl,(s2 _ _ wS),T.ae,T.ay,rfl,_,rfl,L.ow,_,rfl,g,_,rfl,rfl,rr'⟩
 ·rw [fW.mpr (fun _ _=>rfl),ek,dU] at hC;have eb:((kys D.qu).map fun n=>decide (V.str ((gL D.ow n).getD "")=V.str a)).any id=zL D a:=by
   unfold zL;rw [any_map];refine congrArg (fun p=>(kys D.qu).any p) (funext fun n=>?_);show decide (V.str ((gL D.ow n).getD "")=V.str a)=_;by_cases c:(gL D.ow n).getD ""=a
   ·rw [decide_eq_true c,decide_eq_true (congrArg V.str c)]
   ·rw [decide_eq_false c,decide_eq_false (fun z=>c (by injection z))]
  refine⟨C,(kys D.qu).map fun n=>decide (V.str ((gL D.ow n).getD "")=V.str a),rfl,SqL.of (by rw [hC,dU];rfl),s2 _ _ hq1,?_⟩;rw [eb];refine q _ fun b u e=>?_;by_cases c:b=L.qu
  ·subst c;rw [eO,<- N.qu];exact e
  ·rw [eJ c];exact s2 _ _ (k1 _ _ c e)
example jIw(_:PySem.W.Frag):∀ (a:Addr) (ns:List Str),vs=[.ref a]->H a=some (.lst (ns.map V.str))->ns.Nodup->ns.length<=1000->(∀ d H',eR H H'->H d=none->H' d=some (.dK (dG Sum.inr lN (ns.map fun n=>(n,()))))->Q (.ref d) H')->jIw _:=0
example jJ2:Dfn 1 "as_keys" ["names"] (jIw K):=by
 nomatch mJ T.e T.p23,["names"]
 obtain⟨a,ns,rfl,ha,nd,l1,q⟩:=h;exists _,(eI (gB (rG (jB5 rfl) rfl T.av jCO (dN (rX (frees:=[]) ⟨by decide +kernel,rfl,rfl,by decide +kernel,trivial,by decide +kernel,oX rfl,rfl⟩ rfl (oW (pv 0)) (fun _ _ _ _=>vT) (fun _ _ _ _=>by exact (nL (dN (pv 0) (dN o8 dZ))))) dZ))))
 have z2:2<=dL:=small (by decide);exists _,rfl,a,rfl,⟨_,SqL.of ha⟩
 refine jCk (vR (K:=K) (SqL.of ha)) (fun n y H'=>∃ t,y=.ref t/\H' t=some (.tup [n,.bl true])) (by rw [c7];exact kZ l1) (fun x _ H' R _ rr=>rr) (fun n _ H' R _ rr=>⟨_,rfl,z2,fun t nt=>rr _ _ (iS nt _) ⟨fun z=>z=t,fun b hb=>by subst hb;exact⟨nt,_,eO⟩,fun H3 h3=>⟨t,rfl,by rw [h3 t rfl];exact eO⟩⟩⟩) (fun C H2 ys s2 nC hC ly gy=>?_);refine⟨C,ys,dG Sum.inr lN (ns.map fun n=>(n,())),rfl,hC,by rw [ly,jDd,c7,c7],fun i y kv e1 e2=>?_,?_,fun m nm=>?_⟩
 ·unfold dG at e2;rw [dU,getElem?_map] at e2;obtain⟨n,en,rfl⟩:=dW.mp e2;obtain⟨t,rfl,ht⟩:=gy i (.str n) y (by rw [getElem?_map,en];rfl) e1;exact⟨t,rfl,SqT.of ht⟩
 ·unfold dG;rw [dU,dU];exact Pairwise.map _ (fun x y (hxy:x≠y) z=>hxy (by injection z)) nd
 ·exact q m _ (s2.trans (iS nm _)) (by
   cases e:H m with
   | none=>rfl
   | some u=>rw [s2 _ _ e] at nm;cases nm) eO
example jEM(cL:Addr):∀ (L:LA) (D:LD) (n:Str) (r s:Int),vs=[.ref L.x,.str n,.int r,.int s]->iC cL H L D->D.Z->(¬ n∈kys D.ra)->(∀ H',pT L D H H'->iC cL H' L { D with ra:=hJ D.ra n r,sh:=hJ D.sh n s,lv:=hJ D.lv n 0 }->Q .non H')->jEM cL:=0
example jHS:MtE 1 "add_asker" yX ["self","name","rank","share"] (jEM yX):=by
 nomatch i5 T.p25,["self","name","rank","share"]
 obtain⟨L,D,n,r,s,rfl,N,Z,hn,q2⟩:=h;exists _,(eE (iK (sR (xX hu (pv 1) (fH (pv 0) rfl))) (eI mV) iM) (eE (tH hu (fH (pv 0) rfl) (pv 1) (pv 2) rfl) (eE (tH hu (fH (pv 0) rfl) (pv 1) (pv 3) rfl) (eI (tH hu (fH (pv 0) rfl) (pv 1) fY rfl)))))
 exists _,rfl,_,rfl,L.x,yX,L.dx,_,_,rfl,N.o,T.ae,T.ax,rfl,L.ra,_,rfl,lO jZ N.ra n,_,rfl;rw [jB_.mpr hn];have N1:=N.set_ra (hJ D.ra n r);have N2:=N1.set_sh (hJ D.sh n s);have N3:=N2.set_lv (hJ D.lv n 0);refine hV ⟨_,rfl,_,rfl,L.x,yX,L.dx,_,_,rfl,N.o,T.ae,T.ax,rfl,_,rfl,L.ra,_,rfl,vP jZ N.ra Z.ra n r,?_⟩;exists _,rfl,_,rfl,L.x,yX,L.dx,_,_,rfl,N1.o,T.ae,T.bq,rfl,_,rfl,L.sh,_,rfl,vP jZ N1.sh Z.sh n s;exists _,rfl,L.x,yX,L.dx,_,_,rfl,N2.o,T.ae,T.aC,rfl,_,rfl,L.lv,_,rfl,vP jZ N2.lv Z.lv n 0;exact q2 _ ((((pT.refl L D H).set (lf_ra L D) _).set (lf_sh L D) _).set (yL L D) _) N3
theorem iC.new_no(N:iC cL H L D)(nt:H t=none)(nn:¬ n∈kys D.no):iC cL (upd (upd H t (.lst [])) L.no (.dK (dG Sum.inr noV (hJ D.no n (t,[]))))) L { D with no:=hJ D.no n (t,[]) }:=by
 have N1:=N.same (iS nt (.lst []));have eu:hJ D.no n (t,[])=D.no++[(n,(t,[]))]:=jE8 nn;have mm:∀ p∈hJ D.no n (t,[]),p∈D.no\/p=(n,(t,[])):=fun p hp=>by
  grind
 refine N1.put 6 rfl rfl (fun p hp=>?_) (fun p hp u hu=>?_) ?_
 ·rcases mm p hp with hp|rfl
  ·exact N1.nl p hp
  ·exact eO
 ·rcases mm p hp with hp|rfl
  ·exact N1.nt p hp u hu
  ·cases hu
 ·show ((hJ D.no n (t,[])).map (·.2.1)).Nodup;rw [eu,eB];refine iI.mpr ⟨N.nn,by simp,fun a ha b hb z=>?_⟩;obtain⟨p,hp,rfl⟩:=dR.mp ha;rw [eW,m5,mem_singleton] at hb;exact gM (N.nl p hp) nt (z.trans hb)
theorem via{G:Prop}(K P:Hp->Prop)(m:(∀ H,P H->K H)->G)(f:∀ H,P H->K H):G:=m f
noncomputable def vV(D:LD)(a:Str)(l r:Int):List (Str×Int):=if zL D a=true then D.lv else hJ D.lv a (max l ((gL D.ma r).getD 0))
example jJ3(cL:Addr):∀ (L:LA) (D:LD) (n a:Str) (c l r:Int),vs=[.ref L.x,.str n,.str a,.int c]->iC cL H L D->D.Z->(∀ n∈kys D.qu,n∈kys D.ow)->a∈kys D.ra->(¬ n∈kys D.ow)->gL D.lv a=some l->gL D.ra a=some r->(¬ n∈kys D.no)->(∀ H' t,pT L D H H'->H t=none->iC cL H' L { D with lv:=vV D a l r,ow:=hJ D.ow n a,co:=hJ D.co n c,no:=hJ D.no n (t,[]),qu:=hJ D.qu n () }->Q .non H')->jJ3 cL:=0
example jNT:MtE 2 "lay" yX ["self","name","asker","cost"] (jJ3 yX):=by
 nomatch i5 T.p26,["self","name","asker","cost"]
 obtain⟨L,D,n,a,c,l,r,rfl,N,Z,qo,ha,hn,el,er,nno,q⟩:=h;exists _,(eE (jU (iX 1 gA hr.m (pv 0) (dN (pv 2) dZ))) (eE (iK (sR (xX hu (pv 1) (fH (pv 0) rfl))) (eI mV) iM) (eE (iK (qM (mD (iX 1 gA hr.m (pv 0) (dN (pv 2) dZ)) (fun _=>rfl))) (eI (tH hu (fH (pv 0) rfl) (pv 2) (jV (jLs T) hr.m rfl (dN (dgA hu (fH (pv 0) rfl) (pv 2)) (dN (iX 1 gA hr.m (pv 0) (dN (dgA hu (fH (pv 0) rfl) (pv 2)) dZ)) dZ))) rfl)) iM) (eE (tH hu (fH (pv 0) rfl) (pv 1) (pv 2) rfl) (eE (tH hu (fH (pv 0) rfl) (pv 1) (pv 3) rfl) (eE (tH hu (fH (pv 0) rfl) (pv 1) (oQ dZ) rfl) (eI (tH hu (fH (pv 0) rfl) (pv 1) o8 rfl))))))))
 exists _,rfl,L.x,_,L.dx,_,_,_,rfl,N.o,rfl,T.ae,(jEo T),_,rfl,L,D,a,rfl,N,ha;exists _,rfl,_,rfl,L.x,yX,L.dx,_,_,rfl,N.o,T.ae,T.ay,rfl,L.ow,_,rfl,lO jZ N.ow n,_,rfl;rw [jB_.mpr hn];refine hV ⟨_,rfl,L.x,_,L.dx,_,_,_,rfl,N.o,rfl,T.ae,(jGr T),_,rfl,L,D,a,rfl,N,Z.qu,qo,fun H1 s1=>⟨_,rfl,?_⟩⟩;have N1:=N.same s1;have w1:∀ t,H1 t=none->H t=none:=fun t ht=>by
  cases e:H t with
  | none=>rfl
  | some u=>rw [s1 _ _ e] at ht;cases ht
 refine' via _ (fun H2=>iC yX H2 L { D with lv:=vV D a l r }/\pT L D H H2/\∀ t,H2 t=none->H t=none) (fun fin=>?_) fun H2 ⟨N2,o2,w2⟩=>?_;rotate_left
 ·cases hw:zL D a with
  | false =>
    have N2:iC yX (upd H1 L.lv (.dK (dG Sum.inr V.int (vV D a l r)))) L { D with lv:=vV D a l r }:=N1.set_lv _;have ev:vV D a l r=hJ D.lv a (max l ((gL D.ma r).getD 0)):=by unfold vV;rw [if_neg (by rw [hw];decide)]
    have gl:=lO jZ N1.lv a;rw [el] at gl;have gr:=lO jZ N1.ra a;rw [er] at gr;have o2:pT L D H (upd H1 L.lv (.dK (dG Sum.inr V.int (vV D a l r)))):=(eR.offL s1).set (yL L D) _;have w2:∀ t,upd H1 L.lv (.dK (dG Sum.inr V.int (vV D a l r))) t=none->H t=none:=fun t ht=>by
     by_cases c1:t=L.lv
     ·rw [c1,eO] at ht;cases ht
     rw [eJ c1] at ht;exact w1 t ht
    have dp:=vP jZ N1.lv Z.lv a (max l ((gL D.ma r).getD 0));rw [<- ev] at dp;refine kL ⟨_,rfl,L.x,yX,L.dx,_,_,rfl,N1.o,T.ae,T.aC,rfl,_,rfl,L.lv,_,rfl,gl,?_⟩;exists _,rfl,L.x,_,L.dx,_,_,_,rfl,N1.o,rfl,T.ae,(jHh T),_,rfl,L.x,yX,L.dx,_,_,rfl,N1.o,T.ae,T.ax,rfl,_,rfl,L.ra,_,rfl,gr,L,D,r,rfl,N1,_,_,rfl;exists _,rfl,L.x,yX,L.dx,_,_,rfl,N1.o,T.ae,T.aC,rfl,_,rfl,L.lv,_,rfl,dp;generalize upd H1 L.lv (.dK (dG Sum.inr V.int (vV D a l r)))=H2 at N2 o2 w2 ⊢;exact fin H2 ⟨N2,o2,w2⟩
  | true=>exact hV (fin H1 ⟨by unfold vV;rw [if_pos hw];exact N1,eR.offL s1,w1⟩)
 ·have N3:=N2.set_ow (hJ D.ow n a);have N4:=N3.set_co (hJ D.co n c);exists _,rfl,_,rfl,L.x,yX,L.dx,_,_,rfl,N2.o,T.ae,T.ay,rfl,_,rfl,L.ow,_,rfl,vP jZ N2.ow Z.ow n a;exists _,rfl,_,rfl,L.x,yX,L.dx,_,_,rfl,N3.o,T.ae,T.aS,rfl,_,rfl,L.co,_,rfl,vP jZ N3.co Z.co n c;have o4:=(o2.set (lf_ow L D) (.dK (dG Sum.inr V.str (hJ D.ow n a)))).set (lf_co L D) (.dK (dG Sum.inr V.int (hJ D.co n c)));have w4:∀ t,upd (upd H2 L.ow (.dK (dG Sum.inr V.str (hJ D.ow n a)))) L.co (.dK (dG Sum.inr V.int (hJ D.co n c))) t=none->H t=none:=fun t ht=>by
   by_cases c1:t=L.co
   ·rw [c1,eO] at ht;cases ht
   rw [eJ c1] at ht;by_cases c2:t=L.ow
   ·rw [c2,eO] at ht;cases ht
   rw [eJ c2] at ht;exact w2 t ht
  generalize upd (upd H2 L.ow (.dK (dG Sum.inr V.str (hJ D.ow n a)))) L.co (.dK (dG Sum.inr V.int (hJ D.co n c)))=H4 at o4 w4 N4 ⊢;refine⟨small (d9 _),fun t nt=>⟨_,rfl,L.x,yX,L.dx,_,_,rfl,(N4.same (iS nt (.lst []))).o,T.ae,T.bu,rfl,_,rfl,L.no,_,rfl,vP jZ (N4.same (iS nt (.lst []))).no Z.no n (t,[]),?_⟩⟩;have N5:=N4.new_no nt nno;exists _,rfl,L.x,yX,L.dx,_,_,rfl,N5.o,T.ae,T.az,rfl,_,rfl,L.qu,_,rfl,vP jZ N5.qu Z.qu n ();refine q _ t ?_ (w4 t nt) (N5.set_qu (hJ D.qu n ()));refine pT.set (pT.set ?_ (lf_no L D) _) (yI L D) _;exact fun b u nb e=>by rw [eJ (gM (o4 b u nb e) nt)];exact o4 b u nb e
theorem jFB{J:It}{B:Hp}{xs:List V}(S:Seq J B xs){g:TG}{tb:TS}{D:sQ}{σ:St}{H:Hp}(Pv:Nat->St->Hp->Prop)(h0:Pv 0 σ H)(hk:∀ i σ H,Pv i σ H->eR B H)
 (hs:∀ i x σ H,xs[i]?=some x->Pv i σ H->g x σ H fun σ2 H2=>tb { D with nx:=Pv (i+1),ct:=Pv (i+1),bk:=D.nx } σ2 H2) (hd:∀ σ H,Pv xs.length σ H->D.nx σ H) :
 ∃ W:Nat->Nat->St->Hp->Prop,(∃ m,W 0 m σ H)/\∀ i m σ H,W i m σ H ->
  (J.stop i H/\D.nx σ H)\/(J.go i H/\∃ N:St->Hp->Prop,(∀ σ' H',N σ' H'->∃ m',m'<m/\W (i+1) m' σ' H')/\∀ x H',J.yld i H x H'->g x σ H' fun σ2 H2=>tb { D with nx:=N,ct:=N,bk:=D.nx } σ2 H2):=by
 exists fun i m σ H=>m=xs.length-i/\i<=xs.length/\Pv i σ H,⟨xs.length,by simp,d9 _,h0⟩
 rintro i m σ H ⟨rfl,hi,p⟩;have q:=hk i σ H p;by_cases j2:i<xs.length
 ·refine .inr ⟨S.go i H q j2,Pv (i+1),fun σ' H' p'=>⟨xs.length-(i+1),by omega,rfl,j2,p'⟩,fun x H' y=>?_⟩;obtain⟨e,hx⟩:=S.yld i H x H' q j2 y;subst e;exact hs i x σ H' hx p
 ·have e:i=xs.length:=by omega
  subst e;exact .inl ⟨S.stop H q,hd σ H p⟩
theorem jLt(h:H d=some o):eR (upd (fun _=>none) d o) H:=fun b u e=>by
 by_cases c:b=d
 ·subst c;rw [eO] at e;rw [h,e]
 ·rw [eJ c] at e;cases e
theorem jEN(hd:H d=some u)(k:∀ b o,b≠d->H b=some o->H' b=some o):eR H (upd H' d u):=fun b o e=>by
 by_cases c:b=d
 ·subst c;rw [eO,<- hd];exact e
 ·rw [eJ c];exact k b o c e
theorem jEO(s:eR H H')(h:H' t=none):H t=none:=by
 cases e:H t with
 | none=>rfl
 | some u=>rw [s _ _ e] at h;cases h
theorem jKA:(dG Sum.inr f l).map (fun p=>kV p.1)=(kys l).map V.str:=by
 unfold dG kys;rw [dU,dU];rfl
noncomputable def rV(D:LD)(n:Str):Str:=(gL D.ow n).getD ""
noncomputable def o7(D:LD)(able:List Str)(l:List (Str×Str))(n:Str):List (Str×Str):=if n∈able then (if rV D n∈kys l then l else l++[(rV D n,n)]) else l
noncomputable def jCP(D:LD)(able:List Str):List (Str×Str):=(kys D.qu).foldl (o7 D able) []
theorem jO8:(o7 D able l n).length<=l.length+1:=by
 unfold o7
 grind
theorem jJ4:∀ (ns:List Str) (l:List (Str×Str)),(ns.foldl (o7 D able) l).length<=l.length+ns.length
 | [],l=>Nat.le_refl _
 | n::r,l=>by
   have a:=jJ4 (D:=D) (able:=able) r (o7 D able l n);have b:=jO8 (D:=D) (able:=able) (l:=l) (n:=n)
   grind
example jEP(cL:Addr):∀ (L:LA) (D:LD) (a:Addr) (able:List Str),vs=[.ref L.x,.ref a]->iC cL H L D->D.Z->H a=some (.lst (able.map V.str))->able.Nodup->able.length<=1000->(∀ n∈kys D.qu,n∈kys D.ow)->(∀ d H',eR H H'->H d=none->H' d=some (.dK (dG Sum.inr V.str (jCP D able)))->Q (.ref d) H')->jEP cL:=0
example jHT:MtE 2 "firsts_of" yX ["self","able"] (jEP yX):=by
 nomatch i5 T.p35,["self","able","told","firsts","name"]
 obtain⟨L,D,a,able,rfl,N,Z,ha,nd,l1,qo,q⟩:=h;exists _,(eE (psA (i:=2) nZ (jV (jJ2 T) hr.m rfl (dN (pv 1) dZ))) (eE (psA (i:=3) nZ tZ) (eE (jDa (nY PassesOwn.never rfl (y3 (fH (pv 0) rfl)) (pgA (i:=4) nZ) (eI (iK (sR (xX hu (pv 4) (pv 2))) (eI (jU (qV gX PySem.F.slot_dict_setdefault PySem.F.type_dict_setdefault jKg (pv 3) (dN (dgA hu (fH (pv 0) rfl) (pv 4)) (dN (pv 4) dZ))))) iM)))) (eI (gB (pv 3))))))
 refine⟨_,rfl,a,able,rfl,ha,nd,l1,fun td H1 s1 ntd htd=>fun fd nfd=>?_⟩;have s2:=s1.trans (iS nfd (.dK []));have htd2:=iS nfd (.dK []) _ _ htd;have hfd2:upd H1 fd (.dK []) fd=some (.dK []):=eO;have n0:=jEO s1 nfd;generalize upd H1 fd (.dK [])=H2 at s2 htd2 hfd2 ⊢;have N2:=N.same s2;refine⟨L.qu,_,N2.qu,fun o=>?_⟩;have k3:∀ b u,b≠L.qu->H2 b=some u->upd H2 L.qu (.frz o (.dK (dG Sum.inr lN D.qu))) b=some u:=fun b u nb e=>by rw [eJ nb];exact e
 have hq3:upd H2 L.qu (.frz o (.dK (dG Sum.inr lN D.qu))) L.qu=some (.frz o (.dK (dG Sum.inr lN D.qu))):=eO;have fq:fd≠L.qu:=symm (gM N.qu n0);have fx:L.x≠fd:=gM N.o n0;have fo:L.ow≠fd:=gM N.ow n0;have ft:td≠fd:=gM htd nfd;have tq:td≠L.qu:=symm (gM N.qu ntd);have hx3:=k3 _ _ (fN N2.o N2.qu nofun) N2.o;have ho3:=k3 _ _ (kP N.nd (i:=4) (j:=7) rfl rfl (by decide)) N2.ow;have vX:=k3 _ _ tq htd2;have hf3:=k3 _ _ fq hfd2;generalize upd H2 L.qu (.frz o (.dK (dG Sum.inr lN D.qu)))=H3 at k3 hq3 hx3 ho3 vX hf3 ⊢;exists _,rfl,L.x,yX,L.dx,_,_,rfl,hx3,T.ae,T.az,rfl,L.qu,o,_,rfl,hq3;refine jFB (zA (H1:=upd (fun _=>none) L.qu (.frz o (.dK (dG Sum.inr lN D.qu)))) eO) (fun i σ G=>(∃ v4,σ=[some (.ref L.x),some (.ref a),some (.ref td),some (.ref fd),v4])/\G fd=some (.dK (dG Sum.inr V.str (((kys D.qu).take i).foldl (o7 D able) [])))/\∀ b u,b≠fd->H3 b=some u->G b=some u) ⟨⟨_,rfl⟩,hf3,fun b u _ e=>e⟩ (fun i σ G z=>?_) (fun i y σ G hy z=>?_) (fun σ G z=>?_)
 ·exact jLt (z.2.2 _ _ (symm fq) hq3)
 ·obtain⟨⟨v4,rfl⟩,hf,kp⟩:=z;rw [jKA,getElem?_map] at hy;obtain⟨n,en,rfl⟩:=dW.mp hy;have et:(kys D.qu).take (i+1)=(kys D.qu).take i++[n]:=by rw [fZ,en];rfl
  have li:i<D.qu.length:=by have:=(List.getElem?_eq_some_iff.mp en).1;unfold kys at this;rw [c7] at this;exact this
  have ll:(((kys D.qu).take i).foldl (o7 D able) []).length<1000:=by
   have a1:=jJ4 (D:=D) (able:=able) ((kys D.qu).take i) [];have a2:((kys D.qu).take i).length<=i:=by rw [gD];exact Nat.min_le_left _ _
   have a3:=Z.qu;rw [j6] at a1;omega
  have nx:∀ (v4:Option V) (G':Hp) (l:List (Str×Str)),G' fd=some (.dK (dG Sum.inr V.str l))->l=o7 D able (((kys D.qu).take i).foldl (o7 D able) []) n->(∀ b u,b≠fd->G b=some u->G' b=some u)->((∃ v4,[some (V.ref L.x),some (.ref a),some (.ref td),some (.ref fd),some (.str n)]=[some (V.ref L.x),some (.ref a),some (.ref td),some (.ref fd),v4])/\G' fd=some (.dK (dG Sum.inr V.str (((kys D.qu).take (i+1)).foldl (o7 D able) [])))/\∀ b u,b≠fd->H3 b=some u->G' b=some u):=fun v4 G' l e1 e2 kk=>⟨⟨_,rfl⟩,by rw [et,lJ];show G' fd=some (HO.dK (dG Sum.inr V.str (o7 D able _ n)));rw [e1,e2],fun b u nb e=>kk b u nb (kp b u nb e)⟩
  generalize hF:((kys D.qu).take i).foldl (o7 D able) []=F0 at hf ll nx;exists _,rfl,_,rfl,td,_,rfl,lO jZ (kp _ _ ft vX) n,_,rfl;cases et2:gL (able.map fun n=>(n,())) n with
  | none =>
    have na:¬ n∈able:=fun z=>jB_.mp et2 (by rw [dU];exact dR.mpr ⟨n,z,rfl⟩);exact hV (nx none G F0 hf (by unfold o7;rw [if_neg na]) fun b u _ e=>e)
  | some u0 =>
    have na:n∈able:=by
     have:=yT et2;rw [dU] at this;obtain⟨m,hm,e⟩:=dR.mp this;rw [<- e];exact hm
    obtain⟨w',ew⟩:=mO (qo n (mem_of_getElem? en));have g:=lO jZ (kp _ _ fo ho3) n;rw [ew] at g;have eo:rV D n=w':=by unfold rV;rw [ew];rfl
    refine kL ⟨_,rfl,.inr (.inr (.inl ⟨rfl,.inl ⟨_,hf⟩⟩)),_,rfl,L.x,yX,L.dx,_,_,rfl,(kp _ _ fx hx3),T.ae,T.ay,rfl,_,rfl,L.ow,_,rfl,g,_,rfl,fd,_,Sum.inr w',_,rfl,rfl,hf,by rw [jDd];exact ll,fun u eu=>?_,fun eu=>?_⟩
    ·rw [jEm jZ] at eu;cases ef:gL F0 w' with
     | none=>rw [ef] at eu;cases eu
     | some z =>
       exact nx none G F0 hf (by unfold o7;rw [if_pos na,eo,if_pos (show w'∈kys F0 from yT ef)]) fun b u _ e=>e
    ·rw [jEm jZ] at eu;cases ef:gL F0 w' with
     | some z=>rw [ef] at eu;cases eu
     | none =>
       exact nx none _ (F0++[(w',n)]) (by rw [eO];unfold dG;rw [eB];rfl) (by unfold o7;rw [if_pos na,eo,if_neg (show ¬ w'∈kys F0 from jB_.mp ef)]) fun b u nb e=>by rw [eJ nb];exact e
 ·obtain⟨⟨v4,rfl⟩,hf,kp⟩:=z;rw [jKA,c7,h9] at hf;refine⟨kp _ _ (symm fq) hq3,_,rfl,q fd _ (jEN N.qu fun b o nb e=>?_) n0 (by rw [eJ fq];exact hf)⟩;exact kp b o (gM e n0) (k3 b o nb (s2 b o e))
noncomputable def jJt(D:LD)(able:List Str):Str:=((jCP D able).headD ("","")).2
theorem jM5:∀ (ns:List Str) (l:List (Str×Str)),(∀ p∈l,p.2∈able/\p.1=rV D p.2)->(kys l).Nodup->(∀ p∈ns.foldl (o7 D able) l,(p.2∈able/\p.1=rV D p.2)/\(p∈l\/p.2∈ns))/\(kys (ns.foldl (o7 D able) l)).Nodup
 | [],l,h,nd=>⟨fun p hp=>⟨h p hp,.inl hp⟩,nd⟩
 | n::r,l,h,nd=>by
   rw [nG];have st:(∀ p∈o7 D able l n,(p.2∈able/\p.1=rV D p.2)/\(p∈l\/p.2=n))/\(kys (o7 D able l n)).Nodup:=by
    unfold o7;by_cases c:n∈able
    ·rw [if_pos c];by_cases c2:rV D n∈kys l
     ·rw [if_pos c2];exact⟨fun p hp=>⟨h p hp,.inl hp⟩,nd⟩
     ·rw [if_neg c2];exists fun p hp=>?_
      ·rcases eN.mp hp with hp|hp
       ·exact⟨h p hp,.inl hp⟩
       ·rw [mem_singleton.mp hp];exact⟨⟨c,rfl⟩,.inr rfl⟩
      ·unfold kys;rw [eB];refine iI.mpr ⟨nd,by simp,fun a ha b hb z=>c2 ?_⟩;rw [eW,m5,mem_singleton] at hb;rw [show rV D n=a from (z.trans hb).symm];exact ha
    ·rw [if_neg c];exact⟨fun p hp=>⟨h p hp,.inl hp⟩,nd⟩
   have ih:=jM5 r (o7 D able l n) (fun p hp=>(st.1 p hp).1) st.2;refine⟨fun p hp=>⟨(ih.1 p hp).1,?_⟩,ih.2⟩;rcases (ih.1 p hp).2 with h1|h1
   ·rcases (st.1 p h1).2 with h2|h2
    ·exact .inl h2
    ·exact .inr (by rw [h2];exact eD)
   ·exact .inr (eG _ h1)
theorem jGs(D:LD)(able:List Str):(∀ p∈jCP D able,p.2∈able/\p.1=rV D p.2/\p.2∈kys D.qu)/\(kys (jCP D able)).Nodup:=by
 have:=jM5 (D:=D) (able:=able) (kys D.qu) [] (fun p hp=>(by cases hp)) gR;exact⟨fun p hp=>⟨(this.1 p hp).1.1,(this.1 p hp).1.2,(this.1 p hp).2.elim (fun z=>by cases z) id⟩,this.2⟩
example jGt(cL tP:Addr):∀ (L:LA) (D:LD) (a lva:Addr) (able:List Str) (lv:List (Str×Int)),vs=[.ref L.x,.ref a,.ref lva]->iC cL H L D->D.Z->H a=some (.lst (able.map V.str))->able.Nodup->able.length<=1000->(∀ n∈kys D.qu,n∈kys D.ow)->H lva=some (.dK (dG Sum.inr V.int lv))->(∀ p∈D.ow,p.2∈kys D.ra/\p.2∈kys lv)->(jCP D able).length=1->tW H tP->(∀ H',vJ tP H H'->tW H' tP->Q (.str (jJt D able)) H')->jGt cL tP:=0
example jKr:MtE 3 "chosen" yX ["self","able","levels"] (jGt yX dJ):=by
 nomatch i5 T.p34,["self","able","levels","firsts","askers","rows"]
 obtain⟨L,D,a,lva,able,lv,rfl,N,Z,ha,nd,l1,qo,hlv,ok,l0,ht,q⟩:=h;exists _,(eE (psA (i:=3) nZ (iX 2 gA hr.m (pv 0) (dN (pv 1) dZ))) (eE (psA (i:=4) nZ (rG (jCe rfl) rfl T.ar jCu (dN (pv 3) dZ))) (eE (jD3 (i:=5) (frees:=[ ("levels",2) ,("self",0) ]) ⟨by decide +kernel,rfl,rfl,by decide +kernel,⟨⟨rfl,rfl,rfl,by decide +kernel⟩,⟨⟨rfl,rfl,rfl,by decide +kernel⟩,trivial⟩⟩,by decide +kernel,oX rfl,rfl⟩ nZ rfl rfl rfl (oW (pv 4)) (fun _ _ _ _=>vT) (fun _ _ _ _=>by exact (nL (dN (dgA hu (jGU (K:=K) rfl (pv 2) rfl) (pv 0)) (dN (dgA hu (pv 1) (pv 0)) (dN (pv 0) dZ)))))) (eI (gB (dgA hu (pv 3) (ixA vQ (pv 4) (jV (jNS T) hr.m rfl (dN (pv 5) dZ)))))))))
 obtain⟨fo,_⟩:=jGs D able;obtain⟨p,ep⟩:=List.length_eq_one_iff.mp l0;obtain⟨_,po,pq⟩:=fo p (by rw [ep];exact mem_singleton.mpr rfl);obtain⟨w',ew⟩:=mO (qo _ pq);have eo:p.1=w':=by rw [po];unfold rV;rw [ew];rfl
 obtain⟨k1,k2⟩:=ok _ (nQ ew);obtain⟨r,er⟩:=mO k1;obtain⟨l,el⟩:=mO k2;rw [show ((p.2,w'):Str×Str).2=p.1 from eo.symm] at er el;refine⟨_,rfl,L.x,_,L.dx,_,_,_,rfl,N.o,rfl,T.ae,(jHT T),_,rfl,L,D,a,able,rfl,N,Z,ha,nd,l1,qo,fun d H1 s1 nd1 hd1=>?_⟩;unfold jJt at q;rw [ep] at hd1 q;refine⟨_,rfl,d,_,rfl,hd1,fun b nb=>?_⟩;have s2:=s1.trans (iS nb (.lst [.str p.1]));have hd2:=iS nb (.lst [.str p.1]) _ _ hd1;have rJ:upd H1 b (.lst [.str p.1]) b=some (.lst [.str p.1]):=eO;rw [show ((dG Sum.inr V.str [p]).map fun q=>kV q.1)=[.str p.1] from rfl];generalize upd H1 b (.lst [.str p.1])=H2 at s2 hd2 rJ ⊢;exists _,rfl,b,rfl,⟨_,SqL.of rJ⟩
 have N2:=N.same s2;refine jCk (vR (K:=K) (SqL.of rJ)) (fun _ y H'=>∃ t,y=.ref t/\H' t=some (.tup [.int r,.int l,.str p.1])) (kZ (by show 1<=1000;decide)) (fun x _ H' R _ rr=>rr) (fun x hx H' R s3 rr=>?_) (fun C H3 ys s3 nC hC ly gy=>?_)
 ·obtain rfl:=mem_singleton.mp hx;have gr:=lO jZ (s3 _ _ N2.ra) p.1;rw [er] at gr;have gl:=lO jZ (s3 _ _ (s2 _ _ hlv)) p.1;rw [el] at gl;exact⟨_,rfl,L.x,yX,L.dx,_,_,rfl,s3 _ _ N2.o,T.ae,T.ax,rfl,_,rfl,L.ra,_,rfl,gr,_,rfl,_,rfl,lva,_,rfl,gl,_,rfl,wq3,fun t nt=>rr _ _ (iS nt _) ⟨fun z=>z=t,fun b hb=>by subst hb;exact⟨nt,_,eO⟩,fun H3 h3=>⟨t,rfl,by rw [h3 t rfl];exact eO⟩⟩⟩
 obtain⟨y,rfl⟩:=List.length_eq_one_iff.mp ly;obtain⟨t,rfl,hT⟩:=gy 0 _ y rfl rfl;have vX:=ht.same (s2.trans s3);obtain⟨tps,htp⟩:=vX.is;refine⟨_,rfl,_,rfl,_,rfl,C,t,r,l,p.1,rfl,hC,hT,vX,fun H4 s4 t4=>?_⟩;have k4:∀ c o,H3 c=some o->o≠.tbl tps->H4 c=some o:=fun c o e n=>s4 _ _ (fN e htp n) e;refine⟨b,_,_,rfl,rfl,SqL.of (k4 _ _ (s3 _ _ rJ) nofun),by decide,tS,fun v hv=>?_⟩;obtain rfl:V.str p.1=v:=Option.some.inj hv;have g:=lO jZ (k4 _ _ (s3 _ _ hd2) nofun) p.1;rw [qO,if_pos rfl] at g;exact⟨d,_,rfl,g,q H4 ((s2.trans s3).p.trans s4) t4⟩
noncomputable def chLv(D:LD)(n:Str)(a:Str)(l c s:Int):List (Str×Int):=hJ D.lv a (l+c*(2520/s))
example jGu(cL:Addr):∀ (L:LA) (D:LD) (n a:Str) (r l c s:Int),vs=[.ref L.x,.str n]->iC cL H L D->D.Z->gL D.ow n=some a->gL D.ra a=some r->gL D.lv a=some l->gL D.co n=some c->gL D.sh a=some s->0<s->s<=1000->(∀ H',pT L D H H'->(∀ t,H' t=none->H t=none)->iC cL H' L { D with ma:=hJ D.ma r (max ((gL D.ma r).getD 0) l),lv:=chLv D n a l c s }->Q .non H')->jGu cL:=0
example jKs:MtE 3 "charge" yX ["self","name"] (jGu yX):=by
 nomatch i5 T.p37,["self","name","asker","rank"]
 obtain⟨L,D,n,a,r,l,c,s,rfl,N,Z,eo,er,el,ec,es,s0,s1,q⟩:=h;exists _,(eE (psA (i:=2) nZ (dgA hu (fH (pv 0) rfl) (pv 1))) (eE (psA (i:=3) nZ (dgA hu (fH (pv 0) rfl) (pv 2))) (eE (tH hu (fH (pv 0) rfl) (pv 3) (jV (jLs T) hr.m rfl (dN (iX 1 gA hr.m (pv 0) (dN (pv 3) dZ)) (dN (dgA hu (fH (pv 0) rfl) (pv 2)) dZ))) rfl) (eI (tH hu (fH (pv 0) rfl) (pv 2) (iX 2 gA hr.m (pv 0) (dN (pv 1) (dN (dgA hu (fH (pv 0) rfl) (pv 2)) dZ))) rfl)))))
 have go:=lO jZ N.ow n;rw [eo] at go;have gr:=lO jZ N.ra a;rw [er] at gr;have gl:=lO jZ N.lv a;rw [el] at gl;have N1:=N.set_ma (hJ D.ma r (max ((gL D.ma r).getD 0) l));have gl1:=lO jZ N1.lv a;rw [el] at gl1;have N2:=N1.set_lv (chLv D n a l c s);exists _,rfl,L.x,yX,L.dx,_,_,rfl,N.o,T.ae,T.ay,rfl,_,rfl,L.ow,_,rfl,go;exists _,rfl,L.x,yX,L.dx,_,_,rfl,N.o,T.ae,T.ax,rfl,_,rfl,L.ra,_,rfl,gr;exists _,rfl,L.x,_,L.dx,_,_,_,rfl,N.o,rfl,T.ae,(jHh T),_,rfl,L,D,r,rfl,N,_,rfl,L.x,yX,L.dx,_,_,rfl,N.o,T.ae,T.aC,rfl,_,rfl,L.lv,_,rfl,gl,_,_,rfl;exists _,rfl,L.x,yX,L.dx,_,_,rfl,N.o,T.ae,T.bt,rfl,_,rfl,L.ma,_,rfl,vP jM4 N.ma Z.ma r _;exists _,rfl,L.x,_,L.dx,_,_,_,rfl,N1.o,rfl,T.ae,(jF4 T),_,rfl,_,rfl,L.x,yX,L.dx,_,_,rfl,N1.o,T.ae,T.aC,rfl,_,rfl,L.lv,_,rfl,gl1,L,_,n,a,l,c,s,rfl,N1,ec,eo,es,s0,s1;exists _,rfl,L.x,yX,L.dx,_,_,rfl,N1.o,T.ae,T.aC,rfl,_,rfl,L.lv,_,rfl,vP jZ N1.lv Z.lv a _;refine q _ (((pT.refl L D H).set (lf_ma L D) _).set (yL L D) _) (fun t ht=>?_) N2;by_cases c1:t=L.lv
 ·rw [c1,eO] at ht;cases ht
 rw [eJ c1] at ht;by_cases c2:t=L.ma
 ·rw [c2,eO] at ht;cases ht
 rw [eJ c2] at ht;exact ht
noncomputable abbrev Con:=Str×Addr×List (Str×Int×Str)
noncomputable def qX(l:List (Str×Addr×List tF)):List Con:=l.map fun p=>(p.1,p.2.1,p.2.2.map (·.2))
noncomputable def sO(m:Str)(t:tF)(p:Str×Addr×List tF):Str×Addr×List tF:=if p.1=m then (p.1,p.2.1,p.2.2++[t]) else p
theorem jFC(p:Str×Addr×List tF):(sO m t p).1=p.1/\(sO m t p).2.1=p.2.1:=by
 unfold sO;split<;>exact⟨rfl,rfl⟩
theorem addN_dG(l:List (Str×Addr×List tF)):dG Sum.inr noV (l.map (sO m t))=dG Sum.inr noV l:=by
 unfold dG;rw [dU];refine eT fun p _=>?_;show (Sum.inr (sO m t p).1,noV (sO m t p).2)=(Sum.inr p.1,noV p.2)
 unfold noV;rw [(jFC p).1,(jFC p).2]
theorem jM6(l:List (Str×Addr×List tF)):(l.map (sO m t)).map (·.2.1)=l.map (·.2.1):=by
 rw [dU];exact eT fun p _=>(jFC p).2
theorem addN_ky(l:List (Str×Addr×List tF)):kys (l.map (sO m t))=kys l:=by
 unfold kys;rw [dU];exact eT fun p _=>(jFC p).1
theorem iC.add_note(N:iC cL H L D)(nt:H t.1=none)(hm:(m,e)∈D.no)(kn:(kys D.no).Nodup):iC cL (upd (upd H t.1 (.tup (wI t))) e.1 (.lst (e.2.map (fun t=>V.ref t.1)++[V.ref t.1]))) L { D with no:=D.no.map (sO m t) }:=by
 have N1:=N.same (iS nt (.tup (wI t)));have ht:upd H t.1 (.tup (wI t)) t.1=some (.tup (wI t)):=eO;generalize upd H t.1 (.tup (wI t))=H1 at N1 ht ⊢;have hl:=N1.nl (m,e) hm;have k:∀ b o,b≠e.1->H1 b=some o->upd H1 e.1 (.lst (e.2.map (fun t=>V.ref t.1)++[V.ref t.1])) b=some o:=fun b o nb e=>by rw [eJ nb];exact e
 have kd:∀ {b:Addr} {kvs:List (Key×V)},H1 b=some (.dK kvs)->upd H1 e.1 (.lst (e.2.map (fun t=>V.ref t.1)++[V.ref t.1])) b=some (.dK kvs):=fun h=>k _ _ (fN h hl nofun) h;refine⟨k _ _ (fN N1.o hl nofun) N1.o,fun i a v hi hk=>kd (N1.d i hi (by rw [<- hk];unfold LD.os;rw [addN_dG])),fun p hp=>?_,fun p hp u hu=>?_,N.nd,by rw [jM6];exact N.nn⟩
 ·obtain⟨q,hq,rfl⟩:=dR.mp hp;by_cases c:q.1=m
  ·have eq:q.2=e:=by
    have h1:=jDc (p:=q) kn hq;have h2:=jDc (p:=(m,e)) kn hm;rw [c] at h1;rw [h1] at h2;exact Option.some.inj h2
   unfold sO;rw [if_pos c,eq];show upd H1 e.1 _ e.1=_;rw [eO,eB];rfl
  ·unfold sO;rw [if_neg c];refine k _ _ (fun z=>c ?_) (N1.nl q hq);obtain⟨i,hi⟩:=mem_iff_getElem?.mp hq;obtain⟨j,hj⟩:=mem_iff_getElem?.mp hm;by_cases ij:i=j
   ·subst ij;rw [hi] at hj;rw [Option.some.inj hj]
   ·exact absurd z (kP N.nn (i:=i) (j:=j) (by rw [getElem?_map,hi];rfl) (by rw [getElem?_map,hj];rfl) ij)
 ·obtain⟨q,hq,rfl⟩:=dR.mp hp;have tu:∀ u,H1 u=some (.tup (wI t))->True:=fun _ _=>trivial;unfold sO at hu;by_cases c:q.1=m
  ·rw [if_pos c] at hu;rcases eN.mp hu with hu|hu
   ·exact k _ _ (fN (N1.nt q hq u hu) hl nofun) (N1.nt q hq u hu)
   ·rw [mem_singleton.mp hu];exact k _ _ (fN ht hl nofun) ht
  ·rw [if_neg c] at hu;exact k _ _ (fN (N1.nt q hq u hu) hl nofun) (N1.nt q hq u hu)
theorem vi{G K:Prop}(m:K->G)(f:K):G:=m f
noncomputable def tV(D:LD)(n:Str)(able:List Str)(m:Str):Str:=if m∈able then (if rV D n=rV D m then "own" else if (gL D.ra (rV D m)).getD 0<(gL D.ra (rV D n)).getD 0 then "rank" else "share") else "unable"
noncomputable def xV(D:LD)(n:Str)(c:Int)(able:List Str)(done:List Str)(l:List Con):List Con:=l.map fun p=>if p.1∈done then (p.1,p.2.1,p.2.2++[(n,c,tV D n able p.1)]) else p
theorem jLu(n:a≠b):upd (upd H a x) b y=upd (upd H b y) a x:=by
 funext c;by_cases c1:c=a
 ·rw [c1,eJ n,eO,eO]
 ·by_cases c2:c=b
  ·rw [c2,eO,eJ (symm n),eO]
  ·rw [eJ c2,eJ c1,eJ c1,eJ c2]
theorem jP9(h:qX no=xV D n c able done l)(nm:¬ m∈done):qX (no.map (sO m (t,n,c,tV D n able m)))=xV D n c able (done++[m]) l:=by
 have e1:qX (no.map (sO m (t,n,c,tV D n able m)))=(qX no).map fun p=>if p.1=m then (p.1,p.2.1,p.2.2++[(n,c,tV D n able m)]) else p:=by
  unfold qX;rw [dU,dU];refine eT fun p _=>?_;show ((sO m _ p).1,(sO m _ p).2.1,(sO m _ p).2.2.map (·.2))=if p.1=m then (p.1,p.2.1,p.2.2.map (·.2)++[(n,c,tV D n able m)]) else (p.1,p.2.1,p.2.2.map (·.2))
  unfold sO;by_cases c1:p.1=m
  ·rw [if_pos c1,if_pos c1,eB];rfl
  ·rw [if_neg c1,if_neg c1]
 rw [e1,h];unfold xV;rw [dU];refine eT fun p _=>?_;show (if (if p.1∈done then (p.1,p.2.1,p.2.2++[(n,c,tV D n able p.1)]) else p).1=m then _ else _)=_;by_cases c1:p.1∈done
 ·have c2:¬ p.1=m:=fun z=>nm (by rw [<- z];exact c1);rw [if_pos c1,if_neg c2,if_pos (eS _ c1)]
 ·rw [if_neg c1];by_cases c2:p.1=m
  ·rw [if_pos c2,if_pos (dH _ (by rw [c2];exact List.mem_singleton_self m))];simp [c2,nm]
  ·rw [if_neg c2,if_neg (fun z=>(eN.mp z).elim c1 fun z=>c2 (mem_singleton.mp z))]
theorem con_len(h:qX no=xV D n c able done (qX l))(nm:¬ m∈done)(hm:(m,e)∈no):∃ p∈l,p.1=m/\p.2.1=e.1/\e.2.length=p.2.2.length:=by
 have h1:((m,e.1,e.2.map (·.2)):Con)∈qX no:=dR.mpr ⟨(m,e),hm,rfl⟩;rw [h] at h1;obtain⟨p,hp,ep⟩:=dR.mp h1;obtain⟨q,hq,rfl⟩:=dR.mp hp;by_cases c1:q.1∈done
 ·grind
 ·rw [if_neg c1] at ep;have e1:q.1=m:=congrArg (·.1) ep;have e2:q.2.1=e.1:=congrArg (·.2.1) ep;have e3:q.2.2.map (·.2)=e.2.map (·.2):=congrArg (·.2.2) ep;exists q,hq,e1,e2;have:=congrArg List.length e3
  grind
example jEq(cL:Addr):∀ (L:LA) (D:LD) (n:Str) (a:Addr) (able:List Str) (c:Int),vs=[.ref L.x,.str n,.ref a]->iC cL H L D->(∀ p∈D.no,p.2.2.length<=1000)->H a=some (.lst (able.map V.str))->able.Nodup->able.length<=1000->(∀ n∈kys D.qu,n∈kys D.ow/\n∈kys D.no)->(∀ p∈D.ow,p.2∈kys D.ra)->(kys D.qu).Nodup->(kys D.no).Nodup->n∈kys D.ow->gL D.co n=some c->(∀ H' pR,pT L D H H'->(∀ t,H' t=none->H t=none)->qX pR=xV D n c able (kys D.qu) (qX D.no)->iC cL H' L { D with no:=pR }->Q .non H')->jEq cL:=0
example jG7:MtE 2 "note_taken" yX ["self","taken","able"] (jEq yX):=by
 nomatch i5 T.p38,["self","taken","able","told","name","why"]
 obtain⟨L,D,n,a,able,c,rfl,N,Z,ha,nd,l1,qo,ok,qn,kn,hn,ec,q⟩:=h;exists _,(eE (psA (i:=3) nZ (jV (jJ2 T) hr.m rfl (dN (pv 2) dZ))) (eI (jDa (nY PassesOwn.never rfl (y3 (fH (pv 0) rfl)) (pgA (i:=4) nZ) (eE (psA (i:=5) nZ (zB (sR (xX hu (pv 4) (pv 3))) (iX 1 gA hr.m (pv 0) (dN (pv 1) (dN (pv 4) dZ))) (kE T.cC rfl))) (eI (jU (qV fE PySem.F.slot_list_append PySem.F.type_list_append zD (dgA hu (fH (pv 0) rfl) (pv 4)) (dN (nL (dN (pv 1) (dN (dgA hu (fH (pv 0) rfl) (pv 1)) (dN (pv 5) dZ)))) dZ)))))))))
 refine⟨_,rfl,a,able,rfl,ha,nd,l1,fun td H1 s1 ntd htd=>?_⟩;have N1:=N.same s1;refine⟨L.qu,_,N1.qu,fun o=>?_⟩;have tq:td≠L.qu:=symm (gM N.qu ntd);have k2:∀ b u,b≠L.qu->H1 b=some u->upd H1 L.qu (.frz o (.dK (dG Sum.inr lN D.qu))) b=some u:=fun b u nb e=>by rw [eJ nb];exact e
 have hx2:=k2 _ _ (fN N1.o N1.qu nofun) N1.o;have hq2:upd H1 L.qu (.frz o (.dK (dG Sum.inr lN D.qu))) L.qu=some (.frz o (.dK (dG Sum.inr lN D.qu))):=eO;have zE:=k2 _ _ tq htd;have eb2:upd (upd H1 L.qu (.frz o (.dK (dG Sum.inr lN D.qu)))) L.qu (.dK (dG Sum.inr lN D.qu))=H1:=by
  funext b;by_cases c1:b=L.qu
  ·rw [c1,eO,N1.qu]
  ·rw [eJ c1,eJ c1]
 generalize upd H1 L.qu (.frz o (.dK (dG Sum.inr lN D.qu)))=H2 at k2 hx2 hq2 zE eb2 ⊢;have c0:xV D n c able [] (qX D.no)=qX D.no:=by
  unfold xV;refine (eT fun p _=>?_).trans (map_id _);rw [if_neg nofun];rfl
 exists _,rfl,L.x,yX,L.dx,_,_,rfl,hx2,T.ae,T.az,rfl,L.qu,o,_,rfl,hq2;refine jFB (zA (H1:=upd (fun _=>none) L.qu (.frz o (.dK (dG Sum.inr lN D.qu)))) eO) (fun i σ G=>(∃ v4 v5,σ=[some (.ref L.x),some (.str n),some (.ref a),some (.ref td),v4,v5])/\G L.qu=some (.frz o (.dK (dG Sum.inr lN D.qu)))/\G td=some (.dK (dG Sum.inr lN (able.map fun n=>(n,()))))/\∃ pR,iC yX (upd G L.qu (.dK (dG Sum.inr lN D.qu))) L { D with no:=pR }/\qX pR=xV D n c able ((kys D.qu).take i) (qX D.no)/\kys pR=kys D.no/\pR.map (·.2.1)=D.no.map (·.2.1)/\pT L D H (upd G L.qu (.dK (dG Sum.inr lN D.qu)))/\∀ t,upd G L.qu (.dK (dG Sum.inr lN D.qu)) t=none->H t=none) ⟨⟨_,_,rfl⟩,hq2,zE,D.no,by rw [eb2];exact N1,by rw [List.take_zero,c0],rfl,rfl,by rw [eb2];exact eR.offL s1,by rw [eb2];exact fun t h=>jEO s1 h⟩ (fun i σ G z=>jLt z.2.1) (fun i y σ G hy z=>?_) (fun σ G z=>?_)
 ·obtain⟨⟨v4,v5,rfl⟩,fq,ft,pR,M,cn,ky,ad,off,nw⟩:=z;rw [jKA,getElem?_map] at hy;obtain⟨m,em,rfl⟩:=dW.mp hy;have hmq:=mem_of_getElem? em;have et:(kys D.qu).take (i+1)=(kys D.qu).take i++[m]:=by rw [fZ,em];rfl
  have nm:¬ m∈(kys D.qu).take i:=fun z=>by
   obtain⟨j,hj⟩:=mem_iff_getElem?.mp z;have jl:j<i:=by
    have:=(List.getElem?_eq_some_iff.mp hj).1;rw [gD] at this;omega
   rw [List.getElem?_take_of_lt jl] at hj;exact kP qn hj em (by omega) rfl
  have gG:∀ b u,b≠L.qu->upd G L.qu (.dK (dG Sum.inr lN D.qu)) b=some u->G b=some u:=fun b u nb e=>by rw [eJ nb] at e;exact e
  have Go:=gG _ _ (fN N.o N.qu nofun) M.o;have Gw:=gG _ _ (kP N.nd (i:=4) (j:=7) rfl rfl (by decide)) M.ow;have Gr:=gG _ _ (kP N.nd (i:=0) (j:=7) rfl rfl (by decide)) M.ra;have gc:=lO jZ (gG _ _ (kP N.nd (i:=5) (j:=7) rfl rfl (by decide)) M.co) n;rw [ec] at gc;obtain⟨e,ee⟩:=mO (show m∈pR.map (·.1) from by have:=(qo m hmq).2;rw [<- ky] at this;exact this);have hme:=nQ ee;have gn:=lO jZ (gG _ _ (kP N.nd (i:=6) (j:=7) rfl rfl (by decide)) M.no) m;rw [ee] at gn;have hl0:=M.nl (m,e) hme;have laq:e.1≠L.qu:=fun z=>by rw [z,eO] at hl0;cases hl0
  have hl:=gG _ _ laq hl0;obtain⟨p,hp,ep1,ep2,ep3⟩:=con_len cn nm hme;have le:e.2.length<=1000:=by rw [ep3];exact Z p hp
  have laD:∃ p∈D.no,e.1=p.2.1:=⟨p,hp,ep2.symm⟩
  obtain⟨ow,eow⟩:=mO hn;obtain⟨om,eom⟩:=mO (qo m hmq).1;obtain⟨r1,wC⟩:=mO (ok _ (nQ eow));obtain⟨r2,er2⟩:=mO (ok _ (nQ eom));exists _,rfl,_,rfl,td,_,rfl,lO jZ ft m,_,rfl;refine' vi (fun fin=>?_) ?_;rotate_left
  ·cases et2:gL (able.map fun n=>(n,())) m with
   | none =>
     have na:¬ m∈able:=fun z=>jB_.mp et2 (by rw [dU];exact dR.mpr ⟨m,z,rfl⟩);have ew:tV D n able m="unable":=by unfold tV;rw [if_neg na]
     refine hV ?_;rw [<- ew];exact fin
   | some u0 =>
     have na:m∈able:=by
      have:=yT et2;rw [dU] at this;obtain⟨m',hm,e⟩:=dR.mp this;rw [<- e];exact hm
     have ew:(if ow=om then c9 "own" else if r2<r1 then "rank" else "share")=tV D n able m:=by
      unfold tV rV;rw [if_pos na,eow,eom];show _=if ow=om then c9 "own" else if (gL D.ra om).getD 0<(gL D.ra ow).getD 0 then "rank" else "share"
      rw [wC,er2];rfl
     refine kL ⟨_,rfl,L.x,_,L.dx,_,_,_,rfl,Go,rfl,T.ae,(jHR T),_,rfl,_,rfl,L,D,n,m,ow,om,r1,r2,rfl,Go,Gw,Gr,eow,eom,wC,er2,?_⟩;rw [ew];exact fin
  ·refine⟨_,rfl,L.x,yX,L.dx,_,_,rfl,Go,T.ae,T.bu,rfl,_,rfl,L.no,_,rfl,gn,.inl ⟨rfl,_,SqL.of hl⟩,_,rfl,_,rfl,L.x,yX,L.dx,_,_,rfl,Go,T.ae,T.aS,rfl,_,rfl,L.co,_,rfl,gc,_,rfl,wq3,fun t nt=>?_⟩;have ntq:t≠L.qu:=symm (gM fq nt);have nta:e.1≠t:=gM hl nt;have ht0:(upd G L.qu (.dK (dG Sum.inr lN D.qu))) t=none:=by rw [eJ ntq];exact nt
   have N4:=M.add_note (t:=(t,n,c,tV D n able m)) ht0 hme (by rw [ky];exact kn);have ceq:upd (upd (upd G t (.tup (wI (t,n,c,tV D n able m)))) e.1 (.lst (e.2.map (fun t=>V.ref t.1)++[V.ref t]))) L.qu (.dK (dG Sum.inr lN D.qu))=upd (upd (upd G L.qu (.dK (dG Sum.inr lN D.qu))) t (.tup (wI (t,n,c,tV D n able m)))) e.1 (.lst (e.2.map (fun t=>V.ref t.1)++[V.ref t])):=by
    rw [jLu laq,jLu ntq]
   refine⟨e.1,_,_,rfl,rfl,(by rw [eJ nta];exact hl),?_,?_⟩
   ·rw [c7];exact kZ le
   exists ⟨_,_,rfl⟩,?_,?_,pR.map (sO m (t,n,c,tV D n able m)),?_,?_,?_,?_,?_
   ·rw [eJ (symm laq),eJ (symm ntq)];exact fq
   ·rw [eJ (fN ft hl nofun),eJ (gM ft nt)];exact ft
   ·show iC yX (upd (upd (upd G t (.tup (wI (t,n,c,tV D n able m)))) e.1 (.lst (e.2.map (fun t=>V.ref t.1)++[V.ref t]))) L.qu (.dK (dG Sum.inr lN D.qu))) L _;rw [ceq];exact N4
   ·rw [et];exact jP9 cn nm
   ·rw [addN_ky];exact ky
   ·rw [jM6];exact ad
   ·show pT L D H (upd (upd (upd G t (.tup (wI (t,n,c,tV D n able m)))) e.1 (.lst (e.2.map (fun t=>V.ref t.1)++[V.ref t]))) L.qu (.dK (dG Sum.inr lN D.qu)));rw [ceq];refine pT.set (fun b u nb eb=>?_) (.inr laD) _;rw [eJ (gM (off b u nb eb) ht0)];exact off b u nb eb
   ·show ∀ w,(upd (upd (upd G t (.tup (wI (t,n,c,tV D n able m)))) e.1 (.lst (e.2.map (fun t=>V.ref t.1)++[V.ref t]))) L.qu (.dK (dG Sum.inr lN D.qu))) w=none->H w=none;rw [ceq];intro w hw;by_cases c1:w=e.1
    ·rw [c1,eO] at hw;cases hw
    rw [eJ c1] at hw;by_cases c2:w=t
    ·rw [c2,eO] at hw;cases hw
    rw [eJ c2] at hw;exact nw w hw
 ·obtain⟨⟨v4,v5,rfl⟩,fq,ft,pR,M,cn,ky,ad,off,nw⟩:=z;rw [jKA,c7,h9] at cn;exact⟨fq,q _ pR off nw cn M⟩
noncomputable def pF(l:List (Str×Unit))(n:Str):List (Str×Unit):=l.filter fun p=>!decide (p.1=n)
theorem jM7:jFp (dG Sum.inr lN l) (Sum.inr n)=dG Sum.inr lN (pF l n):=by
 unfold jFp pF dG;rw [i0];refine congrArg _ (gO fun p _=>?_)
 grind
theorem jCH:m∈kys (pF l n) ↔ m∈kys l/\m≠n:=by
 unfold kys pF;constructor
 ·grind
 ·rintro⟨h1,h2⟩;obtain⟨p,hp,rfl⟩:=dR.mp h1
  grind
theorem jHU(h:(kys l).Nodup):(kys (pF l n)).Nodup:=Sublist.nodup (Sublist.map _ hU) h
theorem jO9:kys (pF l n)=(kys l).filter fun m=>!decide (m=n):=by
 unfold kys pF;rw [i0];rfl
theorem jGY(N:iC cL H L D)(h:LF L D b):(∃ kvs,H b=some (.dK kvs))\/∃ xs,H b=some (.lst xs):=by
 rcases h with h|⟨n,hn,rfl⟩
 ·unfold LA.ds at h;simp only [dX,fU,or_false] at h;rcases h with rfl|rfl|rfl|rfl|rfl|rfl|rfl|rfl
  ·exact .inl ⟨_,N.ra⟩
  ·exact .inl ⟨_,N.sh⟩
  ·exact .inl ⟨_,N.lv⟩
  ·exact .inl ⟨_,N.ma⟩
  ·exact .inl ⟨_,N.ow⟩
  ·exact .inl ⟨_,N.co⟩
  ·exact .inl ⟨_,N.no⟩
  ·exact .inl ⟨_,N.qu⟩
 ·exact .inr ⟨_,N.nl n hn⟩
theorem jEr(N:iC cL H L D)(e:H b=some o)(h1:∀ kvs,o≠.dK kvs)(h2:∀ xs,o≠.lst xs):¬ LF L D b:=fun h=>by
 rcases jGY N h with⟨k,ek⟩|⟨k,ek⟩
 ·grind
 grind
theorem jJu(N:iC cL H L D)(t:tW H tP)(s:pT L D H H'):tW H' tP:=by
 rcases t with t|⟨c,t1,t2⟩
 ·exact .inl (s _ _ (jEr N t (by intro k z;cases z) (by intro k z;cases z)) t)
 ·exact .inr ⟨c,s _ _ (jEr N t1 (by intro k z;cases z) (by intro k z;cases z)) t1,s _ _ (jEr N t2 (by intro k z;cases z) (by intro k z;cases z)) t2⟩
theorem iC.sameP(A:iC cL H L D)(ht:H tP=some (.tbl ps))(s:vJ tP H H'):iC cL H' L D:=by
 have k:∀ {b o},H b=some o->o≠.tbl ps->H' b=some o:=fun e n=>s _ _ (fN e ht n) e;have kd:∀ {b kvs},H b=some (HO.dK kvs)->H' b=some (.dK kvs):=fun e=>k e nofun
 exact⟨k A.o nofun,fun i a v hi hk=>kd (A.d i hi hk),fun n h=>k (A.nl n h) nofun,fun n h t ht=>k (A.nt n h t ht) nofun,A.nd,A.nn⟩
theorem jLv:∀ (ns:List Str) (l:List (Str×Str)),(∀ k∈kys l,k∈kys (ns.foldl (o7 D able) l))/\∀ n∈ns,n∈able->rV D n∈kys (ns.foldl (o7 D able) l)
 | [],l=>⟨fun _ h=>h,fun n h=>(by cases h)⟩
 | m::r,l=>by
   have ih:=jLv (D:=D) (able:=able) r (o7 D able l m);have mono:∀ k∈kys l,k∈kys (o7 D able l m):=fun k hk=>by
    unfold o7;split
    ·split
     ·exact hk
     ·unfold kys;rw [eB];exact eS _ hk
    ·exact hk
   refine⟨fun k hk=>ih.1 k (mono k hk),fun n hn ha=>?_⟩;rcases dX.mp hn with rfl|hn
   ·refine ih.1 _ ?_;unfold o7;rw [if_pos ha];by_cases c:rV D n∈kys l
    ·rw [if_pos c];exact c
    ·rw [if_neg c];unfold kys;rw [eB]
     grind
   ·exact ih.2 n hn ha
theorem jNU(hq:n∈kys D.qu)(ha:n∈able):rV D n∈kys (jCP D able):=(jLv (kys D.qu) []).2 n hq ha
example jIx(cL:Addr):∀ (L:LA) (D:LD) (n:Str),vs=[.ref L.x,.str n]->iC cL H L D->n∈kys D.qu->(∀ H',pT L D H H'->iC cL H' L { D with qu:=pF D.qu n }->Q .non H')->jIx cL:=0
example jMn:MtE 2 "pull" yX ["self","name"] (jIx yX):=by
 nomatch i5 T.p30,["self","name"]
 obtain⟨L,D,n,rfl,N,hn,q⟩:=h;exists _,(eE (jU (iX 1 gA hr.m (pv 0) (dN (oQ (dN (pv 1) dZ)) dZ))) (eI (jU (jKW (fH (pv 0) rfl) (pv 1) ⟨rfl,rfl,rfl,rfl⟩))))
 refine⟨_,rfl,L.x,_,L.dx,_,_,_,rfl,N.o,rfl,T.ae,(jEp T),_,rfl,wq1,fun p np=>?_⟩;have N1:=N.same (iS np (.lst [V.str n]));obtain⟨u,eu⟩:=mO hn;refine⟨L,D,p,[n],rfl,N1,eO,fun m hm=>by rw [mem_singleton.mp hm];exact hn,_,rfl,L.x,yX,L.dx,_,_,rfl,N1.o,T.ae,T.az,rfl,L.qu,rfl,.inl ⟨_,.inl N1.qu⟩,_,rfl,_,Sum.inr n,lN u,N1.qu,rfl,by rw [jEm jZ,eu];rfl,?_⟩;rw [jM7];exact q _ (pT.set (eR.offL (iS np _)) (yI L D) _) (N1.set_qu (pF D.qu n))
noncomputable def yB(D:LD)(n a:Str)(r l c s:Int)(no:List (Str×Addr×List tF)):LD:={ D with qu:=pF D.qu n,ma:=hJ D.ma r (max ((gL D.ma r).getD 0) l),lv:=chLv D n a l c s,no:=no }
structure LD.Ok(D:LD):Prop where
 qo:∀ n∈kys D.qu,n∈kys D.ow
 oc:kys D.co=kys D.ow
 on:kys D.no=kys D.ow
 sk:kys D.sh=kys D.ra
 lk:kys D.lv=kys D.ra
 oa:∀ p∈D.ow,p.2∈kys D.ra
 ss:∀ p∈D.sh,0<p.2/\p.2<=1000
 qn:(kys D.qu).Nodup
 wn:(kys D.ow).Nodup
theorem jNV(O:D.Ok)(l:D.ra.length<=1)(hq:n∈kys D.qu)(ha:n∈able):∃ p,jCP D able=[p]:=by
 have h1:=jNU hq ha;obtain⟨fo,nd⟩:=jGs D able;have ow:∀ p∈jCP D able,p.1∈D.ra.map (·.1):=fun p hp=>by
  obtain⟨_,e,h⟩:=fo p hp;obtain⟨b,eb⟩:=mO (O.qo _ h);have:=O.oa _ (nQ eb);rw [e];unfold rV;rw [eb];exact this
 cases e:jCP D able with
 | nil=>rw [e] at h1;cases h1
 | cons p r =>
   cases r with
   | nil=>exact⟨p,rfl⟩
   | cons q r =>
     rw [e] at ow nd;have hp:=ow p eD;have hq:=ow q (eG _ eD);have e1:p.1=q.1:=by
      cases er:D.ra with
      | nil=>rw [er] at hp;cases hp
      | cons x t =>
        rw [er] at l hp hq;have:t=[]:=List.length_eq_zero_iff.mp (by rw [fC] at l;omega);subst this;exact (mem_singleton.mp hp).trans (mem_singleton.mp hq).symm
     exact absurd (show p.1∈q.1::kys r by rw [e1];exact eD) (fF.mp nd).1
example jIy(cL tP:Addr):∀ (L:LA) (D:LD) (a:Addr) (able:List Str),vs=[.ref L.x,.ref a]->iC cL H L D->D.Z->D.Ok->H a=some (.lst (able.map V.str))->(¬ LF L D a)->D.ra.length<=1->able.length<=1000->tW H tP->(∀ n∈able,n∈kys D.qu)->(able=[]->Q .non H)->(able≠[]->able.Nodup/\∀ (n b:Str) (r l c s:Int) (H':Hp) pR,n∈able->n∈kys D.qu->gL D.ow n=some b->gL D.lv b=some l->(∀ x o,x≠tP->¬ LF L D x->H x=some o->H' x=some o)->tW H' tP->qX pR=xV D n c able (kys (pF D.qu n)) (qX D.no)->iC cL H' L (yB D n b r l c s pR)->Q (.str n) H')->jIy cL tP:=0
example jMo:MtE 6 "take" yX ["self","able"] (jIy yX dJ):=by
 nomatch i5 T.p29,["self","able","taken"]
 obtain⟨L,D,a,able,rfl,N,Z,O,ha,uK,l0,l1,ht,hq,q1,q2⟩:=h;exists _,(eE (jU (iX 1 gA hr.m (pv 0) (dN (pv 1) dZ))) (eE (iK (qM (mD (pv 1) (fun _=>rfl))) (eI (gB m3)) iM) (eE (psA (i:=2) nZ (iX 3 gA hr.m (pv 0) (dN (pv 1) (dN (fH (pv 0) rfl) dZ)))) (eE (jU (jKW (fH (pv 0) rfl) (pv 2) ⟨rfl,rfl,rfl,rfl⟩)) (eE (jU (iX 3 gA hr.m (pv 0) (dN (pv 2) dZ))) (eE (jU (iX 2 gA hr.m (pv 0) (dN (pv 2) (dN (pv 1) dZ)))) (eI (gB (pv 2)))))))))
 exists _,rfl,L.x,_,L.dx,_,_,_,rfl,N.o,rfl,T.ae,(jEp T),_,rfl,L,D,a,able,rfl,N,ha,hq;by_cases em:able=[]
 ·refine⟨_,rfl,false,.inl ⟨_,SqL.of ha,by rw [em];rfl⟩,kL (q1 em)⟩
 obtain⟨and,q⟩:=q2 em;refine⟨_,rfl,true,.inl ⟨_,SqL.of ha,by cases able with|nil=>exact absurd rfl em|cons=>rfl⟩,hV ?_⟩;obtain⟨n0,hn0⟩:∃ n,n∈able:=List.exists_mem_of_ne_nil _ em;obtain⟨p,ep⟩:=jNV O l0 (hq n0 hn0) hn0;obtain⟨tps,htp⟩:=ht.is;refine⟨_,rfl,L.x,_,L.dx,_,_,_,rfl,N.o,rfl,T.ae,(jKr T),_,rfl,_,rfl,L.x,yX,L.dx,_,_,rfl,N.o,T.ae,T.aC,rfl,L,D,a,L.lv,able,D.lv,rfl,N,Z,ha,and,l1,O.qo,N.lv,fun p hp=>⟨O.oa p hp,by rw [O.lk];exact O.oa p hp⟩,by rw [ep];rfl,ht,fun H1 s1 t1=>?_⟩;have N1:=N.sameP htp s1;obtain⟨pa,po,pq⟩:=(jGs D able).1 p (by rw [ep];exact mem_singleton.mpr rfl);unfold jJt;rw [ep];rw [show (([p]:List (Str×Str)).headD ("","")).2=p.2 from rfl];generalize p.2=n at pa pq ⊢;obtain⟨u,eu⟩:=mO pq;obtain⟨b,eb⟩:=mO (O.qo n pq);have hb:=O.oa _ (nQ eb);obtain⟨r,er⟩:=mO hb;obtain⟨l,el⟩:=mO (show b∈D.lv.map (·.1) by have:=O.lk;unfold kys at this;rw [this];exact hb);obtain⟨s,es⟩:=mO (show b∈D.sh.map (·.1) by have:=O.sk;unfold kys at this;rw [this];exact hb);obtain⟨c,ec⟩:=mO (show n∈D.co.map (·.1) by have:=O.oc;unfold kys at this;rw [this];exact O.qo n pq);obtain⟨s0,sl⟩:=O.ss _ (nQ es);refine⟨_,rfl,L.x,yX,L.dx,_,_,rfl,N1.o,T.ae,T.az,rfl,L.qu,rfl,.inl ⟨_,.inl N1.qu⟩,_,rfl,_,Sum.inr n,lN u,N1.qu,rfl,by rw [jEm jZ,eu];rfl,?_⟩;rw [jM7];have N2:=N1.set_qu (pF D.qu n);have o2:pT L D H1 (upd H1 L.qu (.dK (dG Sum.inr lN (pF D.qu n)))):=(pT.refl L D H1).set (yI L D) _;have w2:∀ t,upd H1 L.qu (.dK (dG Sum.inr lN (pF D.qu n))) t=none->H1 t=none:=fun t h=>by
  by_cases c1:t=L.qu
  ·rw [c1,eO] at h;cases h
  rw [eJ c1] at h;exact h
 generalize upd H1 L.qu (.dK (dG Sum.inr lN (pF D.qu n)))=H2 at N2 o2 w2 ⊢;have Z2:LD.Z { D with qu:=pF D.qu n }:=⟨Z.ra,Z.sh,Z.lv,Z.ma,Z.ow,Z.co,Z.no,eM (eA _ _) Z.qu,Z.nn⟩
 refine⟨_,rfl,L.x,_,L.dx,_,_,_,rfl,N2.o,rfl,T.ae,(jKs T),_,rfl,L,{ D with qu:=pF D.qu n },n,b,r,l,c,s,rfl,N2,Z2,eb,er,el,ec,es,s0,sl,fun H3 o3 w3 N3=>?_⟩;have ha1:H1 a=some (.lst (able.map V.str)):=s1 _ _ (fN ha htp nofun) ha;have ha3:=o3 _ _ uK (o2 _ _ uK ha1);refine⟨_,rfl,L.x,_,L.dx,_,_,_,rfl,N3.o,rfl,T.ae,(jG7 T),_,rfl,_,rfl,L,{ D with qu:=pF D.qu n,ma:=hJ D.ma r (max ((gL D.ma r).getD 0) l),lv:=chLv D n b l c s },n,a,able,c,rfl,N3,Z.nn,ha3,and,l1,fun m hm=>?_,O.oa,jHU O.qn,by rw [show kys D.no=kys D.ow from O.on];exact O.wn,O.qo n pq,ec,fun H4 pR o4 w4 cn N4=>?_⟩
 ·have h1:=O.qo m (jCH.mp hm).1;exact⟨h1,by show m∈kys D.no;rw [O.on];exact h1⟩
 have off:pT L D H1 H4:=fun x o nx e=>o4 _ _ nx (o3 _ _ nx (o2 _ _ nx e));exact⟨_,rfl,q n b r l c s H4 pR pa pq eb el (fun x o nt nx e=>off x o nx (s1 _ _ nt e)) (jJu N1 t1 off) cn N4⟩
structure Ini(C x dx:Addr)(H0 H:Hp)(fs:List (Str×V))(ks:List Str):Prop where
 o:H x=some (.ins C dx fs)
 k:∀ b o,b≠x->H0 b=some o->H b=some o
 e:fs.map (·.1)=ks
theorem Ini.nil(h:H x=some (.ins C dx [])):Ini C x dx H H [] []:=⟨h,fun _ _ _ e=>e,rfl⟩
theorem Ini.same(I:Ini C x dx H0 H fs ks)(s:eR H H'):Ini C x dx H0 H' fs ks:=⟨s _ _ I.o,fun b o n e=>s _ _ (I.k b o n e),I.e⟩
theorem Ini.set(I:Ini C x dx H0 H fs ks)(f:Str)(v:V)(nf:¬ f∈ks:=by decide +kernel):Ini C x dx H0 (upd H x (.ins C dx (l7 f v fs))) (fs++[(f,v)]) (ks++[f]):=by
 rw [jHQ (by rw [I.e];exact nf)];exact⟨eO,fun b o n e=>by rw [eJ n];exact I.k b o n e,by rw [eB,I.e];rfl⟩
theorem Ini.off(I:Ini C x dx H0 H fs ks)(f:Str)(v:V):∀ b o,(∀ d f,o≠.ins C d f)->H b=some o->upd H x (.ins C dx (l7 f v fs)) b=some o:=fun b o n e=>by
 rw [eJ (fN e I.o (n _ _))];exact e
theorem Ini.ofn(_:Ini C x dx H0 H fs ks)(f:Str)(v:V):∀ b o,b≠x->H b=some o->upd H x (.ins C dx (l7 f v fs)) b=some o:=fun b o n e=>by
 rw [eJ n];exact e
theorem Ini.free(I:Ini C x dx H0 H fs ks)(h:H b=none):H0 b=none:=by
 cases e:H0 b with
 | none=>rfl
 | some o =>
   rw [I.k b o (fun z=>by rw [z,I.o] at h;cases h) e] at h;cases h
theorem jB7(nx:H x=none)(nd:H dx=none)(k:∀ b u,b≠x->upd (upd H dx o) x o1 b=some u->H' b=some u):eR H H':=fun b u e=>by
 have n:=gM e nx;exact k b u n (by rw [eJ n,eJ (gM e nd)];exact e)
noncomputable abbrev rdW:Str:=c9 "ready"
example jFI(K:PySem.W.Frag):∀ x dx C y,vs=[.ref x,y]->H x=some (.ins C dx [])->Cls K C->jQ K C "word"->Q .non (upd H x (.ins C dx [("word",y)]))->jFI K:=0
example jFJ(C:Addr):∀ x dx,vs=[.ref x]->H x=some (.ins C dx [])->Q .non (upd H x (.ins C dx [("word",.str rdW)]))->jFJ C:=0
example jJ5(C:Addr):∀ a dx,vs=[.ref a]->H a=some (.ins C dx [("word",.str rdW)])->Q (.str rdW) H->jJ5 C:=0
example Dae:InD 1 "State" yY ["self","word"] (jFI K):=by
 nomatch inD T.e T.kc3 T.p40,["self","word"]
 obtain⟨x,dx,C,y,rfl,hx,cl,n,q⟩:=h;exists _,(eI (kM (pv 0) (pv 1) rfl))
 exact⟨_,rfl,_,rfl,x,C,dx,_,rfl,hx,cl,n,(by decide),q⟩
example jJv:MtE 1 "called" yV ["self"] (jJ5 yV):=by
 nomatch i5 T.p41,["self"]
 obtain⟨a,dx,rfl,hx,q⟩:=h;exists _,(eI (gB (fH (pv 0) rfl)))
 exact⟨_,rfl,a,_,dx,_,_,rfl,hx,T.bv,T.bQ,rfl,q⟩
example Daf:MkD 2 "Ready" yV ["self"] (jFJ yV):=by
 nomatch mkD T.e T.kc4 T.p42,["self"]
 obtain⟨x,dx,rfl,hx,q⟩:=h;exists _,(eI (jU (jK2 (Dae T) hr.m rfl (dN (pv 0) (dN (kE T.bb rfl) dZ)))))
 exact⟨_,rfl,x,dx,yV,_,rfl,hx,T.bv,T.bQ,q⟩
noncomputable def dI(ps:List (Str×Int)):List (Key×V):=dG Sum.inr V.int ps
structure SA where
 s:Addr
 ds:Addr
 r:Addr
 m:Addr
structure StK(cS:Addr)(H:Hp)(S:SA)(rs:List (Str×Int)):Prop where
 o:H S.s=some (.ins cS S.ds [("rooms",.ref S.r),("amounts",.ref S.m)])
 r:∃ o,H S.r=some (.frz o (.dK (dI rs)))
structure xS(cS:Addr)(H:Hp)(S:SA)(rs am:List (Str×Int)):Prop where
 k:StK cS H S rs
 m:H S.m=some (.dK (dI am))
theorem StK.same(h:StK cS H S rs)(k:eR H H'):StK cS H' S rs:=let ⟨o,e⟩:=h.r;⟨k _ _ h.o,o,k _ _ e⟩
theorem xS.same(h:xS cS H S rs am)(k:eR H H'):xS cS H' S rs am:=⟨h.k.same k,k _ _ h.m⟩
example jFK(C:Addr):∀ (x dx a:Addr) (rs:List (Str×Int)),vs=[.ref x,.ref a]->H x=some (.ins C dx [])->H a=some (.dK (dI rs))->(rs.map (·.1)).Nodup->rs.length<=1000->(∀ r m H',(∀ b u,b≠x->H b=some u->H' b=some u)->H m=none->xS C H' ⟨x,dx,r,m⟩ rs (rs.map fun p=>(p.1,0))->Q .non H')->jFK C:=0
example jM8:MkD 1 "Stock" yJ ["self","rooms"] (jFK yJ):=by
 nomatch mkD T.e T.kc5 T.p43,["self","rooms"]
 obtain⟨x,dx,a,rs,rfl,hx,ha,nd,l1,q⟩:=h;exists _,(eE (kM (pv 0) (jHB (rG jDo rfl T.av jCO (dN (pv 1) dZ))) rfl) (eI (kM (pv 0) (jIi (rG (jB5 rfl) rfl T.av jCO (dN (rX (frees:=[]) ⟨by decide +kernel,rfl,rfl,by decide +kernel,trivial,by decide +kernel,oX rfl,rfl⟩ rfl (y3 (pv 1)) (fun _ _ _ _=>vT) (fun _ _ _ _=>by exact (nL (dN (pv 0) (dN fY dZ))))) dZ))) rfl)))
 have z2:2<=dL:=small (by decide);have nax:a≠x:=fN ha hx nofun
 refine⟨_,rfl,a,_,rfl,.inl ha,fun r nr=>⟨r,_,rfl,eO,fun o1=>?_⟩⟩;rw [tI];have uY:upd H r (.frz o1 (.dK (dI rs))) r=some (.frz o1 (.dK (dI rs))):=eO;have I0:=(Ini.nil hx).same (iS nr (.frz o1 (.dK (dI rs))));generalize upd H r _=H0 at I0 uY ⊢;have I1:=I0.set "rooms" (.ref r);replace uY:=I0.off "rooms" (.ref r) _ _ (by intro d f z;cases z) uY;refine⟨_,rfl,x,yJ,dx,_,rfl,I0.o,T.ak,T.bw,(by show 0<1000;decide),?_⟩;generalize upd _ x _=H1 at I1 uY ⊢;have ha1:=I1.k _ _ nax ha;refine⟨a,dI rs,ha1,fun o=>?_⟩;exists _,rfl,a,o,dI rs,rfl,eO;have ek:(dI rs).map (fun p=>kV p.1)=(rs.map (·.1)).map V.str:=by
  unfold dI dG;rw [dU,dU];rfl
 refine jCk (zA eO) (fun n y H'=>∃ t,y=.ref t/\H' t=some (.tup [n,.int 0])) (by rw [ek,c7,c7];exact kZ l1) (fun x _ H' R _ rr=>rr) (fun n _ H' R _ rr=>⟨_,rfl,z2,fun t nt=>rr _ _ (iS nt _) ⟨fun z=>z=t,fun b hb=>by subst hb;exact⟨nt,_,eO⟩,fun H3 h3=>⟨t,rfl,by rw [h3 t rfl];exact eO⟩⟩⟩) (fun D H2 ys s2 nD hD ly gy=>?_);have ha2:=s2 _ _ (eO (H:=H1) (a:=a) (o:=.frz o (.dK (dI rs))));refine⟨D,ys,dI (rs.map fun p=>(p.1,0)),rfl,hD,?_,fun i y kv e1 e2=>?_,?_,fun m nm=>⟨by rw [eJ (gM ha2 nm)];exact ha2,?_⟩⟩
 ·rw [ly,ek];unfold dI dG;rw [c7,c7,c7,c7]
 ·unfold dI dG at e2;rw [dU,getElem?_map] at e2;obtain⟨p,ep,rfl⟩:=dW.mp e2;obtain⟨t,rfl,ht⟩:=gy i (.str p.1) y (by rw [ek,dU,getElem?_map,ep];rfl) e1;exact⟨t,rfl,SqT.of ht⟩
 ·unfold dI dG;rw [dU,dU];show (rs.map fun p=>(Sum.inr p.1:Key)).Nodup;rw [show (rs.map fun p=>(Sum.inr p.1:Key))=(rs.map (·.1)).map (Sum.inr:Str->Key) by rw [dU];rfl];exact Pairwise.map _ (fun x y (hxy:x≠y) z=>hxy (by injection z)) nd
 have k2:∀ b u,H1 b=some u->upd (upd H2 m (.dK (dI (rs.map fun p=>(p.1,0))))) a (.dK (dI rs)) b=some u:=fun b u e=>by
  by_cases c:b=a
  ·subst c;rw [eO,<- ha1];exact e
  ·have:=s2 b u (by rw [eJ c];exact e);rw [eJ c,eJ (gM this nm)];exact this
 have nma:m≠a:=symm (gM ha2 nm);have sT:upd (upd H2 m (.dK (dI (rs.map fun p=>(p.1,0))))) a (.dK (dI rs)) m=some (.dK (dI (rs.map fun p=>(p.1,0)))):=by rw [eJ nma,eO]
 have nm1:H m=none:=I1.free (by
  cases e:H1 m with
  | none=>rfl
  | some u=>rw [s2 m u (by rw [eJ nma];exact e)] at nm;cases nm)
 have I2:=I1.same k2;replace uY:=k2 _ _ uY;generalize upd (upd H2 m _) a _=H3 at I2 uY sT ⊢;have I3:=I2.set "amounts" (.ref m);exact⟨_,rfl,x,yJ,dx,_,rfl,I2.o,T.ak,T.aG,(by show 1<1000;decide),q r m _ I3.k nm1 ⟨⟨I3.o,o1,I2.off _ _ _ _ (by intro d f z;cases z) uY⟩,I2.off _ _ _ _ (by intro d f z;cases z) sT⟩⟩
theorem yE(h:Rd H a (.dK (dG Sum.inr f l)))(n:Str):mM H a (.str n) ((gL l n).map f):=.inl ⟨_,Sum.inr n,h,rfl,(jEm jZ).symm⟩
example jM9(C:Addr):∀ S rs n,vs=[.ref S.s,.str n]->StK C H S rs->n∈kys rs->Q .non H->jM9 C:=0
example jGv:MtE 1 "know" yJ ["self","name"] (jM9 yJ):=by
 nomatch i5 T.p45,["self","name"]
 obtain⟨S,rs,n,rfl,K1,hn,q⟩:=h;exists _,(eI (iK (sR (jBQ hu (pv 1) (fH (pv 0) rfl))) (eI mV) iM))
 obtain⟨v,e⟩:=mO hn;have g:=yE (.inr K1.r) n;rw [e] at g;exact⟨_,rfl,_,rfl,S.s,yJ,S.ds,_,_,rfl,K1.o,T.ak,T.bw,rfl,S.r,_,rfl,g,_,rfl,hV q⟩
example jM_(C:Addr):∀ S rs am n v,vs=[.ref S.s,.str n]->xS C H S rs am->n∈kys rs->gL am n=some v->Q (.int v) H->jM_ C:=0
example jLw:MtE 2 "held" yJ ["self","name"] (jM_ yJ):=by
 nomatch i5 T.p44,["self","name"]
 obtain⟨S,rs,am,n,v,rfl,A1,hn,e,q⟩:=h;exists _,(eE (jU (iX 1 gA hr.m (pv 0) (dN (pv 1) dZ))) (eI (gB (dgA hu (fH (pv 0) rfl) (pv 1)))))
 have g:=lO jZ A1.m n;rw [e] at g;exact⟨_,rfl,S.s,_,S.ds,_,_,_,rfl,A1.k.o,rfl,T.ak,(jGv T),_,rfl,S,rs,n,rfl,A1.k,hn,_,rfl,S.s,yJ,S.ds,_,_,rfl,A1.k.o,T.ak,T.aG,rfl,_,rfl,S.m,_,rfl,g,q⟩
noncomputable def jGZ(H:Hp)(p:Addr)(ws:List (Str×Int)):Prop:=∃ ts,H p=some (.lst ts)/\ts.length=ws.length/\∀ (i:Nat) y,ts[i]?=some y->∃ g t,ws[i]?=some g/\y=.ref t/\H t=some (.tup [.str g.1,.int g.2])
example jHi(C:Addr):∀ S p rs ws,vs=[.ref S.s,.ref p]->StK C H S rs->jGZ H p ws->(∀ g∈ws,g.1∈kys rs)->Q .non H->jHi C:=0
example jEs:MtE 2 "know_all" yJ ["self","rows"] (jHi yJ):=by
 nomatch i5 T.p46,["self","rows","row"]
 obtain⟨S,p,rs,ws,rfl,K1,⟨ts,hp,lt,gt⟩,hw,q⟩:=h;exists _,(eI (nY PassesOwn.never rfl (oW (pv 1)) (pgA (i:=2) nZ) (eI (jU (iX 1 gA hr.m (pv 0) (dN (ixA pZ (pv 2) fY) dZ))))))
 refine⟨_,rfl,p,rfl,⟨_,SqL.of hp⟩,vM (K:=K) (a:=p) (xs:=ts) (fun i σ H'=>H'=H/\∃ v,σ=[some (.ref S.s),some (.ref p),v]) ⟨rfl,_,rfl⟩ (fun i σ H' _ z=>by rw [z.1];exact SqL.of hp) (fun i y σ H' hy z=>?_) (fun σ H' z=>?_)⟩
 ·obtain⟨rfl,v,rfl⟩:=z;obtain⟨g,t,eg,rfl,ht⟩:=gt i y hy;exact⟨_,rfl,S.s,_,S.ds,_,_,_,rfl,K1.o,rfl,T.ak,(jGv T),_,rfl,t,_,_,_,rfl,rfl,SqT.of ht,o9 (j:=0) rfl,S,rs,g.1,rfl,K1,hw g (mem_of_getElem? eg),rfl,_,rfl⟩
 ·obtain⟨rfl,v,rfl⟩:=z;exact q
noncomputable def uM(s:Int)(am:List (Str×Int))(g:Str×Int):List (Str×Int):=hJ am g.1 ((gL am g.1).getD 0+s*g.2)
theorem jP_(h:g.1∈kys am):kys (uM s am g)=kys am:=by
 unfold uM kys;rw [jFA];exact if_pos h
theorem jGw:∀ (ws am:List (Str×Int)),(∀ g∈ws,g.1∈kys am)->kys (ws.foldl (uM s) am)=kys am
 | [],_,_=>rfl
 | g::r,am,h=>by
   have e:=jP_ (s:=s) (h g eD);exact (jGw r _ fun g' hg=>by grind).trans e
example jIz(C:Addr):∀ S p rs am ws,vs=[.ref S.s,.ref p]->xS C H S rs am->jGZ H p ws->kys am=kys rs->am.length<=1000->(∀ g∈ws,∃ a r,gL am g.1=some a/\gL rs g.1=some r/\a+g.2<=r)->(∀ H',(∀ b u,b≠S.m->H b=some u->H' b=some u)->H' S.m=some (.dK (dI (ws.foldl (uM 1) am)))->Q .non H')->jIz C:=0
example jHj(C:Addr):∀ S p rs am ws,vs=[.ref S.s,.ref p]->xS C H S rs am->jGZ H p ws->kys am=kys rs->am.length<=1000->(∀ g∈ws,∃ a,gL am g.1=some a/\g.2<=a)->(∀ H',(∀ b u,b≠S.m->H b=some u->H' b=some u)->H' S.m=some (.dK (dI (ws.foldl (uM (-1)) am)))->Q .non H')->jHj C:=0
example jEQ:MtE 3 "put_all" yJ ["self","gifts"] (jIz yJ):=by
 nomatch i5 T.p48,["self","gifts","name","many"]
 obtain⟨S,p,rs,am,ws,rfl,A1,G,ek,la,hw,q⟩:=h;obtain⟨ts,hp,lt,gt⟩:=id G;have npm:p≠S.m:=fN hp A1.m nofun
 have kw:∀ g∈ws,g.1∈kys am:=fun g hg=>by
  obtain⟨a,r,ea,_⟩:=hw g hg;exact yT ea
 exists _,(eE (jU (iX 2 gA hr.m (pv 0) (dN (pv 1) dZ))) (eE (nY PassesOwn.never rfl (oW (pv 1)) (jD8 rfl (vN (pgA (i:=2) nZ) (vN (pgA (i:=3) nZ) jDl))) (eI (iK (tcA jGQ (jL oV (dgA hu (fH (pv 0) rfl) (pv 2)) (pv 3)) (dgA hu (fH (pv 0) rfl) (pv 2))) (eI mV) iM))) (eI (nY PassesOwn.never rfl (oW (pv 1)) (jD8 rfl (vN (pgA (i:=2) nZ) (vN (pgA (i:=3) nZ) jDl))) (eI (jMG hu (fH (pv 0) rfl) (pv 2) (pv 3) in_add (fun _ _ _=>rfl)))))))
 refine⟨_,rfl,S.s,_,S.ds,_,_,_,rfl,A1.k.o,rfl,T.ak,(jEs T),_,rfl,S,p,rs,ws,rfl,A1.k,G,fun g hg=>by rw [<- ek];exact kw g hg,?_⟩;refine⟨_,rfl,p,rfl,⟨_,SqL.of hp⟩,vM (K:=K) (a:=p) (xs:=ts) (fun i σ H'=>H'=H/\∃ v2 v3,σ=[some (.ref S.s),some (.ref p),v2,v3]) ⟨rfl,_,_,rfl⟩ (fun i σ H' _ z=>by rw [z.1];exact SqL.of hp) (fun i y σ H' hy z=>?_) (fun σ H' z=>?_)⟩
 ·obtain⟨rfl,v2,v3,rfl⟩:=z;obtain⟨g,t,eg,rfl,ht⟩:=gt i y hy;obtain⟨a,r,ea,er,le⟩:=hw g (mem_of_getElem? eg);have ga:=lO jZ A1.m g.1;rw [ea] at ga;obtain⟨o,hrr⟩:=A1.k.r;have gr:=yE (.inr ⟨o,hrr⟩) g.1;rw [er] at gr;exists t,[.str g.1,.int g.2],rfl,SqT.of ht,rfl,.str g.1,[.int g.2],rfl,.int g.2,[],rfl,rfl;exact⟨_,rfl,S.s,yJ,S.ds,_,_,rfl,A1.k.o,T.ak,T.aG,rfl,_,rfl,S.m,_,rfl,ga,_,rfl,_,_,rfl,rfl,_,rfl,S.s,yJ,S.ds,_,_,rfl,A1.k.o,T.ak,T.bw,rfl,_,rfl,S.r,_,rfl,gr,_,_,rfl,rfl,_,rfl,rY (by omega) ⟨rfl,_,_,rfl⟩⟩
 ·obtain⟨rfl,v2,v3,rfl⟩:=z;refine⟨_,rfl,p,rfl,⟨_,SqL.of hp⟩,vM (K:=K) (a:=p) (xs:=ts) (fun i σ H2=>(∀ b u,b≠S.m->H' b=some u->H2 b=some u)/\H2 S.m=some (.dK (dI ((ws.take i).foldl (uM (1)) am)))/\∃ v2 v3,σ=[some (.ref S.s),some (.ref p),v2,v3]) ⟨fun b u _ e=>e,A1.m,_,_,rfl⟩ (fun i σ H2 _ z=>SqL.of (z.1 _ _ npm hp)) (fun i y σ H2 hy z=>?_) (fun σ H2 z=>?_)⟩
  ·obtain⟨kp,sT,v2,v3,rfl⟩:=z;obtain⟨g,t,eg,rfl,ht⟩:=gt i y hy;have ek2:=jGw (s:=1) (ws.take i) am fun g hg=>kw g (List.mem_of_mem_take hg);obtain⟨va,ea⟩:=mO (show g.1∈kys ((ws.take i).foldl (uM (1)) am) by rw [ek2];exact kw g (mem_of_getElem? eg));have ga:=lO jZ sT g.1;rw [ea] at ga;have ln:((ws.take i).foldl (uM (1)) am).length<=1000:=by
    have:=congrArg List.length ek2;unfold kys at this;rw [c7,c7] at this;omega
   exists t,[.str g.1,.int g.2],rfl,SqT.of (kp _ _ (fN ht A1.m nofun) ht),rfl,.str g.1,[.int g.2],rfl,.int g.2,[],rfl,rfl;exists _,rfl,S.s,yJ,S.ds,_,_,rfl,kp _ _ (fN A1.k.o A1.m nofun) A1.k.o,T.ak,T.aG,rfl,_,rfl,S.m,_,rfl,ga,_,rfl,_,_,rfl,rfl,_,vP jZ sT ln g.1 (va+g.2);refine⟨fun b u nb e=>by rw [eJ nb];exact kp b u nb e,?_,_,_,rfl⟩;rw [eO,fZ,eg,Option.toList,lJ];show some (HO.dK (dI (hJ _ g.1 (va+g.2))))=some (HO.dK (dI (hJ _ g.1 ((gL _ g.1).getD 0+(1)*g.2))));rw [ea,pB,show va+(1)*g.2=va+g.2 by omega]
  ·obtain⟨kp,sT,v2,v3,rfl⟩:=z;rw [eX (by omega)] at sT;exact q H2 kp sT
example jEt:MtE 3 "draw_all" yJ ["self","wants"] (jHj yJ):=by
 nomatch i5 T.p49,["self","wants","name","many"]
 obtain⟨S,p,rs,am,ws,rfl,A1,G,ek,la,hw,q⟩:=h;obtain⟨ts,hp,lt,gt⟩:=id G;have npm:p≠S.m:=fN hp A1.m nofun
 have kw:∀ g∈ws,g.1∈kys am:=fun g hg=>by
  obtain⟨a, ea,_⟩:=hw g hg;exact yT ea
 exists _,(eE (jU (iX 2 gA hr.m (pv 0) (dN (pv 1) dZ))) (eE (nY PassesOwn.never rfl (oW (pv 1)) (jD8 rfl (vN (pgA (i:=2) nZ) (vN (pgA (i:=3) nZ) jDl))) (eI (iK (tcA jEG (dgA hu (fH (pv 0) rfl) (pv 2)) (pv 3)) (eI mV) iM))) (eI (nY PassesOwn.never rfl (oW (pv 1)) (jD8 rfl (vN (pgA (i:=2) nZ) (vN (pgA (i:=3) nZ) jDl))) (eI (jMG hu (fH (pv 0) rfl) (pv 2) (pv 3) in_sub (fun _ _ _=>rfl)))))))
 refine⟨_,rfl,S.s,_,S.ds,_,_,_,rfl,A1.k.o,rfl,T.ak,(jEs T),_,rfl,S,p,rs,ws,rfl,A1.k,G,fun g hg=>by rw [<- ek];exact kw g hg,?_⟩;refine⟨_,rfl,p,rfl,⟨_,SqL.of hp⟩,vM (K:=K) (a:=p) (xs:=ts) (fun i σ H'=>H'=H/\∃ v2 v3,σ=[some (.ref S.s),some (.ref p),v2,v3]) ⟨rfl,_,_,rfl⟩ (fun i σ H' _ z=>by rw [z.1];exact SqL.of hp) (fun i y σ H' hy z=>?_) (fun σ H' z=>?_)⟩
 ·obtain⟨rfl,v2,v3,rfl⟩:=z;obtain⟨g,t,eg,rfl,ht⟩:=gt i y hy;obtain⟨a, ea, le⟩:=hw g (mem_of_getElem? eg);have ga:=lO jZ A1.m g.1;rw [ea] at ga;exists t,[.str g.1,.int g.2],rfl,SqT.of ht,rfl,.str g.1,[.int g.2],rfl,.int g.2,[],rfl,rfl;exact⟨_,rfl,S.s,yJ,S.ds,_,_,rfl,A1.k.o,T.ak,T.aG,rfl,_,rfl,S.m,_,rfl,ga,_,rfl,_,_,rfl,rfl,_,rfl,rY (by omega) ⟨rfl,_,_,rfl⟩⟩
 ·obtain⟨rfl,v2,v3,rfl⟩:=z;refine⟨_,rfl,p,rfl,⟨_,SqL.of hp⟩,vM (K:=K) (a:=p) (xs:=ts) (fun i σ H2=>(∀ b u,b≠S.m->H' b=some u->H2 b=some u)/\H2 S.m=some (.dK (dI ((ws.take i).foldl (uM (-1)) am)))/\∃ v2 v3,σ=[some (.ref S.s),some (.ref p),v2,v3]) ⟨fun b u _ e=>e,A1.m,_,_,rfl⟩ (fun i σ H2 _ z=>SqL.of (z.1 _ _ npm hp)) (fun i y σ H2 hy z=>?_) (fun σ H2 z=>?_)⟩
  ·obtain⟨kp,sT,v2,v3,rfl⟩:=z;obtain⟨g,t,eg,rfl,ht⟩:=gt i y hy;have ek2:=jGw (s:=-1) (ws.take i) am fun g hg=>kw g (List.mem_of_mem_take hg);obtain⟨va,ea⟩:=mO (show g.1∈kys ((ws.take i).foldl (uM (-1)) am) by rw [ek2];exact kw g (mem_of_getElem? eg));have ga:=lO jZ sT g.1;rw [ea] at ga;have ln:((ws.take i).foldl (uM (-1)) am).length<=1000:=by
    have:=congrArg List.length ek2;unfold kys at this;rw [c7,c7] at this;omega
   exists t,[.str g.1,.int g.2],rfl,SqT.of (kp _ _ (fN ht A1.m nofun) ht),rfl,.str g.1,[.int g.2],rfl,.int g.2,[],rfl,rfl;exists _,rfl,S.s,yJ,S.ds,_,_,rfl,kp _ _ (fN A1.k.o A1.m nofun) A1.k.o,T.ak,T.aG,rfl,_,rfl,S.m,_,rfl,ga,_,rfl,_,_,rfl,rfl,_,vP jZ sT ln g.1 (va-g.2);refine⟨fun b u nb e=>by rw [eJ nb];exact kp b u nb e,?_,_,_,rfl⟩;rw [eO,fZ,eg,Option.toList,lJ];show some (HO.dK (dI (hJ _ g.1 (va-g.2))))=some (HO.dK (dI (hJ _ g.1 ((gL _ g.1).getD 0+(-1)*g.2))));rw [ea,pB,show va+(-1)*g.2=va-g.2 by omega]
  ·obtain⟨kp,sT,v2,v3,rfl⟩:=z;rw [eX (by omega)] at sT;exact q H2 kp sT
example jO_(C:Addr):∀ S rs am n k a r,vs=[.ref S.s,.str n,.int k]->xS C H S rs am->kys am=kys rs->am.length<=1000->gL am n=some a->gL rs n=some r->a+k<=r->(∀ H',(∀ b u,b≠S.m->H b=some u->H' b=some u)->H' S.m=some (.dK (dI (uM 1 am (n,k))))->Q .non H')->jO_ C:=0
example jMp:MtE 4 "put" yJ ["self","name","many"] (jO_ yJ):=by
 nomatch i5 T.p47,["self","name","many"]
 obtain⟨S,rs,am,n,k,a,r,rfl,A1,ek,la,ea,er,le,q⟩:=h;exists _,(eI (jU (iX 3 gA hr.m (pv 0) (dN (oQ (dN (nL (dN (pv 1) (dN (pv 2) dZ))) dZ)) dZ))))
 refine⟨_,rfl,S.s,_,S.ds,_,_,_,rfl,A1.k.o,rfl,T.ak,(jEQ T),_,rfl,_,rfl,wq2,fun t nt=>?_⟩;generalize e9:upd H t _=H1;have s1:=nS nt e9;have h1:=nE e9;refine⟨wq1,fun l nl=>?_⟩;generalize e9:upd H1 l _=H2;have s2:=nS nl e9;have h2:=nE e9;have s:=s1.trans s2;refine⟨S,l,rs,am,[(n,k)],rfl,A1.same s,⟨_,h2,rfl,fun i y hy=>?_⟩,ek,la,fun g hg=>?_,fun H3 k3 e3=>q H3 (fun b u nb e=>k3 b u nb (s _ _ e)) e3⟩
 ·match i,hy with
  | 0,hy=>exact⟨(n,k),t,rfl,(Option.some.inj hy).symm,s2 _ _ h1⟩
 ·rw [mem_singleton.mp hg];exact⟨a,r,ea,er,le⟩
structure PA where
 x:Addr
 dx:Addr
 cn:Addr
 rm:Addr
 st:Addr
 ds:Addr
 il:Addr
 path:Int
 T:SA
 I:SA
noncomputable def prF(A:PA):List (Str×V):=[("name",.str "press"),("can",.ref A.cn),("path",.int A.path),("rooms",.ref A.rm),("trays",.ref A.T.s),("inks",.ref A.I.s),("state",.ref A.st),("inside",.ref A.il)]
noncomputable abbrev vG:List (Str×Int):=[("plain",1000000000)]
noncomputable abbrev rmI:List (Str×Int):=[("black",1000000000),("colour",32)]
structure PrK(cP cS cR:Addr)(H:Hp)(A:PA):Prop where
 o:H A.x=some (.ins cP A.dx (prF A))
 cn:H A.cn=some (.tup [.str "both"])
 rm:∃ o,H A.rm=some (.frz o (.dK (dI vG)))
 st:H A.st=some (.ins cR A.ds [("word",.str rdW)])
 T:StK cS H A.T vG
 I:StK cS H A.I rmI
structure j7(cP cS cR:Addr)(H:Hp)(A:PA)(p b:Int)(ts:List V):Prop where
 k:PrK cP cS cR H A
 t:H A.T.m=some (.dK (dI [("plain",p)]))
 i:H A.I.m=some (.dK (dI [("black",b),("colour",0)]))
 l:H A.il=some (.lst ts)
 n:A.T.m≠A.I.m
noncomputable def Cst(o:HO):Prop:=(∃ xs,o=.tup xs)\/(∃ p u,o=.frz p u)\/∃ C d fs,o=.ins C d fs/\fs.length≠6
noncomputable abbrev oR(H H':Hp):Prop:=∀ b o,Cst o->H b=some o->H' b=some o
theorem yR(h:fs.length≠6):Cst (.ins C d fs):=.inr (.inr ⟨_,_,_,rfl,h⟩)
theorem jD0:Cst (.tup xs):=.inl ⟨_,rfl⟩
theorem jER:Cst (.frz p u):=.inr (.inl ⟨_,_,rfl⟩)
theorem jCv(s:eR H H'):oR H H':=fun b o _ e=>s b o e
theorem Cst.nd(h:Cst o):∀ k,o≠.dK k:=by rcases h with⟨xs,rfl⟩|⟨p,u,rfl⟩|⟨C,d,fs,rfl,n⟩<;>intro k z<;>cases z
theorem Cst.nl(h:Cst o):∀ k,o≠.lst k:=by rcases h with⟨xs,rfl⟩|⟨p,u,rfl⟩|⟨C,d,fs,rfl,n⟩<;>intro k z<;>cases z
theorem Cst.nt(h:Cst o):∀ k,o≠.tbl k:=by rcases h with⟨xs,rfl⟩|⟨p,u,rfl⟩|⟨C,d,fs,rfl,n⟩<;>intro k z<;>cases z
theorem Jat.cs(h:Jat cJ H J)(k:oR H H'):Jat cJ H' J:=⟨k _ _ (yR (by show 10≠6;decide)) h.o,k _ _ jD0 h.t,h.l⟩
theorem StK.cs(h:StK cS H S rs)(k:oR H H'):StK cS H' S rs:=let ⟨o,e⟩:=h.r;⟨k _ _ (yR (by show 2≠6;decide)) h.o,o,k _ _ jER e⟩
theorem PrK.cs(h:PrK cP cS cR H A)(k:oR H H'):PrK cP cS cR H' A :=
 let ⟨o1,h1⟩:=h.rm
 ⟨k _ _ (yR (by show 8≠6;decide)) h.o,k _ _ jD0 h.cn,⟨o1,k _ _ jER h1⟩,k _ _ (yR (by show 1≠6;decide)) h.st,h.T.cs k,h.I.cs k⟩
theorem j7.same(h:j7 cP cS cR H A p b ts)(k:eR H H'):j7 cP cS cR H' A p b ts:=⟨h.k.cs (jCv k),k _ _ h.t,k _ _ h.i,k _ _ h.l,h.n⟩
theorem j7.St(h:j7 cP cS cR H A p b ts):xS cS H A.T vG [("plain",p)]:=⟨h.k.T,h.t⟩
theorem j7.Si(h:j7 cP cS cR H A p b ts):xS cS H A.I rmI [("black",b),("colour",0)]:=⟨h.k.I,h.i⟩
noncomputable def Pre(A:PA)(H H':Hp):Prop:=∀ b o,b≠A.il->b≠A.T.m->b≠A.I.m->H b=some o->H' b=some o
theorem jCY(s:eR H H'):Pre A H H':=fun b o _ _ _ e=>s b o e
theorem Pre.trans(s:Pre A H H1)(r:Pre A H1 H2):Pre A H H2:=fun b o x y z e=>r b o x y z (s b o x y z e)
theorem Pre.cs(h:j7 cP cS cR H A p b ts)(k:Pre A H H'):oR H H':=fun a o c e=>k a o (fN e h.l (c.nl _)) (fN e h.t (c.nd _)) (fN e h.i (c.nd _)) e
theorem Pre.free(h:j7 cP cS cR H A p b ts)(h':j7 cP cS cR H' A p' b' ts')(k:Pre A H H')(n:H' l=none):H l=none:=by
 cases e:H l with
 | none=>rfl
 | some o =>
   by_cases c1:l=A.il
   ·rw [c1,h'.l] at n;cases n
   by_cases c2:l=A.T.m
   ·rw [c2,h'.t] at n;cases n
   by_cases c3:l=A.I.m
   ·rw [c3,h'.i] at n;cases n
   rw [k l o c1 c2 c3 e] at n;cases n
example jIA(cP cS cR:Addr):∀ (x dx cl pp:Addr) (path:Int),vs=[.ref x,.str "press",.ref cl,.int path,.ref pp,.int 1000000000,.int 32]->H x=some (.ins cP dx [])->H cl=some (.lst [.str "both"])->H pp=some (.dK (dI vG))->(∀ A H',(∀ b o,b≠x->H b=some o->H' b=some o)->A.x=x->A.path=path->j7 cP cS cR H' A 0 0 []->H A.il=none->H A.T.m=none->H A.I.m=none->Q .non H')->jIA cP cS cR:=0
example jPa:MkD 4 "Printer" yW ["self","name","can","path","papers","black","colour"] (jIA yW yJ yV):=by
 nomatch mkD T.e T.kc6 T.p50,["self","name","can","path","papers","black","colour"]
 obtain⟨x,dx,cl,pp,path,rfl,hx,oY,hpp,q⟩:=h;exists _,(eE (kM (pv 0) (pv 1) rfl) (eE (kM (pv 0) (rG jFF rfl T.bF jKY (dN (pv 2) dZ)) rfl) (eE (kM (pv 0) (pv 3) rfl) (eE (kM (pv 0) (jHB (rG jDo rfl T.av jCO (dN (pv 4) dZ))) rfl) (eE (kM (pv 0) (jEh (jM8 T) hr.m rfl (dN (pv 4) dZ)) rfl) (eE (kM (pv 0) (jEh (jM8 T) hr.m rfl (dN (jI_ (jEd (kE T.bc rfl) (pv 5) (jEd (kE T.be rfl) (pv 6) jI9)) rfl rfl (by decide) (by decide)) dZ)) rfl) (eE (kM (pv 0) (jDF (Daf T) hr.m rfl) rfl) (eI (kM (pv 0) (oQ dZ) rfl)))))))))
 have ncx:cl≠x:=fN oY hx nofun
 have npx:pp≠x:=fN hpp hx nofun
 have I0:=Ini.nil hx;have I1:=I0.set "name" (.str "press");refine⟨_,rfl,_,rfl,x,yW,dx,_,rfl,I0.o,T.ag,T.bx,(by show 0<1000;decide),?_⟩;generalize upd _ x _=H1 at I1 ⊢;refine⟨_,rfl,cl,_,rfl,.inl ⟨SqL.of (I1.k _ _ ncx oY),fun cn ncn=>?_⟩⟩;have nO:upd H1 cn (.tup [.str "both"]) cn=some (.tup [.str "both"]):=eO;replace I1:=I1.same (iS ncn (.tup [.str "both"]));generalize upd H1 cn _=H1 at I1 nO ⊢;have I2:=I1.set "can" (.ref cn);replace nO:=I1.off "can" (.ref cn) _ _ (by intro d f z;cases z) nO;refine⟨_,rfl,x,yW,dx,_,rfl,I1.o,T.ag,T.cT,(by show 1<1000;decide),?_⟩;generalize upd _ x _=H2 at I2 nO ⊢;have I3:=I2.set "path" (.int path);replace nO:=I2.off "path" (.int path) _ _ (by intro d f z;cases z) nO;refine⟨_,rfl,_,rfl,x,yW,dx,_,rfl,I2.o,T.ag,T.bR,(by show 2<1000;decide),?_⟩;generalize upd _ x _=H3 at I3 nO ⊢;have hpp3:=I3.k _ _ npx hpp;refine⟨_,rfl,pp,_,rfl,.inl hpp3,fun rm nrm=>⟨rm,_,rfl,eO,fun o1=>?_⟩⟩;rw [tI];have qE:upd H3 rm (.frz o1 (.dK (dI vG))) rm=some (.frz o1 (.dK (dI vG))):=eO;have s4:=iS nrm (.frz o1 (.dK (dI vG)));replace I3:=I3.same s4;replace nO:=s4 _ _ nO;generalize upd H3 rm _=H3 at I3 nO qE ⊢;have I4:=I3.set "rooms" (.ref rm);replace nO:=I3.off "rooms" (.ref rm) _ _ (by intro d f z;cases z) nO;replace qE:=I3.off "rooms" (.ref rm) _ _ (by intro d f z;cases z) qE;refine⟨_,rfl,x,yW,dx,_,rfl,I3.o,T.ag,T.bS,(by show 3<1000;decide),?_⟩;generalize upd _ x _=H4 at I4 nO qE ⊢;refine⟨_,rfl,fun tr dt ntr ndt nde=>⟨tr,dt,pp,vG,rfl,eO,?_,by decide +kernel,by show 1<=1000;decide,fun r1 m1 H5 k5 nm5 S5=>⟨rfl,?_⟩⟩⟩
 ·have e:=I4.k _ _ npx hpp;rw [eJ (gM e ntr),eJ (gM e ndt)];exact e
 have s5:=jB7 ntr ndt k5;have fm1:H4 m1=none:=by
  cases e:H4 m1 with
  | none=>rfl
  | some o=>rw [eJ (gM e ntr),eJ (gM e ndt),e] at nm5;cases nm5
 have ntx:tr≠x:=symm (gM I4.o ntr);have f1:=I4.free fm1;replace I4:=I4.same s5;replace nO:=s5 _ _ nO;replace qE:=s5 _ _ qE;have kS:∀ {S:SA} {rs am:List (Str×Int)} {H:Hp} {fs:List (Str×V)} {ks:List Str} {G:Hp} (I:Ini yW x dx G H fs ks) (f:Str) (v:V),S.s≠x->xS yJ H S rs am->xS yJ (upd H x (.ins yW dx (l7 f v fs))) S rs am:=fun I f v ns S=>by
  obtain⟨o,er⟩:=S.k.r;exact⟨⟨I.ofn f v _ _ ns S.k.o,o,I.off f v _ _ (by intro d f z;cases z) er⟩,I.off f v _ _ (by intro d f z;cases z) S.m⟩
 have I5:=I4.set "trays" (.ref tr);replace nO:=I4.off "trays" (.ref tr) _ _ (by intro d f z;cases z) nO;replace qE:=I4.off "trays" (.ref tr) _ _ (by intro d f z;cases z) qE;replace S5:=kS I4 "trays" (.ref tr) ntx S5;refine⟨_,rfl,x,yW,dx,_,rfl,I4.o,T.ag,T.aU,(by show 4<1000;decide),?_⟩;generalize upd _ x _=H6 at I5 nO qE S5 ⊢;refine fun ip nip=>?_;refine⟨_,rfl,_,rfl,eO,[(Sum.inr "black",.int 1000000000),(Sum.inr "colour",.int 32)],rfl,(by show 2<=15;decide),?_⟩;rw [jDZ (ks:=[Sum.inr "black",Sum.inr "colour"]) rfl (by decide +kernel)];have s7:eR H6 (upd (upd H6 ip (.dK [])) ip (.dK ([]++[((Sum.inr "black":Key),V.int 1000000000),(Sum.inr "colour",V.int 32)]))):=tY nip (iS nip _) _;have h7:upd (upd H6 ip (.dK [])) ip (.dK ([]++[((Sum.inr "black":Key),V.int 1000000000),(Sum.inr "colour",V.int 32)])) ip=some (.dK (dI rmI)):=eO;generalize upd (upd H6 ip _) ip _=H7 at s7 h7 ⊢;replace I5:=I5.same s7;replace nO:=s7 _ _ nO;replace qE:=s7 _ _ qE;replace S5:=S5.same s7;refine fun ik di nik ndi ndie=>⟨ik,di,ip,rmI,rfl,eO,(by rw [eJ (gM h7 nik),eJ (gM h7 ndi)];exact h7),by decide +kernel,by show 2<=1000;decide,fun r2 m2 H8 k8 nm8 S8=>⟨rfl,?_⟩⟩
 have s8:=jB7 nik ndi k8;have fm2:H7 m2=none:=by
  cases e:H7 m2 with
  | none=>rfl
  | some o=>rw [eJ (gM e nik),eJ (gM e ndi),e] at nm8;cases nm8
 have n12:m1≠m2:=gM S5.m fm2;have nix:ik≠x:=symm (gM I5.o nik);have f2:=I5.free fm2;replace I5:=I5.same s8;replace nO:=s8 _ _ nO;replace qE:=s8 _ _ qE;replace S5:=S5.same s8;have I6:=I5.set "inks" (.ref ik);replace nO:=I5.off "inks" (.ref ik) _ _ (by intro d f z;cases z) nO;replace qE:=I5.off "inks" (.ref ik) _ _ (by intro d f z;cases z) qE;replace S5:=kS I5 "inks" (.ref ik) ntx S5;replace S8:=kS I5 "inks" (.ref ik) nix S8;refine⟨_,rfl,x,yW,dx,_,rfl,I5.o,T.ag,T.bz,(by show 5<1000;decide),?_⟩;generalize upd _ x _=H9 at I6 nO qE S5 S8 ⊢;refine fun st ds nst nds ndse=>⟨st,ds,rfl,eO,⟨rfl,?_⟩⟩
 have xK:eR H9 (upd (upd (upd H9 ds (.own st)) st (.ins yV ds [])) st (.ins yV ds [("word",.str rdW)])):=jB7 nst nds fun b u n e=>by rw [eJ n];exact e
 have uW:upd (upd (upd H9 ds (.own st)) st (.ins yV ds [])) st (.ins yV ds [("word",.str rdW)]) st=some (.ins yV ds [("word",.str rdW)]):=eO;generalize upd (upd (upd H9 ds _) st _) st _=H10 at xK uW ⊢;have nsx:st≠x:=symm (gM I6.o nst);replace I6:=I6.same xK;replace nO:=xK _ _ nO;replace qE:=xK _ _ qE;replace S5:=S5.same xK;replace S8:=S8.same xK;have I7:=I6.set "state" (.ref st);replace nO:=I6.off "state" (.ref st) _ _ (by intro d f z;cases z) nO;replace qE:=I6.off "state" (.ref st) _ _ (by intro d f z;cases z) qE;replace S5:=kS I6 "state" (.ref st) ntx S5;replace S8:=kS I6 "state" (.ref st) nix S8;refine⟨_,rfl,x,yW,dx,_,rfl,I6.o,T.ag,T.bT,(by show 6<1000;decide),?_⟩;replace uW:=I6.ofn "state" (.ref st) _ _ nsx uW;generalize upd _ x _=H11 at I7 nO qE uW S5 S8 ⊢;refine⟨d9 _,fun il uT=>?_⟩;generalize e9:upd H11 il _=H12;have vF:=nS uT e9;have hil:=nE e9;have fl:=I7.free uT;replace I7:=I7.same vF;have I8:=I7.set "inside" (.ref il);refine⟨_,rfl,x,yW,dx,_,rfl,I7.o,T.ag,T.aH,(by show 7<1000;decide),?_⟩;replace S5:=kS I7 "inside" (.ref il) ntx (S5.same vF);replace S8:=kS I7 "inside" (.ref il) nix (S8.same vF);exact q ⟨x,dx,cn,rm,st,ds,il,path,⟨tr,dt,r1,m1⟩,⟨ik,di,r2,m2⟩⟩ _ I8.k rfl rfl ⟨⟨I8.o,I7.off _ _ _ _ (by intro d f z;cases z) (vF _ _ nO),⟨o1,I7.off _ _ _ _ (by intro d f z;cases z) (vF _ _ qE)⟩,(eJ nsx).trans (vF _ _ uW),S5.k,S8.k⟩,S5.m,S8.m,I7.off _ _ _ _ (by intro d f z;cases z) hil,n12⟩ fl f1 f2
example jGx(cP cS cR:Addr):∀ A,vs=[.ref A.x]->PrK cP cS cR H A->Q (.str rdW) H->jGx cP cS cR:=0
example jEu:MtE 2 "stands" yW ["self"] (jGx yW yJ yV):=by
 nomatch i5 T.p51,["self"]
 obtain⟨A,rfl,P,q⟩:=h;exists _,(eI (gB (kT 1 gA hr.m (fH (pv 0) rfl))))
 exact⟨_,rfl,A.x,yW,A.dx,_,_,rfl,P.o,T.ag,T.bT,rfl,A.st,_,A.ds,_,_,_,rfl,P.st,rfl,T.bv,(jJv T),A.st,A.ds,rfl,P.st,q⟩
example jGy(cP cS cR:Addr):∀ A,vs=[.ref A.x]->PrK cP cS cR H A->(∀ p H',eR H H'->H p=none->H' p=some (.dK (dI vG))->Q (.ref p) H')->jGy cP cS cR:=0
example jHV:MtE 1 "papers" yW ["self"] (jGy yW yJ yV):=by
 nomatch i5 T.p52,["self"]
 obtain⟨A,rfl,P,q⟩:=h;obtain⟨o,hm⟩:=P.rm;exists _,(eI (gB (rG jDo rfl T.av jCO (dN (fH (pv 0) rfl) dZ))))
 exact⟨_,rfl,A.x,yW,A.dx,_,_,rfl,P.o,T.ag,T.bS,rfl,A.rm,_,rfl,.inr ⟨o,hm⟩,fun l nl=>q l _ (iS nl _) nl eO⟩
example jGz(cP cS cR:Addr):∀ A p b ts,vs=[.ref A.x]->j7 cP cS cR H A p b ts->(∀ l H',eR H H'->H l=none->H' l=some (.lst ts)->Q (.ref l) H')->jGz cP cS cR:=0
example jEv:MtE 1 "within" yW ["self"] (jGz yW yJ yV):=by
 nomatch i5 T.p54,["self"]
 obtain⟨A,p,b,ts,rfl,P,q⟩:=h;exists _,(eI (gB (rG jF8 rfl T.ar jCu (dN (fH (pv 0) rfl) dZ))))
 exact⟨_,rfl,A.x,yW,A.dx,_,_,rfl,P.k.o,T.ag,T.aH,rfl,A.il,_,rfl,.inl (SqL.of P.l),fun l nl=>q l _ (iS nl _) nl eO⟩
example jDj(cP cS cR:Addr):∀ A,vs=[.ref A.x]->PrK cP cS cR H A->Q .non H->jDj cP cS cR:=0
example jB1:MtE 3 "must_be_ready" yW ["self"] (jDj yW yJ yV):=by
 nomatch i5 T.p57,["self"]
 obtain⟨A,rfl,P,q⟩:=h;exists _,(eI (iK (tcA jDV (kT 2 gA hr.m (pv 0)) (kE T.bb rfl)) (eI mV) iM))
 exact⟨_,rfl,A.x,_,A.dx,_,_,_,rfl,P.o,rfl,T.ag,(jEu T),A,rfl,P,rfl,_,rfl,jKz rfl q⟩
example jEw(cP cS cR:Addr):∀ A p b ts,vs=[.ref A.x,.str "plain"]->j7 cP cS cR H A p b ts->Q (.int p) H->jEw cP cS cR:=0
example jFD:MtE 3 "paper_left" yW ["self","kind"] (jEw yW yJ yV):=by
 nomatch i5 T.p53,["self","kind"]
 obtain⟨A,p,b,ts,rfl,P,q⟩:=h;exists _,(eI (gB (iX 2 gA hr.m (fH (pv 0) rfl) (dN (pv 1) dZ))))
 exact⟨_,rfl,A.x,yW,A.dx,_,_,rfl,P.k.o,T.ag,T.aU,rfl,A.T.s,_,A.T.ds,_,_,_,rfl,P.k.T.o,rfl,T.ak,(jLw T),_,rfl,A.T,vG,_,"plain",p,rfl,P.St,by decide +kernel,by rw [qO,if_pos rfl],q⟩
theorem add1(n:Str)(s p k:Int):uM s [(n,p)] (n,k)=[(n,p+s*k)]:=by
 unfold uM hJ;simp [gL]
theorem add2(h:a≠b)(s p q y z:Int):[(a,y),(b,z)].foldl (uM s) [(a,p),(b,q)]=[(a,p+s*y),(b,q+s*z)]:=by
 unfold uM hJ;simp [gL,h,h.symm]
theorem j7.trays(h:j7 cP cS cR H A p b ts)(k:∀ b u,b≠A.T.m->H b=some u->H' b=some u)(e:H' A.T.m=some (.dK (dI [("plain",p')]))):j7 cP cS cR H' A p' b ts/\Pre A H H' :=
 have f:Pre A H H':=fun b o _ n _ e=>k b o n e
 ⟨⟨h.k.cs (f.cs h),e,k _ _ (symm h.n) h.i,k _ _ (fN h.l h.t nofun) h.l,h.n⟩,f⟩
theorem j7.inks(h:j7 cP cS cR H A p b ts)(k:∀ b u,b≠A.I.m->H b=some u->H' b=some u)(e:H' A.I.m=some (.dK (dI [("black",b'),("colour",0)]))):j7 cP cS cR H' A p b' ts/\Pre A H H' :=
 have f:Pre A H H':=fun b o _ _ n e=>k b o n e
 ⟨⟨h.k.cs (f.cs h),k _ _ h.n h.t,e,k _ _ (fN h.l h.i nofun) h.l,h.n⟩,f⟩
theorem j7.inside(h:j7 cP cS cR H A p b ts)(k:∀ b u,b≠A.il->H b=some u->H' b=some u)(e:H' A.il=some (.lst ts')):j7 cP cS cR H' A p b ts'/\Pre A H H' :=
 have f:Pre A H H':=fun b o n _ _ e=>k b o n e
 ⟨⟨h.k.cs (f.cs h),k _ _ (fN h.t h.l nofun) h.t,k _ _ (fN h.i h.l nofun) h.i,e,h.n⟩,f⟩
example jIB(cP cS cR:Addr):∀ A p b ts k,vs=[.ref A.x,.str "plain",.int k]->j7 cP cS cR H A p b ts->p+k<=1000000000->(∀ H',Pre A H H'->j7 cP cS cR H' A (p+k) b ts->Q .non H')->jIB cP cS cR:=0
example jJw:MtE 5 "load" yW ["self","kind","many"] (jIB yW yJ yV):=by
 nomatch i5 T.p55,["self","kind","many"]
 obtain⟨A,p,b,ts,k,rfl,P,le,q⟩:=h;exists _,(eI (jU (iX 4 gA hr.m (fH (pv 0) rfl) (dN (pv 1) (dN (pv 2) dZ)))))
 refine⟨_,rfl,A.x,yW,A.dx,_,_,rfl,P.k.o,T.ag,T.aU,rfl,A.T.s,_,A.T.ds,_,_,_,rfl,P.k.T.o,rfl,T.ak,(jMp T),_,rfl,_,rfl,A.T,vG,_,"plain",k,p,1000000000,rfl,P.St,rfl,by show 1<=1000;decide,by rw [qO,if_pos rfl],by rw [qO,if_pos rfl],le,fun H' k' e=>?_⟩;rw [add1,Int.one_mul] at e;obtain⟨P',f⟩:=P.trays k' e;exact q H' f P'
theorem jJ6(hl:H l=some (.lst [.ref t1,.ref t2]))(h1:H t1=some (.tup [.str a,.int y]))(h2:H t2=some (.tup [.str b,.int z])):jGZ H l [(a,y),(b,z)]:=by
 refine⟨_,hl,rfl,fun i v e1=>?_⟩
 match i,e1 with
 | 0,e1=>exact⟨(a,y),t1,rfl,(Option.some.inj e1).symm,h1⟩
 | 1,e1=>exact⟨(b,z),t2,rfl,(Option.some.inj e1).symm,h2⟩
noncomputable abbrev blW:Str:=c9 "black"
noncomputable abbrev coW:Str:=c9 "colour"
theorem jIC:blW≠coW:=by decide +kernel
example jID(cP cS cR:Addr):∀ A p b ts y,vs=[.ref A.x,.int y,.int 0]->j7 cP cS cR H A p b ts->b+y<=1000000000->(∀ H',Pre A H H'->j7 cP cS cR H' A p (b+y) ts->Q .non H')->jID cP cS cR:=0
example jJx:MtE 4 "fill" yW ["self","black","coloured"] (jID yW yJ yV):=by
 nomatch i5 T.p56,["self","black","coloured"]
 obtain⟨A,p,b,ts,y,rfl,P,le,q⟩:=h;have z2:2<=dL:=small (by decide);exists _,(eI (jU (iX 3 gA hr.m (fH (pv 0) rfl) (dN (oQ (dN (nL (dN (kE T.bc rfl) (dN (pv 1) dZ))) (dN (nL (dN (kE T.be rfl) (dN (pv 2) dZ))) dZ))) dZ))))
 refine⟨_,rfl,A.x,yW,A.dx,_,_,rfl,P.k.o,T.ag,T.bz,rfl,A.I.s,_,A.I.ds,_,_,_,rfl,P.k.I.o,rfl,T.ak,(jEQ T),_,rfl,z2,fun t1 nt1=>?_⟩;generalize e9:upd H t1 _=H1;have s1:=nS nt1 e9;have h1:=nE e9;refine⟨_,rfl,z2,fun t2 nt2=>?_⟩;generalize e9:upd H1 t2 _=H2;have s2:=nS nt2 e9;have h2:=nE e9;refine⟨z2,fun l nl=>?_⟩;generalize e9:upd H2 l _=H3;have s3:=nS nl e9;have hl:=nE e9;have nX:=(s1.trans s2).trans s3;have P3:=P.same nX;refine⟨A.I,l,rmI,_,[(blW,y),(coW,0)],rfl,P3.Si,jJ6 hl ((s2.trans s3) _ _ h1) (s3 _ _ h2),rfl,by show 2<=1000;decide,fun g hg=>?_,fun H4 k4 e4=>?_⟩
 ·rcases dX.mp hg with rfl|hg
  ·exact⟨b,1000000000,by rw [qO,if_pos rfl],by rw [qO,if_pos rfl],le⟩
  ·rw [mem_singleton.mp hg];exact⟨0,32,by rw [qO,if_neg jIC,qO,if_pos rfl],by rw [qO,if_neg jIC,qO,if_pos rfl],by show (0:Int)+0<=32;decide⟩
 ·rw [add2 jIC,Int.one_mul] at e4;obtain⟨P',f⟩:=P3.inks k4 e4;exact q H4 ((jCY nX).trans f) P'
example jEx(cP cS cR:Addr):∀ A p b ts,vs=[.ref A.x]->j7 cP cS cR H A p b ts->(∀ l H',Pre A H H'->H l=none->H' l=some (.lst (ts.take 1))->j7 cP cS cR H' A p b (ts.drop 1)->Q (.ref l) H')->jEx cP cS cR:=0
example jEy:MtE 1 "oldest" yW ["self"] (jEx yW yJ yV):=by
 nomatch i5 T.p60,["self"]
 obtain⟨A,p,b,ts,rfl,P,q⟩:=h;have z1:1<=dL:=small (by decide);exists _,(eI (gB (zB (mD (fH (pv 0) rfl) (fun _=>rfl)) (oQ (dN (qV fE PySem.F.slot_list_pop PySem.F.type_list_pop jPy (fH (pv 0) rfl) (dN fY dZ)) dZ)) (oQ dZ))))
 exists _,rfl,A.x,yW,A.dx,_,_,rfl,P.k.o,T.ag,T.aH,rfl;cases ts with
 | nil =>
   refine⟨false,.inl ⟨_,SqL.of P.l,rfl⟩,hV ⟨d9 _,fun l nl=>?_⟩⟩;have s:=iS nl (.lst []);exact q l _ (jCY s) nl eO (P.same s)
 | cons t r =>
   refine⟨true,.inl ⟨_,SqL.of P.l,rfl⟩,kL ?_⟩;refine⟨_,rfl,A.x,yW,A.dx,_,_,rfl,P.k.o,T.ag,T.aH,rfl,.inl ⟨rfl,_,SqL.of P.l⟩,A.il,_,0,0,t,rfl,rfl,P.l,by decide,by decide,uI (by decide) (by grind),rfl,z1,fun l nl=>?_⟩;have kp:∀ b o,b≠A.il->H b=some o->upd H A.il (.lst ((t::r).eraseIdx 0)) b=some o:=fun b o nb e=>by rw [eJ nb];exact e
   have hi:upd H A.il (.lst ((t::r).eraseIdx 0)) A.il=some (.lst r):=by rw [eO];rfl
   have nl0:H l=none:=by
    have ne:l≠A.il:=fun z=>by rw [z,hi] at nl;cases nl
    rw [eJ ne] at nl;exact nl
   generalize upd H A.il (.lst ((t::r).eraseIdx 0))=H1 at kp hi nl ⊢;obtain⟨P1,f⟩:=P.inside kp hi;have s:=iS nl (.lst [t]);exact q l _ (f.trans (jCY s)) nl0 eO (P1.same s)
noncomputable def jNW(cP cS cR:Addr):Sp:=jEx cP cS cR
example jE9:MtE 4 "push" yW ["self"] (jNW yW yJ yV):=by
 nomatch i5 T.p59,["self"]
 obtain⟨A,p,b,ts,rfl,P,q⟩:=h;exists _,(eE (jU (kT 3 gA hr.m (pv 0))) (eI (gB (kT 1 gA hr.m (pv 0)))))
 exact⟨_,rfl,A.x,_,A.dx,_,_,_,rfl,P.k.o,rfl,T.ag,(jB1 T),A,rfl,P.k,_,rfl,A.x,_,A.dx,_,_,_,rfl,P.k.o,rfl,T.ag,(jEy T),A,p,b,ts,rfl,P,q⟩
example jIE(cP cS cR:Addr):∀ A p b ts tag y,vs=[.ref A.x,tag,.str "plain",.int y,.int 0]->j7 cP cS cR H A p b ts->1<=p->y<=b->ts.length<=800->(∀ l H' (ov:Bool),(ov=true ↔ A.path<((ts.length+1:Nat):Int))->Pre A H H'->H l=none->H' l=some (.lst (if ov=true then (ts++[tag]).take 1 else []))->j7 cP cS cR H' A (p-1) (b-y) (if ov=true then (ts++[tag]).drop 1 else ts++[tag])->Q (.ref l) H')->jIE cP cS cR:=0
example jJy:MtE 4 "feed" yW ["self","tag","kind","black","coloured"] (jIE yW yJ yV):=by
 nomatch i5 T.p58,["self","tag","kind","black","coloured"]
 obtain⟨A,p,b,ts,tag,y,rfl,P,p1,yb,lt,q⟩:=h;have z1:1<=dL:=small (by decide);have z2:2<=dL:=small (by decide);exists _,(eE (jU (kT 3 gA hr.m (pv 0))) (eE (iK (tcA jEG (iX 3 gA hr.m (pv 0) (dN (pv 2) dZ)) fY) (eI mV) iM) (eE (jU (iX 3 gA hr.m (fH (pv 0) rfl) (dN (oQ (dN (nL (dN (kE T.bc rfl) (dN (pv 3) dZ))) (dN (nL (dN (kE T.be rfl) (dN (pv 4) dZ))) dZ))) dZ))) (eE (jU (iX 3 gA hr.m (fH (pv 0) rfl) (dN (oQ (dN (nL (dN (pv 2) (dN fY dZ))) dZ)) dZ))) (eE (jU (qV fE PySem.F.slot_list_append PySem.F.type_list_append zD (fH (pv 0) rfl) (dN (pv 1) dZ))) (eI (gB (zB (tcA jGQ (nK vW rfl T.aj fK (dN (fH (pv 0) rfl) dZ)) (fH (pv 0) rfl)) (kT 1 gA hr.m (pv 0)) (oQ dZ)))))))))
 exists _,rfl,A.x,_,A.dx,_,_,_,rfl,P.k.o,rfl,T.ag,(jB1 T),A,rfl,P.k;exists _,rfl,A.x,_,A.dx,_,_,_,rfl,P.k.o,rfl,T.ag,(jFD T),_,rfl,A,p,b,ts,rfl,P;refine⟨_,_,rfl,rfl,_,rfl,rY (by omega) ?_⟩;refine⟨_,rfl,A.x,yW,A.dx,_,_,rfl,P.k.o,T.ag,T.bz,rfl,A.I.s,_,A.I.ds,_,_,_,rfl,P.k.I.o,rfl,T.ak,(jEt T),_,rfl,z2,fun t1 nt1=>?_⟩;generalize e9:upd H t1 _=H1;have s1:=nS nt1 e9;have h1:=nE e9;refine⟨_,rfl,z2,fun t2 nt2=>?_⟩;generalize e9:upd H1 t2 _=H2;have s2:=nS nt2 e9;have h2:=nE e9;refine⟨z2,fun l nl=>?_⟩;generalize e9:upd H2 l _=H3;have s3:=nS nl e9;have hl:=nE e9;have nX:=(s1.trans s2).trans s3;have P3:=P.same nX;refine⟨A.I,l,rmI,_,[(blW,y),(coW,0)],rfl,P3.Si,jJ6 hl ((s2.trans s3) _ _ h1) (s3 _ _ h2),rfl,by show 2<=1000;decide,fun g hg=>?_,fun H4 k4 e4=>?_⟩
 ·rcases dX.mp hg with rfl|hg
  ·exact⟨b,by rw [qO,if_pos rfl],yb⟩
  ·rw [mem_singleton.mp hg];exact⟨0,by rw [qO,if_neg jIC,qO,if_pos rfl],Int.le_refl 0⟩
 rw [add2 jIC,show b + -1*y=b-y by omega] at e4;obtain⟨P4,f4⟩:=P3.inks k4 e4;refine⟨_,rfl,A.x,yW,A.dx,_,_,rfl,P4.k.o,T.ag,T.aU,rfl,A.T.s,_,A.T.ds,_,_,_,rfl,P4.k.T.o,rfl,T.ak,(jEt T),_,rfl,z2,fun t3 nt3=>?_⟩;generalize e9:upd H4 t3 _=H5;have s5:=nS nt3 e9;have h5:=nE e9;refine⟨z1,fun l2 xL=>?_⟩;generalize e9:upd H5 l2 _=H6;have s6:=nS xL e9;have hl2:=nE e9;have P6:=P4.same (s5.trans s6);refine⟨A.T,l2,vG,_,[(c9 "plain",1)],rfl,P6.St,⟨_,hl2,rfl,fun i v e1=>?_⟩,rfl,by show 1<=1000;decide,fun g hg=>?_,fun H7 k7 e7=>?_⟩
 ·match i,e1 with
  | 0,e1=>exact⟨(c9 "plain",1),t3,rfl,(Option.some.inj e1).symm,s6 _ _ h5⟩
 ·rw [mem_singleton.mp hg];exact⟨p,by rw [qO,if_pos rfl],p1⟩
 rw [nG,List.foldl_nil,add1,show p + -1*1=p-1 by omega] at e7;obtain⟨P7,f7⟩:=P6.trays k7 e7;exists _,rfl,A.x,yW,A.dx,_,_,rfl,P7.k.o,T.ag,T.aH,rfl,.inl ⟨rfl,_,SqL.of P7.l⟩,_,rfl,A.il,_,_,rfl,rfl,P7.l,kZ (by omega);have k8:∀ b o,b≠A.il->H7 b=some o->upd H7 A.il (.lst (ts++[tag])) b=some o:=fun b o nb e=>by rw [eJ nb];exact e
 have hi8:upd H7 A.il (.lst (ts++[tag])) A.il=some (.lst (ts++[tag])):=eO;generalize upd H7 A.il (.lst (ts++[tag]))=H8 at k8 hi8 ⊢;obtain⟨P8,f8⟩:=P7.inside k8 hi8;have fr:Pre A H H8:=((((jCY nX).trans f4).trans (jCY (s5.trans s6))).trans f7).trans f8;have ll:(ts++[tag]).length=ts.length+1:=by rw [length_append];rfl
 exists _,rfl,A.x,yW,A.dx,_,_,rfl,P8.k.o,T.ag,T.aH,rfl,A.il,_,rfl,.inl (SqL.of P8.l),_,rfl,A.x,yW,A.dx,_,_,rfl,P8.k.o,T.ag,T.bR,rfl,_,_,rfl,rfl,_,rfl;rw [ll];refine ite2 (fun c=>?_) (fun c=>?_)
 ·exact⟨_,rfl,A.x,_,A.dx,_,_,_,rfl,P8.k.o,rfl,T.ag,(jEy T),A,_,_,_,rfl,P8,fun l H9 f9 nl hl9 P9=>q l H9 true ⟨fun _=>of_decide_eq_true c,fun _=>rfl⟩ (fr.trans f9) (fr.free P P8 nl) hl9 P9⟩
 ·refine⟨d9 _,fun l nl=>?_⟩;have s9:=iS nl (.lst []);exact q l _ false ⟨fun z=>(by cases z),fun z=>absurd (decide_eq_true z) c⟩ (fr.trans (jCY s9)) (fr.free P P8 nl) eO (P8.same s9)
noncomputable abbrev pPl:Str:=c9 "paper:plain"
example jLx(cJ:Addr):∀ J,vs=[.ref J.x]->Jat cJ H J->(∀ l H',eR H H'->H l=none->H' l=some (.lst [.str pPl])->Q (.ref l) H')->jLx cJ:=0
example Dag:Dfn 1 "needs" ["job"] (jLx yQ):=by
 nomatch mJ T.e T.p14,["job","told"]
 obtain⟨J,rfl,j,q⟩:=h;exists _,(eE (psA (i:=1) nZ (oQ (dN (jL jDX (kE T.aL rfl) (fH (pv 0) rfl)) dZ))) (eE (iK (tcA jCr (fH (pv 0) rfl) m3) (eI mV) iM) (eE (iK (tcA jDV (fH (pv 0) rfl) (kE T.bL rfl)) (eI mV) iM) (eE (iK (tcA jCr (fH (pv 0) rfl) m3) (eI mV) iM) (eE (iK (mD (fH (pv 0) rfl) (fun _=>rfl)) (eI mV) iM) (eI (gB (pv 1))))))))
 refine⟨_,rfl,J.x,yQ,J.dx,_,_,rfl,j.o,T.ah,T.aM,rfl,_,_,rfl,rfl,small (by decide +kernel),wq1,fun l nl=>?_⟩;rw [show c9 "paper:" ++ u9=pPl by decide +kernel];generalize e9:upd H l _=H1;have s1:=nS nl e9;have hl:=nE e9;have j1:=j.same s1;refine⟨_,rfl,J.x,yQ,J.dx,_,_,rfl,j1.o,T.ah,T.bo,rfl,rfl,_,rfl,hV ?_⟩;refine⟨_,rfl,J.x,yQ,J.dx,_,_,rfl,j1.o,T.ah,T.bn,rfl,rfl,_,rfl,jKz rfl ?_⟩;refine⟨_,rfl,J.x,yQ,J.dx,_,_,rfl,j1.o,T.ah,T.bp,rfl,rfl,_,rfl,hV ?_⟩;refine⟨_,rfl,J.x,yQ,J.dx,_,_,rfl,j1.o,T.ah,T.bN,rfl,_,rfl,hV ?_⟩;exact⟨_,rfl,q l _ s1 nl hl⟩
example jPb(cP cS cR:Addr):∀ (A:PA),vs=[.ref A.x,.str pPl]->PrK cP cS cR H A->(∀ H',eR H H'->Q (.bl true) H')->jPb cP cS cR:=0
example Dah:Dfn 2 "has" ["printer","need"] (jPb yW yJ yV):=by
 nomatch mJ T.e T.p16,["printer","need","start"]
 obtain⟨A,rfl,P,q⟩:=h;exists _,(eE (nY PassesOwn.never rfl (jH4 (nL (dN (kE T.aL rfl) (dN (kE T.aQ rfl) dZ)))) (pgA (i:=2) nZ) (eI (iK (mD (qV fV fT fR jBM (pv 1) (dN (pv 2) dZ)) (fun _=>rfl)) (eI (gB (jKF (xX hu (jCj jGa (pv 1) (jCL (nK jCc rfl T.aj fK (dN (pv 2) dZ))) jCK) (kT 1 gA hr.m (pv 0)))))) iM))) (eI (gB (jCs jB4 (pv 1) (fH (pv 0) rfl) rfl))))
 refine⟨wq2,fun tp ntp=>?_⟩;generalize e9:upd H tp _=H1;have s1:=nS ntp e9;have h1:=nE e9;have P1:=P.cs (jCv s1);refine⟨tp,rfl,⟨_,SqT.of h1⟩,jI6 (K:=K) (a:=tp) (xs:=[V.str wN,V.str yO]) (fun i σ H'=>H'=H1/\(∃ v2,σ=[some (.ref A.x),some (.str pPl),v2])/\i=0) ⟨rfl,⟨_,rfl⟩,rfl⟩ (fun i σ H' _ z=>by rw [z.1];exact SqT.of h1) (fun i y σ H' hy z=>?_) (fun σ H' z=>absurd z.2.2 (by show ¬ (2=0);decide))⟩;obtain⟨rfl,⟨v2,rfl⟩,rfl⟩:=z;obtain rfl:=Option.some.inj hy;exists _,rfl,rfl,_,rfl,_,_,rfl,rfl,_,rfl;rw [show Txt.startswith pPl wN=true by decide +kernel];refine kL ⟨_,rfl,_,rfl,_,rfl,small (by decide +kernel),_,rfl,_,rfl,small (by decide +kernel),?_⟩;rw [show Txt.slice pPl (some ((wN.length:Nat):Int)) none=c9 "plain" by decide +kernel];exact⟨_,rfl,A.x,_,A.dx,_,_,_,rfl,P1.o,rfl,T.ag,(jHV T),A,rfl,P1,fun p H2 s2 np hp=>⟨p,_,rfl,lO jZ hp _,q _ (s1.trans s2)⟩⟩
example jLy(cJ cP cS cR:Addr):∀ (J:JB) (A:PA),vs=[.ref J.x,.ref A.x]->Jat cJ H J->PrK cP cS cR H A->(∀ l H',eR H H'->H l=none->H' l=some (.lst [])->Q (.ref l) H')->jLy cJ cP cS cR:=0
example jNa:Dfn 3 "lacks" ["job","printer"] (jLy yQ yW yJ yV):=by
 nomatch mJ T.e T.p15,["job","printer"]
 obtain⟨J,A,rfl,j,P,q⟩:=h;exists _,(eI (gB (rX (frees:=[ ("printer",1) ]) ⟨by decide +kernel,rfl,rfl,by decide +kernel,⟨⟨rfl,rfl,rfl,by decide +kernel⟩,trivial⟩,by decide +kernel,oX rfl,rfl⟩ rfl (oW (jV (Dag T) hr.m rfl (dN (pv 0) dZ))) (fun _ _ _ _=>by exact (vS (qM (jC3 (K:=K) rfl (jV (Dah T) hr.m rfl (dN (pv 1) (dN (pv 0) dZ))) (fun _=>rfl))))) (fun _ _ _ _=>by exact (pv 0)))))
 refine⟨_,rfl,J,rfl,j,fun l H1 s1 nl hl=>?_⟩;refine⟨l,rfl,⟨_,SqL.of hl⟩,jC5 (vR (K:=K) (SqL.of hl)) (fun _=>false) (fun a b _=>True) (kZ (by show 1<=1000;decide)) (fun v hv G R sG rr=>?_) (fun v hv G R sG e rr=>by cases e) (fun D H2 ys s2 nD hD ly gy=>?_)⟩
 ·obtain rfl:=mem_singleton.mp hv;exact⟨_,rfl,_,rfl,A,rfl,P.cs (jCv (s1.trans sG)),fun G2 k2=>⟨_,rfl,rr G2 k2⟩⟩
 ·obtain rfl:ys=[]:=List.length_eq_zero_iff.mp ly;exact q D H2 (s1.trans s2) (s1.free nD) hD
example jIF(cJ cP cS cR:Addr):∀ (J:JB) (A:PA) (l:Addr),vs=[.ref J.x,.ref l]->Jat cJ H J->PrK cP cS cR H A->H l=some (.lst [.ref A.x])->(∀ v H',eR H H'->Q v H')->jIF cJ cP cS cR:=0
example jPc:Dfn 4 "fitting" ["job","printers"] (jIF yQ yW yJ yV):=by
 nomatch mJ T.e T.p17,["job","printers","rows","names"]
 obtain⟨J,A,l,rfl,j,P,hl,q⟩:=h;exists _,(eE (jD3 (i:=2) (frees:=[ ("job",0) ]) ⟨by decide +kernel,rfl,rfl,by decide +kernel,⟨⟨rfl,rfl,rfl,by decide +kernel⟩,trivial⟩,by decide +kernel,oX rfl,rfl⟩ nZ rfl rfl rfl (oW (pv 1)) (fun _ _ _ _=>vT) (fun _ _ _ _=>by exact (nL (dN (jGU (K:=K) rfl (pv 0) rfl) (dN (jV (jNa T) hr.m rfl (dN (pv 1) (dN (pv 0) dZ))) dZ))))) (eE (jK3 (i:=3) (frees:=[]) ⟨by decide +kernel,rfl,rfl,rfl,by decide +kernel,trivial,by decide +kernel,oX rfl,rfl⟩ nZ rfl rfl rfl (oW (pv 2)) (fun _ _ _ _=>by exact (vS (qM (jC3 (K:=K) rfl (pv 1) (fun _=>rfl))))) (fun _ _ _ _=>by exact (pv 0))) (eE (iK (qM (mD (pv 3) (fun _=>rfl))) (eI mV) iM) (eI (gB (pv 3))))))
 refine⟨_,rfl,l,rfl,⟨_,SqL.of hl⟩,jCk (vR (K:=K) (SqL.of hl)) (fun x y H3=>∃ t m,y=.ref t/\H3 t=some (.tup [.str "press",.ref m])/\H3 m=some (.lst [])) (kZ (by show 1<=1000;decide)) (fun x _ H' R _ rr=>rr) (fun v hv G R sG rr=>?_) (fun D H1 ys s1 nD hD ly gy=>?_)⟩
 ·obtain rfl:=mem_singleton.mp hv;have PG:=P.cs (jCv sG);refine⟨_,rfl,A.x,yW,A.dx,_,_,rfl,PG.o,T.ag,T.bx,rfl,_,rfl,_,rfl,J,A,rfl,j.same sG,PG,fun m G1 k1 nm hm=>⟨wq2,fun t nt=>?_⟩⟩;have k2:=iS nt (.tup [V.str "press",V.ref m]);refine rr _ _ (k1.trans k2) ⟨fun b=>b=t\/b=m,fun b hb=>?_,fun H3 h3=>⟨t,m,rfl,?_,?_⟩⟩
  ·rcases hb with rfl|rfl
   ·exact⟨k1.free nt,_,eO⟩
   ·exact⟨nm,_,k2 _ _ hm⟩
  ·rw [h3 t (.inl rfl),eO]
  ·rw [h3 m (.inr rfl),k2 _ _ hm]
 obtain⟨y,rfl⟩:=List.length_eq_one_iff.mp (show ys.length=1 from ly);obtain⟨t,m,rfl,ht,hm⟩:=gy 0 (.ref A.x) y rfl rfl;refine⟨_,rfl,D,rfl,⟨_,SqL.of hD⟩,jNu (vR (K:=K) (SqL.of hD)) (fun _=>true) (fun _=>.str "press") (kZ (by show 1<=1000;decide)) (fun v hv=>?_) (fun N H2 s2 nN hN=>?_)⟩
 ·obtain rfl:=mem_singleton.mp hv;exact⟨t,_,_,rfl,ht,fun H' R k rr=>⟨_,rfl,_,.inl ⟨_,SqL.of (k _ _ hm),rfl⟩,rr⟩,fun H' R k pp rr=>⟨_,rfl,rr⟩⟩
 ·exact⟨_,rfl,true,.inl ⟨_,SqL.of hN,rfl⟩,hV ⟨_,rfl,q _ _ (s1.trans s2)⟩⟩
noncomputable def LyAt(cS:Addr)(H:Hp)(a:Addr):Prop:=∃ dx,H a=some (.ins cS dx [("cells",.int 1),("backs",.bl false)])
theorem LyAt.same(h:LyAt cS H a)(k:eR H H'):LyAt cS H' a:=let ⟨dx,e⟩:=h;⟨dx,k _ _ e⟩
noncomputable def jEz(H:Hp)(y:V):Prop:=∃ (t f b:Addr) (fs bs:List Int),y=.ref t/\H t=some (.tup [.ref f,.ref b])/\H f=some (.lst (fs.map V.int))/\H b=some (.lst (bs.map V.int))/\fs.length=1/\bs.length=1
theorem jEz.same(h:jEz H y)(k:eR H H'):jEz H' y:=let ⟨t,f,b,fs,bs,e,e1,e2,e3,l⟩:=h;⟨t,f,b,fs,bs,e,k _ _ e1,k _ _ e2,k _ _ e3,l⟩
example jFL(K:PySem.W.Frag):∀ (f n:Int),vs=[.int f,.int 1,.int n]->0<=f->f<=10000->(∀ p (cs:List Int) H',eR H H'->H p=none->H' p=some (.lst (cs.map V.int))->cs.length=1->Q (.ref p) H')->jFL K:=0
example jLz:Dfn 1 "cells_from" ["first","many","pages"] (jFL K):=by
 nomatch mJ T.e T.p61,["first","many","pages"]
 obtain⟨f,n,rfl,f0,f1,q⟩:=h;exists _,(eI (gB (rX (frees:=[ ("pages",2) ]) ⟨by decide +kernel,rfl,rfl,by decide +kernel,⟨⟨rfl,rfl,rfl,by decide +kernel⟩,trivial⟩,by decide +kernel,oX rfl,rfl⟩ rfl (jN9 rfl T.au (dN (pv 0) (dN (jL oV (pv 0) (pv 1)) dZ))) (fun _ _ _ _=>vT) (fun _ _ _ _=>by exact (zB (tcA jDW (pv 0) (pv 1)) (pv 0) (rF T.bf rfl))))))
 exists _,rfl,_,rfl,_,rfl,_,_,rfl,rfl,_,_,rfl,⟨by omega,by omega,by omega,by omega⟩
 rw [show (f+1-f).toNat=1 from by omega];refine zC (jGb f 1 H) (fun _=>true) (fun v=>match v with|.int x=>.int (if x<=n then x else 0)|v=>v) (kZ (by show 1<=1000;decide)) (fun x hx H' R _ r=>r) (fun x hx H' R sm _ r=>?_) (fun D H' sm hD hH=>?_)
 ·obtain⟨i,_,rfl⟩:=dR.mp hx;exists _,rfl,_,rfl,_,_,rfl,rfl,_,rfl;dsimp only at r;by_cases c:f+((i:Nat):Int)<=n
  ·rw [if_pos c] at r;exact rW c ⟨_,rfl,r⟩
  ·rw [if_neg c] at r;exact rY c r
 ·refine q D ((range 1).map fun i=>if f+((i:Nat):Int)<=n then f+((i:Nat):Int) else 0) H' sm hD ?_ (by rw [c7,fD]);rw [hH,fW.mpr (fun _ _=>rfl),dU,dU];rfl
example jE_(K:PySem.W.Frag):∀ x dx C c b,vs=[.ref x,c,b]->H x=some (.ins C dx [])->Cls K C->jQ K C "cells"->jQ K C "backs"->Q .non (upd H x (.ins C dx [("cells",c),("backs",b)]))->jE_ K:=0
example jQa:InD 1 "Layout" yU ["self","cells","backs"] (jE_ K):=by
 nomatch inD T.e T.kc7 T.p62,["self","cells","backs"]
 obtain⟨x,dx,C,c,b,rfl,hx,cl,n1,n2,q⟩:=h;exists _,(eE (kM (pv 0) (pv 1) rfl) (eI (kM (pv 0) (pv 2) rfl)))
 exists _,rfl,_,rfl,x,C,dx,_,rfl,hx,cl,n1,(by decide)
 refine⟨_,rfl,_,rfl,x,C,dx,_,rfl,eO,cl,n2,(by show 1<1000;decide),?_⟩;rw [tI];exact q
example jHk(C:Addr):∀ x dx,vs=[.ref x]->H x=some (.ins C dx [])->Q .non (upd H x (.ins C dx [("cells",.int 1),("backs",.bl false)]))->jHk C:=0
example Dai:MkD 2 "One" yK ["self"] (jHk yK):=by
 nomatch mkD T.e T.kc8 T.p66,["self"]
 obtain⟨x,dx,rfl,hx,q⟩:=h;exists _,(eI (jU (jK2 (jQa T) hr.m rfl (dN (pv 0) (dN fY (dN o8 dZ))))))
 exact⟨_,rfl,x,dx,_,_,_,rfl,hx,T.aA,T.aV,T.bA,q⟩
example jPd(cS:Addr):∀ a,vs=[.ref a]->LyAt cS H a->Q (.int 1) H->jPd cS:=0
example jIG:MtE 1 "per_sheet" yK ["self"] (jPd yK):=by
 nomatch i5 T.p63,["self"]
 obtain⟨a,rfl,⟨dx,hx⟩,q⟩:=h;exists _,(eI (gB (zB (mD (fH (pv 0) rfl) (fun _=>rfl)) (jL jC6 fY (fH (pv 0) rfl)) (fH (pv 0) rfl))))
 exact⟨_,rfl,a,_,dx,_,_,rfl,hx,T.aA,T.bA,rfl,_,rfl,hV ⟨_,rfl,a,_,dx,_,_,rfl,hx,T.aA,T.aV,rfl,q⟩⟩
example jFM(cS:Addr):∀ a f n,vs=[.ref a,.int f,.int n]->LyAt cS H a->0<=f->f<=9000->(∀ y H',eR H H'->New H H' (fun H3=>jEz H3 y)->Q y H')->jFM cS:=0
example jHW:MtE 2 "sheet_from" yK ["self","first","pages"] (jFM yK):=by
 nomatch i5 T.p65,["self","first","pages","front"]
 obtain⟨a,f,n,rfl,⟨dx,hx⟩,f0,f1,q⟩:=h;exists _,(eE (psA (i:=3) nZ (jV (jLz T) hr.m rfl (dN (pv 1) (dN (fH (pv 0) rfl) (dN (pv 2) dZ))))) (eE (iK (mD (fH (pv 0) rfl) (fun _=>rfl)) (eI mV) iM) (eI (gB (nL (dN (pv 3) (dN (jL op_rep (oQ (dN (rF T.bf rfl) dZ)) (fH (pv 0) rfl)) dZ)))))))
 refine⟨_,rfl,_,rfl,a,_,dx,_,_,rfl,hx,T.aA,T.aV,rfl,_,rfl,f,n,rfl,by omega,by omega,fun p ps H1 s1 np hp lp=>?_⟩;have wS:=s1 _ _ hx;refine⟨_,rfl,a,_,dx,_,_,rfl,wS,T.aA,T.bA,rfl,_,rfl,hV ?_⟩;refine⟨_,rfl,wq1,fun pb nb=>?_⟩;generalize e9:upd H1 pb _=H2;have s2:=nS nb e9;have hb:=nE e9;refine⟨_,rfl,a,_,dx,_,_,rfl,s2 _ _ wS,T.aA,T.aV,rfl,pb,_,_,rfl,rfl,hb,by decide,by decide,wq1,fun pc nc=>?_⟩;have s3:=iS nc (.lst [V.int 0]);have hc:upd H2 pc (.lst [V.int 0]) pc=some (.lst (([0]:List Int).map V.int)):=eO;rw [show (gC (1:Int).toNat [V.int 0]).flatten=[V.int 0] from rfl];generalize upd H2 pc _=H3 at s3 hc ⊢;refine⟨wq2,fun t nt=>?_⟩;have qZ:=s3 _ _ (s2 _ _ hp);have s13:=(s1.trans s2).trans s3;refine q _ _ (s13.trans (iS nt _)) ⟨fun z=>z=t\/z=p\/z=pc,?_,fun H4 h4=>⟨t,p,pc,ps,[0],rfl,?_,?_,?_,lp,rfl⟩⟩
 ·rintro z (rfl|rfl|rfl)
  ·exact⟨s13.free nt,_,eO⟩
  ·exact⟨np,_,by rw [eJ (gM qZ nt)];exact qZ⟩
  ·exact⟨(s1.trans s2).free nc,_,by rw [eJ (gM hc nt)];exact hc⟩
 ·rw [h4 t (.inl rfl)];exact eO
 ·rw [h4 p (.inr (.inl rfl)),eJ (gM qZ nt)];exact qZ
 ·rw [h4 pc (.inr (.inr rfl)),eJ (gM hc nt)];exact hc
noncomputable def jNb(H:Hp)(p:Addr):Prop:=∃ ys,H p=some (.lst ys)/\0<ys.length/\ys.length<=3/\∀ y∈ys,jEz H y
example jNc(cS:Addr):∀ a n,vs=[.ref a,.int n]->LyAt cS H a->1<=n->n<=3->(∀ p H',eR H H'->jNb H' p->Q (.ref p) H')->jNc cS:=0
example jNX:MtE 3 "laid" yK ["self","pages"] (jNc yK):=by
 nomatch i5 T.p64,["self","pages"]
 obtain⟨a,n,rfl,hl,n0,n1,q⟩:=h;exists _,(eI (gB (rX (frees:=[ ("pages",1) ,("self",0) ]) ⟨by decide +kernel,rfl,rfl,by decide +kernel,⟨⟨rfl,rfl,rfl,by decide +kernel⟩,⟨⟨rfl,rfl,rfl,by decide +kernel⟩,trivial⟩⟩,by decide +kernel,oX rfl,rfl⟩ rfl (jOH rfl T.au (dN (rF T.cG rfl) (dN (jL oV (pv 1) fY) (dN (kT 1 gA hr.m (pv 0)) dZ)))) (fun _ _ _ _=>vT) (fun _ _ _ _=>by exact (jCh (P:=P) (w:=w) (K:=K) (mg:=mg) (base:=base) ⟨rfl,rfl,rfl,rfl,rfl⟩ 2 gA hr.m (pv 2) (dN (pv 0) (dN (pv 1) dZ)))))))
 obtain⟨dx,hx⟩:=id hl;exists _,rfl,_,_,rfl,rfl,_,rfl,a,_,dx,_,_,_,rfl,hx,rfl,T.aA,(jIG T),a,rfl,hl,_,_,_,rfl,⟨by decide,by decide,by omega,by omega,by omega,by omega⟩
 have c0:(0:Int)<=(n-1)/1:=mI (by omega) (by decide);have c1:(n-1)/1*1<=n-1:=Int.ediv_mul_le _ (by decide);have ec:(if (1:Int)<n+1 then (n+1-1-1)/1+1 else 0).toNat=((n-1)/1+1).toNat:=by
  grind
 rw [ec];generalize (n-1)/1=m at c0 c1 ⊢;refine jCk (jNp 1 1 (m+1).toNat H) (fun x y H3=>jEz H3 y) ?_ (fun x hx' H' R _ r=>r) (fun x hx' H' R sm r=>?_) (fun D H' ys sm hD hH hl' hg=>?_)
 ·rw [c7,fD];exact kZ (by omega)
 ·obtain⟨i,hi,rfl⟩:=dR.mp hx';have wW:=iW.mp hi;exact⟨_,rfl,a,_,dx,_,_,_,rfl,sm _ _ hx,rfl,T.aA,(jHW T),_,rfl,_,rfl,a,_,_,rfl,hl.same sm,by omega,by omega,fun y H'' s2 nw=>r y H'' s2 nw⟩
 ·rw [c7,fD] at hl';refine q D H' sm ⟨ys,hH,by omega,by omega,fun y hy=>?_⟩;obtain⟨i,ei⟩:=mem_iff_getElem?.mp hy;have hi:i<(m+1).toNat:=by rw [<- hl'];exact (List.getElem?_eq_some_iff.mp ei).1
  exact hg i _ y (by rw [getElem?_map,List.getElem?_range hi];rfl) ei
noncomputable def jLA(cS:Addr):Sp:=fun vs H Q _=>vs=[.str wOne]/\∀ a H',eR H H'->LyAt cS H' a->Q (.ref a) H'
example jMq:Dfn 4 "layout_of" ["text"] (jLA yK):=by
 nomatch mJ T.e T.p67,["text"]
 obtain⟨rfl,q⟩:=h;exists _,(eE (iK (tcA qL (pv 0) kU) (eI (gB (jDF (Dai T) hr.m rfl))) iM) (eE mV (eI mV)))
 exact⟨_,rfl,rfl,_,rfl,rW rfl (fun x dx nx nd ne=>⟨x,dx,rfl,eO,rfl,q x _ (jB7 nx nd fun b u n e=>by rw [eJ n];exact e) ⟨dx,eO⟩⟩)⟩
example jHl(cJ:Addr):∀ J i,vs=[.ref J.x,.int i]->Jat cJ H J->Q (.str u9) H->jHl cJ:=0
example jNY:Dfn 1 "paper_of" ["job","sheet"] (jHl yQ):=by
 nomatch mJ T.e T.p69,["job","sheet"]
 obtain⟨J,i,rfl,j,q⟩:=h;exists _,(eE (iK (PW.pt (jD6 (tcA qL (pv 1) (rF T.cI rfl)) (jDk (tcA jCr (fH (pv 0) rfl) m3)))) (eI (gB (fH (pv 0) rfl))) iM) (eI (gB (fH (pv 0) rfl))))
 refine⟨_,rfl,rfl,_,rfl,ite2 (fun _=>⟨_,rfl,J.x,yQ,J.dx,_,_,rfl,j.o,T.ah,T.bo,rfl,rfl,_,rfl,hV ?_⟩) (fun _=>hV ?_)⟩
 ·exact⟨_,rfl,J.x,yQ,J.dx,_,_,rfl,j.o,T.ah,T.aM,rfl,q⟩
 ·exact⟨_,rfl,J.x,yQ,J.dx,_,_,rfl,j.o,T.ah,T.aM,rfl,q⟩
example jGA(cJ:Addr):∀ J,vs=[.ref J.x]->Jat cJ H J->1<=J.p->J.p<=3->(∀ p H',eR H H'->jNb H' p->Q (.ref p) H')->jGA cJ:=0
example jMr:Dfn 5 "sheets_of" ["job"] (jGA yQ):=by
 nomatch mJ T.e T.p68,["job"]
 obtain⟨J,rfl,j,p0,p1,q⟩:=h;exists _,(eI (gB (iX 3 gA hr.m (jV (jMq T) hr.m rfl (dN (fH (pv 0) rfl) dZ)) (dN (fH (pv 0) rfl) dZ))))
 refine⟨_,rfl,J.x,yQ,J.dx,_,_,rfl,j.o,T.ah,T.bn,rfl,rfl,fun y H1 s1 Y=>?_⟩;obtain⟨dy,hy⟩:=id Y;exact⟨y,_,dy,_,_,_,rfl,hy,rfl,T.aA,(jNX T),_,rfl,J.x,yQ,J.dx,_,_,rfl,(j.same s1).o,T.ah,T.bi,rfl,y,J.p,rfl,Y,p0,p1,fun p H' s2 W=>q p H' (s1.trans s2) W⟩
example jFa(K:PySem.W.Frag):∀ (x:Int),vs=[.int x,.non]->Q (.bl false) H->jFa K:=0
example jKt:Dfn 1 "is_coloured" ["page","colour"] (jFa K):=by
 nomatch mJ T.e T.p71,["page","colour"]
 obtain⟨x,rfl,q⟩:=h;exists _,(eI (gB (jD7 (ecA jCr (pv 1) m3) (jCT (jPt jDW jDW (ixA pZ (pv 1) fY) (pv 0) (ixA pZ (pv 1) fY))))))
 exact⟨_,rfl,rfl,false,rfl,hV q⟩
theorem jQb(xs:List Int)(p:Int->Bool):(((xs.map V.int).filter fun v=>match v with|.int x=>p x|_=>false).map fun v=>v)=(xs.filter p).map V.int:=by
 rw [xO];induction xs with
 | nil=>rfl
 | cons x r ih =>
   grind
example jJ7(K:PySem.W.Frag):∀ (t:V),vs=[t,.non]->jEz H t->(∀ t (y:Int) H',eR H H'->H t=none->H' t=some (.tup [.int y,.int 0])->0<=y->y<=2->Q (.ref t) H')->jJ7 K:=0
example jQc:Dfn 2 "ink_of" ["sheet","colour"] (jJ7 K):=by
 nomatch mJ T.e T.p70,["sheet","colour","printed","coloured"]
 obtain⟨t,rfl,⟨ta,x8,ba,fs,bs,rfl,ht,hf,hb,lf,lb⟩,q⟩:=h;exists _,(eE (jD3 (i:=2) (frees:=[]) ⟨by decide +kernel,rfl,rfl,by decide +kernel,trivial,by decide +kernel,oX rfl,rfl⟩ nZ rfl rfl rfl (oW (jL jKP (ixA pZ (pv 0) fY) (ixA pZ (pv 0) fY))) (fun _ _ _ _=>by exact (vS (tcA jDV (pv 0) (rF T.bf rfl)))) (fun _ _ _ _=>by exact (pv 0))) (eE (psA (i:=3) nZ (nK vW rfl T.aj fK (dN (rX (frees:=[ ("colour",1) ]) ⟨by decide +kernel,rfl,rfl,by decide +kernel,⟨⟨rfl,rfl,rfl,by decide +kernel⟩,trivial⟩,by decide +kernel,oX rfl,rfl⟩ rfl (oW (pv 2)) (fun _ _ _ _=>by exact (vS (jC3 (K:=K) rfl (jV (jKt T) hr.m rfl (dN (pv 0) (dN (pv 1) dZ))) (fun _=>rfl)))) (fun _ _ _ _=>by exact (pv 0))) dZ))) (eI (gB (nL (dN (jL jH5 (nK vW rfl T.aj fK (dN (pv 2) dZ)) (pv 3)) (dN (pv 3) dZ)))))))
 refine⟨_,rfl,ta,_,_,_,rfl,rfl,SqT.of ht,o9 (j:=0) rfl,_,rfl,ta,_,_,_,rfl,rfl,SqT.of ht,o9 (j:=1) rfl,x8,ba,_,_,rfl,rfl,hf,hb,(by rw [c7,c7];exact small (by omega)),fun pc npc=>?_⟩;rw [<- eB];have s1:=iS npc (.lst ((fs++bs).map V.int));have ll:(fs++bs).length=2:=by rw [length_append];omega
 generalize fs++bs=cs at s1 ll ⊢;refine⟨pc,rfl,⟨_,SqL.of eO⟩,zC (vR (K:=K) (SqL.of eO)) (fun v=>match v with|.int x=>!decide (V.int x=V.int 0)|_=>false) (fun v=>v) (by rw [c7];exact kZ (by omega)) (fun x hx H' R _ r=>?_) (fun x hx H' R sm _ r=>⟨_,rfl,r⟩) (fun D H2 s2 hD hH=>?_)⟩
 ·obtain⟨y,_,rfl⟩:=dR.mp hx;exact⟨_,rfl,rfl,_,rfl,r⟩
 rw [jQb] at hH;have lp:=eA (fun x=>!decide (V.int x=V.int 0)) cs;generalize cs.filter (fun x=>!decide (V.int x=V.int 0))=ps at hH lp ⊢;refine⟨_,rfl,D,rfl,⟨_,SqL.of hH⟩,zC (vR (K:=K) (SqL.of hH)) (fun v=>false) (fun v=>v) (by rw [c7];exact kZ (by omega)) (fun x hx H' R sm r=>?_) (fun x hx H' R sm e r=>by cases e) (fun D2 H3 s3 nB hH3=>?_)⟩
 ·obtain⟨y,_,rfl⟩:=dR.mp hx;exact⟨_,rfl,_,rfl,y,rfl,_,rfl,r⟩
 rw [show (((ps.map V.int).filter fun _=>false).map fun v=>v)=[] by rw [jD.mpr (fun _ _=>by decide)];rfl] at hH3;exists D2,_,rfl,.inl (SqL.of hH3);exact⟨_,rfl,D,_,rfl,.inl (SqL.of (s3 _ _ hH)),_,rfl,_,_,rfl,rfl,_,rfl,wq2,fun p np=>q p _ _ (((s1.trans s2).trans s3).trans (iS np _)) (((s1.trans s2).trans s3).free np) eO (by rw [c7];show (0:Int)<=(ps.length:Int)-0;omega) (by rw [c7];show (ps.length:Int)-0<=2;omega)⟩
structure RU where
 a:Addr
 dx:Addr
 ik:Addr
 J:JB
 n:Nat
 o:Nat
 pt:Bool
 br:Bool
noncomputable def pO(A:PA)(r:RU):List (Str×V):=[("job",.ref r.J.x),("inks",.ref r.ik),("passed",.int ((r.o-1:Nat):Int)),("printer",if r.pt=true then .ref A.x else .non),("slipped",.bl (decide (1<=r.o))),("broken",.bl r.br)]
noncomputable def jKB(H:Hp)(p:Addr)(n:Nat):Prop:=∃ ob ys,H p=some (.frz ob (.lst ys))/\ys.length=n/\∀ y∈ys,∃ t v,y=.ref t/\H t=some (.tup [.int v,.int 0])/\0<=v/\v<=2
theorem jKB.cs(h:jKB H p n)(k:oR H H'):jKB H' p n:=let ⟨ob,ys,e,l,g⟩:=h;⟨ob,ys,k _ _ jER e,l,fun y hy=>let ⟨t,v,e1,e2,e3⟩:=g y hy;⟨t,v,e1,k _ _ jD0 e2,e3⟩⟩
structure kK(eQ cJ:Addr)(H:Hp)(A:PA)(r:RU):Prop where
 o:H r.a=some (.ins eQ r.dx (pO A r))
 j:Jat cJ H r.J
 i:jKB H r.ik r.n
 n0:0<r.n
 n3:r.n<=3
 le:r.o<=r.n+1
theorem kK.cs(h:kK eQ cJ H A r)(k:oR H H')(ho:H' r.a=some (.ins eQ r.dx (pO A r))):kK eQ cJ H' A r:=⟨ho,h.j.cs k,h.i.cs k,h.n0,h.n3,h.le⟩
theorem kK.same(h:kK eQ cJ H A r)(k:eR H H'):kK eQ cJ H' A r:=h.cs (jCv k) (k _ _ h.o)
theorem jLB{C d:Addr}{fs:List (Str×V)}{H:Hp}{a:Addr}(ho:H a=some (.ins C d fs))(h6:fs.length=6){b:Addr}{o:HO}(c:Cst o)(e:H b=some o):b≠a:=fN e ho (by
 rcases c with⟨xs,rfl⟩|⟨p,u,rfl⟩|⟨C,d,fs,rfl,n⟩
 ·intro z;cases z
 ·intro z;cases z
 grind)
theorem kK.cst(h:kK eQ cJ H A r)(k:∀ b o,b≠r.a->H b=some o->H' b=some o):oR H H':=fun b o c e=>k b o (jLB h.o rfl c e) e
theorem kK.set{eQ cJ:Addr}{H:Hp}{A:PA}{r r':RU}(h:kK eQ cJ H A r)(e1:r'.a=r.a)(e2:r'.dx=r.dx)(e3:r'.J=r.J)(e4:r'.ik=r.ik)(e5:r'.n=r.n)(le:r'.o<=r.n+1):kK eQ cJ (upd H r.a (.ins eQ r.dx (pO A r'))) A r':=by
 have k:oR H (upd H r.a (.ins eQ r.dx (pO A r'))):=h.cst fun b o n e=>by rw [eJ n];exact e
 exact⟨by rw [e1,e2];exact eO,by rw [e3];exact h.j.cs k,by rw [e4,e5];exact h.i.cs k,by rw [e5];exact h.n0,by rw [e5];exact h.n3,by rw [e5];exact le⟩
theorem kK.pre(h:kK eQ cJ H A r)(P:j7 cP cS cR H A p b ts)(k:Pre A H H'):kK eQ cJ H' A r:=h.cs (k.cs P) (k _ _ (fN h.o P.l nofun) (fN h.o P.t nofun) (fN h.o P.i nofun) h.o)
theorem j7.off(P:j7 cP cS cR H A p b ts)(h:kK eQ cJ H A r)(k:∀ b o,b≠r.a->H b=some o->H' b=some o):j7 cP cS cR H' A p b ts :=
 ⟨P.k.cs (h.cst k),k _ _ (fN P.t h.o nofun) P.t,k _ _ (fN P.i h.o nofun) P.i,k _ _ (fN P.l h.o nofun) P.l,P.n⟩
noncomputable def nA(H:Hp)(ts:List V)(k:Nat):Prop:=∀ (i:Nat) y,ts[i]?=some y->∃ t nm,y=.ref t/\H t=some (.tup [nm,.int ((k+i:Nat)-1:Int)])
theorem nA.cs(h:nA H ts k)(c:oR H H'):nA H' ts k:=fun i y e=>let ⟨t,nm,e1,e2⟩:=h i y e;⟨t,nm,e1,c _ _ jD0 e2⟩
theorem nA.nil:nA H [] k:=fun i y e=>by simp at e
theorem nA.drop(h:nA H ts k)(j:Nat):nA H (ts.drop j) (k+j):=fun i y e=>by
 rw [List.getElem?_drop] at e;have:=h _ y e;rwa [show k+(j+i)=k+j+i by omega] at this
theorem nA.take(h:nA H ts k)(j:Nat):nA H (ts.take j) k:=fun i y e=>by
 rw [List.getElem?_take] at e;by_cases c:i<j
 ·rw [if_pos c] at e;exact h i y e
 ·rw [if_neg c] at e;cases e
theorem nA.snoc{H:Hp}{ts:List V}{k:Nat}{t:Addr}{nm:V}(h:nA H ts k)(e:H t=some (.tup [nm,.int ((k+ts.length:Nat)-1:Int)])):nA H (ts++[.ref t]) k:=fun i y a=>by
 by_cases c:i<ts.length
 ·rw [getElem?_append_left c] at a;exact h i y a
 ·rw [getElem?_append_right (by omega)] at a;have l:=(List.getElem?_eq_some_iff.mp a).1;have l':i-ts.length<1:=l;obtain rfl:i=ts.length:=by omega
  rw [lR] at a;exact⟨t,nm,(Option.some.inj a).symm,e⟩
noncomputable def jFb (H:Hp)(v:V):Bool:=!@decide (∃ a nm,v=.ref a/\H a=some (.tup [nm,.int (-1)])) (pQ _)
theorem jHX{H:Hp}{t:Addr}{nm:V}{n:Int}(h:H t=some (.tup [nm,.int n])):jFb H (.ref t)=!decide (V.int n=V.int (-1)):=by
 unfold jFb;refine congrArg (fun c=>!c) ?_;by_cases c:n=-1
 ·exact (@decide_eq_true _ (pQ _) ⟨t,nm,rfl,by rw [<- c];exact h⟩).trans (decide_eq_true (by rw [c])).symm
 grind
theorem jIH(h:nA H ts (k+1)):ts.filter (jFb H)=ts:=fW.mpr fun y hy=>by
 obtain⟨i,ei⟩:=mem_iff_getElem?.mp hy;obtain⟨t,nm,rfl,ht⟩:=h i y ei;rw [jHX ht,decide_eq_false (fun z=>by injection z with z;omega)];rfl
theorem jNZ(h:nA H ts k)(c:¬ (k=0/\ts=[])):(((k-1:Nat):Int)+((ts.filter (jFb H)).length:Nat):Int)=((k+ts.length:Nat):Int)-1:=by
 cases k with
 | succ k =>
   rw [jIH h];omega
 | zero =>
   cases ts with
   | nil=>exact absurd ⟨rfl,rfl⟩ c
   | cons y r =>
     obtain⟨t,nm,rfl,ht⟩:=h 0 y rfl;rw [gE,jHX ht,if_neg (by rw [decide_eq_true (by rfl)];decide),jIH (k:=0) (by have:=h.drop 1;exact this)]
     grind
example jII(eQ cJ:Addr):∀ A r,vs=[.ref r.a]->kK eQ cJ H A r->Q (.int (r.n:Int)) H->jII eQ cJ:=0
example jD1:MtE 1 "each" yG ["self"] (jII yG yQ):=by
 nomatch i5 T.p73,["self"]
 obtain⟨A,r,rfl,R,q⟩:=h;exists _,(eI (gB (nK vW rfl T.aj fK (dN (fH (pv 0) rfl) dZ))))
 obtain⟨o,xs,e,l,_⟩:=R.i;exists _,rfl,r.a,yG,r.dx,_,_,rfl,R.o,T.aa,T.bB,rfl,r.ik,_,rfl,.inl (.inl (.inr ⟨o,e⟩));rw [l];exact q
example jHm(eQ cJ:Addr):∀ A r,vs=[.ref r.a]->kK eQ cJ H A r->Q (.int (r.n:Int)) H->jHm eQ cJ:=0
example jHn:MtE 2 "total" yG ["self"] (jHm yG yQ):=by
 nomatch i5 T.p74,["self"]
 obtain⟨A,r,rfl,R,q⟩:=h;exists _,(eI (gB (jL jC6 (kT 1 gA hr.m (pv 0)) (fH (fH (pv 0) rfl) rfl))))
 exists _,rfl,r.a,_,r.dx,_,_,_,rfl,R.o,rfl,T.aa,(jD1 T),A,r,rfl,R,_,rfl,r.a,yG,r.dx,_,_,rfl,R.o,T.aa,T.aD,rfl,r.J.x,yQ,r.J.dx,_,_,rfl,R.j.o,T.ah,T.bj,rfl,_,_,rfl,rfl,.inr ⟨by decide,by decide⟩
 grind
noncomputable def whl(r:RU):Bool:=decide (r.o=r.n+1)
example jHo(eQ cJ:Addr):∀ A r,vs=[.ref r.a]->kK eQ cJ H A r->Q (.bl (whl r)) H->jHo eQ cJ:=0
example jCa:MtE 3 "whole" yG ["self"] (jHo yG yQ):=by
 nomatch i5 T.p76,["self"]
 obtain⟨A,r,rfl,R,q⟩:=h;exists _,(eI (gB (ecA qL (fH (pv 0) rfl) (kT 2 gA hr.m (pv 0)))))
 have e:decide (V.int ((r.o-1:Nat):Int)=V.int (r.n:Int))=whl r:=by
  unfold whl;have:=R.n0
  grind
 exists _,rfl,r.a,yG,r.dx,_,_,rfl,R.o,T.aa,T.aI,rfl,_,rfl,r.a,_,r.dx,_,_,_,rfl,R.o,rfl,T.aa,(jHn T),A,r,rfl,R,rfl;rw [e];exact q
example jIJ(eQ cJ:Addr):∀ A r,vs=[.ref r.a]->kK eQ cJ H A r->(r.br=false->Q .non H)->(r.br=true->∀ t H',eR H H'->Q (.ref t) H')->jIJ eQ cJ:=0
example jIK:MtE 2 "lack" yG ["self"] (jIJ yG yQ):=by
 nomatch i5 T.p77,["self"]
 obtain⟨A,r,rfl,R,q1,q2⟩:=h;exists _,(eE (iK (qM (mD (fH (pv 0) rfl) (fun _=>rfl))) (eI (gB m3)) iM) (eI (gB (nL (dN (jL oV (jL jMz (fH (pv 0) rfl) (kT 1 gA hr.m (pv 0))) fY) (dN (jL oV (jL jDA (fH (pv 0) rfl) (kT 1 gA hr.m (pv 0))) fY) dZ))))))
 exists _,rfl,r.a,yG,r.dx,_,_,rfl,R.o,T.aa,T.aN,rfl,_,rfl;cases e:r.br with
 | false=>exact kL (q1 e)
 | true =>
   have n:=R.n0;have n3:=R.n3;exact hV ⟨_,rfl,r.a,yG,r.dx,_,_,rfl,R.o,T.aa,T.aI,rfl,_,rfl,r.a,_,r.dx,_,_,_,rfl,R.o,rfl,T.aa,(jD1 T),A,r,rfl,R,_,_,rfl,rfl,⟨by omega,by omega⟩,_,_,rfl,rfl,_,rfl,r.a,yG,r.dx,_,_,rfl,R.o,T.aa,T.aI,rfl,_,rfl,r.a,_,r.dx,_,_,_,rfl,R.o,rfl,T.aa,(jD1 T),A,r,rfl,R,_,_,rfl,rfl,(by omega),_,_,rfl,rfl,wq2,fun t nt=>q2 e t _ (iS nt _)⟩
example jLC(eQ cJ cP cS cY:Addr):∀ A r,vs=[.ref r.a]->kK eQ cJ H A r->PrK cP cS cY H A->Q (if r.pt=true then .str "press" else .non) H->jLC eQ cJ cP cS cY:=0
example jHY:MtE 1 "at" yG ["self"] (jLC yG yQ yW yJ yV):=by
 nomatch i5 T.p75,["self"]
 obtain⟨A,r,rfl,R,P,q⟩:=h;exists _,(eI (gB (zB (tcA jC7 (fH (pv 0) rfl) m3) m3 (fH (fH (pv 0) rfl) rfl))))
 exists _,rfl,r.a,yG,r.dx,_,_,rfl,R.o,T.aa,T.ao,rfl;cases e:r.pt with
 | false =>
   rw [e] at q;exact⟨rfl,true,rfl,kL q⟩
 | true =>
   rw [e] at q;refine⟨rfl,false,rfl,hV ⟨_,rfl,r.a,yG,r.dx,_,_,rfl,R.o,T.aa,T.ao,rfl,?_⟩⟩;rw [e];exact⟨A.x,yW,A.dx,_,_,rfl,P.o,T.ag,T.bx,rfl,q⟩
example jEA(eQ cJ:Addr):∀ A r,vs=[.ref r.a]->kK eQ cJ H A r->r.br=false->whl r=false->Q .non H->jEA eQ cJ:=0
example jCZ:MtE 4 "must_go_on" yG ["self"] (jEA yG yQ):=by
 nomatch i5 T.p82,["self"]
 obtain⟨A,r,rfl,R,e,nw,q⟩:=h;exists _,(eI (iK (PW.pt (wP (mD (fH (pv 0) rfl) (fun _=>rfl)) (y6 (mD (kT 3 gA hr.m (pv 0)) (fun _=>rfl))))) (eI mV) iM))
 exists _,rfl,r.a,yG,r.dx,_,_,rfl,R.o,T.aa,T.aN,rfl,_,rfl;rw [e];exact hV ⟨_,rfl,r.a,_,r.dx,_,_,_,rfl,R.o,rfl,T.aa,(jCa T),A,r,rfl,R,_,rfl,by rw [nw];exact hV q⟩
example jDf(eQ cJ:Addr):∀ A r,vs=[.ref r.a]->kK eQ cJ H A r->r.br=false->whl r=false->r.pt=true->Q .non H->jDf eQ cJ:=0
example jFE:MtE 5 "must_be_placed" yG ["self"] (jDf yG yQ):=by
 nomatch i5 T.p83,["self"]
 obtain⟨A,r,rfl,R,e,nw,hp,q⟩:=h;exists _,(eE (jU (kT 4 gA hr.m (pv 0))) (eI (iK (tcA jC7 (fH (pv 0) rfl) m3) (eI mV) iM)))
 exists _,rfl,r.a,_,r.dx,_,_,_,rfl,R.o,rfl,T.aa,(jCZ T),A,r,rfl,R,e,nw;exists _,rfl,r.a,yG,r.dx,_,_,rfl,R.o,T.aa,T.ao,rfl;rw [hp];exact⟨rfl,false,rfl,hV q⟩
theorem ifs_cut(P:Prop)(ht:∀ Q:Bool->Hp->Prop,(P->Q true H)->(¬ P->Q false H)->t σ H Q)(hA:P->A { D with nx:=C D } σ H)(hB:¬ P->B { D with nx:=C D } σ H):tSeq (tIfS t A B) C D σ H:=ht _ (fun p=>by rw [if_pos rfl];exact hA p) (fun p=>by rw [if_neg (by decide)];exact hB p)
example jFc(eQ cJ cP cS cY:Addr):∀ A r p b ts,vs=[.ref r.a]->kK eQ cJ H A r->r.pt=true->j7 cP cS cY H A p b ts->nA H ts r.o->ts.length<=800->(r.o+ts.length<=r.n->∀ t H',eR H H'->H t=none->H' t=some (.tup [.str r.J.nm,.int ((r.o+ts.length:Nat)-1:Int)])->Q (.ref t) H')->(¬ r.o+ts.length<=r.n->∀ H',eR H H'->Q .non H')->jFc eQ cJ cP cS cY:=0
example jFd:MtE 3 "upcoming" yG ["self"] (jFc yG yQ yW yJ yV):=by
 nomatch i5 T.p78,["self","within","number"]
 obtain⟨A,r,p,b,ts,rfl,R,hp,P,tg,l8,k1,k2⟩:=h;have z2:2<=dL:=small (by decide);exists _,(eE (iK (tcA jC7 (fH (pv 0) rfl) m3) (eI (gB m3)) iM) (eE (psA (i:=1) nZ (kT 1 gA hr.m (fH (pv 0) rfl))) (eE (iK (PW.pt (jD6 (qM (mD (fH (pv 0) rfl) (fun _=>rfl))) (jDk (qM (mD (pv 1) (fun _=>rfl)))))) (eI (gB (nL (dN (fH (fH (pv 0) rfl) rfl) (dN (rF T.aR rfl) dZ))))) iM) (eE (psA (i:=2) nZ (jL oV (fH (pv 0) rfl) (nK vW rfl T.aj fK (dN (rX (frees:=[]) ⟨by decide +kernel,rfl,rfl,by decide +kernel,trivial,by decide +kernel,oX rfl,rfl⟩ rfl (oW (pv 1)) (fun _ _ _ _=>by exact (vS (tcA jDV (jDE (K:=K) (r:=rIxT) rfl pZ (pv 0) fY (fun _ _=>rfl)) (rF T.aR rfl)))) (fun _ _ _ _=>by exact (pv 0))) dZ)))) (eI (gB (zB (tcA jEG (pv 2) (kT 2 gA hr.m (pv 0))) (nL (dN (fH (fH (pv 0) rfl) rfl) (dN (pv 2) dZ))) m3)))))))
 exists _,rfl,r.a,yG,r.dx,_,_,rfl,R.o,T.aa,T.ao,rfl;rw [hp];refine⟨rfl,false,rfl,hV ?_⟩;exists _,rfl,r.a,yG,r.dx,_,_,rfl,R.o,T.aa,T.ao,rfl;rw [hp];refine⟨A.x,_,A.dx,_,_,_,rfl,P.k.o,rfl,T.ag,(jEv T),A,p,b,ts,rfl,P,fun l H1 s1 nl hl=>?_⟩;have R1:=R.same s1;have tg1:=tg.cs (jCv s1);dsimp only [vK];refine ifs_cut (r.o=0/\ts=[]) (fun W qt qf=>?_) (fun c=>?_) (fun c=>?_)
 ·exists _,rfl,r.a,yG,r.dx,_,_,rfl,R1.o,T.aa,T.aW,rfl,_,rfl;by_cases c0:r.o=0
  ·rw [c0];refine kL ⟨_,rfl,!ts.isEmpty,.inl ⟨_,SqL.of hl,rfl⟩,?_⟩;by_cases c:ts=[]
   ·rw [c];exact qt ⟨c0,c⟩
   ·rw [List.isEmpty_eq_false_iff.mpr c];exact qf (fun z=>c z.2)
  ·rw [decide_eq_true (show 1<=r.o by omega)];exact hV (qf (fun z=>c0 z.1))
 ·have n0:=R.n0;refine⟨_,rfl,r.a,yG,r.dx,_,_,rfl,R1.o,T.aa,T.aD,rfl,r.J.x,yQ,r.J.dx,_,_,rfl,R1.j.o,T.ah,T.aE,rfl,z2,fun t nt=>?_⟩;rw [c.1,c.2] at k1;exact k1 (d9 _) t _ (s1.trans (iS nt _)) (s1.free nt) eO
 exists _,rfl,r.a,yG,r.dx,_,_,rfl,R1.o,T.aa,T.aI,rfl,_,rfl,l,rfl,⟨_,SqL.of hl⟩
 refine zC (vR (K:=K) (SqL.of hl)) (jFb H1) id (kZ (by omega)) (fun y hy H' W sm rr=>?_) (fun y hy H' W sm py rr=>⟨_,rfl,rr⟩) (fun D H2 s2 nD hD=>?_)
 ·obtain⟨i,ei⟩:=mem_iff_getElem?.mp hy;obtain⟨t,n,rfl,ht⟩:=tg1 i y ei;refine⟨_,rfl,t,_,_,_,rfl,rfl,SqT.of (sm _ _ ht),o9 (j:=1) rfl,rfl,_,?_,rr⟩;rw [jHX ht]
 rw [map_id] at hD;have R2:=R1.same s2;exists D,_,rfl,.inl (SqL.of hD),_,_,rfl,rfl;dsimp only [vK];rw [jNZ tg1 c];have vF:=s1.trans s2;refine⟨_,rfl,_,rfl,r.a,_,r.dx,_,_,_,rfl,R2.o,rfl,T.aa,(jHn T),A,r,rfl,R2,_,_,rfl,rfl,_,rfl,ite2 (fun cc=>?_) (fun cc=>?_)⟩
 ·refine⟨_,rfl,r.a,yG,r.dx,_,_,rfl,R2.o,T.aa,T.aD,rfl,r.J.x,yQ,r.J.dx,_,_,rfl,R2.j.o,T.ah,T.aE,rfl,_,rfl,z2,fun t nt=>?_⟩;have:=of_decide_eq_true cc;exact k1 (by omega) t _ (vF.trans (iS nt _)) (vF.free nt) eO
 ·exact k2 (fun z=>cc (decide_eq_true (by omega))) _ vF
example jFN(eQ cJ:Addr):∀ A r tg nm k,vs=[.ref r.a,.ref tg]->kK eQ cJ H A r->H tg=some (.tup [nm,.int k])->-1<=k->(∀ t (y:Int) H',eR H H'->H' t=some (.tup [.str u9,.int y,.int 0])->0<=y->y<=2->Q (.ref t) H')->jFN eQ cJ:=0
example jFO:MtE 2 "used_by" yG ["self","tag"] (jFN yG yQ):=by
 nomatch i5 T.p84,["self","tag","sheet","ink"]
 obtain⟨A,r,tg,nm,k,rfl,R,ht,k1,q⟩:=h;have z3:3<=dL:=small (by decide);exists _,(eE (iK (tcA qL (ixA pZ (pv 1) fY) (rF T.aR rfl)) (eI (gB (nL (dN (fH (fH (pv 0) rfl) rfl) (dN fY (dN fY dZ)))))) iM) (eE (psA (i:=2) nZ (jL jDA (ixA pZ (pv 1) fY) (kT 1 gA hr.m (pv 0)))) (eE (psA (i:=3) nZ (ixA vQ (fH (pv 0) rfl) (pv 2))) (eI (gB (nL (dN (jV (jNY T) hr.m rfl (dN (fH (pv 0) rfl) (dN (pv 2) dZ))) (dN (ixA pZ (pv 3) fY) (dN (ixA pZ (pv 3) fY) dZ)))))))))
 have n0:=R.n0;exists _,rfl,tg,_,_,_,rfl,rfl,SqT.of ht,o9 (j:=1) rfl,rfl;by_cases c:k=-1
 ·exact⟨true,by rw [c];rfl,kL ⟨_,rfl,r.a,yG,r.dx,_,_,rfl,R.o,T.aa,T.aD,rfl,r.J.x,yQ,r.J.dx,_,_,rfl,R.j.o,T.ah,T.aM,rfl,z3,fun t nt=>q t 0 _ (iS nt _) eO (by decide) (by decide)⟩⟩
 refine⟨false,by rw [decide_eq_false (fun z=>c (by injection z))],hV ?_⟩;exists _,rfl,tg,_,_,_,rfl,rfl,SqT.of ht,o9 (j:=1) rfl,_,rfl,r.a,_,r.dx,_,_,_,rfl,R.o,rfl,T.aa,(jD1 T),A,r,rfl,R,_,_,rfl,rfl,by omega
 dsimp only [vK];have m0:=mH k (show (r.n:Int)≠0 by omega);have m1:=kI k (show (0:Int)<(r.n:Int) by omega);generalize k%(r.n:Int)=i at m0 m1 ⊢;obtain⟨ob,ys,hy,ly,gy⟩:=id R.i;refine⟨_,rfl,r.a,yG,r.dx,_,_,rfl,R.o,T.aa,T.bB,rfl,_,rfl,r.ik,_,_,rfl,rfl,.inl (.inr ⟨ob,hy⟩),m0,by omega,fun v hv=>?_⟩;obtain⟨t,y,rfl,zE,y0,y2⟩:=gy v (mem_of_getElem? hv);exists _,rfl,r.a,yG,r.dx,_,_,rfl,R.o,T.aa,T.aD,rfl,_,rfl,r.J,i,rfl,R.j;exact⟨_,rfl,t,_,_,_,rfl,rfl,SqT.of zE,o9 (j:=0) rfl,_,rfl,t,_,_,_,rfl,rfl,SqT.of zE,o9 (j:=1) rfl,z3,fun t' nt'=>q t' y _ (iS nt' _) eO y0 y2⟩
example jJ8(eQ cJ cP cS cY:Addr):∀ A r p b ts tg nm k,vs=[.ref r.a,.ref tg]->kK eQ cJ H A r->H tg=some (.tup [nm,.int k])->-1<=k->r.pt=true->j7 cP cS cY H A p b ts->1<=p->2<=b->ts.length<=800->(∀ l b' H' (ov:Bool),b-2<=b'->(ov=true ↔ A.path<((ts.length+1:Nat):Int))->Pre A H H'->H l=none->H' l=some (.lst (if ov=true then (ts++[V.ref tg]).take 1 else []))->j7 cP cS cY H' A (p-1) b' (if ov=true then (ts++[V.ref tg]).drop 1 else ts++[V.ref tg])->Q (.ref l) H')->jJ8 eQ cJ cP cS cY:=0
example jPe:MtE 5 "fed" yG ["self","tag"] (jJ8 yG yQ yW yJ yV):=by
 nomatch i5 T.p85,["self","tag","used"]
 obtain⟨A,r,p,b,ts,tg,nm,k,rfl,R,ht,k1,hp,P,p1,b2,lt,q⟩:=h;exists _,(eE (psA (i:=2) nZ (iX 2 gA hr.m (pv 0) (dN (pv 1) dZ))) (eI (gB (iX 4 gA hr.m (fH (pv 0) rfl) (dN (pv 1) (dN (ixA pZ (pv 2) fY) (dN (ixA pZ (pv 2) fY) (dN (ixA pZ (pv 2) fY) dZ))))))))
 refine⟨_,rfl,r.a,_,r.dx,_,_,_,rfl,R.o,rfl,T.aa,(jFO T),_,rfl,A,r,tg,nm,k,rfl,R,ht,k1,fun t y H1 s1 h1 y0 y2=>?_⟩;have R1:=R.same s1;have P1:=P.same s1;exists _,rfl,r.a,yG,r.dx,_,_,rfl,R1.o,T.aa,T.ao,rfl;rw [hp];exact⟨A.x,_,A.dx,_,_,_,rfl,P1.k.o,rfl,T.ag,(jJy T),_,rfl,_,rfl,t,_,_,_,rfl,rfl,SqT.of h1,o9 (j:=0) rfl,_,rfl,t,_,_,_,rfl,rfl,SqT.of h1,o9 (j:=1) rfl,_,rfl,t,_,_,_,rfl,rfl,SqT.of h1,o9 (j:=2) rfl,A,p,b,ts,V.ref tg,y,rfl,P1,p1,by omega,lt,fun l H2 ov eo k2 nl hl P2=>q l _ H2 ov (by omega) eo ((jCY s1).trans k2) (s1.free nl) hl P2⟩
noncomputable def jF(r:RU)(k:Nat):RU:={ r with o:=r.o+k }
noncomputable def nP(r:RU):RU:={ r with pt:=r.pt && !whl r }
theorem putR_sl(A:PA)(r:RU):l7 "slipped" (.bl true) (pO A { r with o:=0 })=pO A { r with o:=1 }:=by first|rfl|decide +kernel
theorem putR_ps(A:PA)(r:RU)(k:Nat):l7 "passed" (.int ((k+1:Nat):Int)) (pO A { r with o:=k+1 })=pO A { r with o:=k+2 }:=by
 have e:decide (1<=k+1)=true:=decide_eq_true (by omega);have e2:decide (1<=k+2)=true:=decide_eq_true (by omega);unfold pO;rw [e,e2]
 first|rfl|decide +kernel
theorem jG0(A:PA)(r:RU)(p:Bool):l7 "printer" (if p=true then V.ref A.x else V.non) (pO A r)=pO A { r with pt:=p }:=by first|rfl|decide +kernel
theorem jNd(A:PA)(r:RU)(p:Bool):l7 "broken" (.bl p) (pO A r)=pO A { r with br:=p }:=by first|rfl|decide +kernel
theorem putR_s0(A:PA)(r:RU)(h:r.o=0):l7 "slipped" (.bl false) (pO A r)=pO A r:=by
 obtain⟨a,dx,ik,J,n,o,pt,br⟩:=r;subst h
 first|rfl|decide +kernel
example jFe(eQ cJ:Addr):∀ A r l ts,vs=[.ref r.a,.ref l]->kK eQ cJ H A r->H l=some (.lst ts)->nA H ts r.o->r.o+ts.length<=r.n+1->(∀ H',(∀ b o,b≠r.a->H b=some o->H' b=some o)->kK eQ cJ H' A (nP (jF r ts.length))->Q (.ref l) H')->jFe eQ cJ:=0
example jDt:MtE 4 "note_out" yG ["self","tags"] (jFe yG yQ):=by
 nomatch i5 T.p87,["self","tags","tag"]
 obtain⟨A,r,l,ts,rfl,R,hl,tg,le,q⟩:=h;exists _,(eE (nY PassesOwn.never rfl (oW (pv 1)) (pgA (i:=2) nZ) (eI (iK (tcA qL (ixA pZ (pv 2) fY) (rF T.aR rfl)) (eI (kM (pv 0) o8 rfl)) (eI (jOg (pv 0) fY ip_add))))) (eE (iK (mD (kT 3 gA hr.m (pv 0)) (fun _=>rfl)) (eI (kM (pv 0) m3 rfl)) iM) (eI (gB (pv 1)))))
 have nlx:l≠r.a:=fN hl R.o nofun
 refine⟨_,rfl,l,rfl,⟨_,SqL.of hl⟩,vM (K:=K) (a:=l) (xs:=ts) (fun i σ G=>∃ v2:Option V,σ=[some (.ref r.a),some (.ref l),v2]/\kK yG yQ G A (jF r i)/\i<=ts.length/\∀ b o,b≠r.a->H b=some o->G b=some o) ⟨_,rfl,R,d9 _,fun b o _ e=>e⟩ (fun i σ G _ z=>by obtain⟨v2,_,_,_,k⟩:=z;exact SqL.of (k _ _ nlx hl)) (fun i y σ G hy z=>?_) (fun σ G z=>?_)⟩
 ·obtain⟨v2,rfl,RG,_,k⟩:=z;have hi:=(List.getElem?_eq_some_iff.mp hy).1;obtain⟨t,n,rfl,ht⟩:=tg i y hy;have htG:=k _ _ (jLB R.o rfl jD0 ht) ht;exists _,rfl,t,_,_,_,rfl,rfl,SqT.of htG,o9 (j:=1) rfl,rfl;have RS:kK yG yQ (upd G r.a (.ins yG r.dx (pO A (jF r (i+1))))) A (jF r (i+1)):=RG.set rfl rfl rfl rfl rfl (by show r.o+(i+1)<=r.n+1;omega);have kS:∀ b o,b≠r.a->H b=some o->upd G r.a (.ins yG r.dx (pO A (jF r (i+1)))) b=some o:=fun b o nb e=>by rw [eJ nb];exact k b o nb e
  by_cases c:r.o+i=0
  ·refine⟨true,by rw [c];rfl,kL ⟨_,rfl,r.a,yG,r.dx,_,rfl,RG.o,T.aa,T.aW,(by show 6<1000;decide),?_⟩⟩;have e:l7 "slipped" (.bl true) (pO A (jF r i))=pO A (jF r (i+1)):=by
    unfold jF;rw [c,show r.o+(i+1)=1 by omega];exact putR_sl A r
   rw [e];exact⟨_,rfl,RS,hi,kS⟩
  ·refine⟨false,by rw [decide_eq_false (fun z=>by injection z with z;omega)],hV ?_⟩;refine⟨_,rfl,r.a,yG,_,_,_,rfl,RG.o,T.aa,T.aI,rfl,_,_,rfl,rfl,_,_,RG.o,(by show 6<1000;decide),?_⟩;have e:l7 "passed" (.int (((r.o+i-1:Nat):Int)+1)) (pO A (jF r i))=pO A (jF r (i+1)):=by
    obtain⟨k,hk⟩:∃ k,r.o+i=k+1:=⟨r.o+i-1,by omega⟩
    unfold jF;rw [show r.o+(i+1)=k+2 by omega,hk,show (((k+1-1:Nat):Int)+1)=((k+1:Nat):Int) by omega];exact putR_ps A r k
   rw [show (((jF r i).o-1:Nat):Int)=((r.o+i-1:Nat):Int) from rfl,e];exact⟨_,rfl,RS,hi,kS⟩
 ·obtain⟨v2,rfl,RG,_,k⟩:=z;exists _,rfl,r.a,_,r.dx,_,_,_,rfl,RG.o,rfl,T.aa,(jCa T),A,jF r ts.length,rfl,RG,_,rfl;cases c:whl (jF r ts.length) with
  | true =>
    refine kL ⟨_,rfl,r.a,yG,r.dx,_,rfl,RG.o,T.aa,T.ao,(by show 6<1000;decide),?_⟩;rw [show (V.non)=(if false=true then V.ref A.x else V.non) from rfl,jG0];refine⟨_,rfl,q _ (fun b o nb e=>by rw [eJ nb];exact k b o nb e) ?_⟩;have e:nP (jF r ts.length)={ jF r ts.length with pt:=false }:=by unfold nP;rw [c,Bool.not_true,Bool.and_false]
    rw [e];exact RG.set rfl rfl rfl rfl rfl le
  | false =>
    refine hV ⟨_,rfl,q _ k ?_⟩;have e:nP (jF r ts.length)=jF r ts.length:=by unfold nP;rw [c,Bool.not_false,Bool.and_true]
    rw [e];exact RG
noncomputable def Fr(A:PA)(a:Addr)(H H':Hp):Prop:=∀ b o,b≠a->b≠A.il->b≠A.T.m->b≠A.I.m->H b=some o->H' b=some o
theorem jD4(s:eR H H'):Fr A a H H':=fun b o _ _ _ _ e=>s b o e
theorem jPf(s:Pre A H H'):Fr A a H H':=fun b o _ x y z e=>s b o x y z e
theorem jGB(s:∀ b o,b≠a->H b=some o->H' b=some o):Fr A a H H':=fun b o x _ _ _ e=>s b o x e
theorem Fr.trans(s:Fr A a H H1)(r:Fr A a H1 H2):Fr A a H H2:=fun b o n x y z e=>r b o n x y z (s b o n x y z e)
theorem Fr.cs(f:Fr A r.a H H')(R:kK eQ cJ H A r)(P:j7 cP cS cR H A p b ts):oR H H':=fun a o c e=>f a o (jLB R.o rfl c e) (fN e P.l (c.nl _)) (fN e P.t (c.nd _)) (fN e P.i (c.nd _)) e
structure Wd(eQ cJ cP cS cY:Addr)(H:Hp)(A:PA)(r:RU)(p b:Int)(ts:List V):Prop where
 R:kK eQ cJ H A r
 P:j7 cP cS cY H A p b ts
 tg:nA H ts r.o
 le:r.o+ts.length<=r.n+1
theorem Wd.same(W:Wd eQ cJ cP cS cY H A r p b ts)(s:eR H H'):Wd eQ cJ cP cS cY H' A r p b ts:=⟨W.R.same s,W.P.same s,W.tg.cs (jCv s),W.le⟩
theorem jKC(h:whl r=false):r.o≠r.n+1:=fun z=>by unfold whl at h;rw [decide_eq_true z] at h;cases h
theorem whl_t(h:whl r=true):r.o=r.n+1:=of_decide_eq_true h
structure Stp(eQ cJ cP cS cY:Addr)(H H':Hp)(A:PA)(r:RU)(k:Nat)(p b:Int)(l:Addr)(fd:Nat):Prop where
 fr:Fr A r.a H H'
 nl:H l=none
 l:∃ os,H' l=some (.lst os)/\os.length=k/\nA H' os r.o
 w:∃ ts p' b',Wd eQ cJ cP cS cY H' A (nP (jF r k)) p' b' ts/\r.o+k+ts.length=fd/\p-1<=p'/\b-2<=b'
example jIL(eQ cJ cP cS cY:Addr):∀ A r p b ts,vs=[.ref r.a]->Wd eQ cJ cP cS cY H A r p b ts->r.pt=true->r.br=false->whl r=false->1<=p->2<=b->(r.o+ts.length<=r.n->∀ l H' k,k<=1->Stp eQ cJ cP cS cY H H' A r k p b l (r.o+ts.length+1)->Q (.ref l) H')->(¬ r.o+ts.length<=r.n->∀ l H',Stp eQ cJ cP cS cY H H' A r 1 p b l (r.o+ts.length)->Q (.ref l) H')->jIL eQ cJ cP cS cY:=0
example jIM:MtE 6 "step" yG ["self"] (jIL yG yQ yW yJ yV):=by
 nomatch i5 T.p81,["self","tag"]
 obtain⟨A,r,p,b,ts,rfl,W,hp,hb,nw,p1,b2,q1,q2⟩:=h;exists _,(eE (jU (kT 5 gA hr.m (pv 0))) (eE (psA (i:=1) nZ (kT 3 gA hr.m (pv 0))) (eI (gB (iX 4 gA hr.m (pv 0) (dN (zB (tcA jC7 (pv 1) m3) (kT 4 gA hr.m (fH (pv 0) rfl)) (iX 5 gA hr.m (pv 0) (dN (pv 1) dZ))) dZ))))))
 have n3:=W.R.n3;have le:=W.le;have now:=jKC nw;exists _,rfl,r.a,_,r.dx,_,_,_,rfl,W.R.o,rfl,T.aa,(jFE T),A,r,rfl,W.R,hb,nw,hp;refine⟨_,rfl,r.a,_,r.dx,_,_,_,rfl,W.R.o,rfl,T.aa,(jFd T),A,r,p,b,ts,rfl,W.R,hp,W.P,W.tg,by omega,fun cn t H1 s1 nt ht=>?_,fun cn H1 s1=>?_⟩
 ·have W1:=W.same s1;refine⟨_,rfl,r.a,_,r.dx,_,_,_,rfl,W1.R.o,rfl,T.aa,(jDt T),_,rfl,rfl,false,rfl,hV ?_⟩;refine⟨_,rfl,r.a,_,r.dx,_,_,_,rfl,W1.R.o,rfl,T.aa,(jPe T),_,rfl,A,r,p,b,ts,t,_,_,rfl,W1.R,ht,by omega,hp,W1.P,p1,b2,by omega,fun l b' H2 ov lb eo f2 nl hl P2=>?_⟩;have R2:=W1.R.pre W1.P f2;have tg2:nA H2 (ts++[V.ref t]) r.o:=(W1.tg.snoc ht).cs (f2.cs W1.P);have ll:(ts++[V.ref t]).length=ts.length+1:=by rw [length_append];rfl
  obtain⟨k,rs,k1,hk,e1,e2,er⟩:∃ (k:Nat) (rs:List V),k<=1/\(if ov=true then (ts++[V.ref t]).take 1 else []).length=k/\nA H2 (if ov=true then (ts++[V.ref t]).take 1 else []) r.o/\nA H2 rs (r.o+k)/\(if ov=true then (ts++[V.ref t]).drop 1 else ts++[V.ref t])=rs/\k+rs.length=ts.length+1:=by
   cases ov with
   | true=>exact⟨1,_,Nat.le_refl 1,by rw [if_pos rfl,gD,ll];omega,by rw [if_pos rfl];exact tg2.take 1,tg2.drop 1,rfl,by rw [jJ,ll];omega⟩
   | false=>exact⟨0,_,d9 1,rfl,nA.nil,tg2,rfl,by rw [ll];omega⟩
  obtain⟨er,lr⟩:=er;rw [er] at P2;generalize (if ov=true then (ts++[V.ref t]).take 1 else [])=os at hl hk e1;refine⟨A,r,l,os,rfl,R2,hl,e1,by omega,fun H3 k3 R3=>q1 cn l H3 k k1 ?_⟩;rw [hk] at R3;have c3:=R2.cst k3;have nlx:l≠r.a:=fun z=>by rw [z,W1.R.o] at nl;cases nl
  refine⟨((jD4 s1).trans (jPf f2)).trans (jGB k3),s1.free nl,⟨os,k3 _ _ nlx hl,hk,e1.cs c3⟩,rs,p-1,b',⟨R3,P2.off R2 k3,e2.cs c3,?_⟩,by omega,by omega,lb⟩;show r.o+k+rs.length<=r.n+1;omega
 ·have W1:=W.same s1;refine⟨_,rfl,r.a,_,r.dx,_,_,_,rfl,W1.R.o,rfl,T.aa,(jDt T),_,rfl,rfl,true,rfl,kL ?_⟩;exists _,rfl,r.a,yG,r.dx,_,_,rfl,W1.R.o,T.aa,T.ao,rfl;rw [hp];refine⟨A.x,_,A.dx,_,_,_,rfl,W1.P.k.o,rfl,T.ag,(jE9 T),A,p,b,ts,rfl,W1.P,fun l H2 f2 nl hl P2=>?_⟩;have R2:=W1.R.pre W1.P f2;have tg2:=W1.tg.cs (f2.cs W1.P);have l1:(ts.take 1).length=1:=by rw [gD];omega
  refine⟨A,r,l,_,rfl,R2,hl,tg2.take 1,by omega,fun H3 k3 R3=>q2 cn l H3 ?_⟩;rw [l1] at R3;have c3:=R2.cst k3;have nlx:l≠r.a:=fun z=>by rw [z,W1.R.o] at nl;cases nl
  refine⟨((jD4 s1).trans (jPf f2)).trans (jGB k3),s1.free nl,⟨_,k3 _ _ nlx hl,l1,(tg2.take 1).cs c3⟩,_,p,b,⟨R3,P2.off R2 k3,(tg2.drop 1).cs c3,?_⟩,by rw [jJ];omega,by omega,by omega⟩;show r.o+1+(ts.drop 1).length<=r.n+1;rw [jJ];omega
example jFP(eQ cJ cP cS cY:Addr):∀ A r,vs=[.ref r.a]->kK eQ cJ H A r->((r.pt=false/\∀ l H',eR H H'->H l=none->H' l=some (.lst [])->Q (.ref l) H')\/(r.pt=true/\∃ p b ts,Wd eQ cJ cP cS cY H A r p b ts/\whl r=false/\∀ l H',Fr A r.a H H'->H l=none->H' l=some (.lst ts)->nA H' ts r.o->Wd eQ cJ cP cS cY H' A (nP (jF r ts.length)) p b []->Q (.ref l) H'))->jFP eQ cJ cP cS cY:=0
example jFQ:MtE 5 "emptied" yG ["self"] (jFP yG yQ yW yJ yV):=by
 nomatch i5 T.p86,["self","came"]
 obtain⟨A,r,rfl,R,z⟩:=h;exists _,(eE (psA (i:=1) nZ (oQ dZ)) (eE (jFm PassesOwn.never (PW.pt (jD6 (tcA jCr (fH (pv 0) rfl) m3) (jDk (mD (kT 1 gA hr.m (fH (pv 0) rfl)) (fun _=>rfl))))) (eI (jU (qV fE PySem.F.slot_list_extend PySem.F.type_list_extend jOn (pv 1) (dN (iX 4 gA hr.m (pv 0) (dN (kT 4 gA hr.m (fH (pv 0) rfl)) dZ)) dZ))))) (eI (gB (pv 1)))))
 refine⟨small (d9 _),fun l nl=>?_⟩;generalize e9:upd H l _=H1;have s1:=nS nl e9;have hl:=nE e9;rcases z with⟨hp,q⟩|⟨hp,p,b,ts,W,nw,q⟩
 ·exists fun m σ G=>m=0/\G=H1/\σ=[some (.ref r.a),some (.ref l)],⟨0,rfl,rfl,rfl⟩
  rintro m σ G ⟨rfl,rfl,rfl⟩;exists _,rfl,r.a,yG,r.dx,_,_,rfl,(R.same s1).o,T.aa,T.ao,rfl;rw [hp];exact⟨rfl,false,rfl,hV (hV ⟨_,rfl,q l _ s1 nl hl⟩)⟩
 have n3:=W.R.n3;have le:=W.le;have no:=jKC nw;exists fun m σ G=>∃ k,m=ts.length-k/\k<=ts.length/\σ=[some (.ref r.a),some (.ref l)]/\Fr A r.a H G/\G l=some (.lst (ts.take k))/\Wd yG yQ yW yJ yV G A (nP (jF r k)) p b (ts.drop k),⟨_,0,rfl,d9 _,rfl,jD4 s1,hl,?_⟩
 ·have e:nP (jF r 0)=r:=by
   unfold nP jF;rw [show whl { r with o:=r.o+0 }=false from nw,Bool.not_false,Bool.and_true];rfl
  rw [e];exact W.same s1
 rintro m σ G ⟨k,rfl,hk,rfl,f,hG,WG⟩;have fin:ts.length=k->tRet (tVar 1) { nx:=fun _ H'=>Q V.non H',rt:=Q } [some (.ref r.a),some (.ref l)] G:=fun e=>by
  subst e;exists _,rfl;rw [h9] at hG;rw [o0] at WG;exact q l G f nl hG (W.tg.cs (f.cs W.R W.P)) WG
 exists _,rfl,r.a,yG,r.dx,_,_,rfl,WG.R.o,T.aa,T.ao,rfl;by_cases c:r.o+k=r.n+1
 ·have e:(nP (jF r k)).pt=false:=by
   show (r.pt && !whl (jF r k))=false;rw [show whl (jF r k)=true from decide_eq_true c,Bool.not_true,Bool.and_false]
  rw [e];exact⟨rfl,false,rfl,hV (hV (fin (by omega)))⟩
 have ep:(nP (jF r k)).pt=true:=by
  show (r.pt && !whl (jF r k))=true;rw [show whl (jF r k)=false from decide_eq_false c,hp];rfl
 have er:nP (jF r k)=jF r k:=by
  show { jF r k with pt:=(nP (jF r k)).pt }=jF r k;rw [ep,<- hp];rfl
 rw [ep];refine⟨rfl,true,rfl,kL ⟨_,rfl,r.a,yG,r.dx,_,_,rfl,WG.R.o,T.aa,T.ao,rfl,?_⟩⟩;rw [ep];refine⟨A.x,_,A.dx,_,_,_,rfl,WG.P.k.o,rfl,T.ag,(jEv T),A,p,b,_,rfl,WG.P,fun l2 H2 s2 xL hl2=>⟨!(ts.drop k).isEmpty,.inl ⟨_,SqL.of hl2,rfl⟩,?_⟩⟩;by_cases c2:ts.length=k
 ·rw [show (ts.drop k).isEmpty=true by rw [c2.symm,o0];rfl];refine hV ?_;subst c2;exists _,rfl;rw [h9] at hG;rw [o0] at WG;exact q l H2 (f.trans (jD4 s2)) nl (s2 _ _ hG) (W.tg.cs ((f.trans (jD4 s2)).cs W.R W.P)) (WG.same s2)
 have ld:(ts.drop k).length=ts.length-k:=jJ;rw [show (ts.drop k).isEmpty=false by rw [List.isEmpty_eq_false_iff];intro z;rw [z] at ld;have:0=ts.length-k:=ld;omega];refine kL ⟨fun σ' H'=>∃ m',m'<ts.length-k/\∃ k',m'=ts.length-k'/\k'<=ts.length/\σ'=[some (.ref r.a),some (.ref l)]/\Fr A r.a H H'/\H' l=some (.lst (ts.take k'))/\Wd yG yQ yW yJ yV H' A (nP (jF r k')) p b (ts.drop k'),fun σ' H' z=>z,?_⟩;have W2:=WG.same s2;have hG2:=s2 _ _ hG;have uK:l≠r.a:=fun z=>by rw [z,R.o] at nl;cases nl
 have f2:=f.trans (jD4 (A:=A) (a:=r.a) s2);exists _,rfl,.inl ⟨rfl,_,SqL.of hG2⟩,_,rfl,r.a,_,r.dx,_,_,_,rfl,W2.R.o,rfl,T.aa,(jDt T),_,rfl,r.a,yG,r.dx,_,_,rfl,W2.R.o,T.aa,T.ao,rfl;rw [ep];refine⟨A.x,_,A.dx,_,_,_,rfl,W2.P.k.o,rfl,T.ag,(jE9 T),A,p,b,_,rfl,W2.P,fun l3 H3 f3 sM q8 P3=>?_⟩;have R3:=W2.R.pre W2.P f3;have tg3:=W2.tg.cs (f3.cs W2.P);have l1:((ts.drop k).take 1).length=1:=by rw [gD];omega
 have nl3':l≠l3:=gM hG2 sM;refine⟨A,nP (jF r k),l3,_,rfl,R3,q8,tg3.take 1,by rw [l1];show r.o+k+1<=r.n+1;omega,fun H4 k4 R4=>?_⟩;rw [l1,er] at R4;have c4:=R3.cst k4;have hi3:l≠A.il:=fun z=>by
  have:=nl;cases e:H A.il with
  | none=>rw [W.P.l] at e;cases e
  | some o=>rw [z,e] at this;cases this
 have hG3:H3 l=some (.lst (ts.take k)):=f3 _ _ hi3 (fun z=>by rw [z,W.P.t] at nl;cases nl) (fun z=>by rw [z,W.P.i] at nl;cases nl) hG2;have hG4:=k4 _ _ uK hG3;have hl4:=k4 l3 _ (fun z=>by rw [z,W2.R.o] at sM;cases sM) q8;refine⟨l,l3,_,_,rfl,rfl,hG4,hl4,small (by rw [l1,gD];omega),?_⟩;have k5:∀ b o,b≠l->H4 b=some o->upd H4 l (.lst (ts.take k++(ts.drop k).take 1)) b=some o:=fun b o n e=>by rw [eJ n];exact e
 have vZ:upd H4 l (.lst (ts.take k++(ts.drop k).take 1)) l=some (.lst (ts.take (k+1))):=by rw [eO,List.take_add]
 generalize upd H4 l _=H5 at k5 vZ ⊢;have c5:oR H4 H5:=fun b o c e=>k5 b o (fN e hG4 (c.nl _)) e;have P4:j7 yW yJ yV H4 A p b ((ts.drop k).drop 1):=P3.off R3 k4;exists ts.length-(k+1),by omega,k+1,rfl,by omega,rfl,fun a o n1 n2 n3 n4 e=>?_,vZ,?_,?_,?_
 ·have e4:=k4 a o n1 (f3 a o n2 n3 n4 (f2 a o n1 n2 n3 n4 e));exact k5 a o (fun z=>by rw [z,nl] at e;cases e) e4
 ·exact R4.cs c5 (k5 _ _ (fN R4.o hG4 nofun) R4.o)
 ·rw [List.drop_drop] at P4;exact⟨P4.k.cs c5,k5 _ _ (fN P4.t hG4 nofun) P4.t,k5 _ _ (fN P4.i hG4 nofun) P4.i,k5 _ _ (symm hi3) P4.l,P4.n⟩
 ·have:=((tg3.drop 1).cs c4).cs c5;rw [List.drop_drop] at this;exact this
 ·show r.o+(k+1)+(ts.drop (k+1)).length<=r.n+1;rw [jJ];omega
example jIN(eQ cJ cP cS cY:Addr):∀ A r,vs=[.ref r.a,.ref A.x]->kK eQ cJ H A r->PrK cP cS cY H A->r.br=false->r.pt=false->r.o=0->(∀ v H',(∀ b o,b≠r.a->H b=some o->H' b=some o)->kK eQ cJ H' A { r with pt:=true }->Q v H')->jIN eQ cJ cP cS cY:=0
example jN0:MtE 6 "take" yG ["self","printer"] (jIN yG yQ yW yJ yV):=by
 nomatch i5 T.p79,["self","printer","came"]
 obtain⟨A,r,rfl,R,P,e,hp,h0,q⟩:=h;have nw:whl r=false:=decide_eq_false (by omega);exists _,(eE (jU (kT 4 gA hr.m (pv 0))) (eE (iK (tcA jDV (kT 2 gA hr.m (pv 1)) (kE T.bb rfl)) (eI mV) iM) (eE (psA (i:=2) nZ (kT 5 gA hr.m (pv 0))) (eE (iK (qM (mD (kT 3 gA hr.m (pv 0)) (fun _=>rfl))) (eE (kM (pv 0) (pv 1) rfl) (eI (kM (pv 0) o8 rfl))) iM) (eI (gB (pv 2)))))))
 exists _,rfl,r.a,_,r.dx,_,_,_,rfl,R.o,rfl,T.aa,(jCZ T),A,r,rfl,R,e,nw;refine⟨_,rfl,A.x,_,A.dx,_,_,_,rfl,P.o,rfl,T.ag,(jEu T),A,rfl,P,rfl,_,rfl,jKz rfl ?_⟩;refine⟨_,rfl,r.a,_,r.dx,_,_,_,rfl,R.o,rfl,T.aa,(jFQ T),A,r,rfl,R,.inl ⟨hp,fun l H1 s1 nl hl=>?_⟩⟩;have R1:=R.same s1;exists _,rfl,r.a,_,r.dx,_,_,_,rfl,R1.o,rfl,T.aa,(jCa T),A,r,rfl,R1,_,rfl;rw [nw];refine kL ⟨_,rfl,_,rfl,r.a,yG,r.dx,_,rfl,R1.o,T.aa,T.ao,(by show 6<1000;decide),?_⟩;rw [show V.ref A.x=(if true=true then V.ref A.x else V.non) from rfl,jG0];have R2:kK yG yQ (upd H1 r.a (.ins yG r.dx (pO A { r with pt:=true }))) A { r with pt:=true }:=R1.set rfl rfl rfl rfl rfl R.le;refine⟨_,rfl,r.a,yG,r.dx,_,rfl,R2.o,T.aa,T.aW,(by show 6<1000;decide),?_⟩;rw [putR_s0 A { r with pt:=true } h0,tI];exact⟨_,rfl,q _ _ (fun b o nb e=>by rw [eJ nb];exact s1 _ _ e) R2⟩
noncomputable def vI(r:RU)(k:Nat):RU:={ jF r k with pt:=false,br:=!whl (jF r k) }
example jIO(eQ cJ cP cS cY:Addr):∀ A r,vs=[.ref r.a]->kK eQ cJ H A r->r.br=false->whl r=false->((r.pt=false/\∀ l H',(∀ b o,b≠r.a->H b=some o->H' b=some o)->H l=none->H' l=some (.lst [])->kK eQ cJ H' A (vI r 0)->Q (.ref l) H')\/(r.pt=true/\∃ p b ts,Wd eQ cJ cP cS cY H A r p b ts/\∀ l H',Fr A r.a H H'->H l=none->H' l=some (.lst ts)->nA H' ts r.o->kK eQ cJ H' A (vI r ts.length)->j7 cP cS cY H' A p b []->Q (.ref l) H'))->jIO eQ cJ cP cS cY:=0
example jIP:MtE 6 "drop" yG ["self"] (jIO yG yQ yW yJ yV):=by
 nomatch i5 T.p80,["self","came"]
 obtain⟨A,r,rfl,R,e,nw,z⟩:=h;exists _,(eE (jU (kT 4 gA hr.m (pv 0))) (eE (psA (i:=1) nZ (kT 5 gA hr.m (pv 0))) (eE (kM (pv 0) (pe_not (kT 3 gA hr.m (pv 0))) rfl) (eE (kM (pv 0) m3 rfl) (eI (gB (pv 1)))))))
 exists _,rfl,r.a,_,r.dx,_,_,_,rfl,R.o,rfl,T.aa,(jCZ T),A,r,rfl,R,e,nw;exists _,rfl,r.a,_,r.dx,_,_,_,rfl,R.o,rfl,T.aa,(jFQ T),A,r,rfl,R;have tl:∀ (r':RU) (H1:Hp),r'.a=r.a->r'.dx=r.dx->kK yG yQ H1 A r'->kK yG yQ (upd H1 r.a (.ins yG r.dx (pO A { r' with br:=!whl r' }))) A { r' with br:=!whl r' }/\kK yG yQ (upd H1 r.a (.ins yG r.dx (pO A { r' with br:=!whl r',pt:=false }))) A { r' with br:=!whl r',pt:=false }:=fun r' H1 e1 e2 R'=>by
  rw [<- e1,<- e2];exact⟨R'.set rfl rfl rfl rfl rfl R'.le,R'.set rfl rfl rfl rfl rfl R'.le⟩
 rcases z with⟨hp,q⟩|⟨hp,p,b,ts,W,q⟩
 ·refine .inl ⟨hp,fun l H1 s1 nl hl=>?_⟩;have R1:=R.same s1;obtain⟨R2,R3⟩:=tl r H1 rfl rfl R1;exists _,rfl,r.a,_,r.dx,_,_,_,rfl,R1.o,rfl,T.aa,(jCa T),A,r,rfl,R1;refine⟨_,rfl,_,rfl,r.a,yG,r.dx,_,rfl,R1.o,T.aa,T.aN,(by show 6<1000;decide),?_⟩;rw [jNd];refine⟨_,rfl,r.a,yG,r.dx,_,rfl,R2.o,T.aa,T.ao,(by show 6<1000;decide),?_⟩;rw [show V.non=(if false=true then V.ref A.x else .non) from rfl,jG0,tI];have uK:l≠r.a:=symm (gM R.o nl);exact⟨_,rfl,q l _ (fun b o nb e=>by rw [eJ nb];exact s1 _ _ e) nl (by rw [eJ uK];exact hl) R3⟩
 ·refine .inr ⟨hp,p,b,ts,W,nw,fun l H1 f1 nl hl tg W1=>?_⟩;obtain⟨R2,R3⟩:=tl (nP (jF r ts.length)) H1 rfl rfl W1.R;exists _,rfl,r.a,_,r.dx,_,_,_,rfl,W1.R.o,rfl,T.aa,(jCa T),A,nP (jF r ts.length),rfl,W1.R;refine⟨_,rfl,_,rfl,r.a,yG,r.dx,_,rfl,W1.R.o,T.aa,T.aN,(by show 6<1000;decide),?_⟩;rw [jNd];refine⟨_,rfl,r.a,yG,r.dx,_,rfl,R2.o,T.aa,T.ao,(by show 6<1000;decide),?_⟩;rw [show V.non=(if false=true then V.ref A.x else .non) from rfl,jG0,tI];have uK:l≠r.a:=symm (gM R.o nl);have k2:∀ b o,b≠r.a->H1 b=some o->upd H1 r.a (.ins yG r.dx (pO A { nP (jF r ts.length) with br:=!whl (nP (jF r ts.length)),pt:=false })) b=some o:=fun b o nb e=>by rw [eJ nb];exact e
  exact⟨_,rfl,q l _ (f1.trans (jGB k2)) nl (k2 _ _ uK hl) (tg.cs (W1.R.cst k2)) R3 (W1.P.off W1.R k2)⟩
example jIQ(eQ cJ:Addr):∀ x dx J,vs=[.ref x,.ref J.x]->H x=some (.ins eQ dx [])->Jat cJ H J->1<=J.p->J.p<=3->(∀ r H',(∀ b o,b≠x->H b=some o->H' b=some o)->r.a=x->r.J=J->r.pt=false->r.br=false->r.o=0->(∀ A,kK eQ cJ H' A r)->Q .non H')->jIQ eQ cJ:=0
example Daj:MkD 6 "Run" yG ["self","job"] (jIQ yG yQ):=by
 nomatch mkD T.e T.kc9 T.p72,["self","job"]
 obtain⟨x,dx,J,rfl,hx,j,p0,p1,q⟩:=h;exists _,(eE (kM (pv 0) (pv 1) rfl) (eE (kM (pv 0) (jK7 (rX (frees:=[ ("job",1) ]) ⟨by decide +kernel,rfl,rfl,by decide +kernel,⟨⟨rfl,rfl,rfl,by decide +kernel⟩,trivial⟩,by decide +kernel,oX rfl,rfl⟩ rfl (oW (jV (jMr T) hr.m rfl (dN (pv 1) dZ))) (fun _ _ _ _=>vT) (fun _ _ _ _=>by exact (jV (jQc T) hr.m rfl (dN (pv 0) (dN (jGU (K:=K) rfl (pv 1) rfl) dZ)))))) rfl) (eE (kM (pv 0) fY rfl) (eE (kM (pv 0) m3 rfl) (eE (kM (pv 0) o8 rfl) (eI (kM (pv 0) o8 rfl)))))))
 have njx:J.x≠x:=fN j.o hx (by intro z;injection z with _ _ z;cases z);have kj:∀ {G:Hp},(∀ b o,b≠x->H b=some o->G b=some o)->Jat yQ G J:=fun k=>⟨k _ _ njx j.o,k _ _ (fN j.t hx nofun) j.t,j.l⟩
 have I0:=Ini.nil hx;have I1:=I0.set "job" (.ref J.x);refine⟨_,rfl,_,rfl,x,yG,dx,_,rfl,I0.o,T.aa,T.aD,(by show 0<1000;decide),?_⟩;generalize upd _ x _=H1 at I1 ⊢;have j1:=kj I1.k;refine⟨_,rfl,J,rfl,j1,p0,p1,fun p H2 s2 W=>?_⟩;obtain⟨ys,hp,l0,l1,gy⟩:=W;refine⟨p,rfl,⟨_,SqL.of hp⟩,jCk (vR (K:=K) (SqL.of hp)) (fun _ z H3=>∃ t v,z=.ref t/\H3 t=some (.tup [.int v,.int 0])/\0<=v/\v<=2) (kZ (by omega)) (fun x _ H' R _ rr=>rr) (fun v hv G R sG rr=>?_) (fun D H3 zs s3 nD hD ly gz=>?_)⟩
 ·exact⟨_,rfl,_,rfl,J.x,yQ,J.dx,_,_,rfl,(j1.same (s2.trans sG)).o,T.ah,T.bp,rfl,v,rfl,(gy v hv).same sG,fun t y H' s' nt ht y0 y2=>rr _ H' s' ⟨fun b=>b=t,fun b hb=>by subst hb;exact⟨nt,_,ht⟩,fun H4 h4=>⟨t,y,rfl,by rw [h4 t rfl];exact ht,y0,y2⟩⟩⟩
 refine⟨D,zs,rfl,hD,fun o=>?_⟩;have nD1:=s2.free nD;have q9:upd H3 D (.frz o (.lst zs)) D=some (.frz o (.lst zs)):=eO;have I2:=I1.same (tY nD1 (s2.trans s3) (.frz o (.lst zs)));have gt:∀ y∈zs,∃ t v,y=.ref t/\upd H3 D (.frz o (.lst zs)) t=some (.tup [.int v,.int 0])/\0<=v/\v<=2:=fun y hy=>by
  obtain⟨i,ei⟩:=mem_iff_getElem?.mp hy;obtain⟨x',ex⟩:∃ x',ys[i]?=some x':=⟨_,getElem?_eq_getElem (by rw [<- ly];exact (List.getElem?_eq_some_iff.mp ei).1)⟩
  obtain⟨t,v,e1,e2,e3⟩:=gz i x' y ex ei;exact⟨t,v,e1,by rw [eJ (fN e2 hD nofun)];exact e2,e3⟩
 generalize upd H3 D _=H4 at q9 I2 gt ⊢;have off:∀ {fs:List (Str×V)} {ks:List Str} {H5:Hp} (I:Ini yG x dx H H5 fs ks) (f:Str) (v:V),(∀ y∈zs,∃ t v,y=.ref t/\H5 t=some (.tup [.int v,.int 0])/\0<=v/\v<=2)->∀ y∈zs,∃ t v',y=.ref t/\upd H5 x (.ins yG dx (l7 f v fs)) t=some (.tup [.int v',.int 0])/\0<=v'/\v'<=2:=fun I f v g y hy=>let ⟨t,v',e1,e2,e3⟩:=g y hy;⟨t,v',e1,I.off f v _ _ (by intro d f z;cases z) e2,e3⟩;have I3:=I2.set "inks" (.ref D);replace q9:=I2.off "inks" (.ref D) _ _ (by intro d f z;cases z) q9;replace gt:=off I2 "inks" (.ref D) gt;refine⟨_,rfl,x,yG,dx,_,rfl,I2.o,T.aa,T.bB,(by show 1<1000;decide),?_⟩;generalize upd _ x _=H5 at q9 gt I3 ⊢;have I4:=I3.set "passed" (.int 0);replace q9:=I3.off "passed" (.int 0) _ _ (by intro d f z;cases z) q9;replace gt:=off I3 "passed" (.int 0) gt;refine⟨_,rfl,x,yG,dx,_,rfl,I3.o,T.aa,T.aI,(by show 2<1000;decide),?_⟩;generalize upd _ x _=H5 at q9 gt I4 ⊢;have I5:=I4.set "printer" .non;replace q9:=I4.off "printer" .non _ _ (by intro d f z;cases z) q9;replace gt:=off I4 "printer" .non gt;refine⟨_,rfl,x,yG,dx,_,rfl,I4.o,T.aa,T.ao,(by show 3<1000;decide),?_⟩;generalize upd _ x _=H5 at q9 gt I5 ⊢;have I6:=I5.set "slipped" (.bl false);replace q9:=I5.off "slipped" (.bl false) _ _ (by intro d f z;cases z) q9;replace gt:=off I5 "slipped" (.bl false) gt;refine⟨_,rfl,x,yG,dx,_,rfl,I5.o,T.aa,T.aW,(by show 4<1000;decide),?_⟩;generalize upd _ x _=H5 at q9 gt I6 ⊢;have I7:=I6.set "broken" (.bl false);replace q9:=I6.off "broken" (.bl false) _ _ (by intro d f z;cases z) q9;replace gt:=off I6 "broken" (.bl false) gt;refine⟨_,rfl,x,yG,dx,_,rfl,I6.o,T.aa,T.aN,(by show 5<1000;decide),?_⟩;exact q ⟨x,dx,D,J,ys.length,0,false,false⟩ _ I7.k rfl rfl rfl rfl rfl fun A=>⟨I7.o,kj I7.k,⟨o,zs,q9,ly,gt⟩,l0,l1,d9 _⟩
theorem LD.Ok.has{D:LD}(O:D.Ok){a:Str}(h:a∈kys D.ra):∃ r l s,gL D.ra a=some r/\gL D.lv a=some l/\gL D.sh a=some s/\0<s/\s<=1000:=by
 obtain⟨r,er⟩:=mO h;obtain⟨l,el⟩:=mO (show a∈D.lv.map (·.1) by have:=O.lk;unfold kys at this;rw [this];exact h);obtain⟨s,es⟩:=mO (show a∈D.sh.map (·.1) by have:=O.sk;unfold kys at this;rw [this];exact h);exact⟨r,l,s,er,el,es,O.ss _ (nQ es)⟩
theorem sS(l:List Str):(l.map V.str).all tJ=true:=by
 rw [all_map];exact gZ.mpr fun _ _=>rfl
theorem jIR(h:∀ H',G H'):New H H G:=⟨fun _=>False,fun _ z=>z.elim,fun H3 _=>h H3⟩
theorem jJz{κ α:Type}[DecidableEq κ]{l:List (κ×α)}{k:κ}{v:α}(h:k∈kys l):kys (hJ l k v)=kys l:=by
 unfold kys at *;rw [jFA,if_pos h]
theorem jCb{κ α:Type}[DecidableEq κ]{l:List (κ×α)}{k:κ}{v:α}(h:¬ k∈kys l):kys (hJ l k v)=kys l++[k]:=by
 unfold kys at *;rw [jFA,if_neg h]
theorem jDu{κ α:Type}[DecidableEq κ]{l:List (κ×α)}{k:κ}{v:α}{p:κ×α}(h:p∈hJ l k v):p∈l\/p=(k,v):=by
 unfold hJ at h;split at h
 ·grind
 grind
theorem jQd(h:a∈kys D.lv):kys (vV D a l r)=kys D.lv:=by
 unfold vV;split
 ·rfl
 ·exact jJz h
noncomputable def wM(D:LD)(n a:Str)(c l r:Int)(t:Addr):LD:={ D with lv:=vV D a l r,ow:=hJ D.ow n a,co:=hJ D.co n c,no:=hJ D.no n (t,[]),qu:=hJ D.qu n () }
theorem LD.Ok.lay{D:LD}(O:D.Ok){n a:Str}{c l r:Int}{t:Addr}(ha:a∈kys D.ra)(hn:¬ n∈kys D.ow):(wM D n a c l r t).Ok:=by
 have hq:¬ n∈kys D.qu:=fun z=>hn (O.qo n z);have hlv:a∈kys D.lv:=by rw [O.lk];exact ha
 exists fun m hm=>?_,?_,?_,O.sk,?_,fun p hp=>?_,O.ss,?_
 ·replace hm:m∈kys (hJ D.qu n ()):=hm;show m∈kys (hJ D.ow n a);rw [jCb hq] at hm;rw [jCb hn];rcases eN.mp hm with hm|hm
  ·exact eS _ (O.qo m hm)
  ·exact dH _ hm
 ·show kys (hJ D.co n c)=kys (hJ D.ow n a);rw [jCb (by rw [O.oc];exact hn),jCb hn,O.oc]
 ·show kys (hJ D.no n (t,[]))=kys (hJ D.ow n a);rw [jCb (by rw [O.on];exact hn),jCb hn,O.on]
 ·show kys (vV D a l r)=kys D.ra;rw [jQd hlv,O.lk]
 ·rcases jDu hp with hp|rfl
  ·exact O.oa p hp
  ·exact ha
 ·exact jLq O.qn
 ·exact jLq O.wn
theorem LD.Ok.pull{D:LD}(O:D.Ok){n:Str}:LD.Ok { D with qu:=pF D.qu n }:=⟨fun m hm=>O.qo m (jCH.mp hm).1,O.oc,O.on,O.sk,O.lk,O.oa,O.ss,jHU O.qn,O.wn⟩
theorem jNe(h:qX no=xV D n c able done (qX l)):kys no=kys l/\no.map (·.2.1)=l.map (·.2.1)/\∀ k,(∀ p∈l,p.2.2.length<=k)->∀ p∈no,p.2.2.length<=k+1:=by
 have g:∀ {β:Type} (f:Str->Addr->β),no.map (fun p=>f p.1 p.2.1)=l.map (fun p=>f p.1 p.2.1):=fun f=>by
  have:=congrArg (map fun p:Con=>f p.1 p.2.1) h;unfold qX xV at this;rw [dU,dU,dU] at this;refine this.trans ?_;refine eT fun p _=>?_;by_cases c:p.1∈done
  ·simp only [zU,if_pos c]
  ·simp only [zU,if_neg c]
 refine⟨g fun a _=>a,g fun _ a=>a,fun k hk p hp=>?_⟩;have h1:((p.1,p.2.1,p.2.2.map (·.2)):Con)∈qX no:=dR.mpr ⟨p,hp,rfl⟩;rw [h] at h1;obtain⟨q,hq,e⟩:=dR.mp h1;obtain⟨q',wT,rfl⟩:=dR.mp hq;have e3:=congrArg (fun c:Con=>c.2.2.length) e;have b:=hk q' wT;by_cases c:q'.1∈done
 ·simp only [if_pos c,length_append,c7,fC,j6] at e3;omega
 ·simp only [if_neg c,c7] at e3;omega
theorem LD.Ok.take{D:LD}(O:D.Ok){n a:Str}{r l c s:Int}{no:List (Str×Addr×List tF)}(hl:a∈kys D.lv)(kn:kys no=kys D.no):(yB D n a r l c s no).Ok:=by
 refine⟨fun m hm=>O.qo m (jCH.mp hm).1,O.oc,kn.trans O.on,O.sk,?_,O.oa,O.ss,jHU O.qn,O.wn⟩;show kys (hJ D.lv a _)=kys D.ra;rw [jJz hl,O.lk]
theorem jFf(h:kys l=kys m):l.length=m.length:=by
 have:=congrArg List.length h;unfold kys at this
 grind
theorem jD5(N:iC cL H L D)(e:H b=none):¬ LF L D b:=fun h=>by
 rcases jGY N h with⟨k,ek⟩|⟨k,ek⟩<;>(rw [e] at ek;cases ek)
theorem yM(h:D'.no.map (·.2.1)=D.no.map (·.2.1))(z:LF L D' b):LF L D b:=by
 rcases z with z|⟨n,hn,rfl⟩
 ·exact .inl z
 ·have:n.2.1∈D'.no.map (·.2.1):=jI (f:=fun p:Str×Addr×List tF=>p.2.1) hn;rw [h] at this;obtain⟨n',hn',e⟩:=dR.mp this;exact .inr ⟨n',hn',e.symm⟩
structure HAd where
 x:Addr
 dx:Addr
 pr:Addr
 pi:Addr
 rn:Addr
 bk:Addr
 bd:Addr
 pl:Addr
 bl:Addr
 A:PA
 L:LA
noncomputable def hlF(h:HAd):List (Str×V):=[("printers",.ref h.pr),("piles",.ref h.pi),("line",.ref h.L.x),("runs",.ref h.rn),("records",.ref h.bk)]
noncomputable def oA(h:HAd):List Addr:=[h.pr,h.pi,h.rn,h.A.T.m,h.A.I.m,h.A.il,h.pl,h.bl]
noncomputable def rP(r:RU):V:=.ref r.a
structure Fu where
 f:Nat
 u:Nat
 v:Nat
noncomputable def Fu.le(F F':Fu)(k:Nat):Prop:=F.f<=F'.f+k/\F'.u<=F.u+k/\F'.v<=F.v+2*k
theorem Fu.trans{F G K:Fu}{a b c:Nat}(h:F.le G a)(h':G.le K b)(e:a+b<=c):F.le K c:=⟨by have:=h.1;have:=h'.1;omega,by have:=h.2.1;have:=h'.2.1;omega,by have:=h.2.2;have:=h'.2.2;omega⟩
theorem Fu.refl(F:Fu)(k:Nat):F.le F k:=⟨by omega,by omega,by omega⟩
noncomputable def xR(D:LD)(cu:Option Str)(p:Str×RU):Prop:=(p.1∈kys D.qu/\cu≠some p.1/\p.2.pt=false/\p.2.br=false/\p.2.o=0)\/(¬ p.1∈kys D.qu/\cu=some p.1/\p.2.pt=true/\p.2.br=false/\whl p.2=false)\/(¬ p.1∈kys D.qu/\cu≠some p.1/\p.2.pt=false/\p.2.br=!whl p.2)
structure iY(cH cL cP cS cY eQ cJ cB tP:Addr)(H:Hp)(h:HAd)(D:LD)(rs:List (Str×RU))(cu ex:Option Str)(ts:List V)(F:Fu):Prop where
 o:H h.x=some (.ins cH h.dx (hlF h))
 k:H h.bk=some (.ins cB h.bd [("rows",.ref h.bl)])
 p:H h.pr=some (.dK (dG Sum.inr V.ref [("press",h.A.x)]))
 i:H h.pi=some (.dK (dG Sum.inr V.ref [("press",h.pl)]))
 r:H h.rn=some (.dK (dG Sum.inr rP rs))
 P:∃ p b:Int,j7 cP cS cY H h.A p b ts/\(F.f:Int)<=p/\(2*F.f:Int)<=b
 l:∃ xs,H h.pl=some (.lst xs)/\xs.length<=F.u
 b:∃ xs,H h.bl=some (.lst xs)/\xs.length<=F.v
 N:iC cL H h.L D
 R:∀ p∈rs,kK eQ cJ H h.A p.2
 tab:tW H tP
 ra:(rs.map (·.2.a)).Nodup
 kr:kys rs=kys D.ow
 nd:(kys rs).Nodup
 nh:(oA h).Nodup
 nl:∀ x∈oA h,¬ LF h.L D x
 s:∀ p∈rs,ex≠some p.1->xR D cu p
 c0:cu=none->ts=[]
 c1:∀ n,cu=some n->∃ r,gL rs n=some r/\r.pt=true/\r.br=false/\whl r=false/\nA H ts r.o/\r.o+ts.length<=r.n+1
 q:kys D.qu=(kys rs).filter fun n=>decide (n∈kys D.qu)
noncomputable def HFr(tP:Addr)(h:HAd)(D:LD)(H H':Hp):Prop:=∀ b o,b≠tP->¬ b∈oA h->¬ LF h.L D b->(∀ C d fs,o=.ins C d fs->fs.length≠6)->H b=some o->H' b=some o
theorem h_pr(h:HAd):h.pr∈oA h:=mem_of_getElem? (i:=0) rfl
theorem h_pi(h:HAd):h.pi∈oA h:=mem_of_getElem? (i:=1) rfl
theorem u6(h:HAd):h.rn∈oA h:=mem_of_getElem? (i:=2) rfl
theorem wY(h:HAd):h.A.T.m∈oA h:=mem_of_getElem? (i:=3) rfl
theorem wZ(h:HAd):h.A.I.m∈oA h:=mem_of_getElem? (i:=4) rfl
theorem w5(h:HAd):h.A.il∈oA h:=mem_of_getElem? (i:=5) rfl
theorem h_pl(h:HAd):h.pl∈oA h:=mem_of_getElem? (i:=6) rfl
theorem h_bl(h:HAd):h.bl∈oA h:=mem_of_getElem? (i:=7) rfl
theorem iC.csL(N:iC cL H L D)(c:oR H H')(k:∀ b o,LF L D b->H b=some o->H' b=some o):iC cL H' L D :=
 ⟨c _ _ (yR (by show 8≠6;decide)) N.o,fun i a v hi hk=>k _ _ (.inl (mem_of_getElem? hi)) (N.d i hi hk),fun n h=>k _ _ (.inr ⟨n,h,rfl⟩) (N.nl n h),fun n h t ht=>c _ _ jD0 (N.nt n h t ht),N.nd,N.nn⟩
theorem tW.of(t:tW H tP)(k:∀ b o,(∀ C d fs,o=.ins C d fs->fs.length≠6)->(∀ k,o≠.dK k)->(∀ k,o≠.lst k)->H b=some o->H' b=some o):tW H' tP:=by
 rcases t with t|⟨c,t1,t2⟩
 ·exact .inl (k _ _ (by intro C d fs z;cases z) (by intro k z;cases z) (by intro k z;cases z) t)
 ·exact .inr ⟨c,k _ _ (by intro C d fs z;cases z) (by intro k z;cases z) (by intro k z;cases z) t1,k _ _ (by intro C d fs z;cases z) (by intro k z;cases z) (by intro k z;cases z) t2⟩
section
variable {cH cL cP cS cY eQ cJ cB tP:Addr}{H H':Hp}{h:HAd}{D D':LD}{rs mL:List (Str×RU)}{cu cu' ex ex':Option Str}{ts ts':List V}{F F':Fu}
theorem vU(s:eR H H'):HFr tP h D H H':=fun b o _ _ _ _ e=>s b o e
theorem HFr.trans(f:HFr tP h D H H1)(g:HFr tP h D H1 H'):HFr tP h D H H':=fun b o x y z w e=>g b o x y z w (f b o x y z w e)
theorem iY.same(A:iY cH cL cP cS cY eQ cJ cB tP H h D rs cu ex ts F)(s:eR H H'):iY cH cL cP cS cY eQ cJ cB tP H' h D rs cu ex ts F :=
 let ⟨p,b,P,f1,f2⟩:=A.P;let ⟨xs,ex,lx⟩:=A.l;let ⟨ys,ey,ly⟩:=A.b
 { A with o:=s _ _ A.o,k:=s _ _ A.k,p:=s _ _ A.p,i:=s _ _ A.i,r:=s _ _ A.r,P:=⟨p,b,P.same s,f1,f2⟩,l:=⟨xs,s _ _ ex,lx⟩,b:=⟨ys,s _ _ ey,ly⟩,N:=A.N.same s,R:=fun p hp=>(A.R p hp).same s,tab:=A.tab.same s,c1:=fun n e=>let ⟨r,a1,a2,a3,a4,a5,a6⟩:=A.c1 n e;⟨r,a1,a2,a3,a4,a5.cs (jCv s),a6⟩ }
theorem iY.kind(A:iY cH cL cP cS cY eQ cJ cB tP H h D rs cu ex ts F){b:Addr}(hb:b∈oA h):(∃ k,H b=some (.dK k))\/∃ k,H b=some (.lst k):=by
 obtain⟨p,b',P,_⟩:=A.P;obtain⟨xs,ex,lx⟩:=A.l;obtain⟨ys,ey,ly⟩:=A.b;unfold oA at hb;simp only [dX,fU,or_false] at hb;rcases hb with rfl|rfl|rfl|rfl|rfl|rfl|rfl|rfl
 ·exact .inl ⟨_,A.p⟩
 ·exact .inl ⟨_,A.i⟩
 ·exact .inl ⟨_,A.r⟩
 ·exact .inl ⟨_,P.t⟩
 ·exact .inl ⟨_,P.i⟩
 ·exact .inr ⟨_,P.l⟩
 ·exact .inr ⟨_,ex⟩
 ·exact .inr ⟨_,ey⟩
theorem iY.not(A:iY cH cL cP cS cY eQ cJ cB tP H h D rs cu ex ts F){b:Addr}{o:HO}(e:H b=some o)(h1:∀ k,o≠.dK k)(h2:∀ k,o≠.lst k):¬ b∈oA h/\¬ LF h.L D b:=⟨fun z=>by
 rcases A.kind z with⟨k,ek⟩|⟨k,ek⟩
 ·grind
 grind,jEr A.N e h1 h2⟩
theorem HFr.cs(A:iY cH cL cP cS cY eQ cJ cB tP H h D rs cu ex ts F)(f:HFr tP h D H H'):oR H H':=fun b o c e=>by
 obtain⟨ps,tp⟩:=A.tab.is;obtain⟨n1,n2⟩:=A.not e c.nd c.nl;refine f b o (fN e tp (c.nt _)) n1 n2 (fun C d fs z=>?_) e;rcases c with⟨xs,rfl⟩|⟨p,u,rfl⟩|⟨C',d',fs',rfl,n⟩
 ·cases z
 ·cases z
 grind
theorem iY.line(A:iY cH cL cP cS cY eQ cJ cB tP H h D rs cu ex ts F)(k:∀ b o,b≠tP->¬ LF h.L D b->H b=some o->H' b=some o)(N:iC cL H' h.L D')(t:tW H' tP)(g:∀ b o,LF h.L D' b->H b=some o->LF h.L D b)(ek:kys D'.ow=kys D.ow)(s':∀ p∈rs,ex'≠some p.1->xR D' cu p)(q':kys D'.qu=(kys rs).filter fun n=>decide (n∈kys D'.qu)):iY cH cL cP cS cY eQ cJ cB tP H' h D' rs cu ex' ts F/\HFr tP h D H H':=by
 obtain⟨ps,tp⟩:=A.tab.is;have f:HFr tP h D H H':=fun b o n1 _ n2 _ e=>k b o n1 n2 e;have kk:∀ {b o},b∈oA h->H b=some o->(∀ x,o≠.tbl x)->H' b=some o:=fun hb e n=>k _ _ (fN e tp (n _)) (A.nl _ hb) e;have ki:∀ {b C d fs},H b=some (.ins C d fs)->H' b=some (.ins C d fs):=fun e=>k _ _ (fN e tp nofun) (A.not e (by intro k z;cases z) (by intro k z;cases z)).2 e;have c:=f.cs A;obtain⟨p,b,P,f1,f2⟩:=A.P;obtain⟨xs,ex,lx⟩:=A.l;obtain⟨ys,ey,ly⟩:=A.b;have hp:=kk (h_pr h) A.p (by intro x z;cases z)
 exact⟨⟨ki A.o,ki A.k,hp,kk (h_pi h) A.i (by intro x z;cases z),kk (u6 h) A.r (by intro x z;cases z),⟨p,b,⟨P.k.cs c,kk (wY h) P.t (by intro x z;cases z),kk (wZ h) P.i (by intro x z;cases z),kk (w5 h) P.l (by intro x z;cases z),P.n⟩,f1,f2⟩,⟨xs,kk (h_pl h) ex (by intro x z;cases z),lx⟩,⟨ys,kk (h_bl h) ey (by intro x z;cases z),ly⟩,N,fun p hp=>(A.R p hp).cs c (ki (A.R p hp).o),t,A.ra,A.kr.trans ek.symm,A.nd,A.nh,fun x hx z=>by
  rcases A.kind hx with⟨k,e⟩|⟨k,e⟩
  ·exact A.nl x hx (g _ _ z e)
  ·exact A.nl x hx (g _ _ z e),s',A.c0,fun n e=>let ⟨r,a1,a2,a3,a4,a5,a6⟩:=A.c1 n e;⟨r,a1,a2,a3,a4,a5.cs c,a6⟩,q'⟩,f⟩
theorem iY.run(A:iY cH cL cP cS cY eQ cJ cB tP H h D rs cu ex ts F){n:Str}{r r':RU}(e:gL rs n=some r)(ea:r'.a=r.a)(k:Fr h.A r.a H H')(R:kK eQ cJ H' h.A r')(P':∃ p b:Int,j7 cP cS cY H' h.A p b ts'/\(F'.f:Int)<=p/\(2*F'.f:Int)<=b)(eu:F'.u=F.u)(ev:F'.v=F.v)(s':∀ q∈rs,q.1≠n->ex'≠some q.1->xR D cu' q)(sn:ex'≠some n->xR D cu' (n,r'))(c0:cu'=none->ts'=[])(c1:∀ m,cu'=some m->∃ r,gL (hJ rs n r') m=some r/\r.pt=true/\r.br=false/\whl r=false/\nA H' ts' r.o/\r.o+ts'.length<=r.n+1):iY cH cL cP cS cY eQ cJ cB tP H' h D (hJ rs n r') cu' ex' ts' F'/\HFr tP h D H H':=by
 have hm:=nQ e;have R0:=A.R _ hm;obtain⟨p,b,P,_⟩:=A.P;have c:=k.cs R0 P;have hn:n∈rs.map (·.1):=yT e;have hu:hJ rs n r'=rs.map fun q=>if q.1=n then (q.1,r') else q:=by unfold hJ;rw [if_pos hn]
 have eq:∀ q∈rs,q.1=n->q.2=r:=fun q hq z=>by
  have:=jDc A.nd hq;rw [z,e] at this;exact (Option.some.inj this).symm
 have evm:(hJ rs n r').map (·.2.a)=rs.map (·.2.a):=by
  rw [hu,dU];refine eT fun q hq=>?_;show (if q.1=n then (q.1,r') else q).2.a=q.2.a;by_cases c:q.1=n
  ·rw [if_pos c,eq q hq c];exact ea
  ·rw [if_neg c]
 have ek:kys (hJ rs n r')=kys rs:=jJz hn;have nh:=A.nh;have ko:∀ {b o},b∈oA h->b≠h.A.il->b≠h.A.T.m->b≠h.A.I.m->H b=some o->(∀ C d fs,o≠.ins C d fs)->H' b=some o:=fun hb n1 n2 n3 e n=>k _ _ (fN e R0.o (n _ _ _)) n1 n2 n3 e;have kl:∀ b o,LF h.L D b->H b=some o->H' b=some o:=fun b o z e'=>k b o (fun w=>(A.not R0.o (by intro k z;cases z) (by intro k z;cases z)).2 (w ▸ z)) (fun w=>A.nl _ (w5 h) (w ▸ z)) (fun w=>A.nl _ (wY h) (w ▸ z)) (fun w=>A.nl _ (wZ h) (w ▸ z)) e';obtain⟨xs,exs,lx⟩:=A.l;obtain⟨ys,ey,ly⟩:=A.b;have f:HFr tP h D H H':=fun b o _ n1 _ n6 e'=>k b o (fN e' R0.o (fun z=>n6 _ _ _ z rfl)) (fun w=>n1 (w ▸ w5 h)) (fun w=>n1 (w ▸ wY h)) (fun w=>n1 (w ▸ wZ h)) e';refine⟨⟨c _ _ (yR (by show 5≠6;decide)) A.o,c _ _ (yR (by show 1≠6;decide)) A.k,ko (h_pr h) (kP nh (i:=0) (j:=5) rfl rfl (by decide)) (kP nh (i:=0) (j:=3) rfl rfl (by decide)) (kP nh (i:=0) (j:=4) rfl rfl (by decide)) A.p (by intro C d fs z;cases z),ko (h_pi h) (kP nh (i:=1) (j:=5) rfl rfl (by decide)) (kP nh (i:=1) (j:=3) rfl rfl (by decide)) (kP nh (i:=1) (j:=4) rfl rfl (by decide)) A.i (by intro C d fs z;cases z),?_,P',⟨xs,ko (h_pl h) (kP nh (i:=6) (j:=5) rfl rfl (by decide)) (kP nh (i:=6) (j:=3) rfl rfl (by decide)) (kP nh (i:=6) (j:=4) rfl rfl (by decide)) exs (by intro C d fs z;cases z),by rw [eu];exact lx⟩,⟨ys,ko (h_bl h) (kP nh (i:=7) (j:=5) rfl rfl (by decide)) (kP nh (i:=7) (j:=3) rfl rfl (by decide)) (kP nh (i:=7) (j:=4) rfl rfl (by decide)) ey (by intro C d fs z;cases z),by rw [ev];exact ly⟩,A.N.csL c kl,fun q hq=>?_,A.tab.of fun b o n6 nd' xM e'=>?_,by rw [evm];exact A.ra,ek.trans A.kr,by rw [ek];exact A.nd,nh,A.nl,fun q hq nq=>?_,c0,c1,by rw [ek];exact A.q⟩,f⟩
 ·have er:dG Sum.inr rP (hJ rs n r')=dG Sum.inr rP rs:=by
   unfold dG;rw [hu,dU];refine eT fun q hq=>?_;show ((Sum.inr (if q.1=n then (q.1,r') else q).1:Key),rP (if q.1=n then (q.1,r') else q).2)=(Sum.inr q.1,rP q.2)
   by_cases c:q.1=n
   ·rw [if_pos c,eq q hq c];unfold rP;rw [ea]
   ·rw [if_neg c]
  rw [er];exact ko (u6 h) (kP nh (i:=2) (j:=5) rfl rfl (by decide)) (kP nh (i:=2) (j:=3) rfl rfl (by decide)) (kP nh (i:=2) (j:=4) rfl rfl (by decide)) A.r (by intro C d fs z;cases z)
 ·rw [hu] at hq;obtain⟨q0,h0,e0⟩:=dR.mp hq;by_cases c0:q0.1=n
  ·rw [if_pos c0] at e0;rw [<- e0];exact R
  ·rw [if_neg c0] at e0;rw [<- e0];have Rq:=A.R q0 h0;refine Rq.cs c (k _ _ (fun w=>?_) (fN Rq.o P.l nofun) (fN Rq.o P.t nofun) (fN Rq.o P.i nofun) Rq.o);obtain⟨i,hi⟩:=mem_iff_getElem?.mp h0;obtain⟨j,hj⟩:=mem_iff_getElem?.mp hm;have ij:i≠j:=fun z=>by
    rw [z,hj] at hi;exact c0 (congrArg (·.1) (Option.some.inj hi)).symm
   exact absurd w (kP A.ra (i:=i) (j:=j) (by rw [getElem?_map,hi];rfl) (by rw [getElem?_map,hj];rfl) ij)
 ·exact k b o (fN e' R0.o (fun z=>n6 _ _ _ z rfl)) (fN e' P.l (xM _)) (fN e' P.t (nd' _)) (fN e' P.i (nd' _)) e'
 ·rw [hu] at hq;obtain⟨q0,h0,e0⟩:=dR.mp hq;by_cases c0:q0.1=n
  ·rw [if_pos c0,c0] at e0;rw [<- e0] at nq ⊢;exact sn nq
  ·rw [if_neg c0] at e0;rw [<- e0] at nq ⊢;exact s' q0 h0 c0 nq
theorem iY.wrote(A:iY cH cL cP cS cY eQ cJ cB tP H h D rs cu ex ts F)(ha:a=h.pl\/a=h.bl)(k:∀ b o,b≠a->H b=some o->H' b=some o)(l':∃ xs,H' h.pl=some (.lst xs)/\xs.length<=F'.u)(b':∃ xs,H' h.bl=some (.lst xs)/\xs.length<=F'.v)(ef:F'.f<=F.f):iY cH cL cP cS cY eQ cJ cB tP H' h D rs cu ex ts F'/\HFr tP h D H H':=by
 obtain⟨p,b,P,f1,f2⟩:=A.P;have nh:=A.nh;have hA:a∈oA h:=by rcases ha with rfl|rfl;exact h_pl h;exact h_bl h
 have la:∃ xs,H a=some (.lst xs):=by
  rcases ha with rfl|rfl
  ·obtain⟨xs,e,_⟩:=A.l;exact⟨xs,e⟩
  ·obtain⟨xs,e,_⟩:=A.b;exact⟨xs,e⟩
 obtain⟨xa,ea⟩:=la;have c:oR H H':=fun b o c e=>k b o (fN e ea (c.nl _)) e;have kd:∀ {b kv},H b=some (.dK kv)->H' b=some (.dK kv):=fun e=>k _ _ (fN e ea nofun) e;have uT:h.A.il≠a:=by rcases ha with rfl|rfl;exact kP nh (i:=5) (j:=6) rfl rfl (by decide);exact kP nh (i:=5) (j:=7) rfl rfl (by decide)
 exact⟨⟨c _ _ (yR (by show 5≠6;decide)) A.o,c _ _ (yR (by show 1≠6;decide)) A.k,kd A.p,kd A.i,kd A.r,⟨p,b,⟨P.k.cs c,kd P.t,kd P.i,k _ _ uT P.l,P.n⟩,by omega,by omega⟩,l',b',A.N.csL c fun b o z e=>k b o (fun w=>A.nl _ hA (w ▸ z)) e,fun q hq=>(A.R q hq).cs c (k _ _ (fN (A.R q hq).o ea nofun) (A.R q hq).o),A.tab.of fun b o _ _ n e=>k b o (fN e ea (n _)) e,A.ra,A.kr,A.nd,nh,A.nl,A.s,A.c0,fun n e=>let ⟨r,a1,a2,a3,a4,a5,a6⟩:=A.c1 n e;⟨r,a1,a2,a3,a4,a5.cs c,a6⟩,A.q⟩,fun b o _ n1 _ _ e=>k b o (fun w=>n1 (w ▸ hA)) e⟩
end
example jHp(cB:Addr):∀ (x dx l:Addr) (xs:List V) (v:V),vs=[.ref x,v]->H x=some (.ins cB dx [("rows",.ref l)])->H l=some (.lst xs)->xs.length<=2000000->Q .non (upd H l (.lst (xs++[v])))->jHp cB:=0
theorem big(h:n<=2000000):n<dL:=gK h (by decide)
example jDh:MtE 1 "write" yZ ["self","row"] (jHp yZ):=by
 nomatch i5 T.p19,["self","row"]
 obtain⟨x,dx,l,xs,v,rfl,hx,hl,le,q⟩:=h;exists _,(eI (jU (qV fE PySem.F.slot_list_append PySem.F.type_list_append zD (fH (pv 0) rfl) (dN (pv 1) dZ))))
 exact⟨_,rfl,x,yZ,dx,_,_,rfl,hx,T.aF,T.bP,rfl,.inl ⟨rfl,_,SqL.of hl⟩,_,rfl,l,_,_,rfl,rfl,hl,big le,q⟩
example jEB(cH cL cP cS cY eQ cJ cB tP:Addr):∀ h D rs cu ex ts F,vs=[.ref h.x,.str "press"]->iY cH cL cP cS cY eQ cJ cB tP H h D rs cu ex ts F->Q (.ref h.A.x) H->jEB cH cL cP cS cY eQ cJ cB tP:=0
example jBO:MtE 1 "printer_of" cQ ["self","printer"] (jEB cQ yX yW yJ yV yG yQ yZ dJ):=by
 nomatch i5 T.p106,["self","printer"]
 obtain⟨h,D,rs,cu,ex,ts,F',rfl,A,q⟩:=h;exists _,(eE (iK (sR (jBQ hu (pv 1) (fH (pv 0) rfl))) (eI mV) iM) (eI (gB (dgA hu (fH (pv 0) rfl) (pv 1)))))
 have g:=lO jZ A.p "press";exact⟨_,rfl,_,rfl,h.x,cQ,h.dx,_,_,rfl,A.o,T.ac,T.aJ,rfl,h.pr,_,rfl,g,_,rfl,hV ⟨_,rfl,h.x,cQ,h.dx,_,_,rfl,A.o,T.ac,T.aJ,rfl,_,rfl,h.pr,_,rfl,g,q⟩⟩
example jGC(cH cL cP cS cY eQ cJ cB tP:Addr):∀ h D rs cu ex ts F n r,vs=[.ref h.x,.str n]->iY cH cL cP cS cY eQ cJ cB tP H h D rs cu ex ts F->gL rs n=some r->Q (.ref r.a) H->jGC cH cL cP cS cY eQ cJ cB tP:=0
example jFR:MtE 1 "run_of" cQ ["self","job"] (jGC cQ yX yW yJ yV yG yQ yZ dJ):=by
 nomatch i5 T.p107,["self","job"]
 obtain⟨h,D,rs,cu,ex,ts,F',n,r,rfl,A,e,q⟩:=h;exists _,(eE (iK (sR (jBQ hu (pv 1) (fH (pv 0) rfl))) (eI mV) iM) (eI (gB (dgA hu (fH (pv 0) rfl) (pv 1)))))
 have g:=lO jZ A.r n;rw [e] at g;exact⟨_,rfl,_,rfl,h.x,cQ,h.dx,_,_,rfl,A.o,T.ac,T.aq,rfl,h.rn,_,rfl,g,_,rfl,hV ⟨_,rfl,h.x,cQ,h.dx,_,_,rfl,A.o,T.ac,T.aq,rfl,_,rfl,h.rn,_,rfl,g,q⟩⟩
theorem dG_at{α:Type}{f:α->V}{l:List (Str×α)}{i:Nat}{k:Key}{v:V}(h:(dG Sum.inr f l)[i]?=some (k,v)):∃ p∈l,k=Sum.inr p.1/\v=f p.2/\l[i]?=some p:=by
 unfold dG at h;rw [getElem?_map] at h;obtain⟨p,hp,e⟩:=dW.mp h;injection e with e1 e2;exact⟨p,mem_of_getElem? hp,e1.symm,e2.symm,hp⟩
example jGD(cH cL cP cS cY eQ cJ cB tP:Addr):∀ h D rs cu ts F,vs=[.ref h.x,.str "press"]->iY cH cL cP cS cY eQ cJ cB tP H h D rs cu none ts F->(cu=none->∀ H',eR H H'->Q .non H')->(∀ n r,cu=some n->gL rs n=some r->∀ H',eR H H'->Q (.ref r.a) H')->jGD cH cL cP cS cY eQ cJ cB tP:=0
theorem st_pt(s:xR D cu p):p.2.pt=decide (cu=some p.1):=by
 rcases s with⟨_,a,b,_⟩|⟨_,a,b,_⟩|⟨_,a,b,_⟩
 ·rw [b,decide_eq_false a]
 ·rw [b,decide_eq_true a]
 ·rw [b,decide_eq_false a]
example jFS:MtE 2 "run_at" cQ ["self","printer"] (jGD cQ yX yW yJ yV yG yQ yZ dJ):=by
 nomatch i5 T.p108,["self","printer","run"]
 obtain⟨h,D,rs,cu,ts,F',rfl,A,q1,q2⟩:=h;exists _,(eE (jDa (nY PassesOwn.never rfl (pi_vals (jPU (fH (pv 0) rfl))) (pgA (i:=2) nZ) (eI (iK (tcA qL (kT 1 gA hr.m (pv 2)) (pv 1)) (eI (gB (pv 2))) iM)))) (eI (gB m3)))
 refine⟨h.rn,_,A.r,fun o=>?_⟩;have k1:∀ b u,b≠h.rn->H b=some u->upd H h.rn (.frz o (.dK (dG Sum.inr rP rs))) b=some u:=fun b u n e=>by rw [eJ n];exact e
 have uY:upd H h.rn (.frz o (.dK (dG Sum.inr rP rs))) h.rn=some (.frz o (.dK (dG Sum.inr rP rs))):=eO;generalize upd H h.rn _=H1 at k1 uY ⊢;refine⟨_,rfl,h.x,cQ,h.dx,_,_,rfl,k1 _ _ (fN A.o A.r nofun) A.o,T.ac,T.aq,rfl,h.rn,o,_,rfl,rfl,uY,fun v nv=>?_⟩;generalize e9:upd H1 v _=H2;have s2:=nS nv e9;have hv:=nE e9;have k2:∀ b u,b≠h.rn->H b=some u->H2 b=some u:=fun b u n e=>s2 _ _ (k1 b u n e);have kc:oR H H2:=fun b u c e=>k2 b u (fN e A.r (c.nd _)) e;obtain⟨p',b',P1,_⟩:=A.P;refine⟨v,h.rn,o,_,rfl,hv,s2 _ _ uY,jPV (fun i σ G=>G=H2/\(∃ w,σ=[some (.ref h.x),some (.str "press"),w])/\∀ (j:Nat) p,j<i->rs[j]?=some p->cu≠some p.1) ⟨rfl,⟨_,rfl⟩,fun j p z=>absurd z (Nat.not_lt_zero j)⟩ (fun i σ G _ z=>by rw [z.1];exact s2 _ _ uY) (fun i k v σ G e z=>?_) (fun σ G z=>?_)⟩
 ·obtain⟨rfl,⟨w,rfl⟩,g⟩:=z;obtain⟨p,hp,_,rfl,ei⟩:=dG_at e;have R:=A.R p hp;have R2:=R.cs kc (k2 _ _ (fN R.o A.r nofun) R.o);exists _,rfl,p.2.a,_,p.2.dx,_,_,_,rfl,R2.o,rfl,T.aa,(jHY T),h.A,p.2,rfl,R2,P1.k.cs kc;rw [st_pt (A.s p hp nofun)];by_cases c:cu=some p.1
  ·rw [decide_eq_true c];refine⟨_,rfl,rfl,_,rfl,rW rfl ⟨_,rfl,s2 _ _ uY,q2 p.1 p.2 c (jDc A.nd hp) _ (jEN A.r k2)⟩⟩
  ·rw [decide_eq_false c];refine⟨_,rfl,rfl,_,rfl,rY nofun ⟨rfl,⟨_,rfl⟩,fun j q hj ej=>?_⟩⟩;by_cases cj:j<i
   ·exact g j q cj ej
   ·obtain rfl:j=i:=by omega
    rw [ei] at ej;obtain rfl:=Option.some.inj ej;exact c
 ·obtain⟨rfl,⟨w,rfl⟩,g⟩:=z;exists s2 _ _ uY;cases ec:cu with
  | none=>exact q1 ec _ (jEN A.r k2)
  | some n =>
    obtain⟨r,er,_⟩:=A.c1 n ec;obtain⟨j,hj⟩:=mem_iff_getElem?.mp (nQ er);exact absurd ec (g j _ (by rw [jDd];exact (List.getElem?_eq_some_iff.mp hj).1) hj)
example jDJ(cH cL cP cS cY eQ cJ cB tP:Addr):∀ h D rs ts F,vs=[.ref h.x,.str "press",.non]->iY cH cL cP cS cY eQ cJ cB tP H h D rs none none ts F->(∀ H',eR H H'->Q .non H')->jDJ cH cL cP cS cY eQ cJ cB tP:=0
example jF5:MtE 3 "must_be_free" cQ ["self","printer","newcomer"] (jDJ cQ yX yW yJ yV yG yQ yZ dJ):=by
 nomatch i5 T.p109,["self","printer","newcomer","run"]
 obtain⟨h,D,rs,ts,F',rfl,A,q⟩:=h;exists _,(eE (psA (i:=3) nZ (iX 2 gA hr.m (pv 0) (dN (pv 1) dZ))) (eI (iK (PW.pt (jD6 (tcA jCr (pv 3) m3) (jDk (tcA jDV (fH (fH (pv 3) rfl) rfl) (pv 2))))) (eI mV) iM)))
 exact⟨_,rfl,h.x,_,h.dx,_,_,_,rfl,A.o,rfl,T.ac,(jFS T),_,rfl,h,D,rs,none,ts,F',rfl,A,fun _ H' s=>⟨_,rfl,rfl,false,rfl,hV (hV (q H' s))⟩,fun n r z=>by cases z⟩
noncomputable def whN(rs:List (Str×RU))(n:Str):Bool:=match gL rs n with
 | some r=>whl r
 | none=>false
example jFg(cH cL cP cS cY eQ cJ cB tP:Addr):∀ h D rs cu ex ts F n,vs=[.ref h.x,.str n]->iY cH cL cP cS cY eQ cJ cB tP H h D rs cu ex ts F->Q (.bl (whN rs n)) H->jFg cH cL cP cS cY eQ cJ cB tP:=0
example jIS:MtE 4 "is_whole" cQ ["self","name"] (jFg cQ yX yW yJ yV yG yQ yZ dJ):=by
 nomatch i5 T.p110,["self","name"]
 obtain⟨h,D,rs,cu,ex,ts,F',n,rfl,A,q⟩:=h;exists _,(eI (gB (jD7 (jKF (xX hu (pv 1) (fH (pv 0) rfl))) (jCT (kT 3 gA hr.m (dgA hu (fH (pv 0) rfl) (pv 1)))))))
 have g:=lO jZ A.r n;exists _,rfl,_,rfl,h.x,cQ,h.dx,_,_,rfl,A.o,T.ac,T.aq,rfl,h.rn,_,rfl,g;unfold whN at q;cases e:gL rs n with
 | none =>
   rw [e] at q;exact⟨false,rfl,hV q⟩
 | some r =>
   rw [e] at q g;have R:=A.R _ (nQ e);exact⟨true,rfl,kL ⟨_,rfl,h.x,cQ,h.dx,_,_,rfl,A.o,T.ac,T.aq,rfl,_,rfl,h.rn,_,rfl,g,r.a,_,r.dx,_,_,_,rfl,R.o,rfl,T.aa,(jCa T),h.A,r,rfl,R,q⟩⟩
noncomputable def awL(rs:List (Str×RU))(r:RU):List Str:=r.J.af.filter fun o=>!whN rs o
noncomputable def pNw(rs:List (Str×RU)):V->Bool
 | .str o=>!whN rs o
 | _=>true
theorem awL_len(R:kK eQ cJ H A r)(rs:List (Str×RU)):(awL rs r).length<=3:=eM (eA _ _) R.j.l
example jFT(cH cL cP cS cY eQ cJ cB tP:Addr):∀ h D rs cu ex ts F n r,vs=[.ref h.x,.str n]->iY cH cL cP cS cY eQ cJ cB tP H h D rs cu ex ts F->gL rs n=some r->(∀ l H',eR H H'->H l=none->H' l=some (.lst ((awL rs r).map V.str))->Q (.ref l) H')->jFT cH cL cP cS cY eQ cJ cB tP:=0
example jFh:MtE 5 "awaited" cQ ["self","name"] (jFT cQ yX yW yJ yV yG yQ yZ dJ):=by
 nomatch i5 T.p111,["self","name"]
 obtain⟨h,D,rs,cu,ex,ts,F',n,r,rfl,A,e,q⟩:=h;exists _,(eI (gB (rX (frees:=[ ("self",0) ]) ⟨by decide +kernel,rfl,rfl,by decide +kernel,⟨⟨rfl,rfl,rfl,by decide +kernel⟩,trivial⟩,by decide +kernel,oX rfl,rfl⟩ rfl (jH4 (fH (fH (dgA hu (fH (pv 0) rfl) (pv 1)) rfl) rfl)) (fun _ _ _ _=>by exact (vS (qM (jC3 (K:=K) rfl (jCh (P:=P) (w:=w) (K:=K) (mg:=mg) (base:=base) ⟨rfl,rfl,rfl,rfl,rfl⟩ 4 gA hr.m (pv 1) (dN (pv 0) dZ)) (fun _=>rfl))))) (fun _ _ _ _=>by exact (pv 0)))))
 have g:=lO jZ A.r n;rw [e] at g;have R:=A.R _ (nQ e);exists _,rfl,h.x,cQ,h.dx,_,_,rfl,A.o,T.ac,T.aq,rfl,_,rfl,h.rn,_,rfl,g,r.a,yG,r.dx,_,_,rfl,R.o,T.aa,T.aD,rfl,r.J.x,yQ,r.J.dx,_,_,rfl,R.j.o,T.ah,T.bO,rfl,r.J.t,rfl,⟨_,SqT.of R.j.t⟩
 refine zC (seq_tup (K:=K) (SqT.of R.j.t)) (pNw rs) (fun v=>v) (kZ (by rw [c7];have:=R.j.l;omega)) (fun x hx H' R' s1 rr=>?_) (fun x hx H' R' s1 _ rr=>⟨_,rfl,rr⟩) (fun C H' s1 nC hC=>q C H' s1 nC ?_)
 ·obtain⟨o,ho,rfl⟩:=dR.mp hx;exact⟨_,rfl,h.x,_,h.dx,_,_,_,rfl,(A.same s1).o,rfl,T.ac,(jIS T),_,rfl,h,D,rs,cu,ex,ts,F',o,rfl,A.same s1,_,rfl,rr⟩
 ·rw [hC,xO,i0];rfl
example jFU(cH cL cP cS cY eQ cJ cB tP:Addr):∀ h D rs cu ex ts F n r,vs=[.ref h.x,.str n,.ref h.A.x]->iY cH cL cP cS cY eQ cJ cB tP H h D rs cu ex ts F->gL rs n=some r->(∀ H',eR H H'->Q (.bl (awL rs r).isEmpty) H')->jFU cH cL cP cS cY eQ cJ cB tP:=0
example jJA:MtE 6 "is_able" cQ ["self","name","machine"] (jFU cQ yX yW yJ yV yG yQ yZ dJ):=by
 nomatch i5 T.p112,["self","name","machine"]
 obtain⟨h,D,rs,cu,ex,ts,F',n,r,rfl,A,e,q⟩:=h;exists _,(eI (gB (jD7 (jMW (jV (jNa T) hr.m rfl (dN (fH (dgA hu (fH (pv 0) rfl) (pv 1)) rfl) (dN (pv 2) dZ)))) (jCT (jMW (iX 5 gA hr.m (pv 0) (dN (pv 1) dZ)))))))
 have g:=lO jZ A.r n;rw [e] at g;have R:=A.R _ (nQ e);obtain⟨p',b',P1,_⟩:=A.P;refine⟨_,rfl,h.x,cQ,h.dx,_,_,rfl,A.o,T.ac,T.aq,rfl,_,rfl,h.rn,_,rfl,g,r.a,yG,r.dx,_,_,rfl,R.o,T.aa,T.aD,rfl,_,rfl,r.J,h.A,rfl,R.j,P1.k,fun l H1 s1 nl hl=>⟨false,.inl ⟨_,SqL.of hl,rfl⟩,true,rfl,kL ?_⟩⟩;refine⟨_,rfl,h.x,_,h.dx,_,_,_,rfl,(A.same s1).o,rfl,T.ac,(jFh T),_,rfl,h,D,rs,cu,ex,ts,F',n,r,rfl,A.same s1,e,fun l H2 s2 xL hl2=>⟨!(awL rs r).isEmpty,.inl ⟨_,SqL.of hl2,by rw [List.isEmpty_map]⟩,?_⟩⟩;rw [Bool.not_not];exact q H2 (s1.trans s2)
noncomputable def aw(rs:List (Str×RU))(n:Str):List Str:=match gL rs n with
 | some r=>awL rs r
 | none=>[]
noncomputable def xI(D:LD)(rs:List (Str×RU)):List Str:=(kys D.qu).filter fun n=>(aw rs n).isEmpty
noncomputable def pAb(rs:List (Str×RU)):V->Bool
 | .str o=>(aw rs o).isEmpty
 | _=>true
theorem zQ(e:gL rs n=some r):aw rs n=awL rs r:=by unfold aw;rw [e]
theorem jQe{l ys:List V}(h:ys.length=l.length)(g:∀ (i:Nat) x y,l[i]?=some x->ys[i]?=some y->y=x):ys=l:=by
 refine List.ext_getElem? fun i=>?_;by_cases c:i<l.length
 ·have e1:=getElem?_eq_getElem c;have e2:=getElem?_eq_getElem (show i<ys.length by omega)
  grind
 ·rw [getElem?_eq_none (by omega),getElem?_eq_none (by omega)]
theorem xZ{n:Str}{c:List Str}:inV (.str n) (c.map V.str)=decide (n∈c):=by
 unfold inV;induction c with
 | nil=>rfl
 | cons x c ih =>
   rw [eW,mX,ih];by_cases e:x=n
   ·rw [e,decide_eq_true (eD)];show (decide (n=n)||_)=true;rw [decide_eq_true rfl];rfl
   ·show (decide (x=n)||_)=_
    grind
example jIT(cH cL cP cS cY eQ cJ cB tP:Addr):∀ h D rs cu ex ts F,vs=[.ref h.x,.str "press"]->iY cH cL cP cS cY eQ cJ cB tP H h D rs cu ex ts F->D.qu.length<=900->(∀ l H',eR H H'->H l=none->H' l=some (.lst ((xI D rs).map V.str))->Q (.ref l) H')->jIT cH cL cP cS cY eQ cJ cB tP:=0
theorem iY.mem(A:iY cH cL cP cS cY eQ cJ cB tP H h D rs cu ex ts F)(hn:n∈kys D.qu):n∈kys rs:=by
 rw [A.q] at hn;exact (iL.mp hn).1
example jHq:MtE 7 "able" cQ ["self","printer"] (jIT cQ yX yW yJ yV yG yQ yZ dJ):=by
 nomatch i5 T.p104,["self","printer","machine"]
 obtain⟨h,D,rs,cu,ex,ts,F',rfl,A,l9,q⟩:=h;exists _,(eE (psA (i:=2) nZ (iX 1 gA hr.m (pv 0) (dN (pv 1) dZ))) (eI (gB (rX (frees:=[ ("machine",2) ,("self",0) ]) ⟨by decide +kernel,rfl,rfl,by decide +kernel,⟨⟨rfl,rfl,rfl,by decide +kernel⟩,⟨⟨rfl,rfl,rfl,by decide +kernel⟩,trivial⟩⟩,by decide +kernel,oX rfl,rfl⟩ rfl (oW (kT 1 gA hr.m (fH (pv 0) rfl))) (fun _ _ _ _=>by exact (vS (jC3 (K:=K) rfl (jCh (P:=P) (w:=w) (K:=K) (mg:=mg) (base:=base) ⟨rfl,rfl,rfl,rfl,rfl⟩ 6 gA hr.m (pv 2) (dN (pv 0) (dN (pv 1) dZ))) (fun _=>rfl)))) (fun _ _ _ _=>by exact (pv 0))))))
 exists _,rfl,h.x,_,h.dx,_,_,_,rfl,A.o,rfl,T.ac,(jBO T),_,rfl,h,D,rs,cu,ex,ts,F',rfl,A;refine⟨_,rfl,h.x,cQ,h.dx,_,_,rfl,A.o,T.ac,T.aB,rfl,h.L.x,_,h.L.dx,_,_,_,rfl,A.N.o,rfl,T.ae,(jDs T),h.L,D,rfl,A.N,fun l nl=>?_⟩;generalize e9:upd H l _=H1;have s1:=nS nl e9;have hl:=nE e9;exists l,rfl,⟨_,SqL.of hl⟩
 refine jC5 (vR (K:=K) (SqL.of hl)) (pAb rs) (fun x y _=>y=x) (kZ (by rw [c7];unfold kys;rw [c7];omega)) (fun x hx G R sG rr=>?_) (fun x hx G R sG _ rr=>⟨_,rfl,rr _ _ (eR.refl _) ⟨fun _=>False,fun _ z=>z.elim,fun _ _=>rfl⟩⟩) (fun C H2 ys s2 nC hC ly gy=>q C H2 (s1.trans s2) (s1.free nC) ?_)
 ·obtain⟨n,hn,rfl⟩:=dR.mp hx;obtain⟨r,e⟩:=mO (A.mem hn);have A2:=A.same (s1.trans sG);refine⟨_,rfl,h.x,_,h.dx,_,_,_,rfl,A2.o,rfl,T.ac,(jJA T),_,rfl,_,rfl,h,D,rs,cu,ex,ts,F',n,r,rfl,A2,e,fun G2 k2=>⟨_,rfl,?_⟩⟩;have:=rr G2 k2;rw [show pAb rs (V.str n)=(awL rs r).isEmpty from congrArg List.isEmpty (zQ e)] at this;exact this
 ·rw [hC,jQe ly fun i x y e1 e2=>gy i x y e1 e2,i0];rfl
noncomputable def qN(D:LD)(n:Str)(r:RU):Str:=if n∈kys D.qu then "waits" else if whl r=true then "whole" else if r.br=true then "broken" else "prints"
example jFi(cH cL cP cS cY eQ cJ cB tP:Addr):∀ h D rs cu ex ts F n r,vs=[.ref h.x,.str n]->iY cH cL cP cS cY eQ cJ cB tP H h D rs cu ex ts F->gL rs n=some r->(∀ H',eR H H'->Q (.str (qN D n r)) H')->jFi cH cL cP cS cY eQ cJ cB tP:=0
example jBf:MtE 4 "job_word" cQ ["self","job"] (jFi cQ yX yW yJ yV yG yQ yZ dJ):=by
 nomatch i5 T.p103,["self","job","run"]
 obtain⟨h,D,rs,cu,ex,ts,F',n,r,rfl,A,e,q⟩:=h;exists _,(eE (psA (i:=2) nZ (iX 1 gA hr.m (pv 0) (dN (pv 1) dZ))) (eE (iK (jC1 jB4 (pv 1) (kT 1 gA hr.m (fH (pv 0) rfl)) rfl) (eI (gB (kE T.bM rfl))) iM) (eE (iK (mD (kT 3 gA hr.m (pv 2)) (fun _=>rfl)) (eI (gB (kE T.cM rfl))) iM) (eI (gB (zB (tcA jC7 (kT 2 gA hr.m (pv 2)) m3) (kE T.cK rfl) (kE T.cO rfl)))))))
 exists _,rfl,h.x,_,h.dx,_,_,_,rfl,A.o,rfl,T.ac,(jFR T),_,rfl,h,D,rs,cu,ex,ts,F',n,r,rfl,A,e;refine⟨_,rfl,_,rfl,h.x,cQ,h.dx,_,_,rfl,A.o,T.ac,T.aB,rfl,h.L.x,_,h.L.dx,_,_,_,rfl,A.N.o,rfl,T.ae,(jDs T),h.L,D,rfl,A.N,fun l nl=>?_⟩;generalize e9:upd H l _=H1;have s1:=nS nl e9;have hl:=nE e9;have R1:=(A.R _ (nQ e)).same s1;exists l,_,rfl,.inl (SqL.of hl),rfl,sS _,_,rfl;rw [if_neg (by decide),xZ];unfold qN at q;by_cases c:n∈kys D.qu
 ·rw [decide_eq_true c];rw [if_pos c] at q;exact kL (q H1 s1)
 rw [decide_eq_false c];rw [if_neg c] at q;refine hV ⟨_,rfl,r.a,_,r.dx,_,_,_,rfl,R1.o,rfl,T.aa,(jCa T),h.A,r,rfl,R1,_,rfl,?_⟩;cases cw:whl r with
 | true =>
   rw [cw,if_pos rfl] at q;exact kL (q H1 s1)
 | false =>
   rw [cw,if_neg (by decide)] at q;refine hV ⟨_,rfl,r.a,_,r.dx,_,_,_,rfl,R1.o,rfl,T.aa,(jIK T),h.A,r,rfl,R1,fun cb=>?_,fun cb t H2 s2=>?_⟩
   ·rw [cb,if_neg (by decide)] at q;exact⟨rfl,true,rfl,kL (q H1 s1)⟩
   ·rw [cb,if_pos rfl] at q;exact⟨rfl,false,rfl,hV (q H2 (s1.trans s2))⟩
theorem HFr.trans2(a:HFr tP h D H H')(b:HFr tP h D' H' H'')(g:∀ b o,LF h.L D' b->H b=some o->LF h.L D b):HFr tP h D H H'':=fun x o n1 n2 n3 n4 e=>b x o n1 n2 (fun z=>n3 (g x o z e)) n4 (a x o n1 n2 n3 n4 e)
example jES(cH cL cP cS cY eQ cJ cB tP:Addr):∀ h D rs cu ex ts F v l os k,vs=[.ref h.x,v,.ref l]->iY cH cL cP cS cY eQ cJ cB tP H h D rs cu ex ts F->H l=some (.lst os)->l≠h.pl->l≠h.bl->(os≠[]->v=.str "press")->nA H os k->F.u+os.length<=1000000->F.v+os.length<=1000000->(∀ H',iY cH cL cP cS cY eQ cJ cB tP H' h D rs cu ex ts ⟨F.f,F.u+os.length,F.v+os.length⟩->HFr tP h D H H'->Q .non H')->jES cH cL cP cS cY eQ cJ cB tP:=0
example jCn:MtE 2 "write_out" cQ ["self","printer","tags"] (jES cQ yX yW yJ yV yG yQ yZ dJ):=by
 nomatch i5 T.p113,["self","printer","tags","tag"]
 obtain⟨h,D,rs,cu,ex,ts,F',v,l,os,k,rfl,A,hl,nl1,xL,hv,tg,lu,lv,q⟩:=h;exists _,(eI (nY PassesOwn.never rfl (oW (pv 2)) (pgA (i:=3) nZ) (eE (jU (qV fE PySem.F.slot_list_append PySem.F.type_list_append zD (dgA hu (fH (pv 0) rfl) (pv 1)) (dN (pv 3) dZ))) (eI (jU (iX 1 gA hr.m (fH (pv 0) rfl) (dN (nL (dN (kE T.cz rfl) (dN (pv 1) (dN (ixA pZ (pv 3) fY) (dN (ixA pZ (pv 3) fY) dZ))))) dZ)))))))
 refine⟨_,rfl,l,rfl,⟨_,SqL.of hl⟩,vM (K:=K) (a:=l) (xs:=os) (fun i σ G=>(∃ v3,σ=[some (.ref h.x),some v,some (.ref l),v3])/\i<=os.length/\iY cQ yX yW yJ yV yG yQ yZ dJ G h D rs cu ex ts ⟨F'.f,F'.u+i,F'.v+i⟩/\HFr dJ h D H G/\G l=some (.lst os)) ⟨⟨_,rfl⟩,d9 _,A,vU (eR.refl _),hl⟩ (fun i σ G _ z=>SqL.of z.2.2.2.2) (fun i y σ G hy z=>?_) (fun σ G z=>?_)⟩
 ·obtain⟨⟨v3,rfl⟩,_,AG,f,hG⟩:=z;have hi:=(List.getElem?_eq_some_iff.mp hy).1;obtain rfl:=hv (fun z=>by rw [z] at hi;exact absurd hi (Nat.not_lt_zero _));obtain⟨t,nm,rfl,ht⟩:=tg i y hy;have ht1:=f.cs A _ _ jD0 ht;obtain⟨xs,hx,lx⟩:=AG.l;have g:=lO jZ AG.i "press";refine⟨_,rfl,h.x,cQ,h.dx,_,_,rfl,AG.o,T.ac,T.bC,rfl,_,rfl,h.pi,_,rfl,g,.inl ⟨rfl,_,SqL.of hx⟩,_,rfl,h.pl,_,_,rfl,rfl,hx,big (by have:xs.length<=F'.u+i:=lx;omega),?_⟩;have nbl:h.bl≠h.pl:=kP A.nh (i:=7) (j:=6) rfl rfl (by decide);have k1:∀ b o,b≠h.pl->G b=some o->upd G h.pl (.lst (xs++[V.ref t])) b=some o:=fun b o n e=>by rw [eJ n];exact e
  have e1:upd G h.pl (.lst (xs++[V.ref t])) h.pl=some (.lst (xs++[V.ref t])):=eO;generalize upd G h.pl _=G1 at k1 e1 ⊢;obtain⟨ys,hy1,ly⟩:=AG.b;obtain⟨A1,f1⟩:=AG.wrote (F':=⟨F'.f,F'.u+(i+1),F'.v+i⟩) (.inl rfl) k1 ⟨_,e1,by rw [length_append];have:xs.length<=F'.u+i:=lx;show xs.length+1<=F'.u+(i+1);omega⟩ ⟨ys,k1 _ _ nbl hy1,ly⟩ (Nat.le_refl _);have hG1:=k1 _ _ nl1 hG;have zE:=f1.cs AG _ _ jD0 ht1;refine⟨_,rfl,h.x,cQ,h.dx,_,_,rfl,A1.o,T.ac,T.aO,rfl,h.bk,_,h.bd,_,_,_,rfl,A1.k,rfl,T.aF,(jDh T),_,rfl,_,rfl,t,_,_,_,rfl,rfl,SqT.of zE,o9 (j:=0) rfl,_,rfl,t,_,_,_,rfl,rfl,SqT.of zE,o9 (j:=1) rfl,wq4,fun t2 nt2=>?_⟩;have s2:=iS nt2 (.tup [V.str (c9 "out"),V.str "press",nm,V.int ((k+i:Nat)-1:Int)]);generalize upd G1 t2 _=G2 at s2 ⊢;have A2:=A1.same s2;obtain⟨zs,hz,lz⟩:=A2.b;refine⟨h.bk,h.bd,h.bl,zs,_,rfl,A2.k,hz,by have:zs.length<=F'.v+i:=lz;omega,?_⟩;have k3:∀ b o,b≠h.bl->G2 b=some o->upd G2 h.bl (.lst (zs++[V.ref t2])) b=some o:=fun b o n e=>by rw [eJ n];exact e
  have e3:upd G2 h.bl (.lst (zs++[V.ref t2])) h.bl=some (.lst (zs++[V.ref t2])):=eO;generalize upd G2 h.bl _=G3 at k3 e3 ⊢;obtain⟨ws,hw,lw⟩:=A2.l;obtain⟨A3,f3⟩:=A2.wrote (F':=⟨F'.f,F'.u+(i+1),F'.v+(i+1)⟩) (.inr rfl) k3 ⟨ws,k3 _ _ (symm nbl) hw,lw⟩ ⟨_,e3,by rw [length_append];have:zs.length<=F'.v+i:=lz;show zs.length+1<=F'.v+(i+1);omega⟩ (Nat.le_refl _);exact⟨⟨_,rfl⟩,hi,A3,((f.trans f1).trans (vU s2)).trans f3,k3 _ _ xL (s2 _ _ hG1)⟩
 ·obtain⟨⟨v3,rfl⟩,_,AG,f,hG⟩:=z;exact q G AG f
noncomputable def xA(r:RU)(ts:List V):Nat:=2*r.o+ts.length
noncomputable def rO(rs:List (Str×RU)):List (Str×List Str):=rs.map fun p=>(p.1,p.2.J.af)
theorem jIU(nd:(kys rs).Nodup)(e:gL rs n=some r)(ej:r'.J=r.J):rO (hJ rs n r')=rO rs:=by
 have hn:n∈rs.map (·.1):=yT e;unfold rO hJ;rw [if_pos hn,dU];refine eT fun q hq=>?_;show ((if q.1=n then (q.1,r') else q).1,(if q.1=n then (q.1,r') else q).2.J.af)=(q.1,q.2.J.af)
 by_cases c:q.1=n
 ·have:=jDc nd hq
  grind
 ·rw [if_neg c]
structure Stpd(cH cL cP cS cY eQ cJ cB tP:Addr)(H H':Hp)(h:HAd)(D:LD)(rs mL:List (Str×RU))(n:Str)(r r':RU)(ts ts':List V)(cu':Option Str)(F F':Fu):Prop where
 A:iY cH cL cP cS cY eQ cJ cB tP H' h D mL cu' none ts' F'
 f:HFr tP h D H H'
 l:F.le F' 1
 e:mL=hJ rs n r'
 j:r'.J=r.J
 nn:r'.n=r.n
 w:xA r ts+1<=xA r' ts'
 c:(cu'=none/\whl r'=true)\/cu'=some n
inductive jFj(cN:Addr)(cH cL cP cS cY eQ cJ cB tP:Addr)(vs:List V)(H:Hp)(Q:VK)(E:XK):Prop|mk h D rs cu ts F:vs=[.ref h.x,.str "press"]->iY cH cL cP cS cY eQ cJ cB tP H h D rs cu none ts F->(cu=none->∀ ea H',eR H H'->XG H' ea cN [("job",.str "press")]->E (.ref cN) (some ea) H')->(∀ n r,cu=some n->gL rs n=some r->1<=F.f/\F.u<=900000/\F.v<=900000/\∀ H' mL r' ts' cu' F',Stpd cH cL cP cS cY eQ cJ cB tP H H' h D rs mL n r r' ts ts' cu' F F'->Q .non H')->jFj cN cH cL cP cS cY eQ cJ cB tP vs H Q E
theorem jBX:jCt ["self","printer","run","tag","came","used"] ["self","printer"] (rH jEI):=scM
example jET:MtE 7 "one_step" cQ ["self","printer"] (jFj cZ cQ yX yW yJ yV yG yQ yZ dJ):=by
 refine mtX T.p98 fun fa fd F=>F.okE jBX fun lC A outer s H vs Q E hr h=>?_;obtain⟨h,D,rs,cu,ts,F',rfl,A,q1,q2⟩:=h;exists _,(eE (psA (i:=2) jBX.nd (iX 2 jDn hr.m (pv 0) (dN (pv 1) dZ))) (eE (iK (tcA jC7 (pv 2) m3) (eI (jPM jOF rfl (jOC (jO4 T) hr.m rfl (dN (pv 1) dZ)))) iM) (eE (psA (i:=3) jBX.nd (kT 3 jDn hr.m (pv 2))) (eE (psA (i:=4) jBX.nd (kT 6 jDn hr.m (pv 2))) (eE (iK (tcA jCr (pv 3) m3) (eE (psA (i:=5) jBX.nd (iX 2 jDn hr.m (pv 2) (dN (pv 3) dZ))) (eI (jU (iX 1 jDn hr.m (fH (pv 0) rfl) (dN (nL (dN (kE T.cy rfl) (dN (pv 1) (dN (ixA pZ (pv 5) fY) (dN (ixA pZ (pv 3) fY) (dN (ixA pZ (pv 3) fY) (dN (ixA pZ (pv 5) fY) (dN (ixA pZ (pv 5) fY) dZ)))))))) dZ))))) iM) (eI (jU (iX 2 jDn hr.m (pv 0) (dN (pv 1) (dN (pv 4) dZ))))))))))
 refine⟨_,rfl,h.x,_,h.dx,_,_,_,rfl,A.o,rfl,T.ac,(jFS T),_,rfl,h,D,rs,cu,ts,F',rfl,A,fun ec H1 s1=>?_,fun n r ec er H1 s1=>?_⟩
 ·exact⟨_,rfl,rfl,_,rfl,kL ⟨_,rfl,jO3 T.aP.m fun ea H2 s2 _ g=>q1 ec ea H2 (s1.trans s2) g⟩⟩
 obtain⟨f1,fu,fv,q⟩:=q2 n r ec er;subst ec;have A1:=A.same s1;obtain⟨r0,e0,hp,hb,nw,tg,le⟩:=A1.c1 n rfl;obtain rfl:r=r0:=by rw [er] at e0;exact Option.some.inj e0
 have R1:=A1.R _ (nQ er);obtain⟨p,b,P1,fp,fb⟩:=A1.P;have n3:r.n<=3:=R1.n3;have no:=jKC nw;have s1n:=A1.s _ (nQ er) nofun
 have nq:¬ n∈kys D.qu:=by
  rcases s1n with⟨_,z,_⟩|⟨z,_⟩|⟨_,z,_⟩
  ·exact absurd rfl z
  ·exact z
  ·exact absurd rfl z
 refine⟨_,rfl,rfl,_,rfl,hV ?_⟩;have W1:Wd yG yQ yW yJ yV H1 h.A r p b ts:=⟨R1,P1,tg,le⟩
 /- vB the run's own step -/
 have vB:∀ (H0 H2:Hp) (k:Nat) (l:Addr) (fd:Nat),k<=1->eR H1 H0->Stp yG yQ yW yJ yV H0 H2 h.A r k p b l fd->r.o+ts.length<=fd->k+fd+1 > 0->xA r ts+1<=2*(r.o+k)+(fd-(r.o+k))->∃ ts2 os,iY cQ yX yW yJ yV yG yQ yZ dJ H2 h D (hJ rs n (nP (jF r k))) (if whl (jF r k)=true then none else some n) none ts2 ⟨F'.f-1,F'.u,F'.v⟩/\HFr dJ h D H0 H2/\H2 l=some (.lst os)/\os.length=k/\nA H2 os r.o/\H0 l=none/\r.o+k+ts2.length=fd/\kK yG yQ H2 h.A (nP (jF r k)):=fun H0 H2 k l fd k1 s0 S _ _ hf=>by
  obtain⟨ts2,p2,b2,W2,e2,lp,lb⟩:=S.w;obtain⟨os,ho,lo,to⟩:=S.l;have A0:=A1.same s0;have eo:(nP (jF r k)).pt=!whl (jF r k):=by show (r.pt && !whl (jF r k))=_;rw [hp,Bool.true_and]
  have ew:whl (nP (jF r k))=whl (jF r k):=rfl
  obtain⟨A2,f2⟩:=A0.run (F':=⟨F'.f-1,F'.u,F'.v⟩) (cu':=if whl (jF r k)=true then none else some n) (ex':=none) (ts':=ts2) (r':=nP (jF r k)) er rfl S.fr W2.R ⟨p2,b2,W2.P,by show ((F'.f-1:Nat):Int)<=p2;omega,by show (2*(F'.f-1:Nat):Int)<=b2;omega⟩ rfl rfl (fun q hq nq' _=>by
   have:=A0.s q hq nofun
   rcases this with⟨a1,a2,a3⟩|⟨a1,a2,a3⟩|⟨a1,a2,a3⟩
   ·refine .inl ⟨a1,?_,a3⟩;split
    ·intro z;cases z
    ·exact a2
   ·exact absurd (Option.some.inj a2).symm nq'
   ·refine .inr (.inr ⟨a1,?_,a3⟩);split
    ·intro z;cases z
    ·exact a2) (fun _=>by
   cases cw:whl (jF r k) with
   | true =>
     rw [if_pos rfl];exact .inr (.inr ⟨nq,nofun,by rw [eo,cw];rfl,by rw [ew,cw];exact hb⟩)
   | false =>
     rw [if_neg (by decide)];exact .inr (.inl ⟨nq,rfl,by rw [eo,cw];rfl,hb,by rw [ew,cw]⟩)) (fun z=>by
   cases cw:whl (jF r k) with
   | true =>
     have h1:=whl_t cw;have wA:r.o+k=r.n+1:=h1;have h2:=W2.le;have v9:r.o+k+ts2.length<=r.n+1:=h2;exact List.length_eq_zero_iff.mp (by omega)
   | false =>
     rw [cw,if_neg (by decide)] at z;cases z) (fun m z=>by
   cases cw:whl (jF r k) with
   | true =>
     rw [cw,if_pos rfl] at z;cases z
   | false =>
     rw [cw,if_neg (by decide)] at z;obtain rfl:=Option.some.inj z
     exact⟨nP (jF r k),by rw [jEn,if_pos rfl],by rw [eo,cw];rfl,hb,by rw [ew,cw],W2.tg,W2.le⟩)
  exact⟨ts2,os,A2,f2,ho,lo,to,S.nl,e2,W2.R⟩
 have cuw:∀ k,((if whl (jF r k)=true then (none:Option Str) else some n)=none/\whl (nP (jF r k))=true)\/(if whl (jF r k)=true then (none:Option Str) else some n)=some n:=fun k=>by
  cases cw:whl (jF r k) with
  | true=>exact .inl ⟨rfl,cw⟩
  | false=>exact .inr rfl
 have uT:∀ {l:Addr} {G:Hp},HFr dJ h D H1 G\/True->H1 l=none->l≠h.pl/\l≠h.bl:=fun _ z=>by
  obtain⟨xs,hx,_⟩:=A1.l;obtain⟨ys,hy,_⟩:=A1.b;exact⟨fun w=>(by rw [w,hx] at z;cases z),fun w=>(by rw [w,hy] at z;cases z)⟩
 refine⟨_,rfl,r.a,_,r.dx,_,_,_,rfl,R1.o,rfl,T.aa,(jFd T),h.A,r,p,b,ts,rfl,R1,hp,P1,tg,by omega,fun cn t H2 s2 nt ht=>?_,fun cn H2 s2=>?_⟩
 ·have W2:=W1.same s2;refine⟨_,rfl,r.a,_,r.dx,_,_,_,rfl,W2.R.o,rfl,T.aa,(jIM T),h.A,r,p,b,ts,rfl,W2,hp,hb,nw,by omega,by omega,fun _ l H3 k k1 S=>?_,fun z=>absurd cn z⟩;obtain⟨ts3,os,A3,f3,ho,lo,to,sM,e3,R3⟩:=vB H2 H3 k l _ k1 s2 S (by omega) (by omega) (by unfold xA;omega);have vX:=S.fr.cs W2.R W2.P _ _ jD0 ht;refine⟨_,rfl,rfl,_,rfl,kL ?_⟩;refine⟨_,rfl,r.a,_,r.dx,_,_,_,rfl,R3.o,rfl,T.aa,(jFO T),_,rfl,h.A,nP (jF r k),t,_,_,rfl,R3,vX,by omega,fun t4 y H4 s4 h4 y0 y2=>?_⟩;have A4:=A3.same s4;have ht4:=s4 _ _ vX;refine⟨_,rfl,h.x,cQ,h.dx,_,_,rfl,A4.o,T.ac,T.aO,rfl,h.bk,_,h.bd,_,_,_,rfl,A4.k,rfl,T.aF,(jDh T),_,rfl,_,rfl,t4,_,_,_,rfl,rfl,SqT.of h4,o9 (j:=0) rfl,_,rfl,t,_,_,_,rfl,rfl,SqT.of ht4,o9 (j:=0) rfl,_,rfl,t,_,_,_,rfl,rfl,SqT.of ht4,o9 (j:=1) rfl,_,rfl,t4,_,_,_,rfl,rfl,SqT.of h4,o9 (j:=1) rfl,_,rfl,t4,_,_,_,rfl,rfl,SqT.of h4,o9 (j:=2) rfl,wq7,fun t5 nt5=>?_⟩;generalize hH5:upd H4 t5 _=H5;have s5:eR H4 H5:=by rw [<- hH5];exact iS nt5 _
  clear hH5;have A5:=A4.same s5;obtain⟨zs,hz,lz⟩:=A5.b;have lz':zs.length<=F'.v:=lz;exists h.bk,h.bd,h.bl,zs,_,rfl,A5.k,hz,by omega
  have nbl:h.bl≠h.pl:=kP A.nh (i:=7) (j:=6) rfl rfl (by decide);have k6:∀ b o,b≠h.bl->H5 b=some o->upd H5 h.bl (.lst (zs++[V.ref t5])) b=some o:=fun b o n e=>by rw [eJ n];exact e
  have e6:upd H5 h.bl (.lst (zs++[V.ref t5])) h.bl=some (.lst (zs++[V.ref t5])):=eO;generalize upd H5 h.bl _=H6 at k6 e6 ⊢;obtain⟨ws,hw,lw⟩:=A5.l;obtain⟨A6,f6⟩:=A5.wrote (F':=⟨F'.f-1,F'.u,F'.v+1⟩) (.inr rfl) k6 ⟨ws,k6 _ _ (symm nbl) hw,lw⟩ ⟨_,e6,by rw [length_append];show zs.length+1<=F'.v+1;omega⟩ (Nat.le_refl _);obtain⟨nl1,xL⟩:=uT (G:=H1) (.inr trivial) (s2.free sM);have c36:oR H3 H6:=fun b o c e=>f6.cs A5 b o c (s5 _ _ (s4 _ _ e));refine⟨_,rfl,h.x,_,h.dx,_,_,_,rfl,A6.o,rfl,T.ac,(jCn T),_,rfl,_,rfl,h,D,_,_,_,ts3,_,_,l,os,r.o,rfl,A6,k6 _ _ xL (s5 _ _ (s4 _ _ ho)),nl1,xL,fun _=>rfl,to.cs c36,by show F'.u+os.length<=1000000;omega,by show F'.v+1+os.length<=1000000;omega,fun H7 A7 f7=>?_⟩;refine q H7 _ (nP (jF r k)) ts3 _ _ ⟨A7,?_,⟨by show F'.f<=F'.f-1+1;omega,by show F'.u+os.length<=F'.u+1;omega,by show F'.v+1+os.length<=F'.v+2*1;omega⟩,rfl,rfl,rfl,by show xA r ts+1<=2*(r.o+k)+ts3.length;unfold xA;omega,cuw k⟩;exact (((((vU (s1.trans s2)).trans f3).trans (vU (s4.trans s5))).trans f6).trans f7)
 ·have W2:=W1.same s2;refine⟨_,rfl,r.a,_,r.dx,_,_,_,rfl,W2.R.o,rfl,T.aa,(jIM T),h.A,r,p,b,ts,rfl,W2,hp,hb,nw,by omega,by omega,fun z=>absurd z cn,fun _ l H3 S=>?_⟩;obtain⟨ts3,os,A3,f3,ho,lo,to,sM,e3,R3⟩:=vB H2 H3 1 l _ (Nat.le_refl 1) s2 S (by omega) (by omega) (by unfold xA;omega);refine⟨_,rfl,rfl,_,rfl,hV ?_⟩;obtain⟨nl1,xL⟩:=uT (G:=H1) (.inr trivial) (s2.free sM);refine⟨_,rfl,h.x,_,h.dx,_,_,_,rfl,A3.o,rfl,T.ac,(jCn T),_,rfl,_,rfl,h,D,_,_,_,ts3,_,_,l,os,r.o,rfl,A3,ho,nl1,xL,fun _=>rfl,to,by show F'.u+os.length<=1000000;omega,by show F'.v+os.length<=1000000;omega,fun H7 A7 f7=>?_⟩;refine q H7 _ (nP (jF r 1)) ts3 _ _ ⟨A7,?_,⟨by show F'.f<=F'.f-1+1;omega,by show F'.u+os.length<=F'.u+1;omega,by show F'.v+os.length<=F'.v+2*1;omega⟩,rfl,rfl,rfl,by show xA r ts+1<=2*(r.o+1)+ts3.length;unfold xA;omega,cuw 1⟩;exact ((vU (s1.trans s2)).trans f3).trans f7
example jDK(cH cL cP cS cY eQ cJ cB tP:Addr):∀ h D rs cu ts F,vs=[.ref h.x,.str "press"]->iY cH cL cP cS cY eQ cJ cB tP H h D rs cu none ts F->(cu=none->∀ H',eR H H'->Q (.bl false) H')->(∀ n r,cu=some n->gL rs n=some r->1<=F.f/\F.u<=900000/\F.v<=900000/\∀ H' mL r' ts' cu' F',Stpd cH cL cP cS cY eQ cJ cB tP H H' h D rs mL n r r' ts ts' cu' F F'->Q (.bl true) H')->jDK cH cL cP cS cY eQ cJ cB tP:=0
example jF6:MtE 8 "another_step" cQ ["self","printer"] (jDK cQ yX yW yJ yV yG yQ yZ dJ):=by
 nomatch i5 T.p99,["self","printer"]
 obtain⟨h,D,rs,cu,ts,F',rfl,A,q1,q2⟩:=h;exists _,(eE (ps_try top_nox (fun _ _ _ hP hO=>by exact (eI (jU (jCh (P:=P) (w:=w) (K:=K) (mg:=mg) (base:=base) ⟨rfl,rfl,rfl,rfl,rfl⟩ 7 hP hr.m (pv 0) (dN (pv 1) dZ))))) (jPO rfl T.bU (fun _=>by exact (eI (gB o8))) ph_nil)) (eI (gB o8)))
 refine⟨_,rfl,h.x,_,h.dx,_,_,_,rfl,A.o,rfl,T.ac,(jET T),_,rfl,h,D,rs,cu,ts,F',rfl,A,fun ec ea H1 s1 g=>?_,fun n r ec er=>?_⟩
 ·exact⟨cZ,ea,rfl,rfl,T.aP.m,T.cU,true,T.cW,kL (q1 ec H1 s1)⟩
 ·obtain⟨a,b,c,q⟩:=q2 n r ec er;exact⟨a,b,c,fun H' mL r' ts' cu' F' S=>q H' mL r' ts' cu' F' S⟩
theorem jGE(e:gL rs n=some r):whN rs n=whl r:=by unfold whN;rw [e]
example jIV(cH cL cP cS cY eQ cJ cB tP:Addr):∀ h D rs n r ts F (qI:Nat),vs=[.ref h.x,.str "press",.int (qI:Int)]->1<=qI->qI<=99->iY cH cL cP cS cY eQ cJ cB tP H h D rs (some n) none ts F->gL rs n=some r->99<=F.f->F.u<=800000->F.v<=800000->(∀ H' mL cu' ts' F' (k:Nat),1<=k->(qI=1->k=1)->(qI=99->whN mL n=true)->iY cH cL cP cS cY eQ cJ cB tP H' h D mL cu' none ts' F'->HFr tP h D H H'->F.le F' 99->rO mL=rO rs->Q (.int (k:Int)) H')->jIV cH cL cP cS cY eQ cJ cB tP:=0
example jHr:MtE 9 "step" cQ ["self","printer","many"] (jIV cQ yX yW yJ yV yG yQ yZ dJ):=by
 nomatch i5 T.p97,["self","printer","many","done"]
 obtain⟨h,D,rs,n,r,ts,F',qI,rfl,m1,m9,A,er,ff,fu,fv,q⟩:=h;exists _,(eE (jU (iX 1 gA hr.m (pv 0) (dN (pv 1) dZ))) (eE (nY PassesOwn.never rfl (jCD rfl T.au (dN (pv 2) dZ)) (pgA (i:=3) nZ) (eI (iK (tcA qL (pv 3) fY) (eI (jU (iX 7 gA hr.m (pv 0) (dN (pv 1) dZ)))) (eI (iK (qM (mD (iX 8 gA hr.m (pv 0) (dN (pv 1) dZ)) (fun _=>rfl))) (eI (gB (pv 3))) iM))))) (eI (gB (pv 2)))))
 exists _,rfl,h.x,_,h.dx,_,_,_,rfl,A.o,rfl,T.ac,(jBO T),_,rfl,h,D,rs,_,_,ts,F',rfl,A;exists _,rfl,qI,rfl,by omega,by omega
 rw [Int.toNat_natCast];have body:∀ (i:Nat) (G:Hp) (tO:List (Str×RU)) (r1:RU) (uR:List V) (F1:Fu),i<99->iY cQ yX yW yJ yV yG yQ yZ dJ G h D tO (some n) none uR F1->HFr dJ h D H G->F'.le F1 i->rO tO=rO rs->gL tO n=some r1->i<=xA r1 uR->1<=F1.f/\F1.u<=900000/\F1.v<=900000/\∀ H' mL r' ts' cu' F2,Stpd cQ yX yW yJ yV yG yQ yZ dJ G H' h D tO mL n r1 r' uR ts' cu' F1 F2->iY cQ yX yW yJ yV yG yQ yZ dJ H' h D mL cu' none ts' F2/\HFr dJ h D H H'/\F'.le F2 (i+1)/\rO mL=rO rs/\gL mL n=some r'/\((cu'=some n/\i+1<=xA r' ts')\/(cu'=none/\whl r'=true/\1<=i+1)):=fun i G tO r1 uR F1 hi A1 f1 l1 e1 wC w1=>by
  obtain⟨a,b,c⟩:=l1;refine⟨by omega,by omega,by omega,fun H' mL r' ts' cu' F2 S=>⟨S.A,f1.trans S.f,Fu.trans ⟨a,b,c⟩ S.l (Nat.le_refl _),?_,?_,?_⟩⟩
  ·rw [S.e,jIU A1.nd wC S.j,e1]
  ·rw [S.e,jEn,if_pos rfl]
  ·rcases S.c with⟨z1,z2⟩|z
   ·exact .inr ⟨z1,z2,by omega⟩
   ·exact .inl ⟨z,by have:=S.w;omega⟩
 refine jDz (lo:=0) (n:=qI) (fun i σ G=>(∃ v3,σ=[some (.ref h.x),some (.str "press"),some (.int (qI:Int)),v3])/\i<=qI/\∃ tO cu1 uR F1 r1,iY cQ yX yW yJ yV yG yQ yZ dJ G h D tO cu1 none uR F1/\HFr dJ h D H G/\F'.le F1 i/\rO tO=rO rs/\gL tO n=some r1/\((cu1=some n/\i<=xA r1 uR)\/(cu1=none/\whl r1=true/\1<=i))) ⟨⟨_,rfl⟩,d9 _,rs,some n,ts,F',r,A,vU (eR.refl _),Fu.refl _ _,rfl,er,.inl ⟨rfl,d9 _⟩⟩ (fun i σ G hi z=>?_) (fun σ G z=>?_)
 ·obtain⟨⟨v3,rfl⟩,_,tO,cu1,uR,F1,r1,A1,f1,l1,e1,wC,z⟩:=z;rw [qS];exists _,rfl,rfl,_,rfl;by_cases c:i=0
  ·subst c;refine rW rfl ?_;rcases z with⟨rfl,w⟩|⟨_,_,w⟩
   ·refine⟨_,rfl,h.x,_,h.dx,_,_,_,rfl,A1.o,rfl,T.ac,(jET T),_,rfl,h,D,tO,some n,uR,F1,rfl,A1,fun z=>(by cases z),fun n' r' en er'=>?_⟩;obtain rfl:=Option.some.inj en;obtain rfl:r1=r':=by rw [wC] at er';exact Option.some.inj er'
    obtain⟨b1,b2,b3,b4⟩:=body 0 G tO r1 uR F1 (by omega) A1 f1 l1 e1 wC w;exact⟨b1,b2,b3,fun H' mL r' ts' cu' F2 S=>⟨⟨_,rfl⟩,hi,mL,cu',ts',F2,r',b4 H' mL r' ts' cu' F2 S⟩⟩
   ·omega
  ·refine rY (fun z=>c (by injection z with z;omega)) ?_;refine⟨_,rfl,h.x,_,h.dx,_,_,_,rfl,A1.o,rfl,T.ac,(jF6 T),_,rfl,h,D,tO,cu1,uR,F1,rfl,A1,fun ec H2 s2=>?_,fun n' r' en er'=>?_⟩
   ·rcases z with⟨rfl,w⟩|⟨_,w,_⟩
    ·cases ec
    ·refine⟨_,rfl,kL ⟨_,rfl,?_⟩⟩;obtain⟨a,b,d⟩:=l1;exact q H2 tO cu1 uR F1 i (by omega) (fun z=>by omega) (fun _=>by rw [jGE wC];exact w) (A1.same s2) (f1.trans (vU s2)) ⟨by omega,by omega,by omega⟩ e1
   ·rcases z with⟨rfl,w⟩|⟨w,_,_⟩
    ·obtain rfl:=Option.some.inj en;obtain rfl:r1=r':=by rw [wC] at er';exact Option.some.inj er'
     obtain⟨b1,b2,b3,b4⟩:=body i G tO r1 uR F1 (by omega) A1 f1 l1 e1 wC w;exact⟨b1,b2,b3,fun H' mL r' ts' cu' F2 S=>⟨_,rfl,hV ⟨⟨_,rfl⟩,hi,mL,cu',ts',F2,r',b4 H' mL r' ts' cu' F2 S⟩⟩⟩
    ·rw [w] at en;cases en
 ·obtain⟨⟨v3,rfl⟩,_,tO,cu1,uR,F1,r1,A1,f1,l1,e1,wC,z⟩:=z;obtain⟨a,b,d⟩:=l1;refine⟨_,rfl,q G tO cu1 uR F1 qI m1 (fun z=>z) (fun z9=>?_) A1 f1 ⟨by omega,by omega,by omega⟩ e1⟩;rw [jGE wC];rcases z with⟨rfl,w⟩|⟨_,w,_⟩
  ·obtain⟨r0,e0,_,_,nw,_,le⟩:=A1.c1 n rfl;obtain rfl:r1=r0:=by rw [wC] at e0;exact Option.some.inj e0
   have n3:r1.n<=3:=(A1.R _ (nQ wC)).n3;have no:=jKC nw;unfold xA at w;omega
  ·exact w
theorem iY.prn{cH cL cP cS cY eQ cJ cB tP:Addr}{H H':Hp}{h:HAd}{D:LD}{rs:List (Str×RU)}{cu ex:Option Str}{ts:List V}{F:Fu}{p b p' b':Int}(A:iY cH cL cP cS cY eQ cJ cB tP H h D rs cu ex ts F)(P:j7 cP cS cY H h.A p b ts)(k:Pre h.A H H')(P':j7 cP cS cY H' h.A p' b' ts)(f1:(F.f:Int)<=p')(f2:(2*F.f:Int)<=b'):iY cH cL cP cS cY eQ cJ cB tP H' h D rs cu ex ts F/\HFr tP h D H H':=by
 have c:=k.cs P;have nh:=A.nh;obtain⟨xs,exs,lx⟩:=A.l;obtain⟨ys,ey,ly⟩:=A.b;have f:HFr tP h D H H':=fun b o _ n1 _ _ e'=>k b o (fun w=>n1 (w ▸ w5 h)) (fun w=>n1 (w ▸ wY h)) (fun w=>n1 (w ▸ wZ h)) e';exact⟨⟨c _ _ (yR (by show 5≠6;decide)) A.o,c _ _ (yR (by show 1≠6;decide)) A.k,k _ _ (kP nh (i:=0) (j:=5) rfl rfl (by decide)) (kP nh (i:=0) (j:=3) rfl rfl (by decide)) (kP nh (i:=0) (j:=4) rfl rfl (by decide)) A.p,k _ _ (kP nh (i:=1) (j:=5) rfl rfl (by decide)) (kP nh (i:=1) (j:=3) rfl rfl (by decide)) (kP nh (i:=1) (j:=4) rfl rfl (by decide)) A.i,k _ _ (kP nh (i:=2) (j:=5) rfl rfl (by decide)) (kP nh (i:=2) (j:=3) rfl rfl (by decide)) (kP nh (i:=2) (j:=4) rfl rfl (by decide)) A.r,⟨p',b',P',f1,f2⟩,⟨xs,k _ _ (kP nh (i:=6) (j:=5) rfl rfl (by decide)) (kP nh (i:=6) (j:=3) rfl rfl (by decide)) (kP nh (i:=6) (j:=4) rfl rfl (by decide)) exs,lx⟩,⟨ys,k _ _ (kP nh (i:=7) (j:=5) rfl rfl (by decide)) (kP nh (i:=7) (j:=3) rfl rfl (by decide)) (kP nh (i:=7) (j:=4) rfl rfl (by decide)) ey,ly⟩,A.N.csL c fun b o z e=>k b o (fun w=>A.nl _ (w5 h) (w ▸ z)) (fun w=>A.nl _ (wY h) (w ▸ z)) (fun w=>A.nl _ (wZ h) (w ▸ z)) e,fun q hq=>(A.R q hq).pre P k,A.tab.of fun b o _ nd' xM e'=>k b o (fN e' P.l (xM _)) (fN e' P.t (nd' _)) (fN e' P.i (nd' _)) e',A.ra,A.kr,A.nd,nh,A.nl,A.s,A.c0,fun n e=>let ⟨r,a1,a2,a3,a4,a5,a6⟩:=A.c1 n e;⟨r,a1,a2,a3,a4,a5.cs c,a6⟩,A.q⟩,f⟩
theorem iY.fuel{cH cL cP cS cY eQ cJ cB tP:Addr}{H:Hp}{h:HAd}{D:LD}{rs:List (Str×RU)}{cu ex:Option Str}{ts:List V}{F:Fu}{p b:Int}(A:iY cH cL cP cS cY eQ cJ cB tP H h D rs cu ex ts F)(P:j7 cP cS cY H h.A p b ts){f:Nat}(f1:(f:Int)<=p)(f2:(2*f:Int)<=b):iY cH cL cP cS cY eQ cJ cB tP H h D rs cu ex ts { F with f:=f }:={ A with P:=⟨p,b,P,f1,f2⟩ }
theorem iY.row(A:iY cH cL cP cS cY eQ cJ cB tP H h D rs cu ex ts F)(hz:H h.bl=some (.lst zs))(lz:zs.length<=F.v)(eH:H'=upd H h.bl (.lst (zs++[v]))):iY cH cL cP cS cY eQ cJ cB tP H' h D rs cu ex ts ⟨F.f,F.u,F.v+1⟩/\HFr tP h D H H'/\∀ {p b:Int},j7 cP cS cY H h.A p b ts->j7 cP cS cY H' h.A p b ts:=by
 subst eH;have nbl:h.bl≠h.pl:=kP A.nh (i:=7) (j:=6) rfl rfl (by decide);have k3:∀ b o,b≠h.bl->H b=some o->upd H h.bl (.lst (zs++[v])) b=some o:=fun b o n e=>by rw [eJ n];exact e
 have e3:upd H h.bl (.lst (zs++[v])) h.bl=some (.lst (zs++[v])):=eO;obtain⟨ws,hw,lw⟩:=A.l;obtain⟨A3,f3⟩:=A.wrote (F':=⟨F.f,F.u,F.v+1⟩) (.inr rfl) k3 ⟨ws,k3 _ _ (symm nbl) hw,lw⟩ ⟨_,e3,by rw [length_append];show zs.length+1<=F.v+1;omega⟩ (Nat.le_refl _);exact⟨A3,f3,fun P=>⟨P.k.cs (f3.cs A),k3 _ _ (fN P.t hz nofun) P.t,k3 _ _ (fN P.i hz nofun) P.i,k3 _ _ (kP A.nh (i:=5) (j:=7) rfl rfl (by decide)) P.l,P.n⟩⟩
example jIW(cH cL cP cS cY eQ cJ cB tP:Addr):∀ h D rs cu ts F p b k,vs=[.ref h.x,.str "press",.str "plain",.int k]->iY cH cL cP cS cY eQ cJ cB tP H h D rs cu none ts F->F.f=0->j7 cP cS cY H h.A p b ts->0<=p->0<=b->0<=k->p+k<=1000000000->F.v<=100->(∀ H',iY cH cL cP cS cY eQ cJ cB tP H' h D rs cu none ts ⟨F.f,F.u,F.v+1⟩->j7 cP cS cY H' h.A (p+k) b ts->HFr tP h D H H'->Q .non H')->jIW cH cL cP cS cY eQ cJ cB tP:=0
example jIX(cH cL cP cS cY eQ cJ cB tP:Addr):∀ h D rs cu ts F p b k,vs=[.ref h.x,.str "press",.int k,.int 0]->iY cH cL cP cS cY eQ cJ cB tP H h D rs cu none ts F->F.f=0->j7 cP cS cY H h.A p b ts->0<=p->0<=b->0<=k->b+k<=1000000000->F.v<=100->(∀ H',iY cH cL cP cS cY eQ cJ cB tP H' h D rs cu none ts ⟨F.f,F.u,F.v+1⟩->j7 cP cS cY H' h.A p (b+k) ts->HFr tP h D H H'->Q .non H')->jIX cH cL cP cS cY eQ cJ cB tP:=0
example jMs:MtE 6 "load" cQ ["self","printer","kind","many"] (jIW cQ yX yW yJ yV yG yQ yZ dJ):=by
 nomatch i5 T.p100,["self","printer","kind","many"]
 obtain⟨h,D,rs,cu,ts,F',p,b,k,rfl,A,f0,P1,p0,b0,k0,le,lv,q⟩:=h;exists _,(eE (jU (iX 5 gA hr.m (iX 1 gA hr.m (pv 0) (dN (pv 1) dZ)) (dN (pv 2) (dN (pv 3) dZ)))) (eI (jU (iX 1 gA hr.m (fH (pv 0) rfl) (dN (nL (dN (kE T.cr rfl) (dN (pv 1) (dN (pv 2) (dN (pv 3) dZ))))) dZ)))))
 exists _,rfl,h.x,_,h.dx,_,_,_,rfl,A.o,rfl,T.ac,(jBO T),_,rfl,h,D,rs,cu,none,ts,F',rfl,A;refine⟨h.A.x,_,h.A.dx,_,_,_,rfl,P1.k.o,rfl,T.ag,(jJw T),_,rfl,_,rfl,h.A,p,b,ts,k,rfl,P1,le,fun H1 k1 P2=>?_⟩;obtain⟨A1,g1⟩:=A.prn P1 k1 P2 (by rw [f0];omega) (by rw [f0];omega);refine⟨_,rfl,h.x,cQ,h.dx,_,_,rfl,A1.o,T.ac,T.aO,rfl,h.bk,_,h.bd,_,_,_,rfl,A1.k,rfl,T.aF,(jDh T),_,rfl,_,rfl,_,rfl,wq4,fun t5 nt5=>?_⟩;generalize hH5:upd H1 t5 _=H5;have s5:eR H1 H5:=by rw [<- hH5];exact iS nt5 _
 clear hH5;have A5:=A1.same s5;obtain⟨zs,hz,lz⟩:=A5.b;obtain⟨A6,f6,p6⟩:=A5.row (v:=V.ref t5) hz lz rfl;exact⟨h.bk,h.bd,h.bl,zs,_,rfl,A5.k,hz,by omega,q _ A6 (p6 (P2.same s5)) ((g1.trans (vU s5)).trans f6)⟩
example jMt:MtE 5 "fill" cQ ["self","printer","black","coloured"] (jIX cQ yX yW yJ yV yG yQ yZ dJ):=by
 nomatch i5 T.p101,["self","printer","black","coloured"]
 obtain⟨h,D,rs,cu,ts,F',p,b,k,rfl,A,f0,P1,p0,b0,k0,le,lv,q⟩:=h;exists _,(eE (jU (iX 4 gA hr.m (iX 1 gA hr.m (pv 0) (dN (pv 1) dZ)) (dN (pv 2) (dN (pv 3) dZ)))) (eI (jU (iX 1 gA hr.m (fH (pv 0) rfl) (dN (nL (dN (kE T.cx rfl) (dN (pv 1) (dN (pv 2) (dN (pv 3) dZ))))) dZ)))))
 exists _,rfl,h.x,_,h.dx,_,_,_,rfl,A.o,rfl,T.ac,(jBO T),_,rfl,h,D,rs,cu,none,ts,F',rfl,A;refine⟨h.A.x,_,h.A.dx,_,_,_,rfl,P1.k.o,rfl,T.ag,(jJx T),_,rfl,_,rfl,h.A,p,b,ts,k,rfl,P1,le,fun H1 k1 P2=>?_⟩;obtain⟨A1,g1⟩:=A.prn P1 k1 P2 (by rw [f0];omega) (by rw [f0];omega);refine⟨_,rfl,h.x,cQ,h.dx,_,_,rfl,A1.o,T.ac,T.aO,rfl,h.bk,_,h.bd,_,_,_,rfl,A1.k,rfl,T.aF,(jDh T),_,rfl,_,rfl,_,rfl,wq4,fun t5 nt5=>?_⟩;generalize hH5:upd H1 t5 _=H5;have s5:eR H1 H5:=by rw [<- hH5];exact iS nt5 _
 clear hH5;have A5:=A1.same s5;obtain⟨zs,hz,lz⟩:=A5.b;obtain⟨A6,f6,p6⟩:=A5.row (v:=V.ref t5) hz lz rfl;exact⟨h.bk,h.bd,h.bl,zs,_,rfl,A5.k,hz,by omega,q _ A6 (p6 (P2.same s5)) ((g1.trans (vU s5)).trans f6)⟩
noncomputable def yP(D:LD)(n:Str):LD:={ D with qu:=pF D.qu n }
theorem jQf(h:¬ n∈kys l):pF l n=l:=fW.mpr fun p hp=>by
 rw [decide_eq_false (fun z=>h (by rw [<- z];exact jI hp))];rfl
theorem pul_not(h:¬ n∈kys D.qu):yP D n=D:=by
 unfold yP;rw [jQf h]
theorem qu_drop(h:m≠n):(m∈kys (pF l n))=(m∈kys l):=propext ⟨fun z=>(jCH.mp z).1,fun z=>jCH.mpr ⟨z,h⟩⟩
theorem jPg(h:kys l=(kys rs).filter fun m=>decide (m∈kys l)):kys (pF l n)=(kys rs).filter fun m=>decide (m∈kys (pF l n)):=by
 have e:kys (pF l n)=(kys rs).filter fun m=>!decide (m=n)&&decide (m∈kys l):=by
  rw [jO9]
  conv=>lhs;rw [h]
  rw [List.filter_filter]
 refine e.trans (gO fun m _=>?_)
 grind
theorem jNf(h:p.1≠n)(s:xR D cu p):xR (yP D n) cu p:=by
 unfold xR yP;rw [qu_drop h];exact s
example jIY(cH cL cP cS cY eQ cJ cB tP:Addr):∀ h D rs cu ts F n r,vs=[.ref h.x,.str n]->iY cH cL cP cS cY eQ cJ cB tP H h D rs cu none ts F->gL rs n=some r->(n∈kys D.qu\/cu=some n)->F.u<=800000->F.v<=800000->(∀ H' mL cu' ts' F' (w:Str),iY cH cL cP cS cY eQ cJ cB tP H' h (yP D n) mL cu' none ts' F'->HFr tP h D H H'->F.le F' 4->rO mL=rO rs->(w="broken"\/w="whole")->Q (.str w) H')->jIY cH cL cP cS cY eQ cJ cB tP:=0
example jMu:MtE 7 "drop" cQ ["self","job"] (jIY cQ yX yW yJ yV yG yQ yZ dJ):=by
 nomatch i5 T.p102,["self","job","run","former"]
 obtain⟨h,D,rs,cu,ts,F',n,r,rfl,A,er,hn,fu,fv,q⟩:=h;exists _,(eE (psA (i:=2) nZ (iX 1 gA hr.m (pv 0) (dN (pv 1) dZ))) (eE (iK (tcA qL (iX 4 gA hr.m (pv 0) (dN (pv 1) dZ)) (kE T.bM rfl)) (eI (jU (iX 2 gA hr.m (fH (pv 0) rfl) (dN (pv 1) dZ)))) iM) (eE (psA (i:=3) nZ (kT 1 gA hr.m (pv 2))) (eE (jU (iX 2 gA hr.m (pv 0) (dN (pv 3) (dN (kT 6 gA hr.m (pv 2)) dZ)))) (eI (gB (iX 4 gA hr.m (pv 0) (dN (pv 1) dZ))))))))
 exists _,rfl,h.x,_,h.dx,_,_,_,rfl,A.o,rfl,T.ac,(jFR T),_,rfl,h,D,rs,cu,none,ts,F',n,r,rfl,A,er;refine⟨_,rfl,h.x,_,h.dx,_,_,_,rfl,A.o,rfl,T.ac,(jBf T),_,rfl,h,D,rs,cu,none,ts,F',n,r,rfl,A,er,fun H1 s1=>?_⟩;have A1:=A.same s1;have st:=A1.s _ (nQ er) nofun
 have hw:∀ {D':LD} {k:Nat},¬ n∈kys D'.qu->qN D' n (vI r k)=("broken":Str)\/qN D' n (vI r k)=("whole":Str):=fun {D' k} hq=>by
  unfold qN;rw [if_neg hq];cases c:whl (vI r k) with
  | true=>exact .inr rfl
  | false =>
    have:(vI r k).br=true:=by show (!whl (jF r k))=true;rw [show whl (jF r k)=false from c];rfl
    rw [this];exact .inl rfl
 by_cases c:n∈kys D.qu
 ·obtain⟨sc,sp,sb,so⟩:cu≠some n/\r.pt=false/\r.br=false/\r.o=0:=by
   rcases st with⟨_,a,b,d,e⟩|⟨z,_⟩|⟨z,_⟩
   ·exact⟨a,b,d,e⟩
   ·exact absurd c z
   ·exact absurd c z
  have ew:qN D n r="waits":=by unfold qN;rw [if_pos c]
  rw [ew];refine⟨rfl,_,rfl,rW rfl ?_⟩;refine⟨_,rfl,h.x,cQ,h.dx,_,_,rfl,A1.o,T.ac,T.aB,rfl,h.L.x,_,h.L.dx,_,_,_,rfl,A1.N.o,rfl,T.ae,(jMn T),_,rfl,h.L,D,n,rfl,A1.N,c,fun H2 o2 N2=>?_⟩;obtain⟨A2,f2⟩:=A1.line (ex':=some n) (fun b o _ n2 e=>o2 b o n2 e) N2 (jJu A1.N A1.tab o2) (fun b o z _=>z) rfl (fun p hp np=>jNf (fun z=>np (by rw [z])) (A1.s p hp nofun)) (jPg A1.q);have R2:=A2.R _ (nQ er);obtain⟨p,b,P2,_⟩:=A2.P;exists _,rfl,r.a,_,r.dx,_,_,_,rfl,R2.o,rfl,T.aa,(jHY T),h.A,r,rfl,R2,P2.k;refine⟨_,rfl,h.x,_,h.dx,_,_,_,rfl,A2.o,rfl,T.ac,(jCn T),_,rfl,_,rfl,r.a,_,r.dx,_,_,_,rfl,R2.o,rfl,T.aa,(jIP T),h.A,r,rfl,R2,sb,decide_eq_false (by have:0<r.n:=R2.n0;omega),.inl ⟨sp,fun l H3 k3 sM q8 R3=>?_⟩⟩;have nd:¬ n∈kys (yP D n).qu:=fun z=>(jCH.mp z).2 rfl;have eP:∃ p b:Int,j7 yW yJ yV H3 h.A p b ts/\(F'.f:Int)<=p/\(2*F'.f:Int)<=b:=by
   obtain⟨p,b,P2,e1,e2⟩:=A2.P;exact⟨p,b,P2.off R2 k3,e1,e2⟩
  obtain⟨A3,f3⟩:=A2.run (ex':=none) (cu':=cu) (ts':=ts) (F':=F') (r':=vI r 0) er rfl (jGB k3) R3 eP rfl rfl (fun q hq nq _=>A2.s q hq (fun z=>nq (Option.some.inj z).symm)) (fun _=>.inr (.inr ⟨nd,sc,rfl,rfl⟩)) A2.c0 (fun m em=>by
   obtain⟨r',a1,a2,a3,a4,a5,a6⟩:=A2.c1 m em;refine⟨r',?_,a2,a3,a4,a5.cs (R2.cst k3),a6⟩;rw [jEn,if_neg (fun z=>sc (by rw [em,z]))]
   exact a1)
  have nl:l≠h.pl/\l≠h.bl:=by
   obtain⟨xs,hx,_⟩:=A2.l;obtain⟨ys,hy,_⟩:=A2.b;exact⟨fun w=>(by rw [w,hx] at sM;cases sM),fun w=>(by rw [w,hy] at sM;cases sM)⟩
  refine⟨h,yP D n,hJ rs n (vI r 0),cu,none,ts,F',_,l,[],0,rfl,A3,q8,nl.1,nl.2,fun z=>absurd rfl z,nA.nil,by show F'.u+0<=1000000;omega,by show F'.v+0<=1000000;omega,fun H4 A4 f4=>?_⟩;refine⟨_,rfl,h.x,_,h.dx,_,_,_,rfl,A4.o,rfl,T.ac,(jBf T),_,rfl,h,yP D n,hJ rs n (vI r 0),cu,none,ts,_,n,vI r 0,rfl,A4,by rw [jEn,if_pos rfl],fun H5 s5=>?_⟩;have g:∀ b o,LF h.L (yP D n) b->H1 b=some o->LF h.L D b:=fun b o z _=>z;exact q H5 _ cu ts _ _ (A4.same s5) ((((vU s1).trans f2).trans2 f3 fun b o z _=>z).trans2 (f4.trans (vU s5)) fun b o z _=>z) ⟨by show F'.f<=F'.f+4;omega,by show F'.u+0<=F'.u+4;omega,by show F'.v+0<=F'.v+2*4;omega⟩ (jIU A.nd er rfl) (hw nd)
 ·obtain rfl:cu=some n:=hn.resolve_left c;obtain⟨r0,e0,hp,hb,nw,tg,le⟩:=A1.c1 n rfl;obtain rfl:r=r0:=by rw [er] at e0;exact Option.some.inj e0
  have R1:kK yG yQ H1 h.A r:=A1.R _ (nQ er);have n3:=R1.n3;obtain⟨p,b,P1,fp,fb⟩:=A1.P;have ew:qN D n r="prints":=by
   unfold qN;rw [if_neg c,nw,if_neg (by decide),hb,if_neg (by decide)]
  rw [ew];refine⟨rfl,_,rfl,rY (by decide +kernel) ?_⟩;exists _,rfl,r.a,_,r.dx,_,_,_,rfl,R1.o,rfl,T.aa,(jHY T),h.A,r,rfl,R1,P1.k;refine⟨_,rfl,h.x,_,h.dx,_,_,_,rfl,A1.o,rfl,T.ac,(jCn T),_,rfl,_,rfl,r.a,_,r.dx,_,_,_,rfl,R1.o,rfl,T.aa,(jIP T),h.A,r,rfl,R1,hb,nw,.inr ⟨hp,p,b,ts,⟨R1,P1,tg,le⟩,fun l H3 f3 sM q8 tg3 R3 P3=>?_⟩⟩
  obtain⟨A3,g3⟩:=A1.run (ex':=none) (cu':=none) (ts':=[]) (F':=F') (r':=vI r ts.length) er rfl f3 R3 ⟨p,b,P3,fp,fb⟩ rfl rfl (fun q hq nq _=>by
   rcases A1.s q hq nofun with⟨a1,_,a3⟩|⟨_,a2,_⟩|⟨a1,_,a3⟩
   ·exact .inl ⟨a1,nofun,a3⟩
   ·exact absurd (Option.some.inj a2).symm nq
   ·exact .inr (.inr ⟨a1,nofun,a3⟩)) (fun _=>.inr (.inr ⟨c,nofun,rfl,rfl⟩)) (fun _=>rfl) (fun m em=>by cases em)
  have nl:l≠h.pl/\l≠h.bl:=by
   obtain⟨xs,hx,_⟩:=A1.l;obtain⟨ys,hy,_⟩:=A1.b;exact⟨fun w=>(by rw [w,hx] at sM;cases sM),fun w=>(by rw [w,hy] at sM;cases sM)⟩
  refine⟨h,D,hJ rs n (vI r ts.length),none,none,[],F',_,l,ts,r.o,rfl,A3,q8,nl.1,nl.2,fun _=>by rw [hp];rfl,tg3,by omega,by omega,fun H4 A4 f4=>?_⟩;refine⟨_,rfl,h.x,_,h.dx,_,_,_,rfl,A4.o,rfl,T.ac,(jBf T),_,rfl,h,D,hJ rs n (vI r ts.length),none,none,[],_,n,vI r ts.length,rfl,A4,by rw [jEn,if_pos rfl],fun H5 s5=>?_⟩;rw [pul_not c] at q;exact q H5 _ none [] _ _ (A4.same s5) ((((vU s1).trans g3).trans f4).trans (vU s5)) ⟨by show F'.f<=F'.f+4;omega,by show F'.u+ts.length<=F'.u+4;omega,by show F'.v+ts.length<=F'.v+2*4;omega⟩ (jIU A.nd er rfl) (hw c)
example jHs(cH cL cP cS cY eQ cJ cB tP:Addr):∀ h D rs ts F,vs=[.ref h.x,.str "press"]->iY cH cL cP cS cY eQ cJ cB tP H h D rs none none ts F->D.Z->D.Ok->D.qu.length<=300->D.ra.length<=1->(xI D rs=[]->∀ H',eR H H'->Q .non H')->(∀ n (b:Str) (r l c s:Int) (H':Hp) pR mL ts',n∈xI D rs->gL D.ow n=some b->gL D.lv b=some l->qX pR=xV D n c (xI D rs) (kys (pF D.qu n)) (qX D.no)->iY cH cL cP cS cY eQ cJ cB tP H' h (yB D n b r l c s pR) mL (some n) none ts' F->rO mL=rO rs->HFr tP h D H H'->Q (.str n) H')->jHs cH cL cP cS cY eQ cJ cB tP:=0
example jLD:MtE 8 "start" cQ ["self","printer"] (jHs cQ yX yW yJ yV yG yQ yZ dJ):=by
 nomatch i5 T.p96,["self","printer","machine","taken"]
 obtain⟨h,D,rs,ts,F',rfl,A,Z,O,lq,lra,q1,q⟩:=h;exists _,(eE (psA (i:=2) nZ (iX 1 gA hr.m (pv 0) (dN (pv 1) dZ))) (eE (jU (kT 3 gA hr.m (pv 2))) (eE (jU (iX 3 gA hr.m (pv 0) (dN (pv 1) (dN m3 dZ)))) (eE (psA (i:=3) nZ (iX 6 gA hr.m (fH (pv 0) rfl) (dN (iX 7 gA hr.m (pv 0) (dN (pv 1) dZ)) dZ))) (eE (iK (tcA jCr (pv 3) m3) (eI (jU (iX 6 gA hr.m (dgA hu (fH (pv 0) rfl) (pv 3)) (dN (pv 2) dZ)))) iM) (eI (gB (pv 3))))))))
 obtain⟨p0,b0,P0,_⟩:=A.P;exists _,rfl,h.x,_,h.dx,_,_,_,rfl,A.o,rfl,T.ac,(jBO T),_,rfl,h,D,rs,none,none,ts,F',rfl,A;exists _,rfl,h.A.x,_,h.A.dx,_,_,_,rfl,P0.k.o,rfl,T.ag,(jB1 T),h.A,rfl,P0.k;refine⟨_,rfl,h.x,_,h.dx,_,_,_,rfl,A.o,rfl,T.ac,(jF5 T),_,rfl,h,D,rs,ts,F',rfl,A,fun H1 s1=>?_⟩;have A1:=A.same s1;refine⟨_,rfl,h.x,cQ,h.dx,_,_,rfl,A1.o,T.ac,T.aB,rfl,h.L.x,_,h.L.dx,_,_,_,rfl,A1.N.o,rfl,T.ae,(jMo T),_,rfl,h.x,_,h.dx,_,_,_,rfl,A1.o,rfl,T.ac,(jHq T),_,rfl,h,D,rs,none,none,ts,F',rfl,A1,by omega,fun l H2 s2 nl hl=>?_⟩;have A2:=A1.same s2;have lk:(kys D.qu).length=D.qu.length:=c7 _;have la:(xI D rs).length<=D.qu.length:=by rw [<- lk];exact eA _ _
 have sub:∀ n∈xI D rs,n∈kys D.qu:=fun n hn=>(iL.mp hn).1;refine⟨h.L,D,l,xI D rs,rfl,A2.N,Z,O,hl,jD5 A1.N nl,lra,by omega,A2.tab,sub,fun em=>?_,fun em=>⟨O.qn.sublist hU,fun n b r lv c s H3 pR pa pq eo el fr tab3 cn N3=>?_⟩⟩
 ·exact⟨_,rfl,rfl,_,rfl,hV ⟨_,rfl,q1 em H2 (s1.trans s2)⟩⟩
 obtain⟨ru,eu⟩:=mO (A.mem pq);obtain⟨hpt,hb,ho⟩:ru.pt=false/\ru.br=false/\ru.o=0:=by
  rcases A.s _ (nQ eu) nofun with⟨_,_,z⟩|⟨z,_⟩|⟨z,_⟩
  ·exact z
  ·exact absurd pq z
  ·exact absurd pq z
 obtain⟨_,ck2,_⟩:=jNe cn;obtain⟨A3,f3⟩:=A2.line (ex':=some n) (fun b o n1 n2 e=>fr b o n1 n2 e) N3 tab3 (fun b o z _=>yM ck2 z) rfl (fun p hp np=>jNf (D:=D) (fun z=>np (by rw [z])) (A2.s p hp nofun)) (jPg A2.q);have R3:kK yG yQ H3 h.A ru:=A3.R _ (nQ eu);obtain⟨p3,b3,P3,e31,e32⟩:=A3.P;have g:=lO jZ A3.r n;rw [eu] at g;refine⟨_,rfl,rfl,_,rfl,kL ⟨_,rfl,h.x,cQ,h.dx,_,_,rfl,A3.o,T.ac,T.aq,rfl,_,rfl,h.rn,_,rfl,g,ru.a,_,ru.dx,_,_,_,rfl,R3.o,rfl,T.aa,(jN0 T),_,rfl,h.A,ru,rfl,R3,P3.k,hb,hpt,ho,fun v H4 k4 R4=>?_⟩⟩;have nd:¬ n∈kys (yB D n b r lv c s pR).qu:=fun z=>(jCH.mp z).2 rfl;have n0':0<ru.n:=R3.n0;have hw0:whl { ru with pt:=true }=false:=decide_eq_false (by show ¬ ru.o=ru.n+1;omega);have et:=A3.c0 rfl;subst et
 obtain⟨A4,f4⟩:=A3.run (ex':=none) (cu':=some n) (ts':=[]) (F':=F') (r':={ ru with pt:=true }) eu rfl (jGB k4) R4 ⟨p3,b3,P3.off R3 k4,e31,e32⟩ rfl rfl (fun q hq nq _=>by
  rcases A3.s q hq (fun z=>nq (Option.some.inj z).symm) with⟨a1,_,a3⟩|⟨_,a2,_⟩|⟨a1,_,a3⟩
  ·exact .inl ⟨a1,(fun z=>nq (Option.some.inj z).symm),a3⟩
  ·cases a2
  ·exact .inr (.inr ⟨a1,(fun z=>nq (Option.some.inj z).symm),a3⟩)) (fun _=>.inr (.inl ⟨nd,rfl,rfl,hb,hw0⟩)) (fun z=>(by cases z)) (fun m em=>by
  obtain rfl:=Option.some.inj em
  exact⟨{ ru with pt:=true },by rw [jEn,if_pos rfl],rfl,hb,hw0,nA.nil,by show ru.o+0<=ru.n+1;omega⟩)
 exact⟨_,rfl,q n b r lv c s H4 pR _ [] pa eo el cn A4 (jIU A.nd eu rfl) (((vU (s1.trans s2)).trans f3).trans2 f4 fun b o z _=>yM ck2 z)⟩
theorem lf_lay(nn:¬ a∈kys D.no)(z:LF L D x):LF L (wM D a b c l r t) x:=by
 rcases z with z|⟨n,hn,e⟩
 ·exact .inl z
 ·refine .inr ⟨n,?_,e⟩;show n∈hJ D.no a (t,[]);rw [jE8 nn];exact eS _ hn
theorem iY.laid{cH cL cP cS cY eQ cJ cB tP:Addr}{H H':Hp}{h:HAd}{D:LD}{rs:List (Str×RU)}{cu:Option Str}{ts:List V}{F:Fu}(A:iY cH cL cP cS cY eQ cJ cB tP H h D rs cu none ts F){a b:Str}{cc l r:Int}{t:Addr}{ru:RU}(k:∀ b o,b≠h.rn->¬ LF h.L D b->H b=some o->H' b=some o)(N:iC cL H' h.L (wM D a b cc l r t))(hr:H' h.rn=some (.dK (dG Sum.inr rP (hJ rs a ru))))(R:∀ A,kK eQ cJ H' A ru)(rp:ru.pt=false)(rb:ru.br=false)(ro:ru.o=0)(nr:H ru.a=none)(nt:H t=none)(na:¬ a∈kys D.ow):iY cH cL cP cS cY eQ cJ cB tP H' h (wM D a b cc l r t) (hJ rs a ru) cu none ts F/\HFr tP h D H H':=by
 have f:HFr tP h D H H':=fun b o _ n1 n2 _ e=>k b o (fun w=>n1 (w ▸ u6 h)) n2 e;have ki:∀ {b C d fs},H b=some (.ins C d fs)->H' b=some (.ins C d fs):=fun e=>k _ _ (fN e A.r nofun) (A.not e (by intro k z;cases z) (by intro k z;cases z)).2 e;have kh:∀ {b o i},(oA h)[i]?=some b->i≠2->H b=some o->H' b=some o:=fun e n2 e'=>k _ _ (kP A.nh e (j:=2) rfl n2) (A.nl _ (mem_of_getElem? e)) e';have na':¬ a∈kys rs:=by rw [A.kr];exact na
 have eu:hJ rs a ru=rs++[(a,ru)]:=jE8 na';have nq:¬ a∈kys D.qu:=fun z=>na' (A.mem z);have g:∀ x o,LF h.L (wM D a b cc l r t) x->H x=some o->LF h.L D x:=fun x o z e=>by
  rcases z with z|⟨n,hn,rfl⟩
  ·exact .inl z
  ·rcases jDu hn with hn|rfl
   ·exact .inr ⟨n,hn,rfl⟩
   ·rw [show ((a,(t,([]:List tF))):Str×Addr×List tF).2.1=t from rfl,nt] at e;cases e
 have kt:tW H' tP:=A.tab.of fun b o _ nd nl e=>k b o (fN e A.r (nd _)) (A.not e nd nl).2 e;obtain⟨p,b',P,f1,f2⟩:=A.P;obtain⟨xs,ex,lx⟩:=A.l;obtain⟨ys,ey,ly⟩:=A.b;have c:=f.cs A;have ek:kys (hJ rs a ru)=kys rs++[a]:=jCb na';have eqk:kys (hJ D.qu a ())=kys D.qu++[a]:=jCb nq;have lka:∀ m r',gL rs m=some r'->gL (hJ rs a ru) m=some r':=fun m r' e=>by
  rw [jEn,if_neg (fun z=>na' (by rw [<- z];exact yT e))];exact e
 refine⟨⟨ki A.o,ki A.k,kh (i:=0) rfl (by decide) A.p,kh (i:=1) rfl (by decide) A.i,hr,⟨p,b',⟨P.k.cs c,kh (i:=3) rfl (by decide) P.t,kh (i:=4) rfl (by decide) P.i,kh (i:=5) rfl (by decide) P.l,P.n⟩,f1,f2⟩,⟨xs,kh (i:=6) rfl (by decide) ex,lx⟩,⟨ys,kh (i:=7) rfl (by decide) ey,ly⟩,N,fun p hp=>?_,kt,?_,?_,jLq A.nd,A.nh,fun x hx z=>?_,fun p hp _=>?_,A.c0,fun m em=>?_,?_⟩,f⟩
 ·rcases jDu hp with hp|rfl
  ·exact (A.R p hp).cs c (ki (A.R p hp).o)
  ·exact R _
 ·rw [eu,eB];refine iI.mpr ⟨A.ra,by simp,fun x hx y hy z=>?_⟩;obtain⟨p,hp,rfl⟩:=dR.mp hx;rw [eW,m5,mem_singleton] at hy;have:=(A.R p hp).o;rw [z,hy,nr] at this;cases this
 ·show kys (hJ rs a ru)=kys (hJ D.ow a b);rw [jCb na',jCb na,A.kr]
 ·rcases A.kind hx with⟨k,e⟩|⟨k,e⟩
  ·exact A.nl x hx (g _ _ z e)
  ·exact A.nl x hx (g _ _ z e)
 ·have eq:∀ m,m∈kys (wM D a b cc l r t).qu ↔ m∈kys D.qu\/m=a:=fun m=>by
   show m∈kys (hJ D.qu a ()) ↔ _;rw [eqk,eN,mem_singleton]
  rcases jDu hp with hp'|rfl
  ·have np:p.1≠a:=fun z=>na' (by rw [<- z];exact jI hp');have e1:(p.1∈kys (wM D a b cc l r t).qu)=(p.1∈kys D.qu):=propext ⟨fun z=>((eq p.1).mp z).elim id fun z=>absurd z np,fun z=>(eq p.1).mpr (.inl z)⟩;unfold xR;rw [e1];exact A.s p hp' nofun
  ·refine .inl ⟨(eq a).mpr (.inr rfl),fun z=>?_,rp,rb,ro⟩;obtain⟨r',er',_⟩:=A.c1 a z;exact na' (yT er')
 ·obtain⟨r',a1,a2,a3,a4,a5,a6⟩:=A.c1 m em;exact⟨r',lka _ _ a1,a2,a3,a4,a5.cs c,a6⟩
 ·show kys (hJ D.qu a ())=(kys (hJ rs a ru)).filter fun n=>decide (n∈kys (hJ D.qu a ()));rw [ek,eqk,eZ,gE,if_pos (decide_eq_true (dH _ (mem_singleton.mpr rfl))),hX];refine congrArg (· ++ [a]) ?_
  conv=>lhs;rw [A.q]
  refine gO fun m hm=>?_;have nm:m≠a:=fun z=>na' (z ▸ hm);exact decide_eq_decide.mpr ⟨fun z=>eS _ z,fun z=>(eN.mp z).resolve_right fun w=>nm (mem_singleton.mp w)⟩
example jJ9(cH cL cP cS cY eQ cJ cB tP:Addr):∀ (h:HAd) (D:LD) (rs:List (Str×RU)) (cu:Option Str) (ts:List V) (F:Fu) (z a b y:Str) (us:List Str) (l r:Int),vs=[.ref h.x,.str z]->iY cH cL cP cS cY eQ cJ cB tP H h D rs cu none ts F->z.length<=900->Txt.split z y4=a::b::y::us.map (jK++·)->good a=true->good b=true->vL y=true->1<=val y->val y<=3->(∀ u∈us,good u=true)->us.Nodup->us.length<=3->D.Z->(∀ n∈kys D.qu,n∈kys D.ow)->b∈kys D.ra->(¬ a∈kys D.ow)->gL D.lv b=some l->gL D.ra b=some r->(¬ a∈kys D.no)->rs.length<=900->(∀ t H' ru,ru.J.af=us->iY cH cL cP cS cY eQ cJ cB tP H' h (wM D a b (val y*1) l r t) (hJ rs a ru) cu none ts F->HFr tP h D H H'->H t=none->Q (.str a) H')->jJ9 cH cL cP cS cY eQ cJ cB tP:=0
example jN1:MtE 8 "lay" cQ ["self","line"] (jJ9 cQ yX yW yJ yV yG yQ yZ dJ):=by
 nomatch i5 T.p95,["self","line","job"]
 obtain⟨h,D,rs,cu,ts,F',z,a,b,y,us,l,r,rfl,A,lz,ez,ga,gb,gy,y0,y1,gu,nu,lu,Z,qo,hb,ha,el,er,nno,lr,q⟩:=h;exists _,(eE (psA (i:=2) nZ (jV (jNR T) hr.m rfl (dN (pv 1) dZ))) (eE (jU (iX 1 gA hr.m (fH (pv 0) rfl) (dN (fH (pv 2) rfl) dZ))) (eE (iK (sR (xX hu (fH (pv 2) rfl) (fH (pv 0) rfl))) (eI mV) iM) (eE (jU (jV (jPc T) hr.m rfl (dN (pv 2) (dN (rG (jE6 rfl) rfl T.ar jCu (dN (jKN gX iV kO jJW (fH (pv 0) rfl)) dZ)) dZ)))) (eE (jU (iX 2 gA hr.m (fH (pv 0) rfl) (dN (fH (pv 2) rfl) (dN (fH (pv 2) rfl) (dN (jV (Dab T) hr.m rfl (dN (pv 2) dZ)) dZ))))) (eE (tH hu (fH (pv 0) rfl) (fH (pv 2) rfl) (jEh (Daj T) hr.m rfl (dN (pv 2) dZ)) rfl) (eI (gB (fH (pv 2) rfl)))))))))
 refine⟨_,rfl,z,a,b,y,us,rfl,lz,ez,ga,gb,gy,y0,by omega,gu,nu,lu,fun J H1 s1 j e1 e2 e3 e4=>?_⟩;have A1:=A.same s1;have na':¬ a∈kys rs:=by rw [A.kr];exact ha
 obtain⟨x,dx,t,nm,as,p,af⟩:=J;dsimp only at e1 e2 e3 e4;subst e1 e2 e3 e4;exists _,rfl,h.x,cQ,h.dx,_,_,rfl,A1.o,T.ac,T.aB,rfl,h.L.x,_,h.L.dx,_,_,_,rfl,A1.N.o,rfl,T.ae,(jEo T),_,rfl,x,yQ,dx,_,_,rfl,j.o,T.ah,T.bg,rfl,h.L,D,as,rfl,A1.N,hb;exists _,rfl,x,yQ,dx,_,_,rfl,j.o,T.ah,T.aE,rfl,_,rfl,h.x,cQ,h.dx,_,_,rfl,A1.o,T.ac,T.aq,rfl,h.rn,_,rfl,lO jZ A1.r nm,_,rfl;rw [jB_.mpr na'];refine hV ⟨_,rfl,_,rfl,h.x,cQ,h.dx,_,_,rfl,A1.o,T.ac,T.aJ,rfl,.inr (.inr (.inl ⟨rfl,.inl ⟨_,A1.p⟩⟩)),h.pr,_,rfl,rfl,A1.p,fun v nv=>⟨v,h.pr,_,rfl,eO,iS nv _ _ _ A1.p,fun l2 xL=>?_⟩⟩;have s2:=(iS nv (VW v h.pr)).trans (iS xL (.lst [V.ref h.A.x]));have A2:=A1.same s2;obtain⟨p2,b2,P2,_⟩:=A2.P;refine⟨⟨x,dx,t,nm,as,val y,af⟩,h.A,l2,rfl,j.same s2,P2.k,eO,fun v H3 s3=>?_⟩;have nX:=(s1.trans s2).trans s3;have A3:=A.same nX;have j3:=(j.same s2).same s3;exists _,rfl,h.x,cQ,h.dx,_,_,rfl,A3.o,T.ac,T.aB,rfl,h.L.x,_,h.L.dx,_,_,_,rfl,A3.N.o,rfl,T.ae,(jNT T),_,rfl,x,yQ,dx,_,_,rfl,j3.o,T.ah,T.aE,rfl,_,rfl,x,yQ,dx,_,_,rfl,j3.o,T.ah,T.bg,rfl,_,rfl,⟨x,dx,t,nm,as,val y,af⟩,rfl,j3,?_,?_
 ·show 0<=val y;omega
 ·show val y<=1000;omega
 refine⟨h.L,D,nm,as,val y*1,l,r,rfl,A3.N,Z,qo,hb,ha,el,er,nno,fun H4 t4 o4 nt4 N4=>?_⟩;have k4:∀ b o,¬ LF h.L D b->H b=some o->H4 b=some o:=fun b o n e=>o4 b o n (nX b o e);have ki:∀ {b C d fs},H b=some (.ins C d fs)->H4 b=some (.ins C d fs):=fun e=>k4 _ _ (jEr A.N e (by intro k z;cases z) (by intro k z;cases z)) e;have j4:Jat yQ H4 ⟨x,dx,t,nm,as,val y,af⟩:=⟨o4 _ _ (jEr A3.N j3.o (by intro k z;cases z) (by intro k z;cases z)) j3.o,o4 _ _ (jEr A3.N j3.t (by intro k z;cases z) (by intro k z;cases z)) j3.t,j3.l⟩
 refine⟨_,rfl,fun ra dr nra ndr ner=>⟨ra,dr,⟨x,dx,t,nm,as,val y,af⟩,rfl,eO,?_,y0,y1,fun ru H5 k5 e5 ej ep eb eo R5=>⟨rfl,?_⟩⟩⟩
 ·exact j4.same fun b o e=>by rw [eJ (gM e nra),eJ (gM e ndr)];exact e
 have s5:=jB7 nra ndr k5;have hx5:=s5 _ _ (ki A.o);have hr5:=s5 _ _ (k4 _ _ (A.nl _ (u6 h)) A.r);have N5:=N4.same s5;have nl5:¬ LF h.L (wM D nm as (val y*1) l r t4) h.rn:=fun z=>by
  rcases z with z|⟨n,hn,e⟩
  ·exact A.nl _ (u6 h) (.inl z)
  ·rcases jDu hn with hn|rfl
   ·exact A.nl _ (u6 h) (.inr ⟨n,hn,e⟩)
   ·have:=nX _ _ A.r;rw [e,nt4] at this;cases this
 subst e5;have hj5:=s5 _ _ j4.o;exists _,rfl,h.x,cQ,h.dx,_,_,rfl,hx5,T.ac,T.aq,rfl,_,rfl,x,yQ,dx,_,_,rfl,hj5,T.ah,T.aE,rfl,h.rn,_,rfl,vP jZ hr5 (by omega) nm ru;have k6:∀ b o,b≠h.rn->H5 b=some o->upd H5 h.rn (.dK (dG Sum.inr rP (hJ rs nm ru))) b=some o:=fun b o n e=>by rw [eJ n];exact e
 have hr6:upd H5 h.rn (.dK (dG Sum.inr rP (hJ rs nm ru))) h.rn=some (.dK (dG Sum.inr rP (hJ rs nm ru))):=eO;generalize upd H5 h.rn _=H6 at k6 hr6 ⊢;have kk:∀ b o,b≠h.rn->¬ LF h.L D b->H b=some o->H6 b=some o:=fun b o n1 n2 e=>k6 b o n1 (s5 _ _ (k4 b o n2 e));have c6:oR H5 H6:=fun b o c e=>k6 b o (fN e hr5 (c.nd _)) e;have N6:iC yX H6 h.L (wM D nm as (val y*1) l r t4):=N5.csL c6 (fun b o z e=>k6 b o (fun w=>nl5 (by rw [<- w];exact z)) e);have R6:∀ A,kK yG yQ H6 A ru:=fun A=>(R5 A).cs c6 (k6 _ _ (fN (R5 A).o hr5 nofun) (R5 A).o);have nru:H ru.a=none:=by
  cases e:H ru.a with
  | none=>rfl
  | some o =>
    have n4:¬ LF h.L D ru.a:=fun z=>jD5 (D:=wM D nm as (val y*1) l r t4) N4 nra (lf_lay nno z);rw [k4 _ _ n4 e] at nra;cases nra
 obtain⟨A6,f6⟩:=A.laid kk N6 hr6 R6 ep eb eo nru (jEO nX nt4) ha;exact⟨_,rfl,x,yQ,dx,_,_,rfl,k6 _ _ (fN hj5 hr5 nofun) hj5,T.ah,T.aE,rfl,q t4 H6 ru (by rw [ej]) A6 f6 (jEO nX nt4)⟩
theorem iC.butx{cL x C d:Addr}{fs:List (Str×V)}{H H':Hp}{L:LA}{D:LD}(N:iC cL H L D)(k:∀ b o,b≠x->H b=some o->H' b=some o)(nx:L.x≠x)(hx:H x=some (.ins C d fs)):iC cL H' L D :=
 have kd:∀ {b kv},H b=some (.dK kv)->H' b=some (.dK kv):=fun e=>k _ _ (fN e hx nofun) e
 ⟨k _ _ nx N.o,fun i a v hi hk=>kd (N.d i hi hk),fun n h=>k _ _ (fN (N.nl n h) hx nofun) (N.nl n h),fun n h t ht=>k _ _ (fN (N.nt n h t ht) hx nofun) (N.nt n h t ht),N.nd,N.nn⟩
example jIZ(cB:Addr):∀ x dx,vs=[.ref x]->H x=some (.ins cB dx [])->(∀ l H',(∀ b o,b≠x->H b=some o->H' b=some o)->H' x=some (.ins cB dx [("rows",.ref l)])->H' l=some (.lst [])->H l=none->Q .non H')->jIZ cB:=0
example Dak:MkD 1 "Book" yZ ["self"] (jIZ yZ):=by
 nomatch mkD T.e T.kc1 T.p18,["self"]
 obtain⟨x,dx,rfl,hx,q⟩:=h;exists _,(eI (kM (pv 0) (oQ dZ) rfl))
 refine⟨small (d9 _),fun l nl=>?_⟩;have I1:=(Ini.nil hx).same (iS nl (.lst []));have hl:upd H l (.lst []) l=some (.lst []):=eO;generalize upd H l _=H1 at I1 hl ⊢;exact⟨_,rfl,x,yZ,dx,_,rfl,I1.o,T.aF,T.bP,(by show 0<1000;decide),q l _ (I1.set "rows" (.ref l)).k (I1.set "rows" (.ref l)).o (I1.off "rows" (.ref l) _ _ (by intro d f z;cases z) hl) nl⟩
noncomputable def LD0:LD:=⟨[],[],[],[],[],[],[],[]⟩
structure InH(cH cL cB:Addr)(H:Hp)(h:HAd):Prop where
 o:H h.x=some (.ins cH h.dx (hlF h))
 k:H h.bk=some (.ins cB h.bd [("rows",.ref h.bl)])
 p:H h.pr=some (.dK [])
 i:H h.pi=some (.dK [])
 r:H h.rn=some (.dK [])
 b:H h.bl=some (.lst [])
 N:iC cL H h.L LD0
 n1:h.pr≠h.rn
 n2:h.pi≠h.rn
 n3:h.pi≠h.pr
 n4:¬ h.pr∈h.L.ds
 n5:¬ h.pi∈h.L.ds
 n6:¬ h.rn∈h.L.ds
theorem InH.same(I:InH cH cL cB H h)(s:eR H H'):InH cH cL cB H' h:={ I with o:=s _ _ I.o,k:=s _ _ I.k,p:=s _ _ I.p,i:=s _ _ I.i,r:=s _ _ I.r,b:=s _ _ I.b,N:=I.N.same s }
example jI0(cH cL cB:Addr):∀ x dx,vs=[.ref x]->H x=some (.ins cH dx [])->(∀ (h:HAd) H',h.x=x->(∀ b o,b≠x->H b=some o->H' b=some o)->InH cH cL cB H' h->(∀ b,(b∈h.L.ds\/b=h.rn\/b=h.pr\/b=h.pi\/b=h.bl)->H b=none)->Q .non H')->jI0 cH cL cB:=0
example Dal:MkD 3 "Hall" cQ ["self"] (jI0 cQ yX yZ):=by
 nomatch mkD T.e T.kc10 T.p92,["self"]
 obtain⟨x,dx,rfl,hx,q⟩:=h;exists _,(eE (kM (pv 0) tZ rfl) (eE (kM (pv 0) tZ rfl) (eE (kM (pv 0) (jDF (Dad T) hr.m rfl) rfl) (eE (kM (pv 0) tZ rfl) (eI (kM (pv 0) (jDF (Dak T) hr.m rfl) rfl))))))
 refine fun p np=>?_;have I0:=(Ini.nil hx).same (iS np (.dK []));have hp:upd H p (.dK []) p=some (.dK []):=eO;generalize upd H p _=H0 at I0 hp ⊢;have I1:=I0.set "printers" (.ref p);replace hp:=I0.off "printers" (.ref p) _ _ (by intro d f z;cases z) hp;refine⟨_,rfl,x,cQ,dx,_,rfl,I0.o,T.ac,T.aJ,(by show 0<1000;decide),?_⟩;generalize upd _ x _=H1 at I1 hp ⊢;refine fun i ni=>?_;have fi:=I1.free ni;have npi:i≠p:=symm (gM hp ni);replace I1:=I1.same (iS ni (.dK []));replace hp:=iS ni (.dK []) _ _ hp;have hi:upd H1 i (.dK []) i=some (.dK []):=eO;generalize upd H1 i _=H1 at I1 hp hi ⊢;have I2:=I1.set "piles" (.ref i);replace hp:=I1.off "piles" (.ref i) _ _ (by intro d f z;cases z) hp;replace hi:=I1.off "piles" (.ref i) _ _ (by intro d f z;cases z) hi;refine⟨_,rfl,x,cQ,dx,_,rfl,I1.o,T.ac,T.bC,(by show 1<1000;decide),?_⟩;generalize upd _ x _=H2 at I2 hp hi ⊢;refine fun lx ld nlx nld nle=>⟨lx,ld,rfl,eO,fun L H3 el eld k3 fr N=>⟨rfl,?_⟩⟩
 have s3:=jB7 nlx nld k3;have frH:∀ b∈L.ds,H2 b=none:=fun b hb=>by
  cases e:H2 b with
  | none=>rfl
  | some o =>
    have:=fr b hb;rw [eJ (gM e nlx),eJ (gM e nld),e] at this;cases this
 have nd2:∀ {b o},H2 b=some o->¬ b∈L.ds:=fun e z=>by rw [frH _ z] at e;cases e
 have np2:=nd2 hp;have ni2:=nd2 hi;have fL:∀ b∈L.ds,H b=none:=fun b hb=>I2.free (frH b hb);have nxl:lx≠x:=symm (gM I2.o nlx);replace I2:=I2.same s3;replace hp:=s3 _ _ hp;replace hi:=s3 _ _ hi;have I3:=I2.set "line" (.ref lx);replace hp:=I2.off "line" (.ref lx) _ _ (by intro d f z;cases z) hp;replace hi:=I2.off "line" (.ref lx) _ _ (by intro d f z;cases z) hi;replace N:=N.butx (x:=x) (fun b o n e=>I2.ofn "line" (.ref lx) b o n e) (by rw [el];exact nxl) I2.o;refine⟨_,rfl,x,cQ,dx,_,rfl,I2.o,T.ac,T.aB,(by show 2<1000;decide),?_⟩;generalize upd _ x _=H4 at I3 hp hi N ⊢;refine fun rn nrn=>?_;have frn:=I3.free nrn;have nrp:p≠rn:=gM hp nrn;have nri:i≠rn:=gM hi nrn;have nrl:¬ rn∈L.ds:=fun z=>jD5 N nrn (.inl z);have s5:=iS nrn (.dK []);replace I3:=I3.same s5;replace hp:=s5 _ _ hp;replace hi:=s5 _ _ hi;replace N:=N.same s5;have hr:upd H4 rn (.dK []) rn=some (.dK []):=eO;generalize upd H4 rn _=H5 at I3 hp hi N hr ⊢;have I4:=I3.set "runs" (.ref rn);replace hp:=I3.off "runs" (.ref rn) _ _ (by intro d f z;cases z) hp;replace hi:=I3.off "runs" (.ref rn) _ _ (by intro d f z;cases z) hi;replace hr:=I3.off "runs" (.ref rn) _ _ (by intro d f z;cases z) hr;replace N:=N.butx (x:=x) (fun b o n e=>I3.ofn "runs" (.ref rn) b o n e) (by rw [el];exact nxl) I3.o;refine⟨_,rfl,x,cQ,dx,_,rfl,I3.o,T.ac,T.aq,(by show 3<1000;decide),?_⟩;generalize upd _ x _=H6 at I4 hp hi N hr ⊢;refine fun bk bd nbk nbd nbe=>⟨bk,bd,rfl,eO,fun bl H7 k7 hbk hbl nbl=>⟨rfl,?_⟩⟩
 have s7:=jB7 nbk nbd k7;have fbl:H6 bl=none:=by
  cases e:H6 bl with
  | none=>rfl
  | some o=>rw [eJ (gM e nbk),eJ (gM e nbd),e] at nbl;cases nbl
 have fb:=I4.free fbl;have nbx:bk≠x:=symm (gM I4.o nbk);replace I4:=I4.same s7;have I5:=I4.set "records" (.ref bk);subst el;refine⟨_,rfl,x,cQ,dx,_,rfl,I4.o,T.ac,T.aO,(by show 4<1000;decide),q ⟨x,dx,p,i,rn,bk,bd,0,bl,⟨0,0,0,0,0,0,0,0,⟨0,0,0,0⟩,⟨0,0,0,0⟩⟩,L⟩ _ rfl I5.k ⟨I5.o,I4.ofn _ _ _ _ nbx hbk,I4.off _ _ _ _ (by intro d f z;cases z) (s7 _ _ hp),I4.off _ _ _ _ (by intro d f z;cases z) (s7 _ _ hi),I4.off _ _ _ _ (by intro d f z;cases z) (s7 _ _ hr),I4.off _ _ _ _ (by intro d f z;cases z) hbl,(N.same s7).butx (x:=x) (fun b o n e=>I4.ofn _ _ b o n e) nxl I4.o,nrp,nri,npi,np2,ni2,nrl⟩ (fun b hb=>?_)⟩;rcases hb with hb|rfl|rfl|rfl|rfl
 ·exact fL b hb
 ·exact frn
 ·exact np
 ·exact fi
 ·exact fb
theorem lf0(z:LF L LD0 b):b∈L.ds:=by
 rcases z with z|⟨n,hn,_⟩
 ·exact z
 ·cases hn
example jDU(cH cL cP cS cY eQ cJ cB tP:Addr):∀ (h:HAd) (cl pp:Addr) (path:Int),vs=[.ref h.x,.str "press",.ref cl,.int path,.ref pp,.int 1000000000,.int 32]->InH cH cL cB H h->H cl=some (.lst [.str "both"])->H pp=some (.dK (dI vG))->tW H tP->(∀ A pl H',(∀ b o,b≠h.pr->b≠h.pi->H b=some o->H' b=some o)->iY cH cL cP cS cY eQ cJ cB tP H' { h with A:=A,pl:=pl } LD0 [] none none [] ⟨0,0,0⟩->j7 cP cS cY H' A 0 0 []->(∀ b o,b∈oA { h with A:=A,pl:=pl }->H b=some o->b=h.pr\/b=h.pi\/b=h.rn\/b=h.bl)->Q .non H')->jDU cH cL cP cS cY eQ cJ cB tP:=0
example jGF:MtE 6 "add_printer" cQ ["self","name","can","path","papers","black","colour"] (jDU cQ yX yW yJ yV yG yQ yZ dJ):=by
 nomatch i5 T.p93,["self","name","can","path","papers","black","colour"]
 obtain⟨h,cl,pp,path,rfl,I,oY,hpp,tab,q⟩:=h;exists _,(eE (iK (sR (xX hu (pv 1) (fH (pv 0) rfl))) (eI mV) iM) (eE (tH hu (fH (pv 0) rfl) (pv 1) (jEh (jPa T) hr.m rfl (dN (pv 1) (dN (pv 2) (dN (pv 3) (dN (pv 4) (dN (pv 5) (dN (pv 6) dZ))))))) rfl) (eI (tH hu (fH (pv 0) rfl) (pv 1) (oQ dZ) rfl))))
 refine⟨_,rfl,_,rfl,h.x,cQ,h.dx,_,_,rfl,I.o,T.ac,T.aJ,rfl,h.pr,_,rfl,mM.k (k:=Sum.inr "press") I.p,_,rfl,hV ?_⟩;refine⟨_,rfl,_,rfl,_,rfl,_,rfl,_,rfl,_,rfl,fun x dx nx nd ne=>⟨x,dx,cl,pp,path,rfl,eO,?_,?_,fun A H1 k1 ea _ P1 f1 f2 f3=>⟨rfl,?_⟩⟩⟩
 ·rw [eJ (gM oY nx),eJ (gM oY nd)];exact oY
 ·rw [eJ (gM hpp nx),eJ (gM hpp nd)];exact hpp
 have s1:=jB7 nx nd k1;have fr:∀ {b},upd (upd H dx (.own x)) x (.ins yW dx []) b=none->H b=none:=fun {b} z=>by
  cases e:H b with
  | none=>rfl
  | some o=>rw [eJ (gM e nx),eJ (gM e nd),e] at z;cases z
 replace f1:=fr f1;replace f2:=fr f2;replace f3:=fr f3;subst ea;have I1:=I.same s1;refine⟨_,rfl,h.x,cQ,h.dx,_,_,rfl,I1.o,T.ac,T.aJ,rfl,_,rfl,h.pr,_,rfl,wO.k (k:=Sum.inr "press") I1.p (kZ (by show 0<=1000;decide)),?_⟩;have k2:∀ b o,b≠h.pr->H1 b=some o->upd H1 h.pr (.dK (dG Sum.inr V.ref [("press",A.x)])) b=some o:=fun b o n e=>by rw [eJ n];exact e
 have qZ:upd H1 h.pr (.dK (dG Sum.inr V.ref [("press",A.x)])) h.pr=some (.dK (dG Sum.inr V.ref [("press",A.x)])):=eO;rw [show oU ([]:List (Key×V)) (Sum.inr "press") (.ref A.x)=dG Sum.inr V.ref [("press",A.x)] from rfl];generalize upd H1 h.pr _=H2 at k2 qZ ⊢;have wV:=k2 _ _ I.n3 I1.i;have ho2:=k2 _ _ (fN I1.o I1.p nofun) I1.o;refine⟨small (d9 _),fun l nl=>⟨_,rfl,h.x,cQ,h.dx,_,_,rfl,iS nl _ _ _ ho2,T.ac,T.bC,rfl,_,rfl,h.pi,_,rfl,wO.k (k:=Sum.inr "press") (iS nl _ _ _ wV) (kZ (by show 0<=1000;decide)),?_⟩⟩;have s3:=iS nl (.lst []);have q8:upd H2 l (.lst []) l=some (.lst []):=eO;replace wV:=s3 _ _ wV;generalize upd H2 l _=H3 at s3 wV q8 ⊢;rw [show oU ([]:List (Key×V)) (Sum.inr "press") (.ref l)=dG Sum.inr V.ref [("press",l)] from rfl];have k4:∀ b o,b≠h.pi->H3 b=some o->upd H3 h.pi (.dK (dG Sum.inr V.ref [("press",l)])) b=some o:=fun b o n e=>by rw [eJ n];exact e
 have hi4:upd H3 h.pi (.dK (dG Sum.inr V.ref [("press",l)])) h.pi=some (.dK (dG Sum.inr V.ref [("press",l)])):=eO;generalize upd H3 h.pi _=H4 at k4 hi4 ⊢;have k0:∀ b o,b≠h.pr->b≠h.pi->H1 b=some o->H4 b=some o:=fun b o n1 n2 e=>k4 b o n2 (s3 _ _ (k2 b o n1 e));have kn:∀ b o,(∀ k,o≠.dK k)->H1 b=some o->H4 b=some o:=fun b o n e=>k0 b o (fN e I1.p (n _)) (fN e I1.i (n _)) e;have c4:oR H1 H4:=fun b o c e=>kn b o c.nd e;have nn:∀ {a b:Addr} {o:HO},H a=none->H b=some o->b≠a:=fun z e=>gM e z;have nl1:H1 l=none:=by
  cases e:H1 l with
  | none=>rfl
  | some o =>
    by_cases w:l=h.pr
    ·rw [w,qZ] at nl;cases nl
    ·rw [k2 _ _ w e] at nl;cases nl
 have n1l:∀ {b:Addr} {o:HO},H1 b=some o->b≠l:=fun e=>gM e nl1;have ds:∀ {b},b∈h.L.ds->∃ o,H b=some o:=fun hb=>by
  rcases jGY I.N (.inl hb) with⟨k,e⟩|⟨k,e⟩<;>exact⟨_,e⟩
 have P4:j7 yW yJ yV H4 A 0 0 []:=⟨P1.k.cs c4,k0 _ _ (symm (nn f2 I.p)) (symm (nn f2 I.i)) P1.t,k0 _ _ (symm (nn f3 I.p)) (symm (nn f3 I.i)) P1.i,kn _ _ (by intro k z;cases z) P1.l,P1.n⟩
 refine q A l H4 (fun b o n1 n2 e=>k0 b o n1 n2 (s1 _ _ e)) ⟨kn _ _ (by intro k z;cases z) I1.o,kn _ _ (by intro k z;cases z) I1.k,k4 _ _ (symm I.n3) (s3 _ _ qZ),hi4,k0 _ _ (symm I.n1) (symm I.n2) I1.r,⟨0,0,P4,Int.le_refl 0,Int.le_refl 0⟩,⟨[],k4 _ _ (fN q8 wV nofun) q8,Nat.le_refl 0⟩,⟨[],kn _ _ (by intro k z;cases z) I1.b,Nat.le_refl 0⟩,I1.N.csL c4 (fun b o z e=>k0 b o (fun w=>I.n4 (w ▸ lf0 z)) (fun w=>I.n5 (w ▸ lf0 z)) e),fun p hp=>(by cases hp),?_,gR,rfl,gR,?_,?_,fun p hp=>(by cases hp),fun _=>rfl,fun n z=>(by cases z),rfl⟩ P4 ?_
 ·exact tW.of (tP:=dJ) (tab.same s1) fun b o _ n _ e=>kn b o n e
 ·show [h.pr,h.pi,h.rn,A.T.m,A.I.m,A.il,l,h.bl].Nodup;have t1:H1 A.T.m=_:=P1.t;have t2:H1 A.I.m=_:=P1.i;have t3:H1 A.il=_:=P1.l;simp only [fF,dX,fU,or_false,not_or,not_false_eq_true,gR,and_true];exact⟨⟨symm I.n3,I.n1,nn f2 I.p,nn f3 I.p,nn f1 I.p,n1l I1.p,fN I.p I.b nofun⟩,⟨I.n2,nn f2 I.i,nn f3 I.i,nn f1 I.i,n1l I1.i,fN I.i I.b nofun⟩,⟨nn f2 I.r,nn f3 I.r,nn f1 I.r,n1l I1.r,fN I.r I.b nofun⟩,⟨P1.n,fN t1 t3 nofun,n1l t1,symm (nn f2 I.b)⟩,⟨fN t2 t3 nofun,n1l t2,symm (nn f3 I.b)⟩,⟨n1l t3,symm (nn f1 I.b)⟩,symm (n1l I1.b)⟩
 ·intro y hy z;have hz:=lf0 z;obtain⟨o,eo⟩:=ds hz;unfold oA at hy;simp only [dX,fU,or_false] at hy;rcases hy with rfl|rfl|rfl|rfl|rfl|rfl|rfl|rfl
  ·exact I.n4 hz
  ·exact I.n5 hz
  ·exact I.n6 hz
  ·rw [f2] at eo;cases eo
  ·rw [f3] at eo;cases eo
  ·rw [f1] at eo;cases eo
  ·exact n1l (s1 _ _ eo) rfl
  ·rcases jGY I.N z with⟨k,e⟩|⟨k,e⟩
   ·have e':H h.bl=_:=e;rw [I.b] at e';cases e'
   ·unfold LA.ds at hz;simp only [dX,fU,or_false] at hz;have hb:=I.b;rcases hz with w|w|w|w|w|w|w|w
    ·exact fN hb I.N.ra nofun w
    ·exact fN hb I.N.sh nofun w
    ·exact fN hb I.N.lv nofun w
    ·exact fN hb I.N.ma nofun w
    ·exact fN hb I.N.ow nofun w
    ·exact fN hb I.N.co nofun w
    ·exact fN hb I.N.no nofun w
    ·exact fN hb I.N.qu nofun w
 ·intro y o hy eo;unfold oA at hy;simp only [dX,fU,or_false] at hy;rcases hy with rfl|rfl|rfl|rfl|rfl|rfl|rfl|rfl
  ·exact .inl rfl
  ·exact .inr (.inl rfl)
  ·exact .inr (.inr (.inl rfl))
  ·exact absurd rfl (nn f2 eo)
  ·exact absurd rfl (nn f3 eo)
  ·exact absurd rfl (nn f1 eo)
  ·exact absurd rfl (n1l (s1 _ _ eo))
  ·exact .inr (.inr (.inr rfl))
noncomputable def askD(D:LD)(n:Str)(r s:Int):LD:={ D with ra:=hJ D.ra n r,sh:=hJ D.sh n s,lv:=hJ D.lv n 0 }
example jEU(cH cL cP cS cY eQ cJ cB tP:Addr):∀ (h:HAd) (D:LD) (rs:List (Str×RU)) (cu:Option Str) (ts:List V) (F:Fu) (n:Str) (r s:Int),vs=[.ref h.x,.str n,.int r,.int s]->iY cH cL cP cS cY eQ cJ cB tP H h D rs cu none ts F->D.Z->(¬ n∈kys D.ra)->(∀ H',iY cH cL cP cS cY eQ cJ cB tP H' h (askD D n r s) rs cu none ts F->HFr tP h D H H'->Q .non H')->jEU cH cL cP cS cY eQ cJ cB tP:=0
example jHZ:MtE 2 "add_asker" cQ ["self","name","rank","share"] (jEU cQ yX yW yJ yV yG yQ yZ dJ):=by
 nomatch i5 T.p94,["self","name","rank","share"]
 obtain⟨h,D,rs,cu,ts,F',n,r,s',rfl,A,Z,hn,q⟩:=h;exists _,(eI (jU (iX 1 gA hr.m (fH (pv 0) rfl) (dN (pv 1) (dN (pv 2) (dN (pv 3) dZ))))))
 refine⟨_,rfl,h.x,cQ,h.dx,_,_,rfl,A.o,T.ac,T.aB,rfl,h.L.x,_,h.L.dx,_,_,_,rfl,A.N.o,rfl,T.ae,(jHS T),_,rfl,_,rfl,_,rfl,h.L,D,n,r,s',rfl,A.N,Z,hn,fun H1 o1 N1=>?_⟩;obtain⟨A1,f1⟩:=A.line (ex':=none) (fun b o _ n2 e=>o1 b o n2 e) N1 (jJu A.N A.tab o1) (fun b o z _=>z) rfl A.s A.q;exact q H1 A1 f1
noncomputable abbrev mE:=Str×Addr×List Str
noncomputable def kA(ws:List mE):List Str:=ws.map (·.1)
noncomputable def wD(ws:List mE):List (Key×V):=ws.map fun r=>(Sum.inr r.1,V.ref r.2.1)
noncomputable def sD(xs:List Str):List (Key×V):=xs.map fun x=>(Sum.inr x,V.bl true)
structure wQ(H:Hp)(a:Addr)(ws:List mE):Prop where
 d:Rd H a (.dK (wD ws))
 l:∀ r∈ws,H r.2.1=some (.lst (r.2.2.map V.str))
 nd:(kA ws).Nodup
 n:ws.length<=60
 m:∀ r∈ws,r.2.2.length<=20
theorem Rd.same(h:Rd H a u)(k:eR H H'):Rd H' a u:=h.imp (fun e=>k _ _ e) fun⟨o,e⟩=>⟨o,k _ _ e⟩
theorem wQ.same(h:wQ H a ws)(k:eR H H'):wQ H' a ws:={ h with d:=Rd.same h.d k,l:=fun r hr=>k _ _ (h.l r hr) }
noncomputable def t6(ws:List mE)(E F:List Str)(o:Str):Bool:=decide (o∈E)||(decide (o∈kA ws) && !decide (o∈F))
noncomputable def vC(ws:List mE)(E F l:List Str):Option Str:=l.find? (t6 ws E F)
noncomputable def optS:Option Str->V
 | some o=>.str o
 | none=>.non
inductive Der(ws:List mE)(E:List Str):Str->Prop
 | mk (r:mE):r∈ws->(∀ o∈r.2.2,¬ o∈E)->(∀ o∈r.2.2,o∈kA ws->Der ws E o)->Der ws E r.1
structure Par(ws:List mE)(E F:List Str):Prop where
 sub:∀ n∈F,n∈kA ws
 nd:F.Nodup
 der:∀ n∈F,Der ws E n
noncomputable def Fix(ws:List mE)(E F:List Str):Prop:=∀ r∈ws,¬ r.1∈F->vC ws E F r.2.2≠none
theorem jH0(h:vC ws E F l=none):∀ o∈l,¬ o∈E/\(o∈kA ws->o∈F):=fun o ho=>by
 have h1:=find?_eq_none.mp h o ho;unfold t6 at h1
 grind
theorem jLE(h:vC ws E F l=some o):o∈l/\(o∈E\/(o∈kA ws/\¬ o∈F)):=by
 have h1:=List.find?_some h;unfold t6 at h1;simp only [pV,decide_eq_true_eq,eK,lH,decide_eq_false_iff_not] at h1;exact⟨List.mem_of_find?_eq_some h,h1⟩
theorem Par.add(h:Par ws E F)(hr:r∈ws)(nr:¬ r.1∈F)(b:vC ws E F r.2.2=none):Par ws E (F++[r.1]) where
 sub:=fun n hn=>by
  rcases eN.mp hn with z|z
  ·exact h.sub n z
  ·rw [mem_singleton.mp z];exact dR.mpr ⟨r,hr,rfl⟩
 nd:=by
  refine iI.mpr ⟨h.nd,fF.mpr ⟨fU,gR⟩,fun a ha c hc e=>?_⟩
  grind
 der:=fun n hn=>by
  rcases eN.mp hn with z|z
  ·exact h.der n z
  ·rw [mem_singleton.mp z];exact .mk r hr (fun o ho=>(jH0 b o ho).1) fun o ho hm=>h.der o ((jH0 b o ho).2 hm)
theorem jG1(h:Par ws E F)(f:Fix ws E F)(n:Str):n∈F ↔ Der ws E n:=by
 refine⟨h.der n,fun d=>?_⟩;induction d with
 | mk r hr h1 _ ih =>
   refine Classical.byContradiction fun z=>?_;cases e:vC ws E F r.2.2 with
   | none=>exact f r hr z e
   | some o =>
     obtain⟨ho,y⟩:=jLE e
     grind
theorem jLF:∀ {F L:List Str},F.Nodup->(∀ x∈F,x∈L)->F.length<=L.length
 | [],_,_,_=>d9 _
 | x::F,L,nd,h=>by
   obtain⟨n1,n2⟩:=fF.mp nd;have hx:=h x eD;have q:=jLF (F:=F) (L:=L.erase x) n2 fun y hy=>(List.mem_erase_of_ne (fun e=>n1 (by rw [<- e];exact hy))).mpr (h y (eG _ hy));rw [List.length_erase_of_mem hx] at q;have:=List.length_pos_of_mem hx;rw [fC];omega
theorem Par.len(h:Par ws E F):F.length<=ws.length:=by
 have:=jLF h.nd h.sub;unfold kA at this;rw [c7] at this;exact this
structure Pass(ws:List mE)(E F0:List Str)(i:Nat)(F:List Str):Prop where
 par:Par ws E F
 or:(F=F0/\∀ (j:Nat) r,j<i->ws[j]?=some r->¬ r.1∈F0->vC ws E F0 r.2.2≠none)\/F0.length<F.length
 fx:Fix ws E F0->F=F0
theorem Pass.start(h:Par ws E F0):Pass ws E F0 0 F0:=⟨h,.inl ⟨rfl,fun j r hj=>absurd hj (Nat.not_lt_zero _)⟩,fun _=>rfl⟩
theorem Pass.skip(h:Pass ws E F0 i F)(hr:ws[i]?=some r)(k:r.1∈F\/vC ws E F r.2.2≠none):Pass ws E F0 (i+1) F:=by
 refine⟨h.par,h.or.imp (fun⟨e,g⟩=>⟨e,fun j r' hj uA nr=>?_⟩) id,h.fx⟩;by_cases c:j<i
 ·exact g j r' c uA nr
 ·obtain rfl:j=i:=by omega
  obtain rfl:r=r':=Option.some.inj (hr.symm.trans uA)
  grind
theorem Pass.add(h:Pass ws E F0 i F)(hr:ws[i]?=some r)(nr:¬ r.1∈F)(b:vC ws E F r.2.2=none):Pass ws E F0 (i+1) (F++[r.1]):=by
 have mem:=mem_of_getElem? hr;refine⟨h.par.add mem nr b,.inr ?_,fun f=>?_⟩
 ·rw [length_append];show F0.length<F.length+1;rcases h.or with⟨e,_⟩|e
  ·rw [e];exact jP _
  ·omega
 ·have e:=h.fx f;rw [e] at nr b;exact absurd b (f r mem nr)
theorem Pass.done(h:Pass ws E F0 ws.length F):(F=F0/\Fix ws E F)\/F0.length<F.length:=h.or.imp (fun⟨e,g⟩=>⟨e,fun r hr nr=>by
 obtain⟨j,hj⟩:=mem_iff_getElem?.mp hr;rw [e] at nr ⊢
 exact g j r (List.getElem?_eq_some_iff.mp hj).1 hj nr⟩) id
theorem jLG{l:List (Key×V)}{k:Key}(h:∀ p∈l,p.1≠k):lI l k=none:=by
 unfold lI;rw [find?_eq_none.mpr fun p hp=>by rw [decide_eq_false (h p hp)];decide];rfl
theorem jGG:(lI (sD F) (Sum.inr n)).isSome=decide (n∈F):=by
 by_cases c:n∈F
 ·rw [decide_eq_true c];induction F with
  | nil=>cases c
  | cons x F ih =>
    unfold lI sD;rw [eW,find?_cons];by_cases e:x=n
    ·rw [e,decide_eq_true rfl];rfl
    ·rw [decide_eq_false (fun z=>e (by injection z))];rcases dX.mp c with z|z
     ·exact absurd z.symm e
     ·exact ih z
 ·rw [decide_eq_false c,jLG fun p hp=>?_]
  ·rfl
  ·obtain⟨x,hx,rfl⟩:=dR.mp hp
   grind
theorem jGH:∀ {ws:List mE} {r:mE},(kA ws).Nodup->r∈ws->lI (wD ws) (Sum.inr r.1)=some (.ref r.2.1)
 | [],_,_,h=>by cases h
 | s::ws,r,nd,h=>by
   obtain⟨n1,n2⟩:=fF.mp nd;unfold lI wD;rw [eW,find?_cons];by_cases e:s.1=r.1
   ·rw [e,decide_eq_true rfl];rcases dX.mp h with z|z
    ·rw [z];rfl
    ·exact absurd (dR.mpr ⟨r,z,e.symm⟩) n1
   ·rw [decide_eq_false (fun z=>e (by injection z))];rcases dX.mp h with z|z
    ·exact absurd (congrArg (·.1) z.symm) e
    ·exact jGH n2 z
theorem jPh(nd:(kA ws).Nodup):(lI (wD ws) (Sum.inr n)).isSome=decide (n∈kA ws):=by
 by_cases c:n∈kA ws
 ·obtain⟨r,hr,rfl⟩:=dR.mp c;rw [decide_eq_true c,jGH nd hr];rfl
 ·rw [decide_eq_false c,jLG fun p hp=>?_]
  ·rfl
  ·obtain⟨r,hr,rfl⟩:=dR.mp hp;exact fun z=>c (dR.mpr ⟨r,hr,by injection z⟩)
theorem put_sD(h:¬ n∈F):oU (sD F) (Sum.inr n) (.bl true)=sD (F++[n]):=by
 rw [jFs (by
  intro z;obtain⟨p,hp,e⟩:=dR.mp z;obtain⟨x,hx,rfl⟩:=dR.mp hp
  grind)]
 unfold sD;rw [eB];rfl
theorem vH(h:Rd H a (.dK kvs))(n:Str):mM H a (.str n) (lI kvs (Sum.inr n)):=.inl ⟨kvs,Sum.inr n,h,rfl,rfl⟩
theorem jPi(h:∀ x∈l.take i,t6 ws E F x=false)(e:l[i]?=some o)(b:t6 ws E F o=true):vC ws E F l=some o:=by
 unfold vC;rw [<- List.take_append_drop i l,List.find?_append,find?_eq_none.mpr fun x hx=>by rw [h x hx];decide];have hi:=(List.getElem?_eq_some_iff.mp e).1;rw [List.drop_eq_getElem_cons hi,find?_cons];have e2:l[i]=o:=by
  grind
 rw [e2,b];rfl
theorem bar_no(h:∀ x∈l,t6 ws E F x=false):vC ws E F l=none:=find?_eq_none.mpr fun x hx=>by rw [h x hx];decide
theorem jLH{ws:List mE}{E F l:List Str}{i:Nat}{o:Str}(h:∀ x∈l.take i,t6 ws E F x=false)(e:l[i]?=some o)(b:t6 ws E F o=false):∀ x∈l.take (i+1),t6 ws E F x=false:=fun x hx=>by
 rw [fZ,e] at hx;rcases eN.mp hx with z|z
 ·exact h x z
 ·rw [mem_singleton.mp z];exact b
example jGI(K:PySem.W.Frag):∀ (wa ea fa:Addr) (ws:List mE) (E F:List Str) (r:mE),vs=[.str r.1,.ref wa,.ref ea,.ref fa]->wQ H wa ws->Rd H ea (.dK (sD E))->Rd H fa (.dK (sD F))->r∈ws->Q (optS (vC ws E F r.2.2)) H->jGI K:=0
example jHt:Dfn 1 "first_bar" ["name","waits","ends","free"] (jGI K):=by
 nomatch mJ T.e T.p90,["name","waits","ends","free","other"]
 obtain⟨wa,ea,x8,ws,E',F',r,rfl,W,he,hf,uA,q⟩:=h;exists _,(eE (nY PassesOwn.never rfl (oW (dgA hu (pv 1) (pv 0))) (pgA (i:=4) nZ) (eI (iK (PW.pt (wP (sR (xX hu (pv 4) (pv 2))) (y6 (PW.pt (jD6 (sR (xX hu (pv 4) (pv 1))) (jDk (sR (jBQ hu (pv 4) (pv 3))))))))) (eI (gB (pv 4))) iM))) (eI (gB m3)))
 have g:=vH W.d r.1;rw [jGH W.nd uA] at g;have hl:=W.l r uA;exists _,rfl,_,rfl,wa,_,rfl,g,r.2.1,rfl,⟨_,SqL.of hl⟩
 refine vM (K:=K) (a:=r.2.1) (xs:=r.2.2.map V.str) (fun i σ H'=>H'=H/\(∃ v4,σ=[some (.str r.1),some (.ref wa),some (.ref ea),some (.ref x8),v4])/\∀ o∈r.2.2.take i,t6 ws E' F' o=false) ⟨rfl,⟨_,rfl⟩,fun o ho=>by rw [List.take_zero] at ho;cases ho⟩ (fun i σ H' _ z=>?_) (fun i y σ H' hy z=>?_) (fun σ H' z=>?_)
 ·rw [z.1];exact SqL.of hl
 ·obtain⟨rfl,⟨v4,rfl⟩,hb⟩:=z;rw [getElem?_map] at hy;obtain⟨o,eo,rfl⟩:=dW.mp hy;exists _,rfl,_,rfl,ea,_,rfl,vH he o,_,rfl;rw [jGG];by_cases c1:o∈E'
  ·rw [decide_eq_true c1];rw [jPi hb eo (by unfold t6;rw [decide_eq_true c1];rfl)] at q;exact kL (kL ⟨_,rfl,q⟩)
  rw [decide_eq_false c1];refine hV ⟨_,rfl,_,rfl,wa,_,rfl,vH W.d o,_,rfl,?_⟩;rw [jPh W.nd];by_cases c2:o∈kA ws
  ·rw [decide_eq_true c2];refine kL ⟨_,rfl,_,rfl,x8,_,rfl,vH hf o,_,rfl,?_⟩;rw [jGG];by_cases c3:o∈F'
   ·rw [decide_eq_true c3];exact hV ⟨rfl,⟨_,rfl⟩,jLH hb eo (by unfold t6;grind)⟩
   ·rw [decide_eq_false c3];rw [jPi hb eo (by unfold t6;rw [decide_eq_false c1,decide_eq_true c2,decide_eq_false c3];rfl)] at q;exact kL ⟨_,rfl,q⟩
  ·rw [decide_eq_false c2];exact hV (hV ⟨rfl,⟨_,rfl⟩,jLH hb eo (by unfold t6;grind)⟩)
 ·obtain⟨rfl,_,hb⟩:=z;rw [c7,h9] at hb;rw [bar_no hb] at q;exact q
theorem jED(W:wQ H wa ws)(t8:H wa=some (.dK (wD ws)))(sm:eR (upd H wa (.frz o (.dK (wD ws)))) G):wQ G wa ws/\(∀ b v,b≠wa->H b=some v->G b=some v)/\G wa=some (.frz o (.dK (wD ws)))/\eR H (upd G wa (.dK (wD ws))):=by
 have k:∀ b v,b≠wa->H b=some v->G b=some v:=fun b v nb e=>sm _ _ (by rw [eJ nb];exact e);have f:=sm _ _ (eO (H:=H) (a:=wa) (o:=.frz o (.dK (wD ws))));refine⟨{ W with d:=.inr ⟨o,f⟩,l:=fun r hr=>k _ _ (fN (W.l r hr) t8 nofun) (W.l r hr) },k,f,fun b v e=>?_⟩;by_cases hb:b=wa
 ·rw [hb,eO];rw [hb,t8] at e;exact e
 ·rw [eJ hb];exact k b v hb e
theorem jLI(sm:eR H H'):eR (upd H wa u) (upd H' wa u):=fun b v e=>by
 by_cases hb:b=wa
 ·rw [hb,eO] at e ⊢;exact e
 ·rw [eJ hb] at e ⊢;exact sm _ _ e
theorem wD_at{ws:List mE}{i:Nat}{y:V}(h:((wD ws).map fun p=>kV p.1)[i]?=some y):∃ r,ws[i]?=some r/\y=.str r.1:=by
 unfold wD at h;rw [dU,getElem?_map] at h;obtain⟨r,er,rfl⟩:=dW.mp h;exact⟨r,er,rfl⟩
theorem jPj:((wD ws).map fun p=>kV p.1).length=ws.length:=by
 unfold wD;rw [c7,c7]
example jI1(K:PySem.W.Frag):∀ (wa ea:Addr) (ws:List mE) (E:List Str),vs=[.ref wa,.ref ea]->wQ H wa ws->H wa=some (.dK (wD ws))->H ea=some (.dK (sD E))->wa≠ea->(∀ fa F H',eR H H'->H fa=none->H' fa=some (.dK (sD F))->Par ws E F->Fix ws E F->Q (.ref fa) H')->jI1 K:=0
example jPk:Dfn 2 "settled" ["waits","ends"] (jI1 K):=by
 nomatch mJ T.e T.p89,["waits","ends","free","known","name"]
 obtain⟨wa,ea,ws,E',rfl,W,t8,hea,nwe,q⟩:=h;exists _,(eE (psA (i:=2) nZ tZ) (eE (psA (i:=3) nZ (jGP jE1 fY)) (eE (jFm PassesOwn.never (tcA jEG (pv 3) (nK jDD rfl T.aj fK (dN (pv 2) dZ))) (eE (psA (i:=3) nZ (nK jDD rfl T.aj fK (dN (pv 2) dZ))) (eI (jDa (nY PassesOwn.never rfl (y3 (pv 0)) (pgA (i:=4) nZ) (eI (iK (PW.pt (jD6 (sR (jBQ hu (pv 4) (pv 2))) (jDk (tcA jC7 (jV (jHt T) hr.m rfl (dN (pv 4) (dN (pv 0) (dN (pv 1) (dN (pv 2) dZ))))) m3)))) (eI (tH hu (pv 2) (pv 4) o8 rfl)) iM))))))) (eI (gB (pv 2))))))
 refine fun f nf=>?_;generalize e9:upd H f _=H1;have s1:=nS nf e9;have hf:H1 f=some (.dK (sD [])):=nE e9;have nwf:wa≠f:=gM t8 nf;have nef:ea≠f:=gM hea nf;exists _,rfl,fun m σ H'=>∃ (F:List Str) (pE:Int) (v4:Option V),σ=[some (.ref wa),some (.ref ea),some (.ref f),some (.int pE),v4]/\eR H H'/\H' f=some (.dK (sD F))/\Par ws E' F/\pE<=(F.length:Int)/\-1<=pE/\(pE=(F.length:Int)->Fix ws E' F)/\m=(61-pE).toNat,⟨_,[],-1,_,rfl,s1,hf,⟨fun n hn=>absurd hn fU,gR,fun n hn=>absurd hn fU⟩,by decide,by decide,fun z=>absurd z (by decide),rfl⟩
 rintro m σ H' ⟨F',pE,v4,rfl,sm,hF,PF,k1,k2,kf,rfl⟩;have lF:(((sD F').length:Nat):Int)=(F'.length:Int):=by unfold sD;rw [c7]
 have l60:=PF.len;have n60:=W.n;exists _,rfl,_,rfl,f,_,rfl,hF,_,_,rfl,rfl,_,rfl;rw [lF];refine ite2 (fun c=>?_) (fun c=>?_)
 ·have c':pE<(F'.length:Int):=of_decide_eq_true c;exists fun σ' H''=>∃ (F:List Str) (v4:Option V),σ'=[some (.ref wa),some (.ref ea),some (.ref f),some (.int (F'.length:Int)),v4]/\eR H H''/\H'' f=some (.dK (sD F))/\Par ws E' F/\F'.length<=F.length/\(F'.length=F.length->Fix ws E' F),fun σ' H''=>?_
  ·rintro⟨F,v4,rfl,sm2,hF2,PF2,l2,fx⟩;exact⟨(61-(F'.length:Int)).toNat,by omega,F,_,v4,rfl,sm2,hF2,PF2,by omega,by omega,fun z=>fx (by omega),rfl⟩
  exists _,rfl,f,_,rfl,hF;rw [lF];refine⟨wa,_,sm _ _ t8,fun o=>?_⟩;have sB:eR (upd H wa (.frz o (.dK (wD ws)))) (upd H' wa (.frz o (.dK (wD ws)))):=jLI sm;have hf2:upd H' wa (.frz o (.dK (wD ws))) f=some (.dK (sD F')):=by rw [eJ (symm nwf)];exact hF
  exists _,rfl,wa,o,_,rfl,eO;generalize upd H' wa (.frz o (.dK (wD ws)))=G0 at sB hf2 ⊢;refine jFB (zA (H1:=upd H wa (.frz o (.dK (wD ws)))) eO) (fun i σ G=>∃ (F:List Str) (v4:Option V),σ=[some (.ref wa),some (.ref ea),some (.ref f),some (.int (F'.length:Int)),v4]/\eR (upd H wa (.frz o (.dK (wD ws)))) G/\G f=some (.dK (sD F))/\Pass ws E' F' i F) ⟨F',_,rfl,sB,hf2,Pass.start PF⟩ (fun i σ G z=>let ⟨_,_,_,z,_⟩:=z;z) (fun i y σ G hy z=>?_) (fun σ G z=>?_)
  ·obtain⟨F1,v4,rfl,sG,hG,Ps⟩:=z;obtain⟨r,er,rfl⟩:=wD_at hy;obtain⟨WG,kG,fG,_⟩:=jED W t8 sG;have mem:=mem_of_getElem? er;exists _,rfl,_,rfl,f,_,rfl,vH (.inl hG) r.1,_,rfl;rw [jGG];by_cases c1:r.1∈F1
   ·rw [decide_eq_true c1];exact hV (hV ⟨F1,_,rfl,sG,hG,Ps.skip er (.inl c1)⟩)
   rw [decide_eq_false c1];refine kL ⟨_,rfl,_,rfl,_,rfl,_,rfl,wa,ea,f,ws,E',F1,r,rfl,WG,.inl (kG _ _ (symm nwe) hea),.inl hG,mem,rfl,_,rfl,?_⟩;cases eb:vC ws E' F1 r.2.2 with
   | some x=>exact rY nofun ⟨F1,_,rfl,sG,hG,Ps.skip er (.inr (by rw [eb];intro z;cases z))⟩
   | none =>
     refine rW rfl ⟨_,rfl,_,rfl,f,_,rfl,wO.k (k:=Sum.inr r.1) hG (kZ (by unfold sD;rw [c7];have:=Ps.par.len;omega)),?_⟩;rw [put_sD c1];refine⟨F1++[r.1],_,rfl,fun b v e=>?_,eO,Ps.add er c1 eb⟩;have nb:b≠f:=fun z=>by
      rw [z,eJ (symm nwf),nf] at e;cases e
     rw [eJ nb];exact sG _ _ e
  ·obtain⟨F1,v4,rfl,sG,hG,Ps⟩:=z;rw [jPj] at Ps;obtain⟨WG,kG,fG,sE⟩:=jED W t8 sG;refine⟨fG,F1,_,rfl,sE,by rw [eJ (symm nwf)];exact hG,Ps.par,?_,fun e=>?_⟩
   ·rcases Ps.done with⟨e,_⟩|e
    ·rw [e];exact Nat.le_refl _
    ·omega
   ·rcases Ps.done with⟨_,f⟩|e'
    ·exact f
    ·omega
 ·have c':¬ pE<(F'.length:Int):=fun z=>c (decide_eq_true z);exact⟨_,rfl,q f F' H' sm nf hF PF (kf (by omega))⟩
noncomputable def Link(ws:List mE)(o p:Str):Prop:=∃ r∈ws,r.1=o/\p∈r.2.2
structure jDy(ws:List mE)(n:Str)(c:List Str):Prop where
 h0:c[0]?=some n
 nd:c.Nodup
 sub:∀ x∈c,x∈kA ws
 lk:∀ (k:Nat) o p,c[k]?=some o->c[k+1]?=some p->Link ws o p
noncomputable def xY(ws:List mE)(E:List Str)(n:Str)(c':List Str):Prop:=∃ c l,c'=c++[l]/\jDy ws n c/\(∀ o,c.getLast?=some o->Link ws o l)/\(l∈E\/l∈c)
theorem jDy.last(h:jDy ws n c):∃ d r,c=d++[r.1]/\r∈ws:=by
 have hc:c≠[]:=fun z=>by have:=h.h0;rw [z] at this;cases this
 have hm:=List.getLast_mem hc;obtain⟨r,hr,er⟩:=dR.mp (h.sub _ hm);exact⟨c.dropLast,r,by rw [er];exact (List.dropLast_concat_getLast hc).symm,hr⟩
theorem jDy.len(h:jDy ws n c):c.length<=ws.length:=by
 have:=jLF h.nd h.sub;unfold kA at this;rw [c7] at this;exact this
theorem jDy.more(h:jDy ws n (d++[r.1]))(hr:r∈ws)(ho:o∈r.2.2)(hm:o∈kA ws)(no:¬ o∈d++[r.1]):jDy ws n (d++[r.1]++[o]) where
 h0:=by rw [getElem?_append_left (by rw [length_append];exact Nat.succ_pos _)];exact h.h0
 nd:=iI.mpr ⟨h.nd,fF.mpr ⟨fU,gR⟩,fun a ha b hb e=>no (by grind)⟩
 sub:=fun x hx=>by
  rcases eN.mp hx with z|z
  ·exact h.sub x z
  ·rw [mem_singleton.mp z];exact hm
 lk:=fun k a b e1 e2=>by
  have hk:=(List.getElem?_eq_some_iff.mp e2).1;rw [length_append] at hk;have hk':k+1<(d++[r.1]).length+1:=hk;by_cases c:k+1<(d++[r.1]).length
  ·rw [getElem?_append_left (by omega)] at e1;rw [getElem?_append_left c] at e2;exact h.lk k a b e1 e2
  ·have ek:k+1=(d++[r.1]).length:=by omega
   rw [ek,getElem?_append_right (Nat.le_refl _),lR] at e2;rw [getElem?_append_left (by omega),length_append] at *;have ek2:k=d.length:=Nat.succ.inj ek;rw [ek2,getElem?_append_right (Nat.le_refl _),lR] at e1;have e1':r.1=a:=Option.some.inj e1;have e2':o=b:=Option.some.inj e2;exact⟨r,hr,e1',e2' ▸ ho⟩
example jFV(K:PySem.W.Frag):∀ (wa ea fa:Addr) (ws:List mE) (E F:List Str) (r:mE),vs=[.str r.1,.ref wa,.ref ea,.ref fa]->wQ H wa ws->Rd H ea (.dK (sD E))->Rd H fa (.dK (sD F))->r∈ws->(¬ r.1∈F)->Fix ws E F->(∀ l c H',eR H H'->H l=none->H' l=some (.lst (c.map V.str))->xY ws E r.1 c->c.length<=61->Q (.ref l) H')->jFV K:=0
example jLJ:Dfn 2 "chain_from" ["name","waits","ends","free"] (jFV K):=by
 nomatch mJ T.e T.p91,["name","waits","ends","free","chain","closed","link"]
 obtain⟨wa,ea,x8,ws,E',F',r,rfl,W,he,hf,uA,nr,fx,q⟩:=h;have z1:1<=dL:=small (by decide);exists _,(eE (psA (i:=4) nZ (oQ (dN (pv 0) dZ))) (eE (psA (i:=5) nZ o8) (eE (jFm PassesOwn.never (qM (mD (pv 5) (fun _=>rfl))) (eE (psA (i:=6) nZ (jV (jHt T) hr.m rfl (dN (ixA jCM (pv 4) (jGP jE1 fY)) (dN (pv 1) (dN (pv 2) (dN (pv 3) dZ)))))) (eE (psA (i:=5) nZ (pe_or (jKF (xX hu (pv 6) (pv 2))) (jCT (jCs jB4 (pv 6) (pv 4) rfl)))) (eI (jU (qV fE PySem.F.slot_list_append PySem.F.type_list_append zD (pv 4) (dN (pv 6) dZ))))))) (eI (gB (pv 4))))))
 refine⟨_,rfl,z1,fun ch yH=>?_⟩;generalize e9:upd H ch _=H1;have s1:=nS yH e9;have h1:H1 ch=some (.lst (([r.1]:List Str).map V.str)):=nE e9;refine⟨fun m σ H'=>∃ (c:List Str) (v6:Option V) (b:Bool),σ=[some (.str r.1),some (.ref wa),some (.ref ea),some (.ref x8),some (.ref ch),some (.bl b),v6]/\eR H H'/\H' ch=some (.lst (c.map V.str))/\((b=false/\jDy ws r.1 c/\(∀ x∈c,¬ x∈F')/\m=62-c.length)\/(b=true/\xY ws E' r.1 c/\c.length<=61/\m=0)),⟨_,[r.1],_,false,rfl,s1,h1,.inl ⟨rfl,⟨rfl,fF.mpr ⟨fU,gR⟩,fun x hx=>by rw [mem_singleton.mp hx];exact dR.mpr ⟨r,uA,rfl⟩,fun k o p h1 h2=>by cases h2⟩,fun x hx=>by rw [mem_singleton.mp hx];exact nr,rfl⟩⟩,?_⟩;rintro m σ H' ⟨c,v6,b,rfl,sm,hc,zz⟩;rcases zz with⟨rfl,Wk,nF,rfl⟩|⟨rfl,Ck,lc,rfl⟩
 ·refine⟨_,rfl,false,rfl,kL ?_⟩;obtain⟨d,r',rfl,r9⟩:=Wk.last;have l60:=Wk.len;have n60:=W.n;have W':=W.same sm;have he':=Rd.same he sm;have hf':=Rd.same hf sm;have nr':=nF r'.1 (dH _ (mem_singleton.mpr rfl));exists fun σ' H''=>∃ m',m'<62-(d++[r'.1]).length/\∃ (c:List Str) (v6:Option V) (b:Bool),σ'=[some (.str r.1),some (.ref wa),some (.ref ea),some (.ref x8),some (.ref ch),some (.bl b),v6]/\eR H H''/\H'' ch=some (.lst (c.map V.str))/\((b=false/\jDy ws r.1 c/\(∀ x∈c,¬ x∈F')/\m'=62-c.length)\/(b=true/\xY ws E' r.1 c/\c.length<=61/\m'=0)),fun σ' H'' z=>z;have zK:H' ch=some (.lst (d.map V.str++[V.str r'.1])):=by rw [hc,eB];rfl
  exists _,rfl,_,rfl,ch,_,_,_,rfl,rfl,SqL.of zK,jHx _ _,_,rfl,_,rfl,_,rfl,wa,ea,x8,ws,E',F',r',rfl,W',he',hf',r9;cases eb:vC ws E' F' r'.2.2 with
  | none=>exact absurd eb (fx r' r9 nr')
  | some o =>
    obtain⟨ho,y⟩:=jLE eb;have lnk:∀ a,(d++[r'.1]).getLast?=some a->Link ws a o:=fun a ha=>by
     rw [List.getLast?_append,List.getLast?_singleton] at ha;exact⟨r',r9,Option.some.inj ha,ho⟩
    have ap:(d++[r'.1]).map V.str++[optS (some o)]=(d++[r'.1]++[o]).map V.str:=by rw [eB (l₁:=d++[r'.1])];rfl
    have iv:inV (optS (some o)) ((d++[r'.1]).map V.str)=decide (o∈d++[r'.1]):=xZ;have ls:(d++[r'.1]++[o]).length=(d++[r'.1]).length+1:=by rw [length_append];rfl
    have sz:((d++[r'.1]).map V.str).length<dL:=kZ (by rw [c7];omega);have s3:eR H (upd H' ch (.lst ((d++[r'.1]++[o]).map V.str))):=tY yH sm _;exists _,rfl,_,rfl,ea,_,rfl,vH he' o;rw [jGG];by_cases c1:o∈E'
    ·rw [decide_eq_true c1];refine⟨true,rfl,kL ?_⟩;exists _,rfl,.inl ⟨rfl,_,SqL.of hc⟩,_,rfl,ch,_,_,rfl,rfl,hc,sz;rw [ap];exact⟨0,by omega,_,_,true,rfl,s3,eO,.inr ⟨rfl,⟨_,o,rfl,Wk,lnk,.inl c1⟩,by omega,rfl⟩⟩
    ·rw [decide_eq_false c1];obtain⟨y1,y2⟩:=y.resolve_left c1;refine⟨false,rfl,hV ⟨_,rfl,_,rfl,ch,_,rfl,.inl (SqL.of hc),rfl,sS _,?_⟩⟩;rw [if_neg (by decide),iv];exists _,rfl,.inl ⟨rfl,_,SqL.of hc⟩,_,rfl,ch,_,_,rfl,rfl,hc,sz;rw [ap];by_cases c2:o∈d++[r'.1]
     ·exact⟨0,by omega,_,_,true,by rw [decide_eq_true c2];rfl,s3,eO,.inr ⟨rfl,⟨_,o,rfl,Wk,lnk,.inr c2⟩,by omega,rfl⟩⟩
     ·refine⟨62-(d++[r'.1]++[o]).length,by omega,_,_,false,by rw [decide_eq_false c2];rfl,s3,eO,.inl ⟨rfl,Wk.more r9 ho y1 c2,fun x hx=>?_,rfl⟩⟩;rcases eN.mp hx with z|z
      ·exact nF x z
      ·rw [mem_singleton.mp z];exact y2
 ·exact⟨_,rfl,true,rfl,hV ⟨_,rfl,q ch c H' sm yH hc Ck lc⟩⟩
theorem jI2:∀ {l:List Str},l.Nodup->(l.map (Sum.inr:Str->Key)).Nodup
 | [],_=>gR
 | x::l,h=>by
   obtain⟨n1,n2⟩:=fF.mp h;refine fF.mpr ⟨fun z=>?_,jI2 n2⟩
   grind
noncomputable def dD(ds:List (Str×Addr)):List (Key×V):=ds.map fun r=>(Sum.inr r.1,V.ref r.2)
structure jPl(H0 H:Hp)(t:Addr)(ws:List mE)(E F:List Str)(ds:List (Str×Addr)):Prop where
 nt:H0 t=none
 d:H t=some (.dK (dD ds))
 k:ds.map (·.1)=(kA ws).filter fun n=>!decide (n∈F)
 l:∀ r∈ds,H0 r.2=none/\∃ c,H r.2=some (.lst (c.map V.str))/\xY ws E r.1 c/\c.length<=61
noncomputable def notF(F:List Str):V->Bool
 | .str n=>!decide (n∈F)
 | _=>true
theorem jG2:((wD ws).map fun p=>kV p.1)=(kA ws).map V.str:=by
 unfold wD kA;rw [dU,dU];rfl
theorem jMv{F ns:List Str}:(ns.map V.str).filter (notF F)=(ns.filter fun n=>!decide (n∈F)).map V.str:=by
 rw [i0];rfl
theorem jH1{H:Hp}{P:Str->Addr->Prop}:∀ (ns:List Str) (ys:List V),ys.length=ns.length->(∀ (i:Nat) x y,(ns.map V.str)[i]?=some x->ys[i]?=some y->∃ n t l,x=.str n/\y=.ref t/\H t=some (.tup [.str n,.ref l])/\P n l)->∃ ds:List (Str×Addr),ds.map (·.1)=ns/\(∀ r∈ds,P r.1 r.2)/\∀ (i:Nat) y r,ys[i]?=some y->ds[i]?=some r->∃ t,y=.ref t/\H t=some (.tup [.str r.1,.ref r.2])
 | [],ys,hl,_=>⟨[],rfl,fun r hr=>absurd hr fU,fun i y r _ e=>by cases e⟩
 | n::ns,[],hl,_=>by cases hl
 | n::ns,y::ys,hl,h=>by
   obtain⟨n',t,l,e1,e2,e3,e4⟩:=h 0 _ y rfl rfl;obtain rfl:n=n':=by injection e1
   obtain⟨ds,d1,d2,d3⟩:=jH1 ns ys (Nat.succ.inj hl) fun i x y ex ey=>h (i+1) x y ex ey;refine⟨(n,l)::ds,by rw [eW,d1],fun r hr=>?_,fun i y' r ey er=>?_⟩
   ·rcases dX.mp hr with z|z
    ·rw [z];exact e4
    ·exact d2 r z
   ·cases i with
    | zero =>
      obtain rfl:y=y':=Option.some.inj ey;obtain rfl:(n,l)=r:=Option.some.inj er;exact⟨t,e2,e3⟩
    | succ i=>exact d3 i y' r ey er
example jJ_(K:PySem.W.Frag):∀ (wa ga:Addr) (ws:List mE) (E:List Str),vs=[.ref wa,.ref ga]->wQ H wa ws->H wa=some (.dK (wD ws))->H ga=some (.lst (E.map V.str))->E.Nodup->E.length<=20->(∀ t F ds H',eR H H'->Par ws E F->Fix ws E F->jPl H H' t ws E F ds->Q (.ref t) H')->jJ_ K:=0
example jQg:Dfn 3 "doomed" ["waits","gone"] (jJ_ K):=by
 nomatch mJ T.e T.p88,["waits","gone","ends","free"]
 obtain⟨wa,ga,ws,E',rfl,W,t8,hga,ndE,lE,q⟩:=h;have z2:2<=dL:=small (by decide);exists _,(eE (psA (i:=2) nZ (rG (jB5 rfl) rfl T.av jCO (dN (rX (frees:=[]) ⟨by decide +kernel,rfl,rfl,by decide +kernel,trivial,by decide +kernel,oX rfl,rfl⟩ rfl (oW (pv 1)) (fun _ _ _ _=>vT) (fun _ _ _ _=>by exact (nL (dN (pv 0) (dN o8 dZ))))) dZ))) (eE (psA (i:=3) nZ (jV (jPk T) hr.m rfl (dN (pv 0) (dN (pv 2) dZ)))) (eI (gB (jIi (rG (jB5 rfl) rfl T.av jCO (dN (rX (frees:=[ ("waits",0) ,("ends",2) ,("free",3) ]) ⟨by decide +kernel,rfl,rfl,by decide +kernel,⟨⟨rfl,rfl,rfl,by decide +kernel⟩,⟨⟨rfl,rfl,rfl,by decide +kernel⟩,⟨⟨rfl,rfl,rfl,by decide +kernel⟩,trivial⟩⟩⟩,by decide +kernel,oX rfl,rfl⟩ rfl (y3 (pv 0)) (fun _ _ _ _=>by exact (vS (sR (jBQ hu (pv 0) (pv 3))))) (fun _ _ _ _=>by exact (nL (dN (pv 0) (dN (jV (jLJ T) hr.m rfl (dN (pv 0) (dN (pv 1) (dN (pv 2) (dN (pv 3) dZ))))) dZ))))) dZ)))))))
 exists _,rfl,ga,rfl,⟨_,SqL.of hga⟩
 refine jCk (vR (K:=K) (SqL.of hga)) (fun n y H'=>∃ t,y=.ref t/\H' t=some (.tup [n,.bl true])) (by rw [c7];exact kZ (by omega)) (fun x _ H' R _ rr=>rr) (fun n _ H' R _ rr=>⟨_,rfl,z2,fun t nt=>rr _ _ (iS nt _) ⟨fun z=>z=t,fun b hb=>by subst hb;exact⟨nt,_,eO⟩,fun H3 h3=>⟨t,rfl,by rw [h3 t rfl];exact eO⟩⟩⟩) (fun D H2 ys s2 nD hD ly gy=>?_);have ndk:((sD E').map (·.1)).Nodup:=by
  have e:(sD E').map (·.1)=E'.map (Sum.inr:Str->Key):=by
   unfold sD;rw [dU];rfl
  rw [e];exact jI2 ndE
 refine⟨D,ys,sD E',rfl,hD,?_,fun i y kv e1 e2=>?_,ndk,fun ea nea=>?_⟩
 ·rw [ly];unfold sD;rw [c7,c7]
 ·unfold sD at e2;rw [getElem?_map] at e2;obtain⟨n,en,rfl⟩:=dW.mp e2;obtain⟨t,rfl,ht⟩:=gy i (.str n) y (by rw [getElem?_map,en];rfl) e1;exact⟨t,rfl,SqT.of ht⟩
 generalize e9:upd H2 ea _=H3;have s3:=nS nea e9;have hea:=nE e9;have nX:=s2.trans s3;have nwe:wa≠ea:=gM (s2 _ _ t8) nea;refine⟨_,rfl,_,rfl,wa,ea,ws,E',rfl,W.same nX,nX _ _ t8,hea,nwe,fun x8 F' H4 s4 nfa hfa PF FF=>?_⟩;have s04:=nX.trans s4;have hwa4:=s04 _ _ t8;have nwf:wa≠x8:=gM (nX _ _ t8) nfa;refine⟨wa,_,hwa4,fun o=>⟨_,rfl,wa,o,_,rfl,eO,?_⟩⟩;have lw:((wD ws).map fun p=>kV p.1).length=ws.length:=jPj;have n60:=W.n;refine jC5 (zA eO) (notF F') (fun x y H5=>∃ n t l,x=.str n/\y=.ref t/\H5 t=some (.tup [.str n,.ref l])/\(H l=none/\∃ c,H5 l=some (.lst (c.map V.str))/\xY ws E' n c/\c.length<=61)) (by rw [lw];exact kZ (by omega)) (fun x hx G R sG rr=>?_) (fun x hx G R sG px rr=>?_) (fun D2 G ys2 sG nD2 nB ly2 gy2=>?_)
 ·obtain⟨WG,kG,fG,_⟩:=jED (W.same s04) hwa4 sG;rw [jG2] at hx;obtain⟨n,hn,rfl⟩:=dR.mp hx;have hfG:=kG _ _ (symm nwf) hfa;exists _,rfl,_,rfl,x8,_,rfl,vH (.inl hfG) n,_,rfl;rw [jGG];exact rr G (eR.refl _)
 ·obtain⟨WG,kG,fG,_⟩:=jED (W.same s04) hwa4 sG;rw [jG2] at hx;obtain⟨n,hn,rfl⟩:=dR.mp hx;obtain⟨r,r9,rfl⟩:=dR.mp hn;have nF:¬ r.1∈F':=fun z=>by
   have px':(!decide (r.1∈F'))=true:=px;rw [decide_eq_true z] at px';cases px'
  refine⟨_,rfl,_,rfl,_,rfl,_,rfl,_,rfl,wa,ea,x8,ws,E',F',r,rfl,WG,.inl (kG _ _ (symm nwe) (s4 _ _ hea)),.inl (kG _ _ (symm nwf) hfa),r9,nF,FF,fun l c G1 sm1 nl hl Ck lc=>⟨z2,fun t nt=>?_⟩⟩;have s2':=iS nt (.tup [V.str r.1,V.ref l]);have nl0:H l=none:=by
   cases e:H l with
   | none=>rfl
   | some v =>
     by_cases hb:l=wa
     ·rw [hb,fG] at nl;cases nl
     ·rw [kG _ _ hb (s04 _ _ e)] at nl;cases nl
  refine rr (.ref t) _ (sm1.trans s2') ⟨fun b=>b=t\/b=l,fun b hb=>?_,fun H5 h5=>⟨r.1,t,l,rfl,rfl,by rw [h5 t (.inl rfl)];exact eO,nl0,c,by rw [h5 l (.inr rfl)];exact s2' _ _ hl,Ck,lc⟩⟩;rcases hb with rfl|rfl
  ·exact⟨sm1.free nt,_,eO⟩
  ·exact⟨nl,_,s2' _ _ hl⟩
 ·obtain⟨WG,kG,fG,sE⟩:=jED (W.same s04) hwa4 sG;rw [jG2,jMv] at ly2 gy2;rw [c7] at ly2;obtain⟨ds,d1,d2,d3⟩:=jH1 (H:=G) (P:=fun n l=>H l=none/\∃ c,G l=some (.lst (c.map V.str))/\xY ws E' n c/\c.length<=61) _ ys2 ly2 gy2;have ldd:ys2.length=ds.length:=by rw [ly2,<- d1,c7]
  have ndd:((dD ds).map (·.1)).Nodup:=by
   have e:(dD ds).map (·.1)=(ds.map (·.1)).map (Sum.inr:Str->Key):=by
    unfold dD;rw [dU,dU];rfl
   rw [e,d1];exact jI2 (W.nd.sublist hU)
  refine⟨D2,ys2,dD ds,rfl,nB,?_,fun i y kv e1 e2=>?_,ndd,fun m nm'=>⟨?_,?_⟩⟩
  ·unfold dD;rw [c7];exact ldd
  ·unfold dD at e2;rw [getElem?_map] at e2;obtain⟨p,ep,rfl⟩:=dW.mp e2;obtain⟨t,rfl,ht⟩:=d3 i y p e1 ep;exact⟨t,rfl,SqT.of ht⟩
  ·rw [eJ (gM fG nm')];exact fG
  have nmw:wa≠m:=gM fG nm';have nm0:H m=none:=by
   cases e:H m with
   | none=>rfl
   | some v=>rw [kG _ _ (symm nmw) (s04 _ _ e)] at nm';cases nm'
  have fin:∀ b v,b≠wa->G b=some v->upd (upd G m (.dK (dD ds))) wa (.dK (wD ws)) b=some v:=fun b v nb e=>by rw [eJ nb,eJ (gM e nm')];exact e
  refine q m F' ds _ (fun b v e=>?_) PF FF ⟨nm0,by rw [eJ (symm nmw)];exact eO,d1,fun r hr=>?_⟩
  ·by_cases hb:b=wa
   ·rw [hb,eO];rw [hb,t8] at e;exact e
   ·exact fin b v hb (kG b v hb (s04 _ _ e))
  ·obtain⟨n0,c,hc,Ck,lc⟩:=d2 r hr;exact⟨n0,c,fin _ _ (fN hc fG nofun) hc,Ck,lc⟩
theorem jPm(hd:H1 d=some (.frz o (.dK kvs)))(p:Key×V->Bool)(hz:kvs.length<dL) 
 (hc:∀ x∈kvs,∀ (H':Hp) (R:Bool->Hp->Prop),eR H1 H'->(∀ H'',eR H' H''->R (p x) H'')->tc (σf (some (kV x.1)) (some x.2)) H' R)
 (he:∀ x∈kvs,∀ (H':Hp) (R:VK),R (kV x.1) H'->te (σf (some (kV x.1)) (some x.2)) H' R)
 (q:∀ D H',eR H1 H'->H1 D=none->H' D=some (.lst ((kvs.filter p).map fun x=>kV x.1))->Q (.ref D) H'):jIk K (Itm d o kvs) tc te σf H1 Q:=by
 intro D hD;exists fun i m ys H2=>m=kvs.length-i/\i<=kvs.length/\eR H1 H2/\H2 D=some (.lst ys)/\ys=((kvs.take i).filter p).map fun x=>kV x.1,⟨kvs.length,rfl,d9 _,iS hD _,eO,rfl⟩
 rintro i m ys H2 ⟨rfl,hi,sm,nB,rfl⟩;exists nB;by_cases j2:i<kvs.length
 ·refine .inr ⟨⟨sm _ _ hd,j2⟩,?_,fun z H3 y=>?_⟩
  ·rw [c7];exact gK (eM (eA _ _) (i7 _ _)) hz
  obtain⟨pa,k,v,rfl,np,rfl,ex⟩:=y;have s3:=iS np (.tup [kV k,v]);have mem:=mem_of_getElem? ex;have tk:kvs.take (i+1)=kvs.take i++[(k,v)]:=by rw [fZ,ex];rfl
  have hD3:=s3 _ _ nB;refine⟨pa,kV k,v,rfl,SqT.of eO,hc _ mem _ _ (sm.trans s3) fun H4 s4=>?_⟩;cases hp:p (k,v) with
  | true =>
    refine kL (he _ mem H4 _ ⟨s4 _ _ hD3,kvs.length-(i+1),by omega,rfl,j2,tY hD ((sm.trans s3).trans s4) _,eO,?_⟩);rw [tk,eZ,eB,gE,if_pos hp];rfl
  | false =>
    refine hV ⟨kvs.length-(i+1),by omega,rfl,j2,(sm.trans s3).trans s4,s4 _ _ hD3,?_⟩;rw [tk,eZ,gE,if_neg (by rw [hp];decide),hX,gQ]
 ·have e:i=kvs.length:=by omega
  subst e;rw [h9] at nB;exact .inl ⟨⟨sm _ _ hd,rfl⟩,q D H2 sm hD nB⟩
noncomputable def tL(rs:List (Str×RU)):List Str:=kys (rs.filter fun p=>p.2.br)
noncomputable def wtR(rs:List (Str×RU))(ds:List (Str×Addr)):List mE:=ds.map fun p=>(p.1,p.2,aw rs p.1)
theorem wt_nm:kA (wtR rs ds)=ds.map (·.1):=by
 unfold kA wtR;rw [dU];rfl
theorem wt_d:wD (wtR rs ds)=dD ds:=by
 unfold wD wtR dD;rw [dU];rfl
theorem jPn(h:∀ p∈rs,kK eQ cJ H A p.2)(n:Str):(aw rs n).length<=3:=by
 unfold aw;split
 ·rename_i r e
  exact awL_len (h _ (nQ e)) rs
 ·exact d9 _
example jHu(cH cL cP cS cY eQ cJ cB tP:Addr):∀ h D rs cu ts F,vs=[.ref h.x]->iY cH cL cP cS cY eQ cJ cB tP H h D rs cu none ts F->D.qu.length<=60->(kys D.qu).Nodup->rs.length<=20->(∀ t ws Fr ds H',eR H H'->kA ws=kys D.qu->(∀ r∈ws,r.2.2=aw rs r.1)->Par ws (tL rs) Fr->Fix ws (tL rs) Fr->jPl H H' t ws (tL rs) Fr ds->Q (.ref t) H')->jHu cH cL cP cS cY eQ cJ cB tP:=0
example jEE:MtE 6 "never" cQ ["self"] (jHu cQ yX yW yJ yV yG yQ yZ dJ):=by
 nomatch i5 T.p105,["self","waits","gone"]
 obtain⟨h,D,rs,cu,ts,F',rfl,A,lq,qn,lr,q⟩:=h;have z2:2<=dL:=small (by decide);exists _,(eE (psA (i:=1) nZ (rG (jB5 rfl) rfl T.av jCO (dN (rX (frees:=[ ("self",0) ]) ⟨by decide +kernel,rfl,rfl,by decide +kernel,⟨⟨rfl,rfl,rfl,by decide +kernel⟩,trivial⟩,by decide +kernel,oX rfl,rfl⟩ rfl (oW (kT 1 gA hr.m (fH (pv 0) rfl))) (fun _ _ _ _=>vT) (fun _ _ _ _=>by exact (nL (dN (pv 0) (dN (jCh (P:=P) (w:=w) (K:=K) (mg:=mg) (base:=base) ⟨rfl,rfl,rfl,rfl,rfl⟩ 5 gA hr.m (pv 1) (dN (pv 0) dZ)) dZ))))) dZ))) (eE (jDa (jK3 (i:=2) (frees:=[]) ⟨by decide +kernel,rfl,rfl,rfl,by decide +kernel,trivial,by decide +kernel,oX rfl,rfl⟩ nZ rfl rfl rfl (jPR (jOL (fH (pv 0) rfl))) (fun _ _ _ _=>by exact (vS (tcA jCr (jNo (P:=P) (w:=w) (K:=K) (mg:=mg) (base:=base) ⟨rfl,rfl,rfl,rfl,rfl⟩ 2 gA hr.m (pv 1)) m3))) (fun _ _ _ _=>by exact (pv 0)))) (eI (gB (jV (jQg T) hr.m rfl (dN (pv 1) (dN (pv 2) dZ)))))))
 refine⟨_,rfl,h.x,cQ,h.dx,_,_,rfl,A.o,T.ac,T.aB,rfl,h.L.x,_,h.L.dx,_,_,_,rfl,A.N.o,rfl,T.ae,(jDs T),h.L,D,rfl,A.N,fun l nl=>?_⟩;generalize e9:upd H l _=H1;have s1:=nS nl e9;have hl:=nE e9;have A1:=A.same s1;have lk:(kys D.qu).length=D.qu.length:=c7 _;exists l,rfl,⟨_,SqL.of hl⟩
 refine jCk (vR (K:=K) (SqL.of hl)) (fun x y H3=>∃ n t a,x=.str n/\y=.ref t/\H3 t=some (.tup [.str n,.ref a])/\H3 a=some (.lst ((aw rs n).map V.str))) (kZ (by rw [c7];omega)) (fun x _ H' R _ rr=>rr) (fun x hx G R sG rr=>?_) (fun C H2 ys s2 nC hC ly gy=>?_)
 ·obtain⟨n,hn,rfl⟩:=dR.mp hx;obtain⟨r,er⟩:=mO (A.mem hn);have AG:=A1.same sG;refine⟨_,rfl,_,rfl,h.x,_,h.dx,_,_,_,rfl,AG.o,rfl,T.ac,(jFh T),_,rfl,h,D,rs,cu,none,ts,F',n,r,rfl,AG,er,fun a G1 k1 na ha=>⟨z2,fun t nt=>?_⟩⟩;have k2:=iS nt (.tup [V.str n,V.ref a]);refine rr _ _ (k1.trans k2) ⟨fun b=>b=t\/b=a,fun b hb=>?_,fun H3 h3=>⟨n,t,a,rfl,rfl,by rw [h3 t (.inl rfl)];exact eO,by rw [h3 a (.inr rfl),zQ er];exact k2 _ _ ha⟩⟩;rcases hb with rfl|rfl
  ·exact⟨k1.free nt,_,eO⟩
  ·exact⟨na,_,k2 _ _ ha⟩
 rw [c7] at ly;obtain⟨ds,d1,d2,d3⟩:=jH1 (H:=H2) (P:=fun n a=>H2 a=some (.lst ((aw rs n).map V.str))) (kys D.qu) ys ly gy;have ldd:ys.length=ds.length:=by rw [ly,<- d1,c7]
 have ndd:((dD ds).map (·.1)).Nodup:=by
  have e:(dD ds).map (·.1)=(ds.map (·.1)).map (Sum.inr:Str->Key):=by
   unfold dD;rw [dU,dU];rfl
  rw [e,d1];exact jI2 qn
 refine⟨C,ys,dD ds,rfl,hC,by unfold dD;rw [c7];exact ldd,fun i y kv e1 e2=>?_,ndd,fun m nm=>?_⟩
 ·unfold dD at e2;rw [getElem?_map] at e2;obtain⟨p,ep,rfl⟩:=dW.mp e2;obtain⟨t,rfl,ht⟩:=d3 i y p e1 ep;exact⟨t,rfl,SqT.of ht⟩
 generalize e9:upd H2 m _=H3;have s3:=nS nm e9;have hm3:=nE e9;have nX:=(s1.trans s2).trans s3;have A3:=A.same nX;have lds:ds.length=D.qu.length:=by rw [<- lk,<- d1,c7]
 have W3:wQ H3 m (wtR rs ds):=⟨.inl (by rw [wt_d];exact hm3),fun r hr=>by
  obtain⟨p,hp,rfl⟩:=dR.mp hr;exact s3 _ _ (d2 p hp),by rw [wt_nm,d1];exact qn,by unfold wtR;rw [c7];omega,fun r hr=>by
  obtain⟨p,hp,rfl⟩:=dR.mp hr
  exact eM (jPn A.R p.1) (by decide)⟩
 refine⟨h.rn,_,A3.r,fun o=>?_⟩;have k4:∀ b u,b≠h.rn->H3 b=some u->upd H3 h.rn (.frz o (.dK (dG Sum.inr rP rs))) b=some u:=fun b u n e=>by rw [eJ n];exact e
 have hr4:upd H3 h.rn (.frz o (.dK (dG Sum.inr rP rs))) h.rn=some (.frz o (.dK (dG Sum.inr rP rs))):=eO;generalize upd H3 h.rn _=H4 at k4 hr4 ⊢;refine⟨_,rfl,h.x,cQ,h.dx,_,_,rfl,k4 _ _ (fN A3.o A3.r nofun) A3.o,T.ac,T.aq,rfl,h.rn,o,_,rfl,rfl,hr4,fun v nv=>?_⟩;generalize e9:upd H4 v _=H5;have s5:=nS nv e9;have hv:=nE e9;have k5:∀ b u,b≠h.rn->H3 b=some u->H5 b=some u:=fun b u n e=>s5 _ _ (k4 b u n e);have hr5:=s5 _ _ hr4;exists v,h.rn,o,_,rfl,hv,hr5;have ep:∀ p∈rs,(rs.any fun q=>decide (q.2.a=p.2.a)&&q.2.br)=p.2.br:=fun p hp=>by
  cases hb:p.2.br with
  | true=>exact j9.mpr ⟨p,hp,by rw [decide_eq_true rfl,hb];rfl⟩
  | false =>
    refine kJ.mpr fun q hq z=>?_;rw [eK] at z;have ea:=of_decide_eq_true z.1;obtain⟨i,hi⟩:=mem_iff_getElem?.mp hp;obtain⟨j,hj⟩:=mem_iff_getElem?.mp hq;by_cases ij:i=j
    ·subst ij;rw [hi] at hj;obtain rfl:=Option.some.inj hj;rw [hb] at z;cases z.2
    ·exact kP A.ra (i:=i) (j:=j) (by rw [getElem?_map,hi];rfl) (by rw [getElem?_map,hj];rfl) ij ea.symm
 refine jPm hr5 (fun x=>match x.2 with|.ref a=>rs.any fun p=>decide (p.2.a=a)&&p.2.br|_=>false) (by rw [jDd];exact kZ (by omega)) (fun x hx G R sG rr=>?_) (fun x hx G R rr=>⟨_,rfl,rr⟩) (fun C2 H6 s6 nC2 hC2=>?_)
 ·obtain⟨p,hp,rfl⟩:=dR.mp hx;have R3:=A3.R p hp;have c5:oR H3 G:=fun b u c e=>sG _ _ (k5 b u (fN e A3.r (c.nd _)) e);have RG:=R3.cs c5 (sG _ _ (k5 _ _ (fN R3.o A3.r nofun) R3.o));have rr':∀ H'',eR G H''->R p.2.br H'':=fun H'' s=>by
   have:=rr H'' s;rw [<- ep p hp];exact this
  refine⟨_,rfl,p.2.a,_,p.2.dx,_,_,_,rfl,RG.o,rfl,T.aa,(jIK T),h.A,p.2,rfl,RG,fun hb=>?_,fun hb t G2 s2=>?_⟩
  ·rw [hb] at rr';exact⟨rfl,_,rfl,rr' G (eR.refl _)⟩
  ·rw [hb] at rr';exact⟨rfl,_,rfl,rr' G2 s2⟩
 have eC:((dG Sum.inr rP rs).filter (fun x=>match x.2 with|.ref a=>rs.any fun p=>decide (p.2.a=a)&&p.2.br|_=>false)).map (fun x=>kV x.1)=(tL rs).map V.str:=by
  unfold tL kys dG;rw [i0,dU,dU];have e:rs.filter (fun p:Str×RU=>(fun x:Key×V=>match x.2 with|.ref a=>rs.any fun p=>decide (p.2.a=a)&&p.2.br|_=>false) (Sum.inr p.1,rP p.2))=rs.filter fun p=>p.2.br:=gO fun p hp=>ep p hp;exact congrArg (fun l:List (Str×RU)=>l.map fun p=>V.str p.1) e
 rw [eC] at hC2;have hr6:=s6 _ _ hr5;have s36:eR H3 (upd H6 h.rn (.dK (dG Sum.inr rP rs))):=jEN A3.r fun b u n e=>s6 _ _ (k5 b u n e);have hC7:upd H6 h.rn (.dK (dG Sum.inr rP rs)) C2=some (.lst ((tL rs).map V.str)):=by rw [eJ (fN hC2 hr6 nofun)];exact hC2
 exists hr6;generalize upd H6 h.rn _=H7 at s36 hC7 ⊢;have ndE:(tL rs).Nodup:=by
  unfold tL kys;exact Sublist.nodup (Sublist.map _ hU) A.nd
 have lE:(tL rs).length<=20:=by
  unfold tL kys;rw [c7];exact eM (eA _ _) lr
 refine⟨_,rfl,_,rfl,m,C2,wtR rs ds,tL rs,rfl,W3.same s36,by rw [wt_d];exact s36 _ _ hm3,hC7,ndE,lE,fun t Fr dd H8 s8 PF FF Tl=>?_⟩;refine q t (wtR rs ds) Fr dd H8 ((nX.trans s36).trans s8) (by rw [wt_nm,d1]) (fun r hr=>?_) PF FF ⟨(nX.trans s36).free Tl.nt,Tl.d,Tl.k,fun r hr=>let ⟨a,b⟩:=Tl.l r hr;⟨(nX.trans s36).free a,b⟩⟩;obtain⟨p,hp,rfl⟩:=dR.mp hr;rfl
noncomputable abbrev sfx:Str:=c9 "a1b2c3d4e5f"
theorem sfx_len:∀ j∈range 12,(Txt.slice sfx none (some (0+((j:Nat):Int)))).length<=11:=by decide +kernel
noncomputable def wJ(c:Nat):List Str:=(range 12).map fun j=>one c++Txt.slice sfx none (some ((j:Nat):Int))
theorem jQh:∀ c∈sN,(wJ c).length=12/\(∀ z∈wJ c,good z=true)/\(wJ c).Nodup:=by decide +kernel
theorem nmsA_ok(h:c∈sN):jGW (wJ c) 12:=let ⟨a,b,d⟩:=jQh c h;⟨a,b,d⟩
noncomputable def nmB(wd:List Nat)(p f j:Nat):Str:=⟨(wd.set p (97+(f+j)%26)).toArray⟩
noncomputable def jGJ(wd:List Nat)(p f m:Nat):List Str:=(range m).map (nmB wd p f)
theorem jQi(f j:Nat):97+(f+j)%26∈sN:=List.mem_range'.mpr ⟨(f+j)%26,Nat.mod_lt _ (by decide),by omega⟩
theorem nmsB_ok(hw:∀ c∈wd,c∈sN)(h1:1<=wd.length)(h2:wd.length<=12)(hp:p<wd.length):jGW (jGJ wd p f 12) 12:=by
 refine⟨by unfold jGJ;rw [c7,fD],fun z hz=>?_,?_⟩
 ·obtain⟨j,_,rfl⟩:=dR.mp hz;have all:∀ c∈wd.set p (97+(f+j)%26),c∈sN:=fun c hc=>by
   rcases List.mem_or_eq_of_mem_set hc with h|h
   ·exact hw c h
   ·rw [h];exact jQi f j
  have len:(nmB wd p f j).length=wd.length:=by
   rw [<- jEj];show (wd.set p _).length=_;rw [m7]
  have hd:(wd.set p (97+(f+j)%26)).headD 0∈sN:=by
   cases e:wd.set p (97+(f+j)%26) with
   | nil=>have:=congrArg List.length e;rw [m7] at this;have:wd.length=0:=this;omega
   | cons x r=>exact all x (by rw [e];exact eD)
  unfold good;rw [len,decide_eq_true (by omega),decide_eq_true (by omega)];show (true&&true&&decide ((wd.set p (97+(f+j)%26)).headD 0∈sN)&&(wd.set p (97+(f+j)%26)).all fun c=>decide (c∈sN++zN))=true;rw [decide_eq_true hd,gZ.mpr fun c hc=>decide_eq_true (eS _ (all c hc))];rfl
 ·have inj:∀ i j,i<12->j<12->nmB wd p f i=nmB wd p f j->i=j:=fun i j hi hj e=>by
   have e2:wd.set p (97+(f+i)%26)=wd.set p (97+(f+j)%26):=congrArg Blk.sg e;have e3:(wd.set p (97+(f+i)%26))[p]?=(wd.set p (97+(f+j)%26))[p]?:=by rw [e2]
   rw [getElem?_set_self hp,getElem?_set_self hp] at e3;have:=Option.some.inj e3;omega
  have lT:∀ n,n<=12->(jGJ wd p f n).Nodup:=by
   intro n;induction n with
   | zero=>intro _;exact gR
   | succ n ih =>
     intro hn;unfold jGJ;rw [List.range_succ,eB];refine jJa (ih (by omega)) fun mm=>?_;obtain⟨j,hj,e⟩:=dR.mp mm;have hj':=iW.mp hj;exact absurd (inj j n (by omega) (by omega) e) (by omega)
  exact lT 12 (Nat.le_refl _)
theorem join_B(cs:List Nat):Txt.join (c9 "") (cs.map one)=⟨cs.toArray⟩:=by
 rw [jK9];exact Blk.sg_inj (jJX _ (by decide +kernel) _)
theorem word_of(h:∀ y∈ys,∃ c∈sN,y=.str (one c)):∃ wd:List Nat,ys=(wd.map one).map V.str/\∀ c∈wd,c∈sN:=by
 induction ys with
 | nil=>exact⟨[],rfl,fun c hc=>(by cases hc)⟩
 | cons y r ih =>
   obtain⟨c,hc,rfl⟩:=h y eD;obtain⟨wd,e,hw⟩:=ih fun z hz=>h z (eG _ hz);refine⟨c::wd,by rw [e];rfl,fun x hx=>?_⟩
   grind
example jFW(K:PySem.W.Frag):∀ (a:Addr) (k:Int),vs=[.ref a,.int k,.int 12]->Scr K H a->0<=k->k<=1000->(∀ (p:Addr) (ns:List Str) (H':Hp),eR H H'->H p=none->H' p=some (.lst (ns.map V.str))->jGW ns 12->Q (.ref p) H')->jFW K:=0
example jLK:Dfn 2 "_law_names" ["_law_script","_law_k","_law_many"] (jFW K):=by
 nomatch mJ T.e T.p115,["_law_script","_law_k","_law_many","_law_letters","_law_size","_law_word","_law_at","_law_first","_law_names_here","_law_j","_law_signs"]
 obtain⟨a,k,rfl,hS,k0,k1,q⟩:=h;exists _,(eE (psA (i:=3) nZ kU) (eE (psA (i:=4) nZ (jL oV fY (jV (vO T) hr.m rfl (dN (pv 0) (dN (pv 1) (dN fY dZ)))))) (eE (psA (i:=5) nZ (rX (frees:=[ ("_law_letters",3) ,("_law_script",0) ,("_law_k",1) ]) ⟨by decide +kernel,rfl,rfl,by decide +kernel,⟨⟨rfl,rfl,rfl,by decide +kernel⟩,⟨⟨rfl,rfl,rfl,by decide +kernel⟩,⟨⟨rfl,rfl,rfl,by decide +kernel⟩,trivial⟩⟩⟩,by decide +kernel,oX rfl,rfl⟩ rfl (jCD rfl T.au (dN (pv 4) dZ)) (fun _ _ _ _=>vT) (fun _ _ _ _=>by exact (ixA jMK (pv 1) (jV (vO T) hr.m rfl (dN (pv 2) (dN (jL oV (jL oV (pv 3) fY) (pv 0)) (dN fY dZ)))))))) (eE (iK (tcA qL (jV (vO T) hr.m rfl (dN (pv 0) (dN (jL oV (pv 1) fY) (dN fY dZ)))) fY) (eI (gB (rX (frees:=[ ("_law_word",5) ]) ⟨by decide +kernel,rfl,rfl,by decide +kernel,⟨⟨rfl,rfl,rfl,by decide +kernel⟩,trivial⟩,by decide +kernel,oX rfl,rfl⟩ rfl (jCD rfl T.au (dN (pv 2) dZ)) (fun _ _ _ _=>vT) (fun _ _ _ _=>by exact (jL jDX (jDE (K:=K) (r:=rIxL) rfl jCM (pv 1) fY (fun _ _=>rfl)) (jCj jGa kU jCK (jCL (pv 0)))))))) iM) (eE (psA (i:=6) nZ (jV (vO T) hr.m rfl (dN (pv 0) (dN (jL oV (pv 1) fY) (dN (pv 4) dZ))))) (eE (psA (i:=7) nZ (jV (vO T) hr.m rfl (dN (pv 0) (dN (jL oV (pv 1) fY) (dN fY dZ))))) (eE (psA (i:=8) nZ (oQ dZ)) (eE (nY PassesOwn.never rfl (jCD rfl T.au (dN (pv 2) dZ)) (pgA (i:=9) nZ) (eE (psA (i:=10) nZ (rG jF8 rfl T.ar jCu (dN (pv 5) dZ))) (eE (ps_asg (ixA jMK (pv 3) (jL jDA (jL oV (pv 7) (pv 9)) fY)) (pg_sub (pv 10) (pv 6) jPx)) (eI (jU (qV fE PySem.F.slot_list_append PySem.F.type_list_append zD (pv 8) (dN (qV fV pM pJ jMM kU (dN (pv 10) dZ)) dZ))))))) (eI (gB (pv 8)))))))))))
 have fit:∀ n:Nat,n<=1000->n<=dL:=fun n h=>small h;refine⟨_,rfl,_,rfl,a,_,_,rfl,hS,by omega,by omega,by decide,fun r r0 r1=>⟨_,_,rfl,rfl,?_⟩⟩;exists _,rfl,_,rfl,by omega,by omega
 refine jCk (jGb 0 (1+r).toNat H) (fun _ y _=>∃ c∈sN,y=.str (one c)) (by rw [c7,fD];exact kZ (by omega)) (fun x _ H' R _ rr=>rr) (fun x hx H1 R s1 rr=>?_) (fun D H1 ys s1 nD hD ly gy=>?_)
 ·obtain⟨i,hi,rfl⟩:=dR.mp hx;have wW:=iW.mp hi;refine⟨_,rfl,_,rfl,_,rfl,_,_,rfl,rfl,_,rfl,_,_,rfl,rfl,a,_,_,rfl,hS.same s1,by omega,by omega,by decide,fun r2 r20 r21=>⟨_,_,rfl,rfl,(by decide +kernel),r20,Int.lt_of_lt_of_le r21 (by decide +kernel),fun c hc=>?_⟩⟩;rw [eL] at hc;exact rr _ _ (eR.refl _) (jIR fun _=>⟨c,mem_of_getElem? hc,rfl⟩)
 obtain⟨wd,rfl,hw⟩:=word_of (ys:=ys) fun y hy=>by
  obtain⟨i,hi⟩:=mem_iff_getElem?.mp hy;have hl:=(List.getElem?_eq_some_iff.mp hi).1;exact gy i _ y (getElem?_eq_getElem (by rw [<- ly];exact hl)) hi
 rw [c7,c7,c7,fD] at ly;have S1:=hS.same s1;refine⟨_,rfl,_,rfl,_,_,rfl,rfl,a,_,_,rfl,S1,by omega,by omega,by decide,fun r3 r30 r31=>⟨rfl,_,rfl,ite2 (fun _=>?_) (fun _=>?_)⟩⟩
 ·obtain⟨c,wr,rfl⟩:∃ c wr,wd=c::wr:=by
   cases wd with
   | nil=>have:0=(1+r).toNat:=ly;omega
   | cons c wr=>exact⟨c,wr,rfl⟩
  exists _,rfl,_,rfl,by decide,by decide
  refine zC (jGb 0 (12:Int).toNat H1) (fun _=>true) (fun x=>match x with|.int t=>.str (one c++Txt.slice sfx none (some t))|v=>v) (by rw [c7,fD];exact kZ (by decide)) (fun x hx H' R _ rr=>rr) (fun x hx H2 R s2 _ rr=>?_) (fun D2 H2 s2 nD2 nB=>q D2 (wJ c) H2 (s1.trans s2) (s1.free nD2) ?_ (nmsA_ok (hw c eD)))
  ·obtain⟨i,hi,rfl⟩:=dR.mp hx;have wW:=iW.mp hi;have hi12:i<12:=wW;exists _,rfl,D,_,_,_,rfl,rfl,SqL.of (s2 _ _ hD),o9 (j:=0) rfl,_,rfl,_,rfl;have l1:=sfx_len i hi;refine⟨_,rfl,small (by decide +kernel),_,_,rfl,rfl,small (eM (Nat.add_le_add_left l1 1) (by decide)),rr⟩
  ·rw [nB,fW.mpr (fun _ _=>rfl),dU];unfold wJ;rw [dU];refine congrArg (fun l=>some (HO.lst l)) (eT fun j _=>?_);show V.str (one c++Txt.slice sfx none (some (0+(j:Int))))=V.str (one c++Txt.slice sfx none (some (j:Int)));rw [qS]
 refine⟨_,rfl,_,rfl,_,_,rfl,rfl,_,rfl,a,_,_,rfl,S1,by omega,by omega,by omega,fun r4 r40 r41=>?_⟩;refine⟨_,rfl,_,rfl,_,_,rfl,rfl,a,_,_,rfl,S1,by omega,by omega,by decide,fun r5 r50 r51=>?_⟩;refine⟨fit _ (by show 0<=1000;decide),fun p hp=>?_⟩;generalize e9:upd H1 p _=H2;have s2:=nS hp e9;have qZ:H2 p=some (.lst ((jGJ wd r4.toNat r5.toNat 0).map V.str)):=nE e9;have b1:1<=wd.length:=by omega
 have b2:wd.length<=12:=by omega
 have b3:r4.toNat<wd.length:=by omega
 have np:=s1.free hp
 refine⟨_,rfl,_,rfl,by decide,by decide,jDz (n:=(12:Int).toNat) (fun i σ H'=>eR H H'/\H' p=some (.lst ((jGJ wd r4.toNat r5.toNat i).map V.str))/\H' D=some (.lst ((wd.map one).map V.str))/\∃ v1 v2:Option V,σ=[some (.ref a),some (.int k),some (.int 12),some (.str (c9 "abcdefghijklmnopqrstuvwxyz")),some (.int (1+r)),some (.ref D),some (.int r4),some (.int r5),some (.ref p),v1,v2])
  ⟨s1.trans s2,qZ,s2 _ _ hD,_,_,rfl⟩ (fun i σ H' hi pp=>?_) (fun σ H' pp=>?_)⟩
 ·obtain⟨sm,hp',v8,v1,v2,rfl⟩:=pp;have hi12:i<12:=hi;refine⟨_,rfl,D,_,rfl,.inl (SqL.of v8),fun pd nd=>?_⟩;generalize e9:upd H' pd _=H3;have s3:=nS nd e9;have h3:=nE e9;refine⟨_,rfl,_,rfl,_,rfl,_,_,rfl,rfl,_,_,rfl,rfl,(by show (0:Int)<26;decide),?_⟩;refine⟨_,_,rfl,rfl,(by decide +kernel),mH _ (by decide),Int.lt_of_lt_of_le (kI _ (by decide)) (by decide +kernel),fun cl oY=>?_⟩;have hl:cl=97+(r5.toNat+i)%26:=by
   rw [eL] at oY;have:=low_at oY;rw [this];omega
  exists _,rfl,_,rfl,pd,_,_,r4.toNat,rfl,rfl,h3,?_
  ·unfold ixN;rw [if_pos (by omega),if_pos (by rw [c7,c7];omega)]
  have setl:((wd.map one).map V.str).set r4.toNat (V.str ⟨#[cl]⟩)=((wd.set r4.toNat cl).map one).map V.str:=by
   rw [map_set,map_set];rfl
  rw [setl];have k4:∀ b o,b≠pd->H3 b=some o->upd H3 pd (.lst (((wd.set r4.toNat cl).map one).map V.str)) b=some o:=fun b o n e=>by rw [eJ n];exact e
  have h4:upd H3 pd (.lst (((wd.set r4.toNat cl).map one).map V.str)) pd=some (.lst (((wd.set r4.toNat cl).map one).map V.str)):=eO;generalize upd H3 pd _=H4 at k4 h4 ⊢;have s4:eR H' H4:=fun b o e=>k4 b o (gM e nd) (s3 _ _ e);have hp4:=s4 _ _ hp';exists _,rfl,.inl ⟨rfl,_,SqL.of hp4⟩,rfl,_,rfl,_,pd,(wd.set r4.toNat cl).map one,rfl,rfl,SqL.of h4,?_,p,_,_,rfl,rfl,hp4,?_
  ·unfold JoinOk;rw [lH];refine StrLaws.joinFits (B:=1) (fun x hx=>?_) ?_
   ·obtain⟨c,_,rfl⟩:=dR.mp hx;exact Nat.le_refl 1
   ·rw [c7,m7,show (c9 "").length=0 by decide +kernel];omega
  ·rw [c7];unfold jGJ;rw [c7,fD];exact kZ (by omega)
  ·refine⟨fun b u e=>?_,?_,?_,_,_,rfl⟩
   ·have e5:=s4 _ _ (sm b u e);rw [eJ (gM e np)];exact e5
   ·rw [eO,join_B,hl];unfold jGJ;rw [List.range_succ,eB,eB];rfl
   ·have e5:=s4 _ _ v8;have hpD:D≠p:=gM hD hp;rw [eJ hpD];exact e5
 ·obtain⟨sm,hp',v8,v1,v2,rfl⟩:=pp;exact⟨_,rfl,q p _ H' sm np hp' (nmsB_ok hw b1 b2 b3)⟩
noncomputable def rowW(ws:List mE)(n:Str):List Str:=match ws.find? (fun r=>decide (r.1=n)) with
 | some r=>r.2.2
 | none=>[]
theorem jG3:∀ {ws:List mE} {r:mE},(kA ws).Nodup->r∈ws->rowW ws r.1=r.2.2
 | [],_,_,h=>by cases h
 | s::ws,r,nd,h=>by
   obtain⟨n1,n2⟩:=fF.mp nd;unfold rowW;rw [find?_cons];by_cases e:s.1=r.1
   ·rw [decide_eq_true e];rcases dX.mp h with z|z
    ·rw [z]
    ·exact absurd (dR.mpr ⟨r,z,e.symm⟩) n1
   ·rw [decide_eq_false e];rcases dX.mp h with z|z
    ·exact absurd (congrArg (·.1) z.symm) e
    ·exact jG3 n2 z
noncomputable def qW(ws:List mE)(E S:List Str)(n:Str):Bool:=(rowW ws n).any fun o=>decide (o∈E)||decide (o∈S)
structure Stk(ws:List mE)(E S:List Str):Prop where
 o:S=(kA ws).filter fun n=>decide (n∈S)
 d:∀ n∈kA ws,¬ n∈S->Der ws E n
theorem Stk.sub(h:Stk ws E S)(hn:n∈S):n∈kA ws:=by
 rw [h.o] at hn;exact (iL.mp hn).1
theorem Stk.start:Stk ws E (kA ws):=⟨(fW.mpr fun n hn=>decide_eq_true hn).symm,fun n hn z=>absurd hn z⟩
theorem Stk.less(nd:(kA ws).Nodup)(h:Stk ws E S):Stk ws E (S.filter (qW ws E S)):=by
 refine⟨?_,fun n hn z=>?_⟩
 ·have e:S.filter (qW ws E S)=(kA ws).filter fun n=>qW ws E S n&&decide (n∈S):=by
   conv=>lhs;rw [h.o]
   rw [List.filter_filter];refine gO fun n _=>?_;rw [<- h.o]
  refine e.trans (gO fun n _=>?_)
  grind
 ·by_cases c:n∈S
  ·have nb:qW ws E S n=false:=by
    grind
   obtain⟨r,hr,rfl⟩:=dR.mp hn;unfold qW at nb;rw [jG3 nd hr,kJ] at nb;have nb':∀ o∈r.2.2,¬ o∈E/\¬ o∈S:=fun o ho=>by
    have:=nb o ho
    grind
   exact .mk r hr (fun o ho=>(nb' o ho).1) fun o ho hm=>h.d o hm (nb' o ho).2
  ·exact h.d n hn c
noncomputable def unF(ws:List mE)(S:List Str):List Str:=(kA ws).filter fun n=>!decide (n∈S)
theorem Stk.fin(nd:(kA ws).Nodup)(h:Stk ws E S)(f:∀ n∈S,qW ws E S n=true):S=((kA ws).filter fun n=>!decide (n∈unF ws S))/\Par ws E (unF ws S)/\Fix ws E (unF ws S):=by
 have lT:∀ n∈kA ws,¬ n∈unF ws S ↔ n∈S:=fun n hn=>by
  unfold unF
  grind
 refine⟨?_,⟨fun n hn=>(iL.mp hn).1,nd.sublist hU,fun n hn=>?_⟩,fun r hr nr e=>?_⟩
 ·conv=>lhs;rw [h.o]
  refine gO fun n hn=>?_
  grind
 ·obtain⟨h1,h2⟩:=iL.mp hn;exact h.d n h1 (fun w=>by rw [decide_eq_true w] at h2;cases h2)
 ·have hs:=(lT r.1 (dR.mpr ⟨r,hr,rfl⟩)).mp nr;have hb:=f _ hs;unfold qW at hb;rw [jG3 nd hr] at hb;obtain⟨o,ho,hz⟩:=j9.mp hb;simp only [pV,decide_eq_true_eq] at hz;obtain⟨b1,b2⟩:=jH0 e o ho;rcases hz with z|z
  ·exact b1 z
  ·exact (lT o (h.sub z)).mpr z (b2 (h.sub z))
noncomputable def pBad(E S:List Str):V->Bool
 | .str o=>decide (o∈E)||decide (o∈S)
 | _=>false
theorem bad_fil{E S l:List Str}:((l.map V.str).filter (pBad E S)).map (fun v=>v)=(l.filter fun o=>decide (o∈E)||decide (o∈S)).map V.str:=by
 rw [xO,i0];rfl
example jFX(K:PySem.W.Frag):∀ (wa ba:Addr) (ws:List mE) (E:List Str),vs=[.ref wa,.ref ba]->wQ H wa ws->H wa=some (.dK (wD ws))->H ba=some (.lst (E.map V.str))->(∀ l F H',eR H H'->H l=none->H' l=some (.lst (((kA ws).filter fun n=>!decide (n∈F)).map V.str))->Par ws E F->Fix ws E F->Q (.ref l) H')->jFX K:=0
example jLL:Dfn 1 "_law_stuck" ["_law_waits_here","_law_broken"] (jFX K):=by
 nomatch mJ T.e T.p117,["_law_waits_here","_law_broken","_law_stuck_here","_law_going","_law_left","_law_name"]
 obtain⟨wa,ba,ws,E',rfl,W,t8,hba,q⟩:=h;have hu0:=hr.units0;exists _,(eE (psA (i:=2) nZ (rG (jCe rfl) rfl T.ar jCu (dN (pv 0) dZ))) (eE (psA (i:=3) nZ o8) (eE (jFm PassesOwn.never (mD (pv 3) (fun _=>rfl)) (eE (psA (i:=4) nZ (oQ dZ)) (eE (nY PassesOwn.never rfl (oW (pv 2)) (pgA (i:=5) nZ) (eI (iK (tcA (jIf hu0) (rX (frees:=[ ("_law_broken",1) ,("_law_stuck_here",2) ]) ⟨by decide +kernel,rfl,rfl,by decide +kernel,⟨⟨rfl,rfl,rfl,by decide +kernel⟩,⟨⟨rfl,rfl,rfl,by decide +kernel⟩,trivial⟩⟩,by decide +kernel,oX rfl,rfl⟩ rfl (oW (dgA hu (pv 0) (pv 5))) (fun _ _ _ _=>by exact (vS (PW.pt (wP (jC1 (jFt (K:=K) rfl) (pv 0) (pv 1) rfl) (y6 (jC1 (jFt (K:=K) rfl) (pv 0) (pv 2) rfl)))))) (fun _ _ _ _=>by exact (pv 0))) (oQ dZ)) (eI (jU (qV fE PySem.F.slot_list_append PySem.F.type_list_append zD (pv 4) (dN (pv 5) dZ)))) iM))) (eE (psA (i:=3) nZ (ecA jEG (nK vW rfl T.aj fK (dN (pv 4) dZ)) (nK vW rfl T.aj fK (dN (pv 2) dZ)))) (eI (psA (i:=2) nZ (pv 4))))))) (eI (gB (pv 2))))))
 have ln:(kA ws).length=ws.length:=c7 _;have n60:=W.n;refine⟨_,rfl,wa,_,rfl,t8,fun s0 ns0=>?_⟩;have s1:=iS ns0 (.lst ((wD ws).map fun p=>kV p.1));have h1:upd H s0 (.lst ((wD ws).map fun p=>kV p.1)) s0=some (.lst ((kA ws).map V.str)):=by rw [eO,jG2]
 generalize upd H s0 _=H1 at s1 h1 ⊢;exists fun m σ G=>∃ (sa:Addr) (S:List Str) (go:Bool) (v4 v5:Option V),σ=[some (.ref wa),some (.ref ba),some (.ref sa),some (.bl go),v4,v5]/\eR H G/\H sa=none/\G sa=some (.lst (S.map V.str))/\Stk ws E' S/\S.length<=ws.length/\m=S.length+(if go=true then 1 else 0)/\(go=false->∀ n∈S,qW ws E' S n=true),⟨_,s0,kA ws,true,_,_,rfl,s1,ns0,h1,Stk.start,by omega,rfl,fun z=>(by cases z)⟩
 rintro m σ G ⟨sa,S,go,v4,v5,rfl,sG,nsa,hG,St,lS,rfl,fx⟩;exists _,rfl,go,rfl;cases go with
 | false =>
   obtain⟨f1,f2,f3⟩:=St.fin W.nd (fx rfl);refine hV ⟨_,rfl,q sa (unF ws S) G sG nsa ?_ f2 f3⟩;rw [<- f1];exact hG
 | true =>
   refine kL ⟨fun σ' G'=>∃ m',m'<S.length+1/\∃ (sa:Addr) (S:List Str) (go:Bool) (v4 v5:Option V),σ'=[some (.ref wa),some (.ref ba),some (.ref sa),some (.bl go),v4,v5]/\eR H G'/\H sa=none/\G' sa=some (.lst (S.map V.str))/\Stk ws E' S/\S.length<=ws.length/\m'=S.length+(if go=true then 1 else 0)/\(go=false->∀ n∈S,qW ws E' S n=true),fun σ' G' z=>z,?_⟩;refine⟨small (d9 _),fun la uK=>?_⟩;generalize e9:upd G la _=G2;have s2:=nS uK e9;have h2:G2 la=some (.lst (((S.take 0).filter (qW ws E' S)).map V.str)):=nE e9;have nlH:=sG.free uK;have nsl:sa≠la:=gM hG uK;refine⟨_,rfl,sa,rfl,⟨_,SqL.of (s2 _ _ hG)⟩,vM (K:=K) (a:=sa) (xs:=S.map V.str) (fun i σ G'=>(∃ v5,σ=[some (.ref wa),some (.ref ba),some (.ref sa),some (.bl true),some (.ref la),v5])/\eR H G'/\G' sa=some (.lst (S.map V.str))/\G' la=some (.lst (((S.take i).filter (qW ws E' S)).map V.str))) ⟨⟨_,rfl⟩,sG.trans s2,s2 _ _ hG,h2⟩ (fun i σ G' _ z=>SqL.of z.2.2.1) (fun i y σ G' hy z=>?_) (fun σ G' z=>?_)⟩
   ·obtain⟨⟨v5,rfl⟩,sm,uX,hl'⟩:=z;rw [getElem?_map] at hy;obtain⟨n,en,rfl⟩:=dW.mp hy;have hnS:=mem_of_getElem? en;obtain⟨r,r9,rfl⟩:=dR.mp (St.sub hnS);have W':=W.same sm;have g:=vH W'.d r.1;rw [jGH W.nd r9] at g;have hrl:=W'.l r r9;exists _,rfl,_,rfl,wa,_,rfl,g,r.2.1,rfl,⟨_,SqL.of hrl⟩
    refine zC (vR (K:=K) (SqL.of hrl)) (pBad E' S) (fun v=>v) (kZ (by rw [c7];have:=W.m r r9;omega)) (fun x hx G3 R s3 rr=>?_) (fun x hx G3 R s3 _ rr=>⟨_,rfl,rr⟩) (fun C G3 s3 nC hC=>?_)
    ·obtain⟨o,ho,rfl⟩:=dR.mp hx;exists _,rfl,_,rfl,ba,_,rfl,.inl (SqL.of (s3 _ _ (sm _ _ hba))),rfl,sS _,_,rfl;rw [if_neg (by decide),xZ];replace rr:R (decide (o∈E')||decide (o∈S)) G3:=rr;by_cases c:o∈E'
     ·rw [decide_eq_true c] at rr ⊢;exact kL rr
     ·rw [decide_eq_false c] at rr ⊢;refine hV ⟨_,rfl,_,rfl,sa,_,rfl,.inl (SqL.of (s3 _ _ uX)),rfl,sS _,_,rfl,?_⟩;rw [if_neg (by decide),xZ];exact rr
    ·rw [bad_fil] at hC;have s4:∀ e,G3 e=none->eR G3 (upd G3 e (.lst [])):=fun e z=>iS z _;refine⟨small (d9 _),fun em xN=>?_⟩;have s5:=s4 em xN;have h5:upd G3 em (.lst []) em=some (.lst []):=eO;generalize upd G3 em _=G5 at s5 h5 ⊢;have sm5:=(sm.trans s3).trans s5;have vZ:=s5 _ _ (s3 _ _ hl');have hs5:=s5 _ _ (s3 _ _ uX);exists C,em,_,_,rfl,rfl,SqL.of (s5 _ _ hC),SqL.of h5,sS _,rfl,_,rfl;rw [if_pos rfl];have tk:S.take (i+1)=S.take i++[r.1]:=by rw [fZ,en];rfl
     have eb:(!jEg ((r.2.2.filter fun o=>decide (o∈E')||decide (o∈S)).map V.str) [])=qW ws E' S r.1:=by
      unfold qW;rw [jG3 W.nd r9];cases ef:r.2.2.filter fun o=>decide (o∈E')||decide (o∈S) with
      | nil =>
        have:(r.2.2.any fun o=>decide (o∈E')||decide (o∈S))=false:=kJ.mpr fun o ho=>jD.mp ef o ho;rw [this];rfl
      | cons o l =>
        have ho:=iL.mp (show o∈r.2.2.filter fun o=>decide (o∈E')||decide (o∈S) by rw [ef];exact eD);rw [j9.mpr ⟨o,ho.1,ho.2⟩];rfl
     rw [eb];cases hb:qW ws E' S r.1 with
     | false =>
       refine hV ⟨⟨_,rfl⟩,sm5,hs5,?_⟩;rw [tk,eZ,gE,if_neg (by rw [hb];decide),hX,gQ];exact vZ
     | true =>
       have lt:((S.take i).filter (qW ws E' S)).length<=60:=eM (eA _ _) (eM (i7 _ _) (by omega));refine kL ⟨_,rfl,.inl ⟨rfl,_,SqL.of vZ⟩,_,rfl,la,_,_,rfl,rfl,vZ,kZ (by rw [c7];omega),⟨⟨_,rfl⟩,tY nlH sm5 _,by rw [eJ nsl];exact hs5,?_⟩⟩;rw [eO,tk,eZ,gE,if_pos hb,eB];rfl
   ·obtain⟨⟨v5,rfl⟩,sm,uX,hl'⟩:=z;rw [c7,h9] at hl';have lf:=eA (qW ws E' S) S;exists _,rfl,la,_,rfl,.inl (SqL.of hl'),_,rfl,sa,_,rfl,.inl (SqL.of uX),_,_,rfl,rfl;rw [c7,c7];by_cases c:(S.filter (qW ws E' S)).length<S.length
    ·refine⟨_,rfl,(S.filter (qW ws E' S)).length+1,by omega,la,_,true,_,_,by rw [decide_eq_true (show (((S.filter (qW ws E' S)).length:Nat):Int)<((S.length:Nat):Int) by omega)];rfl,sm,nlH,hl',St.less W.nd,by omega,rfl,fun z=>(by cases z)⟩
    ·have el:(S.filter (qW ws E' S)).length=S.length:=by omega
     have f:=List.length_filter_eq_length_iff.mp el;have ef:S.filter (qW ws E' S)=S:=fW.mpr f;rw [ef] at hl';refine⟨_,rfl,S.length,by omega,la,S,false,_,_,by rw [decide_eq_false (show ¬ (((S.filter (qW ws E' S)).length:Nat):Int)<((S.length:Nat):Int) by omega)];rfl,sm,nlH,hl',St,lS,rfl,fun _=>f⟩
theorem jQj(xs:List V)(v:V):tG (xs++[v]) none (some (-1))=xs:=by
 unfold tG;have hl:(xs++[v]).length=xs.length+1:=by rw [length_append];rfl
 have e:∀ d,HT.sIx (xs++[v]).length d (some (-1))=xs.length:=fun d=>by
  unfold HT.sIx
  grind
 rw [e,HT.sIx_none]
 grind
theorem xY.facts(h:xY ws E n c'):∃ c l,c'=c++[l]/\1<=c.length/\c'[0]?=some n/\(l∈E\/l∈c)/\∀ (i:Nat) o,i<c.length->c'[i]?=some o->o∈kA ws/\¬ o∈c'.take i/\∃ p,c'[i+1]?=some p/\Link ws o p:=by
 obtain⟨c,l,rfl,W,hl,hE⟩:=h;have l1:1<=c.length:=by
  have:=W.h0;exact (List.getElem?_eq_some_iff.mp this).1
 refine⟨c,l,rfl,l1,by rw [getElem?_append_left (by omega)];exact W.h0,hE,fun i o hi ho=>?_⟩;rw [getElem?_append_left hi] at ho;exists W.sub o (mem_of_getElem? ho),?_
 ·rw [List.take_append_of_le_length (by omega)];exact jFz W.nd ho
 ·by_cases c1:i+1<c.length
  ·refine⟨c[i+1],by rw [getElem?_append_left c1];exact getElem?_eq_getElem c1,W.lk i o _ ho (getElem?_eq_getElem c1)⟩
  ·have e:i+1=c.length:=by omega
   refine⟨l,by rw [e,getElem?_append_right (Nat.le_refl _),lR];rfl,hl o ?_⟩;rw [List.getLast?_eq_getElem?,<- e];exact ho
example jDL(K:PySem.W.Frag):∀ (wa ga ca:Addr) (ws:List mE) (E:List Str) (n:Str) (c:List Str),vs=[.ref wa,.ref ga,.str n,.ref ca]->wQ H wa ws->H ga=some (.lst (E.map V.str))->H ca=some (.lst (c.map V.str))->xY ws E n c->c.length<=61->(∀ H',eR H H'->Q (.bl true) H')->jDL K:=0
example jG8:Dfn 1 "_law_chain_good" ["_law_waits_here","_law_broken","_law_name","_law_chain"] (jDL K):=by
 nomatch mJ T.e T.p118,["_law_waits_here","_law_broken","_law_name","_law_chain","_law_one","_law_k"]
 obtain⟨wa,ga,ca,ws,E',n,c,rfl,W,hga,hca,Ck,lc,q⟩:=h;exists _,(eE (iK (PW.pt (wP (qM (mD (nK jHz rfl T.aX jKX (dN (pv 3) (dN (jI5 rfl T.ar jCu (jKZ _)) dZ))) (fun _=>rfl))) (wP (tcA jEG (nK vW rfl T.aj fK (dN (pv 3) dZ)) fY) (y6 (tcA jDV (ixA jCM (pv 3) fY) (pv 2)))))) (eI (gB o8)) iM) (eE (nY PassesOwn.never rfl (oW (pv 3)) (pgA (i:=4) nZ) (eI (iK (qM (mD (nK jHz rfl T.aX jKX (dN (pv 4) (dN (jI5 rfl T.bE jOu (jKZ _)) dZ))) (fun _=>rfl))) (eI (gB o8)) iM))) (eE (nY PassesOwn.never rfl (jCD rfl T.au (dN (jL jH5 (nK vW rfl T.aj fK (dN (pv 3) dZ)) fY) dZ)) (pgA (i:=5) nZ) (eI (iK (PW.pt (wP (sR (jBQ hu (ixA vQ (pv 3) (pv 5)) (pv 0))) (wP (jC1 jF7 (ixA vQ (pv 3) (jL oV (pv 5) fY)) (dgA hu (pv 0) (ixA vQ (pv 3) (pv 5))) rfl) (y6 (jC1 jB4 (ixA vQ (pv 3) (pv 5)) (jCj jGS (pv 3) jCK (jCL (pv 5))) rfl))))) (eI (gB o8)) iM))) (eI (gB (pe_or (jCs jB4 (ixA jCM (pv 3) (jGP jE1 fY)) (pv 1) rfl) (jCT (jCs jB4 (ixA jCM (pv 3) (jGP jE1 fY)) (jCj jGS (pv 3) jCK (jCL (jGP jE1 fY))) rfl))))))))
 obtain⟨d,l,rfl,l1,e0,hE,at'⟩:=Ck.facts;have ll:(((d++[l]).map V.str).length:Nat)=d.length+1:=by rw [c7,length_append];rfl
 have l61:d.length+1<=61:=by rw [length_append] at lc;exact lc
 have e0':((d++[l]).map V.str)[0]?=some (.str n):=by rw [getElem?_map,e0];rfl
 refine⟨_,rfl,_,_,_,true,rfl,uN.lst hca,jHA _,true,rfl,hV ?_⟩;refine⟨_,rfl,ca,_,rfl,.inl (SqL.of hca),_,_,rfl,rfl,_,rfl,rY (by rw [ll];omega) ?_⟩;refine⟨_,rfl,ca,_,_,_,rfl,rfl,SqL.of hca,o9 (j:=0) e0',_,rfl,rfl,_,rfl,iteNS rfl ?_⟩;refine⟨_,rfl,ca,rfl,⟨_,SqL.of hca⟩,vM (K:=K) (a:=ca) (xs:=(d++[l]).map V.str) (fun i σ H'=>(∃ v4,σ=[some (.ref wa),some (.ref ga),some (.str n),some (.ref ca),v4,none])/\eR H H') ⟨⟨_,rfl⟩,eR.refl _⟩ (fun i σ H' _ z=>SqL.of (z.2 _ _ hca)) (fun i y σ H' hy z=>?_) (fun σ H' z=>?_)⟩
 ·obtain⟨⟨v4,rfl⟩,sm⟩:=z;rw [getElem?_map] at hy;obtain⟨o,eo,rfl⟩:=dW.mp hy;exact⟨_,rfl,_,_,_,true,rfl,uN.str _,jHA _,true,rfl,hV ⟨⟨_,rfl⟩,sm⟩⟩
 obtain⟨⟨v4,rfl⟩,sm0⟩:=z;refine⟨_,rfl,ca,_,rfl,.inl (SqL.of (sm0 _ _ hca)),_,_,rfl,rfl,_,rfl,by rw [ll];omega,by rw [ll];omega,?_⟩;refine jDz (lo:=0) (n:=((((d++[l]).map V.str).length:Nat)-1:Int).toNat) (fun i σ H'=>eR H H'/\∃ v5,σ=[some (.ref wa),some (.ref ga),some (.str n),some (.ref ca),v4,v5]) ⟨sm0,_,rfl⟩ (fun i σ H' hi zz=>?_) (fun σ H' zz=>?_)
 ·obtain⟨sm,v5,rfl⟩:=zz;rw [qS];have wW:i<d.length:=by rw [ll] at hi;omega
  have v0:=sm _ _ hca;have W1:=W.same sm;obtain⟨o,eo⟩:∃ o,(d++[l])[i]?=some o:=⟨_,getElem?_eq_getElem (by rw [length_append];show i<d.length+1;omega)⟩
  have eo':((d++[l]).map V.str)[((i:Nat):Int).toNat]?=some (.str o):=by
   rw [Int.toNat_natCast,getElem?_map,eo];rfl
  obtain⟨f1,f2,p,f3,r,r9,er,hp⟩:=at' i o wW eo;refine⟨_,rfl,_,rfl,ca,_,_,rfl,rfl,SqL.of v0,by omega,by rw [ll];omega,fun v hv=>?_⟩;rw [eo'] at hv;obtain rfl:=Option.some.inj hv;exists _,rfl,wa,_,rfl,vH W1.d o,_,rfl;rw [jPh W.nd,decide_eq_true f1];have ep:((d++[l]).map V.str)[(((i:Nat):Int)+1).toNat]?=some (.str p):=by
   have:(((i:Nat):Int)+1).toNat=i+1:=by omega
   rw [this,getElem?_map,f3];rfl
  refine hV ⟨_,rfl,_,rfl,_,_,rfl,rfl,ca,_,_,rfl,rfl,SqL.of v0,by omega,by rw [ll];omega,fun v hv=>?_⟩;rw [ep] at hv;obtain rfl:=Option.some.inj hv;refine⟨_,rfl,_,rfl,_,rfl,ca,_,_,rfl,rfl,SqL.of v0,by omega,by rw [ll];omega,fun v hv=>?_⟩;rw [eo'] at hv;obtain rfl:=Option.some.inj hv;have g:=vH W1.d o;rw [<- er,jGH W1.nd r9] at g;refine⟨wa,_,rfl,by rw [<- er];exact g,r.2.1,_,rfl,.inl (SqL.of (W1.l r r9)),rfl,sS _,_,rfl,?_⟩;rw [if_pos rfl,xZ,decide_eq_true hp];refine hV ⟨_,rfl,_,rfl,ca,_,_,rfl,rfl,SqL.of v0,by omega,by rw [ll];omega,fun v hv=>?_⟩;rw [eo'] at hv;obtain rfl:=Option.some.inj hv;refine⟨_,rfl,_,rfl,_,rfl,ca,_,rfl,SqL.of v0,fun q1 nq1=>?_⟩;have s2:=iS nq1 (.lst (tG ((d++[l]).map V.str) none (some ((i:Nat):Int))));have h2:upd H' q1 (.lst (tG ((d++[l]).map V.str) none (some ((i:Nat):Int)))) q1=some (.lst (((d++[l]).take i).map V.str)):=by
   rw [eO,jOU,List.map_take]
  generalize upd H' q1 (.lst (tG ((d++[l]).map V.str) none (some ((i:Nat):Int))))=H2 at s2 h2 ⊢;exists q1,_,rfl,.inl (SqL.of h2),rfl,sS _,_,rfl;rw [if_neg (by decide),xZ,decide_eq_false f2];exact hV ⟨sm.trans s2,_,rfl⟩
 ·obtain⟨sm,v5,rfl⟩:=zz;have v0:=sm _ _ hca;have oY:H' ca=some (.lst (d.map V.str++[V.str l])):=by rw [v0,eB];rfl
  exists _,rfl,_,rfl,ca,_,_,_,rfl,rfl,SqL.of oY,jHx _ _,_,rfl,ga,_,rfl,.inl (SqL.of (sm _ _ hga)),rfl,sS _;rw [if_neg (by decide),xZ];by_cases c1:l∈E'
  ·rw [decide_eq_true c1];exact⟨true,rfl,kL (q H' sm)⟩
  ·rw [decide_eq_false c1];refine⟨false,rfl,hV ⟨_,rfl,_,rfl,ca,_,_,_,rfl,rfl,SqL.of oY,jHx _ _,_,rfl,_,rfl,_,rfl,ca,_,rfl,SqL.of oY,fun q1 nq1=>?_⟩⟩;have s2:=iS nq1 (.lst (tG (d.map V.str++[V.str l]) none (some (-1))));have h2:upd H' q1 (.lst (tG (d.map V.str++[V.str l]) none (some (-1)))) q1=some (.lst (d.map V.str)):=by
    rw [eO,jQj]
   generalize upd H' q1 (.lst (tG (d.map V.str++[V.str l]) none (some (-1))))=H2 at s2 h2 ⊢;exists q1,_,rfl,.inl (SqL.of h2),rfl,sS _;rw [if_neg (by decide),xZ,decide_eq_true (hE.resolve_left c1)];exact q H2 (sm.trans s2)
theorem jHv(p:Par ws E F)(f:Fix ws E F)(p':Par ws E F')(f':Fix ws E F')(l:List Str):(l.filter fun n=>!decide (n∈F))=l.filter fun n=>!decide (n∈F'):=by
 refine gO fun n _=>?_;by_cases c:n∈F
 ·rw [decide_eq_true c,decide_eq_true ((jG1 p' f' n).mpr ((jG1 p f n).mp c))]
 ·rw [decide_eq_false c,decide_eq_false fun z=>c ((jG1 p f n).mpr ((jG1 p' f' n).mp z))]
noncomputable abbrev LaR:=Str×Addr×List Str
noncomputable def mU(p:Addr×List Str):V:=.ref p.1
noncomputable def lwD(nl ld:Addr):List (Key×V):=[(Sum.inr "names",.ref nl),(Sum.inr "laid",.ref ld)]
structure xQ(H:Hp)(w ld nl:Addr)(la:List LaR)(ns:List Str):Prop where
 w:∃ o,H w=some (.frz o (.dK (lwD nl ld)))
 nm:∃ o,H nl=some (.frz o (.lst (ns.map V.str)))
 a:∀ p∈la,∃ o,H p.2.1=some (.frz o (.lst (p.2.2.map V.str)))
theorem xQ.cs{H H':Hp}{w ld nl:Addr}{la:List LaR}{ns:List Str}(W:xQ H w ld nl la ns)(c:oR H H'):xQ H' w ld nl la ns :=
 ⟨W.w.imp fun _ e=>c _ _ jER e,W.nm.imp fun _ e=>c _ _ jER e,fun p hp=>(W.a p hp).imp fun _ e=>c _ _ jER e⟩
theorem xQ.laid{H:Hp}{w ld nl:Addr}{la:List LaR}{ns:List Str}(W:xQ H w ld nl la ns):mM H w (.str "laid") (some (.ref ld)):=by
 have e:lI (lwD nl ld) (Sum.inr (c9 "laid"))=some (.ref ld):=by
  unfold lI lwD;rw [find?_cons];dsimp only;rw [decide_eq_false (show ¬ ((Sum.inr (c9 "names"):Key)=Sum.inr (c9 "laid")) from by decide),find?_cons,decide_eq_true rfl];rfl
 rw [<- e];exact vH (.inr W.w) "laid"
theorem xQ.names{H:Hp}{w ld nl:Addr}{la:List LaR}{ns:List Str}(W:xQ H w ld nl la ns):mM H w (.str "names") (some (.ref nl)):=by
 have e:lI (lwD nl ld) (Sum.inr (c9 "names"))=some (.ref nl):=by
  unfold lI lwD
  grind
 rw [<- e];exact vH (.inr W.w) "names"
structure LwOk(h:HAd)(D:LD)(rs:List (Str×RU))(ld:Addr)(la:List LaR)(ns:List Str):Prop where
 nk:jGW ns 12
 e:(la.map fun p=>(p.1,p.2.2))=rO rs
 k:kys la=ns.take la.length
 n:la.length<=11
 m:∀ p∈la,p.2.2.length<=3
 nh:¬ ld∈oA h
 nf:¬ LF h.L D ld
theorem LwOk.kys(O:LwOk h D rs ld la ns):kys la=kys rs:=by
 have:=congrArg (map (·.1)) O.e;unfold rO at this;rw [dU,dU] at this;exact this
section
variable {cH cL cP cS cY eQ cJ cB tP:Addr}{H H':Hp}{h:HAd}{D:LD}{rs:List (Str×RU)}{cu ex:Option Str}{ts:List V}{F:Fu}{ld:Addr}{kv:List (Key×V)}
theorem iY.out(A:iY cH cL cP cS cY eQ cJ cB tP H h D rs cu ex ts F)(hl:H ld=some (.dK kv))(n1:¬ ld∈oA h)(n2:¬ LF h.L D ld)(k:∀ b o,b≠ld->H b=some o->H' b=some o):iY cH cL cP cS cY eQ cJ cB tP H' h D rs cu ex ts F:=by
 have c:oR H H':=fun b o c e=>k b o (fN e hl (c.nd _)) e;have kk:∀ {b o},b∈oA h->H b=some o->H' b=some o:=fun hb e=>k _ _ (fun z=>n1 (z ▸ hb)) e;have ki:∀ {b C d fs},H b=some (.ins C d fs)->H' b=some (.ins C d fs):=fun e=>k _ _ (fN e hl nofun) e;obtain⟨p,b,P,f1,f2⟩:=A.P;obtain⟨xs,ex,lx⟩:=A.l;obtain⟨ys,ey,ly⟩:=A.b;exact { A with o:=ki A.o,k:=ki A.k,p:=kk (h_pr h) A.p,i:=kk (h_pi h) A.i,r:=kk (u6 h) A.r,P:=⟨p,b,⟨P.k.cs c,kk (wY h) P.t,kk (wZ h) P.i,kk (w5 h) P.l,P.n⟩,f1,f2⟩,l:=⟨xs,kk (h_pl h) ex,lx⟩,b:=⟨ys,kk (h_bl h) ey,ly⟩,N:=A.N.csL c fun b o z e=>k b o (fun y=>n2 (y ▸ z)) e,R:=fun p hp=>(A.R p hp).cs c (ki (A.R p hp).o),tab:=A.tab.of fun b o _ h2 _ e=>k b o (fN e hl (h2 _)) e,c1:=fun n e=>let ⟨r,a1,a2,a3,a4,a5,a6⟩:=A.c1 n e;⟨r,a1,a2,a3,a4,a5.cs c,a6⟩ }
end
theorem tX(ha:H a=some (.dK kv))(sm:eR (upd H a (.frz o (.dK kv))) G):(∀ b v,b≠a->H b=some v->G b=some v)/\G a=some (.frz o (.dK kv))/\eR H (upd G a (.dK kv))/\(∀ b,G b=none->H b=none)/\oR H G:=by
 have k:∀ b v,b≠a->H b=some v->G b=some v:=fun b v n e=>sm _ _ (by rw [eJ n];exact e);have g:G a=some (.frz o (.dK kv)):=sm _ _ eO;refine⟨k,g,fun b v e=>?_,fun b e=>?_,fun b v c e=>k b v (fN e ha (c.nd _)) e⟩
 ·by_cases hb:b=a
  ·rw [hb,eO];rw [hb,ha] at e;exact e
  ·rw [eJ hb];exact k b v hb e
 ·cases e':H b with
  | none=>rfl
  | some v =>
    grind
section
variable {D:LD}{cu:Option Str}{n:Str}{r:RU}
theorem jH2:(qN D n r="waits")=(n∈kys D.qu):=propext (by
 unfold qN;by_cases c:n∈kys D.qu
 ·grind
 ·rw [if_neg c];refine⟨fun z=>?_,fun z=>absurd z c⟩;by_cases c1:whl r=true
  ·rw [if_pos c1] at z;exact absurd z (by decide)
  ·rw [if_neg c1] at z;by_cases c2:r.br=true
   ·rw [if_pos c2] at z;exact absurd z (by decide)
   ·rw [if_neg c2] at z;exact absurd z (by decide))
theorem jH3(s:xR D cu (n,r)):(qN D n r="whole")=(whl r=true):=propext (by
 unfold qN;by_cases c:n∈kys D.qu
 ·rw [if_pos c];refine⟨fun z=>absurd z (by decide),fun z=>?_⟩;rcases s with⟨_,_,_,_,s⟩|⟨s,_⟩|⟨s,_⟩
  ·unfold whl at z
   grind
  ·exact absurd c s
  ·exact absurd c s
 ·rw [if_neg c];by_cases c1:whl r=true
  ·grind
  ·rw [if_neg c1];refine⟨fun z=>?_,fun z=>absurd z c1⟩;by_cases c2:r.br=true
   ·rw [if_pos c2] at z;exact absurd z (by decide)
   ·rw [if_neg c2] at z;exact absurd z (by decide))
theorem jPo(s:xR D cu (n,r)):(qN D n r="broken")=(r.br=true):=propext (by
 unfold qN;rcases s with⟨c,_,_,s,_⟩|⟨c,_,_,s1,s2⟩|⟨c,_,_,s⟩
 ·rw [if_pos c,show r.br=false from s];exact⟨fun z=>absurd z (by decide),fun z=>by cases z⟩
 ·rw [if_neg c,show whl r=false from s2,show r.br=false from s1];exact⟨fun z=>absurd z (by decide),fun z=>by cases z⟩
 ·have s':r.br=!whl r:=s;rw [if_neg c,s'];cases whl r with
  | true=>exact⟨fun z=>absurd z (by decide),fun z=>by cases z⟩
  | false=>exact⟨fun _=>rfl,fun _=>rfl⟩)
theorem jKa(s:xR D cu (n,r)):(qN D n r="prints")=(cu=some n):=propext (by
 unfold qN;rcases s with⟨c,s,_⟩|⟨c,s,_,s1,s2⟩|⟨c,s0,_,s⟩
 ·rw [if_pos c];exact⟨fun z=>absurd z (by decide),fun z=>absurd z s⟩
 ·grind
 ·have s':r.br=!whl r:=s;rw [if_neg c,s'];refine⟨fun z=>?_,fun z=>absurd z s0⟩;cases e:whl r with
  | true=>rw [e] at z;exact absurd z (by decide)
  | false=>rw [e] at z;exact absurd z (by decide))
end
theorem put_wD(h:¬ n∈kA ws):oU (wD ws) (Sum.inr n) (.ref a)=wD (ws++[(n,a,ys)]):=by
 rw [jFs (by
  intro z;obtain⟨p,hp,e⟩:=dR.mp z;obtain⟨x,hx,rfl⟩:=dR.mp hp
  exact h (dR.mpr ⟨x,hx,by injection e⟩))]
 unfold wD;rw [eB];rfl
theorem la_at{la:List LaR}{i:Nat}{y:V}(h:((dG Sum.inr mU la).map fun p=>kV p.1)[i]?=some y):∃ p,la[i]?=some p/\y=.str p.1:=by
 unfold dG at h;rw [dU,getElem?_map] at h;obtain⟨p,ep,rfl⟩:=dW.mp h;exact⟨p,ep,rfl⟩
theorem jPp(O:LwOk h D rs ld la ns)(nd:(kys rs).Nodup)(hp:p∈la):∃ r,gL rs p.1=some r/\r.J.af=p.2.2/\(p.1,r)∈rs:=by
 have h1:(p.1,p.2.2)∈rO rs:=by rw [<- O.e];exact dR.mpr ⟨p,hp,rfl⟩
 obtain⟨x,hx,e⟩:=dR.mp h1;have e1:x.1=p.1:=congrArg (·.1) e;have e2:x.2.J.af=p.2.2:=congrArg (·.2) e;refine⟨x.2,?_,e2,by rw [<- e1];exact hx⟩;rw [<- e1];exact jDc nd hx
example jFY(cH cL cP cS cY eQ cJ cB tP:Addr)(K:PySem.W.Frag):∀ h D rs cu ts F w ld nl la ns,vs=[.ref h.x,.ref w]->iY cH cL cP cS cY eQ cJ cB tP H h D rs cu none ts F->xQ H w ld nl la ns->H ld=some (.dK (dG Sum.inr mU la))->LwOk h D rs ld la ns->(∀ t ws H',eR H H'->wQ H' t ws->H' t=some (.dK (wD ws))->kA ws=kys D.qu->(∀ r∈ws,r.2.2=aw rs r.1)->Q (.ref t) H')->jFY cH cL cP cS cY eQ cJ cB tP K:=0
example jLM:Dfn 5 "_law_waits" ["_law_hall","_law_world"] (jFY cQ yX yW yJ yV yG yQ yZ dJ K):=by
 nomatch mJ T.e T.p116,["_law_hall","_law_world","_law_waits_here","_law_name","_law_left","_law_other"]
 obtain⟨h,D,rs,cu,ts,F',w',ld,nl,la,ns,rfl,A,W,hld,O,q⟩:=h;exists _,(eE (psA (i:=2) nZ tZ) (eE (jDa (nY PassesOwn.never rfl (y3 (dgA hu (pv 1) kU)) (pgA (i:=3) nZ) (eI (iK (tcA qL (iX 4 gA hr.m (pv 0) (dN (pv 3) dZ)) kU) (eE (psA (i:=4) nZ (oQ dZ)) (eE (nY PassesOwn.never rfl (oW (dgA hu (dgA hu (pv 1) kU) (pv 3))) (pgA (i:=5) nZ) (eI (iK (PW.pt (wP (sR (jBQ hu (pv 5) (dgA hu (pv 1) kU))) (y6 (tcA jDV (iX 4 gA hr.m (pv 0) (dN (pv 5) dZ)) kU)))) (eI (jU (qV fE PySem.F.slot_list_append PySem.F.type_list_append zD (pv 4) (dN (pv 5) dZ)))) iM))) (eI (tH hu (pv 2) (pv 3) (pv 4) rfl)))) iM)))) (eI (gB (pv 2)))))
 refine fun t nt=>?_;generalize e9:upd H t _=H1;have s1:=nS nt e9;have ht:H1 t=some (.dK (wD [])):=nE e9;have ntl:ld≠t:=gM hld nt;refine⟨ld,_,s1 _ _ hld,fun o=>?_⟩;have sB:eR (upd H ld (.frz o (.dK (dG Sum.inr mU la)))) (upd H1 ld (.frz o (.dK (dG Sum.inr mU la)))):=jLI s1;have zE:upd H1 ld (.frz o (.dK (dG Sum.inr mU la))) t=some (.dK (wD [])):=by rw [eJ (symm ntl)];exact ht
 exists _,rfl,w',_,rfl,(W.cs (tX hld sB).2.2.2.2).laid,ld,o,_,rfl,eO;generalize upd H1 ld (.frz o (.dK (dG Sum.inr mU la)))=G0 at sB zE ⊢;refine jFB (zA (H1:=upd H ld (.frz o (.dK (dG Sum.inr mU la)))) eO) (fun i σ G=>∃ (ws:List mE) (v3 v4 v5:Option V),σ=[some (.ref h.x),some (.ref w'),some (.ref t),v3,v4,v5]/\eR (upd H ld (.frz o (.dK (dG Sum.inr mU la)))) G/\G t=some (.dK (wD ws))/\kA ws=((kys la).take i).filter (fun n=>decide (n∈kys D.qu))/\∀ r∈ws,r.2.2=aw rs r.1/\G r.2.1=some (.lst (r.2.2.map V.str))) ⟨[],_,_,_,rfl,sB,zE,rfl,fun r hr=>(by cases hr)⟩ (fun i σ G z=>let ⟨_,_,_,_,_,z,_⟩:=z;z) (fun i y σ G hy z=>?_) (fun σ G z=>?_)
 ·obtain⟨ws,v3,v4,v5,rfl,sG,hG,en,hw⟩:=z;obtain⟨p,ep,rfl⟩:=la_at hy;have hp:=mem_of_getElem? ep;obtain⟨k,gl,sE,nn,cs⟩:=tX hld sG;have AG:=A.out hld O.nh O.nf k;obtain⟨r,er,ej,qE⟩:=jPp O A.nd hp;have st:=A.s _ qE nofun
  have tk:(kys la).take (i+1)=(kys la).take i++[p.1]:=by
   unfold kys;rw [fZ,getElem?_map,ep];rfl
  refine⟨_,rfl,h.x,_,h.dx,_,_,_,rfl,AG.o,rfl,T.ac,(jBf T),_,rfl,h,D,rs,cu,none,ts,F',p.1,r,rfl,AG,er,fun G1 k1=>⟨rfl,?_⟩⟩;exists _,rfl;by_cases c:p.1∈kys D.qu
  ·refine rW (congrArg V.str (jH2.mpr c)) ?_;refine⟨small (d9 _),fun l xM=>?_⟩;generalize e9:upd G1 l _=G2;have k2:=nS xM e9;have hl2:G2 l=some (.lst (((p.2.2.take 0).filter fun x=>!whN rs x).map V.str)):=nE e9;have sG2:=(sG.trans k1).trans k2;have hG2:=k2 _ _ (k1 _ _ hG);have nlt:t≠l:=gM (k1 _ _ hG) xM;have nlG:=k1.free xM;have nlB:=sG.free nlG;have hw2:∀ r∈ws,r.2.2=aw rs r.1/\G2 r.2.1=some (.lst (r.2.2.map V.str))/\r.2.1≠l:=fun r hr=>⟨(hw r hr).1,k2 _ _ (k1 _ _ (hw r hr).2),gM (k1 _ _ (hw r hr).2) xM⟩
   have gf:∀ {G3:Hp},eR (upd H ld (.frz o (.dK (dG Sum.inr mU la)))) G3->∃ o',G3 p.2.1=some (.frz o' (.lst (p.2.2.map V.str))):=fun s3=>(W.cs (tX hld s3).2.2.2.2).a p hp;have gp:∀ {G3:Hp},eR (upd H ld (.frz o (.dK (dG Sum.inr mU la)))) G3->∀ n,mM G3 ld (.str n) ((gL la n).map mU):=fun s3 n=>yE (.inr ⟨o,(tX hld s3).2.1⟩) n;have ndl:(kys la).Nodup:=by rw [O.kys];exact A.nd
   have elk:gL la p.1=some p.2:=jDc ndl hp;have g0:=gp sG2 p.1;rw [elk] at g0;refine⟨_,rfl,w',_,rfl,(W.cs (tX hld sG2).2.2.2.2).laid,_,rfl,ld,_,rfl,g0,p.2.1,rfl,⟨_,.inl (.inr (gf sG2))⟩,vM (K:=K) (a:=p.2.1) (xs:=p.2.2.map V.str) (fun j σ G3=>(∃ v5,σ=[some (.ref h.x),some (.ref w'),some (.ref t),some (.str p.1),some (.ref l),v5])/\eR (upd H ld (.frz o (.dK (dG Sum.inr mU la)))) G3/\G3 t=some (.dK (wD ws))/\(∀ r∈ws,G3 r.2.1=some (.lst (r.2.2.map V.str)))/\G3 l=some (.lst (((p.2.2.take j).filter fun x=>!whN rs x).map V.str))) ⟨⟨_,rfl⟩,sG2,hG2,fun r hr=>(hw2 r hr).2.1,hl2⟩ (fun j σ G3 _ z=>.inl (.inr (gf z.2.1))) (fun j y σ G3 hy z=>?_) (fun σ G3 z=>?_)⟩
   ·obtain⟨⟨v5,rfl⟩,s3,vX,hw3,q8⟩:=z;rw [getElem?_map] at hy;obtain⟨u,eu,rfl⟩:=dW.mp hy;have tk2:p.2.2.take (j+1)=p.2.2.take j++[u]:=by rw [fZ,eu];rfl
    have l3:=O.m p hp;have l9:((p.2.2.take j).filter fun x=>!whN rs x).length<=3:=eM (eA _ _) (eM (i7 _ _) l3);have go:∀ G4,eR G3 G4->whN rs u=false->eR (upd H ld (.frz o (.dK (dG Sum.inr mU la)))) (upd G4 l (.lst (((p.2.2.take j).filter fun x=>!whN rs x).map V.str++[V.str u])))/\upd G4 l (.lst (((p.2.2.take j).filter fun x=>!whN rs x).map V.str++[V.str u])) t=some (.dK (wD ws))/\(∀ r∈ws,upd G4 l (.lst (((p.2.2.take j).filter fun x=>!whN rs x).map V.str++[V.str u])) r.2.1=some (.lst (r.2.2.map V.str)))/\upd G4 l (.lst (((p.2.2.take j).filter fun x=>!whN rs x).map V.str++[V.str u])) l=some (.lst (((p.2.2.take (j+1)).filter fun x=>!whN rs x).map V.str)):=fun G4 s4 nw=>by
     refine⟨tY nlB (s3.trans s4) _,by rw [eJ nlt];exact s4 _ _ vX,fun r hr=>by rw [eJ (hw2 r hr).2.2];exact s4 _ _ (hw3 r hr),?_⟩;rw [eO,tk2,eZ,gE,if_pos (by rw [nw];rfl),eB];rfl
    exists _,rfl,_,rfl,w',_,rfl,(W.cs (tX hld s3).2.2.2.2).laid,ld,_,rfl,gp s3 u,_,rfl;cases eu2:gL la u with
    | none =>
      have nw:whN rs u=false:=by
       have:gL rs u=none:=jB_.mpr fun z=>jB_.mp eu2 (by have e:=O.kys;unfold kys at e;rw [e];exact z);unfold whN;rw [this]
      obtain⟨i1,i2,i3,i4⟩:=go G3 (eR.refl _) nw;exact kL ⟨_,rfl,.inl ⟨rfl,_,SqL.of q8⟩,_,rfl,l,_,_,rfl,rfl,q8,kZ (by rw [c7];omega),⟨⟨_,rfl⟩,i1,i2,i3,i4⟩⟩
    | some x =>
      have A3:=A.out hld O.nh O.nf (tX hld s3).1;obtain⟨ru,er2,_,sT⟩:=jPp O A.nd (nQ eu2);have xJ:=A.s _ sT nofun
      refine hV ⟨_,rfl,h.x,_,h.dx,_,_,_,rfl,A3.o,rfl,T.ac,(jBf T),_,rfl,h,D,rs,cu,none,ts,F',u,ru,rfl,A3,er2,fun G4 k4=>⟨rfl,?_⟩⟩;exists _,rfl;by_cases cw:whl ru=true
      ·refine jKz (congrArg V.str ((jH3 xJ).mpr cw)) ⟨⟨_,rfl⟩,s3.trans k4,k4 _ _ vX,fun r hr=>k4 _ _ (hw3 r hr),?_⟩;rw [tk2,eZ,gE,if_neg (by rw [jGE er2,cw];decide),hX,gQ];exact k4 _ _ q8
      ·obtain⟨i1,i2,i3,i4⟩:=go G4 k4 (by rw [jGE er2];cases e:whl ru with|true=>exact absurd e cw|false=>rfl);exact iteNN (fun z=>cw ((jH3 xJ).mp (by injection z))) ⟨_,rfl,.inl ⟨rfl,_,SqL.of (k4 _ _ q8)⟩,_,rfl,l,_,_,rfl,rfl,k4 _ _ q8,kZ (by rw [c7];omega),⟨⟨_,rfl⟩,i1,i2,i3,i4⟩⟩
   ·obtain⟨⟨v5,rfl⟩,s3,vX,hw3,q8⟩:=z;rw [c7,h9] at q8;have np:¬ p.1∈kA ws:=by
     rw [en];intro z;have ek:(kys la)[i]?=some p.1:=by unfold kys;rw [getElem?_map,ep];rfl
     exact jFz ndl ek (iL.mp z).1
    have lw:ws.length<=11:=by
     have:=congrArg List.length en;unfold kA at this;rw [c7] at this;have h2:=eA (fun n=>decide (n∈kys D.qu)) ((kys la).take i);have h3:=i7 i (kys la);have h4:(kys la).length=la.length:=c7 _;have:=O.n;omega
    refine⟨_,rfl,_,rfl,_,rfl,t,_,rfl,wO.k (k:=Sum.inr p.1) vX (kZ (by unfold wD;rw [c7];omega)),?_⟩;rw [put_wD (ys:=(p.2.2.filter fun x=>!whN rs x)) np];have ntB:(upd H ld (.frz o (.dK (dG Sum.inr mU la)))) t=none:=by rw [eJ (symm ntl)];exact nt
    refine⟨ws++[(p.1,l,p.2.2.filter fun x=>!whN rs x)],_,_,_,rfl,tY ntB s3 _,eO,?_,fun r' uA=>?_⟩
    ·rw [tk,eZ,gE,if_pos (decide_eq_true c),hX];unfold kA at en ⊢;rw [eB,en];rfl
    ·rcases eN.mp uA with z|z
     ·exact⟨(hw2 r' z).1,by rw [eJ (fN (hw3 r' z) vX nofun)];exact hw3 r' z⟩
     ·rw [mem_singleton.mp z];refine⟨by rw [zQ er];unfold awL;rw [ej],by rw [eJ (symm nlt)];exact q8⟩
  ·refine rY (fun z=>c (jH2.mp (by injection z))) ⟨ws,_,_,_,rfl,sG.trans k1,k1 _ _ hG,?_,fun r hr=>⟨(hw r hr).1,k1 _ _ (hw r hr).2⟩⟩;rw [tk,eZ,gE,if_neg (by rw [decide_eq_false c];decide),hX,gQ];exact en
 ·obtain⟨ws,v3,v4,v5,rfl,sG,hG,en,hw⟩:=z;obtain⟨k,gl,sE,nn,cs⟩:=tX hld sG;have ll:((dG Sum.inr mU la).map fun p=>kV p.1).length=(kys la).length:=by
   rw [c7,jDd];exact (c7 _).symm
  rw [ll,h9,O.kys,<- A.q] at en;have hG':upd G ld (.dK (dG Sum.inr mU la)) t=some (.dK (wD ws)):=by rw [eJ (symm ntl)];exact hG
  refine⟨gl,_,rfl,q t ws _ sE ⟨.inl hG',fun r hr=>?_,?_,?_,fun r hr=>?_⟩ hG' en fun r hr=>(hw r hr).1⟩
  ·rw [eJ (fN (hw r hr).2 gl nofun)];exact (hw r hr).2
  ·rw [en,A.q];exact A.nd.sublist hU
  ·have e1:=congrArg List.length en;unfold kA at e1;rw [c7,A.q] at e1;have h2:=eA (fun n=>decide (n∈kys D.qu)) (kys rs);have h4:(kys la).length=la.length:=c7 _;have h5:=congrArg List.length O.kys;have:=O.n;omega
  ·rw [(hw r hr).1];exact eM (jPn A.R r.1) (by decide)
theorem brL_fil(nd:(kys rs).Nodup):(kys rs).filter (fun n=>match gL rs n with|some r=>r.br|none=>false)=tL rs:=by
 unfold tL kys;rw [i0];refine congrArg _ (gO fun p hp=>?_);show (match gL rs p.1 with|some r=>r.br|none=>false)=_;rw [jDc nd hp]
noncomputable def Sim(ws ws':List mE):Prop:=(ws.map fun r=>(r.1,r.2.2))=ws'.map fun r=>(r.1,r.2.2)
theorem Sim.nm(s:Sim ws ws'):kA ws=kA ws':=by
 have:=congrArg (map (·.1)) s;rw [dU,dU] at this;exact this
theorem Sim.at(s:Sim ws ws')(h:r∈ws):∃ r'∈ws',r'.1=r.1/\r'.2.2=r.2.2:=by
 have:(r.1,r.2.2)∈ws'.map fun r=>(r.1,r.2.2):=by rw [<- show _=_ from s];exact dR.mpr ⟨r,h,rfl⟩
 grind
theorem Sim.der(s:Sim ws ws')(d:Der ws E n):Der ws' E n:=by
 induction d with
 | mk r hr h1 _ ih =>
   obtain⟨r',h',e1,e2⟩:=s.at hr;rw [<- e1];exact .mk r' h' (by rw [e2];exact h1) fun o ho hm=>ih o (by rw [<- e2];exact ho) (by rw [s.nm];exact hm)
theorem Sim.par(s:Sim ws ws')(p:Par ws E F):Par ws' E F:=⟨fun n hn=>by rw [<- s.nm];exact p.sub n hn,p.nd,fun n hn=>s.der (p.der n hn)⟩
theorem Sim.fix(s:Sim ws ws')(f:Fix ws E F):Fix ws' E F:=fun r hr nr e=>by
 obtain⟨r',h',e1,e2⟩:=Sim.at (ws:=ws') (ws':=ws) (Eq.symm s) hr;refine f r' h' (by rw [e1];exact nr) ?_;rw [e2];have eb:t6 ws E F=t6 ws' E F:=by
  funext o;unfold t6;rw [s.nm]
 unfold vC at e ⊢;rw [eb];exact e
theorem Sim.chain(s:Sim ws ws')(h:xY ws E n c):xY ws' E n c:=by
 obtain⟨d,l,rfl,W,hl,hE⟩:=h;have lk:∀ a o,Link ws a o->Link ws' a o:=fun a o ⟨r,hr,e,ho⟩=>by
  obtain⟨r',h',e1,e2⟩:=s.at hr;exact⟨r',h',e1.trans e,by rw [e2];exact ho⟩
 exact⟨d,l,rfl,⟨W.h0,W.nd,fun x hx=>by rw [<- s.nm];exact W.sub x hx,fun k a b e1 e2=>lk a b (W.lk k a b e1 e2)⟩,fun a ha=>lk a l (hl a ha),hE⟩
theorem jPq{ws ws':List mE}{g:Str->List Str}(e:kA ws=kA ws')(h:∀ r∈ws,r.2.2=g r.1)(h':∀ r∈ws',r.2.2=g r.1):Sim ws ws':=by
 have k:∀ {ws:List mE},(∀ r∈ws,r.2.2=g r.1)->(ws.map fun r=>(r.1,r.2.2))=(kA ws).map fun n=>(n,g n):=fun {ws} h=>by
  unfold kA;rw [dU];exact eT fun r hr=>by rw [h r hr];rfl
 unfold Sim;rw [k h,k h',e]
theorem jLN:∀ {ds:List (Str×Addr)} {r:Str×Addr},(ds.map (·.1)).Nodup->r∈ds->lI (dD ds) (Sum.inr r.1)=some (.ref r.2)
 | [],_,_,h=>by cases h
 | s::ds,r,nd,h=>by
   obtain⟨n1,n2⟩:=fF.mp nd;unfold lI dD;rw [eW,find?_cons];by_cases e:s.1=r.1
   ·rw [e,decide_eq_true rfl];rcases dX.mp h with z|z
    ·rw [z];rfl
    ·exact absurd (dR.mpr ⟨r,z,e.symm⟩) n1
   ·rw [decide_eq_false (fun z=>e (by injection z))];rcases dX.mp h with z|z
    ·exact absurd (congrArg (·.1) z.symm) e
    ·exact jLN n2 z
theorem jKb(c:List Str):jEg (c.map V.str) (c.map V.str)=true:=by
 unfold jEg;rw [beq_self_eq_true,Bool.true_and];refine gZ.mpr fun j hj=>?_;rw [iW,c7] at hj;rw [getD_eq_getElem?_getD,getElem?_map,getElem?_eq_getElem hj];show (c[j]==c[j])=true;exact beq_self_eq_true _
theorem jNg:((dD ds).map fun p=>kV p.1)=(ds.map (·.1)).map V.str:=by
 unfold dD;rw [dU,dU];rfl
theorem x9{l ys:List V}(hl:ys.length=l.length)(h:∀ (i:Nat) x y,l[i]?=some x->ys[i]?=some y->y=x):ys=l:=by
 refine List.ext_getElem? fun i=>?_;by_cases c:i<l.length
 ·have e1:=getElem?_eq_getElem c;have e2:=getElem?_eq_getElem (hl ▸ c:i<ys.length);rw [e1,e2,h i _ _ e1 e2]
 ·rw [getElem?_eq_none (by omega),getElem?_eq_none (by omega)]
noncomputable def wdB(D:LD)(rs:List (Str×RU))(f:Str->Bool)(n:Str):Bool:=match gL rs n with
 | some r=>f (qN D n r)
 | none=>false
theorem jI3(e:gL rs n=some r):wdB D rs f n=f (qN D n r):=by
 unfold wdB;rw [e]
noncomputable def pWd(D:LD)(rs:List (Str×RU))(f:Str->Bool):V->Bool
 | .str n=>wdB D rs f n
 | _=>false
theorem jCQ:((dG Sum.inr mU la).map fun p=>kV p.1)=(kys la).map V.str:=by
 unfold dG kys;rw [dU,dU];rfl
theorem jLO(e:gL rs n=some r):pWd D rs f (.str n)=f (qN D n r):=jI3 e
theorem dec_str:decide (V.str a=V.str b)=decide (a=b):=by
 grind
theorem jJB{D:LD}{rs:List (Str×RU)}{f:Str->Bool}{l:List Str}:(l.map V.str).filter (pWd D rs f)=(l.filter (wdB D rs f)).map V.str:=by
 rw [i0];rfl
example jFZ(cH cL cP cS cY eQ cJ cB tP:Addr)(K:PySem.W.Frag):∀ h D rs cu ts F w ld nl la ns,vs=[.ref h.x,.ref w]->iY cH cL cP cS cY eQ cJ cB tP H h D rs cu none ts F->xQ H w ld nl la ns->H ld=some (.dK (dG Sum.inr mU la))->LwOk h D rs ld la ns->(∀ H',eR H H'->Q (.bl true) H')->jFZ cH cL cP cS cY eQ cJ cB tP K:=0
example jLP:Dfn 7 "_law_asked" ["_law_hall","_law_world"] (jFZ cQ yX yW yJ yV yG yQ yZ dJ K):=by
 nomatch mJ T.e T.p119,["_law_hall","_law_world","_law_waits_here","_law_broken","_law_due","_law_found","_law_name","_law_again"]
 obtain⟨h,D,rs,cu,ts,F',w',ld,nl,la,ns,rfl,A,W,hld,O,q⟩:=h;have hu0:=hr.units0;have lrs:rs.length<=11:=by
  have h4:(kys la).length=la.length:=c7 _;have h5:=congrArg List.length O.kys;have h6:(kys rs).length=rs.length:=c7 _;have:=O.n;omega
 have qn:(kys D.qu).Nodup:=by rw [A.q];exact A.nd.sublist hU
 have lq:D.qu.length<=11:=by
  have h6:(kys D.qu).length=D.qu.length:=c7 _;have h7:(kys rs).length=rs.length:=c7 _;have h8:=congrArg List.length A.q;have h2:=eA (fun n=>decide (n∈kys D.qu)) (kys rs);omega
 exists _,(eE (psA (i:=2) nZ (jV (jLM T) hr.m rfl (dN (pv 0) (dN (pv 1) dZ)))) (eE (jDa (jD3 (i:=3) (frees:=[ ("_law_hall",0) ]) ⟨by decide +kernel,rfl,rfl,by decide +kernel,⟨⟨rfl,rfl,rfl,by decide +kernel⟩,trivial⟩,by decide +kernel,oX rfl,rfl⟩ nZ rfl rfl rfl (y3 (dgA hu (pv 1) kU)) (fun _ _ _ _=>by exact (vS (tcA qL (jCh (P:=P) (w:=w) (K:=K) (mg:=mg) (base:=base) ⟨rfl,rfl,rfl,rfl,rfl⟩ 4 gA hr.m (pv 1) (dN (pv 0) dZ)) kU))) (fun _ _ _ _=>by exact (pv 0)))) (eE (psA (i:=4) nZ (jV (jLL T) hr.m rfl (dN (pv 2) (dN (pv 3) dZ)))) (eE (psA (i:=5) nZ (kT 6 gA hr.m (pv 0))) (eE (iK (PW.pt (wP (qM (mD (nK jHz rfl T.aX jKX (dN (pv 5) (dN (jI5 rfl T.av jCO (jKZ _)) dZ))) (fun _=>rfl))) (y6 (tcA (jIf hu0) (rG (jCe rfl) rfl T.ar jCu (dN (pv 5) dZ)) (pv 4))))) (eI (gB o8)) iM) (eE (nY PassesOwn.never rfl (oW (pv 4)) (pgA (i:=6) nZ) (eI (iK (qM (mD (jV (jG8 T) hr.m rfl (dN (pv 2) (dN (pv 3) (dN (pv 6) (dN (dgA hu (pv 5) (pv 6)) dZ))))) (fun _=>rfl))) (eI (gB o8)) iM))) (eE (nY PassesOwn.never rfl (oW (pv 4)) (pgA (i:=6) nZ) (eI (jU (jKN fE PySem.F.slot_list_clear PySem.F.type_list_clear jPz (dgA hu (pv 5) (pv 6)))))) (eE (tH hu (pv 5) kU (oQ dZ) rfl) (eE (psA (i:=7) nZ (kT 6 gA hr.m (pv 0))) (eI (gB (jD7 (ecA (jFr hu0) (rG (jCe rfl) rfl T.ar jCu (dN (pv 7) dZ)) (pv 4)) (jCT (jCs (jK8 hu) (oQ dZ) (rG (jE6 rfl) rfl T.ar jCu (dN (jKN gX iV kO jJW (pv 7)) dZ)) rfl))))))))))))))
 refine⟨_,rfl,_,rfl,h,D,rs,cu,ts,F',w',ld,nl,la,ns,rfl,A,W,hld,O,fun wa ws H1 s1 Wa t8 enm erow=>?_⟩;have zH:=s1 _ _ hld;refine⟨ld,_,zH,fun o=>?_⟩;have A1:=A.same s1;have W1:=W.cs (jCv s1);have cB:oR H1 (upd H1 ld (.frz o (.dK (dG Sum.inr mU la)))):=(tX zH (eR.refl _)).2.2.2.2;exists _,rfl,w',_,rfl,(W1.cs cB).laid,ld,o,_,rfl,eO;refine jC5 (zA eO) (pWd D rs fun z=>decide (z="broken")) (fun x y _=>y=x) (by rw [jCQ,c7,O.kys];exact kZ (by have:(kys rs).length=rs.length:=c7 _;omega)) (fun x hx G R sG rr=>?_) (fun x hx G R sG _ rr=>⟨_,rfl,rr _ _ (eR.refl _) (jIR fun _=>rfl)⟩) (fun C G ys sG nC hC ly gy=>?_)
 ·rw [jCQ,O.kys] at hx;obtain⟨n,hn,rfl⟩:=dR.mp hx;obtain⟨r,er⟩:=mO hn;have AG:=A1.out zH O.nh O.nf (tX zH sG).1;refine⟨_,rfl,h.x,_,h.dx,_,_,_,rfl,AG.o,rfl,T.ac,(jBf T),_,rfl,h,D,rs,cu,none,ts,F',n,r,rfl,AG,er,fun G1 k1=>⟨rfl,?_⟩⟩;exists _,rfl;rw [dec_str];have:=rr G1 k1;rw [jLO er] at this;exact this
 obtain⟨k,gl,sE,nn,cs⟩:=tX zH sG;have eys:=x9 ly gy
 rw [jCQ,O.kys,jJB,show (kys rs).filter (wdB D rs fun z=>decide (z="broken"))=tL rs from (by
  rw [<- brL_fil A.nd];refine gO fun n hn=>?_;obtain⟨r,er⟩:=mO hn;rw [er,jI3 er];have:=jPo (A.s (n,r) (nQ er) nofun);show decide (qN D n r="broken")=r.br;cases hb:r.br with
  | true=>exact decide_eq_true (this.mpr hb)
  | false=>exact decide_eq_false fun z=>(by rw [this.mp z] at hb;cases hb))] at eys
 rw [eys] at hC;have nCl:C≠ld:=fun z=>by rw [z,eO] at nC;cases nC
 exists gl;have hC2:upd G ld (.dK (dG Sum.inr mU la)) C=some (.lst ((tL rs).map V.str)):=by rw [eJ nCl];exact hC
 generalize upd G ld _=H2 at sE hC2 ⊢;have s2:=s1.trans sE;refine⟨_,rfl,_,rfl,wa,C,ws,tL rs,rfl,Wa.same sE,sE _ _ t8,hC2,fun da Fd H3 s3 nda hda PF FF=>?_⟩;have nX:=s2.trans s3;have A3:=A.same nX;refine⟨_,rfl,h.x,_,h.dx,_,_,_,rfl,A3.o,rfl,T.ac,(jEE T),h,D,rs,cu,ts,F',rfl,A3,by omega,qn,by omega,fun t ws2 F2 ds H4 s4 enm2 erow2 PF2 FF2 Tl=>?_⟩;have sim:Sim ws2 ws:=jPq (enm2.trans enm.symm) erow2 erow;have edue:ds.map (·.1)=(kA ws).filter fun n=>!decide (n∈Fd):=Tl.k.trans (by rw [sim.nm];exact jHv (sim.par PF2) (sim.fix FF2) PF FF _);rw [<- edue] at hda;have ndd:(ds.map (·.1)).Nodup:=by rw [edue];exact Wa.nd.sublist hU
 have ld60:ds.length<=60:=by
  have h1:=congrArg List.length edue;rw [c7] at h1;have h2:=eA (fun n=>!decide (n∈Fd)) (kA ws);have h3:(kA ws).length=ws.length:=by unfold kA;rw [c7]
  have:=Wa.n;omega
 refine⟨_,rfl,_,_,_,true,rfl,uN.dK Tl.d,jHA _,true,rfl,hV ?_⟩;refine⟨_,rfl,t,_,rfl,Tl.d,fun l nl=>?_⟩;have s5:=iS nl (.lst ((dD ds).map fun p=>kV p.1));have vZ:upd H4 l (.lst ((dD ds).map fun p=>kV p.1)) l=some (.lst ((ds.map (·.1)).map V.str)):=by rw [eO,jNg]
 generalize upd H4 l (.lst ((dD ds).map fun p=>kV p.1))=H5 at s5 vZ ⊢;have s35:=s4.trans s5;have s05:=nX.trans s35;have hda5:=s35 _ _ hda;exists _,rfl,l,da,_,_,rfl,rfl,SqL.of vZ,SqL.of hda5,sS _,sS _,_,rfl;rw [if_pos rfl,jKb];have Wa5:=Wa.same ((sE.trans s3).trans s35);have hC5:=(s3.trans s35) _ _ hC2;have Ck5:∀ r∈ds,∃ c:List Str,H5 r.2=some (.lst (c.map V.str))/\xY ws (tL rs) r.1 c/\c.length<=61:=fun r hr=>by
  obtain⟨_,c,h1,h2,h3⟩:=Tl.l r hr;exact⟨c,s5 _ _ h1,sim.chain h2,h3⟩
 refine hV ⟨_,rfl,da,rfl,⟨_,SqL.of hda5⟩,?_⟩;refine vM (K:=K) (a:=da) (xs:=(ds.map (·.1)).map V.str) (fun i σ G=>(∃ v6,σ=[some (.ref h.x),some (.ref w'),some (.ref wa),some (.ref C),some (.ref da),some (.ref t),v6,none])/\eR H5 G) ⟨⟨_,rfl⟩,eR.refl _⟩ (fun i σ G _ z=>SqL.of (z.2 _ _ hda5)) (fun i y σ G hy z=>?_) (fun σ G z=>?_)
 ·obtain⟨⟨v6,rfl⟩,sm⟩:=z;rw [getElem?_map,getElem?_map] at hy;obtain⟨n,en,rfl⟩:=dW.mp hy;obtain⟨r,er,rfl⟩:=dW.mp en;have mem:=mem_of_getElem? er;obtain⟨c,hc,Ck,lc⟩:=Ck5 r mem;have g:=vH (.inl (sm _ _ (s5 _ _ Tl.d))) r.1;rw [jLN ndd mem] at g;exact⟨_,rfl,_,rfl,_,rfl,_,rfl,_,rfl,t,_,rfl,g,wa,C,r.2,ws,tL rs,r.1,c,rfl,Wa5.same sm,sm _ _ hC5,sm _ _ hc,Ck,lc,fun H6 s6=>⟨true,rfl,hV ⟨⟨_,rfl⟩,sm.trans s6⟩⟩⟩
 obtain⟨⟨v6,rfl⟩,sm6⟩:=z;have nt3:=Tl.nt;have s36:=s35.trans sm6;exists _,rfl,da,rfl,⟨_,SqL.of (s36 _ _ hda)⟩
 refine vM (K:=K) (a:=da) (xs:=(ds.map (·.1)).map V.str) (fun i σ G=>(∃ v6,σ=[some (.ref h.x),some (.ref w'),some (.ref wa),some (.ref C),some (.ref da),some (.ref t),v6,none])/\eR H3 G/\G t=some (.dK (dD ds))/\∀ r∈ds,∃ c:List V,G r.2=some (.lst c)/\c.length<=61) ⟨⟨_,rfl⟩,s36,sm6 _ _ (s5 _ _ Tl.d),fun r hr=>?_⟩ (fun i σ G _ z=>SqL.of (z.2.1 _ _ hda)) (fun i y σ G hy z=>?_) (fun σ G z=>?_)
 ·obtain⟨c,hc,_,lc⟩:=Ck5 r hr;exact⟨_,sm6 _ _ hc,by rw [c7];exact lc⟩
 ·obtain⟨⟨v6,rfl⟩,sm,ht,hcs⟩:=z;rw [getElem?_map,getElem?_map] at hy;obtain⟨n,en,rfl⟩:=dW.mp hy;obtain⟨r,er,rfl⟩:=dW.mp en;have mem:=mem_of_getElem? er;obtain⟨c,hc,lc⟩:=hcs r mem;have g:=vH (.inl ht) r.1;rw [jLN ndd mem] at g;have nr0:H3 r.2=none:=(Tl.l r mem).1;exists _,rfl,_,rfl,t,_,rfl,g,.inl ⟨rfl,_,SqL.of hc⟩,r.2,_,rfl,rfl,hc;refine⟨⟨_,rfl⟩,tY nr0 sm _,?_,fun r' uA=>?_⟩
  ·rw [eJ (fN ht hc nofun)];exact ht
  ·by_cases e:r'.2=r.2
   ·rw [e,eO];exact⟨[],rfl,d9 _⟩
   ·rw [eJ e];exact hcs r' uA
 obtain⟨⟨v6',rfl⟩,sm,ht,_⟩:=z;refine⟨small (d9 _),fun l3 sM=>?_⟩;have s7:=iS sM (.lst []);generalize upd G l3 (.lst [])=H7 at s7 ⊢;refine⟨_,rfl,t,_,rfl,wO.k (k:=Sum.inr (c9 "abc")) (s7 _ _ ht) (kZ (by unfold dD;rw [c7];omega)),?_⟩;have s8:=tY nt3 (sm.trans s7) (.dK (oU (dD ds) (Sum.inr (c9 "abc")) (.ref l3)));generalize upd H7 t _=H8 at s8 ⊢;have A8:=A3.same s8;refine⟨_,rfl,h.x,_,h.dx,_,_,_,rfl,A8.o,rfl,T.ac,(jEE T),h,D,rs,cu,ts,F',rfl,A8,by omega,qn,by omega,fun t9 ws9 F9 ds9 H9 s9 enm9 erow9 PF9 FF9 Tl9=>?_⟩;have sim9:Sim ws9 ws:=jPq (enm9.trans enm.symm) erow9 erow;have edue9:ds9.map (·.1)=ds.map (·.1):=(Tl9.k.trans (by rw [sim9.nm];exact jHv (sim9.par PF9) (sim9.fix FF9) PF FF _)).trans edue.symm;refine⟨_,rfl,t9,_,rfl,Tl9.d,fun l9 nl9=>?_⟩;have xK:=iS nl9 (.lst ((dD ds9).map fun p=>kV p.1));have hl10:upd H9 l9 (.lst ((dD ds9).map fun p=>kV p.1)) l9=some (.lst ((ds.map (·.1)).map V.str)):=by rw [eO,jNg,edue9]
 generalize upd H9 l9 (.lst ((dD ds9).map fun p=>kV p.1))=H10 at xK hl10 ⊢;have s310:=(s8.trans s9).trans xK;exists _,rfl,l9,da,_,_,rfl,rfl,SqL.of hl10,SqL.of (s310 _ _ hda),sS _,sS _;rw [if_neg (by decide),jKb];refine⟨true,rfl,kL ⟨small (d9 _),fun em xN=>?_⟩⟩;generalize e9:upd H10 em _=H11;have s11:=nS xN e9;have he11:=nE e9;have hd11:=s11 _ _ (xK _ _ Tl9.d);refine⟨_,rfl,.inr (.inr (.inl ⟨rfl,.inl ⟨_,hd11⟩⟩)),t9,_,rfl,rfl,hd11,fun v nv=>?_⟩;generalize e9:upd H11 v _=H12;have vF:=nS nv e9;have hv12:=nE e9;refine⟨v,t9,_,rfl,hv12,vF _ _ hd11,fun p np=>?_⟩;generalize e9:upd H12 p _=H13;have s13:=nS np e9;have hp13:=nE e9;have s913:=((xK.trans s11).trans vF).trans s13;refine⟨em,[],p,_,rfl,rfl,SqL.of ((vF.trans s13) _ _ he11),SqL.of hp13,fun x hx=>?_,q _ (((nX.trans s8).trans s9).trans s913)⟩;obtain⟨y,hy,rfl⟩:=dR.mp hx;obtain⟨r,hr9,rfl⟩:=dR.mp hy;obtain⟨_,c,h1,h2,h3⟩:=Tl9.l r hr9;exists r.2,c.map V.str,rfl,gM (xK _ _ h1) xN,SqL.of (s913 _ _ h1);obtain⟨_,_,_,_,h0,_⟩:=h2.facts;cases c with
 | nil=>cases h0
 | cons x c=>exact fun z=>by cases z
noncomputable def ScK(K:PySem.W.Frag)(H:Hp)(a:Addr)(h:HAd)(D:LD):Prop:=∃ ns:List Int,ns.length<=63/\((H a=some (.lst (ns.map V.int))/\¬ LF h.L D a/\¬ a∈oA h)\/(∃ o,H a=some (.frz o (.lst (ns.map V.int))))\/SqL K (fun _=>none) a (ns.map V.int))
section
variable {cH cL cP cS cY eQ cJ cB tP:Addr}{K:PySem.W.Frag}{a:Addr}{H H':Hp}{h:HAd}{D D':LD}{rs mL:List (Str×RU)}{cu cu':Option Str}{ts ts':List V}{F F':Fu}{w ld nl:Addr}{la:List LaR}{ns:List Str}
theorem ScK.scr(s:ScK K H a h D):Scr K H a:=by
 obtain⟨ns,l,h|⟨o,h⟩|(h|⟨o,h⟩)|h⟩:=s
 ·exact⟨ns,.inl (.inl h.1),l⟩
 ·exact⟨ns,.inl (.inr ⟨o,h⟩),l⟩
 ·cases h
 ·cases h
 ·exact⟨ns,.inr h,l⟩
theorem ScK.kp(s:ScK K H a h D)(k1:∀ b u,Cst u->H b=some u->H' b=some u)(k2:∀ xs,¬ LF h.L D a->¬ a∈oA h->H a=some (.lst xs)->H' a=some (.lst xs))(g:∀ b o,LF h.L D' b->H b=some o->LF h.L D b):ScK K H' a h D':=by
 obtain⟨ns,l,⟨h,n1,n2⟩|⟨o,h⟩|h⟩:=s
 ·exact⟨ns,l,.inl ⟨k2 _ n1 n2 h,fun z=>n1 (g _ _ z h),n2⟩⟩
 ·exact⟨ns,l,.inr (.inl ⟨o,k1 _ _ jER h⟩)⟩
 ·exact⟨ns,l,.inr (.inr h)⟩
structure LB(cH cL cP cS cY eQ cJ cB tP:Addr)(K:PySem.W.Frag)(a:Addr)(H:Hp)(h:HAd)(D:LD)(rs:List (Str×RU))(cu:Option Str)(ts:List V)(F:Fu)(w ld nl:Addr)(la:List LaR)(ns:List Str):Prop where
 A:iY cH cL cP cS cY eQ cJ cB tP H h D rs cu none ts F
 W:xQ H w ld nl la ns
 l:H ld=some (.dK (dG Sum.inr mU la))
 O:LwOk h D rs ld la ns
 sc:ScK K H a h D
theorem LB.same(B:LB cH cL cP cS cY eQ cJ cB tP K a H h D rs cu ts F w ld nl la ns)(s:eR H H'):LB cH cL cP cS cY eQ cJ cB tP K a H' h D rs cu ts F w ld nl la ns :=
 ⟨B.A.same s,B.W.cs (jCv s),s _ _ B.l,B.O,B.sc.kp (fun b u _ e=>s b u e) (fun _ _ _ e=>s _ _ e) fun _ _ z _=>z⟩
theorem LB.hall(B:LB cH cL cP cS cY eQ cJ cB tP K a H h D rs cu ts F w ld nl la ns)(A':iY cH cL cP cS cY eQ cJ cB tP H' h D' mL cu' none ts' F')(f:HFr tP h D H H')(g:∀ b o,LF h.L D' b->H b=some o->LF h.L D b)(e:rO mL=rO rs):LB cH cL cP cS cY eQ cJ cB tP K a H' h D' mL cu' ts' F' w ld nl la ns:=by
 obtain⟨ps,tp⟩:=B.A.tab.is;have c:=f.cs B.A;refine⟨A',B.W.cs c,f _ _ (fN B.l tp nofun) B.O.nh B.O.nf (by intro C d fs z;cases z) B.l,{ B.O with e:=B.O.e.trans e.symm,nf:=fun z=>B.O.nf (g _ _ z B.l) },B.sc.kp c (fun xs n1 n2 e=>f _ _ (fN e tp nofun) n2 n1 (by intro C d fs z;cases z) e) g⟩
theorem LB.lrs(B:LB cH cL cP cS cY eQ cJ cB tP K a H h D rs cu ts F w ld nl la ns):rs.length=la.length:=by
 have h5:=congrArg List.length B.O.kys;unfold kys at h5
 grind
theorem LB.lqu(B:LB cH cL cP cS cY eQ cJ cB tP K a H h D rs cu ts F w ld nl la ns):D.qu.length<=11:=by
 have h6:(kys D.qu).length=D.qu.length:=c7 _;have h7:(kys rs).length=rs.length:=c7 _;have h8:=congrArg List.length B.A.q;have h2:=eA (fun n=>decide (n∈kys D.qu)) (kys rs);have:=B.lrs;have:=B.O.n;omega
structure LG(D:LD)(F:Fu)(n:Nat):Prop where
 O:D.Ok
 ra:kys D.ra=[c9 "boss"]
 zm:D.ma.length<=n
 zn:∀ p∈D.no,p.2.2.length<=n
 f:100000<=F.f+100*n
 u:F.u<=100*n
 v:F.v<=2+200*n
theorem LG.up(G:LG D F n)(h:n<=m):LG D F m:={ G with zm:=eM G.zm h,zn:=fun p hp=>eM (G.zn p hp) h,f:=by have:=G.f;omega,u:=by have:=G.u;omega,v:=by have:=G.v;omega }
theorem LG.le(G:LG D F n)(h:F.le F' k)(hk:k<=100):LG D F' (n+1):={ G.up (iF n) with f:=by have:=G.f;have:=h.1;omega,u:=by have:=G.u;have:=h.2.1;omega,v:=by have:=G.v;have:=h.2.2;omega }
theorem LB.Z(B:LB cH cL cP cS cY eQ cJ cB tP K a H h D rs cu ts F w ld nl la ns)(G:LG D F n)(hn:n<=900):D.Z:=by
 have e0:=congrArg List.length G.ra;unfold kys at e0;rw [c7] at e0;have e0':D.ra.length=1:=e0;have e1:=jFf G.O.sk;have e2:=jFf G.O.lk;have e3:=jFf G.O.oc;have e4:=jFf G.O.on;have e5:=jFf B.A.kr;have z1:=B.lrs;have z2:=B.lqu;have z3:=G.zm;have z4:=B.O.n;exact⟨by omega,by omega,by omega,by omega,by omega,by omega,by omega,by omega,fun p hp=>by have:=G.zn p hp;omega⟩
theorem LG.lay{n:Nat}{nm:Str}{c l r:Int}{t:Addr}(G:LG D F n)(hn:¬ nm∈kys D.ow):LG (wM D nm "boss" c l r t) F (n+1):=by
 refine { G.up (iF n) with O:=G.O.lay (by rw [G.ra];exact mem_singleton.mpr rfl) hn,ra:=G.ra,zm:=eM G.zm (iF n),zn:=fun e he=>?_ };rcases jDu he with he|rfl
 ·exact eM (G.zn e he) (iF n)
 ·exact d9 _
theorem LG.pull{n:Nat}{nm:Str}(G:LG D F n):LG (yP D nm) F n:={ G with O:=G.O.pull }
noncomputable def LS(cH cL cP cS cY eQ cJ cB tP:Addr)(K:PySem.W.Frag)(a:Addr)(H:Hp)(h:HAd)(w ld nl:Addr)(ns:List Str)(n:Nat):Prop:=∃ D rs cu ts F la,LB cH cL cP cS cY eQ cJ cB tP K a H h D rs cu ts F w ld nl la ns/\LG D F n
end
theorem pickS{l:List Str}{j:Nat}{v:V}(h:(l.map V.str)[j]?=some v):∃ x∈l,v=.str x:=by
 obtain⟨x,hx,rfl⟩:=dR.mp (mem_of_getElem? h);exact⟨x,hx,rfl⟩
theorem log_of{p:Int}(h0:0<=p)(h1:p<=999):p.natAbs.log2<1920:=gK (Nat.log2_le_self _) (by omega)
noncomputable def uU(a y:Str)(us:List Str):List Str:=a::c9 "boss" :: y::us.map (jK++·)
theorem jGK:good (c9 "boss")=true:=by decide +kernel
theorem jQk(ga:good a=true)(gy:∀ c∈sg y,c∈zN)(gu:∀ u∈us,good u=true):∀ p∈uU a y us,32 ∉ sg p:=fun p hp=>by
 unfold uU at hp;simp only [dX] at hp;rcases hp with rfl|rfl|rfl|hp
 ·exact jGi ga
 ·exact jGi jGK
 ·exact figs_no (by decide) _ gy
 ·obtain⟨u,hu,rfl⟩:=dR.mp hp;rw [rZ];intro z;rcases eN.mp z with z|z
  ·revert z
   decide +kernel
  ·exact jGi (gu u hu) z
theorem jPr(ga:good a=true)(gy:∀ c∈sg y,c∈zN)(gu:∀ u∈us,good u=true):Txt.split (Txt.join y4 (uU a y us)) y4=uU a y us:=by
 rw [jK9,jP1];exact jNy 32 nofun (jQk ga gy gu)
example jGL(cH cL cP cS cY eQ cJ cB tP:Addr)(K:PySem.W.Frag):∀ (a:Addr) (k:Int) (h:HAd) (w ld nl:Addr) (ns:List Str) (D:LD) (rs:List (Str×RU)) (cu:Option Str) (ts:List V) (F:Fu) (la:List LaR) (n:Nat),vs=[.ref a,.int k,.ref h.x,.ref w]->0<=k->k<=900->n<=100->LB cH cL cP cS cY eQ cJ cB tP K a H h D rs cu ts F w ld nl la ns->LG D F n->(∀ H',LS cH cL cP cS cY eQ cJ cB tP K a H' h w ld nl ns (n+1)->Q (.bl true) H')->jGL cH cL cP cS cY eQ cJ cB tP K:=0
example jMw:Dfn 9 "_law_laid" ["_law_script","_law_k","_law_hall","_law_world"] (jGL cQ yX yW yJ yV yG yQ yZ dJ K):=by
 nomatch mJ T.e T.p120,["_law_script","_law_k","_law_hall","_law_world","_law_name","_law_after","_law_j","_law_other","_law_words"]
 obtain⟨a,k,h,w',ld,nl,ns,D,rs,cu,ts,F',la,n,rfl,k0,k1,n1,B,Gn,q⟩:=h;have l11:=B.O.n;have ed:((dG Sum.inr mU la).length:Int)=(la.length:Int):=by rw [jDd]
 obtain⟨on,hnl⟩:=B.W.nm;exists _,(eE (psA (i:=4) nZ (ixA vQ (dgA hu (pv 3) kU) (jL jDA (nK jDD rfl T.aj fK (dN (dgA hu (pv 3) kU) dZ)) fY))) (eE (iK (tcA jGQ (nK jDD rfl T.aj fK (dN (dgA hu (pv 3) kU) dZ)) fY) (eI (gB o8)) iM) (eE (psA (i:=5) nZ (oQ dZ)) (eE (nY PassesOwn.never rfl (jCD rfl T.au (dN (jV (vO T) hr.m rfl (dN (pv 0) (dN (pv 1) (dN fY dZ)))) dZ)) (pgA (i:=6) nZ) (eE (psA (i:=7) nZ (ixA vQ (dgA hu (pv 3) kU) (jV (vO T) hr.m rfl (dN (pv 0) (dN (jL oV (jL oV (pv 1) fY) (pv 6)) (dN fY dZ)))))) (eI (iK (jC1 jF7 (pv 7) (pv 5) rfl) (eI (jU (qV fE PySem.F.slot_list_append PySem.F.type_list_append zD (pv 5) (dN (pv 7) dZ)))) iM)))) (eE (psA (i:=8) nZ (jL jKP (oQ (dN (pv 4) (dN kU (dN (rG jKH rfl T.bE jOu (dN (jL oV fY (jV (vO T) hr.m rfl (dN (pv 0) (dN (jL oV (pv 1) fY) (dN fY dZ))))) dZ)) dZ)))) (rX (frees:=[]) ⟨by decide +kernel,rfl,rfl,by decide +kernel,trivial,by decide +kernel,oX rfl,rfl⟩ rfl (oW (pv 5)) (fun _ _ _ _=>vT) (fun _ _ _ _=>by exact (jL jDX kU (pv 0)))))) (eE (jPW (tH hu (dgA hu (pv 3) kU) (pv 4) (pv 5) rfl)) (eI (gB (ecA qL (iX 8 gA hr.m (pv 2) (dN (qV fV pM pJ jMM kU (dN (pv 8) dZ)) dZ)) (pv 4))))))))))
 exists _,rfl,w',_,rfl,B.W.names,_,rfl,w',_,rfl,B.W.laid,ld,_,rfl,B.l;rw [ed];have nlen:=B.O.nk.len;refine⟨_,_,rfl,rfl,by decide,nl,_,_,rfl,rfl,.inl (.inr ⟨on,hnl⟩),by omega,by rw [c7,nlen];omega,fun v hv=>?_⟩;have ei:(((la.length:Nat):Int)%12).toNat=la.length:=by omega
 rw [ei,getElem?_map] at hv;obtain⟨nm,enm,rfl⟩:=dW.mp hv;have gn:=B.O.nk.good nm (mem_of_getElem? enm);have uK:¬ nm∈kys la:=by rw [B.O.k];exact jFz B.O.nk.nd enm
 exists _,rfl,w',_,rfl,B.W.laid,ld,_,rfl,B.l,_,_,rfl,rfl,_,rfl;rw [ed];by_cases c10:(10:Int)<(la.length:Int)
 ·exact rW c10 (q H ⟨D,rs,cu,ts,F',la,B,Gn.up (iF n)⟩)
 refine rY c10 ⟨small (d9 _),fun l xM=>?_⟩;generalize e9:upd H l _=H1;have s1:=nS xM e9;have hl1:H1 l=some (.lst (([]:List Str).map V.str)):=nE e9;have B1:=B.same s1;refine⟨_,rfl,_,rfl,a,_,_,rfl,B1.sc.scr,by omega,by omega,by decide,fun r r0 r1=>⟨_,rfl,by omega,by omega,?_⟩⟩;refine jDz (lo:=0) (n:=r.toNat) (fun i σ G=>eR H G/\(∃ v6 v7,σ=[some (.ref a),some (.int k),some (.ref h.x),some (.ref w'),some (.str nm),some (.ref l),v6,v7,none])/\∃ us:List Str,G l=some (.lst (us.map V.str))/\us.Nodup/\(∀ u∈us,u∈ns)/\us.length<=i) ⟨s1,⟨_,_,rfl⟩,[],hl1,gR,fun u hu=>(by cases hu),Nat.le_refl _⟩ (fun i σ G hi zz=>?_) (fun σ G zz=>?_)
 ·obtain⟨sm,⟨v6,v7,rfl⟩,us,hus,nd,sub,lus⟩:=zz;rw [qS];have Bm:=B.same sm;refine⟨_,rfl,w',_,rfl,Bm.W.names,_,rfl,_,rfl,_,_,rfl,rfl,_,rfl,_,_,rfl,rfl,a,_,_,rfl,Bm.sc.scr,by omega,by omega,by decide,fun r2 r20 r21=>?_⟩;refine⟨nl,_,_,rfl,rfl,.inl (.inr ⟨on,sm _ _ hnl⟩),r20,by rw [c7,nlen];exact r21,fun v hv=>?_⟩;obtain⟨u,hum,rfl⟩:=pickS hv;exists _,rfl,_,rfl,l,_,rfl,.inl (SqL.of hus),rfl,sS _,_,rfl;rw [if_pos rfl,xZ];by_cases cu':u∈us
  ·rw [decide_eq_true cu'];exact hV ⟨sm,⟨_,_,rfl⟩,us,hus,nd,sub,by omega⟩
  ·rw [decide_eq_false cu'];refine kL ⟨_,rfl,.inl ⟨rfl,_,SqL.of hus⟩,_,rfl,l,_,_,rfl,rfl,hus,kZ (by rw [c7];omega),tY xM sm _,⟨_,_,rfl⟩,us++[u],by rw [eO,eB];rfl,jJa nd cu',fun x hx=>?_,by rw [length_append];show us.length+1<=i+1;omega⟩;rcases eN.mp hx with z|z
   ·exact sub x z
   ·rw [mem_singleton.mp z];exact hum
 obtain⟨sm,⟨v6,v7,rfl⟩,us,hus,nd,sub,lus⟩:=zz;have lus3:us.length<=3:=by omega
 have Bm:=B.same sm;refine⟨_,rfl,_,rfl,_,rfl,_,_,rfl,rfl,a,_,_,rfl,Bm.sc.scr,by omega,by omega,by decide,fun r5 r50 r51=>⟨_,_,rfl,rfl,_,rfl,log_of (by omega) (by omega),wq3,fun p1 np1=>?_⟩⟩;generalize e9:upd G p1 _=G1;have k1':=nS np1 e9;have hp1:=nE e9;have hus1:=k1' _ _ hus;exists _,rfl,l,rfl,⟨_,SqL.of hus1⟩
 have l6:(c9 "after:").length=6:=by decide +kernel
 have gu:∀ u∈us,good u=true:=fun u hu=>B.O.nk.good u (sub u hu);refine zC (vR (K:=K) (SqL.of hus1)) (fun _=>true) (fun v=>match v with|.str u=>.str (jK++u)|v=>v) (kZ (by rw [c7];omega)) (fun x hx G3 R s3 rr=>rr) (fun x hx G3 R s3 _ rr=>?_) (fun C G2 k2' nC hC=>?_)
 ·obtain⟨u,hu2,rfl⟩:=dR.mp hx;have:=jEl (gu u hu2);exact⟨_,rfl,_,_,rfl,rfl,small (by rw [l6];omega),rr⟩
 have ec:(((us.map V.str).filter fun _=>true).map fun v=>match v with|.str u=>V.str (jK++u)|v=>v)=(us.map (jK++·)).map V.str:=by
  rw [fW.mpr fun _ _=>rfl,dU,dU];rfl
 rw [ec] at hC;refine⟨p1,C,_,_,rfl,rfl,k2' _ _ hp1,hC,small (by rw [c7,c7];show 3+us.length<=1000;omega),fun p2 np2=>?_⟩;generalize e9:upd G2 p2 _=G3;have k3':=nS np2 e9;have qZ:G3 p2=some (.lst ((uU nm (tn (1+r5)) us).map V.str)):=nE e9;have sG3:=((sm.trans k1').trans k2').trans k3';have q8:=((k1'.trans k2').trans k3') _ _ hus;have B3:=B.same sG3;have lla:la.length<=10:=by omega
 exists _,rfl,_,rfl,w',_,rfl,B3.W.laid,_,rfl,ld,_,rfl,vP jZ B3.l (by omega) nm (l,us);have eup:hJ la nm (l,us)=la++[(nm,l,us)]:=jE8 uK;rw [eup];have nll:l≠ld:=fN q8 B3.l nofun
 refine⟨l,us.map V.str,by rw [eJ nll];exact q8,fun o=>?_⟩;have k5:∀ b u,b≠ld->H b=some u->upd (upd G3 ld (.dK (dG Sum.inr mU (la++[(nm,l,us)])))) l (.frz o (.lst (us.map V.str))) b=some u:=fun b u nb e=>by
  rw [eJ (gM e xM),eJ nb];exact sG3 _ _ e
 have hd5:upd (upd G3 ld (.dK (dG Sum.inr mU (la++[(nm,l,us)])))) l (.frz o (.lst (us.map V.str))) ld=some (.dK (dG Sum.inr mU (la++[(nm,l,us)]))):=by
  rw [eJ (symm nll)];exact eO
 have vZ:upd (upd G3 ld (.dK (dG Sum.inr mU (la++[(nm,l,us)])))) l (.frz o (.lst (us.map V.str))) l=some (.frz o (.lst (us.map V.str))):=eO;have hp5:upd (upd G3 ld (.dK (dG Sum.inr mU (la++[(nm,l,us)])))) l (.frz o (.lst (us.map V.str))) p2=some (.lst ((uU nm (tn (1+r5)) us).map V.str)):=by
  have hlm:=(k1'.trans k2') _ _ hus;rw [eJ (symm (gM hlm np2)),eJ (fN qZ B3.l nofun)];exact qZ
 generalize upd (upd G3 ld _) l _=G5 at k5 hd5 vZ hp5 ⊢;have A5:=B.A.out B.l B.O.nh B.O.nf k5;have c5:oR H G5:=fun b u c e=>k5 b u (fN e B.l (c.nd _)) e;have W5:=B.W.cs c5;have ly:(tn (1+r5)).length<=3:=num_len (by omega) (by omega);obtain⟨yn,yv⟩:=jOT (n:=1+r5) (by omega) (by omega);have lw1:∀ x∈uU nm (tn (1+r5)) us,x.length<=18:=fun x hx=>by
  unfold uU at hx;simp only [dX] at hx;rcases hx with rfl|rfl|rfl|hx
  ·have:=jEl gn;omega
  ·exact eM (jEl jGK) (by decide)
  ·omega
  ·obtain⟨u,hu2,rfl⟩:=dR.mp hx;have:=jEl (gu u hu2);rw [Str.length_append,l6];omega
 have lw2:(uU nm (tn (1+r5)) us).length<=6:=by
  unfold uU;simp only [fC,c7];omega
 have lb1:y4.length=1:=by decide +kernel
 have jok:JoinOk y4 (uU nm (tn (1+r5)) us)=true:=by
  unfold JoinOk;rw [lH];exact StrLaws.joinFits (B:=18) lw1 (by rw [lb1];omega)
 have ll:(Txt.join y4 (uU nm (tn (1+r5)) us)).length<=900:=by
  have e:(Txt.join y4 (uU nm (tn (1+r5)) us)).length=((uU nm (tn (1+r5)) us).map (·.length)).sum+((uU nm (tn (1+r5)) us).length-1)*y4.length:=PySem.size_glued _ _;have:=sum_le lw1;rw [e,lb1];omega
 have hn:¬ nm∈kys D.ow:=by rw [<- B.A.kr,<- B.O.kys];exact uK
 have hbr:c9 "boss"∈kys D.ra:=by rw [Gn.ra];exact mem_singleton.mpr rfl
 obtain⟨rk,lw,sv,er,el,es,_⟩:=Gn.O.has hbr;have lrs:=B.lrs;refine⟨_,rfl,h.x,_,h.dx,_,_,_,rfl,A5.o,rfl,T.ac,(jN1 T),rfl,_,rfl,_,p2,_,rfl,rfl,SqL.of hp5,jok,h,D,rs,cu,ts,F',_,nm,c9 "boss",tn (1+r5),us,lw,rk,rfl,A5,ll,jPr gn (jP0 (by omega) (by omega)) gu,gn,jGK,yn,by rw [yv];omega,by rw [yv];omega,gu,nd,lus3,B.Z Gn (by omega),Gn.O.qo,hbr,hn,el,er,by rw [Gn.O.on];exact hn,by omega,fun t' H6 ru ej A6 f6 nt'=>?_⟩;exists _,rfl,rfl;rw [decide_eq_true rfl];have g6:∀ x o,LF h.L (wM D nm (c9 "boss") (val (tn (1+r5))*1) lw rk t') x->G5 x=some o->LF h.L D x:=fun x o z e=>by
  rcases z with z|⟨m,hm,rfl⟩
  ·exact .inl z
  ·rcases jDu hm with hm|rfl
   ·exact .inr ⟨m,hm,rfl⟩
   ·rw [show ((nm,(t',([]:List tF))):Str×Addr×List tF).2.1=t' from rfl,nt'] at e;cases e
 obtain⟨ps,tp⟩:=A5.tab.is;have c6:=f6.cs A5;have nrs:¬ nm∈kys rs:=by rw [<- B.O.kys];exact uK
 refine q H6 ⟨_,_,_,_,_,la++[(nm,l,us)],⟨A6,xQ.cs ⟨W5.w,W5.nm,fun p hp=>?_⟩ c6,f6 _ _ (fN hd5 tp nofun) B.O.nh B.O.nf (by intro C d fs z;cases z) hd5,⟨B.O.nk,?_,?_,?_,fun p hp=>?_,B.O.nh,fun z=>B.O.nf (g6 _ _ z hd5)⟩,?_⟩,Gn.lay hn⟩
 ·rcases eN.mp hp with z|z
  ·exact W5.a p z
  ·rw [mem_singleton.mp z];exact⟨o,vZ⟩
 ·have:hJ rs nm ru=rs++[(nm,ru)]:=jE8 nrs;rw [this];unfold rO;rw [eB,eB,show (la.map fun p=>(p.1,p.2.2))=rs.map fun p=>(p.1,p.2.J.af) from B.O.e];show _++[(nm,us)]=_++[(nm,ru.J.af)]
  rw [ej]
 ·rw [length_append];show kys (la++[(nm,l,us)])=ns.take (la.length+1);rw [fZ,enm,<- B.O.k];unfold kys;rw [eB];rfl
 ·rw [length_append];show la.length+1<=11;omega
 ·rcases eN.mp hp with z|z
  ·exact B.O.m p z
  ·rw [mem_singleton.mp z];exact lus3
 ·refine ScK.kp (H:=G5) (D:=D) (B.sc.kp c5 (fun xs _ _ e=>k5 _ _ (fN e B.l nofun) e) fun _ _ z _=>z) c6 (fun xs n1 n2 e=>f6 _ _ (fN e tp nofun) n2 n1 (by intro C d fs z;cases z) e) g6
noncomputable def cuL(cu:Option Str):List Str:=match cu with
 | some n=>[n]
 | none=>[]
theorem jN2{l:List Str}{n:Str}(nd:l.Nodup)(h:n∈l):l.filter (fun m=>decide (n=m))=[n]:=by
 induction l with
 | nil=>cases h
 | cons x l ih =>
   obtain⟨n1,n2⟩:=fF.mp nd;rw [gE];by_cases e:n=x
   ·subst e;rw [if_pos (decide_eq_true rfl)];refine congrArg _ (jD.mpr fun y hy z=>?_)
    grind
   grind
example jGM(cH cL cP cS cY eQ cJ cB tP:Addr)(K:PySem.W.Frag):∀ (a:Addr) (k:Int) (h:HAd) (w ld nl:Addr) (ns:List Str) (n:Nat),vs=[.ref a,.int k,.ref h.x,.ref w]->0<=k->k<=800->n<=90->LS cH cL cP cS cY eQ cJ cB tP K a H h w ld nl ns n->(∀ H',LS cH cL cP cS cY eQ cJ cB tP K a H' h w ld nl ns (n+1)->Q (.bl true) H')->jGM cH cL cP cS cY eQ cJ cB tP K:=0
example jMx:Dfn 10 "_law_deed" ["_law_script","_law_k","_law_hall","_law_world"] (jGM cQ yX yW yJ yV yG yQ yZ dJ K):=by
 nomatch mJ T.e T.p121,["_law_script","_law_k","_law_hall","_law_world","_law_way","_law_there","_law_waiting","_law_able"]
 obtain⟨a,k,h,w',ld,nl,ns,n,rfl,k0,k1,n1,⟨D,rs,cu,ts,F',la,B,Gn⟩,q⟩:=h;have hu0:=hr.units0;have l11:=B.O.n;have lrs:=B.lrs;have lqu:=B.lqu;have lkr:(kys rs).length=rs.length:=c7 _;exists _,(eE (psA (i:=4) nZ (jV (vO T) hr.m rfl (dN (pv 0) (dN (pv 1) (dN fY dZ))))) (eE (jDa (jD3 (i:=5) (frees:=[ ("_law_hall",2) ]) ⟨by decide +kernel,rfl,rfl,by decide +kernel,⟨⟨rfl,rfl,rfl,by decide +kernel⟩,trivial⟩,by decide +kernel,oX rfl,rfl⟩ nZ rfl rfl rfl (y3 (dgA hu (pv 3) kU)) (fun _ _ _ _=>by exact (vS (tcA qL (jCh (P:=P) (w:=w) (K:=K) (mg:=mg) (base:=base) ⟨rfl,rfl,rfl,rfl,rfl⟩ 4 gA hr.m (pv 1) (dN (pv 0) dZ)) kU))) (fun _ _ _ _=>by exact (pv 0)))) (eE (iK (PW.pt (wP (tcA jEG (pv 4) fY) (y6 (tcA qL (nK jDD rfl T.aj fK (dN (dgA hu (pv 3) kU) dZ)) fY)))) (eI (gB (jV (jMw T) hr.m rfl (dN (pv 0) (dN (jL oV (pv 1) fY) (dN (pv 2) (dN (pv 3) dZ))))))) iM) (eE (iK (tcA qL (pv 4) fY) (eE (jDa (jD3 (i:=6) (frees:=[ ("_law_hall",2) ]) ⟨by decide +kernel,rfl,rfl,by decide +kernel,⟨⟨rfl,rfl,rfl,by decide +kernel⟩,trivial⟩,by decide +kernel,oX rfl,rfl⟩ nZ rfl rfl rfl (y3 (dgA hu (pv 3) kU)) (fun _ _ _ _=>by exact (vS (jC1 (jFt (K:=K) rfl) (jCh (P:=P) (w:=w) (K:=K) (mg:=mg) (base:=base) ⟨rfl,rfl,rfl,rfl,rfl⟩ 4 gA hr.m (pv 1) (dN (pv 0) dZ)) (nL (dN kU (dN kU dZ))) rfl))) (fun _ _ _ _=>by exact (pv 0)))) (eE (iK (tcA (jFr hu0) (pv 6) (oQ dZ)) (eI (gB o8)) iM) (eI (gB (jCs jB4 (iX 7 gA hr.m (pv 2) (dN (ixA vQ (pv 6) (jV (vO T) hr.m rfl (dN (pv 0) (dN (jL oV (pv 1) fY) (dN (nK vW rfl T.aj fK (dN (pv 6) dZ)) dZ))))) dZ)) (nL (dN kU (dN kU dZ))) rfl))))) iM) (eE (iK (tcA (jFr hu0) (pv 5) (oQ dZ)) (eE (psA (i:=7) nZ (iX 7 gA hr.m (pv 2) (dN kU dZ))) (eI (gB (jCs jB4 (iX 8 gA hr.m (pv 2) (dN kU dZ)) (jL jKP (oQ (dN m3 dZ)) (pv 7)) rfl)))) iM) (eE (iK (tcA qL (pv 4) fY) (eI (gB (ecA qL (iX 9 gA hr.m (pv 2) (dN kU (dN fY dZ))) fY))) iM) (eI (gB (jD7 (ecA jGQ (iX 9 gA hr.m (pv 2) (dN kU (dN fY dZ))) fY) (jCT (ecA qL (iX 4 gA hr.m (pv 2) (dN (ixA jCM (pv 5) fY) dZ)) kU)))))))))))
 refine⟨_,rfl,_,rfl,a,_,_,rfl,B.sc.scr,by omega,by omega,by decide,fun r r0 r1=>?_⟩;refine⟨ld,_,B.l,fun o=>?_⟩;have cB:oR H (upd H ld (.frz o (.dK (dG Sum.inr mU la)))):=(tX B.l (eR.refl _)).2.2.2.2;exists _,rfl,w',_,rfl,(B.W.cs cB).laid,ld,o,_,rfl,eO;refine jC5 (zA eO) (pWd D rs fun z=>decide (z="prints")) (fun x y _=>y=x) (by rw [jCQ,c7,B.O.kys];exact kZ (by omega)) (fun x hx G R sG rr=>?_) (fun x hx G R sG _ rr=>⟨_,rfl,rr _ _ (eR.refl _) (jIR fun _=>rfl)⟩) (fun C G ys sG nC hC ly gy=>?_)
 ·rw [jCQ,B.O.kys] at hx;obtain⟨m,hm,rfl⟩:=dR.mp hx;obtain⟨ru,er⟩:=mO hm;have AG:=B.A.out B.l B.O.nh B.O.nf (tX B.l sG).1;refine⟨_,rfl,h.x,_,h.dx,_,_,_,rfl,AG.o,rfl,T.ac,(jBf T),_,rfl,h,D,rs,cu,none,ts,F',m,ru,rfl,AG,er,fun G1 k1=>⟨rfl,?_⟩⟩;exists _,rfl;rw [dec_str];have:=rr G1 k1;rw [jLO er] at this;exact this
 obtain⟨kf,gl,sE,nn,cs⟩:=tX B.l sG;have eys:=x9 ly gy
 rw [jCQ,B.O.kys,jJB,show (kys rs).filter (wdB D rs fun z=>decide (z="prints"))=cuL cu from (by
  have e1:(kys rs).filter (wdB D rs fun z=>decide (z="prints"))=(kys rs).filter fun m=>decide (cu=some m):=gO fun m hm=>by
   obtain⟨ru,er⟩:=mO hm;rw [jI3 er];have:=jKa (B.A.s (m,ru) (nQ er) nofun);by_cases c:cu=some m
   ·rw [decide_eq_true c,decide_eq_true (this.mpr c)]
   ·rw [decide_eq_false c,decide_eq_false fun z=>c (this.mp z)]
  rw [e1];cases cu with
  | none=>exact jD.mpr fun m _ z=>(by cases of_decide_eq_true z)
  | some m0 =>
    obtain⟨ru,er,_⟩:=B.A.c1 m0 rfl;have e2:(fun m=>decide (some m0=some m))=fun m=>decide (m0=m):=by
     funext m;by_cases c:m0=m
     ·rw [decide_eq_true c,c,decide_eq_true rfl]
     ·rw [decide_eq_false c,decide_eq_false fun z=>c (Option.some.inj z)]
    rw [e2]
    exact jN2 B.A.nd (yT er))] at eys
 rw [eys] at hC;have nCl:C≠ld:=fun z=>by rw [z,eO] at nC;cases nC
 exists gl;have hC2:upd G ld (.dK (dG Sum.inr mU la)) C=some (.lst ((cuL cu).map V.str)):=by rw [eJ nCl];exact hC
 generalize upd G ld _=H2 at sE hC2 ⊢;have B2:=B.same sE;exists _,rfl,_,_,rfl,rfl,_,rfl;have ed:((dG Sum.inr mU la).length:Int)=(la.length:Int):=by rw [jDd]
 by_cases c4:r<4
 ·exact rW c4 (kL ⟨_,rfl,_,rfl,_,_,rfl,rfl,_,rfl,_,rfl,a,k+1,h,w',ld,nl,ns,D,rs,cu,ts,F',la,n,rfl,by omega,by omega,by omega,B2,Gn,q⟩)
 refine rY c4 ⟨_,rfl,w',_,rfl,B2.W.laid,ld,_,rfl,B2.l,rfl,_,rfl,?_⟩;rw [ed];by_cases c0:(la.length:Int)=0
 ·exact rW (congrArg V.int c0) ⟨_,rfl,_,rfl,_,_,rfl,rfl,_,rfl,_,rfl,a,k+1,h,w',ld,nl,ns,D,rs,cu,ts,F',la,n,rfl,by omega,by omega,by omega,B2,Gn,q⟩
 refine rY (fun z=>c0 (by injection z)) ?_;exists _,rfl,rfl,_,rfl;by_cases cw4:r=4
 ·refine rW (congrArg V.int cw4) ?_;refine⟨ld,_,B2.l,fun o2=>?_⟩;have cB2:oR H2 (upd H2 ld (.frz o2 (.dK (dG Sum.inr mU la)))):=(tX B2.l (eR.refl _)).2.2.2.2;exists _,rfl,w',_,rfl,(B2.W.cs cB2).laid,ld,o2,_,rfl,eO;refine jC5 (zA eO) (pWd D rs fun z=>decide (z∈[c9 "waits",c9 "prints"])) (fun x y _=>y=x) (by rw [jCQ,c7,B.O.kys];exact kZ (by omega)) (fun x hx G3 R sG3 rr=>?_) (fun x hx G3 R sG3 _ rr=>⟨_,rfl,rr _ _ (eR.refl _) (jIR fun _=>rfl)⟩) (fun C3 G3 ys3 sG3 nC3 hC3 ly3 gy3=>?_)
  ·rw [jCQ,B.O.kys] at hx;obtain⟨m,hm,rfl⟩:=dR.mp hx;obtain⟨ru,er⟩:=mO hm;have AG:=B2.A.out B2.l B.O.nh B.O.nf (tX B2.l sG3).1;refine⟨_,rfl,h.x,_,h.dx,_,_,_,rfl,AG.o,rfl,T.ac,(jBf T),_,rfl,h,D,rs,cu,none,ts,F',m,ru,rfl,AG,er,fun G1 k1=>⟨small (by decide),fun tt ntt=>?_⟩⟩;exists tt,_,rfl,.inr (SqT.of eO),rfl,sS [c9 "waits",c9 "prints"];exists _,rfl;have:=rr _ (k1.trans (iS ntt (.tup [V.str "waits",V.str "prints"])));rw [jLO er] at this;rw [if_neg (by decide)];rw [show inV (V.str (qN D m ru)) [V.str "waits",V.str "prints"]=decide (qN D m ru∈[c9 "waits",c9 "prints"]) from xZ (c:=[c9 "waits",c9 "prints"])];exact this
  obtain⟨kf3,gl3,sE3,nn3,cs3⟩:=tX B2.l sG3;have eys3:=x9 ly3 gy3;rw [jCQ,B.O.kys,jJB] at eys3;rw [eys3] at hC3;have nCl3:C3≠ld:=fun z=>by rw [z,eO] at nC3;cases nC3
  exists gl3;generalize hL:(kys rs).filter (wdB D rs fun z=>decide (z∈[c9 "waits",c9 "prints"]))=L at hC3;have hC4:upd G3 ld (.dK (dG Sum.inr mU la)) C3=some (.lst (L.map V.str)):=by rw [eJ nCl3];exact hC3
  generalize upd G3 ld _=H4 at sE3 hC4 ⊢;refine⟨_,rfl,small (d9 _),fun em xN=>?_⟩;generalize e9:upd H4 em _=H5;have s5:=nS xN e9;have he5:=nE e9;have B5:=(B2.same sE3).same s5;have hC5:=s5 _ _ hC4;exists C3,em,_,_,rfl,rfl,SqL.of hC5,SqL.of he5,sS _,rfl,_,rfl;rw [if_neg (by decide)];have lL:L.length<=11:=by
   rw [<- hL];exact eM (eA _ _) (by omega)
  cases L with
  | nil=>exact kL (q H5 ⟨D,rs,cu,ts,F',la,B5,Gn.up (iF n)⟩)
  | cons m0 L =>
    refine hV ?_;refine⟨_,rfl,h.x,_,h.dx,_,_,_,rfl,B5.A.o,rfl,T.ac,(jMu T),_,rfl,_,rfl,_,rfl,_,_,rfl,rfl,_,rfl,C3,_,rfl,.inl (SqL.of hC5),a,_,_,rfl,B5.sc.scr,by omega,by omega,by rw [c7,fC];omega,fun r6 r60 r61=>?_⟩;refine⟨C3,_,_,rfl,rfl,SqL.of hC5,r60,r61,fun v hv=>?_⟩;obtain⟨m,hm,rfl⟩:=pickS hv;rw [<- hL] at hm;obtain⟨hm1,sT⟩:=iL.mp hm;obtain⟨ru,er⟩:=mO hm1;rw [jI3 er] at sT;have st:=B.A.s (m,ru) (nQ er) nofun
    have hor:m∈kys D.qu\/cu=some m:=by
     have:=of_decide_eq_true sT;simp only [dX,fU,or_false] at this;rcases this with z|z
     ·exact .inl (jH2.mp z)
     ·exact .inr ((jKa st).mp z)
    have zu:=Gn.u;have zv:=Gn.v;refine⟨h,D,rs,cu,ts,F',m,ru,rfl,B5.A,er,hor,by omega,by omega,fun H6 rs6 cu6 ts6 F6 wd A6 f6 le6 ea6 hwd=>?_⟩;refine⟨small (by decide),fun tt ntt=>?_⟩;exists tt,_,rfl,.inr (SqT.of eO),rfl,sS [c9 "broken",c9 "whole"];rw [if_neg (by decide),show inV (V.str wd) [V.str "broken",V.str "whole"]=decide (wd∈[c9 "broken",c9 "whole"]) from xZ (c:=[c9 "broken",c9 "whole"]),decide_eq_true (by simp only [dX,fU,or_false];exact hwd)];exact q _ ⟨yP D m,rs6,cu6,ts6,F6,la,(B5.hall A6 f6 (fun b o z _=>z) ea6).same (iS ntt _),(Gn.pull).le le6 (by decide)⟩
 refine rY (fun z=>cw4 (by injection z)) ?_;refine⟨_,rfl,small (d9 _),fun em xN=>?_⟩;generalize e9:upd H2 em _=H5;have s5:=nS xN e9;have he5:=nE e9;have B5:=B2.same s5;have hC5:=s5 _ _ hC2;exists C,em,_,_,rfl,rfl,SqL.of hC5,SqL.of he5,sS _,rfl,_,rfl;rw [if_neg (by decide)];have zf:=Gn.f;have zu:=Gn.u;have zv:=Gn.v;cases cu with
 | none =>
   refine kL ?_;refine⟨_,rfl,h.x,_,h.dx,_,_,_,rfl,B5.A.o,rfl,T.ac,(jHq T),h,D,rs,none,none,ts,F',rfl,B5.A,by omega,fun l H6 s6 nl6 hl6=>?_⟩;have B6:=B5.same s6;have nlh:¬ l∈oA h:=fun z=>by
    rcases B5.A.kind z with⟨k,e⟩|⟨k,e⟩
    ·rw [nl6] at e;cases e
    ·rw [nl6] at e;cases e
   have nlf:¬ LF h.L D l:=jD5 B5.A.N nl6;obtain⟨ps,tp⟩:=B6.A.tab.is;have lab:(xI D rs).length<=11:=by
    unfold xI;have h6:(kys D.qu).length=D.qu.length:=c7 _;exact eM (eA _ _) (by omega)
   have lra:D.ra.length<=1:=by
    have:=congrArg List.length Gn.ra;unfold kys at this;rw [c7] at this;exact oP this
   have fin:∀ (v:V) (H7:Hp),tJ v=true->(v=.non\/∃ m∈xI D rs,v=.str m)->H7 l=some (.lst ((xI D rs).map V.str))->(∀ H8,eR H7 H8->Q (.bl true) H8)->∀ (σ:St),σ=[some (.ref a),some (.int k),some (.ref h.x),some (.ref w'),some (.int r),some (.ref C),none,some (.ref l)]->(tOp rCat (tLst (tCons (tC V.non) tNil)) (tVar 7)) σ H7 (fun y H8=>rIn K false v y H8 Q):=fun v H7 fv hv hl7 q7 σ eσ=>by
    subst eσ;refine⟨small (by decide),fun p1 np1=>?_⟩;generalize e9:upd H7 p1 _=H8;have s8:=nS np1 e9;have hp1:=nE e9;refine⟨_,rfl,p1,l,_,_,rfl,rfl,hp1,s8 _ _ hl7,small (by rw [c7];show 1+_<=1000;omega),fun p2 np2=>?_⟩;generalize e9:upd H8 p2 _=H9;have s9:=nS np2 e9;have qZ:=nE e9;exists p2,_,rfl,.inl (SqL.of qZ),fv,?_
    ·rw [List.all_append,sS];rfl
    ·rw [if_neg (by decide)];have e:inV v ([V.non]++(xI D rs).map V.str)=true:=by
      unfold inV;rw [List.any_append];rcases hv with rfl|⟨m,hm,rfl⟩
      ·rfl
      ·have:inV (.str m) ((xI D rs).map V.str)=true:=by rw [xZ];exact decide_eq_true hm
       unfold inV at this;rw [this];exact Bool.or_true _
     rw [e];exact q7 H9 (s8.trans s9)
   refine⟨_,rfl,h.x,_,h.dx,_,_,_,rfl,B6.A.o,rfl,T.ac,(jLD T),h,D,rs,ts,F',rfl,B6.A,B6.Z Gn (by omega),Gn.O,by omega,lra,fun e0 H7 s7=>?_,fun m b r' l' c' s' H7 pR mL ts' hm eb el en A7 ea f7=>?_⟩
   ·exact fin .non H7 rfl (.inl rfl) (s7 _ _ hl6) (fun H8 s8=>q H8 ⟨D,rs,none,ts,F',la,(B6.same s7).same s8,Gn.up (iF n)⟩) _ rfl
   ·obtain⟨kn,kl,kz⟩:=jNe en;have B7:=B6.hall A7 f7 (fun x o z _=>yM kl z) ea;have G7:LG (yB D m b r' l' c' s' pR) F' (n+1):={ Gn.up (iF n) with O:=Gn.O.take (yT el) kn,ra:=Gn.ra,zm:=eM upG_len (Nat.succ_le_succ Gn.zm),zn:=kz n Gn.zn }
    exact fin (.str m) H7 rfl (.inr ⟨m,hm,rfl⟩) (f7 _ _ (fN hl6 tp nofun) nlh nlf (by intro C d fs z;cases z) hl6) (fun H8 s8=>q H8 ⟨_,_,_,_,_,la,B7.same s8,G7⟩) _ rfl
 | some m0 =>
   refine hV ?_;obtain⟨ru,er,_⟩:=B.A.c1 m0 rfl;exists _,rfl,rfl,_,rfl;by_cases cw5:r=5
   ·refine rW (congrArg V.int cw5) ?_;refine⟨_,rfl,h.x,_,h.dx,_,_,_,rfl,B5.A.o,rfl,T.ac,(jHr T),h,D,rs,m0,ru,ts,F',1,rfl,by decide,by decide,B5.A,er,by omega,by omega,by omega,fun H6 rs6 cu6 ts6 F6 k6 k60 k61 _ A6 f6 le6 ea6=>?_⟩;exists rfl;have e1:decide (V.int ((k6:Nat):Int)=V.int 1)=true:=by rw [k61 rfl];rfl
    show Q (V.bl (decide (V.int ((k6:Nat):Int)=V.int 1))) H6;rw [e1];exact q H6 ⟨D,rs6,cu6,ts6,F6,la,B5.hall A6 f6 (fun b o z _=>z) ea6,Gn.le le6 (by decide)⟩
   refine rY (fun z=>cw5 (by injection z)) ?_;refine⟨_,rfl,h.x,_,h.dx,_,_,_,rfl,B5.A.o,rfl,T.ac,(jHr T),h,D,rs,m0,ru,ts,F',99,rfl,by decide,by decide,B5.A,er,by omega,by omega,by omega,fun H6 rs6 cu6 ts6 F6 k6 k60 _ k62 A6 f6 le6 ea6=>?_⟩;have B6:=B5.hall A6 f6 (fun b o z _=>z) ea6;have nCH:H C=none:=by
    have:=nC;rw [eJ nCl] at this;exact this
   have yH:¬ C∈oA h:=fun z=>by
    rcases B.A.kind z with⟨k,e⟩|⟨k,e⟩
    ·rw [nCH] at e;cases e
    ·rw [nCH] at e;cases e
   obtain⟨ps,tp⟩:=B5.A.tab.is;have hC6:=f6 _ _ (fN hC5 tp nofun) yH (jD5 B.A.N nCH) (by intro C d fs z;cases z) hC5;have w6:=k62 rfl;have ⟨ru6,er6⟩:∃ r,gL rs6 m0=some r:=by
    cases e:gL rs6 m0 with
    | some r=>exact⟨r,rfl⟩
    | none=>unfold whN at w6;rw [e] at w6;cases w6
   rw [jGE er6] at w6;refine⟨_,_,rfl,rfl,_,rfl,rW (by omega) ?_⟩;refine⟨_,rfl,h.x,_,h.dx,_,_,_,rfl,B6.A.o,rfl,T.ac,(jBf T),_,rfl,C,_,_,_,rfl,rfl,SqL.of hC6,o9 (j:=0) rfl,h,D,rs6,cu6,none,ts6,F6,m0,ru6,rfl,B6.A,er6,fun H7 s7=>⟨rfl,?_⟩⟩;rw [dec_str,decide_eq_true ((jH3 (B6.A.s (m0,ru6) (nQ er6) nofun)).mpr w6)];exact q H7 ⟨D,rs6,cu6,ts6,F6,la,B6.same s7,Gn.le le6 (by decide)⟩
example jGN(K:PySem.W.Frag)(tP:Addr):∀ a,vs=[.ref a]->Scr K H a->tW H tP->(∀ H',Q (.bl true) H')->jGN K tP:=0
theorem jI4:jCt ["_law_script","_law_hall","_law_world","_law_j"] ["_law_script"] (rH jGX):=scM
include T in
theorem ok_law{fa:Addr}{fd:FuncData}(F:Fun K "law" "law" jGX fa fd)  :
 m8 P w K mg base CX0 11 fa fd ["_law_script"] (jGN K dJ):=by
 refine F.ok jI4 fun lC A outer s H vs Q E hr h=>?_;obtain⟨a,rfl,hS,tab,q⟩:=h;have hu:=hu_n hr 0 (by decide);have hu0:=hr.units0;exists _,(eE (psA (i:=1) jI4.nd (jDF (Dal T) hr.m rfl)) (eE (psA (i:=2) jI4.nd (jHB (jI_ (jEd kU (jK7 (jV (jLK T) hr.m rfl (dN (pv 0) (dN fY (dN fY dZ))))) (jEd kU tZ jI9)) rfl rfl (by decide) (by decide)))) (eE (jU (iX 6 gA hr.m (pv 1) (dN kU (dN (oQ (dN kU dZ)) (dN (jL oV fY (jV (vO T) hr.m rfl (dN (pv 0) (dN fY (dN fY dZ))))) (dN (jI_ (jEd kU (jL jH6 fY fY) jI9) rfl rfl (by decide) (by decide)) (dN (jL jH6 fY fY) (dN fY dZ)))))))) (eE (jU (iX 6 gA hr.m (pv 1) (dN kU (dN kU (dN (jL jH6 fY fY) dZ))))) (eE (jU (iX 5 gA hr.m (pv 1) (dN kU (dN (jL jH6 fY fY) (dN fY dZ))))) (eE (jU (iX 2 gA hr.m (pv 1) (dN kU (dN (jV (vO T) hr.m rfl (dN (pv 0) (dN fY (dN fY dZ)))) (dN (jL oV fY (jV (vO T) hr.m rfl (dN (pv 0) (dN fY (dN fY dZ))))) dZ))))) (eE (iK (tcA (op_ne_d hu0) (kT 6 gA hr.m (pv 1)) tZ) (eI (gB o8)) iM) (eE (nY PassesOwn.never rfl (jCD rfl T.au (dN (jL oV fY (jV (vO T) hr.m rfl (dN (pv 0) (dN fY (dN fY dZ))))) dZ)) (pgA (i:=3) jI4.nd) (eI (iK (PW.pt (wP (qM (mD (jV (jMx T) hr.m rfl (dN (pv 0) (dN (jL oV fY (jL jC6 fY (pv 3))) (dN (pv 1) (dN (pv 2) dZ))))) (fun _=>rfl))) (y6 (qM (mD (jV (jLP T) hr.m rfl (dN (pv 1) (dN (pv 2) dZ))) (fun _=>rfl)))))) (eI (gB o8)) iM))) (eI (gB o8))))))))))
 refine fun x dx nx ndx ne=>⟨x,dx,rfl,eO,fun h H1 eh k1 I1 fr=>⟨rfl,?_⟩⟩
 subst eh;have s1:=jB7 nx ndx k1;have frH:∀ b,(b∈h.L.ds\/b=h.rn\/b=h.pr\/b=h.pi\/b=h.bl)->H b=none:=fun b hb=>by
  cases e:H b with
  | none=>rfl
  | some o =>
    have:=fr b hb;rw [eJ (gM e nx),eJ (gM e ndx),e] at this;cases this
 refine fun mm nmm=>?_;generalize e9:upd H1 mm _=H5;have g5:=nS nmm e9;have hm:=nE e9;refine⟨_,rfl,a,50,rfl,hS.same (s1.trans g5),by decide,by decide,fun nl ns H6 g6 nnl hnl na=>⟨nl,_,rfl,hnl,fun oa=>?_⟩⟩;have g7:=tY nnl g6 (.frz oa (.lst (ns.map V.str)));have hnl7:upd H6 nl (.frz oa (.lst (ns.map V.str))) nl=some (.frz oa (.lst (ns.map V.str))):=eO;generalize upd H6 nl _=H7 at g7 hnl7 ⊢;clear g6 hnl H6;refine fun ld nld=>?_;generalize e9:upd H7 ld _=H8;have g8:=nS nld e9;have hld8:=nE e9;have hm8:=(g7.trans g8) _ _ hm;refine⟨hm8,lwD nl ld,rfl,(by show 2<=15;decide),?_⟩;rw [jDZ (ks:=[Sum.inr "names",Sum.inr "laid"]) rfl (by decide +kernel),pX];refine⟨mm,_,rfl,eO,fun ow=>?_⟩;rw [tI];have nml:ld≠mm:=symm (gM (g7 _ _ hm) nld);have sU:=tY nmm ((g5.trans g7).trans g8) (.frz ow (.dK (lwD nl ld)));have WU:xQ (upd H8 mm (.frz ow (.dK (lwD nl ld)))) mm ld nl [] ns:=⟨⟨ow,eO⟩,⟨oa,by rw [eJ (fN (g8 _ _ hnl7) hm8 nofun)];exact g8 _ _ hnl7⟩,fun p hp=>(by cases hp)⟩
 have hlU:upd H8 mm (.frz ow (.dK (lwD nl ld))) ld=some (.dK (dG Sum.inr mU [])):=by rw [eJ nml];exact hld8
 have nldH1:H1 ld=none:=(g5.trans g7).free nld;generalize upd H8 mm _=U at sU WU hlU ⊢;clear hm8 hm hnl7 hld8 g8 g7 g5 nld nml nnl nmm;have IU:=I1.same sU;refine⟨_,rfl,h.x,_,h.dx,_,_,_,rfl,IU.o,rfl,T.ac,(jGF T),wq1,fun cl ncl=>?_⟩;generalize e9:upd U cl _=H2;have s2:=nS ncl e9;have oY:=nE e9;have e9:(10:Int)^(9:Int).toNat=1000000000:=by decide
 have e6:(10:Int)^(6:Int).toNat=1000000:=by decide
 have p9:CPow 10 9:=by unfold CPow;decide +kernel
 have p6:CPow 10 6:=by unfold CPow;decide +kernel
 refine⟨_,rfl,a,1,4,rfl,hS.same ((s1.trans sU).trans s2),by decide,by decide,by decide,fun r r0 r1=>⟨_,_,rfl,rfl,fun pp npp=>⟨10,9,rfl,rfl,p9,?_⟩⟩⟩;rw [e9];refine⟨eO,[(Sum.inr "plain",.int 1000000000)],rfl,(by show 1<=15;decide),?_⟩;rw [jDZ (ks:=[Sum.inr "plain"]) rfl (by decide +kernel),tI];have s3:=iS npp (.dK ([]++[((Sum.inr "plain":Key),V.int 1000000000)]));have hpp:upd H2 pp (.dK ([]++[((Sum.inr "plain":Key),V.int 1000000000)])) pp=some (.dK (dI vG)):=eO;generalize upd H2 pp _=H3 at s3 hpp ⊢;have sU3:=s2.trans s3;have nX:=(s1.trans sU).trans sU3;exists 10,9,rfl,rfl,p9;rw [e9];refine⟨h,cl,pp,1+r,rfl,IU.same sU3,s3 _ _ oY,hpp,tab.same nX,fun A pl H4 k4 A4 P4 fr4=>?_⟩;have frL:¬ LF h.L LD0 ld:=jD5 I1.N nldH1;have uS:∀ b o,H1 b=some o->ld≠b:=fun b o e z=>by
  rw [<- z,nldH1] at e;cases e
 have cU4:oR U H4:=fun b o c e=>k4 b o (fN e IU.p (c.nd _)) (fN e IU.i (c.nd _)) (sU3 _ _ e);have hl4:H4 ld=some (.dK (dG Sum.inr mU [])):=k4 _ _ (uS _ _ I1.p) (uS _ _ I1.i) (sU3 _ _ hlU);have nh4:¬ ld∈oA { h with A:=A,pl:=pl }:=fun z=>by
  rcases fr4 ld _ z (sU3 _ _ hlU) with z|z|z|z
  ·exact uS _ _ I1.p z
  ·exact uS _ _ I1.i z
  ·exact uS _ _ I1.r z
  ·exact uS _ _ I1.b z
 have sc4:ScK K H4 a { h with A:=A,pl:=pl } LD0:=by
  obtain⟨ns,(e|⟨o,e⟩)|e,l⟩:=hS.ex
  ·have ap:a≠h.pr:=fun z=>by rw [frH a (.inr (.inr (.inl z)))] at e;cases e
   have ai:a≠h.pi:=fun z=>by rw [frH a (.inr (.inr (.inr (.inl z))))] at e;cases e
   refine⟨ns,l,.inl ⟨k4 _ _ ap ai (nX _ _ e),fun z=>?_,fun z=>?_⟩⟩
   ·rw [frH a (.inl (lf0 z))] at e;cases e
   ·rcases fr4 a _ z (nX _ _ e) with z|z|z|z
    ·exact ap z
    ·exact ai z
    ·rw [frH a (.inr (.inl z))] at e;cases e
    ·rw [frH a (.inr (.inr (.inr (.inr z))))] at e;cases e
  ·exact⟨ns,l,.inr (.inl ⟨o,cU4 _ _ jER ((s1.trans sU) _ _ e)⟩)⟩
  ·exact⟨ns,l,.inr (.inr (.inr e))⟩
 have O4:LwOk { h with A:=A,pl:=pl } LD0 [] ld [] ns:=⟨na,rfl,rfl,d9 _,fun p hp=>(by cases hp),nh4,frL⟩
 have W4:=WU.cs cU4;clear fr4 k4;generalize hh:({ h with A:=A,pl:=pl }:HAd)=h2 at A4 sc4 O4;rw [show h.x=h2.x by rw [<- hh]];have P4':j7 yW yJ yV H4 h2.A 0 0 []:=by rw [<- hh];exact P4
 have B4:LB cQ yX yW yJ yV yG yQ yZ dJ K a H4 h2 LD0 [] none [] ⟨0,0,0⟩ mm ld nl [] ns:=⟨A4,W4,hl4,O4,sc4⟩
 clear A4 W4 hl4 O4 sc4 cU4 uS frL nh4;exists _,rfl,h2.x,_,h2.dx,_,_,_,rfl,B4.A.o,rfl,T.ac,(jMs T),10,6,rfl,rfl,p6;rw [e6];refine⟨h2,LD0,[],none,[],⟨0,0,0⟩,0,0,1000000,rfl,B4.A,rfl,P4',by decide,by decide,by decide,by decide,d9 _,fun H5 A5 P5 f5=>?_⟩;have B5:=B4.hall A5 f5 (fun b o z _=>z) rfl;exists _,rfl,h2.x,_,h2.dx,_,_,_,rfl,B5.A.o,rfl,T.ac,(jMt T),10,6,rfl,rfl,p6;rw [e6];refine⟨h2,LD0,[],none,[],⟨0,0,0+1⟩,0+1000000,0,1000000,rfl,B5.A,rfl,P5,by decide,by decide,by decide,by decide,by decide,fun H6 A6 P6 f6=>?_⟩;have B6:=B5.hall (A6.fuel P6 (f:=100000) (by decide) (by decide)) f6 (fun b o z _=>z) rfl;refine⟨_,rfl,h2.x,_,h2.dx,_,_,_,rfl,B6.A.o,rfl,T.ac,(jHZ T),_,rfl,a,2,10,rfl,B6.sc.scr,by decide,by decide,by decide,fun rk rk0 rk1=>⟨_,rfl,a,3,10,rfl,B6.sc.scr,by decide,by decide,by decide,fun sh sh0 sh1=>⟨_,_,rfl,rfl,?_⟩⟩⟩;refine⟨h2,LD0,[],none,[],_,c9 "boss",rk,1+sh,rfl,B6.A,⟨d9 _,d9 _,d9 _,d9 _,d9 _,d9 _,d9 _,d9 _,fun n hn=>(by cases hn)⟩,fun z=>(by cases z),fun H7 A7 f7=>?_⟩;have B7:=B6.hall A7 f7 (fun b o z _=>z) rfl;have G7:LG (askD LD0 (c9 "boss") rk (1+sh)) { (⟨0,0,0+1+1⟩:Fu) with f:=100000 } 0:=by
  refine⟨⟨fun n hn=>(by cases hn),rfl,rfl,rfl,rfl,fun p hp=>(by cases hp),fun p hp=>?_,gR,gR⟩,rfl,d9 _,fun p hp=>(by cases hp),by decide,by decide,by decide⟩;obtain rfl:p=(c9 "boss",1+sh):=mem_singleton.mp hp;exact⟨by omega,by omega⟩
 clear B4 B5 B6 A5 A6 A7 P4' P5 P6 f5 f6 f7;refine⟨_,rfl,h2.x,_,h2.dx,_,_,_,rfl,B7.A.o,rfl,T.ac,(jEE T),h2,_,[],none,[],_,rfl,B7.A,d9 _,gR,d9 _,fun t ws Fr ds H8 s8 enm erow PF FF Tl=>?_⟩;have e0:ds=[]:=by
  have e:=Tl.k;rw [enm] at e;cases ds with
  | nil=>rfl
  | cons d ds=>cases e
 have ht:H8 t=some (.dK []):=by rw [Tl.d,e0];rfl
 refine fun em xN=>?_;generalize e9:upd H8 em _=H9;have s9:=nS xN e9;have hem:=nE e9;have B9:=(B7.same s8).same s9;exists t,em,[],[],rfl,rfl,s9 _ _ ht,hem,(fun p hp=>by cases hp),(fun p hp=>by cases hp)
 refine⟨false,rfl,hV ?_⟩;refine⟨_,rfl,a,0,30,rfl,B9.sc.scr,by decide,by decide,by decide,fun m m0 m1=>⟨_,_,rfl,rfl,_,rfl,by omega,by omega,?_⟩⟩;refine jDz (lo:=0) (n:=(6+m).toNat) (fun i σ G=>(∃ v3,σ=[some (.ref a),some (.ref h2.x),some (.ref mm),v3])/\LS cQ yX yW yJ yV yG yQ yZ dJ K a G h2 mm ld nl ns i) ⟨⟨_,rfl⟩,_,_,_,_,_,_,B9,G7⟩ (fun i σ G hi z=>?_) (fun σ G z=>?_)
 ·obtain⟨⟨v3,rfl⟩,S⟩:=z;refine⟨_,rfl,_,rfl,_,_,rfl,rfl,.inr ⟨by omega,by omega⟩,_,_,rfl,rfl,_,rfl,_,rfl,a,_,h2,mm,ld,nl,ns,i,rfl,by omega,by omega,by omega,S,fun G1 S1=>?_⟩;refine⟨true,rfl,hV ?_⟩;obtain⟨D,rs,cu,ts,F1,la,B1,G1n⟩:=S1;refine⟨_,rfl,_,rfl,h2,D,rs,cu,ts,F1,mm,ld,nl,la,ns,rfl,B1.A,B1.W,B1.l,B1.O,fun G2 s2'=>?_⟩;exact⟨true,rfl,hV ⟨⟨_,rfl⟩,D,rs,cu,ts,F1,la,B1.same s2',G1n⟩⟩
 ·exact q _
end
end My
namespace My
open PySem L2
theorem all_mk{l:PySem.W.OpenLaw}{w:World}{K:PySem.W.Frag}{h:Heap}{mg:Str->Option Value}{fa yQ yZ yX yY yV yJ yW yU yK yG cQ cZ cV dJ:Addr}(X:K.In h)(G:h.Ns dY mg)(hfa:mg "law"=some (.ref fa))(al:Al K yQ yZ yX yY yV yJ yW yU yK yG cQ cZ cV dJ)
 (qaa:lZ K dY "HallError"=some (some (.ref cV)))
 (qab:PySem.W.excMk K cV=true)
 (qac:PySem.W.mroHas K cZ (.ref cV)=true)
 (xcn:jN K (.builtin "object.__class__") "__get__"=some (some (.builtin "getset_descriptor.__get__")))
 (xct:tN K (.builtin "object.__class__")=some true)
 (xb1:jN K (.ref cV) "__getattribute__"=some (some (.builtin "type.__getattribute__")))
 (xb2:tQ K cV (.type "type")=true)
 (xb3:uC K (.ref cV) (.type "type") "__init__"=some (.val (.builtin "ValueError.__init__")))
 (xkt:jOD K [cZ] cV=true)
 (qad:GsP K "LETTERS" (c9 "abcdefghijklmnopqrstuvwxyz"))
 (qae:GsP K "FIGURES" (c9 "0123456789"))
 (qaf:GiP K "NAME_MOST" (12))
 (qag:GiP K "NUMBER_MOST" (9))
 (gUP:GsP K "UP" (c9 "up:"))
 (qah:GiP K "UP_LEAST" (2))
 (qai:GiP K "UP_MOST" (16))
 (qaj:GiP K "PAGES_MOST" (999))
 (qak:GiP K "COPIES_MOST" (99))
 (qal:GiP K "HEAD" (3))
 (qam:GsP K "COPIES" (c9 "x"))
 (qan:GsP K "COLOUR_jobs" (c9 "colour:"))
 (qao:GsP K "PAPER" (c9 "paper:"))
 (qap:GsP K "COVER" (c9 "cover:"))
 (qaq:GsP K "AFTER" (c9 "after:"))
 (qar:GsP K "STAPLE" (c9 "staple"))
 (qas:GsP K "LAYOUT" (c9 "layout"))
 (qat:GiP K "ONE_COPY" (1))
 (qau:GsP K "ONE_LAYOUT" (c9 "one"))
 (qav:GsP K "PLAIN" (c9 "plain"))
 (qaw:GsP K "LOAD" (c9 "load"))
 (qax:GsP K "INK" (c9 "ink"))
 (qay:GsP K "FEED" (c9 "feed"))
 (qaz:GsP K "OUT" (c9 "out"))
 (qaA:GiP K "COMMON" (2520))
 (qaB:GsP K "UNABLE" (c9 "unable"))
 (qaC:GsP K "OWN" (c9 "own"))
 (qaD:GsP K "RANK" (c9 "rank"))
 (qaE:GsP K "SHARE" (c9 "share"))
 (qaF:GsP K "READY" (c9 "ready"))
 (qaG:GsP K "BLACK" (c9 "black"))
 (qaH:GsP K "COLOUR_printers" (c9 "colour"))
 (qaI:GiP K "SLIP" (-1))
 (qaJ:GiP K "NOTHING" (0))
 (qaK:GiP K "FIRST_PAGE" (1))
 (qaL:GiP K "COVER_SHEET" (0))
 (qaM:GsP K "WAITS" (c9 "waits"))
 (qaN:GsP K "PRINTS" (c9 "prints"))
 (qaO:GsP K "WHOLE" (c9 "whole"))
 (qaP:GsP K "BROKEN" (c9 "broken"))
 (qaQ:lZ K dY "len"=some none)
 (qaR:lZ K dY "range"=some none)
 (qaS:lZ K dY "enumerate"=some none)
 (qaT:lZ K dY "str"=some none)
 (qaU:lZ K dY "int"=some none)
 (qaV:lZ K dY "tuple"=some none)
 (qaW:lZ K dY "list"=some none)
 (qaX:lZ K dY "isinstance"=some none)
 (qaY:lZ K dY "all"=some none)
 (qaZ:lZ K dY "min"=some none)
 (qa0:lZ K dY "max"=some none)
 (qa1:lZ K dY "dict"=some none)
 (qa2:lZ K dY "any"=some none)
 (qa3:lZ K dY "ValueError"=some none)
 : ∃ fd:FuncData,(∀ (s:Shared) (v:Value),BindsTo s fd ⟨[v],[]⟩ [("_law_script",v)])/\(∃ c,j0 K c dJ=true)/\∀ base:Heap,K.In base->base.Ns dY mg->yS base mg->m8 l.prog w K mg base CX0 11 fa fd ["_law_script"] (jGN K dJ):=by
 obtain⟨f,fd,a,F⟩:=al.p122.x;have e:=hfa.symm.trans (eY X G a);cases e;obtain⟨_,_,cL_first_of,_,_,_,hc_first_of⟩:=al.p22.x;obtain⟨oc,od,kV,pC,pm,an,lC,ct,uJ,rfl,lk,pA⟩:=id F.ex;refine⟨uO "law" "law" (jCN jGX) (wR jGX) (rH jGX) .none kV pC pm an lC ct,fun s v=>.of_eq rfl,⟨cL_first_of,hc_first_of⟩,fun base _ _ BM=>?_⟩;have T:Txt K mg base yQ yZ yX yY yV yJ yW yU yK yG cQ cZ cV dJ:=⟨al,gJ X G qaQ,gJ X G qaR,gJ X G qaS,gJ X G qaT,gJ X G qaU,gJ X G qaV,gJ X G qaW,gJ X G qaX,gJ X G qaY,gJ X G qaZ,gJ X G qa0,gJ X G qa1,gJ X G qa2,gJ X G qa3,(let ⟨t,e⟩:=qad;⟨⟨t,eY X G e⟩⟩),(let ⟨t,e⟩:=qae;⟨⟨t,eY X G e⟩⟩),(let ⟨t,e⟩:=qaf;⟨⟨t,eY X G e⟩⟩),(let ⟨t,e⟩:=qag;⟨⟨t,eY X G e⟩⟩),(let ⟨t,e⟩:=gUP;⟨⟨t,eY X G e⟩⟩),(let ⟨t,e⟩:=qah;⟨⟨t,eY X G e⟩⟩),(let ⟨t,e⟩:=qai;⟨⟨t,eY X G e⟩⟩),(let ⟨t,e⟩:=qaj;⟨⟨t,eY X G e⟩⟩),(let ⟨t,e⟩:=qak;⟨⟨t,eY X G e⟩⟩),(let ⟨t,e⟩:=qal;⟨⟨t,eY X G e⟩⟩),(let ⟨t,e⟩:=qam;⟨⟨t,eY X G e⟩⟩),(let ⟨t,e⟩:=qan;⟨⟨t,eY X G e⟩⟩),(let ⟨t,e⟩:=qao;⟨⟨t,eY X G e⟩⟩),(let ⟨t,e⟩:=qap;⟨⟨t,eY X G e⟩⟩),(let ⟨t,e⟩:=qaq;⟨⟨t,eY X G e⟩⟩),(let ⟨t,e⟩:=qar;⟨⟨t,eY X G e⟩⟩),(let ⟨t,e⟩:=qas;⟨⟨t,eY X G e⟩⟩),(let ⟨t,e⟩:=qat;⟨⟨t,eY X G e⟩⟩),(let ⟨t,e⟩:=qau;⟨⟨t,eY X G e⟩⟩),(let ⟨t,e⟩:=qav;⟨⟨t,eY X G e⟩⟩),(let ⟨t,e⟩:=qaw;⟨⟨t,eY X G e⟩⟩),(let ⟨t,e⟩:=qax;⟨⟨t,eY X G e⟩⟩),(let ⟨t,e⟩:=qay;⟨⟨t,eY X G e⟩⟩),(let ⟨t,e⟩:=qaz;⟨⟨t,eY X G e⟩⟩),(let ⟨t,e⟩:=qaA;⟨⟨t,eY X G e⟩⟩),(let ⟨t,e⟩:=qaB;⟨⟨t,eY X G e⟩⟩),(let ⟨t,e⟩:=qaC;⟨⟨t,eY X G e⟩⟩),(let ⟨t,e⟩:=qaD;⟨⟨t,eY X G e⟩⟩),(let ⟨t,e⟩:=qaE;⟨⟨t,eY X G e⟩⟩),(let ⟨t,e⟩:=qaF;⟨⟨t,eY X G e⟩⟩),(let ⟨t,e⟩:=qaG;⟨⟨t,eY X G e⟩⟩),(let ⟨t,e⟩:=qaH;⟨⟨t,eY X G e⟩⟩),(let ⟨t,e⟩:=qaI;⟨⟨t,eY X G e⟩⟩),(let ⟨t,e⟩:=qaJ;⟨⟨t,eY X G e⟩⟩),(let ⟨t,e⟩:=qaK;⟨⟨t,eY X G e⟩⟩),(let ⟨t,e⟩:=qaL;⟨⟨t,eY X G e⟩⟩),(let ⟨t,e⟩:=qaM;⟨⟨t,eY X G e⟩⟩),(let ⟨t,e⟩:=qaN;⟨⟨t,eY X G e⟩⟩),(let ⟨t,e⟩:=qaO;⟨⟨t,eY X G e⟩⟩),(let ⟨t,e⟩:=qaP;⟨⟨t,eY X G e⟩⟩),al.kc0.c,eY X G al.kc0.a,al.kc0.n 0 rfl,al.kc0.n 1 rfl,al.kc0.n 2 rfl,al.kc0.n 3 rfl,al.kc0.n 4 rfl,al.kc0.n 5 rfl,al.kc0.n 6 rfl,al.kc0.n 7 rfl,al.kc0.n 8 rfl,al.kc0.n 9 rfl,al.kc1.c,eY X G al.kc1.a,al.kc1.n 0 rfl,al.kc2.c,eY X G al.kc2.a,al.kc2.n 0 rfl,al.kc2.n 1 rfl,al.kc2.n 2 rfl,al.kc2.n 3 rfl,al.kc2.n 4 rfl,al.kc2.n 5 rfl,al.kc2.n 6 rfl,al.kc2.n 7 rfl,al.kc3.c,eY X G al.kc3.a,al.kc3.n 0 rfl,al.kc4.c,eY X G al.kc4.a,al.kc4.n 0 rfl,al.kc5.c,eY X G al.kc5.a,al.kc5.n 0 rfl,al.kc5.n 1 rfl,al.kc6.c,eY X G al.kc6.a,al.kc6.n 0 rfl,al.kc6.n 1 rfl,al.kc6.n 2 rfl,al.kc6.n 3 rfl,al.kc6.n 4 rfl,al.kc6.n 5 rfl,al.kc6.n 6 rfl,al.kc6.n 7 rfl,al.kc7.c,eY X G al.kc7.a,al.kc7.n 0 rfl,al.kc7.n 1 rfl,al.kc8.c,eY X G al.kc8.a,al.kc8.n 0 rfl,al.kc8.n 1 rfl,al.kc9.c,eY X G al.kc9.a,al.kc9.n 0 rfl,al.kc9.n 1 rfl,al.kc9.n 2 rfl,al.kc9.n 3 rfl,al.kc9.n 4 rfl,al.kc9.n 5 rfl,al.kc10.c,eY X G al.kc10.a,al.kc10.n 0 rfl,al.kc10.n 1 rfl,al.kc10.n 2 rfl,al.kc10.n 3 rfl,al.kc10.n 4 rfl,qab,qac,XCl.of al.kc11.x al.kc11.m xcn xct,eY X G al.kc11.a,⟨xb1,xb2,xb3⟩,eY X G qaa,xkt,⟨_,X,G⟩,BM⟩
 exact ok_law T F
theorem walk{l:PySem.W.OpenLaw}{q:Program}{rT:List Str}{XP:(Str->Option Value)->Heap->Prop}{YP:World->Heap->Prop}{d:DefRec}{K:Params->PySem.W.Frag}{dJ:Addr}(hn:l.most=some 63)(hdf:d.params.defaults=[])
 (hY:∀ (w:World) (h:Heap),YP w h->(K w.params).In h) (hT:∀ (w:World) (h:Heap),YP w h->h.get? dJ=some (oH #[])) (hKt:∀ (w:World),(K w.params).lookup dJ=none)
 (F:∀ (w:World) (mg:Str->Option Value) (fa:Addr) (h:Heap),(K w.params).In h->h.Ns dY mg->mg d.name=some (.ref fa) ->
  ∃ fd:FuncData,(∀ (s:Shared) (u:Value),BindsTo s fd ⟨[u],[]⟩ [("_law_script",u)])/\(∃ c,j0 (K w.params) c dJ=true)/\∀ base:Heap,(K w.params).In base->base.Ns dY mg->yS base mg->m8 l.prog w (K w.params) mg base CX0 11 fa fd ["_law_script"] (jGN (K w.params) dJ)) :
 PySem.W.WalkO q rT XP YP l.row.toRowW d [] (fun f vs=>PySem.call f vs) :=
 L2.walk_of1 (n:=63) (k:=11) (x:="_law_script") (tP:=dJ) (CX:=fun _=>CX0) (sp:=fun w=>jGN (K w.params) dJ) hn (by decide) hdf ⟨rfl,by decide,by decide⟩ hY hT hKt F (fun _ _ a ns hl hP hS=>⟨a,rfl,⟨⟨ns,hS,hl⟩⟩,.inl hP,fun _=>rfl⟩) fun _ _ _ _ _ z=>z
end My
open PySem PySem.W PyProof.Rows
set_option maxRecDepth 100000 in
set_option maxHeartbeats 0 in
theorem PySem.Challenge.cw_spoolhall_k76_never_holds : PySem.Challenge.rw_spoolhall_k76_never.Holds := by
 refine hdK.2 ?_;delta hdK;dsimp only
 k_fill
 refine My.walk (l:=PySem.Challenge.rw_spoolhall_k76_never) rfl rfl (fun w h Y=>My.hs_in Y) (fun w h Y=>My.hs_tabs Y _ (List.mem_singleton.mpr rfl)) (fun w=>by kernel_rfl) ?F
 case F =>
  intro w mg fa h KX G hmg
  refine' My.all_mk KX G hmg (My.Al.mk ?kc0 ?kc1 ?kc2 ?kc3 ?kc4 ?kc5 ?kc6 ?kc7 ?kc8 ?kc9 ?kc10 ?kc11 ?p0 ?p1 ?p2 ?p3 ?p4 ?p5 ?p6 ?p7 ?p8 ?p9 ?p10 ?p11 ?p12 ?p13 ?p14 ?p15 ?p16 ?p17 ?p18 ?p19 ?p20 ?p21 ?p22 ?p23 ?p24 ?p25 ?p26 ?p27 ?p28 ?p29 ?p30 ?p31 ?p32 ?p33 ?p34 ?p35 ?p36 ?p37 ?p38 ?p39 ?p40 ?p41 ?p42 ?p43 ?p44 ?p45 ?p46 ?p47 ?p48 ?p49 ?p50 ?p51 ?p52 ?p53 ?p54 ?p55 ?p56 ?p57 ?p58 ?p59 ?p60 ?p61 ?p62 ?p63 ?p64 ?p65 ?p66 ?p67 ?p68 ?p69 ?p70 ?p71 ?p72 ?p73 ?p74 ?p75 ?p76 ?p77 ?p78 ?p79 ?p80 ?p81 ?p82 ?p83 ?p84 ?p85 ?p86 ?p87 ?p88 ?p89 ?p90 ?p91 ?p92 ?p93 ?p94 ?p95 ?p96 ?p97 ?p98 ?p99 ?p100 ?p101 ?p102 ?p103 ?p104 ?p105 ?p106 ?p107 ?p108 ?p109 ?p110 ?p111 ?p112 ?p113 ?p114 ?p115 ?p116 ?p117 ?p118 ?p119 ?p120 ?p121 ?p122) ?qaa ?qab ?qac ?xcn ?xct ?xb1 ?xb2 ?xb3 ?xkt ?qad ?qae ?qaf ?qag ?gUP ?qah ?qai ?qaj ?qak ?qal ?qam ?qan ?qao ?qap ?qaq ?qar ?qas ?qat ?qau ?qav ?qaw ?qax ?qay ?qaz ?qaA ?qaB ?qaC ?qaD ?qaE ?qaF ?qaG ?qaH ?qaI ?qaJ ?qaK ?qaL ?qaM ?qaN ?qaO ?qaP ?qaQ ?qaR ?qaS ?qaT ?qaU ?qaV ?qaW ?qaX ?qaY ?qaZ ?qa0 ?qa1 ?qa2 ?qa3
  (case kc0|kc1|kc2|kc3|kc4|kc5|kc6|kc7|kc8|kc9|kc10=>(refine' My.CP.of ?a ?b;(case a=>k_is);(case b=>kernel_rfl)))
  (case kc11=>(refine' My.XP.of ?a ?x ?m ?k;(case a=>k_is);(case x|m=>kernel_rfl);(case k=>k_is)))
  (case p0=>(refine' My.MP.of ?a ?i ?l ?c ?k;(case a|i|l|c|k=>k_is)))
  (case p1|p2|p3|p4|p5|p6=>(refine' My.GP.of ?a ?l ?c ?k;(case a|l|c|k=>k_is)))
  (case p7=>(refine' My.MP.of ?a ?i ?l ?c ?k;(case a|i|l|c|k=>k_is)))
  (case p8|p9|p10|p11|p12|p13|p14|p15|p16|p17=>(refine' My.GP.of ?a ?l ?c ?k;(case a|l|c|k=>k_is)))
  (case p18|p19=>(refine' My.MP.of ?a ?i ?l ?c ?k;(case a|i|l|c|k=>k_is)))
  (case p20|p21=>(refine' My.GP.of ?a ?l ?c ?k;(case a|l|c|k=>k_is)))
  (case p22=>(refine' My.GL.of ?a ?l ?c ?k ?h;(case a|l|c|k=>k_is);(case h=>kernel_rfl)))
  (case p23=>(refine' My.GP.of ?a ?l ?c ?k;(case a|l|c|k=>k_is)))
  (case p24|p25|p26|p27|p28|p29|p30|p31|p32|p33|p34|p35|p36|p37|p38|p39=>(refine' My.MP.of ?a ?i ?l ?c ?k;(case a|i|l|c|k=>k_is)))
  (case p40=>(refine' My.IP.of ?a ?b ?d ?l ?c ?k;(case a|b|d|l|c|k=>k_is)))
  (case p41|p42|p43|p44|p45|p46|p47|p48|p49|p50|p51|p52|p53|p54|p55|p56|p57|p58|p59|p60=>(refine' My.MP.of ?a ?i ?l ?c ?k;(case a|i|l|c|k=>k_is)))
  (case p61=>(refine' My.GP.of ?a ?l ?c ?k;(case a|l|c|k=>k_is)))
  (case p62=>(refine' My.IP.of ?a ?b ?d ?l ?c ?k;(case a|b|d|l|c|k=>k_is)))
  (case p63|p64|p65|p66=>(refine' My.MP.of ?a ?i ?l ?c ?k;(case a|i|l|c|k=>k_is)))
  (case p67|p68|p69|p70|p71=>(refine' My.GP.of ?a ?l ?c ?k;(case a|l|c|k=>k_is)))
  (case p72|p73|p74|p75|p76|p77|p78|p79|p80|p81|p82|p83|p84|p85|p86|p87=>(refine' My.MP.of ?a ?i ?l ?c ?k;(case a|i|l|c|k=>k_is)))
  (case p88|p89|p90|p91=>(refine' My.GP.of ?a ?l ?c ?k;(case a|l|c|k=>k_is)))
  (case p92|p93|p94|p95|p96|p97|p98|p99|p100|p101|p102|p103|p104|p105|p106|p107|p108|p109|p110|p111|p112|p113=>(refine' My.MP.of ?a ?i ?l ?c ?k;(case a|i|l|c|k=>k_is)))
  (case p114|p115|p116|p117|p118|p119|p120|p121|p122=>(refine' My.GP.of ?a ?l ?c ?k;(case a|l|c|k=>k_is)))
  (case qaa=>k_is)
  (case qab|qac=>kernel_rfl)
  (case xcn|xct|xb1|xb2|xb3=>k_is)
  (case xkt=>kernel_rfl)
  (case qad|qae=>(refine' My.GsP.of ?a ?b;(case a=>k_is);(case b=>first|rfl|decide +kernel)))
  (case qaf|qag=>(refine' My.GiP.of ?a ?b;(case a=>k_is);(case b=>rfl)))
  (case gUP=>(refine' My.GsP.of ?a ?b;(case a=>k_is);(case b=>first|rfl|decide +kernel)))
  (case qah|qai|qaj|qak|qal=>(refine' My.GiP.of ?a ?b;(case a=>k_is);(case b=>rfl)))
  (case qam|qan|qao|qap|qaq|qar|qas=>(refine' My.GsP.of ?a ?b;(case a=>k_is);(case b=>first|rfl|decide +kernel)))
  (case qat=>(refine' My.GiP.of ?a ?b;(case a=>k_is);(case b=>rfl)))
  (case qau|qav|qaw|qax|qay|qaz=>(refine' My.GsP.of ?a ?b;(case a=>k_is);(case b=>first|rfl|decide +kernel)))
  (case qaA=>(refine' My.GiP.of ?a ?b;(case a=>k_is);(case b=>rfl)))
  (case qaB|qaC|qaD|qaE|qaF|qaG|qaH=>(refine' My.GsP.of ?a ?b;(case a=>k_is);(case b=>first|rfl|decide +kernel)))
  (case qaI|qaJ|qaK|qaL=>(refine' My.GiP.of ?a ?b;(case a=>k_is);(case b=>rfl)))
  (case qaM|qaN|qaO|qaP=>(refine' My.GsP.of ?a ?b;(case a=>k_is);(case b=>first|rfl|decide +kernel)))
  (case qaQ|qaR|qaS|qaT|qaU|qaV|qaW|qaX|qaY|qaZ|qa0|qa1|qa2|qa3=>k_is)
#print axioms PySem.Challenge.cw_spoolhall_k76_never_holds
